import PyProof.Rows.All
import Wide.All
import KE.KItem
import KE.RegKTryMore
import KE.RegKIsAll
import KE.KNestM
import KE.KTopLam
import Wide.FinOn
import Lean
import PyProof.EqAt
import PyProof.EqKinds
import PyProof.TupleCall
import PyProof.ZipIter
import PyProof.NeKinds
import PySem.Challenge.RW_mixposts_k93_whole_plans_that_stand_fall
import PyProof.ExcBaseAll.ValueError
import PyProof.ExcInit
import PyProof.ExcClass2
import PyProof.InstStoreFacts
import KE.KDictList
import PyProof.StrWalks
import PyProof.ConsumeWalk
import PyProof.EnumFor
import PyProof.EnumStmt
import PyProof.StrLawsIdx
import PyProof.SliceStr2
import PyProof.MeetsStr
import PyProof.FactsAll.str_5
import PyProof.StrBlockL
import PyProof.StrLawsTight
import PyProof.FitsReplace
import PyProof.Rows.StrItems
import KE.KIntText
import KE.KDictOf
import PyProof.AttrMissHeap
import KE.KDictSum
import PyProof.Rows.SortWalk
import PyProof.FactsAll.zip
import PyProof.SetKind
import PyProof.SetNew
import PyProof.SetRoads
import PyProof.CollectWalk
import PyProof.Rows.TupIn
import PyProof.DictStraight
import PyProof.Rows.SetFrom
import PyProof.WalkLemmas
import KE.KListMore
import PyProof.SeqI3
import KE.KTryMore
import KE.KEqDict
import PyProof.DictItems
import KE.KPairComp
import PyProof.ExcAttrAll.ValueError
set_option Elab.async false
set_option linter.all false
set_option maxRecDepth 100000
set_option maxHeartbeats 0
set_option autoImplicit true
set_option compiler.extract_closed false
set_option genSizeOf false
section
open Lean in
local macro_rules|`(command|lay_quick x)=>do
 let t:=`topOfIt
 let ns:=(List.range 1109).map (λi=>t.str s!"o_{i+43}")++[49,90,105,120,135,150,165,180,195,210,225,247,269,291,332,346,404,440,476,698,707,772,848,925,983,1035,1111].map (λi:Nat=>t.str s!"sts_{i}")++[t.str "heap_39",t.str "heap_46",t.str "heap_1152",t.str "view_39",`PySem.Challenge.pw_mixposts_k93_whole_plans_that_stand_fall]
 return mkNullNode (←ns.toArray.mapM λn=>do return (←`(command|theorem $(mkIdent (.str `PySem.W.Fast s!"tw{n.hash}")):ident:True:=trivial)).raw)
lay_quick x
open PySem PySem.W PyProof.Rows
set_option maxHeartbeats 0
open_top topOfIt for PySem.Challenge.rw_mixposts_k93_whole_plans_that_stand_fall
end
theorem ß.x (h:True:=by first|exact .inl rfl|exact .inr rfl|assumption):True:=h
abbrev ß:=ß.x._auto_1
theorem ö.x (h:True:=by decide):True:=h
abbrev ö:=ö.x._auto_1
theorem Ā.x (h:True:=by intro _;rfl):True:=h
abbrev Ā:=Ā.x._auto_1
theorem ā.x (h:True:=by rfl):True:=h
abbrev ā:=ā.x._auto_1
theorem Ă.x (h:True:=by with_unfolding_all rfl):True:=h
abbrev Ă:=Ă.x._auto_1
theorem ă.x (h:True:=by first|exact Or.inl rfl|exact Or.inr (Or.inl rfl)|exact Or.inr (Or.inr rfl)):True:=h
abbrev ă:=ă.x._auto_1
theorem Ą.x (h:True:=by assumption):True:=h
abbrev Ą:=Ą.x._auto_1
theorem ą.x (h:True:=by decide +kernel):True:=h
abbrev ą:=ą.x._auto_1
theorem Ć.x (h:True:=by first|exact Or.inl rfl|exact Or.inr rfl):True:=h
abbrev Ć:=Ć.x._auto_1
theorem ć.x (h:True:=by kernel_rfl):True:=h
abbrev ć:=ć.x._auto_1
theorem Ĉ.x (h:True:=by exact λ_ _=>rfl):True:=h
abbrev Ĉ:=Ĉ.x._auto_1
theorem ĉ.x (h:True:=by exact a2z _):True:=h
abbrev ĉ:=ĉ.x._auto_1
theorem Ċ.x (h:True:=by intro _ _ _ _ h;first|(cases h;subst_vars;rfl;done)|repeat first|(obtain⟨rfl,_⟩:=h;rfl;done)|obtain⟨_,h⟩:=h):True:=h
abbrev Ċ:=Ċ.x._auto_1
theorem ċ.x (h:True:=by intro _ _;rfl):True:=h
abbrev ċ:=ċ.x._auto_1
theorem Č.x (h:True:=by size_fits):True:=h
abbrev Č:=Č.x._auto_1
theorem č.x (h:True:=by exact Nz):True:=h
abbrev č:=č.x._auto_1
theorem Ď.x (h:True:=by intro _ _ h;cases h <;> rfl):True:=h
abbrev Ď:=Ď.x._auto_1
theorem ď.x (h:True:=by intro _ _ _ _ _ _ us hl;first|exact a0g us hl λ_=>rfl|exact a3r us hl λ_ _=>rfl|exact C8 us hl λ_ _ _=>rfl|exact Aj us hl λ_ _ _ _=>rfl|exact Ai us hl λ_ _ _ _ _=>rfl|exact a8C us hl λ_ _ _ _ _ _=>rfl):True:=h
abbrev ď:=ď.x._auto_1
open Lean Parser Tactic in
local macro_rules|`(mutual $cs* end)=>do
 let R:=[Syntax.rewriteBottomUp].getLast!
 let C:=(R (·.setInfo .none) (mkNullNode cs)).getArgs
 let f:=C[0]![1]
 if !f.isOfKind ``Command.example then Macro.throwUnsupported
 let N:=Syntax.node .none
 let J:=λ(a:Array Syntax)=>N `null (mkSepArray a (mkAtom ","))
 let T:=f[2][1][1][0][0].getSepArgs
 let p:=λu:Syntax=>if u.isIdent then N ``rcasesPat.one #[u] else if u.isOfKind ``Term.hole then u.setKind ``rcasesPat.ignore else if u.isOfKind ``Term.anonymousCtor then N ``rcasesPat.tuple #[u[0],J (u[1].getSepArgs.map λv=>N ``rcasesPatLo #[N ``rcasesPatMed #[mkNullNode #[v]],mkNullNode]),u[2]] else u
 let O:=λq e=>N ``obtain #[mkAtom "let",mkNullNode #[N ``rcasesPatMed #[mkNullNode #[R p q]]],mkNullNode,mkNullNode #[mkAtom ":=",mkNullNode #[e]]]
 let B:=λ(t:Array Syntax) b=>N ``Term.byTactic #[mkAtom "by",N ``tacticSeq #[N ``tacticSeq1Indented #[mkNullNode (mkSepArray (T.extract 0 1++t++(T.extract 1).push (N ``refine #[mkAtom "refine",b])) mkNullNode)]]]
 let F:=λ(M:NameMap Syntax)(s:Syntax)=>
  let k:=s.getKind
  if s.isIdent then(M.find? s.getId).getD s else
  if k==``Term.explicitBinder then
   if s[2].isNone&&s[3].isNone then(M.find? (.str s[1][0].getId "b")).getD s else
   if s[3][0].isOfKind ``Term.binderDefault then(s.setArg 3 mkNullNode).setArg 2 (mkNullNode #[s[2][0],N ``Term.app #[mkIdent `autoParam,mkNullNode #[s[2][1],s[3][0][1]]]]) else s else
  if k==`term!_ then N ``Term.app #[mkIdent `some,mkNullNode #[s[1]]] else
  if k==``Parser.Tactic.show&&!s[1].isOfKind ``Term.paren then
   let s:=s.setKind ``refine
   let a:=s[1]
   match a[0].isNatLit? with
   |some j=>
    let c:=a[1][0]
    let e:=c[1].getSepArgs
    let r:=e.extract j
    s.setArg 1 (N ``Term.app #[mkIdent (.str `El s!"i{j}"),mkNullNode ((e.extract 0 j).push (if r.size==1 then r[0]! else c.setArg 1 (J r)))])
   |_=>s
  else
  let X:=λ_:Unit=>s[1].getSepArgs.flatMap λx=>match if x.isIdent then M.find? (.str x.getId "b") else none with|some b=>if b[2][1].isOfKind `«term[_]» then b[2][1][1].getSepArgs else #[x]|_=>#[x]
  if k==`«term[_]» then s.setArg 1 (J (X ())) else
  if k==`«term#[_,]» then
   let e:=X ()
   if e.isEmpty then f[1][1][0][1] else N ``Term.anonymousCtor #[s[0],J (e.flatMap λx=>match x.isNatLit? with|some n=>.replicate n (mkIdent `rfl)|_=>#[x]),s[2]] else
  if k==``tacticLet__ then
   let q:=s[2][0]
   if q[0].isOfKind ``Term.anonymousCtor then O q[0] q[4] else s.setKind ``tacticHave__ else
  if k==``Term.let&&s[2][0][0].isOfKind ``Term.anonymousCtor then B #[O s[2][0][0] s[2][0][4]] s[4] else
  if k==``Term.fun&&s[0].isToken "λ" then
   let b:=s[1]
   let(x,t):=b[0].getArgs.foldl (λ(x,t) a=>if a.isOfKind ``Term.anonymousCtor then let z:=mkIdent (.mkSimple s!"ĥ{x.size}");(x.push z,t.push (O a z)) else(x.push (if a.isOfKind ``Term.hole then mkIdent `ĥ else a),t)) (#[],#[])
   s.setArg 1 ((b.setArg 0 (mkNullNode x)).setArg 3 (if t.isEmpty then b[3] else B t b[3])) else
  if k==``tacticSeq1Indented then
   let(o,_):=(s[0].getSepArgs.push .missing).foldl (λ(o,r,n,w) t=>
    if t.isOfKind ``obtain&&t[0].isToken "let" then(o,r.push t,r.size+1,w+t[1][0][0][0][1].getNumArgs)
    else if n>0&&(t.isOfKind ``tacticHave__||(t.getArgs.back?.getD t)[0].isOfKind ``location&&!t.isOfKind ``generalize) then(o,r.push t,n,w)
    else((o++if w<4 then r else T[0:1].toArray++r[0:n].toArray++T[1:].toArray++r[n:].toArray).push t,#[],0,0)) (#[],#[],0,0)
   s.setArg 0 (mkNullNode (mkSepArray o.pop mkNullNode)) else
  if k==``Command.universe then N ``Command.end #[s[0],if s[1][0].getId==`e then mkNullNode else mkNullNode #[s[1][0],mkNullNode]] else
  if k==``Command.declaration then
   let x:=s[1];let t:=x[2]
   if x.isOfKind ``Command.definition then s.setArg 1 (N ``Command.theorem #[x[0],x[1],N ``Command.declSig #[t[0],t[1][0]],x[3]]) else
   let b:=x.isOfKind ``Command.theorem
   let s:=if b then s.setArg 1 (N ``Command.definition #[x[0],x[1],N ``Command.optDeclSig #[t[0],mkNullNode #[t[1]]],x[3],mkNullNode]) else s
   if b||x.isOfKind ``Command.abbrev then s.setArg 0 (s[0].setArg 4 (mkNullNode #[N ``Command.noncomputable #[mkAtom "noncomputable"]])) else s
  else s
 let M:=f[1][0].getArgs.foldl (λM t=>let s:=R (F M) t;let n:=t[1][0].getId;if s.isOfKind ``Term.explicitBinder then M.insert (.str n "b") s else M.insert n s[2][1]) {}
 return R (F M) (mkNullNode (C.extract 1))
set_option tactic.hygienic false
mutual
example(w:World)(i:Nat)(t:ql (ps++N).length ps.length r R)(x:Str)(a:W.nsIn K mainGlobals x=some (some (.ref f)))(b:∀ (f:Addr)(JE:Value)(A:Ë)(outer:List Env)(s:Ê)(H:Hp)(E:XK),JW B.base k (A.deeper (envOfC ğ (aa st) s.heap.objs.size f JE))->(ps++N).Nodup->Pn (dZ Ld B.P B.w B.K B.mg B.base (ps++N) ğ (aa st) f JE A outer s H E).RO (ax st) r)(r:V->List V->Hp->VK->Prop)(H:Hp)(o:Obj)(h:autoParam (X.K=K) ā)(h':DR H d' v')(d:Addr)(f:Str)(k:∀ i x ε,xs[i]?=some x->I i ε->∃ ε1,q (u x) ε ε1/\∃ ε2,rb ε1 (.nx ε2)/\I (i+1) ε2)(ho:L4 X (compareOp op) r)(ht:∀ cells C s H fp,NI (aE X scope N' cells C s H fp) ifs tt)(e:gR H H')(hp:PassesOwn (model X.prog X.w) X.A X.env X.xe)(u:Value)(ok:∀ f fd,KD Bx.K x ğ st f fd->PH Ld k f fd ps sp)(mu:i4 (H x))(he:autoParam (starEach (e::es) X.env=(false,eval e X.env)::starEach es X.env) ā)(Zx:∃ u,h'.get? e=some u)(q:∀ x H',gR H H'->DR (grow F H H') d x->Q x H')(n:Nat)(hx:v6 X.env.scope x)(hn:Bx.base.err=none)(ea:Addr)(A:List Ask)(it:Addr)(c:W.codeIn K JE ğ=true)(ha:PE X a (tP ra))(hd:autoParam ((x==("__debug__":Str))=false) ö)(hz:kP s.heap z TI TO T b)(hh:Ca A s.heap it)(hl:ri (ε.map Sl.z) (xs.map u))(hQ:∀ h',Heap.ExtBut it s.heap h'->Q none { s with heap:=h' })(l:K.lookup f=some ⟨oc,od,.func (W.fnOf "__init__" ğ (aU st) (ax st) (aa st) .none kV doc pm an JE ct),Lm⟩)(sc:Scope)(m:Nat)(I:Inv X ñ σ H s)(hc:X.calm=true)(Tv:∀ b∈ch,(b∈X.ex\/X.s₀.heap.objs.size<=b)/\b≠X.env.locals/\(∀ x c,X.env.cells.lookup x=some c->c≠b)/\∀ p∈X.pn++ñ,p.1≠b)(slot:Slot T name id)(JM:MS X.prog X.w H' h')(hg:∀ cells C s H fp,PG (aE X scope N' cells C s H fp) tg g)(h1:s.heap.IsListIter i1 l1 k1)(h2:∀ xs,u≠.tup xs)(hN:X.N.Nodup)(hs:autoParam (∀ x,foldedSetIterable iter X.env x=pure x) Ā)(hi:∀ s:Ê,OK s.heap->S≠s.heap.objs.size->∃ (oI:Obj)(St:Nat->Heap->Prop)(fp:υ),S∉fp/\(∀ (E:ρ)(Q:ρ),Q (.ref s.heap.objs.size) { s with heap:=s.heap.push oI }->wpAny (model prog w) A.in1 (pyIter (.ref r)) Q E s)/\Walks prog w A.in1 s.heap.objs.size fp [s.heap.objs.size] n P St/\St 0 (s.heap.push oI))(hf:autoParam (X.fn x=true\/X.env.scope.names.lookup x=some .local) ß)(X:Cx)(ñ:ζ)(σ:St)(Q:VK)(s':Ê)(us:θ)(D:ZipApart z TI TO i1 i2 l1 l2)(st:Stmt)(v:V)(hv:PE X value tv)(Qq:autoParam ((x==("__classdict__":Str))=false) ö)(hm:autoParam (behindInMarks op b=false) ĉ)(hb:∀ (T:Addr)(t:Tok)(kV doc pm:Value)(an:ψ)(JE ct:Value)(us:θ),us.length=ps.length->∃ kk,bindArgs (W.fnOf x ğ (aU st) (ax st) (aa st) (.ref T) kV doc pm an JE ct) ⟨us,[]⟩=seqItems? (.ref T) >>= kk/\kk (some [.int 0 t].toArray)=pure (ps.zip us))(ta:TE)(K:Ψ)(xs:List α)(E:d8 ts nm)(te:TE)(ts:List (T ν))(QG:autoParam (starEach (e::es) X.env=(false,eval e X.env)::starEach es X.env) ā)(g:NJ H a y o)(hw:w<m)(R:List LT)(lo:(d==sysModules)=false)(QH:autoParam (starEach [e2] X.env=[(false,eval e2 X.env)]) ā)(Pv:Nat->Υ)(h0:Pv 0 σ H)(C:Addr)(ry:wF y u)(rx:wF x v)(hr:JW X.base k X.A)(outer:List Env)(P:É)(s:gR F H)(F:K6 X.prog X.w X.K X.mg X.base CX k f fd ps sp)(sp:Sp)(ps:η)(hk:X.env.scope.names.lookup n=some .local)(NB:autoParam ((x==("__debug__":Str))=false) ö)(LW:autoParam ((backTo pos (starEach es X.env)).any (·.1)=false) ā)(M:Mk X.K C f)(N:Kt c H n dp dt S)(mg:Ω)(base:zL)(scope:Scope)(S:Ss F0 H0 F σ H ε)(len:∀ vs H Q E,sp vs H Q E->vs.length=ps.length)(hu:X.A.units+1<cLine)(fx:dY x=true)(T:wU Bx.K Bx.mg C)(pa:PlainAttrs T)(VA:typeOf (.builtin id)=pure (.type "method_descriptor"))(Li:autoParam (attributeBase o name X.env (eval o X.env)=eval o X.env) ā)(Mp:autoParam ((apos.endLine==Kg.line)=true) ā)(PB:autoParam ((backTo Kg (starEach es X.env)).any (·.1)=false) ā)(hdf:d.params.defaults=[])(hY:∀ (w:World)(h:Heap),YP w h->(K w.params).In h)(j:Nat)(SM:er=none)(nT:Nat)(js:À)(fin:∀ ε,I xs.length ε->r2 ε f)(hsw:autoParam (swapsWith (.ListComp elt [⟨tg,iter,ifs,0⟩] scope pos) (some (.Name x pos')) Ug.line X.env=pure true) ā)(hK:autoParam (X.K=K) ā)(p1:p<=1000000)(p2:ķ.map (·.1)=ð.map (·.1))(Rn:A.frames=some (env::outer))(Q9:JT s.heap e od)(UM:base.StaysIn s.heap)(VI:base.get? e=none)(hfl:Heap.FlyingW base (env::outer) e cls a0 s.heap)(hB2:B.StaysIn h2)(O:Cl.Ok Bx.K c)(W:WN S h ord R)(hC:s.heap.get? C=some (excClassObj nm q C N bs tl hd sn sub ab col dd k0 k1 k2 k3 k5 newId))(hI:mN "__init__"=some (.ref fI))(hfc:oI.cls=.type "function")(Tu:ox.cls=.ref C)(OM:ox.data=.fields vs)(G:Nb p m ç ê ord)(cls:Value)(dx:Addr)(ķ:List (κ×V))(Vk:List (TE×TE))(Oq:keys.all (·.isSome)=true)(h15:keys.length<=15)(ed:o.data=.dict es ep)(p:Int)(ř:List bf)(bk:Int->Int)(RB:ps.length<=1000)(hP:My.LV p=true)(Dd:Dm X.prog X.w X.K X.mg X.base k C m ps (Pr R))(hJ:SV F1 J l)(hT:s.heap.get? T=some oT)(UJ:(ë:η).contains name=false)(knd:KeyKind prog w κ)(k':U8 o' ķ)(J:Obj->Addr->It)(p3:JS F1 (ð.map (·.2)) (ķ.map (·.2)))(fz:Fz X H1 H2 a o ķ)(RY:IsPair s.heap TI (.ref i1) (.ref i2))(P1:s.heap.IsList l1 xs)(Rk:s.heap.IsList l2 ys)(Z:ZS s.heap z TI TO i1 i2 l1 l2 d k)(nd:WZ ts)(bs:List (Str×η))(JA:KJ 1 C "fit" ä (Pr (Pe C)))(K0:KJ 2 C "times" å (Pr (oH C)))(Lr:Kn 2 "ones" ["many"] (Pr b1s))(Mc:∀ C,ji c C->KJ 1 C "reads" Ý (Pr (iC (decide (C=c.NA)))))(Md:∀ C,ji c C->KJ 1 C "hears" Ý (Pr (iC (not (decide (C=c.house))))))(JJ:KJ 1 c.Kq "check_there" Ü (Pr (cJ c)))(JB:KJ 1 c.Kq "ties" Ý (Pr (jP c)))(Kj:KJ 2 c.Kq "home" Ý (Pr (wr c)))(La:KJ 2 c.Kq "into" Ü (Pr (rE c NS.into)))(L':Kn 1 "is_whole" ü (Pr b3l))(msg:Ξ)(fo:Λ)(KI:Kn 3 "row_sum" ø (Pr (i5 C)))(JY:Kn 1 "by_number" ["told"] (Pr b9Y))(ms:List KL)(Kk:U4 2 "Field" C í (df C))(JZ:Kn 3 "mixing_ties" ["net"] (Pr (jQ c ord)))(Mt:Kn 1 "column" ["table","place"] (Pr jR))(Jw:KJ 2 c.Kq "listeners" Ý (Pr (b7 c)))(U:Int->Bool)(L:Rv nl S R)(way:Ξ)(ê:List K7)(ç:Θ)(ord:List Mk.KL)(KG:KJ 4 CE "shown" à (Pr (oJ C CE)))(L8:Kn 4 "ways" â (Pr (Ms c)))(ch:Ξ)(nums:Ξ)(Ko:Kn 2 "choices" ÿ (Pr (cI c)))(JG:KJ 2 c.Kq "check_new_name" Ü (Pr (bH c)))(Kb:KJ 3 c.Kq "put_in" ú (dq c))(kj:∀ a b,kf a=kf b->a=b)(M':h∈S.names)(hO:∀ ks∈ç,QY S (some ks) N/\∀ g∈S.JO,∃ w,aV (aI S.Jy (some ks)) (some h) g N m=.inr w)(Kv:((ç.length * S.JO.length:Nat):Int)<=p)(zH:("h":Str)∉S.JO)(TD:Bx.mg "dict"=none)(Ki:Kn 1 "message_ties" ["many"] (Pr b0p))(pz:S.JD.length<=20)(col:Int->Ξ)(Nx:Kn 1 "_law_into" þ (Pr a8F))(JV:Kn 5 "ways_by_choice" è (Pr (cf c)))(m1:m<=100)(Wv:(pl.map (·.1)).Nodup)(kc:W.keepIn K (.ref C)=true)(cl:Nr Bx.K C)(aC:W.nsIn Bx.K mainGlobals x=some (some (.ref C))){đ:(model X.prog X.w)}{Ē:(model prog w)}{ē:(λ_ _ _ _ _=>pC 0)}{Ĕ:(A.deeper (envOfC ğ (aa st) s.heap.objs.size f JE))}{ĕ:(aE X scope N' cells C s H fp)}{Ė:(by simp)}{ė:(gR.refl _)}{Ę:(W.fnOf x ğ (aU st) (ax st) (aa st) .none kV doc pm an JE ct)}{ę:(.Call (.Name x p) (e::es) [] pos)}{Ě:(λ_ _ _ _ _=>bY Bx.K rfl<|af (pC 0) (af (pC 1) aF))}{ě:(S.Jy.map (·.1))}{Ĝ:(.Call (.Attribute o m apos) [] [] pos)}{ĝ:(.Attribute o m apos)}{Ğ:(W.fnOf x ğ (aU st) (ax st) (aa st) (.ref T) kV doc pm an JE ct)}{Ġ:(∀ σ' H',N σ' H'->∃ m',m'<m/\W (i+1) m' σ' H')}{ġ:(backToKw pos (keywordEach [] X.env))}{Ģ:(ts.filter λt=>U t.1)}{ģ:(if pl.isEmpty then List.replicate 6 Value.none else pl)}{Ĥ:(·.setIfInBounds 1 (Value.ref h₁.objs.size))}{Ħ:(S.K5.map (·.1))}{ħ:(by simp_all)}{Ĩ:(ř.getD a [])}{ĩ:(hQ _ λb o hb x=>hk b o<|(Gj ..).extBut b o hb x)}{Ī:(keywordEach [] X.env)}{ī:(aE X scope N' cells C s3 (upd H2 l<|.lst []) fp)}{Ĭ:(ε.map Sl.a)}{ĭ:(λ_ _ _ _ _=>bY Bx.K rfl<|af (pC 0) (af (pC 1)<|af (pC 2) (af (pC 3) aF)))}{Į:(upd H2 l<|.lst [])}{į:(by simpa using hl)}{İ:(λz=>nomatch z)}{Ĵ:(Mx.joined t)}{ĵ:(.inl rfl)}{Ķ:(ķ.map (·.2))}{ĸ:(he ñ s σ H _ I h)}{Ĺ:(λ_ z=>nomatch z)}{ĺ:(dZ (Q0 P w) P w K mg base N ğ (aa st) f JE A outer s H E)}{Ļ:(.type "list")}{ļ:(e1.trans e2)}{Ľ:(Kh hr (Đ 0) bO)}{ľ:(s.heap.objs.size+1)}{Ł:(q1<|qA (aw<|OS Bx.K Ff Fn Fm aB (pv 6) (a9 (Kh hr (Đ 8) dI) Jx)) (λ_ _ _ h=>h))}{ł:(.bl (not (decide (as=bs))))}{Ń:(ř.getD i [])}{ń:(λb o hb e=>(sb.2 b hb).trans e)}{Ņ:(grow F H G)}{ņ:(λxs H Q=>(∃ p ķ,xs=[.ref p]/\Rd H p (.dK ķ)/\LC H (.dK (b6 [] ķ)) Q)\/∃ p ķ,xs=[.ref p]/\b97 H p ķ/\ķ.length<=1000/\LC H (.dK (b6 [] ķ)) Q)}{Ň:(.ref s.heap.objs.size)}{ň:(pyNext (.ref it))}{Ŋ:(EP X ñ σ Q)}{ŋ:(ha ñ s σ H _ I h)}{Ō:(false,eval e X.env)}{ō:(qs 8 ND<|dF L8 hr.m rfl (da (Đ 0)<|da (Đ 7) (da (Đ 1)<|da (Đ 5) JC)))}{Ŏ:(grow F H H')}{ŏ:(ð.map (·.2))}{Ő:(ķ.map λkv=>kV kv.1)}{ő:(getMethod ov m pl)}{Œ:(.Tuple elts x1 MP)}{œ:(by decide)}{Ŕ:(λb o OO=>(other b λq=>by rw[q,Zr]at OO;cases OO).trans<|UM b o OO)}{ŕ:(ns.map V.int)}{Ŗ:(da (Đ 0) JC)}{ŗ:(P.getD i [])}{Ř:(P.getD w [])}{Ś:(aI S.Jy<|some ks)}{ś:(.ref it)}{Ŝ:(λw hw=>b07 rx fx r fs w<|by simpa using hw)}{ŝ:(if ([]:List Keyword).isEmpty then 0 else 1)}{Ş:(rF (Ms c)<|rA (rO Sub (rV 0)<|rC (.str "net")) (rA (rV 7)<|rA (rO Sub (rV 0)<|rC (.str "many")) (rA (rF ZJ<|rA (rV 6) OH) OH)))}{ş:((ç.take i).map<|aN S N m)}{Š:(B.getD i [])}{š:(.bl (decide (as=bs)))}{Ţ:(.bl true)}{ţ:(da (Đ 2) JC)}{Ť:(Kh hr (Đ 0) dI)}{ť:(bG (bq S) S.names.length)}{Ŧ:(λ_ _ _ _ _=>Đ 0)}{ŧ:(JH S ns)}{Ũ:(.builtin "object.__setattr__")}{ũ:(λb o hb e=>eb b o hb e)}{Ū:(.Compare a [op] [b] pos)}{ū:(s3.heap.push { cls:=.type "dict",data:=.dict [].toArray })}{Ŭ:(λE σ H=>∃ F0 H0,tQ F0 H0 rb E σ H)}{ŭ:(.dK (b6 [] ķ))}{Ů:(eL ts (Ly U) N h)}{ů:(σ2.set i none)}{Ű:(ha pos ñ s σ H _ I h)}{ű:(starEach (e::es) X.env)}{Ų:((.inl k:Dx),D.bl true)}{ų:(Mk.stN p m ç ê ord i)}{Ŵ:(model P w)}{ŵ:(e1.trans<|e2.trans e3)}{Ŷ:(∀ vs,o.data≠.fields vs)}{ŷ:(env::outer)}{Ÿ:(.Name x pos)}{Ź:(Mk.lk R k)}{ź:(dZ CX P w K mg base N ğ scope f JE A outer s H E)}{Ż:(List.zipWith (λm t=>(m - c * t % p) % p) r lead)}{ż:(ar<|Đ 0)}{Ž:(da (Đ 1) JC)}{ž:(cX (ts.filter λt=>Ui t.1) g N h)}{EQ:(aP (ag S) pl)}{a90:(false,eval e1 X.env)}{a7v:(λxs H Q=>(∃ i,xs=[.int i]/\Q (.int i) H)\/∃ k,xs=[.bl k]/\Q (.int (if k then 1 else 0)) H)}{Fr:(λ_ _ _ _ _=>Kh hr (Đ 1)<|Đ 0)}{FB:((ord.take n).map (·.1))}{FM:(a * u - b * v)}{FS:(JI p m ê T x)}{Go:(ps.zip us)}{GE:(start N vs)}{GM:(aw<|OS Bx.K Ff Fn Fm aB (pv 4) (a9 (Đ 6) Jx))}{GT:(ç.getD JP.1 [])}{Id:(vG Bx.K (pv 0) rfl)}{a2c:(λr s'=>r=.ok (.ret (.bool true))/\OldK s₁.heap s'.heap/\s'.os=s₁.os/\AllBare s'.gens)}{b4W:(λxs H Q=>∃ (p:Addr)(bs:Ð),xs=[.ref p]/\JU K H p (bs.map V.bl)/\Q (.bl (bs.all id)) H)}{IR:(.For tg iter ss [] pos)}{b37:(λxs H Q=>∃ (p:Addr)(bs:Ð),xs=[.ref p]/\JU K H p (bs.map V.bl)/\Q (.bl (bs.any id)) H)}{KF:(.BoolOp .And (a::b::rest) pos)}{KK:(dT bc cv (Kh hr (Đ 8) dI) bO)}{KM:(by decide +kernel)}{No:(λz=>decide (z=x))}{NE:(.Assign [.Name x pos'] e pos)}{On:(.type "dict")}{Op:(.builtin "len")}{Os:((.inl r.1:Dx),rw r.2)}{P3:(da (Đ 7) JC)}{Pi:(λ_ _ _ _ _=>Kh hr (Đ 0) dI)}{Ps:(λH' b' N'=>q2 H' ((Ry.of e1).trans b') N')}{PP:(.bl false)}{Re:(k _ _ _ q)}{Sc:(.bl (not (decide (a∈as))))}{a3v:(λxs H Q=>∃ p ys,xs=[.ref p]/\(JU K H p ys\/M0 K H p ys)/\Q (.int ys.length) H)}{SC:(by simpa using h)}{SL:(ε.set i (.fz d))}{ST:(ar<|Đ 1)}{SZ:(y / 1009+69621+i)}{T0:(.BoolOp .And (b::rest) pos)}{Tl:(.Assign [.Attribute o f pos'] value pos)}{Ty:(o * a+if k=h then 1 else 0)}{TW:(Qj<|gR.refl _)}{Uf:(.type "int")}{UF:(List.take m)}{UV:(ways.take w)}{W1:(B.getD j [])}{b1R:(Z2 ha hb I h λv u s2 x y H2 I2 rx ry q=>ho ñ s2 σ H2 x y v u Q I2 rx ry q)}{a9n:(false,eval e2 X.env)}{b9e:(λxs H Q=>∃ p ys,xs=[.ref p]/\(JU K H p ys\/M0 K H p ys)/\LC H (.lst ys) Q)}{XL:(λq=>decide (q.1=y))}{XV:(envOfC ğ scope s.heap.objs.size f cd)}{Yp:(eval e X.env)}{ZB:(.Attribute e f pos)}{pi:#[CN,CP,CH,CL]}{uV:(.ListComp elt [#[tg,iter,ifs,(0)]] scope pos)}{uZ:(∀ b o,s.heap.get? b=!o->h'.get? b=!o)}{ku:(.dK ķ)}{xI:(.ref f)}{pV:#[2,by show#[0]]}{sO:(aA c S)}{a0B:[none,some<|.int x,some<|aA c S,some<|bn R,some<|aK nl,some<|.int p,some<|.int (m:Int),some<|.int (k1:Int),some<|bI sO R nl m p,some<|tb chs,some<|.int (S.JO.length * chs.length:Int),some<|aG pl,none,none]}{oV:[none,none,none,none,none,some<|.int (i:Int),none,some<|.int (kn % 2)]}{xV:(.ref a)}{Di:#[2,.t rfl]}{a4B:(hv ñ s σ H _ I h)}{ue:(K2 a4B fun u s1 ⟨y,H1,I1,ry,q⟩=>K2 (ha ñ s1 σ H1 _ I1 q) λov s2 J'=>?_)}{lK:(top 35)}{sQ:(e::es)}{C3:(aJ hr)}{zX:(d7 S n)}{a1h:[some<|aA c S,some<|.int m,some<|.int p,some<|.int n,some<|fD C p,some<|tb zX,some<|Q6 ((d7 S n).map<|aN S N m),some<|.int (S.JO.length * (d7 S n).length:Int)]}{a1s:[some<|bn R,some<|aK ord,some<|aG pl,some<|.int m,some<|.int p,some<|rw fs,some<|aG b,some<|.str x,some<|.int r.1,some<|.str r.2.1,some<|.str r.2.2,Mz.a,LU.a,LS.a]}{oF:[head,.ref L,.none,rawInt L,.none]}{yc:#[1,.l .lst]}{AM:#[#[],#[]]}{D0:#[.inl AM]}{wc:#[1,I.turned ũ f0 f1 f3 f4 f5]}{xF:(aI S.Jy !ks)}{a1z:#[#[oc,od,.ref T,kV,doc,pm,an,JE,ct,Lm,1,l,c],kp]}{z5:(λvs H Q E J'=>(by let#[_,_,_,_,hl,hR,_]:=J';cases hR;show hl.length))}{yP:(Hq #[o,ho,hc] b4s ?_)}{nK:#[#[2],by simp,1]}{Ax:(.ref C)}{a1L:#[ok.mod,ok.kind,ok.glob,ok.blt,ok.above,ok.inj,ok.has,ok.cab,ok.hd,ok.frames,ok.So,ok.exf,ok.bs,ok.U5,ok.QD,ok.TJ,ok.NU,ok.UR]}{CZ:(λJE A outer s H vs Q E hr h=>?_)}{Ba:#[_,Fp _ rfl,2]}{Ck:(.builtin "type.__call__" #[.ref C::us,kw])}{Bo:(aa st)}{A3:(pv 0)}{BZ:[kV kv.1,kv.2]}{sM:(λv (kv:Dx×V)=>∃ t,v=.ref t/\H' t=!.tup BZ)}{vF:#[by decide,by decide]}{Eh:[s1.heap.objs.size]}{a3h:#[2,by decide,#[hl]]}{tZ:#[a3h,.l .lst]}{a18:#[bv (u:=bN) (λt=>decide _) tZ hl λt _=>#[_,#[2],eq_str rfl rfl,λ_=>rfl],Ql _ _]}{vP:(l.map some++js.map λj=>(ε[j]?).join)}{vc:(.nx ε2)}{j5:(.ref t)}{a2g:(∀ a t H2,gR H1 H2->H1 a=none->H1 t=none->H2 a=!.lst []->H2 t=!.tup [kV (kf x),.ref a]->Q j5 H2)}{oZ:(F6 ?_)}{a2k:[!v0,!.int (m:Int),!.ref fa,!.ref lc,!vx,!.ref rb,!.ref ad,!.ref pd,!.int k,!mv,!mx,Mz,LU,LS,Uo,Um]}{b6q:#[I1.LR,?_]}{A6:(K2 Ű fun us s1 ⟨vs,H1,I1,r,q⟩=>b6q)}{a2o:(λfin s'=>match fin with|.done f=>R (.ok f) s'|.again c'=>c'.quiet=true/\codeAny Ē A c' R s')}{lC:(.ref e)}{xu:(.int i)}{vC:(λi v=>(es[i]?).map (·.key)=!v)}{rG:#[#[2],LD.m]}{Al:(bt S (!h) N m ç)}{XS:(F8 _)}{z7:[.int r.1,.str r.2.1,.str r.2.2]}{a2E:(X.env.scope.kind==.class || (X.env.scope.kind==.module&&X.env.locals != X.env.globals))}{AI:#[#[1,by simp,1]]}{a2P:(K2 Ű λus s1 J'=>(by let#[vs,H1,I1,r1,q1]:=J';show hc ñ s1 σ H1 vs us Q I1 r1 q1))}{a2U:#[ok,I.os,I.bare,I.base,I.loc,I.cell,I.free,I.KP,λp hp=>I.pin p<|FJ _ hp,I.JM,I.len]}{a2W:[some<|xO CE R B,some<|fD C p,some<|.int i,some<|.int k,none,none,none,some<|.int j]}{kY:[.ref p]}{sC:(.nx ε')}{Bq:(by first|show Or.inl rfl|show Or.inr rfl)}{uM:#[.int _,H,I.tok _,#[_,1],q]}{XQ:(cU I hg hm ?_ NB)}{iU:(pv 1)}{sA:(K2 ĸ λu s1 J'=>?_)}{zu:(ax st)}{DF:(Mu rs)}{a28:(λvs H Q E J'=>(by let#[_,l,C,_,hl,hR,_]:=J';rw[hl.length,(t l C hR).1]))}{a29:[none,none,none,some<|aK nl,none,none,none,none,none,some<|rw (ff cell 3)]}{h9:(Gm ho hd rfl ?_)}{BK:[.Tuple [.Name x px,.Name y py] kt pt]}{Ji:[e1,e2]}{tF:(.Call (.Name "zip" p) Ji [] pos)}{gb:(ag S)}{Bn:(.Subscript a b pos)}{j0:(.inl (by rw[e];show λz=>nomatch z))}{a3g:(∀ c o,c≠z->c≠TO->c≠i1->c≠i2->s.heap.get? c=!o->h'.get? c=!o)}{a3i:(q1<|qA (aw<|OS Bx.K Ff Fn Fm aB (pv 3) (a9 (Đ 7) Jx)) (λ_ _ _ h=>h))}{a3j:(iD (match dE ts (!q.1) g N m [] with|.inl ks=>.inl ks|.inr U=>.inr _))}{a3k:#[x1,x2,x3,λb o hb N3=>x4 b o ((other b<|Kp b o hb N3).trans hb) N3]}{NK:(da (Đ 3) JC)}{qE:(found.take i)}{a3n:(qS (pS 5 ND<|dF Ko hr.m rfl (da (Đ 0)<|da (Đ 3) JC)) λ_ _ _ h=>h)}{CG:[.ref a]}{jp:(starEach [] X.env)}{Ez:(by simpa using h1)}{wK:(tP rb)}{z8:(tP re)}{EB:[.int z.1,.int z.2]}{wP:(Mx.Jz m j)}{EF:(Mk.JI p m ê Tm r)}{a3w:(.Attribute o name apos)}{a3x:(hl.of_keeps λb o hb N3=>#[o,(other b<|Kp b o hb N3).trans hb,1])}{mr:(xs.map u)}{ug:(qr<|Đ 3)}{Xs:(ord.take i)}{DJ:(i∈ks)}{a3B:(.bl (if n=true then not (decide DJ) else decide DJ))}{a3C:(Builtin.«object.__getattribute__» #[[.ref a,.str name u],[]])}{a3D:(∀ (s:Ê)(v:Value),BindsTo s fd #[[v],[]] [("_law_script",v)])}{yf:(.ok (.ret .none))}{oC:(.type "BaseException")}{a3G:((I.caN hc).imp id λJ'=>(by let#[ea,a,_,b]:=J';show#[ea,a,b]))}{sV:(Od rt)}{Ec:(ε.map Sl.z)}{MU:(λ_ _=>True)}{XH:(List.map rw _)}{XM:(S.JD.map λp=>(.inr p.1,gA c p))}{pf:(ar<|eI (Đ 0) JB hr.m)}{wJ:(pv 2)}{a3O:[some<|tb ç,some<|rw nums,some<|tb b,some<|rw ch,some<|.int n]}{zo:(grow F H<|upd G3 pd o)}{a3R:(EN<|EN (wpAny_loadPart hx<|EN ((looks_clsIn X hc2).here ?_)))}{a3S:(I.type.here<|EN ((looks_findIn X ha).here<|EN (L3.here ?_)))}{vN:#[.bl _,H,I,1,?_]}{DW:(λ_ _ _ _ _=>b3J)}{uN:#[#[3],by simp,1]}{uB:#[us,[]]}{tG:[.ref d]}{cT:(scaled p r k)}{XI:(i,ways)}{a31:(qS (pS 4 ND<|AF Kk hr.m rfl (da (Đ 2) JC)) λ_ _ _ h=>h)}{Cw:(Wg r ta tb)}{tH:(jn wi nT js g tt te)}{xj:(Q0 P w)}{a34:(dZ xj P w K mg base N ğ scope f cd A outer s H E)}{DS:(kv.1=k)}{A9:(ķ.any λkv=>decide DS)}{vS:(λh=>hb<|by simp[h])}{mI:(λ_ _ _ h=>#[_,_,h])}{nA:(pN 5 ND)}{Eu:(pN 6 ND)}{jb:(y,!(t.1,x))}{ua:(stN p m ç ê ord n)}{zB:(lR ch)}{wZ:(λb ch=>nums.foldl zB b)}{wD:(yY Bx.K (pv 12) rfl)}{a4e:(W.fnOf name ğ params body scope dV kV doc pm an JE ct)}{a4f:#[.int ys.length,H,I.tok _,#[s.toks+1,by rw[GN,hlen]],q]}{a4i:[("numbers",.lst ys),("name",.str z),("fallen",.lst xs)]}{a4j:[some<|.int c,some<|.int m,some<|rw l,some<|.int x,o4.a]}{qH:(.builtin "object.__class__")}{Da:(Ke p ř ps m u)}{a4u:(∀ σ',σ'.length=σ.length->Sd F σ' H ε'->Q σ' H)}{a4v:(Paired.imp' (fun v kv ⟨t',e',Qp⟩=>#[t',e',?_]) UH)}{kx:[aA c S,.int m,.int p,.int n]}{om:(pG S p pl m ch)}{a4A:(λx y H Q=>y=.non/\Q (.bl (not (decide (x=.non)))) H)}{yG:(ho ñ s σ H _ I h)}{jw:(Kh hr (Đ 1)<|Đ 0)}{XO:(pv 3)}{vK:(QO p m ç ê ord c)}{a4L:(bY Bx.K (n:=2) rfl<|af (pN 12 ND) (af (pN 13 ND) aF))}{xi:(grow F H H1)}{mH:(top 39)}{CS:#[#[1,by decide,#[2],#[hx]]]}{Y':(o * T.2.getD i 0+s b a.2.2)}{zf:(0,none)}{xJ:((T.P.getD e []).getD w0 [])}{Dv:(Mk.JF found)}{C0:(grow F H H4)}{rS:(fE false)}{BH:(upd H a o)}{Ej:(bM i)}{nJ:(I1.JM.fresh<|F8 _)}{M3:(g i j)}{a5d:(dZ CX P w K mg base N ğ scope f cd A outer s H E)}{r9:(iZ rfl T.M8<|da (Đ 1) ţ)}{Y6:(Th rfl T.K8<|da (Đ 0) JC)}{yR:(Th rfl T.K8<|da (Đ 1) JC)}{v3:(Th rfl T.K8<|da (Đ 2) JC)}{qz:(ms.take i)}{C6:(Ly U)}{a5l:(dr2 N.dr (d':=.str x) rfl)}{xx:(as=bs)}{BT:(.bl (n ^^ decide xx))}{a5n:(by simpa using (show p∈(X.pn++ñ)++[] from hp))}{a5p:(λ(kv:Dx×V) p=>kv.1=Sum.inr p.1/\L7 c H kv.2 p)}{a5q:(∃ o,h'.get? e=!o/\o.cls=.type "AttributeError")}{a5r:(cS 4 [1] ["number","one","other","delay","name"])}{a5s:(λ_ s'=>∃ σ' H',Inv X ñ σ' H' s'/\Q σ' H')}{a5v:#[_,ε,c,S.step e1,h2,λH2 e2=>q H2<|e1.trans e2]}{wC:#[ob,es,ho,c1,c2,c3,c4,c5]}{Ya:((.inl x.1:Dx),D.int x.2)}{t6:(b1Q<|Pk (Đ 0) JJ hr.m Ž)}{Ce:(∃ m,W 0 m σ H)}{a5G:(λx y H Q=>y=.non/\Q (.bl (decide (x=.non))) H)}{xv:(I.JM.fresh<|F8 _)}{cN:(compareOp .NotIn)}{LF:(.ref l)}{vQ:#[base,none]}{WC:(I.MX hc hn)}{BG:(Value.ref ea::us)}{oP:(rL n js ri rt re)}{yJ:(jr ri q rb)}{WF:[.int num,.int ah]}{Wp:(.int i t)}{Ak:(f Wp (.int j u))}{a52:((e::es).length+([]:List Keyword).length+ŝ<30)}{rY:(λf vs=>PySem.call f vs)}{a59:(∀ b o,b≠S->s.heap.get? b=!o->h'.get? b=!o)}{a6b:[.int t.1,.str t.2.1,.str t.2.2.1,.int t.2.2.2]}{xU:(ř,ps.length)}{a6f:#[F,ε,d,S,h,λx H' e q=>k x H' e (S.step e) q]}{ng:(merged [] ps)}{C7:(kt_code_dict_new _ #[2])}{uq:(.lst l)}{a6i:(.nx ((ε.set j (.ow uq)).set i (.fz d)))}{sd:(da (Đ 5) JC)}{DT:(qr Qv)}{rj:(da (Đ 0)<|da (Đ 2) JC)}{qF:(found.take c)}{xH:(cG hb hd λz=>nomatch z)}{ZP:(λ_ q=>q)}{jv:(field _ 0 >>= _)}{CT:(.Name "range" p)}{jc:(hb ñ s1 σ H1 _ I1 q1)}{sx:((p,w)::P.zip vs)}{DD:(λx=>x.1.isSome)}{w8:(λz=>?_)}{a6B:(wpAny_frameOf_fun Rn hl hf λh₁ hs₁=>?_)}{a6C:(hh.at λea o ne q=>(Gj ..).extBut ea o ne q)}{B3:(F.kt_typeCall_dict_1 _)}{BY:(.ref z)}{Ed:(pyNext BY)}{jG:#[trivial]}{zD:(f x,g x)}{CB:(ar<|Đ 2)}{m9:(pN 7 ND)}{D7:(.inl r.1,rw r.2)}{Ex:(cW S p rs fo ŧ many g)}{B4:(lk (rowsOf ê T a.1) k)}{DI:(pN 4 ND)}{EE:[.ref ba,.ref rd]}{a6W:(λg=>#[_,1,n,dxG,_,1,hNG,1,_,1,fin rfl rfl])}{sT:#[_,H9,Inv.Ph I.ok Wa,q]}{a61:(codeAny_handlers_test (cU J5 hg1 RV ?_ a16))}{a62:["field","mixing","plan","message","fallen"]}{tT:(aM P w)}{Z0:(List Dx×Addr×Value)}{CD:(σ.set i !v)}{qV:(.bl b)}{lB:(.type "str")}{nY:(.builtin "isinstance")}{Wq:(I.JM a _ ea)}{Xe:["name"]}{Cq:((ř.getD i []).drop m)}{AR:(.rt d)}{kU:(ð.map pK)}{Cn:(rL n js (Wo rd) rt re)}{lY:(t.getD a [])}{wL:(q1 b4b)}{a7m:((.inr q.1:Dx),iF q.2)}{yW:(st w,Jz m w)}{oy:(.Call ĝ sQ [] pos)}{a7p:(∀ i y ε,i<n->xs[i]?=!y->I i ε->∃ ε1,q (u y) ε ε1/\∃ ε2,rb ε1 vc/\I (i+1) ε2)}{a7q:(h₁.push { cls:=.type "traceback",dict:=none,data:=.fields (oF++ģ).toArray })}{a7r:(∀ ks∈d7 S n,QY S (!ks) N/\∀ g∈S.JO,∃ w,aV xF Ħ g N m=.inr w)}{E8:(aU st)}{a7s:(W.fnOf "__init__" ğ E8 zu Bo .none kV doc pm an JE ct)}{WA:(a9 iU Jx)}{n9:(aw<|bx A3 JG hr.m WA)}{lH:(.ref T)}{a7u:(W.fnOf m ğ E8 zu Bo lH kV doc pm an JE ct)}{Yi:(setFlight lC none)}{IY:(.call (.ref fa) #[CG,[]])}{a7x:(.Raise (!.Call (.Name x np) sQ [] Kg) none pos)}{WP:(bu p EQ wP (!ch) gb [])}{a7z:(λv (kv:Dx×V)=>∃ t,v=.ref t/\H t=!.tup BZ)}{a7A:(wpAny_typeNameOfWhole_valiter hit.typeIs oZ)}{a7B:(RK (·.1) (cr p m ç ê gb (ag S).length))}{a7C:#[#[#[#[2,by decide,#[hp]],1],LD.m],rG,D0]}{tE:(dO cq Mv (Đ 3)<|Đ 0)}{yr:(bp kf nm as)}{Y9:(nm.take i)}{vZ:(Mx.JN p Š<|Mk.lk R k)}{sK:(ks.map LA)}{oX:(cr p m ç ê ord<|i+1)}{v9:(dT bc cv (Đ 9)<|Đ 7)}{a7K:(λv (r:LT)=>∃ b,v=.ref b/\G b=!.tup z7)}{VV:(Gm he hd h1 ?_)}{a7M:(λb o hb e=>kk b o (by simpa using hb) e)}{D3:(.int ķ.length)}{nM:(bq S)}{a7Q:(λY=>Y.calm=true/\Y.base.err=X.base.err)}{pO:(!.Attribute o f pos')}{uX:(upd H T (.tup [x,y]))}{A7:(Fe e)}{zY:(FN A7 I.ok.above)}{a7U:(wpAny_typeNameOf_keyiter hit.typeIs oZ)}{a7V:(wpAny_typeNameOf_valiter hit.typeIs oZ)}{nH:(bu p ř msg fo ms [])}{a7X:(λr=>not (decide (r.1∈gs.map (·.1))))}{DL:(bu p ř wP fo ms [])}{a7Z:(λh' c' kp e=>fin its r' hz h' c' kp e)}{a70:(.call Ũ #[[.ref x,.str name tk,v],[]])}{a71:(x * z+dot r v - c * (y * z+dot lead v))}{a72:(Tn n (js.map λj=>(ε[j]?).join) rt re)}{a8m:(hl ñ s σ H _ I hq)}{a73:(K2 a8m λv s1 J'=>?_)}{a74:[some<|tJ bs,some<|aK ts,some<|.str b.1]}{a75:(upd H x (.ins CE dx [("rows",.ref d)]))}{a76:(Mk.JF qE++(bl.take j).map λways=>XI)}{uQ:(by kernel_rfl)}{Jd:(.UnaryOp .Not a pos)}{a79:(K2 (hc ñ s σ H _ I h) λd s1 J'=>?_)}{De:(.If c a b pos)}{xS:(K2 ĸ λv s1 J'=>?_)}{tM:(!.Name x pos')}{Ap:(.Tuple [a,b] k2 pt2)}{WB:#[xs,xs[i],q,by simp]}{D6:(.lst ys)}{a8g:(λc v' hc q=>in1 c v' q w8 (.inr ?_))}{X4:(.ref ea)}{Wz:(x - c * y % p)}{ya:(tP ra)}{EH:#[_,1,?_]}{E4:(l.map λx=>rw (g x))}{sE:(pN 3 ND)}{sD:(cw T.JX<|Đ 1)}{D5:[t.2.2.1]}{Og:(cw T.JX<|Đ 3)}{uy:(T.P.getD e [])}{gD:(xA Bx.K)}{dP:#[ps,[],(0)]}{A5:["_law_script"]}{sB:(.ref x)}{yI:(.str x)}{a8y:(K2 (ha ñ s σ H Q I h) λc s1 e=>?_)}{tU:(.inl k)}{a8A:(ho ñ s2 σ H2 x y v u _ I2 r1 r2 q2)}{a8B:(λb o hb hn=>#[o.slots,k4 b o hb hn])}{Dr:(qr<|Đ 2)}{X6:#[#[4],c1]}{xo:(k,bh S x)}{nj:(FD _ _)}{a8G:#[#[#[1,#[#[3],#[R8]],1],by simp,1],1]}{nO:(top 81)}{a8I:["field","mixed","told","rows","many"]}{a8J:(fI MU λi j=>Q1<|.bl (decide (j<i)))}{lq:(col ch)}{a8L:["_law_world","_law_plan","_law_told"]}{p8:(some "h")}{tR:(starEach [e] X.env)}{kH:(without p r lead q)}{a8P:(∀ z H',gR H H'->DR Ŏ d z->Q z H')}{ko:#[2,.l .lst<|cH #[]]}{a8R:["field","rows","start","at","place"]}{zy:[fD C p,tb t,.int m]}{mY:(dT b4l c2M (Đ 1) Q4)}{a8U:#[Di,1,.k rfl kI (by rw[fO,hu];rfl)]}{D8:(List.replicate n 0)}{a8W:(λy=>if y=name then some v else m y)}{b0l:("fallen",.ref la)}{a8X:(upd H1 dx<|.xd [b0l])}{a8Y:(λa ha=>nomatch ha)}{a8Z:[.ref ea,.int (a.2.1:Nat),.int a.2.2]}{mi:(List.replicate m 0)}{Du:[7,23,53,101,999983]}{rX:(λx=>not x.1)}{Bt:(Kp b o hb N3)}{BV:#[k1,f2,k2,k3]}{ur:(grow F0 H0 H)}{Aq:(As X (tP rd))}{Bm:["many","own"]}{uc:["row","many"]}{cV:(List.range m)}{a9b:[some<|bN t,some<|.str x,some<|bW U]}{a9c:((FG.mp wn).2.2 x.1 Ė x.1<|by simp)}{za:["judgements"]}{kM:(Q0 Bx.P Bx.w)}{wg:(Gm hit rfl rfl ?_)}{zO:(starEach es X.env)}{vi:(lu te Ej)}{tD:(by simpa using h2)}{a9j:(some x::js.map λj=>(σ[j]?).join)}{a9k:(λc w' MQ z=>hk c w' (λz2=>?_) z)}{uC:(S.step e1)}{Wu:(I2.JM.fresh<|F8 _)}{kZ:(by simpa using hm)}{a9p:(λ_ _ _ _ _=>cD<|Sn C3 Ť (Đ 1))}{a9q:((stN p m ç ê ord n).R.getD c [])}{uJ:[("needed",.int i)]}{vX:(ç.take i)}{a9t:(bQ b9W rfl T.JX boot_len<|a9 Id Jx)}{uA:(LA x)}{a9u:(kf x,V.ref uA)}{a9v:(some v::js.map λj=>(σ[j]?).join)}{a9w:((c / 2+7919) * 48271 % 2147483647)}{gY:(bb X.K P9)}{XN:[none,some<|.int x]}{a9A:(λc w' hc q=>(hs.2 c ?_).trans q)}{a9B:(λx y H Q=>r x y H Q\/r' x y H Q)}{a9C:(F6<|EN (wpAny_fieldsOf u1 u3 ?_))}{a9D:(qr<|W2 (dT bc cv Ť<|Đ 1) Ť Q4)}{a9E:[aA c S,aG pl,.int m,.int p,rw ch]}{a9F:(dO bJ Mv (dO cE Mv (Đ 1) dI) dI)}{qq:(by simpa using e)}{x0:(List Dx×V)}{jd:(Zo b o e hx)}{yd:(compareOp .NotEq)}{xD:(.builtin id)}{nN:(.type T)}{DV:(.ref p)}{jV:(Obj.mapFields Ĥ)}{Dt:(kv.1,v)}{a9R:[s.heap.objs.size]}{p9:(c.of k)}{zP:(· % p)}{Y2:(bk (e Ĩ q))}{M1:[.int n]}{qp:(nW K n)}{ud:(ε.set i (.ow d))}{Y5:(.int j)}{E1:#[ķ,kv,s _ _ h,y]}{wV:(.inr #[o,1])}{Pu:(.int 0)}{DG:(l.map g)}{rq:(rV 0)}{t7:#[_,_,#[3],fY _ _]}{DX:(My.bk p)}{Co:#[1,.lst,1,#[1],1]}{iA:(.nx #[1] ?_)}{a99:(.lst<|List.map _ (List.map _ _))}{b0a:(not (decide (c.of p.2=c.house)))}{Su:(by simp[hy])}{nV:(pN 8 ND)}{sY:(Sum.inr p.1)}{b0e:(∀ p∈S.JD,p.1=y->SJ p.2=true)}{b0f:(bY Bx.K rfl<|af Eu (af m9 aF))}{kN:(ws++[t])}{l8:(nums ws)}{b0i:["ties","home","listener","many"]}{CI:(OI p mixed A s n)}{kq:(mixed.map f)}{b0m:(pD C3 wJ<|pI (Yg Bx.K) XO b8)}{Yd:(sF.trans e1)}{vI:(pv 6)}{mm:(Mk.K9 m r.2)}{rp:(bb K P9)}{pL:(r.1,col r.1)}{Ef:#[#[#[2],p1,hP,1]]}{b0t:#[xs.length - (i+1),#[],1,LY,p']}{b0u:(wpAny_entryPlaceOf λpl LW=>?_)}{b0v:((other e<|Ne.symm Ro).trans he)}{b0w:(λi h=>h.IsStrIter it ty x t i)}{b0x:(λε=>∃ o,ε=[.fz _,.fz _,o])}{b0y:#[2,.k rfl kS (by rw[eo,z];rfl)]}{b0z:["value","step","field","often"]}{b0A:#[ZA,by simp,λb hb b' P2 e=>?_]}{b0B:#[2,.k (lT O.Wv<|O.pin r hr) kI]}{b0C:(.t #[2,n1]<|.t #[2,n2] #[2,n3])}{b0D:#[k,c,e,z.sameBut hs<|UX y c e]}{Cv:(λx1 x2=>x1++x2)}{uE:(λ_ _ q=>EV _ q)}{b0G:(∀ xs,JU K H a xs->xs[i]?=!x)}{b0H:(.Assign [.Name x pos'] uV Ug)}{vA:(leaving env lC)}{b0J:(Gf T Ha (GI Ha T a7J ?_<|b12 _))}{kA:(tP (rO f ra rb))}{yu:(xs.map some++cs)}{SB:(os.filterMap id)}{Uh:(IT LX.typeIs ?_)}{CY:(t.map rw)}{Ah:(My.Qw hP)}{mj:#[1,iO.m]}{yt:(Kh hr (Đ 4) dI)}{b0U:(Kh hr (Kh hr (Đ 7)<|Đ 8) dI)}{b0V:#[hx,hm.1,hm.2.1]}{vB:(hs t' Qp)}{vE:(Kh hr (Đ 9) dI)}{b0Y:(.BoolOp .Or (a::b::rest) pos)}{b0Z:(W.instObj C s.heap.objs.size)}{qN:(K w.params)}{b01:(I.type.here<|EN (hm.here ?_))}{Eo:(Pr R)}{yq:(lI n)}{HR:(kv.1=y)}{b05:(ð.any λkv=>decide HR)}{b06:["field","row","lead","place"]}{Cp:(.f pV rfl)}{uS:(pv 8)}{b09:(s.1++[(z,!(t.1,x))],s.2++[z])}{Br:(cX L g N h)}{Ao:(aI S.Jy fo)}{ly:(lP a b x q)}{Ci:[x',.ref rd]}{tV:#[.bl _,H,I,1,q]}{Wt:(.cons rfl .nil)}{b1h:(.Call (.Name x p) [] [] pos)}{vT:(.int ys.length)}{b1j:(call (.ref fI) (.ref e::us))}{Fa:(l.map λx=>zD)}{Ow:(.inl (f x),g x)}{b1m:(cS 1 [0] ["number","field"])}{gw:#[#[3],a7d _ _ _]}{b1o:((pm.map _).nodup_iff.mpr nd)}{db:(qo 2 ND<|bV JC)}{b1q:["message","mixed","carries"]}{b1r:["net","plan","many","prime"]}{Eg:["names","ties"]}{Ey:(ord.getD n zf)}{b1u:(e,w0,l.getLast?.getD<|st w0)}{b1v:(ch.getD (ch.length - 1) 0<n)}{ux:(t.1,bh S t.2.1)}{wG:(Tm.R.getD c [])}{fK:(Mk.M9 p ê r.1)}{Xd:(.inr x)}{b1A:#[xs.length,by simp,FV _,h0]}{lv:#[_,e,1]}{zU:(·<=·)}{BL:(.ref b)}{b1D:(λb H'=>Vo X Q BL H')}{oS:[aA c S]}{Dl:#[2,D0]}{rB:(c,ways)}{b1I:(sr Bx.K<|eI (Đ 0) JB hr.m)}{b1K:(cw T.JX<|eI (Đ 0) Jw hr.m)}{b1L:#[#[4],.mk hc O hp RV hm hz]}{b1M:(not (aV _ _ g N m).isRight)}{b1N:(I.base.keep b o e n hb hx)}{b1O:(.BoolOp .Or (b::rest) pos)}{mJ:(binaryOp .Add)}{w4:(compareOp .Eq)}{sG:(compareOp .In)}{v5:(I.tok _)}{lO:(vs++dvs)}{b1U:(upd H5 l (.lst (ys++[v])))}{C9:(Q9.other Ro _)}{b1W:(Heap.get?_push_at rfl rfl)}{YI:(X.more ñ)}{b1Y:(cleared p bk ř start a q)}{xR:(fg p u rest _)}{iK:(Ne.symm c)}{sS:(aj S.le)}{iP:(S.grow e1)}{DA:(KZ a o' F)}{wX:(KR (fm [] ð))}{u0:(.mk hl h1)}{fA:[fD C p,.int n]}{X':(x.1=k)}{AJ:(cw T.JX<|Đ 0)}{AE:(qr Q4)}{pY:(pN 2 ND)}{Aa:(rV 3)}{wj:(red p t i)}{kE:[aA c S,.str x]}{nS:(t.2.1=x)}{AU:(ky nm)}{wN:(gx ts x)}{b2h:#[_,1,#[Di,1,gj],λ_=>rfl]}{uo:(pv 4)}{Cu:(M9 p ê k)}{pQ:(ao (top 19) 0)}{sX:(ao (top 18) 0)}{b2m:#[1,_,JU.of Rb]}{b2n:(as.map (Sum.inr:Str->Dx))}{b2o:(List.filter_sublist.map _)}{mK:(.t r1 #[2,r3])}{rD:[aA c S,.int n]}{yn:(bF pl r.1)}{b2s:((NT.take (i+1)).map V.str)}{jX:(.ref aC)}{b2u:[none,none,none,some<|bn R]}{b2v:(λv H2=>v=.non/\Q sB H2)}{b2w:(GG hT U2 (Hg.mp h3).1 ?_)}{b2x:(setField _ 0 .none >>= _)}{b2y:(dot r v - c * dot lead v)}{b2z:(λvs H Q E h=>(t.ok h).1)}{b2A:(.Compare a [.In] [b] pos)}{b2B:(da (Đ 1)<|da (Đ 2) NK)}{b2C:#[2,by decide,#[by omega]]}{b2D:["ties","home","listener"]}{b2E:["used","came","listener"]}{b2F:["home","touching","used"]}{b2G:["field","values","steps"]}{b2H:[(Sum.inl S.next,.ref tp)]}{b2I:(λt=>(t.1,t.2.1,t.2.2.1))}{b2J:(List.replicate m (0:Int))}{b2K:(List.replicate m<|.int 0)}{b2L:["_law_ties","_law_falls"]}{b2M:(da (Đ 0)<|da (Đ 1) sd)}{b2N:(Mk.JF (bt S p8 N m chs))}{b2O:(upd H' ea (pA ea cls od))}{zJ:(TP X ñ σ Q)}{b2Q:(letOwnedTupleGo tg ś u)}{Pw:(by rw[hs,QH])}{b2S:#[#[xs,q,F8 _],hd σ H p]}{mS:(.type "bool")}{b2U:(wpAny_fieldsOf ho hd ?_)}{b2V:(λe s'=>R (.error e) s')}{b2W:(k * x % p * y+dot cT v)}{MV:(tP (rF R rs))}{WD:(L2.KZ a o' F)}{v8:(L2.KZ a o' H)}{IL:(xs.foldl g b)}{b21:#[Sum.inl.inj,congrArg _]}{b22:(da (Đ 0)<|da (Đ 3) ţ)}{b23:(da (Đ 4)<|da (Đ 2) JC)}{b24:(da (Đ 0)<|da (Đ 4) JC)}{b25:(da (Đ 0)<|da (Đ 3) JC)}{b26:(hk▸a0V (if_pos rfl) p2)}{EG:(xs++[.ref b])}{Yh:(Mk.K' ê r.1)}{b29:["_law_cell","_law_many"]}{qj:#[2,.k rfl kS]}{b3b:(cW S p EQ (!ch) gb m g)}{sP:(nl.map V.str)}{b3d:(da (Đ 6)<|da (Đ 5) P3)}{nr:(GS _)}{b3g:(I.base.free b o e n hx)}{nu:(FK<|Fe e)}{b3i:(∀ b∈fp,kQ X ñ H b)}{b3j:(gh I hg hm hv ?_ hn NB)}{vM:(rawInt L)}{uT:[.int i,x]}{b3m:(Av K is.length (ZD is))}{pR:(nW X.K n)}{vq:(V5 false)}{b3p:(PySem.evalArgs_none ?_)}{b3q:(!.ref s.heap.objs.size)}{b3r:(pS i hN he hi hx hs hf)}{b3s:["field","row","number"]}{b3t:["rows","start","place"]}{qv:(rV 1)}{b3v:#[1,#[_,1],by decide,hb]}{b3w:((.inr y:Dx),D.bl true)}{Xg:(.t r1 r2)}{b3y:["field","row","length"]}{xX:(ar<|Đ 5)}{b3A:(cZ p rs fo ŧ many m.1)}{Ad:[(h,none)]}{b3D:#[x,by simp,by simp[Lp]]}{gp:(st w)}{b3F:#[m,hm,#[2],(bo m).symm]}{b3G:["field","mixed","asks"]}{b3H:[.lst xs,.str z,.lst ys]}{b3I:(Fs (by rw[Fd];lia) htz)}{Ab:(R.take j)}{YZ:(a9 b0Q Jx)}{Yc:(M' _ _ d)}{Bz:(fs.lookup f)}{tY:(HQ VE VJ ?_)}{b3O:(.Constant .none j pos)}{BR:(I.caF hc f3)}{xY:(2 ^ 62)}{b3R:(getAttr sB name expr)}{b3S:(.ins C dx (ke f y fs))}{Ar:(upd H l D6)}{uf:[.int i]}{zj:(I.PF XS hT)}{AS:(.int ns.sum)}{B7:(.dK [])}{b31:(.Dict keys values pos)}{E9:(.ref d)}{zV:(.ref r)}{b34:#[Ba,pl.isList.push _]}{mf:#[o,ho,hx,OM]}{b36:(merged [] (ps.take i))}{vO:(KR ð)}{wE:(hd.ok I1.JM)}{xN:#[e1,q1]}{uO:(.type "zip")}{B2:#[ε,.done,h]}{zC:(ps++N)}{qU:(cQ rfl)}{E7:(aq a4s)}{b4g:(List.Sublist.map _ Iu)}{b4h:(((x:Int) * v+s) % p=0)}{b4i:(by simp[hr.subset hx])}{b4j:["field","table","row"]}{WO:(Ql _ _)}{iG:(top 89)}{Cr:#[_,3,.t rfl]}{b4o:(bu p ř msg fo qz [])}{b4p:((.inr b.1:Dx),aK b.2)}{Aw:(grow F H G')}{wO:(Int×Mk.Ask)}{eX:(as.map .str)}{b4t:(dT fU cF (Đ 2)<|Đ 7)}{b4u:[(NT.getD (i+1) "",kd)]}{Eb:(.ref D)}{b4w:(.Slice lo hi none p2)}{b4x:(K2 yG λv s1 J'=>?_)}{b4y:#[pp s₁.heap H,none]}{b4z:(λ_ _ _ _ _=>#[hc,1])}{b4A:(upd H d (.frz o ku))}{b4B:("kept_posts",.ref dp)}{b4C:(if i=j then 1 else 0)}{b4D:#[c,q,by rw[if_neg c]]}{b4E:#[F,ε,f,S.KN e1,h2,p]}{b4F:(I0 (by rw[hp.1];lia))}{b4G:(merged []<|ps.take i)}{b4H:(λi=>bs.getD i false)}{b4I:[fD C p,.int a,.int b]}{b4J:(λt ht=>(Fj.mp ht).1)}{b4K:(λv x=>(o * v+x) % p)}{b4L:((ff cell 3).getD 0 0)}{b4M:((ff cell 3).getD 1 0)}{b4N:(Hf ?_<|by size_fits)}{b4O:(storeName X.env x u)}{rK:#[v,H,I,r,h]}{b4Q:(.Constant yI j pos)}{b4R:(K2 ŋ λc s1 J'=>?_)}{b4S:(K2 ŋ λv s1 J'=>?_)}{fJ:(.lst xs)}{b4U:(intBits_le_64 h1 h2)}{b4V:(∀ v,(x,v)∉binds)}{nF:(RZ x)}{b4X:(.Call a3w sQ [] Kg)}{b4Y:(.Pass ⟨0,0,0,0⟩)}{p7:(kV k)}{sZ:(hd.ok I.JM)}{b41:(.Name "enumerate" p)}{b42:("kept_ties",.ref dt)}{b43:(without p Ń lead k)}{YT:(m+t.length)}{DB:(col t j)}{vL:(fg p u l v)}{b47:(List.range' 0 (n+1))}{lM:(tQ F0 H0 r)}{fj:(h F0 H0)}{b5a:(attrMsg_fits KM hsz)}{b5b:(getAttr? xV "keys")}{b5c:(.lst (Q2.map V.int))}{uP:(.ins C n l)}{b5e:#[#[vs,da.dictOf],?_]}{B0:#[ha,hb,jG]}{ja:(red p Ĵ m)}{b5h:(.bl (decide (i<=j)))}{Xj:(pv 5)}{xy:(s.1++[jb])}{kX:(z∈keys c)}{b5l:(gC Ů N U (cB Ů g))}{b5m:["tie","name","used"]}{yT:(rV 4)}{lG:(L++[(k,a)])}{XT:(rC<|.int 0)}{b5q:((B a).getD a.2.1 [])}{b5r:[aA c S,.int m,tb ç]}{kC:["value"]}{b5t:(Nat.succ_lt_succ hi)}{YM:(J ch)}{b5v:(.int<|Mx.JN p Š Ź)}{b5w:(Kf.trans<|aH sF e2G)}{pB:(LA k)}{b5y:(upd G5 Tz<|.tup Ci)}{uR:#[by decide]}{b5A:[y * SZ % 2147483647]}{zh:(wq m p col)}{b5C:((k==i) || decide DJ)}{yx:(col r.1)}{b5E:(.inr "prime",.int p)}{b5F:((.inr g:Dx),J ch g)}{xp:(oR R om g)}{b5H:((nl.length:Int) - 1)}{gq:(X.L6 ea pn)}{E6:(.ref CN)}{yA:(.ref RA)}{uj:(.ref Ua)}{b5M:(h ñ s σ H _ I hw)}{b5N:(hl ñ s σ H _ I h)}{b5O:(false,eval a X.env)}{b5P:(false,eval b X.env)}{b5Q:(.bl (decide (x=y)))}{b5R:(I2.VQ.make C us [])}{b5S:(.lst (pF xs lo hi))}{b5T:(if b then 1 else 0)}{b5U:(.Call a3w [] [] Kg)}{b5V:#[oc,od,.func Ę,Lm]}{b5W:(by simpa using ew1)}{b5X:(ForInStep.yield ok)}{b5Y:(upd H1 l (.lst []))}{b5Z:(.Subscript o i pos)}{b50:[s.heap.objs.size,p]}{b51:#[c,_,1,z,p2.mono e]}{b52:(.bl (decide (j<i)))}{b53:(.bl (decide (i<j)))}{b54:(Kh hr (Đ 1)<|Đ 3)}{b55:(c1p<|RD O.YJ (Đ 0))}{b56:#[h1,h3,by show#[0]]}{b57:(dT eS nE (Đ 4) Q4)}{b58:["chosen","numbers"]}{b59:(λx hx=>nomatch hx)}{b6a:(λ_ _=>Sum.inr.inj)}{b6b:(upd G Tz<|.tup EE)}{b6c:(upd G Tq<|.tup WF)}{b6d:(.inr "many",.int m)}{b6e:(σ'.set i !.ref ea)}{b6f:#[oc,od,.func Ğ,Lm]}{b6g:(upd H x o)}{b6h:(by simpa using hu)}{b6i:(.BinOp a op b pos)}{b6j:(λ_=>none)}{b6k:(λv _=>v=.bl true)}{zE:[a90,a9n]}{b6n:(ForInStep.yield r)}{iX:(EN ?_)}{b6p:(noteFrame lC env)}{yM:(jD ry)}{b6s:(upd H d v)}{b6t:(GY hit.typeIs oZ)}{b6u:((t+a * b % p) % p)}{b6v:(ř.map UF)}{yO:(tI ri)}{b6x:(wpAny_tryCatch ?_)}{b6y:(tP (rO Sub ra rb))}{b6z:(ð.map pr)}{XR:[KR ð]}{b6B:(by simpa using hk)}{b6C:(by simpa using hn)}{fH:(.f rd rfl)}{b6E:(cS 1 [] ["place"])}{mT:(red p t m)}{wQ:(ts.map bN)}{Ac:(t.2.2.1=x)}{b6I:(b.1++D5,b.2++D5)}{YN:(ns.take i)}{b6K:#[2,by decide,#[0]]}{z4:(.f r1 rfl)}{b6M:(K' ê x.1)}{b6N:[rw ch,kR gs<|J ch]}{b6O:(Vg (N.mono e1).dr)}{b6P:(N.mono e1)}{b6Q:(a9 XO Jx)}{b6R:(∀ x∈xs,x∈ys)}{b6S:(Mk.JF Al)}{b6T:(λt ht=>(cM ht).1)}{b6U:(ao lK 17)}{b6V:(Sum.inl k)}{b6W:(upd G dx<|.own ea)}{b6X:(a9 A3 Jx)}{b6Y:#[2,#[vF]]}{b6Z:(this ch g)}{b60:(pI gD XO<|pv 10)}{b61:(pI gD XO<|pv 11)}{b62:#[O ks hk,Oq ks hk]}{b64:(e1.trans e2.symm)}{D4:(uh i)}{b66:(.IfExp c a b pos)}{b67:(.Return (!e) pos)}{DH:(X8 K a)}{b69:(call xD (v::us))}{b7a:(ns.map WData.int)}{b7b:(.Tuple es x1 pos)}{iS:(λ_=>E)}{b7d:(storeTaker? attr)}{vv:(.nx ε)}{vY:(.tup l)}{vd:(.lst m)}{b7i:(call On [.ref l])}{b7k:(iD2 X ZO (tP rd))}{b7m:(Gm hz rfl rfl ?_)}{vk:(.int k)}{b7o:[.Return (!e) pos]}{pP:(eA rfl)}{KB:(y∈ts)}{um:(rV 2)}{b7s:["field","number"]}{lh:(k∈ks)}{b7u:#[2,.k (gG h1) kI]}{b7v:#[#[#[2],hp,hP,1]]}{b7w:(T.R.getD JP.1 [])}{b7x:(A.map<|wf CE R B)}{b7y:(λvs H Q E h=>?_)}{xE:(top 28)}{b7A:(kf p.1,V.ref p.2)}{b7B:(x / 1009+69621+k)}{b7C:(.inr "ties",bn R)}{b7D:(NT.getD (i+1) "")}{b7E:(Kh hr (Đ 13) dI)}{b7F:(·.frame)}{b7G:(WG b o e)}{b7H:(.Tuple es k pos)}{b7I:(.int M3 s.toks)}{b7J:(gn I q<|by simp)}{b7K:(λb u q=>EV _ q)}{b7L:(hr.make C us [])}{b7M:(!(k:Int))}{b7N:(setAttr X4 f u)}{b7O:(.dK (dQ ķ k v))}{b7P:(.Dict [] [] pos)}{b7Q:(r.take m)}{b7R:(joined t)}{b7S:(Option D)}{b7T:#[_,ER LY]}{b7U:(rMe C m R ra rs)}{b7V:(L4.or c2O<|b0W hu)}{b7W:(by omega)}{b7X:(Pr (rE c NS.LG))}{b7Y:(dT jt cF Og dI)}{b7Z:["begins","told"]}{b70:(ao mH 0)}{b71:(aP ŧ ř)}{b72:["number","rows"]}{b73:(pq U t.1)}{b74:(.inl k,.bl true)}{b75:#[#[4],so]}{b76:(mixed.map (s a))}{b77:(st a.2.1)}{b78:(T.P.getD a.1 [])}{b79:(x.2,ways)}{b8a:(.ref C.1)}{b8b:(.xd ((f,y)::fs))}{b8c:(cS 1 [] ["tie"])}{b8d:(ao lK 5)}{b8e:(ao lK 2)}{b8f:(ao lK 3)}{b8g:(ao lK 1)}{b8h:(ao lK 6)}{b8i:(LA t.2.1)}{b8j:(aV xF ho g N m)}{b8k:(nm.map λx=>a9u)}{b8l:(ao nO 0)}{b8m:(ao nO 2)}{b8n:(ord.take i++[x])}{b8o:(λq=>nomatch q)}{b8p:(binaryOp .Mult)}{b8q:#[[],H,I,.nil,h]}{b8r:(λ_ _ _=>False)}{b8s:(Gm hT U2 h3 ?_)}{b8t:#[.ref C::us,[]]}{b8u:(isInstance _ _)}{b8v:[.str name tk,v]}{b8w:(EN (Ie a b ?_))}{b8x:(EN (Jf a b ?_))}{b8y:(wpAny_letGo ?_)}{b8z:(GG ho hd Ė ?_)}{b8A:#[1,λY7 NP=>?_]}{b8B:(I1.JM.fresh le)}{b8C:(x.map (· * k))}{b8D:#[r0,h1,h2.symm]}{b8E:(R.sh.fit _ hmi)}{b8F:(l.map some++cs)}{b8G:#[1,vs,JU.of p4]}{b8H:(.Name "dict" p)}{b8I:(.frz o<|.dK ķ)}{b8J:(Mx.e lY q≠0)}{b8K:["ties","start"]}{b8L:(inc msg cs m.2)}{b8M:(c.map λq=>a7m)}{b8N:["net","fallen"]}{b8O:(qo 4 ND<|bV JC)}{b8P:(mixed.map<|s b)}{b8Q:(RS p mixed A s)}{b8R:(ord.map (·.1))}{b8S:#[#[Dl,1,.i],1]}{b8T:(qo 6 ND<|bV JC)}{b8U:#[1,by show rfl]}{b8V:(Nat.succ_pos _)}{b8W:(fZ c .listener)}{b8X:(Sum.inl S.next)}{b8Y:(tb (Mx.ones m))}{b8Z:[.int w,.ref wy]}{b80:[V.int<|Mk.st w]}{b81:(grow Vp H1 H2)}{b82:(ord.getD i zf)}{b83:(hf.mono<|aj sF)}(xb:[_,_,_,_])(Cg:[_,_,_])(nU:[h1,h2])(b87:[?_,?_,?_,?_,?_,?_,?_,?_])(b88:[kV,doc,pm,an,JE,ct,oc,od,Lm,tc,td,n,Qi])(kB:[s1.heap.objs.size,Eh,_,_,H1,1,I1.kept λb o e=>EV _ e])(b9a:[kV,doc,pm,an,JE,ct])(u9:[H1,I1,r1,q1])(Ek:[f0,f1,f2,f3,f4,f5])(Qc:[_,_,1])(xg:[1,by decide])(Bs:[f1,f2,f3,f4])(xr:[o,es,ep])(kW:[none,none,none])(BU:[F,ε,f,S,h,p])(Ag:[.int lo t,.int hi u,.int 1 v])(xZ:[a,vs,1,p1,p2])(AB:[p1,p2,p3])(zG:[.ref s.heap.objs.size,_])(b9n:[!v,!.int (m:Int),!.ref fa,!.ref rb,!.ref ls,!.ref d])(b9o:[λb o q n hb hx=>?_,λb o q n hb hx=>?_,λb o q n hx=>?_,λb o q hx=>?_,λb xs q=>?_,λb o u q=>?_])(Ov:[es,ep])(b9q:[1,Walks.list (A:=X.A.in1) WC _ p hpn its.toArray,b34,λi v s' Q' E' hv hQ=>?_,λh' tk hk=>?_])(b9r:["one","other","delay"])(b9s:[_,1,n,dx,_,1,h1,1,_,1,pr a5l b0V λ_ H1 e1 _=>?_])(DU:[_,1,Vp,_,_,bT,Vg (d:=.int m) rfl])(oA:[x,H1,I1])(lE:[H1,I1])(Ch:[_,1,_,1])(yS:[_,1,n,dx,_,1,e1 _ _ h1,1])(D2:[?_,?_])(zK:["net","many"])(lF:[its,rv,p,hz])(b9B:[by decide,by decide])(uL:[o6,o7,o8,he])(b9D:[f,_,Gx X G a,kp,λs us M' hl=>?_,ok f _ a1z])(BS:[1,_,1])(pb:[by simp,1])(b9G:[_,b JE A outer s H E hr F H,F,_,C,og N s1 hl,(t l C hR).2,λ_ dx H' e=>q dx H' e])(lD:[QW,λb hb=>(hf b hb).1])(b9I:[#[o,ho],λh1 h2 J' k=>(by let#[o1,Zj,q1,q2,q3]:=J';show#[o1,Zj,k o1 q1,q2,q3])])(An:[o5,o6,o7])(ou:[h3,h4])(b9L:[I.ok.frames,I.ok.So,I.ok.exf,I.ok.bs,I.ok.U5,I.ok.QD,I.ok.TJ,I.ok.NU,I.ok.UR])(b9M:[I.ok.mod,I.ok.kind,I.ok.glob,I.ok.blt,I.ok.above,I.ok.inj,I.ok.has,I.ok.cab])(b9N:[_,b JE A outer s H E hr F H])(b9O:[_,_,2,_,_,2,_,_])(Et:[q1,q2,q3])(wT:[o8,o9,Oa,Mz,LU,LS])(b9R:[F.binds hb,ok f fd F])(b9S:[B.MR,λx hx=>B.done x (by let:=B.ks;rw[Fq]at this;rw[<- this];show hx)])(CU:[F,ε,d,S])(b9U:[LX.typeIs,F.args_dict_init_2 _ _,?_])(vz:[!.ref a,!.ref n,!.ref Ln])(kT:[σ',H',Inv.QC I.ok I'.L5])(ni:[_,_,2,_])(E5:[a,vs,1])(b9Z:[#[dx,h1],#[kp,h2,p2],#[kt,h3,p3]])(b90:[1,(by change 0<=sizeLine;decide)])(b91:[I.os,I.bare,I.base,I.loc,I.cell,I.free,I.KP,I.pin,I.JM,I.len])(Ep:[dx,_,1])(va:[v,ws,1])(b94:[I.os,I.bare])(b95:[λi m σ H=>m=xs.length - i/\i<=xs.length/\Pv i σ H,b1A,?_])(sI:[#[],#[]])(pZ:[its,r,pl,hz])(XC:[_,_,2])(Xv:[F,ε])(GA:[z,hd,vs,rel,dd])(c0b:[λx H1=>gR H H1/\DR _ _ x,tP.go S.z h1 λx H1 e1 _ q1=>xN])(tu:[z,its,n,r])(uW:[H,I.tok _,#[_,1]])(c0e:[aA c S,aG ř,.int many,.int p])(kr:[aA c S,.int m,fD C p])(c0g:[λj c q=>?_,λj c q=>?_,λj k c e b n q1 q2 z1 z2=>?_])(DC:[.int m,.int p])(xW:[_,1,n,c.Kq,dx])(XJ:[q1,q2])(c0k:[n,dp,dt,S,x,1,N,hx,hz,hm,q2])(ED:[hp,g,d,tk,os])(ki:[nU,ou])(rJ:[xr,ho,r])(x6:[va,#[a,ķ,1,AB],1])(c0p:[z,lo,vs,r,ob,Ov,ho,c1,c2,c3,c4,c5])(c0q:[z,lo,vs,rel,xr,ho,hx,OM,hk,hp,WU])(ju:[b9a,Lm,1,lk,Qq])(c0s:[Cg,1,I2.kept λb o e=>EV _ e])(zr:[nU,h3])(c0u:[oe,vs,T,oT,ts,he,#[QL,h0],hd,h1,Zr,Ro,hT,U2,h3])(c0v:[_,1,.inl b2m,_,1,ml,XC,Rb,Kv,put G2 v _ Ou ?_])(c0w:[s.heap.objs.size,b50,a9R,its.toArray.size,_,_])(c0x:["found","rows_by_choice"])(c0y:["field","chosen","found"])(uI:[t,ht,1])(uk:[dx,fs,ex])(vm:[a,vs,ex,ha,hv])(c0C:[λi d q=>?_,λi d q=>?_])(c0D:["_law_one","_law_other"])(c0E:[I.free,I.KP,λp hp=>?_])(c0F:[oD,esD,epD,hoD,hdD,hcD])(c0G:[by simp,FV _,#[none,1]])(Cd:[k _ _ ĵ e,c])(yB:[n,ne,nf,d])(c0J:[λb o e n hb hx=>?_,λb o e n hb hx=>?_])(c0K:[λr hr=>?_,λr hr=>?_])(mL:[g1,g2])(c0M:[Xv,.bl c,S,h,λ_ H' e z=>#[c,z,q H' e]])(c0N:[b9n,!.ref ba,!.ref rd,!.ref wa,!.ref ea])(c0O:["_law_row","_law_multiplier","_law_tie"])(i6:[ho,hc,hd])(qQ:[g,d,t,os])(je:[vs,r,da,hl])(c0S:[da.dictOf.typeIs,λa e2=>?_,HZ rfl b3p])(DM:[_,#[2]])(c0U:[nU,#[u,v,h3],h4,h5])(vg:[q1,e _ _ q2])(AQ:[Xv,c,S,h,q])(ve:[a,ķ,ex,AB])(qB:[ε',nU])(c0Z:[xs.length - (i+1),#[],1,LY,#[!x,1]])(c00:[("name",.str z),("fallen",.ref la)])(sf:[e1,e2])(IO:[i1,i2])(zi:[k1,k2,k3])(c04:[λa v e=>?_,λb o e hb hB=>#[D2]])(zx:[oc,odi,oda,Lm])(Vu:[i,hi,1])(ui:[lead,hl,d])(c08:[zG,I.laid keep XS ?_,1,q.at xv])(c09:[b,vs,q1,b3Y h k k' q2 λ_ _=>nofun])(c1a:[Qc,e1 _ _ h1,O.cn])(c1b:[Qc,_,[],2,?_])(c1c:[λb o q=>?_,by simpa using S.len])(sH:[a,b,c])(zQ:[x,u9])(oo:[H2,I2])(DE:[ho,hc,n,hd])(gf:[p,vs,1,nU])(c1i:[ea,cls,a0,B,H',od])(c1j:[hv,tP.at s q (by rw[c1f hu];rfl)])(c1k:[.next k1 k2 h1,h2])(c1l:["mine","theirs","field","often"])(yo:[pre,post,e])(c1n:[aO ė RW,[],1,Hx,a8Y,[],ae,.nil])(c1o:[seen,Cg,1,hs,#[]])(Ye:[its,r',pl,hz])(c1q:[ox,vs,a0,hx,hc,hd,h0,h1,Ts,h22])(AK:[va,#[xZ],1])(xq:["number",b9r])(pW:[Ch,Ln,Cg,2])(c1u:["self","field","way","number"])(c1v:["_law_world","_law_tables_of"])(nv:[xb,_])(c1x:["number","mixed"])(c1y:[h3,tP.at s q (by rw[h4];rfl)])(z6:[b1,b2,b3])(x8:[o6,o7,he])(lx:[_,#[_,3]])(c1C:["_law_rows_here","_law_name"])(we:[σ',H'])(j3:[o,e,c,d])(BQ:[x1,x2,x3,x4])(c1G:[1,os,bare,u,JM,PC,Zp,fl,old])(c1H:["net","plan","many","prime"])(vD:[_,1,?_])(c1J:["told","choice"])(uU:[ea,_,_,ws,1])(c1L:[O.fp,BS,a,c.of p.2,dxa,Qc])(c1M:[RW,e1,as,U3,ZA,has,vs,Q3,UH])(AN:[ks,g,_,_,OC])(oU:[An,1,hs,sl])(D1:[f,T,t,b88])(c1Q:[a,vs,vg,JS.mono e l vs q3])(c1R:[?_,λx c e=>?_])(c1S:[(hs.2 p.1 ne).trans e,yB])(c1T:[f,fd,cl,hm,b,F])(c1U:["_law_cell","_law_script"])(c1V:[t1,t2,t3,t4,t5])(c1W:["mine","field"])(c1X:[dy,x,1,ae,1,?_])(c1Y:[d,dx,l,a,e _ _ b,c.mono e])(lW:[lE,q1])(lj:[_,Fp _ rfl])(j6:[ķ,k,e,1,l])(c12:["_law_ties","_law_order"])(c13:["_law_many","_law_prime"])(A2:[ws,Et])(iL:[1,#[3]])(c16:[ol,VE,_,nl,VJ])(X0:[I.ok,b94])(AH:[oA,rx,a])(A8:[tu,hl,e])(tw:[f,fd])(c2b:[od,es,Rh,Qq,Yx,hk,hp,hn])(c2c:["rows","many"])(c2d:[c0C,λi j c d a n q=>?_])(vJ:[CU,h,q])(c2f:[Ui,o8,o9,he,nd,ul,Fi,eW])(Fk:[b,dxb,eb])(c2h:[.ref n,.str x])(c2i:[_,1,.int i,Cg,1,.int i])(Ay:[i,hi,ei])(YO:[ws,Tj,1])(c2l:[d,dx,l,hd,mL])(c2m:["_law_line_of","_law_j"])(c2n:[xg,by decide])(c2o:[#[o,e,ex.1],λa e2=>?_])(c2p:[dd.typeIs,λb q=>?_,hd])(c2q:[UE,λd H2 e2 h2 hd=>?_])(c2r:[e,k z λ_ z=>nomatch z])(wW:[oe,ws])(By:[oo,r2,q2])(CC:[σ3,H3,I3])(c2v:[σ7,H7,I7.MT])(B8:[oc,od])(g6:[u,1,rx])(c2y:[its,rv,pl,hz])(c2z:[its,r1,pl,hz])(c2A:[#[old,h1],h2])(sL:[E5,ha,hv])(c2C:[S,h1,λH1 e1=>q H1 e1])(c2D:[λb hb=>?_,q ob H2 fz])(c2E:[R,(0),.done,I.ld,I.Kv])(nq:[o5,uL])(Xo:[sf,e3,e4])(c2H:[Tz,_,1,M0.of UQ,1,c1b])(Ee:[σ9,H9,I9])(c2J:[h1,λa H1 e1 n w=>?_])(c2K:[c,_,1,.inl z,m.1,m.2])(pX:[o,ho,hd])(z9:[m,hn,hl])(iM:[es',ep'])(ye:[u,hu,ru])(c2P:[z,TI,TO,IO])(c2Q:[MD,Wk,p2,Ti])(A0:[a1,a2])(c2S:[MD,r2,Ww,Ti])(c2T:[nU,λ_ hp=>q.at hp])(c2U:[_,keep b _ Bt hs,1])(c2V:[ķ,kv,hd,hx])(c2W:[tw,Gx X G a,F.kp,b9R])(c2X:[ea,a,un _ _ b _,wW])(c2Y:[o',e',c',d'])(c2Z:[zK,"prime","falls"])(c20:[q3,JS.mono e l _ q4])(c21:[F',_,f,S',h2,p.up u])(c22:[S.a,h1,λH1 e1=>b4E])(c23:[a,AB,vs,p4])(c24:[fD C p,rw r])(c25:[_,.f rd rfl])(c26:[sH,λu hu z hz=>?_])(c27:["ear","way","ahead"])(c28:[b9O,2,_,_,3])(c29:[_,_,iV s hu])(c3a:[_,_,jW s hu,jW s hv])(c3b:[_,_,a5V s hu,a5V s hv])(c3c:[tb chs,rw ks,.str g])(c3d:[S9.le,hv,?_])(c3e:[tw,Gx X G aC,m,b9R])(c3f:[Fg X G Pf,Fg X G U9]):by lia:=by
 refine Classical.byContradiction fun ĥ=>?_
 refine ĥ ?_
 try clear ĥ
abbrev EN:=@PySem.wpAny_bind
abbrev EO:=@List.length_map
abbrev ER:=@List.getElem?_eq_getElem
abbrev ES:=@List.getElem?_eq_some_iff
abbrev ET:=@List.mem_of_getElem?
abbrev EU:=@List.getD_eq_getElem?_getD
abbrev EV:=@PySem.Heap.get?_push_of_some
abbrev EW:=@List.mem_map
abbrev EX:=@List.map_append
abbrev EY:=@decide_eq_true
abbrev EZ:=@List.map_map
abbrev F5:=@decide_eq_false
abbrev F6:=@PySem.wpAny_pure
abbrev F7:=@List.getElem?_map
abbrev F8:=@Nat.le_refl
abbrev F9:=@PySem.PassesOwn.never
abbrev Fb:=@List.length_append
abbrev Fc:=@List.mem_map_of_mem
abbrev Fd:=@List.length_take
abbrev Fe:=@PySem.Heap.lt_size
abbrev Ff:=@PySem.F.plainAttrs_list
abbrev Fg:=@PySem.W.mg_none_of
abbrev Fh:=@List.map_cons
abbrev Fj:=@List.mem_filter
abbrev Fm:=@PySem.F.type_list_append
abbrev Fn:=@PySem.F.slot_list_append
abbrev Fo:=@List.mem_singleton
abbrev Fp:=@PySem.Heap.get?_push_size
abbrev Fq:=@List.append_nil
abbrev Fs:=@Nat.le_trans
abbrev Ft:=@List.mem_cons_of_mem
abbrev Fv:=@of_decide_eq_true
abbrev Fw:=@List.mem_cons
abbrev Fx:=@List.mem_append
abbrev Fy:=@List.mem_cons_self
abbrev FA:=@List.map_congr_left
abbrev FC:=@Bool.false_ne_true
abbrev FD:=@List.length_filter_le
abbrev FE:=@List.take_length
abbrev FF:=@List.mem_append_right
abbrev FG:=@List.nodup_append
abbrev FH:=@PySem.Heap.get?_update_other
abbrev FI:=@List.append_assoc
abbrev FJ:=@List.mem_append_left
abbrev FK:=@Nat.ne_of_lt
abbrev FN:=@Nat.lt_of_lt_of_le
abbrev FO:=@Option.map_eq_some_iff
abbrev FP:=@List.nodup_cons
abbrev FQ:=@List.getElem?_append_left
abbrev FR:=@List.mem_iff_getElem
abbrev FT:=@List.getElem?_append_right
abbrev FU:=@List.length_cons
abbrev FV:=@Nat.zero_le
abbrev FW:=@List.mem_range
abbrev FX:=@Int.emod_lt_of_pos
abbrev FY:=@List.mem_of_find?_eq_some
abbrev FZ:=@List.getElem_mem
abbrev G9:=@List.length_range
abbrev Gd:=@List.not_mem_nil
abbrev Ge:=@Int.fmod_eq_emod_of_nonneg
abbrev Gf:=@PySem.wpAny_callSpecial?_slot
abbrev Gg:=@List.length_singleton
abbrev Gh:=@PySem.Heap.get?_update_self
abbrev Gi:=@Int.emod_nonneg
abbrev Gj:=@PySem.Heap.SameBut.update
abbrev Gk:=@PySem.wpAny_holding
abbrev Gm:=@PySem.wpAny_field
abbrev Gn:=@Int.dvd_mul_of_dvd_right
abbrev Gp:=@List.nil_append
abbrev Gq:=@Int.toNat_natCast
abbrev Gr:=@Nat.ne_of_gt
abbrev Gs:=@List.take_append_drop
abbrev Gu:=@List.getElem?_eq_none
abbrev Gv:=@Int.dvd_of_emod_eq_zero
abbrev Gw:=@List.mem_zipIdx_iff_getElem?
abbrev Gx:=@PySem.W.mg_of
abbrev Gy:=@Option.isSome_iff_exists
abbrev Gz:=@List.getElem?_take_of_lt
abbrev b48:=@Bool.false_eq_true
abbrev GB:=@List.flatMap_append
abbrev GC:=@List.filter_cons
abbrev GD:=@PySem.Obj.data_mapFields
abbrev GF:=@List.map_nil
abbrev GG:=@PySem.wpAny_setField
abbrev GH:=@Bool.eq_iff_iff
abbrev GI:=@PySem.wpAny_call_entry
abbrev GJ:=@Nat.lt_succ_self
abbrev GK:=@PyProof.Rows.callWith_type1
abbrev GL:=@List.take_add_one
abbrev GN:=@List.size_toArray
abbrev GO:=@Int.emod_eq_of_lt
abbrev GQ:=@List.map_uncurry_zip_eq_zipWith
abbrev GR:=@PySem.wpAny_Call_Name_kw
abbrev GS:=@Nat.lt_irrefl
abbrev GU:=@List.foldl_cons
abbrev GV:=@List.take_of_length_le
abbrev GW:=@Array.getElem?_eq_getElem
abbrev GX:=@PySem.wpAny_mono
abbrev GY:=@PySem.wpAny_typeNameOfWhole_keyiter
abbrev GZ:=@PySem.W.kia_one
abbrev Ha:=@PySem.F.slot_dict_keyiterator_next
abbrev Hb:=@List.find?_eq_none
abbrev He:=@Bool.and_eq_true
abbrev Hf:=@PySem.wpAny_newObj_type
abbrev Hg:=@Array.getElem?_eq_some_iff
abbrev Hh:=@List.getElem?_range
abbrev Hi:=@List.length_zip
abbrev Hk:=@List.find?_some
abbrev Hl:=@List.find?_cons
abbrev Hm:=@List.drop_eq_getElem_cons
abbrev Hn:=@PySem.Obj.isFreed_of_fields
abbrev Ho:=@Int.emod_add_mul_ediv
abbrev Hq:=@PySem.wpAny_isInstance
abbrev Hr:=@List.mem_flatMap
abbrev Hs:=@List.filter_append
abbrev Ht:=@List.all_eq_true
abbrev Hu:=@PySem.wpAny_attempt
abbrev Hv:=@List.map_take
abbrev Hw:=@List.eq_of_mem_replicate
abbrev Hx:=@List.nodup_nil
abbrev Hy:=@List.flatMap_cons
abbrev Hz:=@Int.emod_eq_zero_of_dvd
abbrev HA:=@if_false
abbrev HB:=@List.replicate_succ
abbrev HD:=@List.getElem_of_mem
abbrev HE:=@List.filter_eq_nil_iff
abbrev HF:=@Int.dvd_add
abbrev HG:=@True.intro
abbrev HH:=@List.of_mem_zip
abbrev HI:=@List.length_nil
abbrev HJ:=@PySem.wpAny_truthy_bool
abbrev HK:=@PySem.wpAny_loadPart_at
abbrev HL:=@List.pairwise_map
abbrev HM:=@List.getElem?_set
abbrev HN:=@List.find?_isSome
abbrev HP:=@Int.dvd_sub
abbrev HQ:=@PySem.wpAny_seqItems
abbrev b4s:=@PySem.isSubtype_stop
abbrev HS:=@PySem.Heap.size_push
abbrev HU:=@List.getElem?_replicate_of_lt
abbrev HV:=@Int.mul_le_mul_of_nonneg_left
abbrev HW:=@decide_eq_true_iff
abbrev HX:=@List.zipIdx_append
abbrev HY:=@PySem.Code.quiet_builtin
abbrev HZ:=@PySem.Calls.callWith_builtin
abbrev I0:=@Array.getElem?_eq_none
abbrev Ia:=@PySem.wpAny_passesOwn
abbrev Ib:=@List.getElem?_zipWith
abbrev Ie:=@PySem.wpAny_dictEntries
abbrev Ig:=@Nat.lt_succ_of_lt
abbrev Ih:=@List.ext_getElem?
abbrev Ii:=@List.Pairwise.map
abbrev Ij:=@List.take_zero
abbrev Ik:=@decide_eq_decide
abbrev Il:=@PySem.codeAny_mono
abbrev Im:=@Nat.succ_mul
abbrev Io:=@List.lookup_cons
abbrev Ip:=@Int.emod_eq_emod_iff_emod_sub_eq_zero
abbrev Iq:=@List.mem_take_iff_getElem
abbrev Ir:=@PySem.mem_of_lookup
abbrev Iu:=@List.filter_sublist
abbrev Iv:=@List.filterMap_cons
abbrev Iw:=@beq_iff_eq
abbrev Iy:=@PySem.W.callWith_K
abbrev Iz:=@Nat.lt_of_le_of_lt
abbrev IB:=@List.getElem?_drop
abbrev IC:=@List.length_eq_zero_iff
abbrev ID:=@Int.dvd_mul_of_dvd_left
abbrev IE:=@PySem.wpAny_typeOf
abbrev IF:=@PySem.wpAny_pyIter_list
abbrev IG:=@or_false
abbrev IH:=@Nat.mul_le_mul
abbrev II:=@Nat.le_of_eq
abbrev IJ:=@List.take_sublist
abbrev IK:=@List.getElem?_set_self
abbrev a7D:=@List.forIn_nil
abbrev IM:=@List.flatten_cons
abbrev IP:=@List.find?_append
abbrev IQ:=@PySem.plainObj_wpAny_Assign_Attribute
abbrev IS:=@Array.getElem?_setIfInBounds_ne
abbrev IT:=@PySem.wpAny_notOrdered_dict
abbrev IU:=@Nat.le_of_ble_eq_true
abbrev IV:=@PySem.wpAny_rule
abbrev IW:=@PySem.call_meets
abbrev IX:=@List.length_drop
abbrev b12:=@PySem.F.args_dict_keyiterator_next_1
abbrev IZ:=@PySem.wpAny_standAt
abbrev J0:=@List.map_drop
abbrev J1:=@List.any_cons
abbrev J2:=@Int.le_of_dvd
abbrev J3:=@List.take_append_of_le_length
abbrev J4:=@List.mem_of_mem_take
abbrev J9:=@List.mem_erase_of_ne
abbrev Ja:=@List.getElem_zipWith
abbrev Jb:=@List.getElem?_set_ne
abbrev Jc:=@List.eq_nil_of_length_eq_zero
abbrev a7J:=@PySem.F.entry_dict_keyiterator_next
abbrev Je:=@PySem.wpAny_execs_nil
abbrev Jf:=@PySem.wpAny_dictEpoch
abbrev Jg:=@PySem.codeAny_builtin
abbrev Jh:=@Nat.not_lt_zero
abbrev b5L:=@List.forIn_cons
abbrev Jj:=@beq_eq_false_iff_ne
abbrev Jk:=@List.filter_eq_self
abbrev Jl:=@PySem.BindsTo.of_defaults
abbrev Jm:=@Nat.le_of_lt
abbrev Jn:=@Int.zero_add
abbrev Jo:=@Int.mul_comm
abbrev Jp:=@PySem.wpAny_call
abbrev Jq:=@List.zip_cons_cons
abbrev Jr:=@List.getElem?_zip_eq_some
abbrev Js:=@PySem.sizeLine_eq
abbrev Jt:=@PySem.Obj.cls_mapFields
abbrev Ju:=@List.foldl_append
abbrev Jv:=@List.filter_congr
namespace L2
open PySem PySem.Spec PyProof.Rows
abbrev Dx:=Sum Int Str
theorem qy:Dx->Value->Bool
 | .inl k,v=>Value.isInt k v
 | .inr x,v=>Value.isStrOf x v
theorem a5a (w):Dx->Int
 | .inl k=>hashInt k
 | .inr x=>hashStr w x
def be:∀ {k:Dx}{v:Value},qy k v=true->(∃ i t,k=Sum.inl i/\v=Value.int i t)\/(∃ x t,k=Sum.inr x/\v=Value.str x t)
 | .inl i,v,h=>by let#[t,e]:=Value.isInt_shape h;show .inl #[i,t,1,e]
 | .inr x,v,h=>by let#[t,e]:=Value.isStrOf_shape h;show .inr #[x,t,1,e]
def c2L (i:Int)(t:Tok):qy (.inl i) Wp=true:=by simp[qy,Value.isInt]
def b9u (x)(t:Tok):qy Xd (.str x t)=true:=by simp[qy,Value.isStrOf]
def a9a (a b:Int):decide ((Sum.inl a:Dx)=Sum.inl b)=(a==b):=by grind
def PPs (a b:Str):decide ((Sum.inr a:Dx)=Sum.inr b)=decide (a=b):=by grind
def a7R (a:Int)(b:Str):decide ((Sum.inl a:Dx)=Sum.inr b)=false:=F5 b8o
def c0f (a:Str)(b:Int):decide ((Sum.inr a:Dx)=Sum.inl b)=false:=F5 b8o
abbrev _root_.É:=Program
theorem aM (prog:É)(w):PySem.KeyKind prog w Dx where
 is:=qy
 hash:=a5a w
 inj:=λv a b ha hb=>by
  rcases be ha with⟨i,t,rfl,rfl⟩|⟨x,t,rfl,rfl⟩
  ·rcases be hb with⟨j,u,rfl,e⟩|⟨y,u,rfl,e⟩
   ·injection e with e1 _;rw[e1]
   ·show nomatch e
  ·rcases be hb with⟨j,u,rfl,e⟩|⟨y,u,rfl,e⟩
   ·show nomatch e
   ·injection e with e1 _;rw[e1]
 byValue:=λk v h=>by
  rcases be h with⟨i,t,rfl,rfl⟩|⟨x,t,rfl,rfl⟩ <;> rfl
 pyHash:=λhv h=>by
  rcases be hv with⟨i,t,rfl,rfl⟩|⟨x,t,rfl,rfl⟩
  ·show wpAny_pyHash_int h
  ·show wpAny_pyHash_str h
 eqBool:=λhu hv h=>by
  rcases be hu with⟨i,t,rfl,rfl⟩|⟨x,t,rfl,rfl⟩
  ·rcases be hv with⟨j,u,rfl,rfl⟩|⟨y,u,rfl,rfl⟩
   ·rw[a9a]at h;show wpAny_eqBool_int h
   ·rw[a7R]at h;show SeqAt.EqAt.int_str i t y u _ _ _ _ h
  ·rcases be hv with⟨j,u,rfl,rfl⟩|⟨y,u,rfl,rfl⟩
   ·rw[c0f]at h;show SeqAt.EqAt.str_int x t j u _ _ _ _ h
   ·rw[PPs]at h;show wpAny_eqBool_str h
 «strs»:=λk x t v h=>by
  rcases be h with⟨i,u,rfl,e⟩|⟨y,u,rfl,e⟩
  ·show nomatch e
  ·injection e with e1 _
   subst e1
   cases v <;> rfl
def a9L (prog:É)(w)(i:Int)(t:Tok):(aM prog w).is (.inl i) Wp=true:=c2L i t
def a8i (prog:É)(w)(x)(t:Tok):(aM prog w).is Xd (.str x t)=true:=b9u x t
inductive V where
 |non|bl (b:Bool)|int (i:Int)|str (x:Str)|byt (b:Array UInt8)|flt (b:UInt64)|ref (a:Addr)|ty (n:String)
 deriving DecidableEq
theorem wF:V->Value->Prop
 | .non,u=>u=Value.none
 | .bl b,u=>u=Value.bool b
 | .int i,u=>∃ t,u=Value.int i t
 | .str x,u=>∃ t,u=Value.str x t
 | .byt b,u=>∃ t,u=Value.bytes b t
 | .flt b,u=>∃ t,u=Value.float b t
 | .ref a,u=>u=Value.ref a
 | .ty n,u=>u=Value.type n
abbrev lA:List V->List Value->Prop:=Paired wF
def lA.length (r:lA xs us):xs.length=us.length:=Paired.length r
abbrev _root_.π:=List V
abbrev _root_.θ:=List Value
def lA.get:∀ {xs:π}{us:θ}{i:Nat}{x:V},lA xs us->xs[i]?=!x->∃ u,us[i]?=!u/\wF x u:=by
 intro xs us i x h
 induction h generalizing i with
 | nil=>intro e;simp at e
 | cons r t ih=>
  intro e
  cases i with
  | zero=>simp_all
  | succ i=>show ih qq
def lA.set (r:wF x u):∀ {xs:π}{us:θ} (i:Nat),lA xs us->lA (xs.set i x) (us.set i u)
 | _,_,_,.nil=>.nil
 | _,_,0,.cons _ t=>.cons r t
 | _,_,i+1,.cons q t=>.cons q (lA.set r i t)
def lA.append:∀ {xs ys:π}{us ws:θ},lA xs us->lA ys ws->lA (xs++ys) (us++ws):=by
 intro xs ys us ws h s
 induction h with
 | nil=>show s
 | cons r _ ih=>show .cons r ih
def lA.take:∀ {xs:π}{us:θ} (n:Nat),lA xs us->lA (xs.take n) (us.take n)
 | _,_,0,_=>.nil
 | _,_,_+1,.nil=>.nil
 | _,_,n+1,.cons r t=>.cons r (lA.take n t)
def lA.drop:∀ {xs:π}{us:θ} (n:Nat),lA xs us->lA (xs.drop n) (us.drop n)
 | _,_,0,r=>r
 | _,_,_+1,.nil=>.nil
 | _,_,n+1,.cons _ t=>lA.drop n t
theorem N6:Option V->Option Value->Prop
 | some v,some u=>wF v u
 | none,none=>True
 | _,_=>False
theorem KV {κ:Type}:List (κ×V)->List (κ×Value)->Prop:=Paired λ(p:κ×V) (q:κ×Value)=>p.1=q.1/\wF p.2 q.2
theorem kV:Dx->V
 | .inl i=>.int i
 | .inr x=>.str x
abbrev _root_.Ò:=Array Value
abbrev _root_.Î:=List (Str×V)
abbrev _root_.ξ:=List (Dx×V)
inductive HO where
 |lst (xs:π)
 |tup (xs:π)
 |dK (ķ:ξ)|dT (ķ:List x0)
 |set (S:Int->Bool) (n:Nat)
 |ins (C dx:Addr) (fs:Î)
 |own (x:Addr)
 |xd (fs:Î)
 |met (f x:Addr)
 |rng (lo hi:Int)
 |frz (o:Obj) (u:HO)
 |tbl (ps:Ò)
 |ext (φ:Heap->Prop)
abbrev Hp:=Addr->Option HO
theorem upd (H)(a:Addr)(o:HO):Hp:=λb=>if b=a then some o else H b
def ae:upd H a o a=!o:=by unfold upd;rw[if_pos rfl]
def a8 (h:b≠a):upd H a o b=H b:=by unfold upd;rw[if_neg h]
def cG {H:Hp}(h:H a=!o)(h':H b=!u)(d:o≠u):a≠b:=by intro e;subst e;rw[h]at h';show d (Option.some.inj h')
def ak {H:Hp}(h:H a=!o)(h':H b=none):a≠b:=by intro e;subst e;rw[h]at h';cases h'
section
variable (P:É)(w:World)
theorem JR (H)(h:Heap)(a:Addr):HO->Prop
 | .lst xs=>xs.length<=sizeLine/\∃ (its:θ)(n:Nat),lA xs its/\h.get? a=!{ cls:=.type "list",data:=.seq its.toArray n }
 | .tup xs=>xs.length<=sizeLine/\∃ its:θ,lA xs its/\IsTup h a its.toArray
 | .dK ķ=>ķ.length<=sizeLine/\(a==sysModules)=false/\∃ vs,KV ķ vs/\h.DictOf tT a vs
 | .dT ķ=>ķ.length<=sizeLine/\(a==sysModules)=false/\∃ xs:List Z0,
   Paired (λ(p:List Dx×V) (q:List Dx×Addr×Value)=>p.1=q.1/\H q.2.1=!.tup (p.1.map kV)/\wF p.2 q.2.2) ķ xs/\
   ∃ o es ep,h.get? a=!o/\o.ExactDict/\o.data=.dict es ep/\es.toList=xs.map (entryOfKey (tupleKind tT))/\(xs.map (·.1)).Nodup
 | .set S n=>h.SetOf (intKind P w) a S n
 | .ins C dx fs=>H dx=!.own a/\fs.length<=1000/\dx≠a/\h.get? a=!W.instObj C dx/\
   ∃ mA,h.Ns1 dx mA/\(∀ f,N6 Bz (mA f))/\PySem.Within mA (fs.map (·.1))
 | .own _=>∃ o,h.get? a=!o
 | .xd fs=>∃ mA,h.Ns1 a mA/\∀ f,N6 Bz (mA f)
 | .rng lo hi=>∃ t u v,h.get? a=!{ cls:=.type "range",data:=.fields [Ag].toArray }
 | .frz o u=>h.get? a=!o/\JR H h a u
 | .tbl ps=>h.get? a=!{ cls:=.none,data:=.fields ps }
 | .met f x=>h.get? a=!W.methodObj xI sB
 | .ext φ=>φ h/\(∃ o,h.get? a=!o)/\∀ h1 h2:Heap,φ h1->(∀ o,h1.get? a=!o->h2.get? a=!o)->φ h2
theorem MS (H)(h:Heap):Prop:=∀ a o,H a=!o->JR P w H h a o
universe e
def eV (x:JR P w H h a o):∃ ob,h.get? a=!ob:=by
 cases o with
 | lst xs=>let⟨_,_,_,_,e⟩:=x;show#[_,e]
 | tup xs=>let⟨_,_,_,ob,e,_⟩:=x;show#[_,e]
 | dK ķ=>let⟨_,_,_,_,o,_,_,e,_⟩:=x;show#[_,e]
 | dT ķ=>let⟨_,_,_,_,o,_,_,e,_⟩:=x;show#[_,e]
 | set S n=>let⟨o,_,_,_,e,_⟩:=x;show#[_,e]
 | ins C dx fs=>let⟨_,_,_,e,_⟩:=x;show#[_,e]
 | own y=>let⟨_,e⟩:=x;show#[_,e]
 | xd fs=>let⟨_,⟨_,_,_,e,_⟩,_⟩:=x;show#[_,e]
 | rng lo hi=>let⟨_,_,_,e⟩:=x;show#[_,e]
 | frz ob u=>let⟨e,_⟩:=x;show#[_,e]
 | tbl ps=>show#[_,x]
 | met f y=>show#[_,x]
 | ext φ=>let⟨_,⟨_,e⟩,_⟩:=x;show#[_,e]
def JR.lt (x:JR P w H h a o):a<h.objs.size:=let ⟨_,e⟩:=eV x;Fe e
def Paired.Lx:∀ {l₁:List α}{l₂:List β},Paired F l₁ l₂->(∀ a b,F a b->G a b)->Paired G l₁ l₂:=by
 intro l m h f
 induction h with
 | nil=>show .nil
 | cons r _ ih=>show .cons (f _ _ r) ih
def Paired.imp' (f:∀ a b,F a b->G a b)(r:Paired F l₁ l₂):Paired G l₁ l₂:=Paired.Lx r f
def JR.KN (x:JR P w H h a o)(k:∀ b u,(b=a\/H b=!.own a)->h.get? b=!u->h'.get? b=!u)(ho:∀ b,H b=!.own a->H' b=!.own a)(ht:∀ b xs,H b=!.tup xs->H' b=!.tup xs):JR P w H' h' a o:=by
 induction o with
 | lst xs=>let⟨z,its,n,r,e⟩:=x;show#[tu,k _ _ ĵ e]
 | tup xs=>let⟨z,its,r,ob,e,c⟩:=x;show#[z,its,r,ob,Cd]
 | dK ķ=>let⟨z,y,vs,r,ob,es,ep,e,c⟩:=x;show#[z,y,vs,r,ob,Ov,Cd]
 | dT ķ=>
  let#[z,y,xs,r,ob,Ov,e,c]:=x;show#[z,y,xs,Paired.Lx r λp q z=>#[z.1,ht _ _ z.2.1,z.2.2],ob,Ov,Cd]
 | set S n=>let⟨ob,es,ep,t,e,c⟩:=x;show#[ob,Ov,t,Cd]
 | ins C dx fs=>
  let#[d,z,ne,e,mA,#[od,Ov,e2,c],r]:=x;show#[ho _ d,z,ne,k _ _ ĵ e,mA,#[od,Ov,k _ _ (.inr d) e2,c],r]
 | own y=>let⟨ob,e⟩:=x;show#[ob,k _ _ ĵ e]
 | xd fs=>let⟨mA,⟨od,es,ep,e,c⟩,r⟩:=x;show#[mA,#[od,Ov,Cd],r]
 | rng lo hi=>let⟨t,u,v,e⟩:=x;show#[t,u,v,k _ _ ĵ e]
 | frz ob u ih=>let⟨e,q⟩:=x;show#[k _ _ ĵ e,ih q]
 | tbl ps=>
  let e:=x;show k a _ ĵ e
 | met f y=>
  let e:=x;show k a _ ĵ e
 | ext φ=>let⟨p,⟨o,e⟩,st⟩:=x;show#[st _ _ p λo q=>k _ _ ĵ q,#[o,k _ _ ĵ e],st]
def MS.lt (x:MS P w H h)(e:H a=!o):a<h.objs.size:=(x a o e).lt
def MS.fresh (x:MS P w H h)(e:h.objs.size<=a):H a=none:=by
 cases q:H a with
 | none=>rfl
 | some u=>show absurd (FN (x.lt q) e) nr
def MS.kept (x:MS P w H h)(k:∀ b u,h.get? b=!u->h'.get? b=!u):MS P w H h':=λa o e=>
 (x a o e).KN (λb u _ q=>k b u q) ZP λ_ _ q=>q
def MS.laid (x:MS P w H h)(k:∀ b u,h.get? b=!u->h'.get? b=!u)(hp:h.objs.size<=a)(new:JR P w BH h' a o):MS P w BH h':=λb u e=>by
 let hn:=x.fresh hp;by_cases hb:b=a
 ·grind [ae]
 ·rw[a8 hb]at e;show (x b u e).KN (λc v _ q=>k c v q) (λc q=>by rw[a8<|ak q hn];show q) λc xs q=>by rw[a8<|ak q hn];show q
theorem Rd (H)(a:Addr)(u:HO):Prop:=H a=!u\/∃ o,H a=!.frz o u
def Rd.ok (r:Rd H a u)(x:MS P w H h):JR P w H h a u:=by
 rcases r with r|⟨o,r⟩
 ·show x a u r
 ·let#[_,q]:=x a _ r;show q
theorem i4:Option HO->Prop
 | some (.lst _)=>True
 | some (.dK _)=>True
 | some (.dT _)=>True
 | some (.set _ _)=>True
 | some (.ins _ _ _)=>True
 | some (.ext _)=>True
 | _=>False
def MS.write (ok:MS P w H h)(mu)(he:e=x\/H e=!.own x)(k:∀ b u,b≠e->h.get? b=!u->h'.get? b=!u)(Zx)(new:JR P w (upd H x o') h' x o'):MS P w (upd H x o') h':=λb u q=>by
 let a40:∀ c y,H c=!.own y->c≠x:=λc y r z=>by subst z;rw[r]at mu;show mu
 let a4Z:∀ c xs,H c=!.tup xs->c≠x:=λc xs r z=>by subst z;rw[r]at mu;show mu
 by_cases hb:b=x
 ·grind [ae]
 ·rw[a8 hb]at q;by_cases Tx:b=e
  ·let q':H b=!.own x:=by
    simp_all
   rw[q]at q';cases q';let#[v,hv]:=Zx;show#[v,by rw[Tx];show hv]
  ·show (ok b u q).KN (λc v hc r=>k c v ?_ r) (λc r=>by rw[a8<|a40 c b r];show r) λc xs r=>by rw[a8<|a4Z c xs r];show r
   grind
abbrev _root_.υ:=List Addr
structure Un (fs ex:υ) (H H':Hp) (h h':Heap):Prop where
 keep:∀ b o,h.get? b=!o->H b=none->b∉fs->b∉ex->h'.get? b=!o
 slot:∀ b o,h.get? b=!o->H b=none->b∈fs->b∉ex->∃ sl,h'.get? b=!{ o with slots:=sl }
 free:∀ b o,h.get? b=!o->H b=none->b∉ex->H' b=none
 there:∀ b o,h.get? b=!o->b∉ex->∃ o',h'.get? b=!o'
 OE:∀ b xs,H b=!.tup xs->H' b=!.tup xs
 NW:∀ b o u,H b=!.frz o u->H' b=!.frz o u
section
variable {fs ex:υ}{H:Hp}{h h':Heap}{a:Addr}{o:HO}
def Un.any (u:Un fs ex H H1 h h1)(q:h.get? b=!ob)(n:H b=none)(hx:b∉ex):∃ sl,h1.get? b=!{ ob with slots:=sl }:=by
 by_cases hb:b∈fs
 ·show u.slot b ob q n hb hx
 ·show#[ob.slots,u.keep b ob q n hb hx]
def Un.kept (k:∀ b u,h.get? b=!u->h'.get? b=!u):Un fs ex H H h h':=
 #[λb ob q _ _ _=>k b ob q,λb ob q _ _ _=>#[ob.slots,k b ob q],λ_ _ _ n _=>n,λb ob q _=>#[ob,k b ob q],λ_ _ q=>q,λ_ _ _ q=>q]
def Un.refl:Un fs ex H H h h:=Un.kept λ_ _ q=>q
def Un.laid (k:∀ b u,h.get? b=!u->h'.get? b=!u)(hp:h.objs.size<=a)(hn:H a=none):Un fs ex H BH h h' where
 keep:=λb u q _ _ _=>k b u q
 slot:=λb u q _ _ _=>#[u.slots,k b u q]
 free:=λb u q n _=>by rw[a8<|FK (FN (Fe q) hp)];show n
 there:=λb u q _=>#[u,k b u q]
 OE:=λb xs q=>by rw[a8<|ak q hn];show q
 NW:=λb u xs q=>by rw[a8<|ak q hn];show q
def Un.write (mu)(he:e=x\/H e=!.own x)(k:∀ b u,b≠e->h.get? b=!u->h'.get? b=!u)(Zx):Un fs ex H b6g h h':=by
 let hx:∀ b,H b=none->b≠x:=λb n z=>by subst z;rw[n]at mu;show mu
 let hb:∀ b,H b=none->b≠e:=λb n z=>by
  simp_all
 let hm:∀ b u,H b=!u->¬ i4 !u->b≠x:=λb u q nm z=>by simp_all
 show#[λb u q n _ _=>k b u (hb b n) q,λb u q n _ _=>#[u.slots,k b u (hb b n) q],λb u q n _=>by rw[a8<|hx b n];show n,λb u q _=>?_,
  λb xs q=>by rw[a8<|hm b _ q λz=>z];show q,λb u xs q=>by rw[a8<|hm b _ q λz=>z];show q]
 by_cases Tx:b=e
 ·subst Tx;show Zx
 ·show#[u,k b u Tx q]
universe e
theorem trk (h:Heap)(H):υ:=(List.range h.objs.size).filter λa=>(H a).isSome
theorem pp (h:Heap)(H):Heap:=W.hideAll h (trk h H)
def b6A (h:Heap)(H):(pp h H).objs.size=h.objs.size:=W.hideAll_size _ _
def a5e (e:h.get? b=!o)(n:H b=none):(pp h H).get? b=!o:=
 W.hideAll_get _ e λhm=>by
  let q:=(Fj.mp hm).2
  simp_all
def Fn0 (e:(pp h H).get? b=!o):h.get? b=!o/\H b=none:=by
 let e':=W.of_hideAll _ e;show#[e',?_]
 cases q:H b with
 | none=>rfl
 | some x=>
  let hm:b∈trk h H:=Fj.mpr #[FW.mpr<|Fe e',by simp[q]];let z:(pp h H).get? b=none:=W.hideAll_none _ hm;rw[z]at e;cases e
theorem Na (h:Heap)(ea):Prop:=∃ oe ws,h.get? ea=!oe/\oe.data=.fields ws/\ws[2]?=!.none
def Na.at (x:Na h ea)(k:∀ o,h.get? ea=!o->h'.get? ea=!o):Na h' ea:=let ⟨oe,ws,a,b,c⟩:=x;#[wW,k _ a,b,c]
def b4v:entryFor table "proto.unchain"=some Builtin.«proto.unchain»:=entryFor_of_tree uQ
abbrev _root_.Ë:=Around
theorem Ca (A:Ë)(h:Heap)(it):Prop:=A.handled=none\/∃ ea,A.handled=!.ref ea/\ea≠it/\Na h ea
def Ca.at (x:Ca A h it)(k:∀ ea o,ea≠it->h.get? ea=!o->h'.get? ea=!o):A.handled=none\/∃ ea,A.handled=!.ref ea/\Na h' ea:=x.imp id λJ'=>by let#[ea,sH]:=J';show#[ea,a,c.at λo=>k ea o b]
def Ca.to (x:Ca A h it)(k:∀ ea o,ea≠it->h.get? ea=!o->h'.get? ea=!o):Ca A h' it:=x.imp id λJ'=>by let#[ea,sH]:=J';show#[ea,a,b,c.at λo=>k ea o b]
def a9o (c:Ca A s.heap a)(ha:s.heap.get? a=!oa)(hd:oa.data=.fields vs)(hz:2<vs.size)(h:∀ h',(∀ b o,b≠a->s.heap.get? b=!o->h'.get? b=!o)->(∃ o,h'.get? a=!o/\o.cls=oa.cls)->E xV { s with heap:=h' }):wpAny Ē A (raiseNew xV:Sem α) Q E s:=by
 show EN (wpAny_handled ?_);rcases c with hh|⟨ea,hh,ne,oe,ws,he,hde,h2⟩
 ·rw[hh];show EN (F6<|wpAny_throw (h _ (λb o _ e=>e) #[_,ha,1]))
 ·rw[hh];change wpAny _ _ (if _=true then _ else throw _) _ _ s;rw[if_pos<|by simpa using ne];show EN<|Gk (wpAny_runValue (Jg b4v ?_));show EN (Gm he hde h2 ?_);show F6 ?_;show EN ?_;show GG ha hd hz (wpAny_throw<|h _ (λb o n e=>(FH _ _<|Ne.symm n).trans e) #[_,Gh _ ha<|Hn (GD hd _),Jt ..])
def dJ (c:A.handled=none\/∃ ea,A.handled=!.ref ea/\Na s.heap ea)(h:∀ h' e,uZ->(∃ o,h'.get? e=!o/\o.cls=.type "StopIteration")->E lC { s with heap:=h' }):wpAny Ē A (newExc (.type "StopIteration") [] >>= λx=>(raiseNew x:Sem α)) Q E s:=by
 show EN ?_;show EN b4N;show EN (wpAny_of_eq (by first|rfl|(rfl)) ?_);show Hf ?_ (by size_fits);let un:∀ b o,s.heap.get? b=some o->∀ p,b≠(s.heap.push p).objs.size:=λb o e p=>by rw[HS];show FK (Ig<|Fe e)
 let up:∀ b o,s.heap.get? b=!o->∀ p q,((s.heap.push p).push q).get? b=!o:=λb o e p q=>EV _<|EV _ e;show a9o (c.imp id λJ'=>(by let#[ea,a,wW,b,d]:=J';show#[c2X,up _ _ b _ _,d])) (Fp _ rfl) rfl (by simp only[Array.size_append,GN,FU];lia)
  λh' k t=>h _ _ (λb o e=>k b o (un b o e _)<|up b o e _ _) t
def vj {items}(hh)(hit:s.heap.IsListIter it l i)(hl:s.heap.IsList l items)(hx:items[i]?=none)(hQ):wpAny Ē A ň Q E s:=by
 let#[o,i6]:=id hit;let#[c16]:=hl;show EN (Hu (Gf hit.typeIs slot_listiter_next
  (GI slot_listiter_next hit.typeIs entry_listiter_next ?_<|args_listiter_next _)))
 change wpAny _ _ jv _ _ s;show EN h9;show EN h9;show EN tY;simp only[Gq,hx];show EN<|IV (EN (GG ho hd (by simp) ?_));show dJ (hh.at λea o ne q=>(Gj ..).extBut ea o ne q) fun h' e hk ⟨o,ho,hc⟩=>EN yP;show F6 ĩ
def c3g {items}(hh)(hit:s.heap.IsTupleIter it t i)(ht:s.heap.IsTuple t items)(hx:items[i]?=none)(hQ):wpAny Ē A ň Q E s:=by
 let#[o,i6]:=id hit;let#[c16]:=ht;show EN (Hu (Gf hit.typeIs F.slot_tuple_iterator_next
  (GI F.slot_tuple_iterator_next hit.typeIs F.entry_tuple_iterator_next ?_<|F.args_tuple_iterator_next_1 _)))
 change wpAny _ _ jv _ _ s;show EN h9;show EN h9;show EN tY;simp only[Gq,hx];show EN<|IV (EN (GG ho hd (by simp) ?_));show dJ (hh.at λea o ne q=>(Gj ..).extBut ea o ne q) fun h' e hk ⟨o,ho,hc⟩=>EN yP;show F6 ĩ
def c3o {step:Int}(hh)(hit:IsRangeIter s.heap it x left step)(a1Y:left<=0)(hQ):wpAny Ē A ň Q E s:=by
 let hT:s.TypeIs ś "range_iterator":=#[_,hit,1]
 show EN (Hu (Gf hT F.slot_range_iterator_next
  (GI F.slot_range_iterator_next hT F.entry_range_iterator_next ?_<|F.args_range_iterator_next_1 _)))
 change wpAny _ _ jv _ _ s;show EN wg;show EN wg;show EN wg;change wpAny _ _ (if left<=0 then _ else _) _ _ s;rw[if_pos a1Y];show EN (IV ?_);show EN ?_;show dJ (hh.at λea o ne q=>q) fun h' e hk ⟨o,ho,hc⟩=>EN yP;show F6 (hQ _ λb o hb x=>hk b o<|x)
def Dw {items}(hh)(hit:IsTupIter s.heap it t i)(ht:IsTup s.heap t items)(hx:items[i]?=none)(hQ):wpAny Ē A ň Q E s:=by
 let#[o,i6]:=id hit;let#[c16]:=ht;show EN (Hu (Gf hit.typeIs slot_tupleiter_next
  (GI slot_tupleiter_next hit.typeIs entry_tupleiter_next ?_<|args_tupleiter_next _)))
 change wpAny _ _ jv _ _ s;show EN h9;show EN h9;show EN tY;simp only[Gq,hx];show EN<|IV (EN (GG ho hd (by simp) ?_));show dJ (hh.at λea o ne q=>(Gj ..).extBut ea o ne q) fun h' e hk ⟨o,ho,hc⟩=>EN yP;show F6 ĩ
def jk (hh:Ca A s.heap s.heap.objs.size)(ht:IsTup s.heap t items)(hQ:∀ h',Heap.ExtBut s.heap.objs.size s.heap h'->Q items.toList { s with heap:=h' }):wpAny Ē A (unpackItems j5 items.size none) Q E s:=by
 let LY:t≠s.heap.objs.size:=by let#[o,ho,_]:=ht;show FK (Fe ho)
 show EN ?_
 ·show EN (wpAny_specialOf ht.typeIs slot_tuple_iter.lookup ?_);show F6 ?_;show EN<|Gk (iter_tuple ht ?_);show EN<|Gk (draw_tuple LY items.size 0 _ _ ⟨_,Fp _ rfl,rfl,rfl⟩ (ht.push _) #[] λh₁ hit₁ hs₁=>?_);let Oq:List.take items.size (List.drop 0 items.toList)=items.toList:=by show GV Ė
  rw[Oq];rw[if_neg<|by simp];let ht₁:=(ht.push _).extBut hs₁.extBut LY;show EN<|Gk (Dw (hh.to λea o ne q=>hs₁.extBut ea o ne<|EV _ q) hit₁ ht₁ (by simp) λh₂ he₂=>?_);show F6 (hQ h₂ λb o hb e=>he₂ b o hb<|hs₁.extBut b o hb (EV _ e))
def b9f (hh:Ca A s.heap s.heap.objs.size)(ht:IsTup s.heap t items)(hn:targets.length=items.size)(UD:targets.findIdx? (·.1)=none)(h:∀ h',Heap.ExtBut s.heap.objs.size s.heap h'->wpAny Ē A (assignInOrder (targets.map (·.2)) items.toList) Q E { s with heap:=h' }):
  wpAny Ē A (unpack j5 targets) Q E s:=by
 unfold unpack;rw[hn,UD];show EN (Gk<|jk hh ht h)
def a8w {x1}(hh:Ca A s.heap s.heap.objs.size)(ht:IsTup s.heap t items)(hn:(assignEach elts env).length=items.size)(UD:(assignEach elts env).findIdx? (·.1)=none)(h:∀ h',Heap.ExtBut s.heap.objs.size s.heap h'->wpAny Ē A (assignInOrder ((assignEach elts env).map (·.2)) items.toList) Q E { s with heap:=h' }):
  wpAny Ē A (assign (.Tuple elts x1 pos) env j5) Q E s:=by
 show EN (IZ<|b9f hh ht hn UD h)
abbrev _root_.ψ:=Option Addr
structure zL extends Heap where
 err:ψ
instance : CoeOut zL Heap := ⟨zL.toHeap⟩
abbrev Hd (b:zL)(A:Ë):Prop:=A.handled=b.err.map Value.ref
abbrev _root_.Ω:=Str->Option Value
abbrev _root_.Ψ:=W.Frag
structure Mod (K:Ψ) (mg:Ω) (base:zL):Prop where
 TZ:K.In base
 glob:base.Ns mainGlobals mg
 blt:∃ mb,base.Ns builtinsNs mb/\∀ x:Str,x≠"__name__"->mb x=bootBuiltins x
 nolimit:base.NoLimit
 a46:∀ ea,base.err=!ea->Na base ea
abbrev _root_.Ê:=Shared
abbrev _root_.ρ:=Value->Shared->Prop
abbrev _root_.η:=List Str
abbrev _root_.ζ:=List (Addr×Obj)
structure Cx where
 prog:É
 w:World
 K:Ψ
 mg:Ω
 base:zL
 A:Ë
 N:η
 s₀:Ê
 H₀:Hp
 env:Env
 outer:List Env
 stack:List Env
 ex:υ
 fn:Str->Bool
 calm:Bool
 pn:ζ
 xe:ρ
theorem OR (l:List Env):υ:=l.filterMap b7F
abbrev Cx.fs (X:Cx):υ:=OR X.outer
theorem ZL (sc)(x):Prop:=sc.names.lookup x=!.local\/sc.names.lookup x=!.cell\/sc.names.lookup x=!.free
theorem v6 (sc)(x):Prop:=sc.names.lookup x=!.local\/sc.names.lookup x=!.cell
theorem a3c (env:Env)(h:Heap)(m:Ω)(x)(u):Prop:=
 (env.kindOf x=!.local/\m x=!u)\/((env.kindOf x=!.cell\/env.kindOf x=!.free)/\∃ c,env.cells.lookup x=!c/\h.IsCell c !u)
structure Cx.Ok (X:Cx):Prop where
 mod:Mod X.K X.mg X.base
 kind:X.env.scope.kind=.function
 glob:X.env.globals=mainGlobals
 blt:X.env.builtins=builtinsNs
 above:X.s₀.heap.objs.size<=X.env.locals
 inj:∀ x y c,X.env.cells.lookup x=!c->X.env.cells.lookup y=!c->x=y
 has:∀ x,(X.env.kindOf x=some .cell \/ X.env.kindOf x=!.free)->∃ c,X.env.cells.lookup x=!c
 cab:∀ x c,X.fn x=true->X.env.cells.lookup x=!c->X.s₀.heap.objs.size<=c
 hd:X.calm=true->Hd X.base X.A
 frames:X.A.frames=!X.stack
 So:X.stack=X.outer \/ (X.stack=X.env::X.outer/\X.env.frame=!X.env.locals)
 exf:∀ b∈X.ex,b≠X.env.locals/\∀ x c,X.env.cells.lookup x=!c->c≠b
 bs:∀ b o,X.base.get? b=!o->X.s₀.heap.get? b=!o/\X.H₀ b=none
 U5:X.base.objs.size<=X.s₀.heap.objs.size
 QD:∀ b o,X.base.get? b=!o->b∉X.ex
 TJ:∀ b∈X.ex,b∉X.fs
 NU:X.s₀.heap.FunFrames X.base X.outer
 UR:∀ b∈X.fs,X.H₀ b=none
abbrev _root_.Ç:=Option V
structure Inv (X:Cx) (ñ:ζ) (σ:List Ç) (H:Hp) (s:Ê):Prop where
 ok:X.Ok
 os:s.os=X.s₀.os
 bare:AllBare s.gens
 base:Un X.fs X.ex X.H₀ H X.s₀.heap s.heap
 loc:∃ m,s.heap.Ns X.env.locals m/\∀ (i:Nat)(x:Str)(v:V),X.N[i]?=!x->σ[i]?=!some v->ZL X.env.scope x->∃ u,wF v u/\a3c X.env s.heap m x u
 cell:∀ x c,X.env.cells.lookup x=!c->∃ v,s.heap.IsCell c v
 free:H X.env.locals=none
 KP:∀ x c,X.env.cells.lookup x=!c->H c=none
 pin:∀ p∈X.pn++ñ,s.heap.get? p.1=!p.2/\H p.1=none/\p.1≠X.env.locals/\p.1∉X.fs/\∀ v,p.2.data≠.cell v
 JM:MS X.prog X.w H s.heap
 len:σ.length=X.N.length
def Cx.Ok.Up {X:Cx}(ok:X.Ok)(e:X.base.get? b=!o):b∉X.fs:=λhb=>by
 let:=(ok.NU.mem hb).1
 grind
def Inv.bs (I):∀ b o,X.base.get? b=!o->s.heap.get? b=!o/\H b=none:=λb o e=>
 #[I.base.keep b o (I.ok.bs b o e).1 (I.ok.bs b o e).2 (I.ok.Up e)<|I.ok.QD b o e,I.base.free b o (I.ok.bs b o e).1 (I.ok.bs b o e).2<|I.ok.QD b o e]
def Inv.bk (I):∀ b o,X.base.get? b=!o->s.heap.get? b=!o:=λb o e=>(I.bs b o e).1
def Inv.ca (I)(hc)(n:∀ o,X.base.get? it≠!o):Ca X.A s.heap it:=by
 let:=I.ok.hd hc
 cases q:X.base.err with
 | none=>show .inl (by rw[this,q];rfl)
 | some ea=>
  let#[wW,a,b]:=I.ok.mod.a46 ea q;show .inr #[ea,by rw[this,q];rfl,λz=>n oe<|z▸a,oe,ws,(I.bs _ _ a).1,b]
def Inv.caN (I)(hc):Ca X.A s.heap s.heap.objs.size:=I.ca hc λo e=>absurd (Fe (I.bs _ _ e).1) nr
def Inv.caF (I)(hc)(f:it∈X.ex\/X.s₀.heap.objs.size<=it):Ca X.A s.heap it:=I.ca hc λo e=>f.elim (I.ok.QD _ _ e) λz=>absurd (FN (Fe (I.ok.bs _ _ e).1) z) nr
def Inv.MX (I)(hc)(hn:X.base.err=none):X.A.handled=none:=by rw[I.ok.hd hc,hn];rfl
def Inv.mod (I):Mod X.K X.mg X.base:=I.ok.mod
def Inv.LR (I):X.K.In s.heap:=I.ok.mod.TZ.keeps I.bk
def Inv.lt (I):X.env.locals<s.heap.objs.size:=let ⟨_,hn,_⟩:=I.loc;hn.lt
def Inv.sz (I):X.s₀.heap.objs.size<=s.heap.objs.size:=Fs I.ok.above (Jm I.lt)
def Inv.a00 (I)(h:s.heap.objs.size<=a):a∉X.fs:=λhb=>by let#[_,o,ho,_]:=I.ok.NU.mem hb;show absurd (FN (Fe ho)<|Fs I.sz h) nr
def Inv.UX (I):∀ x c,X.env.cells.lookup x=!c->c≠X.env.locals:=λx c e z=>by
 let#[v,pX]:=I.cell x c e;let#[m,#[o',Ov,ho',NP,_],_]:=I.loc
 grind
def Inv.NU (I):s.heap.FunFrames X.base X.outer:=by
 let all:∀ (l:List Env),(∀ b∈OR l,b∈X.fs)->X.s₀.heap.FunFrames X.base l->s.heap.FunFrames X.base l:=by
  intro l
  induction l with
  | nil=>intro _ _;trivial
  | cons env r ih=>
   intro hs hl;let#[hk,#[L,o,hf,hn,ho,hd],hr]:=hl;let hL:=hs L (by unfold OR;rw[Iv,hf];show Fy);let#[sl,e]:=I.base.slot L o ho (I.ok.UR L hL) hL λz=>I.ok.TJ L z hL;show#[hk,#[L,_,hf,hn,e,hd],ih (λb hb=>hs b (by unfold OR;rw[Iv,hf];show Ft _ hb)) hr]
 show all X.outer (λ_ hb=>hb) I.ok.NU
def Inv.stack (I):s.heap.FunFrames X.base X.stack:=by
 rcases I.ok.So with e|⟨e,hf⟩
 ·rw[e];show I.NU
 ·rw[e];let#[m,hn,_]:=I.loc;show .cons (by rw[I.ok.kind];decide) hf hn ?_ I.NU;show Heap.get?_none_of_le (Fs I.ok.U5 I.ok.above)
def Inv.RJ (I):∀ b∈OR X.stack,b∈X.env.locals::X.fs:=λb hb=>by
 rcases I.ok.So with e|⟨e,hf⟩
 ·simp_all
 ·rw[e]at hb;unfold OR at hb;rw[Iv,hf]at hb;show hb
def Inv.Np (I):∀ b∈OR X.stack,H b=none:=λb hb=>by
 rcases Fw.mp (I.RJ b hb) with e|hb
 ·rw[e];show I.free
 ·let#[_,o,ho,_]:=I.ok.NU.mem hb;show I.base.free b o ho (I.ok.UR b hb) λz=>I.ok.TJ b z hb
def Inv.step {ch:υ}(I)(Tv)(keep:∀ b o,b≠X.env.locals->b∉X.fs->b∉ch->s.heap.get? b=!o->H b=none->h'.get? b=!o)(slot:∀ b o,b≠X.env.locals->b∈X.fs->b∉ch->s.heap.get? b=!o->H b=none->∃ sl,h'.get? b=!{ o with slots:=sl })(free:∀ b o,b∉ch->s.heap.get? b=!o->H b=none->H' b=none)(there:∀ b o,b∉ch->s.heap.get? b=!o->∃ o',h'.get? b=!o')(OE:∀ b xs,H b=!.tup xs->H' b=!.tup xs)(NW:∀ b o u,H b=!.frz o u->H' b=!.frz o u)(ns:∀ m,s.heap.Ns X.env.locals m->h'.Ns X.env.locals m)(JM)(hg:AllBare g'):
  Inv X ñ σ H' { s with heap:=h',gens:=g',drawn:=d',toks:=t' }:=by
 let WG:∀ b o,X.s₀.heap.get? b=!o->b≠X.env.locals:=λb o e=>FK<|FN (Fe e) I.ok.above;let Zo:∀ b o,X.s₀.heap.get? b=some o->b∉X.ex->b∉ch:=λb o e hx hb=>by
  rcases (Tv b hb).1 with z|z
  ·show hx z
  ·show absurd (FN A7 z) nr
 let cellK:∀ x c,X.env.cells.lookup x=!c->∀ v,s.heap.IsCell c v->h'.IsCell c v:=λx c e v J'=>by
  let#[pX]:=J';let nch:=λz=>(Tv c z).2.2.1 x c e rfl;by_cases hc:c∈X.fs
  ·let#[sl,q]:=slot c o (I.UX x c e) hc nch ho<|I.KP x c e;show#[_,q,hd]
  ·show#[o,keep c o (I.UX x c e) hc nch ho<|I.KP x c e,hd]
 show#[I.ok,I.os,hg,#[λb o e n hb hx=>?_,λb o e n hb hx=>?_,λb o e n hx=>?_,λb o e hx=>?_,λb xs e=>OE b xs<|I.base.OE b xs e,λb o xs e=>NW b o xs<|I.base.NW b o xs e],c1R,c1R,λp hp=>?_,JM,I.len]
 ·show keep b o b7G hb jd b1N b3g
 ·let#[sl,e1]:=I.base.slot b o e n hb hx;let#[sl',e2]:=slot b _ b7G hb jd e1<|I.base.free b o e n hx;show#[sl',e2]
 ·let#[o',e1]:=I.base.there b o e hx;show free b o' jd e1 b3g
 ·let#[o',e1]:=I.base.there b o e hx;show there b o' jd e1
 ·let#[z9]:=I.loc;show#[m,ns m hn,λi x v e1 e2 e3=>?_];let#[u,r,l]:=hl i x v e1 e2 e3;show#[u,r,?_];rcases l with l|⟨k,c,e,z⟩
  ·show .inl l
  ·show .inr #[k,c,e,cellK x c e _ z]
 ·let#[v,z]:=I.cell x c e;show#[v,cellK x c e v z]
 ·let#[m,#[o,_,_,ho,_],_]:=I.loc;show free _ o (λz=>(Tv _ z).2.1 rfl) ho I.free
 ·let#[v,pX]:=I.cell x c e;show free c o (λz=>(Tv c z).2.2.1 x c e rfl) ho (I.KP x c e)
 ·let#[e,yB]:=I.pin p hp;let nch:=λz=>(Tv p.1 z).2.2.2 p hp rfl;show#[keep p.1 p.2 ne nf nch e n,free p.1 p.2 nch e n,ne,nf,d]
def Inv.un (I)(u:Un X.fs [] H H' s.heap h')(JM):Inv X ñ σ H' { s with heap:=h',toks:=t' }:=by
 let#[m,#[rJ],_]:=id I.loc;let#[sl,hL]:=u.any ho I.free Ė;show I.step (ch:=[]) Ĺ (λb o _ hb _ e n=>u.keep b o e n hb<|by simp) (λb o _ hb _ e n=>u.slot b o e n hb<|by simp) (λb o _ e n=>u.free b o e n<|by simp) (λb o _ e=>u.there b o e<|by simp) u.OE u.NW (λm' hm=>by let#[o',iM,ho',r']:=hm;rw[ho]at ho';cases ho';show#[_,iM,hL,r']) JM I.bare
def Inv.call (I)(u:Un (OR X.stack) ch H H' s.heap h')(JM)(hg:AllBare g')(Tv):
  Inv X ñ σ H' { s with heap:=h',gens:=g',drawn:=d',toks:=t' }:=by
 let#[m,#[rJ],_]:=id I.loc;let#[sl,hL]:=u.any ho I.free λz=>(Tv _ z).2.1 rfl;show I.step Tv (λb o hL hb hc e n=>u.keep b o e n (λz=>(Fw.mp<|I.RJ b z).elim hL hb) hc) (λb o _ _ hc e n=>u.any e n hc) (λb o hc e n=>u.free b o e n hc) (λb o hc e=>u.there b o e hc) u.OE u.NW (λm' hm=>by let#[o',iM,ho',r']:=hm;rw[ho]at ho';cases ho';show#[_,iM,hL,r']) JM hg
def Inv.turned (I)(k:∀ b o,b≠it->s.heap.get? b=!o->h'.get? b=!o)(hn:H it=none)(hL:it≠X.env.locals)(h1:it∈X.ex\/X.s₀.heap.objs.size<=it)(h2:∀ x c,X.env.cells.lookup x=!c->c≠it)(h3:∀ p∈X.pn++ñ,p.1≠it):Inv X ñ σ H { s with heap:=h',toks:=t' }:=by
 let nit:∀ b u,H b=!u->b≠it:=λb u e z=>by grind
 show I.step (ch:=[it]) (λb hb=>?_) (λb o _ _ hc e _=>k b o (λz=>hc<|by simp[z]) e) (λb o _ _ hc e _=>#[o.slots,k b o (λz=>hc<|by simp[z]) e]) (λ_ _ _ _ n=>n)
  (λb o hc e=>#[o,k b o (λz=>hc<|by simp[z]) e]) (λ_ _ e=>e) (λ_ _ _ e=>e) (λm hm=>?_) (λb u e=>?_) I.bare
 ·let e:b=it:=by simpa using hb
  subst e;show#[h1,hL,h2,h3]
 ·let#[rJ]:=hm;show#[xr,k _ o (Ne.symm hL) ho,r]
 ·show (I.JM b u e).KN (λc v hc q=>k c v ?_ q) ZP λ_ _ q=>q;rcases hc with z|z
  ·rw[z];show nit b u e
  ·show nit c _ z
def Inv.tok (I)(t:Nat):Inv X ñ σ H { s with toks:=t }:=I.un (h':=s.heap) (t':=t) Un.refl I.JM
def Inv.kept (I)(k:∀ b u,s.heap.get? b=!u->h'.get? b=!u):Inv X ñ σ H { s with heap:=h',toks:=t' }:=I.un (Un.kept k) (I.JM.kept k)
def Inv.laid (I)(k:∀ b u,s.heap.get? b=!u->h'.get? b=!u)(hp:s.heap.objs.size<=a)(new:JR X.prog X.w BH h' a o):
  Inv X ñ σ BH { s with heap:=h',toks:=t' }:=I.un (Un.laid k hp<|I.JM.fresh hp) (I.JM.laid k hp new)
def Inv.write (I)(mu)(he:e=x\/H e=!.own x)(k:∀ b u,b≠e->s.heap.get? b=!u->h'.get? b=!u)(Zx)(new:JR X.prog X.w b6g h' x o):Inv X ñ σ b6g { s with heap:=h',toks:=t' }:=I.un (Un.write mu he k Zx) (I.JM.write mu he k Zx new)
def Inv.Sw (I)(h:∀ p∈Oj,s.heap.get? p.1=!p.2/\H p.1=none/\p.1≠X.env.locals/\p.1∉X.fs/\∀ v,p.2.data≠.cell v):Inv X Oj σ H s:=
 #[I.ok,I.os,I.bare,I.base,I.loc,I.cell,I.free,I.KP,λp hp=>(Fx.mp hp).elim (λz=>I.pin p<|FJ _ z)<|h p,I.JM,I.len]
def nG {N:η}(hN:N.Nodup){i:Nat}(a:N[i]?=!x)(b:N[j]?=!x):i=j:=by let#[h1,e1]:=ES.mp a;let#[h2,e2]:=ES.mp b;show (List.getElem_inj hN).mp b64
def Inv.unS (I)(ha:∀ b o,X.s₀.heap.get? b=!o->b≠a)(hs:Heap.SameBut a s.heap h'):Un X.fs X.ex X.H₀ H X.s₀.heap h':=
 #[λb o e n hb hx=>(hs.2 b<|ha b o e).trans<|I.base.keep b o e n hb hx,λb o e n hb hx=>let ⟨sl,e1⟩:=I.base.slot b o e n hb hx;#[sl,(hs.2 b<|ha b o e).trans e1],I.base.free,λb o e hx=>let ⟨o',e1⟩:=I.base.there b o e hx;#[o',(hs.2 b<|ha b o e).trans e1],I.base.OE,I.base.NW]
def b5f (I)(hN)(hi:X.N[i]?=!x)(hx)(r:wF v u)(h:∀ s',Inv X ñ CD H s'->(∃ a,Heap.SameBut a s.heap s'.heap/\(a=X.env.locals\/X.env.cells.lookup x=!a))->Q () s')(hf):wpAny M A b4O Q E s:=by
 let#[z9]:=id I.loc;let QL:a2E=false:=by rw[I.ok.kind];rfl
 let hiσ:i<σ.length:=by rw[I.len];show (ES.mp hi).1
 let UX:=I.UX;let tracked:∀ {a:Addr}{h':Heap},(∃ o,s.heap.get? a=!o/\H a=none)->Heap.SameBut a s.heap h'->MS X.prog X.w H h':=λ{a h'} ha hs b ob e=>by
  let#[_,_,UN]:=ha;show (I.JM b ob e).KN a9A ZP λ_ _ q=>q
  grind
 rcases hx with hk|hk
 ·show wpAny_storeName_local hk hn (λh' RC hs=>?_) QL;let#[oL,_,_,Zq,_]:=id hn;show h _ #[X0,I.unS (λb o e=>FK<|FN (Fe e) I.ok.above) hs,⟨_,RC,λj y v' e1 e2 e3=>?_⟩,λy c e=>?_,c0E,tracked #[oL,Zq,I.free] hs,by simpa using I.len] #[_,hs,.inl rfl]
  ·by_cases hj:j=i
   ·subst hj;rw[hi]at e1;cases e1;rw[IK hiσ]at e2
    cases e2;show#[u,r,.inl #[hk,by simp]]
   ·rw[Jb<|Ne.symm hj]at e2;let#[u',r',q]:=hl j y v' e1 e2 e3;show#[u',r',?_];rcases q with⟨k,e⟩|⟨k,c,e,z⟩
    ·show .inl #[k,?_];let:y≠x:=λe=>hj<|nG hN e1 (e▸hi);simp[this,e]
    ·show .inr b0D
  ·let#[w',z]:=I.cell y c e;show#[w',z.sameBut hs<|UX y c e]
  ·let#[e,yB]:=I.pin p hp;show#[c1S]
 ·let hfn:X.fn x=true:=by
   grind
  let#[c,hc]:=I.ok.has x<|.inl hk;let#[w',z]:=I.cell x c hc;show wpAny_storeName_cell I.ok.kind hk hc z (λh' MQ hs=>?_);let#[oc,hoc,b0S]:=id z;show h { s with heap:=h' } #[X0,I.unS (λb o e=>FK<|FN A7 (I.ok.cab x c hfn hc)) hs,#[m,hn.sameBut hs<|Ne.symm (UX x c hc),λj y v' e1 e2 e3=>?_],λy c' e=>?_,c0E,tracked #[oc,hoc,I.KP x c hc] hs,by simpa using I.len] #[c,hs,.inr hc]
  ·by_cases hj:j=i
   ·subst hj;rw[hi]at e1;cases e1;rw[IK hiσ]at e2
    cases e2;show#[u,r,.inr #[.inl hk,c,hc,MQ]]
   ·rw[Jb<|Ne.symm hj]at e2;let#[u',r',q]:=hl j y v' e1 e2 e3;show#[u',r',?_];rcases q with q|⟨k,c',e,z'⟩
    ·show .inl q
    ·show .inr #[k,c',e,z'.sameBut hs ?_];rintro rfl;show hj (nG hN e1<|I.ok.inj _ _ _ e hc▸hi)
  ·by_cases hcc:c'=c
   ·subst hcc;show#[_,MQ]
   ·let#[w2,z2]:=I.cell y c' e;show#[w2,z2.sameBut hs hcc]
  ·let#[e,yB]:=I.pin p hp;show#[(hs.2 p.1 ?_).trans e,yB];intro q
   simp_all
def fP (I)(hN)(hi:X.N[i]?=!x)(hx)(r:wF v u)(h:∀ s',Inv X ñ CD H s'->Q () s')(hf):wpAny M A b4O Q E s:=
 b5f I hN hi hx r (λs' I' _=>h s' I') hf
def Inv.PJ (I)(ho:s'.os=s.os)(u:Un (OR X.stack) ch H H' s.heap s'.heap)(JM:MS X.prog X.w H' s'.heap)(hg:AllBare s'.gens)(Tv):Inv X ñ σ H' s':=by let#[h',g',d',t',o']:=s';let e:=ho;subst e;show I.call u JM hg Tv
abbrev _root_.Ø:=Hp->Prop
abbrev XK:=Value->Option Addr->Ø
abbrev St:=List Ç
abbrev VK:=V->Ø
abbrev TE:=St->Hp->VK->Prop
abbrev _root_.Ö:=Bool->Ø
abbrev TT:=St->Hp->Ö->Prop
abbrev TA:=St->Hp->(List V->Ø)->Prop
abbrev _root_.Υ:=St->Ø
structure d8 where
 nx:Υ
 rt:VK
 bk:Υ:=λ_ _=>False
 ct:Υ:=λ_ _=>False
abbrev TS:=d8->Υ
theorem EP (X)(ñ)(σ)(Q)(u)(s'):Prop:=∃ v H',Inv X ñ σ H' s'/\wF v u/\Q v H'
theorem TP (X)(ñ)(σ)(Q:Ö)(b:Bool)(s'):Prop:=∃ H',Inv X ñ σ H' s'/\Q b H'
theorem AP (X)(ñ)(σ)(Q:List V->Ø)(us)(s'):Prop:=∃ vs H',Inv X ñ σ H' s'/\lA vs us/\Q vs H'
theorem SP (X)(ñ)(D:d8)(f:Flow)(s'):Prop:=
 match f with
 | .next=>∃ σ' H',Inv X ñ σ' H' s'/\D.nx σ' H'
 | .brk=>∃ σ' H',Inv X ñ σ' H' s'/\D.bk σ' H'
 | .cont=>∃ σ' H',Inv X ñ σ' H' s'/\D.ct σ' H'
 | .ret u=>∃ v σ' H',Inv X ñ σ' H' s'/\wF v u/\D.rt v H'
theorem PE (X)(e:Expr)(t:TE):Prop:=
 ∀ (ñ:ζ)(s:Ê)(σ:St)(H:Hp)(Q:VK),Inv X ñ σ H s->t σ H Q->wpAny đ X.A Yp Ŋ X.xe s
theorem PT (X)(e:Expr)(t:TT):Prop:=
 ∀ (ñ:ζ)(s:Ê)(σ:St)(H:Hp)(Q:Ö),Inv X ñ σ H s->t σ H Q->wpAny đ X.A (isTrue e X.env Yp) zJ X.xe s
theorem PW (X)(e:Expr)(t:TT):Prop:=
 ∀ (whole:Sem Value)(ñ:ζ)(s:Ê)(σ:St)(H:Hp)(Q:Ö),Inv X ñ σ H s->t σ H Q->wpAny đ X.A (isTrue e X.env whole) zJ X.xe s
def PW.pt (h:PW X e t):PT X e t:=h _
abbrev _root_.Ì:=List Expr
theorem PA (X)(es:Ì)(t:TA):Prop:=
 ∀ (pos:Pos)(ñ:ζ)(s:Ê)(σ:St)(H:Hp)(Q:List V->Ø),Inv X ñ σ H s->t σ H Q->wpAny đ X.A (spliced (backTo pos zO)) (AP X ñ σ Q) X.xe s
theorem PS (X)(st)(t:TS):Prop:=
 ∀ (ñ:ζ)(s:Ê)(σ:St)(H:Hp)(D:d8),Inv X ñ σ H s->t D σ H->wpAny đ X.A (exec st X.env) (SP X ñ D) X.xe s
abbrev _root_.Í:=List Stmt
theorem N7 (X)(st:Í)(t:TS):Prop:=
 ∀ (ñ:ζ)(s:Ê)(σ:St)(H:Hp)(D:d8),Inv X ñ σ H s->t D σ H->wpAny đ X.A (execs st X.env) (SP X ñ D) X.xe s
def K2 (h:wpAny M A t Q E s)(hQ:∀ a s,Q a s->Q' a s):wpAny M A t Q' E s:=GX h hQ λ_ _ x=>x
section
variable {X:Cx}
theorem uh (i):TE:=λσ H Q=>∃ v,σ[i]?=!some v/\Q v H
theorem tC (v):TE:=λ_ H Q=>Q v H
def c1D (hN:X.N[i]?=!x)(hv:ZL X.env.scope x)(hd)(Qq):PE X Ÿ D4:=by
 intro ñ s σ H Q I h;let#[v,e,h]:=h;let#[z9]:=I.loc;let#[u,r,l]:=hl i x v hN e hv;let fin:EP X ñ σ Q u s:=rK
 rcases l with⟨hk,hm⟩|⟨hk,c,hc,SO⟩
 ·show wpAny_Name (wpAny_loadName_local I.ok.kind hk hn hm fin) hd
 ·rcases hk with hk|hk
  ·show wpAny_Name (wpAny_loadName_cell I.ok.kind hk hc SO fin) hd
  ·show wpAny_Name (wpAny_loadName_free I.ok.kind hk hc SO fin Qq) hd
def b8 {i j pos}:PE X (.Constant xu j pos) (tC xu):=λ_ _ _ H _ I h=>wpAny_Constant_int #[.int i,uW,h]
def qh {b j pos}:PE X (.Constant (.bool b) j pos) (tC qV):=λ_ _ _ H _ I h=>Constant_bool #[.bl b,H,I,1,h]
def a6h {j pos}:PE X b3O (tC .non):=λ_ _ _ H _ I h=>Constant_none #[.non,H,I,1,h]
def b0Q {x j pos}:PE X b4Q (tC yI):=λ_ _ _ H _ I h=>Calls.Constant_str #[.str x,uW,h]
theorem Gl (X)(x):Prop:=X.env.kindOf x=!.globalImplicit
def cU (I)(hg:Gl X x)(hm:X.mg x=!u)(h:Q u s)(hd):wpAny đ X.A (eval Ÿ X.env) Q E s:=
 Calls.Name_function_global I.ok.kind hg (Calls.loadGlobal_global (by rw[I.ok.glob];show I.mod.glob.keeps I.bk) hm h) hd
def gh (I)(hg:Gl X x)(hm:X.mg x=none)(hv:bootBuiltins x=!u)(h:Q u s)(hn:x≠"__name__":=ö)(hd):wpAny đ X.A (eval Ÿ X.env) Q E s:=by let#[mb,nU]:=I.mod.blt;show Calls.Name_function_global I.ok.kind hg (Calls.loadGlobal_builtin (by rw[I.ok.glob];show I.mod.glob.keeps I.bk) hm (by rw[I.ok.blt];show h1.keeps I.bk) ((h2 x hn).trans hv) h) hd
def g9 (hg:Gl X x)(hm:X.mg x=!u)(r:wF v u)(hd):PE X Ÿ (tC v):=
 λ_ _ _ H _ I h=>cU I hg hm rK hd
def lU (hg:Gl X x)(hm:X.mg x=none)(hv:bootBuiltins x=!u)(r:wF v u)(hn:x≠"__name__":=ö)(hd):PE X Ÿ (tC v):=
 λ_ _ _ H _ I h=>gh I hg hm hv rK hn hd
variable {ta tb:TE}
theorem tB (t:TE):TT:=λσ H Q=>t σ H λx H1=>∃ c,x=.bl c/\Q c H1
def cC (h:PE X e t)(he:∀ whole,isTrue e X.env whole=(do let v <- whole;standAt e.pos;holding [v] (truthy v)):=Ā):PT X e (tB t):=by
 intro ñ s σ H Q I hw;show isTrue_plain (K2 b5M λv s1 J'=>?_)<|he _;let#[zQ]:=J';let#[d,1,q]:=q1
 cases r1;show HJ #[lE,q]
theorem a4t (t u:TT):TT:=λσ H Q=>t σ H λc H1=>if c=true then u σ H1 Q else Q false H1
theorem tOr (t u:TT):TT:=λσ H Q=>t σ H λc H1=>if c=true then Q true H1 else u σ H1 Q
theorem a4o (t:TT):TT:=λσ H Q=>t σ H λc H1=>Q (not c) H1
def c7 (ha:PT X a tA):PW X (.BoolOp .And [a] pos) tA:=by
 intro wh ñ s σ H Q I h;show isTrue_and a8y
 cases c with
 | true=>show isTrue_and_nil e
 | false=>show e
def mP (ha:PT X a tA):PW X (.BoolOp .Or [a] pos) tA:=by
 intro wh ñ s σ H Q I h;show isTrue_or a8y
 cases c with
 | false=>show isTrue_or_nil e
 | true=>show e
def BB (ha:PT X a tA)(hb:PW X T0 tB'):PW X KF (a4t tA tB'):=by
 intro wh ñ s σ H Q I h;show isTrue_and b4R;let#[lW]:=J'
 cases c with
 | true=>show hb wh ñ s1 σ H1 Q I1 q1
 | false=>show#[lW]
def Ws (ha:PT X a tA)(hb:PW X b1O tB'):PW X b0Y (tOr tA tB'):=by
 intro wh ñ s σ H Q I h;show isTrue_or b4R;let#[lW]:=J'
 cases c with
 | true=>show#[lW]
 | false=>show hb wh ñ s1 σ H1 Q I1 q1
def sj (ha:PT X a tA):PT X Jd (a4o tA):=by intro ñ s σ H Q I h;show isTrue_not (ha ñ s σ H (λc H1=>Q (not c) H1) I h)
theorem a0s (ta tb:TE):TE:=λσ H Q=>ta σ H λx H1=>∃ c,x=.bl c/\if c=true then tb σ H1 Q else Q PP H1
theorem a0m (ta):TE:=λσ H Q=>ta σ H λx H1=>∃ c,x=.bl c/\Q (.bl (not c)) H1
def kg {op}(h:PE X a t):PE X (.BoolOp op [a] pos) t:=λñ s σ H Q I hw=>BoolOp_one (h ñ s σ H Q I hw)
def sv (ha:PE X a ta)(hb:PE X T0 tb):PE X KF (a0s ta tb):=by
 intro ñ s σ H Q I h;show BoolOp_and b4S;let#[zQ]:=J';let#[c,1,q1]:=q1
 cases r1;show HJ ?_
 cases c with
 | true=>show hb ñ s1 σ H1 Q I1 q1
 | false=>show#[.bl false,lE,1,q1]
def b4e (ha:PE X a ta):PE X Jd (a0m ta):=by
 intro ñ s σ H Q I h;show UnaryOp_ b4S;let#[zQ]:=J';let#[c,1,q1]:=q1
 cases r1;show not_of (HJ #[.bl<|not c,H1,I1,1,q1])
theorem tIf (t:TT)(ta tb:TE):TE:=λσ H Q=>t σ H λc H1=>if c=true then ta σ H1 Q else tb σ H1 Q
def BI (hc:PT X c tA)(ha:PE X a ta)(hb:PE X b tb):PE X b66 (tIf tA ta tb):=by
 intro ñ s σ H Q I h;show wpAny_IfExp a79;let#[lW]:=J'
 cases d with
 | true=>show ha ñ s1 σ H1 Q I1 q1
 | false=>show hb ñ s1 σ H1 Q I1 q1
universe e
theorem JU (K)(H)(a:Addr)(xs:π):Prop:=
 Rd H a fJ \/
  ∃ (o:Obj)(its:Ò)(n:Nat),K.lookup a=!o/\o.cls=.type "list"/\o.dict=none/\o.data=.seq its n/\its.size<=sizeLine/\lA xs its.toList
theorem M0 (K)(H)(a:Addr)(xs:π):Prop:=
 Rd H a (.tup xs) \/
  ∃ (o:Obj)(its:Ò)(n:Nat),K.lookup a=!o/\o.cls=.type "tuple"/\o.data=.seq its n/\its.size<=sizeLine/\lA xs its.toList
theorem a6X:Value->Ç
 | .none=>!.non
 | .bool b=>!.bl b
 | .int i _=>!.int i
 | .str x _=>!.str x
 | .bytes b _=>!.byt b
 | .float b _=>!.flt b
 | .ref a=>!.ref a
 | .type n=>!.ty n
 | _=>none
def wF.abs (r:wF x u):a6X u=!x:=by
 cases x with
 | non=>cases r;rfl
 | bl _=>cases r;rfl
 | int _=>let⟨t,rfl⟩:=r;rfl
 | str _=>let⟨t,rfl⟩:=r;rfl
 | byt _=>let⟨t,rfl⟩:=r;rfl
 | flt _=>let⟨t,rfl⟩:=r;rfl
 | ref _=>cases r;rfl
 | ty _=>cases r;rfl
def wF.inj (r:wF x u)(q:wF y u):x=y:=Option.some.inj (r.abs.symm.trans q.abs)
def lA.inj:∀ {xs ys:π}{us:θ},lA xs us->lA ys us->xs=ys:=by
 intro xs ys us h
 induction h generalizing ys with
 | nil=>intro h;cases h;rfl
 | cons r t ih=>intro h;cases h with|cons r' t'=>rw[r'.inj r,ih t']
def JU.of {K:Ψ}(h:H a=!.lst xs):JU K H a xs:=.inl (.inl h)
def M0.of {K:Ψ}(h:H a=!.tup xs):M0 K H a xs:=.inl (.inl h)
def Inv.list (I)(h:JU X.K H a xs):∃ its:θ,lA xs its/\PlainL s.heap a its.toArray/\xs.length<=sizeLine:=by
 rcases h with h|⟨o,its,n,hk,hc,hd,hs,hz,r⟩
 ·let#[tu,e]:=h.ok I.JM;show#[its,r,#[_,n,e,3],z]
 ·show#[its.toList,r,#[o,n,I.LR a o hk,hc,hd,by simpa using hs],?_];let e:=r.length
  simp_all
def Inv.tuple (I)(h:M0 X.K H a xs):∃ its:θ,lA xs its/\IsTup s.heap a its.toArray/\xs.length<=sizeLine:=by
 rcases h with h|⟨o,its,n,hk,hc,hs,hz,r⟩
 ·let#[z,its,r,p]:=h.ok I.JM;show#[its,r,p,z]
 ·show#[its.toList,r,#[o,I.LR a o hk,hc,n,by simpa using hs],?_];let e:=r.length
  simp_all
def Inv.N0 (I)(h:JU X.K H a xs)(h':JU X.K H a ys):xs=ys:=by
 let#[its,r,#[o,n,e,_,_,d],_]:=I.list h;let#[its',r',#[o',n',e',_,_,d'],_]:=I.list h';rw[e]at e';cases e';rw[d]at d';injection d' with d1 _;let:its=its':=by simp_all
 subst this;show r.inj r'
def Inv.SY (I)(h:M0 X.K H a xs)(h':M0 X.K H a ys):xs=ys:=by
 let#[its,r,#[o,e,_,n,d],_]:=I.tuple h;let#[its',r',#[o',e',_,n',d'],_]:=I.tuple h';rw[e]at e';cases e';rw[d]at d';injection d' with d1 _;let:its=its':=by simp_all
 subst this;show r.inj r'
abbrev Cx.P6 (X:Cx)(E:ρ):Cx:={ X with xe:=E }
abbrev Cx.RO (X:Cx):Cx:=X.P6 λ_ _=>False
def Cx.Ok.P6 {X:Cx}(ok:X.Ok)(E:ρ):(X.P6 E).Ok:=
 a1L
def Cx.Ok.L5 {X:Cx}(ok:(X.P6 E).Ok):X.Ok:=
 a1L
def Inv.P6 (I)(E:ρ):Inv (X.P6 E) ñ σ H s:=#[I.ok.P6 E,b91]
def Inv.L5 (I:Inv (X.P6 E) ñ σ H s):Inv X ñ σ H s:=#[I.ok.L5,b91]
def SP.L5 {D:d8}(h:SP (X.P6 E) ñ D f s'):SP X ñ D f s':=by
 cases f with
 | next=>let⟨σ',H',I,q⟩:=h;show#[we,I.L5,q]
 | brk=>let⟨σ',H',I,q⟩:=h;show#[we,I.L5,q]
 | cont=>let⟨σ',H',I,q⟩:=h;show#[we,I.L5,q]
 | ret u=>let⟨v,σ',H',I,r,q⟩:=h;show#[v,we,I.L5,r,q]
def N7.RO {st:Í}(h:N7 X.RO st t):N7 X st t:=λñ s σ H D I hw=>
 GX (h ñ s σ H D (I.P6 _) hw) (λ_ _ q=>q.L5) λ_ _ z=>False.elim z
section
variable {st:Stmt}{t u:TS}{te:TE}
theorem a0n:TS:=λD σ H=>D.nx σ H
theorem a4k (t u:TS):TS:=λD σ H=>t { D with nx:=u D } σ H
def KH:N7 X [] a0n:=λ_ _ σ H _ I h=>Je #[σ,H,I,h]
def ai (h1:PS X st t)(h2:N7 X rest u):N7 X (st::rest) (a4k t u):=by
 intro ñ s σ H D I h;show wpAny_execs_cons (K2 (h1 ñ s σ H { D with nx:=u D } I h) λf s1 q=>?_)
 cases f with
 | next=>
  let#[we,I',q]:=q;show h2 ñ s1 σ' H' D I' q
 | ret v=>show q
 | brk=>show q
 | cont=>show q
def aq (h1:PS X st t):N7 X [st] t:=by
 intro ñ s σ H D I h;show wpAny_execs_cons (K2 (h1 ñ s σ H D I h) λf s1 q=>?_)
 cases f with
 | next=>show Je q
 | ret v=>show q
 | brk=>show q
 | cont=>show q
def Inv.quiet (I):interactive X.env=false:=by simp[interactive,I.ok.kind]
theorem Bg (te):TS:=λD σ H=>te σ H λ_ H1=>D.nx σ H1
def aw (he:PE X e te)(hs:swapsWith e none pos.line X.env=pure false:=ā):PS X (.Expr e pos) (Bg te):=by intro ñ s σ H D I h;show wpAny_Expr_any (K2 ĸ λv s1 J'=>(by let#[zQ]:=J';show#[σ,lW])) I.quiet hs
theorem a4l (te):TS:=λD σ H=>te σ H D.rt
def bB (he:PE X e te):PS X b67 (a4l te):=by intro ñ s σ H D I h;show wpAny_Return_some (K2 ĸ λv s1 J'=>(by let#[zQ]:=J';show#[x,σ,u9]))
theorem a4p (c:TT)(t u:TS):TS:=λD σ H=>c σ H λb H1=>if b=true then t D σ H1 else u D σ H1
def gy (hc:PT X c tc)(ha:N7 X a t)(hb:N7 X b u):PS X De (a4p tc t u):=by
 intro ñ s σ H D I h;show wpAny_If a79;let#[lW]:=J'
 cases d with
 | true=>show ha ñ s1 σ H1 D I1 q1
 | false=>show hb ñ s1 σ H1 D I1 q1
theorem a11:TS:=λ_ _ _=>False
def a4s:PS X st a11:=λ_ _ _ _ _ _ h=>h.elim
def Nq:N7 X sts a11:=λ_ _ _ _ _ _ h=>h.elim
universe e
abbrev TG:=V->St->Hp->Υ->Prop
abbrev W8:=List V->St->Hp->Υ->Prop
theorem PG (X)(target:Expr)(t:TG):Prop:=
 ∀ (ñ:ζ)(s:Ê)(σ:St)(H:Hp)(v:V)(u:Value)(Q:Υ),Inv X ñ σ H s->wF v u->t v σ H Q->
  wpAny đ X.A (assign target X.env u) a5s X.xe s
theorem j7 (X)(ts:Ì)(t:W8):Prop:=
 ∀ (ñ:ζ)(s:Ê)(σ:St)(H:Hp)(vs:π)(us:θ)(Q:Υ),Inv X ñ σ H s->lA vs us->t vs σ H Q->
  wpAny đ X.A (assignInOrder ((assignEach ts X.env).map (·.2)) us) a5s X.xe s
abbrev mM:=V->V->Hp->VK->Prop
theorem PIp (X)(op:Operator)(t:mM):Prop:=
 ∀ (ñ:ζ)(s:Ê)(σ:St)(H:Hp)(x y:V)(v u:Value)(Q:VK),Inv X ñ σ H s->wF x v->wF y u->t x y H Q->
  wpAny đ X.A (inplaceOp op v u) Ŋ X.xe s
theorem bM (i):TG:=λv σ H Q=>Q CD H
def a2w (hN)(hi:X.N[i]?=!x)(hx)(hf):PG X Ÿ Ej:=by intro ñ s σ H v u Q I r h;show wpAny_assign_Name (fP I hN hi hx r (λs' I'=>#[_,H,I',h]) hf)
theorem YH:W8:=λvs σ H Q=>vs=[]/\Q σ H
theorem yV (t:TG)(u:W8):W8:=λvs σ H Q=>∃ v r,vs=v::r/\t v σ H λσ' H'=>u r σ' H' Q
def aF:j7 X [] YH:=by
 intro ñ s σ H vs us Q I r h;let#[e,h]:=h;subst e
 cases r;show assignInOrder_nil #[σ,H,I,h]
def af (h1:PG X e t)(h2:j7 X es u)(hs:(assignEach sQ X.env).map (·.2)=assign e X.env::(assignEach es X.env).map (·.2):=ā):j7 X sQ (yV t u):=by
 intro ñ s σ H vs us Q I r h;let#[v,vr,e1,h]:=h;subst e1
 cases r with
 | cons r rr=>
  rw[hs];show assignInOrder_cons (K2 (h1 ñ s σ H _ _ _ I r h) λ_ s1 J'=>?_);let#[σ1,lW]:=J';show h2 ñ s1 σ1 H1 _ _ Q I1 rr q1
theorem Av (K)(n)(t:W8):TG:=λv σ H Q=>∃ a xs,v=.ref a/\M0 K H a xs/\xs.length=n/\t xs σ H Q
def b1T (hc)(h:j7 X es t)(hn:(assignEach es X.env).length=n:=ā)(QG:(assignEach es X.env).findIdx? (·.1)=none:=ā):PG X b7H (Av X.K n t):=by
 intro ñ s σ H v u Q I r hw;let#[a,xs,e1,hq,hl,hw]:=hw;subst e1
 cases r;let#[its,rv,ht,hz]:=I.tuple hq;show a8w (I.caN hc) ht (by simp[hn,<- hl,rv.length]) QG λh' hx=>?_;let I1:Inv X ñ σ H { s with heap:=h' }:=I.kept λb o e=>hx b o nu e;show h ñ _ σ H xs _ Q I1 (rv) hw
theorem lu (te)(g:TG):TS:=λD σ H=>te σ H λx H1=>g x σ H1 D.nx
def XE (he:PE X e te)(hg:PG X tg g)(hs:swapsWithSole [tg] e pos.line X.env=pure false:=ā)(hw:swappedStores [tg] e X.env=pure none:=ā)(h1:(assignEach [tg] X.env).map (·.2)=[assign tg X.env]:=ā):PS X (.Assign [tg] e pos) (lu te g):=by intro ñ s σ H D I h;show wpAny_Assign_stores xS hs hw;let#[zQ]:=J';rw[h1];show K2 (hg ñ s1 σ H1 x v _ I1 r1 q1) λ_ s2 q=>q
def a9U (hN)(hi:X.N[i]?=!x)(hx)(he:PE X e te)(hs:swapsWith e tM pos.line X.env=pure false:=ā)(hf):
  PS X NE vi:=by
 intro ñ s σ H D I h;show wpAny_Assign_Name xS hs;let#[y,u9]:=J';show fP I1 hN hi hx r1 (λs2 I2=>#[_,H1,I2,q1]) hf
theorem a4m (i j:Nat)(ta:TA):TS:=λD σ H=>ta σ H λvs H1=>∃ v w,vs=[v,w]/\D.nx ((σ.set i !v).set j !w) H1
def XD {kt k2 pt2}(hc)(hN)(hi:X.N[i]?=!x)(hj:X.N[j]?=!y)(hij:i≠j)(hx:X.env.scope.names.lookup x=!.local)(hy:X.env.scope.names.lookup y=!.local)(ha:PA X [a,b] ta)(hw:swappedStores BK Ap X.env=pure ![x,y])(hs:swapsWithSole BK Ap pos.line X.env=pure false:=ā):
  PS X (.Assign BK Ap pos) (a4m i j ta):=by
 intro ñ s σ H D I h;show EN (IZ ?_);show EN oZ;show EN<|Tuple_ (K2 (ha _ ñ s σ H _ I h) λus s1 J'=>?_);let#[vs,u9]:=J';let#[v,w,e1,q1]:=q1;subst e1;obtain⟨u1,u2,rfl,rv,QB⟩:∃ u1 u2,us=[u1,u2]/\wF v u1/\wF w u2:=by
  cases r1 with
  | cons p q=>
   cases q with
   | cons p' q'=>
    cases q';show#[Qc,p,p']
 show Hf ?_ (by change 2<=sizeLine;decide);let I2:Inv X ñ σ H1 { s1 with heap:=s1.heap.push { cls:=.type "tuple",data:=.seq [u1,u2].toArray } }:=I1.kept λb o e=>EV _ e;rw[hw];show EN oZ;show EN<|IV (EN (jk (items:=[u1,u2].toArray) (I2.caN hc) (IsTup.new s1.heap _) λh' RU=>?_));let I3:=I2.kept (t':=s1.toks) λb o e=>RU b o nu e;show EN<|assignInOrder_cons (wpAny_bindName<|fP I3 hN hj (.inl hy) QB (λs2 I4=>?_) (.inr hy));show assignInOrder_cons<|wpAny_bindName (fP I4 hN hi (.inl hx) rv (λs3 I5=>assignInOrder_nil oZ)<|.inr hx);rw[List.set_comm _ _<|Ne.symm hij]at I5;show#[_,H1,I5,q1]
theorem a0r (i)(te)(ti:mM):TS:=λD σ H=>∃ x,σ[i]?=!some x/\te σ H λy H1=>ti x y H1 λz H2=>D.nx (σ.set i !z) H2
def wM (hN)(hi:X.N[i]?=!x)(hx)(he:PE X e te)(ho:PIp X op ti)(hf):
  PS X (.AugAssign (.Name x pos') op e pos) (a0r i te ti):=by
 intro ñ s σ H D I h;let#[v,e1,h]:=h;let#[z9]:=I.loc;let vis:ZL X.env.scope x:=by rcases hx with k|k;show .inl k;show .inr tU
 let#[u,r,l]:=hl i x v hi e1 vis;show wpAny_AugAssign_Name ?_;let go:wpAny đ X.A Yp (λw s₂=>wpAny đ X.A (inplaceOp op u w) (λr s₃=>wpAny đ X.A (storeName X.env x r) (λ_=>SP X ñ D .next) X.xe s₃) X.xe s₂) X.xe s:=by show K2 ĸ λw s1 J'=>?_;let#[y,u9]:=J';show K2 (ho ñ s1 σ H1 v y u w _ I1 r r1 q1) λz s2 J'=>?_;let#[zv,By]:=J';show fP I2 hN hi hx r2 (λs3 I3=>#[_,H2,I3,q2]) hf
 rcases l with⟨hk,hm⟩|⟨hk,c,hc,SO⟩
 ·show wpAny_loadName_local I.ok.kind hk hn hm go
 ·rcases hk with hk|hk
  ·show wpAny_loadName_cell I.ok.kind hk hc SO go
  ·rcases hx with k|k
   ·let:X.env.scope.names.lookup x=!.free:=hk
    simp_all
   ·let:X.env.scope.names.lookup x=!.free:=hk
    simp_all
theorem ipI (f:Int->Int->Int):mM:=λx y H Q=>∃ i j,x=.int i/\y=.int j/\Q (.int (f i j)) H
def a1u:PIp X .Add (ipI λi j=>i+j):=by intro ñ s σ H x y v u Q I r1 r2 h;let#[i,j,sf,q]:=h;subst e1;subst e2;let#[t,1]:=r1;let#[t',1]:=r2;show iadd_int uM
theorem Xm (c:TT)(tb:TS):TS:=λD σ H=>∃ W:Nat->Υ,(∃ m,W m σ H)/\∀ m σ H,W m σ H->
 c σ H λb H1=>if b=true then ∃ N:Υ,(∀ σ' H',N σ' H'->∃ m',m'<m/\W m' σ' H')/\tb { D with nx:=N,ct:=N,bk:=D.nx } σ H1 else D.nx σ H1
def BC {tb:TS}(hp)(hc:PT X c tc)(hb:N7 X body tb):PS X (.While c body [] pos) (Xm tc tb):=by
 intro ñ s σ H D I h;let#[W,#[m0,w0],turn]:=h;show wpAny_While (codeAny_whileLoop (λn s'=>∃ σ' H',Inv X ñ σ' H' s'/\W n σ' H') ?_ m0 #[σ,H,I,w0]);rintro n s1 ⟨σ1,H1,I1,w1⟩;show Ia hp (K2 (hc ñ s1 σ1 H1 _ I1<|turn n σ1 H1 w1) λb s2 J'=>?_);let#[oo,q2]:=J'
 cases b with
 | true=>
  let#[N,hN,q2]:=q2;show Ia hp (K2 (hb ñ s2 σ1 H2 _ I2 q2) λf s3 q3=>?_)
  cases f with
  | next=>
   let#[CC,n3]:=q3;let#[m',hm,w3]:=hN σ3 H3 n3;show#[m',hm,CC,w3]
  | cont=>
   let#[CC,n3]:=q3;let#[m',hm,w3]:=hN σ3 H3 n3;show#[m',hm,CC,w3]
  | brk=>show q3
  | ret v=>show q3
 | false=>
  show Je #[σ1,oo,q2]
structure It where
 go:Nat->Ø
 V':Nat->Hp->V->Ø
 stop:Nat->Ø
theorem kQ (X)(ñ)(H)(b:Addr):Prop:=
 H b=none/\b≠X.env.locals/\b∉X.fs/\(b∈X.ex\/X.s₀.heap.objs.size<=b)/\(∀ x c,X.env.cells.lookup x=!c->c≠b)/\∀ p∈X.pn++ñ,p.1≠b
def Inv.PF (I)(hb:s.heap.objs.size<=b)(hn:H' b=none):kQ X ñ H' b:=by
 show#[hn,Gr<|FN I.lt hb,I.a00 hb,.inr<|Fs I.sz hb,λx c e z=>?_,λp hp z=>?_]
 ·let#[v,q]:=I.cell x c e;show absurd (FN q.lt (by rw[z];show hb)) nr
 ·show absurd (FN (Fe (I.pin p hp).1) (by rw[z];show hb)) nr
structure a7j (Cc:Cx->Prop) (P:É) (w:World) (K:Ψ) (tg:Expr) (J:It) (fp:υ) (it:Addr) (tn:Nat->Heap->Prop):Prop where
 mem:it∈fp
 obj:∀ i h,tn i h->∀ b∈fp,∃ o,h.get? b=!o/\∀ v,o.data≠.cell v
 keep:∀ i h h',tn i h->(∀ b∈fp,∀ o,h.get? b=!o->h'.get? b=!o)->tn i h'
 item:∀ (X:Cx),X.prog=P->X.w=w->X.K=K->Cc X->∀ (i:Nat)(ñ:ζ)(s:Ê)(σ:St)(H:Hp)(E:ρ),Inv X ñ σ H s->b3i->tn i s.heap->J.go i H ->
  wpAny Ŵ X.A ň (λr s1=>∃ u,r=some u /\
   wpAny Ŵ X.A b2Q (λ_ s2=>∃ x H',Inv X ñ σ H' s2/\wF x u/\J.V' i H x H'/\tn (i+1) s2.heap/\∀ b∈fp,H' b=none) E s1) E s
 done:∀ (X:Cx),X.prog=P->X.w=w->X.K=K->Cc X->∀ (i:Nat)(ñ:ζ)(s:Ê)(σ:St)(H:Hp)(E:ρ),Inv X ñ σ H s->b3i->tn i s.heap->J.stop i H ->
  wpAny Ŵ X.A ň (λr s1=>r=none/\Inv X ñ σ H s1) E s
 self:∀ (A:Ë)(i:Nat)(s:Ê)(Q:ρ)(E:ρ),tn i s.heap->Q ś s->wpAny Ŵ A (pyIter ś) Q E s
abbrev tL (e:ψ):=a7j λX=>X.calm=true/\X.base.err=e
abbrev TI:=St->Hp->(It->Ø)->Prop
theorem a2V (Cc:Cx->Prop)(X)(ñ)(σ)(tg:Expr)(R:It->Ø)(itv:Value)(s2:Ê):Prop:=
 ∃ (it:Addr)(fp:υ)(tn:Nat->Heap->Prop)(J:It)(H':Hp),itv=.ref it/\Inv X ñ σ H' s2/\a7j Cc X.prog X.w X.K tg J fp it tn/\tn 0 s2.heap/\(∀ b∈fp,kQ X ñ H' b)/\R J H'
theorem Y0 (Cc:Cx->Prop)(X)(tg iter:Expr)(wi:TI):Prop:=
 ∀ (ñ:ζ)(s:Ê)(σ:St)(H:Hp)(R:It->Ø),Inv X ñ σ H s->wi σ H R->
  wpAny đ X.A (eval iter X.env) (λv s1=>wpAny đ X.A (pyIter v) (a2V Cc X ñ σ tg R) X.xe s1) X.xe s
abbrev PIE (X:Cx):=a2V a7Q X
abbrev PI (X:Cx):=Y0 a7Q X
def qM (ho : s.heap.get? it = !o)(hc : o.cls = .type n)(hd : o.data = .fields vs)(hn : ["enumerate", "zip", "dict_itemiterator", "dict_reverseitemiterator", "odict_iterator", "itertools.zip_longest", "itertools.pairwise"].contains n = false)(hQ : Q () s): wpAny M A b2Q Q E s := by
  cases tg <;> first
    | show F6 hQ
    | (cases u <;> first
        | show F6 hQ
        | (show EN (wpAny_load ho ?_)
           rw [hc, hd];change wpAny M A (if _ = true then _ else _) Q E s;rw [if_neg (by intro h; rw [hn, Bool.false_and] at h; cases h)];show F6 hQ))
theorem X8 (K)(a:Addr):It:=
 ⟨λi H=>∃ xs x,JU K H a xs/\xs[i]?=!x,λi H x H'=>H'=H/\∀ xs,JU K H a xs->xs[i]?=!x,λi H=>∃ xs,JU K H a xs/\xs.length<=i⟩
theorem Itt (K)(a:Addr):It:=
 ⟨λi H=>∃ xs x,M0 K H a xs/\xs[i]?=!x,λi H x H'=>H'=H/\∀ xs,M0 K H a xs->xs[i]?=!x,λi H=>∃ xs,M0 K H a xs/\xs.length<=i⟩
theorem X7 (lo:Int)(n):It:=⟨λi _=>i<n,λi H x H'=>H'=H/\x=.int (lo+i),λi _=>n<=i⟩
def c0Q {P:É}{w:World}{K:Ψ}{tg:Expr}{er:ψ} (a it:Addr):tL er P w K tg DH [it] it (λi h=>h.IsListIter it a i) where
 mem:=by simp
 obj:=λi h st b hb=>by
  let e:b=it:=by simpa using hb
  subst e;let#[j3]:=st;show#[o,e,λv z=>by rw[d]at z;cases z]
 keep:=λi h h' st k=>st.at λo e=>k it Ė o e
 item:=by intro X hP hw hK ⟨hc,SM⟩ i ñ s σ H E I hf st hg;subst hP hw hK;let#[xs,x,hq,hx]:=hg;let#[lF]:=I.list hq;let#[ye]:=rv.get hx;let#[Ek]:=hf it Ė;show wpAny_pyNext_list_item st p.isList b6h λh' QW sb=>?_;let I1:Inv X ñ σ H { s with heap:=h' }:=I.turned ń f0 f1 f3 f4 f5;let#[j3]:=id QW;show#[u,1,qM e c d œ #[x,H,I1,ru,#[1,λys hy=>by rw[I.N0 hy hq];show hx],lD]]
 done:=by intro X hP hw hK ⟨hc,SM⟩ i ñ s σ H E I hf st hg;subst hP hw hK;let#[xs,hq,hx]:=hg;let#[lF]:=I.list hq;let#[Ek]:=hf it Ė;let hl:=rv.length;show vj BR st p.isList (by simp;lia) λh' eb=>wc
 self:=λ_ _ _ _ _ st h=>wpAny_pyIter_listiter st h
def a8o {P:É}{w:World}{K:Ψ}{tg:Expr}{er:ψ} (a it:Addr):tL er P w K tg (Itt K a) [it] it (λi h=>h.IsTupleIter it a i) where
 mem:=by simp
 obj:=λi h st b hb=>by
  let e:b=it:=by simpa using hb
  subst e;let#[j3]:=st;show#[o,e,λv z=>by rw[d]at z;cases z]
 keep:=λi h h' st k=>st.at λo e=>k it Ė o e
 item:=by intro X hP hw hK ⟨hc,SM⟩ i ñ s σ H E I hf st hg;subst hP hw hK;let#[xs,x,hq,hx]:=hg;let#[lF]:=I.tuple hq;let#[ye]:=rv.get hx;let#[Ek]:=hf it Ė;show wpAny_pyNext_tuple_item st (p) b6h λh' QW sb=>?_;let I1:Inv X ñ σ H { s with heap:=h' }:=I.turned ń f0 f1 f3 f4 f5;let#[j3]:=id QW;show#[u,1,qM e c d œ #[x,H,I1,ru,#[1,λys hy=>by rw[I.SY hy hq];show hx],lD]]
 done:=by intro X hP hw hK ⟨hc,SM⟩ i ñ s σ H E I hf st hg;subst hP hw hK;let#[xs,hq,hx]:=hg;let#[lF]:=I.tuple hq;let#[Ek]:=hf it Ė;let hl:=rv.length;show c3g BR st (p) (by simp;lia) λh' eb=>wc
 self:=λ_ _ _ _ _ st h=>wpAny_pyIter_tupleiter st h
def a1y {P:É}{w:World}{K:Ψ}{tg:Expr}{er:ψ} (it) (lo:Int) (n):tL er P w K tg (X7 lo n) [it] it (λi h=>IsRangeIter h it (lo+(i:Nat) * 1) ((n:Int) - (i:Nat)) 1) where
 mem:=by simp
 obj:=λi h st b hb=>by
  let e:b=it:=by simpa using hb
  subst e;show#[_,st,λv z=>by
   let z':=z
   cases z']
 keep:=λi h h' st k=>k it Ė _ st
 item:=by
  intro X hP hw hK ⟨hc,SM⟩ i ñ s σ H E I hf st hg;let#[Ek]:=hf it Ė;show wpAny_pyNext_range_item st (by let:i<n:=hg;lia) λh' QW sb=>?_;let I1:Inv X ñ σ H { s with heap:=h',toks:=s.toks+1 }:=I.turned ń f0 f1 f3 f4 f5;let Xr:IsRangeIter h' it (lo+(i+1) * 1) ((n) - (i+1)) 1:=by rw[show lo+_ * 1=lo+(i) * 1+1 by lia,show (n:Int) - _=n - (i) - 1 by lia];show QW
  show#[_,1,qM Xr rfl rfl œ #[.int _,H,I1,#[s.toks,?_],#[2],Xr,λb hb=>(hf b hb).1]];rw[Int.mul_one]
 done:=by intro X hP hw hK ⟨hc,SM⟩ i ñ s σ H E I hf st hg;let#[Ek]:=hf it Ė;show c3o BR st (by let:n<=i:=hg;lia) λh' eb=>wc
 self:=λ_ _ _ _ _ st h=>wpAny_pyIter_rangeiter st h
theorem WQ (K)(tl:TE):TI:=λσ H R=>tl σ H λx H1=>∃ a,x=.ref a/\(∃ xs,JU K H1 a xs)/\R DH H1
def yz (hl:PE X l tl):PI X tg l (WQ X.K tl):=by
 intro ñ s σ H R I h;show K2 b5N λv s1 J'=>?_;let#[zQ]:=J';let#[a,e,#[xs,hq],q]:=q1;subst e
 cases r1;let#[lF]:=I1.list hq;show IF p.isList ?_;show#[kB,c0Q a _,Ba,λb hb=>?_,q];let e:b=s1.heap.objs.size:=by simpa using hb
 subst e;show I1.PF XS nJ
def uD {lo:Int}(I)(h1:-xY<=lo)(h2:lo<2 ^ 62)(h3:-xY<=hi)(h4:hi<2 ^ 62)(q:R (X7 lo (hi - lo).toNat) H):wpAny đ X.A (pyIter Ň) (PIE X ñ σ tg R) E { s with heap:=s.heap.push { cls:=.type "range",data:=.fields [Ag].toArray },toks:=tk }:=by
 show wpAny_pyIter_range (IsRange.new ..) (small_one h1 h2 h3 h4) ?_;let I1:Inv X ñ σ H { s with heap:=s.heap.push { cls:=.type "range",data:=.fields [Ag].toArray },toks:=tk }:=I.kept λb o e=>EV _ e;show#[(s.heap.push { cls:=.type "range",data:=.fields [Ag].toArray }).objs.size,[(s.heap.push { cls:=.type "range",data:=.fields [Ag].toArray }).objs.size],_,_,H,1,
  I1.kept λb o e=>EV _ e,a1y _ lo (hi - lo).toNat,?_,λb hb=>?_,q]
 ·let e1:lo+((0:Nat)) * 1=lo:=by simp
  let e2:((hi - lo).toNat) - ((0:Nat))=Builtin.Range.rangeSize lo hi 1:=by rw[rangeSize_one];split <;> lia
  rw[e1,e2];show Fp _ rfl
 ·let e:b=(s.heap.push { cls:=.type "range",data:=.fields [Ag].toArray }).objs.size:=by simpa using hb
  subst e;show I1.PF XS nJ
theorem a1q (ta:TA):TI:=λσ H R=>ta σ H λvs H1=>∃ j:Int,vs=[.int j]/\-xY<=j/\j<2 ^ 62/\R (X7 0 j.toNat) H1
theorem a1p (ta:TA):TI:=λσ H R=>ta σ H λvs H1=>∃ i j:Int,vs=[.int i,.int j]/\(-xY<=i/\i<2 ^ 62/\-xY<=j/\j<2 ^ 62)/\R (X7 i (j - i).toNat) H1
def qd (hg:Gl X "range")(hm:X.mg "range"=none)(ha:PA X [a] ta)(hs:starEach [a] X.env=[b5O]:=ā):PI X tg (.Call CT [a] [] pos) (a1q ta):=by
 intro ñ s σ H R I h;show Call_<|gh I hg hm boot_range (GK (K2 (ha pos ñ s σ H _ I h) λus s1 J'=>?_) hs rfl);let#[vs,u9]:=J';let#[j,e,XJ,q]:=q1;subst e
 cases r1 with
 | cons r rr=>
  cases rr;let#[t,1]:=r;show call_range_1 (uD I1 #[] #[] q1 q2<|by simpa using q)
def zW (hg:Gl X "range")(hm:X.mg "range"=none)(ha:PA X [a,b] ta)(hs:starEach [a,b] X.env=[b5O,b5P]:=ā)(QH:starEach [b] X.env=[b5P]:=ā):
  PI X tg (.Call CT [a,b] [] pos) (a1p ta):=by
 intro ñ s σ H R I h;show Call_<|gh I hg hm boot_range (GK (K2 (ha pos ñ s σ H _ I h) λus s1 J'=>?_) Pw (by rw[QH];rfl));let#[vs,u9]:=J';let#[i,j,e,#[Et,q4],q]:=q1;subst e
 cases r1 with
 | cons r rr=>
  cases rr with
  | cons r' rr=>
   cases rr;let#[t,1]:=r;let#[t',1]:=r';show call_range_2 (uD I1 q1 q2 q3 q4 q)
theorem a4r (wi:TI)(g:TG)(tb:TS):TS:=λD σ H=>wi σ H λJ H1=>∃ W:Nat->Nat->Υ,(∃ m,W 0 m σ H1)/\∀ i m σ H,W i m σ H->
 (J.stop i H/\D.nx σ H)\/(J.go i H/\∃ N:Υ,Ġ/\∀ x H',J.V' i H x H'->g x σ H' λσ2 H2=>tb { D with nx:=N,ct:=N,bk:=D.nx } σ2 H2)
theorem mR (fp:υ)(h:Heap):ζ:=fp.filterMap λb=>(h.get? b).map λo=>(b,o)
def gc (hb:b∈fp)(e:h.get? b=!o):(b,o)∈mR fp h:=List.mem_filterMap.mpr #[b,hb,by rw[e];rfl]
def b9d (hp:p∈mR fp h):p.1∈fp/\h.get? p.1=!p.2:=by
 let#[b,hb,e]:=List.mem_filterMap.mp hp
 cases q:h.get? b with
 | none=>rw[q]at e;cases e
 | some o=>
  rw[q]at e;let e':=Option.some.inj e;subst e';show#[hb,q]
def Inv.pinned (I)(hf:∀ b∈fp,kQ X ñ H b)(ho:∀ b∈fp,∃ o,s.heap.get? b=!o/\∀ v,o.data≠.cell v):Inv X (ñ++mR fp s.heap) σ H s:=
 I.Sw λp hp=>(Fx.mp hp).elim (λz=>I.pin p<|FF _ z) λz=>by
  let#[hb,e]:=b9d z;let#[f0,f1,f2,_]:=hf p.1 hb;let#[o,e',d]:=ho p.1 hb
  simp_all
def Inv.MT (I:Inv X (ñ++pl) σ H s):Inv X ñ σ H s:=I.Sw λp hp=>I.pin p (FF _<|FJ _ hp)
def bP {tb:TS}(hp)(hc)(hi:PI X tg iter wi)(hg:PG X tg g)(hb:N7 X body tb)(hs):PS X (.For tg iter body [] pos) (a4r wi g tb):=by
 intro ñ s σ H D I h;show wpAny_For (K2 (hi ñ s σ H _ I h) λv s1 h1=>K2 h1 λitv s2 h2=>?_) hs;let#[it,fp,tn,J,H2,e,I2,T,Xr,f2,W,#[m0,w0],turn]:=h2;subst e;let stat:∀ {H':Hp},(∀ b∈fp,H' b=none)->∀ b∈fp,kQ X ñ H' b:=λhn b hb=>#[hn b hb,(f2 b hb).2]
 show codeAny_forLoop_any (λn s'=>∃ i σ' H',Inv X ñ σ' H' s'/\tn i s'.heap/\(∀ b∈fp,H' b=none)/\W i n σ' H') ?_ m0 #[(0),σ,oo,Xr,λb hb=>(f2 b hb).1,w0];rintro n s3 ⟨i,σ3,H3,I3,st3,fr3,w3⟩;rcases turn i n σ3 H3 w3 with⟨stop,qn⟩|⟨go,N,hN,step⟩
 ·show Ia hp (K2 (T.done X rfl rfl rfl #[hc,1] i ñ s3 σ3 H3 X.xe I3 (stat fr3) st3 stop) λr s4 J'=>?_);let#[hr,I4]:=J';subst hr;show Je #[σ3,H3,I4,qn]
 ·show Ia hp (K2 (T.item X rfl rfl rfl #[hc,1] i ñ s3 σ3 H3 X.xe I3 (stat fr3) st3 go) λr s4 J'=>?_);let#[u,hr,h4]:=J';subst hr;show Ia hp (K2 h4 λ_ s5 J'=>?_);let#[x,H5,I5,r5,y5,Zk,fr5]:=J';show Ia hp (K2 (hg _ s5 σ3 H5 x u _ (I5.pinned (stat fr5)<|T.obj _ _ Zk) r5<|step x H5 y5) λ_ s6 J'=>?_);let#[σ6,H6,I6,q6]:=J';show Ia hp (K2 (hb _ s6 σ6 H6 _ I6 q6) λf s7 q7=>?_);let again:∀ {σ7:St}{H7:Hp},Inv X _ σ7 H7 s7->N σ7 H7->∃ m,m<n/\∃ i σ' H',Inv X ñ σ' H' s7/\tn i s7.heap/\(∀ b∈fp,H' b=none)/\W i m σ' H':=λ{σ7 H7} I7 n7=>by let#[m',hm,w7]:=hN σ7 H7 n7;show#[m',hm,i+1,c2v,T.keep _ _ _ Zk λb hb o e=>(I7.pin (b,o)<|FF _ (FF _<|gc hb e)).1,λb hb=>?_,w7];let#[o,e,d]:=T.obj _ _ Zk b hb;show (I7.pin (b,o)<|FF _ (FF _<|gc hb e)).2.1
  cases f with
  | next=>let⟨σ7,H7,I7,n7⟩:=q7;show again I7 n7
  | cont=>let⟨σ7,H7,I7,n7⟩:=q7;show again I7 n7
  | brk=>let⟨σ7,H7,I7,q7⟩:=q7;show#[c2v,q7]
  | ret v=>let⟨x7,σ7,H7,I7,r7,q7⟩:=q7;show#[x7,c2v,r7,q7]
abbrev _root_.Φ:=PySem.W.Frag
def fW {K:Φ}{g:TG}{tb:TS}{D:d8}(Pv)(h0)(hl:∀ i σ H,i<=xs.length->Pv i σ H->JU K H a xs)(hs:∀ i x σ H,xs[i]?=!x->Pv i σ H->g x σ H λσ2 H2=>tb { D with nx:=Pv (i+1),ct:=Pv (i+1),bk:=D.nx } σ2 H2)(hd:∀ σ H,Pv xs.length σ H->D.nx σ H):
  ∃ W:Nat->Nat->Υ,Ce/\∀ i m σ H,W i m σ H->
   ((X8 K a).stop i H/\D.nx σ H)\/((X8 K a).go i H/\∃ N:Υ,Ġ/\∀ x H',(X8 K a).V' i H x H'->g x σ H' λσ2 H2=>tb { D with nx:=N,ct:=N,bk:=D.nx } σ2 H2):=by
 show#[b95];rintro i m σ H ⟨rfl,hi,p⟩;let q:=hl i σ H hi p;by_cases LY:i<xs.length
 ·show .inr #[WB,Pv<|i+1,λσ' H' p'=>b0t,λx H' y=>?_];let#[e,y]:=y;subst e;show hs i x σ _ (y xs q) p
 ·let e:i=xs.length:=#[]
  subst e;show .inl b2S
def c2F {lo:Int}{g:TG}{tb:TS}{D:d8}(Pv)(h0)(hs:∀ i σ H,i<n->Pv i σ H->g (.int (lo+i)) σ H λσ2 H2=>tb { D with nx:=Pv (i+1),ct:=Pv (i+1),bk:=D.nx } σ2 H2)(hd:∀ σ H,Pv n σ H->D.nx σ H):
  ∃ W:Nat->Nat->Υ,Ce/\∀ i m σ H,W i m σ H->
   ((X7 lo n).stop i H/\D.nx σ H)\/((X7 lo n).go i H/\∃ N:Υ,Ġ/\∀ x H',(X7 lo n).V' i H x H'->g x σ H' λσ2 H2=>tb { D with nx:=N,ct:=N,bk:=D.nx } σ2 H2):=by
 show#[λi m σ H=>m=n - i/\i<=n/\Pv i σ H,#[n,by simp,FV _,h0],?_];rintro i m σ H ⟨rfl,hi,p⟩;by_cases LY:i<n
 ·show .inr #[LY,Pv<|i+1,λσ' H' p'=>#[n - (i+1),#[],1,LY,p'],λx H' y=>?_];let#[e,y]:=y;subst e y;show hs i σ _ LY p
 ·let e:i=n:=#[]
  subst e;show .inl #[F8 _,hd σ H p]
abbrev R2:=V->V->Hp->VK->Prop
theorem L4 (X)(f:Value->Value->Sem Value)(r:R2):Prop:=
 ∀ (ñ:ζ)(s:Ê)(σ:St)(H:Hp)(x y:V)(v u:Value)(Q:VK),Inv X ñ σ H s->wF x v->wF y u->r x y H Q->
  wpAny đ X.A (f v u) Ŋ X.xe s
theorem zc (X)(f:Value->Sem Value)(r:V->Hp->VK->Prop):Prop:=
 ∀ (ñ:ζ)(s:Ê)(σ:St)(H:Hp)(x:V)(v:Value)(Q:VK),Inv X ñ σ H s->wF x v->r x H Q->
  wpAny đ X.A (f v) Ŋ X.xe s
theorem Kc (X)(f:Value)(r:List V->Hp->VK->Prop):Prop:=
 ∀ (ñ:ζ)(s:Ê)(σ:St)(H:Hp)(xs:π)(us:θ)(Q:VK),Inv X ñ σ H s->lA xs us->r xs H Q->
  wpAny đ X.A (call f us) Ŋ X.xe s
theorem Wg (r:R2)(ta tb:TE):TE:=λσ H Q=>ta σ H λx H1=>tb σ H1 λy H2=>r x y H2 Q
theorem tUn (r:V->Hp->VK->Prop)(ta):TE:=λσ H Q=>ta σ H λx H1=>r x H1 Q
theorem rI (C:Int->Int->Prop)(g:Int->Int->V):R2:=λx y H Q=>∃ i j,x=.int i/\y=.int j/\C i j/\Q M3 H
theorem Vr (g:Int->Int->V):R2:=λx y H Q=>∃ i j,x=.int i/\y=.int j/\Q M3 H
theorem rU (g:Int->V):V->Hp->VK->Prop:=λx H Q=>∃ i,x=.int i/\Q (g i) H
section
variable {tb:TE}
def Z2 (ha:PE X a ta)(hb:PE X b tb){R:V->V->Ø}(I)(h:ta σ H λx H1=>tb σ H1 λy H2=>R x y H2){f:Value->Value->Sem Value}(hf:∀ v u s2 x y H2,Inv X ñ σ H2 s2->wF x v->wF y u->R x y H2->wpAny đ X.A (f v u) Q X.xe s2):
  wpAny đ X.A (eval a X.env) (λv s₁=>wpAny đ X.A (eval b X.env) (λu s₂=>wpAny đ X.A (f v u) Q X.xe s₂) X.xe s₁) X.xe s:=by
 show K2 ŋ λv s1 J'=>?_;let#[zQ]:=J';show K2 jc λu s2 J'=>?_;let#[y,By]:=J';show hf v u s2 x y H2 I2 r1 r2 q2
def gV (ho:L4 X (binaryOp op) r)(ha:PE X a ta)(hb:PE X b tb):PE X b6i Cw:=by intro ñ s σ H Q I h;show wpAny_BinOp b1R
def a0P (ho:zc X (unaryOp op) r)(ha:PE X a ta):PE X (.UnaryOp op a pos) (tUn r ta):=by intro ñ s σ H Q I h;show UnaryOp_ (K2 ŋ λv s1 J'=>(by let#[zQ]:=J';show ho ñ s1 σ H1 x v Q I1 r1 q1))
def AL {g:Int->Int->Int}(rule:∀ (i j:Int)(t u:Tok)(s:Ê)(Q:ρ)(E:ρ),C i j->Q b7I { s with toks:=s.toks+1 }->wpAny đ X.A Ak Q E s):
  L4 X f (rI C λi j=>.int M3):=by
 intro ñ s σ H x y v u Q I rx ry h;let#[i,j,2,hc,q]:=h;let#[t,1]:=rx;let#[t',1]:=ry;show rule i j t t' s _ _ hc uM
def a0T {g:Int->Int->Int}(rule:∀ (i j:Int)(t u:Tok)(s:Ê)(Q:ρ)(E:ρ),Q b7I { s with toks:=s.toks+1 }->wpAny đ X.A Ak Q E s):
  L4 X f (Vr λi j=>.int M3):=by
 intro ñ s σ H x y v u Q I rx ry h;let#[i,j,2,q]:=h;let#[t,1]:=rx;let#[t',1]:=ry;show rule i j t t' s _ _ uM
def DZ {g:Int->Int->Bool}(rule:∀ (i j:Int)(t u:Tok)(s:Ê)(Q:ρ)(E:ρ),Q (.bool M3) s->wpAny đ X.A Ak Q E s):
  L4 X f (Vr λi j=>.bl M3):=by
 intro ñ s σ H x y v u Q I rx ry h;let#[i,j,2,q]:=h;let#[t,1]:=rx;let#[t',1]:=ry;show rule i j t t' s _ _ tV
theorem a7a (i j:Int):Prop:=0<j/\j<1073741824
theorem a69 (i j:Int):Prop:=0<=j/\j<=1000000/\i.natAbs<2 ^ 64
theorem TV (i j:Int):Prop:=(-(2 ^ 64)<i/\i<2 ^ 64)\/(-(2 ^ 64)<j/\j<2 ^ 64)
def TV.ok (h:TV i j):IntMulOk i j:=by
 rcases h with⟨h1,h2⟩|⟨h1,h2⟩
 ·show .of_left b4U
 ·show .of_right b4U
def a63:L4 X mJ (Vr λi j=>.int (i+j)):=a0T λ_ _ _ _ _ _ _ q=>add_int q
def n5:L4 X (binaryOp .Sub) (Vr λi j=>.int (i - j)):=a0T λ_ _ _ _ _ _ _ q=>sub_int q
def cq:L4 X b8p (rI TV λi j=>.int (i * j)):=AL λ_ _ _ _ _ _ _ hc q=>mul_int q hc.ok
def cE:L4 X (binaryOp .FloorDiv) (rI a7a λi j=>.int (i / j)):=AL λi j _ _ _ _ _ hc q=>by let h1:=hc.1;let h2:=hc.2;show floordiv_int #[] (by rw[Int.fdiv_eq_ediv_of_nonneg i<|by lia];show q) (.inl<|PyProof.noPylong_small #[])
def bJ:L4 X (binaryOp .Mod) (rI (λ_ j=>0<j) λi j=>.int (i % j)):=AL λi j _ _ _ _ _ hc q=>by show mod_int' #[] (by rw[Ge i<|by lia];show q)
def b5o:L4 X (binaryOp .Pow) (rI a69 λi j=>.int (i ^ j.toNat)):=AL λ_ _ _ _ _ _ _ hc q=>pow_int_small hc.1 hc.2.1 hc.2.2 q
def unI {g:Int->Int}(rule:∀ (i:Int)(t:Tok)(s:Ê)(Q:ρ)(E:ρ),Q (.int (g i) s.toks) { s with toks:=s.toks+1 }->wpAny đ X.A (f Wp) Q E s):
  zc X f (rU λi=>.int (g i)):=by
 intro ñ s σ H x v Q I rx h;let#[i,1,q]:=h;let#[t,1]:=rx;show rule i t s _ _ #[.int<|g i,H,I.tok _,#[_,1],q]
def a3T:zc X (unaryOp .USub) (rU λi=>.int (-i)):=unI λ_ _ _ _ _ q=>neg_int q
universe e
theorem Xt:V->V->Bool
 | .int _,.int _=>true
 | .str _,.str _=>true
 | .str _,.non=>true
 | _,_=>false
theorem rEq:R2:=λx y H Q=>Xt x y=true/\Q b5Q H
theorem rNe:R2:=λx y H Q=>Xt x y=true/\Q (.bl (not (decide (x=y)))) H
def c1Z:decide (V.int i=V.int j)=(i==j):=by rw[GH];simp
def a7N:decide (V.str i=V.str j)=(i==j):=by rw[GH];simp
section
variable {X:Cx}{ta tb tc:TE}
def gn (I)(q:Q (.bl k) H)(e:k=k'):EP X ñ σ Q (.bool k') s:=by subst e;show#[.bl k,H,I,1,q]
def bc:L4 X w4 rEq:=by
 intro ñ s σ H x y v u Q I rx ry ⟨hs,q⟩
 cases x with
 | int i=>
  cases y with
  | int j=>let⟨_,rfl⟩:=rx;let#[_,1]:=ry;show eq_int (gn I q c1Z)
  | _=>show absurd (show false=true from hs) FC
 | str i=>
  cases y with
  | str j=>let⟨_,rfl⟩:=rx;let#[_,1]:=ry;show eq_str (gn I q a7N)
  | non=>let⟨_,rfl⟩:=rx;cases ry;show PySem.EqNone.eq_str_none b7J
  | _=>show absurd (show false=true from hs) FC
 | _=>cases y <;> show absurd (show false=true from hs) FC
def iH:L4 X yd rNe:=by
 intro ñ s σ H x y v u Q I rx ry ⟨hs,q⟩
 cases x with
 | int i=>
  cases y with
  | int j=>let⟨_,rfl⟩:=rx;let#[_,1]:=ry;show ne_int (gn I q<|congrArg not c1Z)
  | _=>show absurd (show false=true from hs) FC
 | str i=>
  cases y with
  | str j=>let⟨_,rfl⟩:=rx;let#[_,1]:=ry;show ne_str (gn I q<|congrArg not a7N)
  | non=>let⟨_,rfl⟩:=rx;cases ry;show PySem.EqNone.ne_str_none b7J
  | _=>show absurd (show false=true from hs) FC
 | _=>cases y <;> show absurd (show false=true from hs) FC
def fU:L4 X (compareOp .Lt) (Vr λi j=>.bl (decide (i<j))):=DZ λ_ _ _ _ _ _ _ q=>lt_int q
def qi:L4 X (compareOp .LtE) (Vr λi j=>.bl (decide (i<=j))):=DZ λ_ _ _ _ _ _ _ q=>le_int q
def jt:L4 X (compareOp .Gt) (Vr λi j=>.bl (decide (j<i))):=DZ λ_ _ _ _ _ _ _ q=>gt_int q
def yH:L4 X (compareOp .GtE) (Vr λi j=>.bl (decide (j<=i))):=DZ λ_ _ _ _ _ _ _ q=>ge_int q
def a3E:L4 X sG (λx y H Q=>∃ i j,x=.str i/\y=.str j/\Q (.bl (not (Builtin.Str.occurrences j i 0 j.length 1).isEmpty)) H):=by intro ñ s σ H x y v u Q I rx ry h;let#[i,j,2,q]:=h;let#[t,1]:=rx;let#[t',1]:=ry;show in_str (gn I q rfl)
def b4l:L4 X (compareOp .Is) a5G:=by
 intro ñ s σ H x y v u Q I rx ry h;let#[1,q]:=h
 cases ry;show is_none_gen (gn I q ?_)
 cases x <;> first
  | (cases rx;rfl)
  | (let#[t,1]:=rx;rfl)
def eS:L4 X (compareOp .IsNot) a4A:=by
 intro ñ s σ H x y v u Q I rx ry h;let#[1,q]:=h
 cases ry;show isnot_none_gen (gn I q ?_)
 cases x <;> first
  | (cases rx;rfl)
  | (let#[t,1]:=rx;rfl)
def L4.or (h:L4 X f r)(h':L4 X f r'):L4 X f a9B:=by
 intro ñ s σ H x y v u Q I rx ry q;rcases q with q|q
 ·show h ñ s σ H x y v u Q I rx ry q
 ·show h' ñ s σ H x y v u Q I rx ry q
def a2z (b:Expr)(h:op≠.In:=ö)(h2:op≠.NotIn:=ö):behindInMarks op b=false:=by
 let e1:(op==CmpOp.In)=false:=by grind
 let e2:(op==CmpOp.NotIn)=false:=by grind
 cases b <;> simp[behindInMarks,e1,e2]
def yD (ho)(ha:PE X a ta)(hb:PE X b tb)(hm:behindInMarks op b=false):PE X Ū Cw:=by intro ñ s σ H Q I h;show wpAny_Compare1 b1R hm
theorem Bc (t:TE):TT:=λσ H Q=>t σ H λx H'=>∃ k,x=.bl k/\Q k H'
def yv (ho)(ha:PE X a ta)(hb:PE X b tb)(hm:behindInMarks op b=false):PT X Ū (Bc Cw):=by
 intro ñ s σ H Q I h;show wpAny_isTrue_Compare1 (K2 ŋ fun v s1 ⟨x,H1,I1,r1,q1⟩=>K2 jc fun u s2 ⟨y,H2,I2,r2,q2⟩=>
  K2 a8A fun c s3 ⟨z,H3,I3,r3,k,e,q3⟩=>?_) hm
 subst e
 cases r3;show HJ #[H3,I3,q3]
theorem Bj (r r':R2)(ta tb tc:TE):TE:=λσ H Q=>ta σ H λx H1=>tb σ H1 λy H2=>r x y H2 λz H3=>∃ k,z=.bl k/\
 (if k=true then tc σ H3 λw' H4=>r' y w' H4 Q else Q PP H3)
def mU (ho)(ho':L4 X (compareOp op') r')(ha:PE X a ta)(hb:PE X b tb)(hc:PE X c tc)(hm:lastMarks [op,op'] [b,c]=false:=Ă):PE X (.Compare a [op,op'] [b,c] pos) (Bj r r' ta tb tc):=by
 intro ñ s σ H Q I h;show Compare_chain (K2 ŋ fun v s1 ⟨x,H1,I1,r1,q1⟩=>chain_link (K2 jc fun u s2 ⟨y,H2,I2,r2,q2⟩=>
  K2 a8A fun d s3 ⟨z,H3,I3,r3,k,e,q3⟩=>?_)) hm
 subst e
 cases r3;show HJ ?_
 cases k with
 | false=>show ite_ff #[.bl false,H3,I3,1,q3]
 | true=>show ite_tt (chain_last<|K2 (hc ñ s3 σ H3 _ I3 q3) λw' s4 J'=>(by let#[z',H4,I4,r4,q4]:=J';show ho' ñ s4 σ H4 y z' u w' Q I4 r2 r4 q4))
def nL:(sizeLine:Nat)<2 ^ 63:=by rw[Js];decide
def dG (r:lA [x] us):∃ u,us=[u]/\wF x u:=by
 cases r with
 | cons r1 r2=>cases r2;show#[_,1,r1]
def B5 (r:lA [x,y] us):∃ u w',us=[u,w']/\wF x u/\wF y w':=by
 cases r with
 | cons r1 r2=>
  cases r2 with
  | cons r3 r4=>cases r4;show#[Qc,r1,r3]
def b3P:Kc X Uf a7v:=by
 intro ñ s σ H xs us Q I r h;rcases h with⟨i,rfl,q⟩|⟨k,rfl,q⟩
 ·let#[u,1,t,1]:=dG r;show call_int_int #[.int i,H,I,#[_,1],q]
 ·let#[u,1,r1]:=dG r
  cases r1;show call_int_bool uM
universe e
structure S8 (h:Heap) (x dx C:Addr) (mA:Ω):Prop where
 obj:h.get? x=!W.instObj C dx
 ns:h.Ns1 dx mA
 ne:dx≠x
set_option tactic.hygienic true in def qt {h:Heap}(n:h.Ns1 dx mA):∃ od,h.get? dx=!od/\∀ name,W.lookIn name od=!mA name:=by
 let#[o,es,ep,ho,hd,hk,_,hm]:=n;show#[o,ho,λname=>?_];let e:=hm name;unfold nsFind findBy at e;rw[<- Array.find?_toList]at e;unfold W.lookIn;rw[hd];dsimp only;split
 ·simp_all
 ·rename_i q;let a:es.toList.any (·.refKey)=false:=by rw[List.any_eq_false];intro y hy;let#[z,t,UL]:=hk y<|Array.mem_toList_iff.mp hy;simp[DictEntry.refKey,UL]
  grind
def S8.look (I:S8 h x dx C mA):∃ od,W.InstAt h x (W.instObj C dx) C !od/\∀ name,W.lookIn name od=!mA name:=
 let #[od,ho,hl]:=qt I.ns
 #[od,#[I.obj,2,ho],hl]
section
variable {K:Ψ}
def a7I (X:K.In s.heap)(I:S8 s.heap x dx C mA)(hg:W.plainGet K C name=true)(hh:W.hasDictIn K C=true)(ha:W.findIn K Ax name=!none)(hv:mA name=!v)(hv':W.handedIn v=true)(h:Q v { s with toks:=s.toks+1 }):
  wpAny Ē A b3R Q E s:=by
 let#[od,J,hl]:=I.look;show W.get_value X J (W.plainGet_of hg).1 (W.findObj_own hh ha rfl<|by rw[hl,hv]) hv' h
def c0i (X:K.In s.heap)(I:S8 s.heap x dx C mA)(hg:W.plainGet K C name=true)(hf:W.findIn K Ax name=!some xI)(ht:W.isFn K xI=true)(hv:mA name=none)(h:Q (.ref f,[.ref x]) s):
  wpAny Ē A (getMethod sB name pl) Q E s:=by
 let#[od,J,hl]:=I.look;show W.method_fn X J (W.plainGet_of hg).1 (W.plainGet_of hg).2 hf (Iw.mp ht) (by change (W.lookIn name od).map _=!false;rw[hl,hv];rfl) h
def c2u (X:K.In s.heap)(I:S8 s.heap x dx C mA)(hs:W.findIn K Ax "__setattr__"=!some Ũ)(hp:W.plainOver K C=true)(ht:W.takerIn K C name=!none)(hh:W.hasDictIn K C=true)(hw:PySem.Within mA ns)(hsz:ns.length<=sizeLine)(h:∀ h',S8 h' x dx C (λy=>if y=name then some v else mA y)->Heap.SameBut dx s.heap h'->Q () { s with heap:=h',toks:=s.toks+2 }):
  wpAny Ē A (setAttr sB name v) Q E s:=by
 let#[od,J,hl]:=I.look;show W.set_plain X J hs (W.osa_open X J hp ht λb=>?_);let#[cd,hc,NP]:=W.any_some hh;let hx:=I.obj;show EN<|F6 (EN<|EN (wpAny_loadPart hx<|EN (W.Looks.here (W.looks_clsIn X hc) ?_)));rw[NP];show F6<|EN (F6 (EN ?_));show wpAny_nsSet1 I.ns λh' hn2 QH=>?_;let#[c0F]:=hn2.count<|PySem.Within.cons name v hw;show EN (wpAny_lookBehind hoD (by rw[hdD];show pastItsLine_dict<|Fs hcD ħ) ?_);show F6 (h _ #[(QH.2 _<|Ne.symm I.ne).trans I.obj,hn2,I.ne] QH)
def C4 (X:K.In s.heap)(hm:W.makesIn K C=true)(hi:W.findIn K Ax "__init__"=!some xI)(hf:W.typeIn K xI=!.type "function")(h:codeAny Ē (A.under (.builtin "type.__call__" #[.ref C::vs,kw])) (.call xI #[.ref ľ::vs,kw]) (W.InitBack ľ R)
   { s with heap:=(s.heap.push W.emptyDict).push b0Z }):
  codeAny Ē A (.call Ax #[vs,kw]) R s:=by
 let#[hh,qQ]:=s;show W.make_core (W.makes_of X hm) (W.looks_findIn X hi) (λself=>W.bind_fn X self hf) ĵ h
universe e
theorem ke (f)(v):List (Str×V)->Î
 | []=>[(f,v)]
 | (g,x)::r=>if g=f then (g,v)::r else (g,x)::ke f v r
def a26 (f g:Str)(v):∀ fs:Î,(ke f v fs).lookup g=if g=f then some v else fs.lookup g:=by
 intro r'
 induction r' with
 | nil=>
  change List.lookup g [(f,v)]=_
  grind
 | cons hd' r ih'=>
  let#[k,x]:=hd';let ih:=ih'
  grind [ke,List.lookup]
def kz (f)(v):∀ fs:Î,f∈(ke f v fs).map (·.1)/\∀ g,g∈fs.map (·.1)->g∈(ke f v fs).map (·.1):=by
 intro r'
 induction r' with
 | nil=>
  show #[by simp[ke],λg h=>by simp at h]
 | cons hd' r ih'=>
  let#[k,x]:=hd';let#[IO]:=ih'
  grind [ke,List.map_cons,List.mem_cons_of_mem,List.mem_cons]
def b00 (f)(v):∀ fs:Î,(ke f v fs).length<=fs.length+1:=by
 intro r'
 induction r' with
 | nil=>
  simp[ke]
 | cons hd' r ih'=>
  let#[k,x]:=hd';let ih:=ih'
  grind [ke,List.length_cons]
def N6.some_of (r:N6 (!v) o):∃ u,o=!u/\wF v u:=by
 cases o with
 | none=>show (r).elim
 | some u=>show#[u,1,r]
def N6.none_of (r:N6 none o):o=none:=by
 cases o with
 | none=>rfl
 | some u=>show (r).elim
def qK (r:wF v u):W.handedIn u=true:=by
 cases v with
 | non=>cases (r);rfl
 | bl b=>cases (r);rfl
 | int i=>let⟨t,e⟩:=r;cases e;rfl
 | str x=>let⟨t,e⟩:=r;cases e;rfl
 | byt b=>let⟨t,e⟩:=r;cases e;rfl
 | flt b=>let⟨t,e⟩:=r;cases e;rfl
 | ref a=>cases (r);rfl
 | ty n=>cases (r);rfl
def lZ (JM:MS P w H h)(e:H a=!.ins C dx fs):∃ mA,S8 h a dx C mA/\(∀ f,N6 Bz (mA f))/\PySem.Within mA (fs.map (·.1))/\fs.length<=1000/\H dx=!.own a:=by
 let#[d,z,ne,ob,mA,n,r,q]:=(JM a _ e)
 show#[mA,#[ob,n,ne],r,q,z,d]
structure Nr (K:Ψ) (C:Addr):Prop where
 pg:W.plainGet K C Str.empty=true
 hd:W.hasDictIn K C=true
 po:W.plainOver K C=true
 sa:W.findIn K Ax "__setattr__"=!some Ũ
def Nr.get {K:Ψ}(c:Nr K C)(f):W.plainGet K C f=true:=c.pg
theorem Ka (K)(C)(f):Prop:=W.findIn K Ax f=!none
def Ka.a0i {K:Ψ}(n:Ka K C f):W.takerIn K C f=!none:=by unfold W.takerIn;rw[n];rfl
structure yb (K:Ψ) (C:Addr) (m:Str) (f:Addr):Prop where
 at_:W.findIn K Ax m=!some xI
 fn:W.isFn K xI=true
 kp:W.keepIn K xI=true
def a8t (I)(e:H a=!.ins C dx fs)(c:Nr X.K C)(n:Ka X.K C f)(l:fs.lookup f=!v)(h:∀ u s',Inv X ñ σ H s'->wF v u->Q u s'):wpAny đ A (getAttr xV f b) Q E s:=by let#[mA,O,r,Cg]:=lZ I.JM e;let#[ye]:=N6.some_of (by rw[<- l];show r f);show a7I I.LR O (c.get f) c.hd n hu (qK ru) (h u _ v5 ru)
def b3x (I)(e:H a=!.ins C dx fs)(c:Nr X.K C)(k:yb X.K C m g)(l:fs.lookup m=none)(h:Q (.ref g,CG) s):wpAny đ A (getMethod xV m pl) Q E s:=by let#[mA,O,r,Cg]:=lZ I.JM e;let hn:=N6.none_of (by rw[<- l];show r m);show c0i I.LR O (c.get m) k.at_ k.fn hn h
def a6x (I)(e:H a=!.ins C dx fs)(c:Nr X.K C)(n:Ka X.K C f)(hl:fs.length<1000)(ry)(h:∀ s',Inv X ñ σ (upd H a b3S) s'->Q () s'):wpAny đ A (setAttr xV f u) Q E s:=by
 let#[mA,O,r,wi,_,ho]:=lZ I.JM e;let hz:(fs.map (·.1)).length<=sizeLine:=by rw[EO,Js];lia
 show c2u I.LR O c.sa c.po n.a0i c.hd wi hz λh' O' sb=>h _ ?_;let hd:∃ o,h'.get? dx=!o:=let ⟨o,_,_,e',_⟩:=O'.ns;#[o,e'];show I.write (by rw[e];show HG) (.inr ho) (λb q hb z=>(sb.2 b hb).trans z) hd ?_;show#[by rw[a8 O.ne];show ho,?_,O.ne,O'.obj,_,O'.ns,λg=>?_,λg hg=>?_]
 ·let:=b00 f y fs;lia
 ·rw[a26];by_cases q:g=f
  ·rw[if_pos q,if_pos q];show ry
  ·simp_all
 ·by_cases q:g=f
  ·rw[q];show (kz f y fs).1
  ·show (kz f y fs).2 g (wi g λz=>hg ?_)
   simp_all
def Inv.made (I):Inv X ñ σ (upd (upd H s.heap.objs.size (.own ľ)) ľ (.ins C s.heap.objs.size []))
  { s with heap:=(s.heap.push W.emptyDict).push b0Z }:=by
 let e1:(s.heap.push W.emptyDict).get? s.heap.objs.size=!W.emptyDict:=Fp s.heap rfl;let e2:((s.heap.push W.emptyDict).push<|W.instObj C s.heap.objs.size).get? ľ=!W.instObj C s.heap.objs.size:=by
  let:=Fp (s.heap.push W.emptyDict) (o:=W.instObj C s.heap.objs.size) rfl
  simp_all
 let e3:(s.heap.push W.emptyDict).Ns s.heap.objs.size b6j:=#[W.emptyDict,[].toArray,_,e1,1,λe he=>absurd he<|by simp,λ_=>rfl]
 show (I.laid (o:=.own _) (t':=s.toks) b7K XS #[_,e1]).laid b7K (II<|HS _ _) ?_;let ne:s.heap.objs.size≠s.heap.objs.size+1:=FK<|GJ _;show⟨by rw[a8 ne,ae],FV _,ne,e2,λ_=>none,(Heap.Ns1.of_empty e3).at λo q=>EV _ q,λ_=>HG,λy hy=>absurd rfl hy⟩
def a5j (hb:attributeBase e f env (eval e env)=eval e env)(h:wpAny Ē A (eval e env) (λo s₁=>wpAny Ē A (getAttr o f true) Q E s₁) E s):wpAny Ē A (eval ZB env) Q E s:=
 Attribute_any_ h (by rw[arm_eval_Attribute,hb])
theorem a0p (K)(ta)(f):TE:=λσ H Q=>ta σ H λx H1=>∃ a C dx fs v,x=.ref a/\H1 a=!.ins C dx fs/\Nr K C/\Ka K C f/\fs.lookup f=!v/\Q v H1
theorem a4w (K)(ta tv:TE)(f):TS:=λD σ H=>tv σ H λy H1=>ta σ H1 λx H2=>∃ a C dx fs,x=.ref a/\H2 a=!.ins C dx fs/\Nr K C/\Ka K C f/\fs.length<1000/\
 D.nx σ (upd H2 a b3S)
def BJ (he:PE X e ta)(hb:attributeBase e f X.env Yp=eval e X.env):PE X ZB (a0p X.K ta f):=by intro ñ s σ H Q I h;show a5j hb sA;let#[AH,C,dx,fs,v,ex,ea,c,n,l,q]:=J';subst ex;obtain rfl:u=Value.ref a:=rx;show a8t I1 ea c n l λu' s2 I2 ru=>#[v,H1,I2,ru,q]
def g8 (ha:PE X o ta)(hv)(hs:swapsWith value pO pos.line X.env=pure false):PS X Tl (a4w X.K ta tv f):=by intro ñ s σ H D I h;show IQ ue hs;let#[x,oo,rx,a,C,uk,ea,c,n,l,q2]:=J';subst ex;obtain rfl:ov=Value.ref a:=rx;show a6x I2 ea c n l ry λs3 I3=>#[σ,_,I3,q2]
section
variable {H:Hp}
inductive jN (K:Ψ) (H:Hp):V->Value->Prop where
 |non:jN K H .non (.type "NoneType")
 |bl (x:Bool):jN K H (.bl x) mS
 |int (i:Int):jN K H xu Uf
 |str (x:Str):jN K H yI lB
 |flt (x:UInt64):jN K H (.flt x) (.type "float")
 |lst {a:Addr}{xs:π} (e:H a=!.lst xs):jN K H xV Ļ
 |frz {a:Addr}{o:Obj}{xs:π} (e:H a=!.frz o fJ):jN K H xV Ļ
 |tup {a:Addr}{xs:π} (e:H a=!.tup xs):jN K H xV (.type "tuple")
 |dK {a:Addr}{ķ:ξ} (e:H a=!.dK ķ):jN K H xV On
 |dT {a:Addr}{ķ:List x0} (e:H a=!.dT ķ):jN K H xV On
 |ins {a C dx:Addr}{fs:Î} (e:H a=!.ins C dx fs) (cl:Nr K C) (ha:W.findIn K Ax "__class__"=!some qH)
   (hn:W.specialIn K qH "__get__"=!some (.builtin "getset_descriptor.__get__")) (htk:W.takesIn K qH=!true)
   (hm:W.mroIn K C (.type "object")=!true):jN K H xV Ax
def c0A (I)(rx:wF x u)(ty:jN X.K H x t)(e:W.kitOne X.K t c=!b)(h:∀ tk,Q (.bool b) { s with toks:=tk }):
  wpAny đ A (call nY [u,c]) Q E s:=by
 cases ty with
 | non=>cases (rx);show GZ W.kitx_none I.LR HG e İ h
 | bl y=>cases (rx);show GZ W.kitx_bool I.LR HG e İ h
 | int i=>let⟨t,q⟩:=rx;cases q;show GZ W.kitx_int I.LR HG e İ h
 | str y=>let⟨t,q⟩:=rx;cases q;show GZ W.kitx_str I.LR HG e İ h
 | flt y=>let⟨t,q⟩:=rx;cases q;show GZ W.kitx_float I.LR HG e İ h
 | @lst a xs ea=>
  cases (rx);let#[_,_,n,_,h1]:=Wq
  show GZ W.kitx_list I.LR #[_,h1,1] e İ h
 | @frz a ob xs ea=>
  cases (rx);let#[Cg,n,_,h1]:=Wq
  show GZ W.kitx_list I.LR #[_,h1,1] e İ h
 | @tup a xs ea=>
  cases (rx);let#[Cg,p]:=Wq
  let#[o,nU,_]:=p;show GZ W.kitx_tuple I.LR #[o,nU] e İ h
 | @dK a ķ ea=>
  cases (rx);let#[_,_,vs,_,p]:=Wq
  let#[xr,nU,_]:=p;show GZ W.kitx_dict I.LR #[o,h1,h2.1] e İ h
 | @dT a ķ ea=>
  cases (rx);let#[_,_,xs,_,xr,nU,_]:=Wq
  show GZ W.kitx_dict I.LR #[o,h1,h2.1] e İ h
 | @ins a C dx fs ea cl ha hn htk hm=>
  cases (rx);let#[mA,O,_]:=lZ I.JM ea;let#[od,J,_]:=O.look;show GZ (W.kitx_own (cl.get _) cl.hd ha hn htk hm) I.LR J e İ h
universe e
structure JW (base:zL) (k:Nat) (A:Ë):Prop where
 hd:Hd base A
 dp:A.depth+3 * k+5<recursionLimit
 un:A.units+16 * k+200<cLine
def JW.mono (r:JW base k A)(h:j<=k):JW base j A:=#[r.hd,by let:=r.dp;lia,by let:=r.un;lia]
def JW.deeper (r:JW base (k+1) A)(env:Env):JW base k (A.deeper env):=
 #[r.hd,by let:=r.dp;change A.depth+1+3 * k+5<_;lia,by let:=r.un;change A.units+3+16 * k+200<_;lia]
def a9G {A:Ë}:(A.under Ck).depth=A.depth+1:=by first|rfl|simp
def a7W {A:Ë}:(A.under Ck).units=A.units+1:=by first|rfl|simp
abbrev _root_.Û:=List (Str×Value)
def JW.make (r:JW base (k+1) A)(C)(us)(kw:Û):JW base k (A.under Ck):=
 #[r.hd,by let:=r.dp;rw[a9G];lia,by let:=r.un;rw[a7W];lia]
def JW.depth (r:JW base k A):A.depth<recursionLimit:=by let:=r.dp;lia
def JW.units (r:JW base k A):A.units+64<cLine:=by let:=r.un;lia
theorem wI:TA:=λ_ H Q=>Q [] H
theorem Bi (ta)(tr:TA):TA:=λσ H Q=>ta σ H λx H1=>tr σ H1 λxs H2=>Q (x::xs) H2
def Jx:PA X [] wI:=λ_ _ _ _ H Q I h=>Calls.spliced_nil b8q
def a9 (ha:PE X e te)(hr:PA X es t)(hs:starEach sQ X.env=Ō::starEach es X.env:=ā):PA X sQ (Bi te t):=by intro pos ñ s σ H Q I h;rw[hs];show Calls.spliced_cons (K2 ŋ λu s1 J'=>?_);let#[zQ]:=J';show K2 (hr pos ñ s1 σ H1 _ I1 q1) λus s2 J'=>by let#[xs,By]:=J';show#[x::xs,oo,.cons r1 r2,q2]
abbrev Sp:=List V->Hp->VK->XK->Prop
abbrev SX:=List Env->Hp->Shared->XK->ρ
structure Rw (P:É) (w:World) (K:Ψ) (mg:Ω) (base:zL) (A:Ë) (outer:List Env) (s:Ê) (H:Hp):Prop where
 frames:A.frames=!outer
 mod:Mod K mg base
 bs:∀ b o,base.get? b=!o->s.heap.get? b=!o/\H b=none
 U5:base.objs.size<=s.heap.objs.size
 NU:s.heap.FunFrames base outer
 UR:∀ b∈OR outer,H b=none
 JM:MS P w H s.heap
 bare:AllBare s.gens
theorem CE (outer)(P)(w)(H)(s:Ê)(Q)(u)(s'):Prop:=
 ∃ v H',s'.os=s.os/\AllBare s'.gens/\Un (OR outer) [] H H' s.heap s'.heap/\MS P w H' s'.heap/\wF v u/\Q v H'
theorem CR (CX:SX)(outer)(P)(w)(H)(s:Ê)(Q)(E:XK)(r:Result)(s'):Prop:=
 match r with
 | .ok (.ret u)=>CE outer P w H s Q u s'
 | .ok _=>False
 | .error e=>CX outer H s E e s'
abbrev _root_.È:=FuncData
structure K6 (P:É) (w:World) (K:Ψ) (mg:Ω) (base:zL) (CX:SX) (k:Nat) (f:Addr) (fd:È) (ps:η) (sp:Sp):Prop where
 len:∀ vs H Q E,sp vs H Q E->vs.length=ps.length
 run:∀ (A:Ë)(outer:List Env)(s:Ê)(H:Hp)(args:Args)(us:θ)(vs:π)(Q:VK)(E:XK),JW base k A->Rw P w K mg base A outer s H->BindsTo s fd args Go->lA vs us->sp vs H Q E ->
  codeAny Ŵ A (.call xI args) (CR CX outer P w H s Q E) s
def K6.imp {K:Ψ}(F:K6 P w K mg base CX k f fd ps sp)(h:∀ vs H Q E,sp' vs H Q E->sp vs H Q E):K6 P w K mg base CX k f fd ps sp':=
 #[λvs H Q E q=>F.len vs H Q E<|h _ _ _ _ q,λA outer s H args us vs Q E hr he hb hv hs=>F.run A outer s H args us vs Q E hr he hb hv<|h _ _ _ _ hs]
def Rw.make {K:Ψ}(e:Rw P w K mg base A outer s H)(C)(us)(kw:Û):
  Rw P w K mg base (A.under Ck) outer s H:=#[by first|show e.frames|(simpa [Around.under,Code.envs,Code.isFrame,pushEnvs] using e.frames),e.mod,e.bs,e.U5,e.NU,e.UR,e.JM,e.bare]
def Inv.VQ (I):Rw X.prog X.w X.K X.mg X.base X.A X.stack s H:=
 #[I.ok.frames,I.ok.mod,I.bs,Fs I.ok.U5 I.sz,I.stack,I.Np,I.JM,I.bare]
def Inv.after (I)(h:CE X.stack X.prog X.w H s Q u s'):EP X ñ σ Q u s':=by let#[v,H',os,bare,un,JM,r,q]:=h;let#[hh,g,d,t,os']:=s';obtain rfl:os'=s.os:=os;show#[v,H',I.call un JM bare λb z=>absurd z<|by simp,r,q]
theorem Bl (sp)(dvs:π)(E:XK)(t:TA):TE:=λσ H Q=>t σ H λvs H1=>sp lO H1 Q E
theorem pU (C)(m:Str)(sp)(dvs:π)(E:XK)(ta)(t:TA):TE:=λσ H Q=>ta σ H λx H1=>∃ a dx fs,x=.ref a/\H1 a=!.ins C dx fs/\fs.lookup m=none/\
 t σ H1 λvs H2=>sp (x::lO) H2 Q E
theorem yj (C)(sp)(dvs:π)(E:XK)(t:TA):TE:=λσ H Q=>t σ H λvs H1=>∀ x dx,H1 x=none->H1 dx=none->dx≠x->
 sp (.ref x::lO) (upd (upd H1 dx (.own x)) x (.ins C dx [])) b2v E
theorem MN (K)(fd:È)(ps)(ds:θ):Prop:=
 ∀ (s:Ê)(us:θ),K.In s.heap->(us++ds).length=ps.length->BindsTo s fd ⟨us,[]⟩ (ps.zip (us++ds))
def MN.all {K:Ψ}(h:∀ us:θ,us.length=ps.length->bindArgs fd uB=pure Go):MN K fd ps []:=λs us _ hl=>by rw[Fq]at hl ⊢;show .of_eq (h us hl)
theorem i8 (CX:SX)(X)(E:XK):Prop:=∀ (ñ:ζ)(σ:St)(H:Hp)(s:Ê)(e:Value)(s':Ê),Inv X ñ σ H s->CX X.stack H s E e s'->X.xe e s'
section
variable {f C:Addr}
def s0 (F)(hr)(hb:MN X.K fd ps ds)(hd:lA dvs ds)(hx:i8 CX X E)(I)(r:lA vs us)(h:sp lO H Q E):wpAny đ X.A (call xI us) Ŋ X.xe s:=by
 let r2:=r.append hd;let hl:(us++ds).length=ps.length:=by rw[<- r2.length];show F.len _ _ _ _ h
 show Jp (Il (F.run X.A X.stack s H uB _ _ Q E hr I.VQ (hb s us I.LR hl) r2 h) λr s' hq=>?_)
 cases r with
 | error e=>show hx ñ σ H s e s' I hq
 | ok fl=>
  cases fl with
  | ret u=>show I.after hq
  | next=>show False.elim hq
  | brk=>show False.elim hq
  | cont=>show False.elim hq
def b3z (F)(hr)(hg:Gl X x)(hm:X.mg x=!.ref f)(hk:W.keepIn X.K xI=true)(hb:MN X.K fd ps ds)(hd:lA dvs ds)(hx:i8 CX X E)(ha:PA X sQ t)(NB)(he)(LW):
  PE X ę (Bl sp dvs E t):=by
 intro ñ s σ H Q I h;show GR XQ;show Iy I.ok.mod.TZ hk A6 he LW;show s0 F hr hb hd hx I1 r q
def b7g (he:PE X o ta)(c:Nr X.K C)(hm:yb X.K C m f)(F)(hr)(hb:MN X.K fd ps ds)(hd:lA dvs ds)(hx:i8 CX X E)(ha:PA X sQ t)(QG)(LW)(ht:eval oy X.env=(do
   let ov <- eval o X.env
   standAt apos.atName
   let (f,first) <- holding [ov] ő
   callWith pos f first (backTo pos ű) ġ):=ā):
  PE X oy (pU C m sp dvs E ta t):=by
 intro ñ s σ H Q I h;show W.methodCall_KW sA ht;let#[AH,uk,ea,l,q]:=J';subst ex;obtain rfl:u=Value.ref a:=rx;show b3x I1 ea c hm l ?_;show Iy I.ok.mod.TZ hm.kp (K2 (ha pos ñ s1 σ H1 _ I1 q) fun us s2 ⟨vs,H2,I2,r,q2⟩=>#[I2.LR,?_]) QG LW;show s0 (vs:=.ref a::vs) F hr hb hd hx I2 (.cons rfl r) q2
def b9V (he:PE X o ta)(c:Nr X.K C)(hm:yb X.K C m f)(F)(hr)(hb:MN X.K fd ps ds)(hd:lA dvs ds)(hx:i8 CX X E)(ht:eval Ĝ X.env=(do
   let ov <- eval o X.env
   standAt apos.atName
   let (f,first) <- holding [ov] ő
   callWith pos f first (backTo pos jp) ġ):=ā):
  PE X Ĝ (pU C m sp dvs E ta wI):=by
 intro ñ s σ H Q I h;show W.methodCall_KW sA ht;let#[AH,uk,ea,l,q]:=J';subst ex;obtain rfl:u=Value.ref a:=rx;show b3x I1 ea c hm l ?_;show W.callWith_K0 I1.LR hm.kp (s0 (vs:=CG) F hr hb hd hx I1 Wt q)
structure Mk (K:Ψ) (C f:Addr):Prop where
 makes:W.makesIn K C=true
 init:W.findIn K Ax "__init__"=!some xI
 fn:W.isFn K xI=true
 kp:W.keepIn K Ax=true
def uw (M)(F)(hr:JW X.base (k+1) X.A)(hb:MN X.K fd ps ds)(hd:lA dvs ds)(hx:i8 CX X E)(I)(r:lA vs us)(h:∀ x dx,H x=none->H dx=none->dx≠x->sp (.ref x::lO) (upd (upd H dx (.own x)) x (.ins C dx [])) b2v E):
  wpAny đ X.A (call Ax us) Ŋ X.xe s:=by
 let hq:=h _ s.heap.objs.size (I.JM.fresh<|Nat.le_succ _) xv<|FK (GJ _);let I2:=Inv.made (C:=C) I;let r2:lA (V.ref ľ::_) _:=.cons rfl<|r.append hd;let hl:(Value.ref ľ::us++ds).length=ps.length:=by let e:=r2.length;rw[F.len _ _ _ _ hq]at e;show e.symm
 show Jp (C4 I.LR M.makes M.init (Iw.mp M.fn) (Il (F.run _ X.stack _ _ #[Value.ref _::us,[]] _ _ _ E b7L
  b5R (hb _ _ I2.LR hl) r2 hq) λr s' Pj=>?_))
 cases r with
 | error e=>show hx ñ σ _ _ e s' I2 Pj
 | ok fl=>
  cases fl with
  | ret u=>
   let#[v,H',I3,rv,ev,q3]:=I2.after Pj;subst ev;show#[rv,#[V.ref _,H',I3,1,q3]]
  | next=>show False.elim Pj
  | brk=>show False.elim Pj
  | cont=>show False.elim Pj
def a2b (M)(F)(hr:JW X.base (k+1) X.A)(hg:Gl X x)(hm:X.mg x=!.ref C)(hb:MN X.K fd ps ds)(hd:lA dvs ds)(hx:i8 CX X E)(ha:PA X sQ t)(NB)(he)(LW):
  PE X ę (yj C sp dvs E t):=by
 intro ñ s σ H Q I h;show GR XQ;show Iy I.ok.mod.TZ M.kp A6 he LW;show uw M F hr hb hd hx I1 r q
def b98 (M)(F)(hr:JW X.base (k+1) X.A)(hg:Gl X x)(hm:X.mg x=!.ref C)(hb:MN X.K fd ps ds)(hd:lA dvs ds)(hx:i8 CX X E)(NB):PE X b1h (yj C sp dvs E wI):=by intro ñ s σ H Q I h;show GR XQ;show W.callWith_K0 I.LR M.kp (uw M F hr hb hd hx I .nil h)
universe e
structure au (N P:η) (sc:Scope):Prop where
 kind:sc.kind=.function
 co:sc.isCoroutine=false
 gen:sc.isGenerator=false
 nd:N.Nodup
 pre:N.take P.length=P
 par:∀ x∈P,sc.names.lookup x=some .local \/ sc.names.lookup x=!.cell
 XW:∀ y∈sc.names,y.2≠.free
def b14 {kindOf:Str->Option NameKind}:∀ {binds:Û}{m:Ω},b4V->bindL kindOf binds m x=m x:=by
 intro r'
 induction r' with
 | nil=>
  intro _ _;show rfl
 | cons hd' r ih'=>
  let#[n,v]:=hd';intro m h;unfold bindL;rw[ih' λw hw=>h w<|Ft _ hw];split
  ·grind
  ·rfl
def a7w {kindOf:Str->Option NameKind}:∀ {binds:Û}{m:Ω},b4V->bindC kindOf binds m x=m x:=by
 intro r'
 induction r' with
 | nil=>
  intro _ _;show rfl
 | cons hd' r ih'=>
  let#[n,v]:=hd';intro m h;unfold bindC;rw[ih' λw hw=>h w<|Ft _ hw];split
  ·rfl
  ·grind
def Xi0 {kindOf:Str->Option NameKind}:∀ {P:η}{vs:θ}{i:Nat}{m:Ω},P.Nodup->P[i]?=!x->vs[i]?=!v->kindOf x=!.local->
  bindL kindOf (P.zip vs) m x=!v
 | [],_,_,_,_,h,_,_=>by simp at h
 | _::_,[],_,_,_,_,h,_=>by simp at h
 | p::P,w::vs,0,m,nd,h1,h2,hk=>by simp at h1 h2;subst h1;subst h2;change bindL kindOf sx m p=_;unfold bindL;rw[b14 λv hv=>(FP.mp nd).1 (HH hv).1,if_pos hk];simp
 | p::P,w::vs,i+1,m,nd,h1,h2,hk=>by change bindL kindOf sx m x=_;unfold bindL;show Xi0 (i:=i) (FP.mp nd).2 Ez tD hk
def b2j {kindOf:Str->Option NameKind}:∀ {P:η}{vs:θ}{i:Nat}{m:Ω},P.Nodup->P[i]?=!x->vs[i]?=!v->kindOf x≠!.local->
  bindC kindOf (P.zip vs) m x=!v
 | [],_,_,_,_,h,_,_=>by simp at h
 | _::_,[],_,_,_,_,h,_=>by simp at h
 | p::P,w::vs,0,m,nd,h1,h2,hk=>by simp at h1 h2;subst h1;subst h2;change bindC kindOf sx m p=_;unfold bindC;rw[a7w λv hv=>(FP.mp nd).1 (HH hv).1,if_neg hk];simp
 | p::P,w::vs,i+1,m,nd,h1,h2,hk=>by change bindC kindOf sx m x=_;unfold bindC;show b2j (i:=i) (FP.mp nd).2 Ez tD hk
theorem start (N:η)(vs:π):St:=vs.map some++List.replicate (N.length - vs.length) none
theorem dZ (CX:SX)(P)(w)(K)(mg)(base)(N:η)(ğ:Str)(scope)(f:Addr)(cd:Value)(A:Ë)(outer)(s:Ê)(H)(E:XK):Cx where
 prog:=P
 w:=w
 K:=K
 mg:=mg
 base:=base
 A:=A.deeper XV
 N:=N
 s₀:=s
 H₀:=H
 env:=envOfC ğ scope s.heap.objs.size f cd
 outer:=outer
 stack:=envOfC ğ scope s.heap.objs.size f cd::outer
 ex:=[]
 calm:=true
 fn:=λ_=>true
 pn:=[]
 xe:=λe s'=>wpAny Ŵ (A.deeper XV) (leaving XV e) (λ_ Vq=>CX outer H s E e Vq) (λe' Vq=>CX outer H s E e' Vq) s'
def b3N {sc:Scope}(h:sc.names.lookup x=!.cell):∃ c,(cellsFrom n sc.names []).lookup x=!c:=by show Gy.mp (W.cellsFrom_some sc.names n []<|.inl h)
def a8H {K:Ψ}(S:au N ps scope)(hd:Hd base A)(e0:Rw P w K mg base A outer s H)(hl:vs.length=ps.length)(r:lA vs us)(x:InCallC s s.heap.objs.size (bindL (envOfC ğ scope s.heap.objs.size f cd).kindOf Go λ_=>none) (cellsFrom ľ scope.names []) (bindC (envOfC ğ scope s.heap.objs.size f cd).kindOf Go λ_=>none) s1):
  Inv a5d [] GE H s1:=by
 let LW:ps.length<=N.length:=by let:=congrArg List.length S.pre;rw[Fd]at this;lia
 let#[h1,tk,1,hk]:=x.done;let noA:∀ b:Addr,b∉(dZ CX P w K mg base N ğ scope f cd A outer s H E).ex:=λb z=>absurd (show b∈([]:υ) from z) Ė;show#[#[e0.mod,S.kind,2,F8 _,λy z c h1 h2=>?_,λy hy=>?_,λy c _ h=>?_,λ_=>hd,Around.frames_deeper e0.frames,.inr #[2],λb z=>absurd z<|noA b,e0.bs,e0.U5,λb _ _=>noA b,λb z=>absurd z<|noA b,e0.NU,e0.UR],1,e0.bare,Un.kept hk,#[_,x.toInCall.ns,λi y v h1 h2 h3=>?_],λy c h=>#[_,x.cell y c h],e0.JM.fresh<|F8 _,λy c h=>?_,λp hp=>absurd (show p∈([]:ζ) from hp)<|by simp,e0.JM.kept hk,?_]
 ·show name_of_addr x.apart (Ir h1) (Ir h2)
 ·let hy:scope.names.lookup y=!.cell\/scope.names.lookup y=!.free:=hy;rcases hy with hy|hy
  ·show b3N hy
  ·show absurd rfl (S.XW _<|Ir hy)
 ·show Jm (x.above y c<|Ir h)
 ·let ha:vs[i]?=!v:=by unfold start at h2;grind
  let hi:i<vs.length:=(ES.mp ha).1;let#[u,hu,rv]:=r.get ha;let hp:ps[i]?=!y:=by rw[<- S.pre,Gz<|by lia];show h1
  let ndP:ps.Nodup:=by rw[<- S.pre];show S.nd.sublist (IJ _ _)
  show#[u,rv,?_];rcases S.par y (ET hp) with k|k
  ·show .inl #[k,Xi0 ndP hp hu k]
  ·let#[c,e]:=b3N (n:=s.heap.objs.size+1) k;show .inr #[.inl k,c,e,?_];let q:=x.cell y c e;rw[b2j ndP hp hu (by change scope.names.lookup y≠_;rw[k];decide)]at q;show q
 ·show e0.JM.fresh (Jm<|x.above y c (Ir h))
 ·unfold start;change _=N.length
  grind
def yX {K:Ψ}{dV kV:Value}(lk:K.lookup f=some #[B8,.func a4e,Lm])(Qq:W.codeIn K JE ğ=true)(S:au N ps scope)(len)(Mq:∀ (A:Ë)(outer:List Env)(s:Ê)(H:Hp)(vs:π)(Q:VK)(E:XK),JW base k (A.deeper (envOfC ğ scope s.heap.objs.size f JE))->sp vs H Q E->
   ∃ t,N7 ź body t/\t { nx:=λ_ H'=>Q .non H',rt:=Q } GE H):
  K6 P w K mg base CX (k+1) f a4e ps sp:=by
 show#[len,λA outer s H args us vs Q E hr e0 hb r SH=>?_];let KX:=e0.mod.TZ.keeps λb o e=>(e0.bs b o e).1;let lim:=e0.mod.nolimit.keeps λb o e=>(e0.bs b o e).1;let a10:∀ y∈ps.zip us,scope.names.lookup y.1=!.local\/(scope.names.lookup y.1=!.cell/\((cellsFrom ľ scope.names []).lookup y.1).isSome=true):=λJ' hy=>by
  let#[n,v]:=J';rcases S.par n (HH hy).1 with q|q
  ·show .inl q
  ·show .inr #[q,W.cellsFrom_some _ _ _<|.inl q]
 show codeAny_call_function hr.depth (KX _ _ lk) rfl S.co S.gen rfl (W.codeRec_of KX Qq) (hb _ _ _ _ ?_);show wpAny_newFunctionEnv_cells S.kind a10 λenv he s1 x=>?_;subst he;show#[lim.keeps x.toInCall.keep,codeAny_func ?_];let#[t,ht,hq]:=Mq A outer s H vs Q E (hr.deeper _) SH;let I:Inv ź [] _ H s1:=a8H S hr.hd e0 (len _ _ _ _ SH) r x;show GX (ht [] s1 _ H _ I hq) (λfl s' hs=>?_) λe s' hs=>hs;let fin:∀ {σ':St}{H':Hp}{v:V}{u:Value},Inv ź [] σ' H' s'->wF v u->Q v H'->CE outer P w H s Q u s':=
  λ{σ' H' v u} J rv q=>#[v,H',J.os,J.bare,J.base,J.JM,rv,q]
 cases fl with
 | ret u=>
  let#[v,we,J,rv,q]:=hs;show fin J rv q
 | next=>
  let#[we,J,q]:=hs;show fin (v:=V.non) J rfl q
 | brk=>
  let#[Cg,q]:=hs;show False.elim q
 | cont=>
  let#[Cg,q]:=hs;show False.elim q
section
variable {t:TA}{r:List V->Hp->VK->Prop}
theorem tCB (r:List V->Hp->VK->Prop)(t:TA):TE:=λσ H Q=>t σ H λvs H1=>r vs H1 Q
def bQ {id:String}(hc:Kc X xD r)(hg:Gl X x)(hm:X.mg x=none)(hv:bootBuiltins x=!.builtin id)(ha:PA X sQ t)(hn:x≠"__name__":=ö)(NB)(he)(LW):PE X ę (tCB r t):=by intro ñ s σ H Q I h;show GR b3j;show PyProof.Rows.callWith_builtin1 a2P he LW
def dA (hc:Kc X nN r)(hg:Gl X x)(hm:X.mg x=none)(hv:bootBuiltins x=!.type T)(ha:PA X sQ t)(hn:x≠"__name__":=ö)(NB)(he)(LW):PE X ę (tCB r t):=by intro ñ s σ H Q I h;show GR b3j;show GK a2P he LW
universe e
universe L2
namespace HT
open PySem PyProof.Rows
def UT (A:Ë)(s:Ê)(a:Int)(t:Tok)(c:Int)(u:Tok):∃ e,SeqAt.EqAt A s (.int a t) (.int c u) e/\(e=true ↔ a=c):=
 #[_,SeqAt.EqAt.int_int a t c u,by simp]
theorem Qk (n d:Nat):Option Int->Nat
 | none=>d
 | some v=>if v<0 then (v+(n:Int)).toNat else min v.toNat n
def R4 (n d:Nat):Qk n d none=d:=rfl
def Pg (n d k:Nat):Qk n d b7M=min k n:=by change (if (k)<0 then ((k)+(n:Int)).toNat else min (k:Int).toNat n)=min k n;rw[if_neg<|by lia,Gq]
universe HT
namespace L2
open PySem PySem.Spec PyProof.Rows
abbrev TO:=St->Hp->(Option Int->Ø)->Prop
theorem PO (X)(e:Option Expr)(t:TO):Prop:=
 ∀ (ñ:ζ)(s:Ê)(σ:St)(H:Hp)(Q:Option Int->Ø),Inv X ñ σ H s->t σ H Q->
  wpAny đ X.A (evalPart e X.env) (λu s'=>∃ o H',Inv X ñ σ H' s'/\IsPart u o/\Q o H') X.xe s
theorem c1I:TO:=λ_ H Q=>Q none H
theorem a0l (t:TE):TO:=λσ H Q=>t σ H λx H1=>∃ i,x=.int i/\Q (!i) H1
def a0K:∀ {us:θ},lA ŕ us->IntsAre us ns:=by
 induction ns with
 | nil=>intro us r;cases r;show .nil
 | cons n ns ih=>
  intro us r
  cases r with
  | cons r1 r2=>
   let#[t,e]:=r1;subst e;show .cons n t (ih r2)
section
variable {X:Cx}{te:TE}{lo hi:Option Expr}{tl th:TO}
def b6L:PO X none c1I:=by intro ñ s σ H Q I h;rw[evalPart_none];show F6 #[none,H,I,.none,h]
def sk (h:PE X e te):PO X (!e) (a0l te):=by intro ñ s σ H Q I hw;show K2 b5M λu s1 J'=>?_;let#[zQ]:=J';let#[i,1,q]:=q1;let#[t,1]:=r1;show#[!i,lE,.int i t,q]
abbrev _root_.Ó:=Option Int
theorem ZN (X)(r:V->Option Int->Option Int->Hp->VK->Prop):Prop:=
 ∀ (ñ:ζ)(s:Ê)(σ:St)(H:Hp)(x:V)(v vl vu:Value)(lo hi:Ó)(sl:Addr)(Q:VK),Inv X ñ σ H s->wF x v->s.heap.IsSliceOf sl vl vu .none->IsPart vl lo->IsPart vu hi->r x lo hi H Q->
  ∃ T id,typeLookup nN "__getitem__"=pure !.builtin id/\s.TypeIs v T/\wpAny đ X.A (getItem v (.ref sl)) Ŋ X.xe s
theorem tSl (r:V->Option Int->Option Int->Hp->VK->Prop)(te)(tl th:TO):TE:=λσ H Q=>te σ H λx H1=>tl σ H1 λl H2=>th σ H2 λu H3=>r x l u H3 Q
def uG (hr:ZN X r)(he:PE X e te)(hl:PO X lo tl)(hu:PO X hi th):PE X (.Subscript e b4w pos) (tSl r te tl th):=by intro ñ s σ H Q I h;show Subscript_ xS;let#[zQ]:=J';show wpAny_Slice (K2 (hl ñ s1 σ H1 _ I1 q1) fun vl s2 ⟨l,H2,I2,pl,q2⟩=>K2 (hu ñ s2 σ H2 _ I2 q2) λvu s3 J'=>?_);let#[u,H3,I3,pu,q3]:=J';show F6 ?_;let I4:Inv X ñ σ H3 { s3 with heap:=s3.heap.push { cls:=.type "slice",data:=.fields [vl,vu,.none].toArray } }:=I3.kept λb ob q=>EV _ q;let#[T,id,hT,ht,hg]:=hr ñ { s3 with heap:=s3.heap.push { cls:=.type "slice",data:=.fields [vl,vu,.none].toArray } } σ H3 x v vl vu l u s3.heap.objs.size Q I4 r1 (Heap.IsSliceOf.new ..) pl pu q3;show tail_any ht hT hg (by with_unfolding_all rfl)
theorem pF (xs:π)(lo hi:Ó):π:=(xs.drop (HT.Qk xs.length 0 lo)).take (HT.Qk xs.length xs.length hi - HT.Qk xs.length 0 lo)
def vU (xs:π)(lo hi:Ó):(pF xs lo hi).length<=xs.length:=by
 unfold pF;rw[Fd,IX]
 lia
universe e
theorem Vx (n)(i:Int):Option Nat:=if 0<=i then (if i<n then some i.toNat else none) else if -(n:Int)<=i then some (i+n).toNat else none
theorem P5 {α:Type}(xs)(i:Int):Option α:=(Vx xs.length i).bind λj=>xs[j]?
def a8v (h:Vx n i=!j):seqIndex? i n=!j/\j<n/\-(n:Int)<=i/\i<n:=by
 unfold Vx at h;by_cases h0:0<=i
 ·rw[if_pos h0]at h;by_cases h1:i<n
  ·rw[if_pos h1]at h;let e:=Option.some.inj h;show#[by rw[seqIndex_of h0 h1,e],sI,h1]
  ·simp_all
 ·rw[if_neg h0]at h;by_cases h1:-(n)<=i
  ·rw[if_pos h1]at h;let e:=Option.some.inj h;show#[by rw[seqIndex_neg #[] h1,e],#[],h1,#[]]
  ·simp_all
def c1z (h:P5 xs i=!v):∃ j,seqIndex? i xs.length=!j/\xs[j]?=!v/\j<xs.length/\-(xs.length:Int)<=i/\i<xs.length:=by
 unfold P5 at h
 cases e:Vx xs.length i with
 | none=>rw[e]at h;cases h
 | some j=>
  rw[e]at h;let#[ki]:=a8v e;show#[j,h1,h,h2,ou]
def iy {xs:List α}{j:Nat}{v:α}(h:xs[j]?=!v):P5 xs (j:Int)=!v:=by
 let hj:=(ES.mp h).1;let e:Vx xs.length (j)=!j:=by
  unfold Vx
  simp_all
 unfold P5;rw[e];show h
theorem jT (b:Expr):Prop:=∀ o i,subscripted b false o i=operate [o,i] (getItem o i)
theorem SU (X)(r:R2):Prop:=
 ∀ (value slice:Expr)(ñ:ζ)(s:Ê)(σ:St)(H:Hp)(x y:V)(v u:Value)(Q:VK),Inv X ñ σ H s->wF x v->wF y u->r x y H Q->
  subscripted slice false v u=operate [v,u] (getItem v u)->wpAny đ X.A (subscriptTail value slice v u) Ŋ X.xe s
theorem Cy (X)(id:String)(r):Prop:=
 ∀ (ñ:ζ)(s:Ê)(σ:St)(H:Hp)(x:V)(xs:π)(v:Value)(us:θ)(Q:VK),Inv X ñ σ H s->wF x v->lA xs us->r x xs H Q->
  wpAny đ X.A b69 Ŋ X.xe s
section
variable {a b:Expr}
def SU.or (h:SU X r)(h':SU X r'):SU X a9B:=by
 intro value slice ñ s σ H x y v u Q I rx ry q hs;rcases q with q|q
 ·show h value slice ñ s σ H x y v u Q I rx ry q hs
 ·show h' value slice ñ s σ H x y v u Q I rx ry q hs
def Wx {tb:TE}(hr:SU X r)(ha:PE X a ta)(hb:PE X b tb)(hs:jT b):PE X Bn Cw:=by intro ñ s σ H Q I h;show Subscript_ (Z2 ha hb I h λv u s2 x y H2 I2 rx ry q=>hr a b ñ s2 σ H2 x y v u Q I2 rx ry q<|hs _ _)
theorem DO (K):R2:=λx y H Q=>∃ p xs i v,x=.ref p/\y=.int i/\JU K H p xs/\P5 xs i=!v/\Q v H
theorem DN (K):R2:=λx y H Q=>∃ p xs i v,x=.ref p/\y=.int i/\M0 K H p xs/\P5 xs i=!v/\Q v H
def b0k:SU X (DO X.K):=by
 intro value slice ñ s σ H x y v u Q I rx ry h hs;let#[p,xs,i,z,2,hq,he,q]:=h
 cases rx;let#[t,1]:=ry;let#[pZ]:=I.list hq;let#[j,ki,h5]:=c1z he;let#[w,ew,QB]:=r.get h2;let hl:=r.length;let hn:=nL;let fin:EP X ñ σ Q w s:=#[z,H,I,QB,q]
 by_cases h0:0<=i
 ·let hj:i.toNat=j:=by
   rw[seqIndex_of h0 h5]at h1
   simp_all
  show item_listR pl.isList h0 #[] (by rw[hj];simpa using ew) fin hs
 ·let hj:(i+(its.toArray.size)).toNat=j:=by
   rw[seqIndex_neg #[] h4]at h1
   simp_all
  show subscriptTail_builtinR pl.isList.typeIs slot_list_getitem.lookup
   (wpAny_getItem_list_neg pl.isList #[] ħ #[] (by rw[hj];simpa using ew) #[1,fin]) hs
def c1B:SU X (DN X.K):=by
 intro value slice ñ s σ H x y v u Q I rx ry h hs;let#[p,xs,i,z,2,hq,he,q]:=h
 cases rx;let#[t,1]:=ry;let#[pZ]:=I.tuple hq;let#[j,ki,h5]:=c1z he;let#[w,ew,QB]:=r.get h2;let hl:=r.length;let hn:=nL;let fin:EP X ñ σ Q w s:=#[z,H,I,QB,q]
 show subscriptTail_builtinR pl.typeIs slot_tuple_getitem.lookup
  (getItem_tuple (j:=j) pl #[] #[] ħ (by simpa using ew) #[1,fin]) hs
def Inv.lst (I)(h:H p=!.lst xs):
  ∃ (its:θ)(n:Nat),lA xs its/\s.heap.get? p=!{ cls:=.type "list",data:=.seq its.toArray n }/\xs.length<=sizeLine:=by
 let#[tu,e]:=I.JM p _ h;show#[its,n,r,e,z]
def a4E (lo hi:Ó)(n):(sliceBounds lo hi none n).1=((HT.Qk n 0 lo:Nat):Int)/\(sliceBounds lo hi none n).2.1=((HT.Qk n n hi:Nat):Int)/\(sliceBounds lo hi none n).2.2=1:=by
 show#[D2,1]
 ·cases lo with
  | none=>simp[sliceBounds,HT.Qk]
  | some i=>
   simp only[sliceBounds,HT.Qk,Option.getD_none];by_cases h:i<0
   ·simp only[h] <;> lia
   ·simp only[h] <;> lia
 ·cases hi with
  | none=>simp[sliceBounds,HT.Qk]
  | some i=>
   simp only[sliceBounds,HT.Qk,Option.getD_none];by_cases h:i<0
   ·simp only[h,if_true] <;> lia
   ·simp only[h,HA] <;> lia
def b18 (its:θ)(lo hi:Ó):slicePick its.toArray lo hi none=((its.drop (HT.Qk its.length 0 lo)).take (HT.Qk its.length its.length hi - HT.Qk its.length 0 lo)).toArray:=by let#[zr]:=a4E lo hi its.toArray.size;unfold slicePick;rw[h1,h2,h3];simp only[sliceRange_one,pick_run] <;> rfl
theorem a4C (K):V->Option Int->Option Int->Hp->VK->Prop:=λx lo hi H Q=>∃ a xs,x=.ref a/\JU K H a xs/\∀ p,H p=none->Q DV (upd H p b5S)
def a20:ZN X (a4C X.K):=by
 intro ñ s σ H x v vl vu lo hi sl Q I rx hs pl pu h;let#[a,xs,1,hx,q]:=h
 cases rx;let#[its,r,ht,hz]:=I.list hx;let hlen:=r.length;show#["list",_,slot_list_getitem.lookup,ht.isList.typeIs,?_];show wpAny_getItem_list_slice ht.isList hs pl pu .none Ė ?_ ħ;rw[b18,<- hlen];show#[.ref s.heap.objs.size,_,I.laid (λb ob q=>EV _ q) XS ?_,1,q _<|I.JM.fresh XS];show#[Fs (vU xs lo hi) hz,_,(0),(r.drop _).take _,Fp _ rfl]
theorem dY:V->Bool
 | .non=>true
 | .bl _=>true
 | .int _=>true
 | .str _=>true
 | _=>false
theorem VP:V->V->Bool
 | .non,.non=>true
 | .bl a,.bl b=>a==b
 | .bl a,.int b=>(if a then 1 else 0)==b
 | .int a,.bl b=>a==b5T
 | .int a,.int b=>a==b
 | .str a,.str b=>a==b
 | _,_=>false
def b17 (ry)(rx)(fy:dY y=true)(fx):SeqAt.EqAt A s u v (VP y x):=by
 cases y with
 | non=>
  cases ry
  cases x with
  | non=>cases rx;show SeqAt.EqAt.same _
  | bl b=>cases rx;show SeqAt.EqAt.none_bool b
  | int b=>let⟨t,rfl⟩:=rx;show SeqAt.EqAt.none_int b t
  | str b=>let⟨t,rfl⟩:=rx;show SeqAt.EqAt.none_str b t
  | _=>show absurd (fx) FC
 | bl a=>
  cases ry
  cases x with
  | non=>cases rx;show SeqAt.EqAt.bool_none a
  | bl b=>cases rx;show SeqAt.EqAt.bool_bool a b
  | int b=>let⟨t,rfl⟩:=rx;show SeqAt.EqAt.bool_int a b t
  | str b=>let⟨t,rfl⟩:=rx;show SeqAt.EqAt.bool_str a b t
  | _=>show absurd (fx) FC
 | int a=>
  let#[t',1]:=ry
  cases x with
  | non=>cases rx;show SeqAt.EqAt.int_none a t'
  | bl b=>cases rx;show SeqAt.EqAt.int_bool a t' b
  | int b=>let⟨t,rfl⟩:=rx;show SeqAt.EqAt.int_int a t' b t
  | str b=>let⟨t,rfl⟩:=rx;show SeqAt.EqAt.int_str a t' b t
  | _=>show absurd (fx) FC
 | str a=>
  let#[t',1]:=ry
  cases x with
  | non=>cases rx;show SeqAt.EqAt.str_none a t'
  | bl b=>cases rx;show SeqAt.EqAt.str_bool a t' b
  | int b=>let⟨t,rfl⟩:=rx;show SeqAt.EqAt.str_int a t' b t
  | str b=>let⟨t,rfl⟩:=rx;show SeqAt.EqAt.str_str a t' b t
  | _=>show absurd (fx) FC
 | _=>show absurd (fy) FC
theorem RZ (x:V)(u):Bool:=match u with
 | .none=>VP .non x
 | .bool b=>VP qV x
 | .int i _=>VP xu x
 | .str z _=>VP (.str z) x
 | _=>false
def a5g (r:wF y u)(f:dY y=true):RZ x u=VP y x:=by
 cases y with
 | non=>cases r;rfl
 | bl b=>cases r;rfl
 | int i=>let⟨t,rfl⟩:=r;rfl
 | str z=>let⟨t,rfl⟩:=r;rfl
 | _=>show absurd (f) FC
def jM:∀ {xs:π}{us:θ},lA xs us->xs.all dY=true->us.any nF=xs.any λy=>VP y x:=by
 intro xs us h
 induction h with
 | nil=>intro _;rfl
 | cons r t ih=>
  intro f;rw[List.all_cons,He]at f;rw[J1,J1,a5g r f.1,ih f.2]
def b07 (rx)(fx):∀ {xs:π}{us:θ},lA xs us->xs.all dY=true->∀ u∈us,SeqAt.EqAt A s u v (RZ x u):=by
 intro xs us h
 induction h with
 | nil=>intro _ u hu;cases hu
 | cons r t ih=>
  intro f u' hu;rw[List.all_cons,He]at f;rcases Fw.mp hu with rfl|hu
  ·rw[a5g r f.1];show b17 r rx f.1 fx
  ·show ih f.2 u' hu
theorem Vc (x:V)(xs:π):Bool:=xs.any λy=>VP y x
theorem rIn (K)(neg:Bool):R2:=λx y H Q=>∃ p xs,y=.ref p/\(JU K H p xs\/M0 K H p xs)/\dY x=true/\xs.all dY=true/\Q (.bl (if neg then not (Vc x xs) else Vc x xs)) H
def c2O:L4 X sG (rIn X.K false):=by
 intro ñ s σ H x y v u Q I rx ry h;let#[p,xs,1,hq,fx,fs,q]:=h
 cases ry;rcases hq with hq|hq
 ·let#[pZ]:=I.list hq;show SeqAt.in_listAt _ pl.isList Ŝ vN;rw[show its.toArray.any _=its.any nF by simp,jM r fs];show q
 ·let#[pZ]:=I.tuple hq;show SeqAt.in_tupleAt _ pl Ŝ vN;rw[show its.toArray.any nF=its.any nF by simp,jM r fs];show q
def c1t:L4 X cN (rIn X.K true):=by
 intro ñ s σ H x y v u Q I rx ry h;let#[p,xs,1,hq,fx,fs,q]:=h
 cases ry;rcases hq with hq|hq
 ·let#[pZ]:=I.list hq;show SeqAt.notIn_listAt _ pl.isList Ŝ vN;rw[show its.toArray.any _=its.any nF by simp,jM r fs];show q
 ·let#[pZ]:=I.tuple hq;show SeqAt.notIn_tupleAt _ pl Ŝ vN;rw[show its.toArray.any nF=its.any nF by simp,jM r fs];show q
def a80:Kc X Op (λxs H Q=>∃ p ys,xs=kY/\(JU X.K H p ys\/M0 X.K H p ys)/\Q vT H):=by
 intro ñ s σ H xs us Q I r h;let#[p,ys,1,hq,q]:=h;let#[g6]:=dG r
 cases rx;let hn:=nL;rcases hq with hq|hq
 ·let#[Ye]:=I.list hq;let hlen:=r'.length;show Calls.call_len_list pl.isList (by simp only[GN] <;> lia) a4f
 ·let#[Ye]:=I.tuple hq;let hlen:=r'.length;show len_tuple pl (by simp only[GN] <;> lia) a4f
def b0R:Kc X Op (λxs H Q=>∃ z,xs=[.str z]/\z.length<=sizeLine/\Q (.int z.length) H):=by intro ñ s σ H xs us Q I r h;let#[z,1,hz,q]:=h;let#[u,1,t,1]:=dG r;let hn:=nL;show len_str #[] #[.int z.length,uW,q]
def Kc.or (h:Kc X f r)(h':Kc X f r'):Kc X f (λxs H Q=>r xs H Q\/r' xs H Q):=by
 intro ñ s σ H xs us Q I rs q;rcases q with q|q
 ·show h ñ s σ H xs us Q I rs q
 ·show h' ñ s σ H xs us Q I rs q
def a9J:Kc X Ļ (λxs H Q=>∃ p ys,xs=kY/\(JU X.K H p ys\/M0 X.K H p ys)/\∀ l,H l=none->Q LF Ar):=by
 intro ñ s σ H xs us Q I r h;let#[p,ys,1,hq,q]:=h;let#[g6]:=dG r
 cases rx;let fin:∀ (its:θ),lA ys its->ys.length<=sizeLine->∀ (h':Heap)(c':Nat),_->
   h'.get? s.heap.objs.size=!{ cls:=.type "list",dict:=none,data:=.seq its.toArray c',slots:=[].toArray }->EP X ñ σ Q _ { s with heap:=h' }:=λits r' hz h' c' kp e=>
  #[.ref s.heap.objs.size,_,I.laid kp XS<|show JR X.prog X.w _ h' _ D6 from #[hz,its,c',r',e],1,q _<|I.JM.fresh XS]
 rcases hq with hq|hq
 ·let#[Ye]:=I.list hq;let hlen:=r'.length;let#[o,DE]:=pl.isList;show call_list_seq p ĵ ho hc hd a7Z ħ
 ·let#[Ye]:=I.tuple hq;let hlen:=r'.length;let#[o,DE]:=pl;show call_list_seq p (.inr rfl) ho hc hd a7Z ħ
theorem tyV (K)(T:String)(x:V)(H):Prop:=match x with
 | .str _=>T="str"
 | .int _=>T="int"
 | .ref p=>(T="list"/\∃ xs,JU K H p xs)\/(T="tuple"/\∃ o,K.lookup p=!o/\o.cls=.type "tuple"/\o.dict=none) \/
   (T="dict"/\((∃ ķ,H p=!.dK ķ)\/∃ ķ,H p=!.dT ķ))\/(T="set"/\∃ S n,H p=!.set S n)
 | _=>False
def b3k (I)(r:wF x v)(ty:tyV X.K T x H):
  s.TypeIs v T/\∀ a,v=.ref a->∃ ob,s.heap.get? a=!ob/\ob.dict=none:=by
 cases x with
 | str z=>
  let#[t,1]:=r
  cases (ty);show#[typeIs_str s z t,λ_ e=>nomatch e]
 | int i=>
  let#[t,1]:=r
  cases (ty);show#[typeIs_int s i t,λ_ e=>nomatch e]
 | ref p=>
  cases r;rcases ty with⟨rfl,xs,hq⟩|⟨rfl,o,hk,hc,hd⟩|⟨rfl,hk⟩|⟨rfl,S,n,hk⟩
  ·let#[its,_,pl,_]:=I.list hq;show#[pl.isList.typeIs,λa e=>?_]
   cases e;let#[o,n,e,c,hd,_]:=pl;show#[o,e,hd]
  ·show#[#[o,I.LR p o hk,hc],λa e=>?_]
   cases e;show#[o,I.LR _ o hk,hd]
  ·let z:∃ o,s.heap.get? p=!o/\o.ExactDict:=by
    rcases hk with⟨ķ,hk⟩|⟨ķ,hk⟩
    ·let#[xb,o,_,_,e,ex,_]:=I.JM p _ hk;show#[o,e,ex]
    ·let#[xb,o,_,_,e,ex,_]:=I.JM p _ hk;show#[o,e,ex]
   let#[o,e,ex]:=z;show#[c2o]
   cases e2;show#[o,e,ex.2.1]
  ·let#[o,Cg,e,ex,_]:=I.JM p _ hk;show#[c2o]
   cases e2;show#[o,e,ex.2.1]
 | _=>show False.elim ty
theorem Xq (K)(T:String)(r)(to:TE):TE:=λσ H Q=>to σ H λx H1=>tyV K T x H1/\r x [] H1 Q
theorem tBM (K)(T:String)(r)(to:TE)(t:TA):TE:=λσ H Q=>to σ H λx H1=>tyV K T x H1/\t σ H1 λxs H2=>r x xs H2 Q
variable {id:String}
def a3s (pa)(slot)(VA)(hm:Cy X id r)(ho:PE X o to)(Li)(Mp):PE X b5U (Xq X.K T r to):=by intro ñ s σ H Q I h;show wpAny_Call_method0_late Li Mp b4x;let#[oA,r1,ty,q1]:=J';let#[nU]:=b3k I1 r1 ty;show#[T,id,pa,slot,VA,h1,h2,HZ rfl<|PySem.evalArgs_none (hm ñ s1 σ H1 x [] v [] Q I1 r1 .nil q1)]
def a0Q (pa)(slot)(VA)(hm:Cy X id r)(ho:PE X o to)(ha:PA X sQ t)(Li)(UO:((backTo Kg ű).all rX&&(backToKw Kg Ī).all DD
   && decide a52)=true:=ā)(Mp)(hs:starEach sQ X.env=Ō::starEach es X.env:=ā)(PB):
  PE X b4X (tBM X.K T r to t):=by
 intro ñ s σ H Q I h;show wpAny_Call_method_late Li UO Mp rfl b4x;let#[oA,r1,ty,q1]:=J';let#[nU]:=b3k I1 r1 ty;show#[T,id,pa,slot,VA,nU,?_];let hA:=ha Kg ñ s1 σ H1 _ I1 q1;rw[hs]at hA ⊢;show HZ (by change (false || (backTo Kg _).any _)=false;rw[PB] <;> rfl) (Calls.evalArgs_plain ?_);show K2 hA λus s2 J'=>by let#[vs,By]:=J';show hm ñ s2 σ H2 x vs v us Q I2 r1 r2 q2
universe e
theorem A4 (X)(id:String)(r):Prop:=
 ∀ (ñ:ζ)(s:Ê)(σ:St)(H:Hp)(x:V)(xs:π)(v:Value)(us:θ)(Q:VK),Inv X ñ σ H s->wF x v->lA xs us->r x xs H Q->
  wpAny đ X.A b69 Ŋ X.xe s
def lA.one:∀ {x:V}{us:θ},lA [x] us->∃ u,us=[u]/\wF x u:=by
 intro x us h
 cases h with|cons r t=>cases t;show#[_,1,r]
def lA.zero:∀ {us:θ},lA [] us->us=[]
 | _,.nil=>rfl
def lA.dropLast (h:lA xs us):lA xs.dropLast us.dropLast:=by
 induction h with
 | nil=>show .nil
 | cons r t ih=>
  cases t with
  | nil=>show .nil
  | cons q t'=>show .cons r ih
def lA.eraseIdx:∀ {xs:π}{us:θ} (i:Nat),lA xs us->lA (xs.eraseIdx i) (us.eraseIdx i)
 | _,_,_,.nil=>.nil
 | _,_,0,.cons _ t=>t
 | _,_,i+1,.cons r t=>.cons r (lA.eraseIdx i t)
def lA.rep (h:lA xs us):∀ k:Nat,lA (List.replicate k xs).flatten (List.replicate k us).flatten:=by
 intro r'
 induction r' with
 | zero=>
  show .nil
 | succ k ih'=>
  rw[HB,HB,IM,IM];show lA.append h (ih')
def c3w (l:List α):l.eraseIdx (l.length - 1)=l.dropLast:=by grind
def qu:∀ (l:List α)(i:Nat),(l.eraseIdx i).length<=l.length
 | [],_=>F8 _
 | _::_,0=>Nat.le_succ _
 | _::r,i+1=>Nat.succ_le_succ (qu r i)
def b3a (its:θ):∀ (k:Nat)(acc:θ),
  List.foldl Cv acc.toArray (List.replicate k its.toArray)=(acc++(List.replicate k its).flatten).toArray
 | 0,acc=>by simp
 | k+1,acc=>by simp[List.replicate,b3a,HB,GU]
def Inv.Y3 {its:θ}(I)(hH:H l=!.lst xs)(e:s.heap.get? l=!{ cls:=.type "list",data:=.seq its.toArray n })(hf:f its.toArray=its'.toArray)(hv:lA ys its')(hz:ys.length<=sizeLine):
  Inv X ñ σ Ar { s with heap:=s.heap.update l (Obj.mapSeq f),toks:=t' }:=by
 let q:=PySem.IsL.update e f;rw[hf]at q;show I.write (by rw[hH];show trivial) ĵ (λb' u hb hu=>(FH s.heap _<|Ne.symm hb).trans hu) #[_,q] ?_;show#[hz,its',_,hv,q]
def Inv.Y4 (I)(hv:lA ys its)(hz:ys.length<=sizeLine):
  Inv X ñ σ (upd H s.heap.objs.size D6) { s with heap:=s.heap.push { cls:=.type "list",data:=.seq its.toArray },toks:=t' }:=
 I.laid uE XS #[hz,its,(0),hv,Fp _ rfl]
def Inv.fresh (I):H s.heap.objs.size=none:=I.JM.fresh XS
def Inv.Td (I)(hH:H l=!.lst xs):xs.length<=sizeLine/\∃ (its:θ)(n:Nat),lA xs its/\xs.length=its.length/\s.heap.get? l=!{ cls:=.type "list",data:=.seq its.toArray n }:=by let#[tu,e]:=I.JM l _ hH;show#[tu,r.length,e]
def a7c (h:n<=sizeLine):Builtin.List.listTooLong n=false:=by show F5 #[]
theorem a3A:V->List V->Hp->VK->Prop:=λx vs H Q=>∃ l xs y,x=.ref l/\vs=[y]/\H l=!.lst xs/\xs.length<sizeLine/\Q .non (upd H l (.lst (xs++[y])))
def aB:A4 X "list.append" a3A:=by
 intro ñ s σ H x vs v us Q I rx rv h;let#[l,xs,y,2,hH,hz,q]:=h
 cases rx;let#[u,1,ru]:=rv.one;let#[A8]:=I.Td hH;show IW F.slot_list_append lv F.entry_list_append (F.args_list_append_2 _ _) (PySem.list_append l its.toArray n u<|by simp_all) #[e,?_];show#[.non,_,I.Y3 hH e Ė (r.append<|.cons ru .nil) ?_,1,q];rw[Fb,Gg]
 lia
theorem a0H:V->List V->Hp->VK->Prop:=λx vs H Q=>∃ l xs y,x=.ref l/\vs=[]/\H l=!.lst xs/\xs[xs.length - 1]?=!y/\Q y (upd H l (.lst xs.dropLast))
def b2l:A4 X "list.pop" a0H:=by
 intro ñ s σ H x vs v us Q I rx rv h;let#[l,xs,y,2,hH,hy,q]:=h
 cases rx;let Yk:=rv.zero;subst Yk;let#[A8]:=I.Td hH;let#[ye]:=r.get hy;let hy':its.toArray[its.toArray.size - 1]?=!u:=by
  simp_all
 show IW F.slot_list_pop lv F.entry_list_pop (F.args_list_pop_1 _) (MeetsSeq.list_pop_last l its.toArray n u hy'<|by simp_all) #[e,?_];show#[y,_,I.Y3 hH e ?_ r.dropLast ?_,ru,q]
 ·simp_all
 ·rw[List.length_dropLast]
  lia
theorem b6J:V->List V->Hp->VK->Prop:=λx vs H Q=>∃ l xs i k y,x=.ref l/\vs=uf/\H l=!.lst xs/\-(2 ^ 63)<=i/\i<2 ^ 63/\seqIndex? i xs.length=!k/\xs[k]?=!y/\Q y (upd H l (.lst (xs.eraseIdx k)))
def b5u:A4 X "list.pop" b6J:=by
 intro ñ s σ H x vs v us Q I rx rv h;let#[l,xs,i,k,y,2,hH,nU,hk,hy,q]:=h
 cases rx;let#[u,1,ru]:=rv.one;let#[t,1]:=ru;let#[A8]:=I.Td hH;let#[w,hw,QB]:=r.get hy;show IW F.slot_list_pop lv F.entry_list_pop (F.args_list_pop_2 _ _)
  (MeetsSeq.list_pop_at l its.toArray n i t k w (fitsIndex_both h1 h2) ħ ħ<|by simp_all) #[e,?_]
 show#[y,_,I.Y3 hH e ?_ (r.eraseIdx k) ?_,QB,q]
 ·simp_all
 ·let:=qu xs k
  lia
theorem a4G:R2:=λx y H Q=>∃ l b xs zs,x=.ref l/\y=.ref b/\H l=!.lst xs/\H b=!.lst zs/\xs.length+zs.length<=sizeLine/\∀ p,H p=none->Q DV (upd H p (.lst (xs++zs)))
def a6P:L4 X mJ a4G:=by
 intro ñ s σ H x y v u Q I rx ry h;let#[l,b,xs,zs,2,hH,hB,hz,q]:=h
 cases rx
 cases ry;let#[A8]:=I.Td hH;let#[z2,MD,n2,r2,Rk,e2]:=I.Td hB;show PySem.P.add_list e e2 ?_ (by grind);let ea:its.toArray++MD.toArray=(its++MD).toArray:=by simp
 rw[ea];show#[.ref _,_,I.Y4 (r.append r2)<|by simp_all,1,q _ I.fresh]
theorem a0G:R2:=λx y H Q=>∃ l k xs,x=.ref l/\y=.int k/\H l=!.lst xs/\-(2 ^ 63)<=k/\k<2 ^ 63/\xs.length * k.toNat<=sizeLine/\
 ∀ p,H p=none->Q DV (upd H p (.lst (List.replicate k.toNat xs).flatten))
def a35 (xs)(k:Nat):(List.replicate k xs).flatten.length=k * xs.length:=by simp_all
def n8:L4 X b8p a0G:=by
 intro ñ s σ H x y v u Q I rx ry h;let#[l,k,xs,2,hH,nU,hz,q]:=h
 cases rx;let#[t,1]:=ry;let#[A8]:=I.Td hH;let hlen:its.toArray.size * k.toNat<=sizeLine:=by simp_all
 let a6a:¬ its.toArray.size * k.toNat > (2 ^ 63 - 1) / 8:=by
  let:(sizeLine:Nat)<=(2 ^ 63 - 1) / 8:=by decide
  lia
 let a51:¬ (not (Builtin.List.listFitsIndex k))=true:=by rw[fitsIndex_both h1 h2];show FC
 let a1X:¬ Builtin.List.listTooLong (its.toArray.size * k.toNat)=true:=by
  rw[a7c hlen]
  simp_all
 let LX:List.foldl Cv [].toArray (List.replicate (if its.toArray.isEmpty=true then 0 else k.toNat) its.toArray)=(List.replicate k.toNat its).flatten.toArray:=by
  let f0:∀ m:Nat,List.foldl Cv [].toArray (List.replicate m its.toArray)=(List.replicate m its).flatten.toArray:=λm=>by simp[b3a,Gp]
  rw[f0]
  cases its with
  | nil=>simp
  | cons a r'=>rw[if_neg<|by simp]
 show wpAny_binaryOp_repeat_ref œ lv (λs'=>typeIs_int s' k t) noFill_list_mul F.fills_int_mul F.slot_int_rmul repeat_list F.slot_int_index.lookup
  (IW F.slot_int_rmul (typeIs_int s k t) F.entry_int_rmul (F.args_int_rmul_2 _ _) (int___rmul___int_list k t l its.toArray n)
   #[e,1,lv,IW F.slot_list_mul lv F.entry_list_mul (F.args_list_mul_2 _ _) (AutoListH.list___mul___list_int_3 l its.toArray n k t a51 a6a a1X) #[e,?_]])
 rw[LX];show#[.ref _,_,I.Y4 (r.rep k.toNat) (by rw[a35,Nat.mul_comm];show hz),1,q _ I.fresh]
universe L2
namespace Att
open PySem PySem.W PySem.Calls PyProof.Rows
abbrev _root_.Ξ:=List Int
def a1K:∀ (ns:Ξ)(vs:θ),WellAll P h vs b7a->IntsAre vs ns:=by
 intro ns
 induction ns with
 | nil=>
  intro vs w
  cases w;show .nil
 | cons n ns ih=>
  intro vs w
  cases w with
  | cons a b=>
   cases a;show .cons _ _ (ih _ b)
def c3l {l:OpenLaw}(hn:l.most=!n)(VD:l.row.toRowW.claim.pre args=true)(hwl:WellAll P h vals args):
  ∃ a vs ns,vals=[Value.ref a]/\args=[WData.list b7a]/\h.get? a=!{ cls:=.type "list",data:=.seq vs.toArray }/\IntsAre vs ns/\ns.length<=n:=by
 let hsh:=(pre_splitW VD).1;let hc:l.pre.holds [] { args:=args }=true:=(pre_splitW VD).2;let#[d,r,1,nU]:=hasAllW_cons hsh;obtain rfl:=hasAllW_nil h2;let#[xs,1,h3]:=hasW_list h1;let#[ns,1]:=items_int h3;let hlen:ns.length<=n:=by
  let h4:(WTm.not<|.lt (.lit<|.int (n)) (.len<|.arg 0)).holds [] { args:=[.list<|ns.map .int] }=true:=by let h4:=(holds_andW hc).1;rw[hn]at h4;show h4
  let h5:=condW_of h4 (w_not<|w_lt w_lit (w_len_list<|w_arg rfl))
  simp_all
 cases hwl with
 | cons w1 w2=>
  cases w2
  cases w1 with
  | list ho Oq=>show#[_,_,ns,2,ho,a1K ns _ Oq,hlen]
def c3q (l:OpenLaw)(args:List WData):l.row.toRowW.claim.post args (.bool true) args=true:=
 postW_of
  (show WShape.has [] _ .bool=true by first|rfl|decide|simp)
  (w_eq_bool (w_res rfl) w_lit) rfl
def Rr {l:OpenLaw}(hn:l.most=!n)(hdf)(call:∀ (w:World)(s₀ s₁:Ê)(mg mb:Ω)(fa:Addr)(o:Obj)(pm cd doc:Value)(a:Addr)(vs:θ)(ns:Ξ),
   Ground q loose [] XP w s₀ mg mb s₁.heap->YP w s₁.heap->
   s₁.heap.get? fa=!o->o.data=.func (docDef d.name d.params d.body d.scope pm cd doc)->s₁.heap.CodeRec cd d.name->mg d.name=!.ref fa->
   s₁.heap.get? a=!{ cls:=.type "list",data:=.seq vs.toArray }->IntsAre vs ns->ns.length<=n->s₁.gens=[].toArray->
   codeAny (model l.prog w) callerA IY a2c s₁):
  WalkO q loose XP YP l.row.toRowW d [] rY:=by
 intro w s₀ s₁ mg mb G Y fa o pm cd doc dV kV ho hd Qq hD hmg hg args vals as VD b02 VC hwl hlo;obtain rfl:dV=.none:=Dflts.none hD hdf;obtain rfl:kV=.none:=Dflts.noKw hD;let#[a,vs,ns,2,Yr,hints,hlen]:=c3l hn VD hwl;show enter_call (Il (call w s₀ s₁ mg mb fa o pm cd doc a vs ns G Y ho (fd_plain hd) Qq hmg Yr hints hlen hg) λr s' hq=>?_);let#[1,h2,ou]:=hq;show#[.inl #[.bool true,.bool true,[],1,λ_=>rfl,.bool true,c3q l _,λ_=>#[List.Pairwise.nil,λ_ hm=>nomatch hm]],h2,ou]
universe Att
namespace L2
open PySem PySem.Spec PyProof.Rows
def c17:∀ {vs:θ}{ns:Ξ},IntsAre vs ns->lA ŕ vs:=by
 intro vs ns h
 induction h with
 | nil=>show .nil
 | cons n t _ ih=>show .cons #[t,1] ih
theorem Ze (H):Prop:=∀ b,H b=none\/∃ o xs,H b=!.frz o fJ
abbrev _root_.Ñ:=Array DictEntry
def b35 {K:Ψ}(KX:K.In s₁.heap)(U0:s₁.heap.Ns mainGlobals mg)(hb:s₁.heap.Ns builtinsNs mb)(hbb:∀ x:Str,x≠"__name__"->mb x=bootBuiltins x)(a5P:s₁.heap.NoLimit)(hg:s₁.gens=[].toArray)(ha:s₁.heap.get? a=!{ cls:=.type "list",data:=.seq vs.toArray })(hi:IntsAre vs ns)(hl:ns.length<=sizeLine)(hr:∀ b:Heap,JW #[b,none] k callerA)(F:∀ base:Heap,K.In base->base.Ns mainGlobals mg->K6 P w K mg vQ CX k fa fd [x] sp)(a2d:∀ (s:Ê)(u:Value),BindsTo s fd #[[u],[]] [(x,u)])(SH:∀ H:Hp,Ze H->JU K H a ŕ->sp CG H b6k λ_ _ _=>False)(hCX:∀ H e s',CX [] H s₁ b8r e s'->False):
  codeAny Ŵ callerA IY a2c s₁:=by
 let rv:=c17 hi;let a47:=hi.length;let core:∀ H:Hp,Ze H->JU K H a ŕ->MS P w H s₁.heap->(∀ b,H b≠none->b=a)->(H a≠none->K.lookup a=none)->
   codeAny Ŵ callerA IY (λr s'=>r=.ok (.ret<|.bool true)/\OldK s₁.heap s'.heap/\s'.os=s₁.os/\AllBare s'.gens) s₁:=by
  intro H hO hS JM hA hK;let SS:∀ {b:Addr}{o:Obj},s₁.heap.get? b=!o->H b=none->(pp s₁.heap H).get? b=!o:=λe n=>a5e e n;let noA:∀ {b:Addr}{o:Obj}{es:Ñ}{ep:Nat},s₁.heap.get? b=!o->o.data=.dict es ep->H b=none:=λ{b o es ep} e d=>by
   grind
  let nsK:∀ {b:Addr}{m:Ω},s₁.heap.Ns b m->(pp s₁.heap H).Ns b m:=λ{b m} J'=>by let#[xr,e,d,r]:=J';show#[o,es,ep,SS e<|noA e d,d,r]
  let hKb:K.In (pp s₁.heap H):=λb o e=>SS (KX b o e) (by
   cases q:H b with
   | none=>rfl
   | some u=>
    let e':b=a:=hA b (by rw[q];simp);subst e';rw[hK (by rw[q];simp)]at e;cases e)
  let hM:Mod K mg b4y:=#[hKb,nsK U0,#[mb,nsK hb,hbb],(let #[mc,nU]:=a5P;#[mc,nsK h1,h2]),λ_ z=>nomatch z]
  let e0:Rw P w K mg b4y callerA [] s₁ H:=#[1,hM,λb o e=>Fn0 e,II<|b6A _ _,trivial,λb hb=>absurd (show b∈([]:υ) from hb)<|by simp,JM,.of_eq hg]
  show Il ((F _ hKb<|nsK U0).run callerA [] s₁ H #[CG,[]] CG CG _ _ (hr _) e0 (a2d s₁<|.ref a) Wt<|SH H hO hS) λr s' h=>?_
  cases r with
  | error e=>show (hCX H e s' h).elim
  | ok fl=>
   cases fl with
   | next=>show False.elim h
   | brk=>show False.elim h
   | cont=>show False.elim h
   | ret u=>
    let#[v,H',os,bare,un,a5C,r',q]:=h;let q':v=.bl true:=q;subst q';obtain rfl:u=Value.bool true:=r';show#[1,OldK.of_keep λb o e=>?_,os,bare]
    cases q:H b with
    | none=>show un.keep b o e q (by intro z;show absurd (show b∈([]:υ) from z)<|by simp) Ė
    | some u=>
     rcases hO b with z|⟨ob,xs,z⟩
     ·rw[q]at z;cases z
     ·let z2:=un.NW b ob _ z;let#[e1,_]:=JM b _ z;let#[e2,_]:=a5C b _ z2;rw[e]at e1;cases e1;show e2
 cases hk:K.lookup a with
 | some o=>
  let e:=KX a o hk;rw[ha]at e
  cases e;show core b6j (λ_=>.inl rfl) (.inr #[_,vs.toArray,_,hk,3,by rw[GN,a47];show hl,by simpa using rv]) (λb u z=>by let z':(none:Option HO)=!u:=z;cases z') (λb z=>absurd rfl z) λz=>absurd rfl z
 | none=>
  show core (λb=>if b=a then some (.frz { cls:=.type "list",data:=.seq vs.toArray }<|.lst (ns.map V.int)) else none) (λb=>?_) (.inl<|.inr ⟨{ cls:=.type "list",data:=.seq vs.toArray },if_pos rfl⟩) (λb u z=>?_) (λb z=>?_) λ_=>hk
  ·by_cases hb:b=a
   ·show .inr #[_,_,if_pos hb]
   ·show .inl (if_neg hb)
  ·by_cases hb:b=a
   ·let z':=(if_pos hb).symm.trans z
    cases z';subst hb;show#[ha,by rw[EO];show hl,vs,_,rv,ha]
   ·let z':=(if_neg hb).symm.trans z
    cases z'
  ·by_cases hb:b=a
   ·show hb
   ·show absurd (if_neg hb) z
def Vj {l:W.OpenLaw}{K:Params->Ψ}{CX:World->SX}{sp:World->Sp}(hn:l.most=!n)(hn2:n<=sizeLine)(hdf)(hr:∀ b:Heap,JW #[b,none] k callerA)(hY)(F:∀ (w:World)(mg:Ω)(fa:Addr)(h:Heap),(K w.params).In h->h.Ns mainGlobals mg->mg d.name=!.ref fa->
   ∃ fd:È,(∀ (s:Ê)(u:Value),BindsTo s fd #[[u],[]] [(x,u)])/\
    ∀ base:Heap,(K w.params).In base->base.Ns mainGlobals mg->K6 l.prog w qN mg vQ (CX w) k fa fd [x] (sp w))(SH:∀ (w:World)(H:Hp)(a:Addr)(ns:Ξ),ns.length<=n->Ze H->JU qN H a ŕ->sp w CG H b6k λ_ _ _=>False)(hCX:∀ (w:World)(H:Hp)(s:Ê)(e:Value)(s':Ê),CX w [] H s b8r e s'->False):
  W.WalkO q loose XP YP l.row.toRowW d [] rY:=by
 show Att.Rr hn hdf λw s₀ s₁ mg mb fa o pm cd doc a vs ns G Y ho hd Qq hmg Yr hints hlen hg=>?_;let KX:=hY w _ Y;let#[fd,hb,hF]:=F w mg fa _ KX G.T.g hmg;show b35 KX G.T.g G.T.b G.T.builtins G.T.nolimit hg Yr hints (Fs hlen hn2) hr hF hb (λH hO hS=>SH w H a ns hlen hO hS) λH e s'=>hCX w H s₁ e s'
theorem ao (s:Stmt)(j):Stmt:=match s with
 | .ClassDef _ _ _ body _ _ _ _ _ _ _=>body.getD j b4Y
 | _=>.Pass ⟨0,0,0,0⟩
theorem aU (s:Stmt):Arguments:=match s with
 | .FunctionDef _ a _ _ _ _ _ _ _ _=>a
 | _=>{ posonlyargs:=[],args:=[],vararg:=none,kwonlyargs:=[],kw_defaults:=[],kwarg:=none,defaults:=[] }
theorem ax (s:Stmt):Í:=match s with
 | .FunctionDef _ _ b _ _ _ _ _ _ _=>b
 | _=>[]
theorem aa (s:Stmt):Scope:=match s with
 | .FunctionDef _ _ _ _ _ _ sc _ _ _=>sc
 | _=>{ kind:=.function,names:=[],isGenerator:=false,isCoroutine:=false }
abbrev Ld:SX:=λ_ _ _ _ _ _=>False
abbrev E0:XK:=λ_ _ _=>False
def mV:i8 Ld X E0:=λ_ _ _ _ _ _ _ h=>h.elim
abbrev _root_.ω:=Array (Option Value)
structure Nc (K:Ψ) (x ğ:Str) (st:Stmt) (f:Addr) (fd:È):Prop where
 ex:∃ (oc:Value)(od:ψ)(kV doc pm:Value)(an:ψ)(JE ct:Value)(Lm:ω),
  fd=W.fnOf x ğ E8 zu Bo .none kV doc pm an JE ct/\K.lookup f=some ⟨oc,od,.func fd,Lm⟩/\W.codeIn K JE ğ=true
 kp:W.keepIn K xI=true
section
variable {K:Ψ}
def Nc.ok {st:Stmt}{k:Nat}(F:Nc K x ğ st f fd)(S:au N ps Bo)(len)(Mq:∀ (JE:Value)(A:Ë)(outer:List Env)(s:Ê)(H:Hp)(vs:π)(Q:VK)(E:XK),JW base k Ĕ->sp vs H Q E->
   ∃ t,N7 (dZ Ld P w K mg base N ğ Bo f JE A outer s H E).RO zu t/\t { nx:=λ_ H'=>Q .non H',rt:=Q } GE H):K6 P w K mg base Ld (k+1) f fd ps sp:=by
 let#[B8,ju]:=F.ex;show yX lk Qq S len λA outer s H vs Q E hr SH=>?_;let#[t,h,q]:=Mq JE A outer s H vs Q E hr SH;show#[t,h.RO,q]
def Nc.binds {st:Stmt}(F:Nc K x ğ st f fd)(h:∀ (kV doc pm:Value)(an:ψ)(JE ct:Value)(us:θ),us.length=ps.length->bindArgs Ę uB=pure Go):MN K fd ps []:=by let#[B8,ju]:=F.ex;show .all (h kV doc pm an JE ct)
def sW {st:Stmt}{kV:Value}(l:K.lookup f=some b5V)(c)(k:W.keepIn K xI=true):Nc K x ğ st f Ę:=#[#[B8,b9a,Lm,1,l,c],k]
universe e
def aJ (hr:JW base k A):A.units+1<cLine:=Iz (Nat.add_le_add_left (by decide:1<=64) _) hr.units
def pv (i)(hN:X.N[i]?=!x:=ā)(hv:ZL X.env.scope x:=ă)(hd)(Qq):PE X Ÿ D4:=c1D hN hv hd Qq
def xB {A:Prop}(h:B):if false=true then A else B:=by rw[if_neg FC];show h
def Cj {A:Prop}(h:A):if true=true then A else B:=by rw[if_pos rfl];show h
def lJ {A:Prop}[Decidable c](h1:c->A)(h2:¬ c->B):if c then A else B:=by simp_all
def a1m {A:Prop}[Decidable c](hc:c)(h:B):if (not (decide c))=true then A else B:=by rw[EY hc];show xB h
theorem gR (H H':Hp):Prop:=∀ b o,H b=!o->H' b=!o
def gR.refl (H):gR H H:=λ_ _ h=>h
def gR.trans (a:gR H H1)(b:gR H1 H2):gR H H2:=λc o h=>b c o (a c o h)
def gR.free (e)(h:H' l=Option.none):H l=Option.none:=by
 cases q:H l with
 | none=>rfl
 | some o=>
  rw[e l o q]at h
  cases h
def gR.seq {K:Ψ}(e)(h:JU K H a xs):JU K H' a xs:=by
 rcases h with (h|⟨o,h⟩)|h
 ·show .inl (.inl<|e _ _ h)
 ·show .inl (.inr #[o,e _ _ h])
 ·show .inr h
theorem Itz (K)(a b:Addr):It:=
 ⟨λi H=>∃ xs ys x y,JU K H a xs/\JU K H b ys/\xs[i]?=!x/\ys[i]?=!y,
  λi H v H'=>∃ T,H T=none/\v=.ref T/\∃ x y,b0G/\(∀ ys,JU K H b ys->ys[i]?=!y)/\H'=upd H T (.tup [x,y]),
  λi H=>∃ xs ys,JU K H a xs/\JU K H b ys/\(xs.length<=i\/ys.length<=i)⟩
def Inv.Oc {ch:υ}(I)(hf:∀ b∈ch,kQ X ñ H b)(k:∀ b o,b∉ch->s.heap.get? b=!o->h'.get? b=!o):Inv X ñ σ H { s with heap:=h',toks:=t' }:=by
 show I.step (λb hb=>#[(hf b hb).2.2.2.1,(hf b hb).2.1,(hf b hb).2.2.2.2.1,(hf b hb).2.2.2.2.2]) (λb o _ _ hc e _=>k b o hc e) (λb o _ _ hc e _=>#[o.slots,k b o hc e]) (λ_ _ _ _ n=>n)
  (λb o hc e=>#[o,k b o hc e]) (λ_ _ e=>e) (λ_ _ _ e=>e) (λm hm=>?_) (λb u e=>?_) I.bare
 ·let#[rJ]:=hm;show#[xr,k _ o (λz=>(hf _ z).2.1 rfl) ho,r]
 ·show (I.JM b u e).KN (λc v hc q=>k c v w8 q) ZP λ_ _ q=>q;let n:=(hf c z).1
  grind
def Inv.Uc (I)(hf:kQ X ñ H T)(hs:X.s₀.heap.objs.size<=T)(new:JR X.prog X.w (upd H T o) s.heap T o):Inv X ñ σ (upd H T o) s:=by
 let hn:=hf.1;let:=I.step (H':=upd H T o) (d':=s.drawn) (t':=s.toks) (ch:=[T]) (λb hb=>by
   let e:b=T:=by simpa using hb
   subst e;show#[.inr hs,hf.2.1,hf.2.2.2.2.1,hf.2.2.2.2.2]) (λb o _ _ _ e _=>e) (λb o _ _ _ e _=>#[o.slots,e]) (λb o hb _ n=>by rw[a8<|by simpa using hb];show n)
  (λb o _ e=>#[o,e]) (λb xs e=>by rw[a8<|ak e hn];show e) (λb ob xs e=>by rw[a8<|ak e hn];show e) (λm hm=>hm)
  (λb u e=>by
   by_cases hb:b=T
   ·grind [ae]
   ·rw[a8 hb]at e;show (I.JM b u e).KN (λc v _ q=>q) (λc q=>by rw[a8<|ak q hn];show q) λc xs q=>by rw[a8<|ak q hn];show q) I.bare
 show this
def dc (I)(h:JU X.K H a xs)(hf:kQ X ñ H b):a≠b:=by
 rintro rfl;rcases h with (h|⟨o,h⟩)|⟨o,its,n,hk,_⟩
 ·rw[hf.1]at h;cases h
 ·rw[hf.1]at h;cases h
 ·let e:=I.ok.mod.TZ a o hk;rcases hf.2.2.2.1 with z|z
  ·show I.ok.QD a o e z
  ·show absurd (FN A7<|Fs I.ok.U5 z) nr
theorem a0e (z TI TO i1 i2 a b:Addr)(i)(h:Heap):Prop:=IsZip h z TI TO .none/\IsPair h TI (.ref i1) (.ref i2)/\(∃ u v,IsPair h TO u v)/\h.IsListIter i1 a i/\h.IsListIter i2 b i
structure a2Q (z TI TO i1 i2:Addr):Prop where
 TIz:TI≠z
 TOz:TO≠z
 i1z:i1≠z
 i2z:i2≠z
 TITO:TI≠TO
 TIi1:TI≠i1
 TIi2:TI≠i2
 TOi1:TO≠i1
 TOi2:TO≠i2
 i12:i1≠i2
def b3Q {P:É}{w:World}{K:Ψ}{elts:Ì}{x1:Nat}{MP:Pos} (a b z TI TO i1 i2:Addr) (D:a2Q z TI TO i1 i2) {er:ψ} (SM):
  tL er P w K Œ (Itz K a b) [c2P] z (a0e z TI TO i1 i2 a b) where
 mem:=by simp
 obj:=λi h st c hc=>by
  let#[nU,#[u,v,h3],#[o4,e4,c4,d4],#[o5,e5,c5,d5]]:=st;simp only[Fw,Gd,IG]at hc;rcases hc with rfl|rfl|rfl|rfl|rfl
  ·show#[_,h1,λv z=>by cases z]
  ·show#[_,h2,λv z=>by cases z]
  ·show#[_,h3,λv z=>by cases z]
  ·show#[_,e4,λv z=>by rw[d4]at z;cases z]
  ·show#[_,e5,λv z=>by rw[d5]at z;cases z]
 keep:=λi h h' st k=>by let#[c0U]:=st;show#[k z Ė _ h1,k TI Ė _ h2,#[u,v,k TO Ė _ h3],h4.at λo e=>k i1 Ė o e,h5.at λo e=>k i2 Ė o e]
 item:=by
  intro X hP hw hK hc i ñ s σ H E I hf st hg;subst hP hw hK;let#[xs,ys,x,y,hx,hy,ex,ey]:=hg;let#[c0U]:=st;let#[lF]:=I.list hx;let#[c2Q]:=I.list hy;let#[w1,ew1,r1]:=rv.get ex;let#[w2,ew2,r2]:=Wk.get ey;let ap:ZipApart z TI TO i1 i2 a b:=#[D.TIz,D.TOz,D.i1z,D.i2z,D.TITO,D.TIi1,D.TIi2,D.TOi1,D.TOi2,D.i12,
   dc I hx (hf z<|by simp),dc I hx<|hf TO Ė,dc I hx<|hf i1 Ė,dc I hx<|hf i2 Ė,dc I hy<|hf z Ė,dc I hy<|hf TO Ė,dc I hy<|hf i1 Ė,dc I hy<|hf i2 Ė]
  show wpAny_pyNext_zip_item ap h1 h2 h3 h4 h5 p.isList p2.isList b5W (by simpa using ew2) λh' a1 a2 a3 a4 a5 a6 a7=>?_;show#[_,1,wpAny_letOwnedTupleGo_zip a1 λSQ b1 sb=>?_];let hT:=I.JM.fresh<|F8 _;let Wc:∀ c∈[c2P],c≠s.heap.objs.size:=λc hc e=>by
   let:∃ o,s.heap.get? c=!o:=by
    simp only[Fw,Gd,IG]at hc;let#[o4,e4,_]:=h4;let#[o5,e5,_]:=h5;rcases hc with rfl|rfl|rfl|rfl|rfl
    ·show#[_,h1]
    ·show#[_,h2]
    ·show#[_,h3]
    ·show#[_,e4]
    ·show#[_,e5]
   let#[o,q]:=this;show absurd (Fe q) (by rw[e];show GS _)
  let kk:∀ c o,c∉[c2P]->s.heap.get? c=!o->SQ.get? c=!o:=λc o hc e=>by simp only[Fw,Gd,IG,not_or]at hc;show sb.extBut _ _ hc.1 (a7 c o hc.1 hc.2.2.1 hc.2.2.2.1 hc.2.2.2.2 e)
  let I1:Inv X ñ σ H { s with heap:=SQ }:=I.Oc hf kk;let I2:Inv X ñ σ (upd H s.heap.objs.size<|.tup [x,y]) { s with heap:=SQ }:=by show I1.Uc zj I.sz #[by change 2<=sizeLine;decide,[w1,w2],.cons r1<|.cons r2 .nil,?_];show#[_,sb.extBut _ _ (Ne.symm<|Wc z Ė) a5,BS]
  show#[zG,I2,1,#[_,hT,1,x,y,λxs' RU=>by rw[I.N0 RU hx];show ex,λys' hy'=>by rw[I.N0 hy' hy];show ey,1],?_,λc hc=>?_]
  ·show#[b1,sb.extBut _ _ D.TIz<|a7 TI _ D.TIz D.TITO D.TIi1 D.TIi2 h2,#[_,_,sb.extBut _ _ D.TOz a2],a3.extBut sb.extBut D.i1z,a4.extBut sb.extBut D.i2z]
  ·rw[a8<|Wc c hc];show (hf c hc).1
 done:=by
  intro X hP hw hK hc i ñ s σ H E I hf st hg;subst hP hw hK;let#[xs,ys,hx,hy,hl]:=hg;let#[c0U]:=st;let#[lF]:=I.list hx;let#[c2Q]:=I.list hy;let l1:=rv.length;let l2:=Wk.length;let ap:ZipApart z TI TO i1 i2 a b:=#[D.TIz,D.TOz,D.i1z,D.i2z,D.TITO,D.TIi1,D.TIi2,D.TOi1,D.TOi2,D.i12,
   dc I hx (hf z<|by simp),dc I hx<|hf TO Ė,dc I hx<|hf i1 Ė,dc I hx<|hf i2 Ė,dc I hy<|hf z Ė,dc I hy<|hf TO Ė,dc I hy<|hf i1 Ė,dc I hy<|hf i2 Ė]
  show wpAny_pyNext_zip_end (I.MX hc.1<|hc.2.trans SM) ap h1 h2 h3 h4 h5 p.isList p2.isList ?_ λh' kk=>#[1,I.Oc hf λc o hc e=>?_]
  ·rcases hl with q|q
   ·show .inl (by simp;lia)
   ·show .inr (by simp;lia)
  ·simp only[Fw,Gd,IG,not_or]at hc;show kk c o hc.1 hc.2.2.1 hc.2.2.2.1 hc.2.2.2.2 e
 self:=λ_ _ _ _ _ st h=>wpAny_pyIter_zip st.1 h
def a8s:bootBuiltins "zip"=!.type "zip":=by decide +kernel
theorem a1o (K)(ta:TA):TI:=λσ H R=>ta σ H λvs H1=>∃ a b,vs=[.ref a,.ref b]/\(∃ xs,JU K H1 a xs)/\(∃ ys,JU K H1 b ys)/\R (Itz K a b) H1
def BE {x1:Nat}(hg:Gl X "zip")(hm:X.mg "zip"=none)(ha:PA X Ji ta)(hs:starEach Ji X.env=zE:=ā)(QH)(hn:X.base.err=none:=Ą):
  PI X Œ tF (a1o X.K ta):=by
 intro ñ s σ H R I h;show Call_<|gh I hg hm a8s (GK (K2 (ha pos ñ s σ H _ I h) λus s1 J'=>?_) Pw (by rw[QH];rfl));let#[vs,u9]:=J';let#[a,b,e,#[xs,hx],#[ys,hy],q]:=q1;subst e
 cases r1 with
 | cons r rr=>
  cases rr with
  | cons r' rr=>
   cases rr
   cases r
   cases r';let#[its,rv,p1,hz]:=I1.list hx;let#[c2Q]:=I1.list hy;show call_zip_2 p1.isList p2.isList λh' a1 a2 a3 a4 a5 a6 a7=>?_;show wpAny_pyIter_zip a1 ?_;let I2:Inv X ñ σ H1 { s1 with heap:=h' }:=I1.kept a7;show#[_,[s1.heap.objs.size+4,s1.heap.objs.size+2,s1.heap.objs.size+3,s1.heap.objs.size,s1.heap.objs.size+1],_,_,H1,1,I2,b3Q a b _ _ _ _ _ #[b87,D2] hn,#[A0,#[_,_,a3],a4,a5],λc hc=>?_,q];all_goals try (intro z;let z':@Eq Nat _ _:=z;lia)
   let le:@LE.le Nat _ s1.heap.objs.size c:=by simp only[Fw,Gd,IG]at hc;rcases hc with rfl|rfl|rfl|rfl|rfl <;> lia
   let:=I1.PF le<|I1.JM.fresh le;show this
def b1w {K:Φ}{g:TG}{tb:TS}{D:d8}(Pv)(h0)(hl:∀ i σ H,i<=min xs.length ys.length->Pv i σ H->JU K H a xs/\JU K H b ys)(hs:∀ i x y T σ H,xs[i]?=!x->ys[i]?=!y->Pv i σ H->H T=none->g lH σ uX λσ2 H2=>tb { D with nx:=Pv (i+1),ct:=Pv (i+1),bk:=D.nx } σ2 H2)(hd:∀ σ H,Pv (min xs.length ys.length) σ H->D.nx σ H):
  ∃ W:Nat->Nat->Υ,Ce/\∀ i m σ H,W i m σ H->
   ((Itz K a b).stop i H/\D.nx σ H)\/((Itz K a b).go i H/\∃ N:Υ,Ġ/\∀ x H',(Itz K a b).V' i H x H'->g x σ H' λσ2 H2=>tb { D with nx:=N,ct:=N,bk:=D.nx } σ2 H2):=by
 show#[λi m σ H=>m=min xs.length ys.length - i/\i<=min xs.length ys.length/\Pv i σ H,#[_,1,FV _,h0],?_];rintro i m σ H ⟨rfl,hi,p⟩;let#[XJ]:=hl i σ H hi p;by_cases LY:i<min xs.length ys.length
 ·show .inr #[#[xs,ys,xs[i],ys[i],XJ,by simp,by simp],Pv<|i+1,λσ' H' p'=>#[_,?_,1,LY,p'],λx H' yl=>?_]
  ·lia
  ·let#[T,hT,1,x,y,ex,ey,1]:=yl;show hs i x y T σ H (ex xs q1) (ey ys q2) p hT
 ·let e:i=min xs.length ys.length:=#[]
  subst e;show .inl #[#[xs,ys,XJ,#[]],hd σ H p]
abbrev WE:ρ:=λ_ _=>False
def a48 (I:Nat->Shared->Prop)(turn:∀ n s,I n s->wpAny Ē A (pyNext it) (λr s₁=>match r with
   | none=>R (.ok .next) s₁
   | some v=>wpAny Ē A (letOwnedTupleGo target it v) (λ_ s₂=>wpAny Ē A (assign target env v) (λ_ s₃=>
     wpAny Ē A (forIn ifs true λc r=>if r=true then do let ok <- isTrue c env (eval c env);pure b5X else pure b6n) (λok s₄=>
      if ok=true then wpAny Ē A (eval elt env) (λx s₅=>wpAny Ē A (call (.builtin "list.append") [acc,x]) (λ_ s₆=>∃ m,m<n/\I m s₆) WE s₅) WE s₄
      else ∃ m,m<n/\I m s₄) WE s₃) WE s₂) WE s₁) WE s)(n)(h:I n s):codeAny Ē A (.compLoop (.ListComp elt [#[target,iter,ifs,(0)]] scope pos) 0 it acc env) R s:=by
 show codeAny_loop rfl I (λn s hI=>?_) n h;show wpAny_noted ?_;show EN (IZ<|EN (GX (turn n s hI) (λr s₁ h₁=>?_) λ_ _ h'=>h'.elim))
 cases r with
 | none=>show F6 h₁
 | some v=>
  show EN (GX h₁ (λ_ s₂ h₂=>?_) λ_ _ h'=>h'.elim);show EN (GX h₂ (λ_ s₃ h₃=>EN<|GX h₃ (λok s₄ h₄=>?_) λ_ _ h'=>h'.elim) λ_ _ h'=>h'.elim)
  cases ok with
  | false=>show F6 #[1,h₄]
  | true=>
   show EN (EN<|GX h₄ (λx s₅ h₅=>EN<|GX h₅ (λ_ s₆ h₆=>F6<|F6 ⟨rfl,h₆⟩) λ_ _ h'=>h'.elim) λ_ _ h'=>h'.elim)
def c2s (h:Q (newEnv scope s.heap.objs.size globals (cellsFrom ľ scope.names cl) ğ none .none (!env) builtinsNs) { s with heap:=pushCells (s.heap.push { cls:=.type "dict",data:=.dict [].toArray }) scope.names }):
  wpAny M A (newFunctionEnv scope globals cl [] ğ none .none !env) Q E s:=by
 show EN (wpAny_alloc ?_);show EN (wpAny_layCells _ (λname kind cells=>by simp_all) _ _ _ _ ?_);rw[HS ..];show EN ?_;show F6 (F6 h)
abbrev _root_.Ã:=List (Str×Addr)
abbrev _root_.Â:=List (Str×NameKind)
def b5G (f:Str×NameKind->List (Str×Addr)->Sem (ForInStep Ã))(hf:∀ name kind cs,f (name,kind) cs=if kind==.free then (do let a <- cellOf env name;pure (.yield ((name,a)::cs))) else pure (.yield cs)):
  ∀ (names:Â)(cs:Ã),(∀ x∈names,x.2=.free->∃ c,env.cells.lookup x.1=!c)->
   ∃ cl,forIn names cs f=pure cl/\(∀ p∈cl,p∈cs\/env.cells.lookup p.1=!p.2)/\(∀ p∈cs,p∈cl)/\∀ x∈names,x.2=.free->∃ c,(x.1,c)∈cl:=by
 intro r'
 induction r' with
 | nil=>
  intro cs _;show #[cs,by rw[a7D],λ_ h=>.inl h,λ_ h=>h,λ_ h=>nomatch h]
 | cons hd' r ih'=>
  let#[name,kind]:=hd';intro cs hc;let hr:∀ x∈r,x.2=.free->∃ c,env.cells.lookup x.1=!c:=λx hx=>hc x<|Ft _ hx;by_cases hk:kind=.free
  ·subst hk;let#[c,e]:=hc (name,.free) Fy rfl;let#[cl,ki]:=ih' ((name,c)::cs) hr;show#[cl,?_,λp hp=>?_,λp hp=>h3 p<|Ft _ hp,λx hx hf'=>?_]
   ·rw[b5L,hf];change ((if (NameKind.free==NameKind.free)=true then _ else _) >>= _)=_;rw[if_pos<|by decide];unfold cellOf;rw[e];show h1
   ·grind
   ·rcases Fw.mp hx with z|z
    ·subst z;show#[c,h3 _ Fy]
    ·show h4 x z hf'
  ·let#[cl,ki]:=ih' cs hr;show#[cl,?_,h2,h3,λx hx hf'=>?_]
   ·rw[b5L,hf,if_neg<|by simpa using hk];show h1
   ·rcases Fw.mp hx with z|z
    ·simp_all
    ·show h4 x z hf'
def Led (hc:∀ x∈scope.names,x.2=.free->∃ c,env.cells.lookup x.1=!c):
  ∃ cl,closureFor scope env=pure cl/\(∀ p∈cl,env.cells.lookup p.1=!p.2)/\∀ x∈scope.names,x.2=.free->∃ c,(x.1,c)∈cl:=by
 let#[cl,nU,_,h4]:=b5G (λx cs=>if x.2==.free then (do let a <- cellOf env x.1;pure<|.yield ((x.1,a)::cs)) else pure (.yield cs)) (λ_ _ _=>rfl) scope.names [] hc;show#[cl,?_,λp hp=>(h2 p hp).elim İ id,h4];unfold closureFor
 simp_all
def a9I:∀ {l:List (Str×α)}{x:Str}{c:α},(x,c)∈l->∃ d,l.lookup x=!d:=by
 intro l
 induction l with
 | nil=>intro x c h;cases h
 | cons p r ih=>
  intro x c h;let#[k,v]:=p;rw[Io]
  cases hb:x==k with
  | true=>show#[v,1]
  | false=>
   rcases Fw.mp h with e|h
   ·cases e;simp at hb
   ·show ih h
set_option tactic.hygienic true in def fG:∀ (names:Â)(n:Nat)(acc:Ã)(p:Str×Addr),p∈cellsFrom n names acc->p∈acc\/(n<=p.2/\(p.1,NameKind.cell)∈names):=by
 intro r'
 induction r' with
 | nil=>
  intro _ _ _ h;show .inl h
 | cons hd' r ih'=>
  let#[y,k]:=hd';intro n acc p h;unfold cellsFrom at h;split at h
  ·rename_i hk;let ek:k=.cell:=by simpa using hk
   rcases ih' (n+1) _ p h with z|⟨z1,z2⟩
   ·rcases Fw.mp z with z|z
    ·simp_all
    ·show .inl z
   ·show .inr #[#[],Ft _ z2]
  ·rcases ih' n acc p h with z|⟨z1,z2⟩
   ·show .inl z
   ·simp_all
def a08:∀ (names:Â)(n:Nat)(acc:Ã),(∀ p∈acc,p.2<n)->(∀ x y c,(x,c)∈acc->(y,c)∈acc->x=y)->
  ∀ x y c,(x,c)∈cellsFrom n names acc->(y,c)∈cellsFrom n names acc->x=y:=by
 intro r'
 induction r' with
 | nil=>
  intro _ _ _ h;show h
 | cons hd' r ih'=>
  let#[z,k]:=hd';intro n acc LY h;unfold cellsFrom;split
  ·show ih' (n+1) _ (λp hp=>?_) (λx y c h1 h2=>?_)
   ·rcases Fw.mp hp with e|hp
    ·simp_all
    ·show Ig (LY p hp)
   ·grind
  ·show ih' n acc LY h
set_option tactic.hygienic true in def fF:∀ (names:Â)(n:Nat)(acc:Ã){x:Str},(∀ y∈names,y.2=.cell->y.1≠x)->(cellsFrom n names acc).lookup x=acc.lookup x:=by
 intro r'
 induction r' with
 | nil=>
  intro _ _ _ _;show rfl
 | cons hd' r ih'=>
  let#[z,k]:=hd';intro n acc x h;unfold cellsFrom;let hr:∀ y∈r,y.2=.cell->y.1≠x:=λy hy=>h y<|Ft _ hy;split
  ·rename_i hk;rw[ih' (n+1) _ hr,Io];let:(x==z)=false:=by let:=h (z,k) Fy (by simpa using hk);simpa using Ne.symm this
   rw[this]
  ·show ih' n acc hr
def c2G:∀ (names:Â)(h:Heap)(acc:Ã),(∀ p∈acc,∃ v,h.IsCell p.2 v)->∀ p∈cellsFrom h.objs.size names acc,∃ v,(pushCells h names).IsCell p.2 v:=by
 intro r'
 induction r' with
 | nil=>
  intro _ _ hc;show hc
 | cons hd' r ih'=>
  let#[z,k]:=hd';intro h acc hc;unfold cellsFrom pushCells;split
  ·let:=ih' (h.push { cls:=.type "cell",data:=.cell none }) ((z,h.objs.size)::acc) (λp hp=>by
    rcases Fw.mp hp with e|hp
    ·subst e;show#[none,lj,1]
    ·let#[v,q]:=hc p hp;show#[v,q.keeps λb o e=>EV _ e])
   rwa [HS]at this
  ·show ih' h acc hc
theorem aE (X)(scope)(N':η)(cells:Ã)(C)(s:Ê)(H)(fp:υ):Cx where
 prog:=X.prog
 w:=X.w
 K:=X.K
 mg:=X.mg
 base:=X.base
 A:=X.A
 N:=N'
 s₀:=s
 H₀:=H
 env:=compEnvC scope cells C X.env
 outer:=X.stack
 stack:=X.stack
 ex:=fp
 fn:=λx=>decide (scope.names.lookup x=!.cell)
 calm:=X.calm
 pn:=[]
 xe:=λ_ _=>False
theorem b2f (scope)(x):Bool:=scope.names.any λy=>y.1==x&&y.2==.free
theorem vw (scope)(x):Bool:=scope.names.any λy=>y.1==x&&y.2==.cell
abbrev _root_.À:=List Nat
theorem b0n (sc)(N:η)(scope)(nT)(js)(N':η):Bool:=
 scope.kind==.function&&decide (N'.length=nT+js.length) &&
 scope.names.all (λx=>(x.2 != .local || scope.names.lookup x.1==!.local)&&(x.2 != .free || ((sc.names.lookup x.1==some .cell || sc.names.lookup x.1==!.free)&&scope.names.lookup x.1==!.free))) &&
 (js.zipIdx.all λ(j,i)=>match N'[nT+i]?,N[j]? with
  | some x,some y=>x==y&&b2f scope x&&not (vw scope x)
  | _,_=>false)
structure bA (X:Cx) (scope:Scope) (nT:Nat) (js:À) (N':η):Prop where
 kind:scope.kind=.function
 len:N'.length=nT+js.length
 loc:∀ x∈scope.names,x.2=.local->scope.names.lookup x.1=!.local
 free:∀ x∈scope.names,x.2=.free->(X.env.kindOf x.1=some .cell \/ X.env.kindOf x.1=!.free)
 frl:∀ x∈scope.names,x.2=.free->scope.names.lookup x.1=!.free
 cap:∀ (i j:Nat),js[i]?=!j->∃ x,N'[nT+i]?=!x/\X.N[j]?=!x/\(x,NameKind.free)∈scope.names/\∀ y∈scope.names,y.2=.cell->y.1≠x
def a3I (Zp:X.env.scope=sc)(hN:X.N=N)(h:b0n sc N scope nT js N'=true):bA X scope nT js N':=by
 unfold b0n at h;simp only[He,decide_eq_true_eq,Ht,Iw]at h;let#[#[#[nU],h3],h4]:=h;show#[nU,λx hx hl=>?_,λx hx hf=>?_,λx hx hf=>?_,λi j e=>?_]
 ·let:=(h3 x hx).1
  simp_all
 ·let:=(h3 x hx).2;simp only[hf,bne_self_eq_false,Bool.false_or,Bool.or_eq_true,He,Iw]at this;change X.env.scope.names.lookup x.1=_\/X.env.scope.names.lookup x.1=_;rw[Zp];show this.1
 ·let:=(h3 x hx).2
  simp_all
 ·let m:(j,i)∈js.zipIdx:=by rw[Gw];show e
  let q:=h4 (j,i) m;rw[hN];revert q
  cases e1:N'[nT+i]? with
  | none=>intro q;cases q
  | some x=>
   cases e2:N[j]? with
   | none=>intro q;cases q
   | some y=>
    intro q;simp only[He,Iw,Bool.not_eq_true']at q;let#[#[XJ],q3]:=q;subst q1;show#[x,2,?_,λy hy hc hxy=>?_]
    ·unfold b2f at q2
     simp_all
    ·let:vw scope x=true:=List.any_eq_true.mpr #[y,hy,by simp[hxy,hc]];rw[q3]at this;cases this
theorem oB (nT)(js)(σ):St:=List.replicate nT none++js.map λj=>(σ[j]?).join
theorem NI (X)(ifs:Ì)(t:TT):Prop:=
 ∀ (ñ:ζ)(s:Ê)(σ:St)(H:Hp)(Q:Ö),Inv X ñ σ H s->t σ H Q->
  wpAny đ X.A (forIn ifs true λc r=>if r=true then do let ok <- isTrue c X.env (eval c X.env);pure b5X else pure b6n) zJ X.xe s
theorem wH:TT:=λ_ H Q=>Q true H
def b3J:NI X [] wH:=λñ s σ H Q I h=>by rw[a7D];show F6 #[H,I,h]
def cD (hc:PT X c t):NI X [c] t:=λñ s σ H Q I h=>by show EN (EN (K2 (hc ñ s σ H Q I h) λb s1 q=>F6 ?_));show F6 q
theorem gu (nT)(js)(g:TG)(tt:TT)(te)(σ)(F:Addr->Ø):It->Ø:=λJ H1=>∀ l,H1 l=none->
 ∃ W:Nat->Nat->Υ,(∃ m,W 0 m (oB nT js σ) b5Y)/\∀ i m σ' H',W i m σ' H'->
  (J.stop i H'/\F l H')\/(J.go i H'/\∀ x H2,J.V' i H' x H2->g x σ' H2 λσ3 H3=>∃ (N:Ø)(NV:V->Ø),
   (∀ H4,N H4->∃ m',m'<m/\W (i+1) m' σ3 H4)/\(∀ v H5,NV v H5->∃ ys,H5 l=!.lst ys/\ys.length<sizeLine/\∃ m',m'<m/\W (i+1) m' σ3 b1U)/\
   tt σ3 H3 λb H4=>if b=true then te σ3 H4 NV else N H4)
section
variable {X:Cx}{ñ:ζ}{H:Hp}{s:Ê}
theorem a60 (X)(ñ)(H)(C)(s:Ê):Prop:=kQ X ñ H C/\X.s₀.heap.objs.size<=C/\∃ m,s.heap.Ns C m
def c1K:∀ (names:Â)(n:Nat)(acc:Ã),p∈acc->p∈cellsFrom n names acc:=by
 intro r'
 induction r' with
 | nil=>
  intro _ _ h;show h
 | cons _ r ih'=>
  intro n acc h;unfold cellsFrom;split <;> show ih' _ _ (by simp[h])
def a98:∀ (names:Â)(n:Nat)(acc:Ã),(x,NameKind.cell)∈names->∃ c,(x,c)∈cellsFrom n names acc:=by
 intro names
 induction names with
 | nil=>intro n acc h;cases h
 | cons p r ih=>
  intro n acc h;let#[y,k]:=p;unfold cellsFrom;rcases Fw.mp h with e|h
  ·grind [c1K,List.mem_cons_self]
  ·split <;> show ih _ _ h
def a53:∀ (names:Â)(n:Nat)(acc:Ã),C<=n->(names.lookup x=!.cell\/∀ d,acc.lookup x=!d->C<=d)->∀ c,(cellsFrom n names acc).lookup x=!c->C<=c:=by
 intro r'
 induction r' with
 | nil=>
  intro n acc hn h c e;show h.elim (λh=>nomatch h) λh=>h c e
 | cons hd' r ih'=>
  let#[y,k]:=hd';intro n acc hn h c e;unfold cellsFrom at e;rw[Io]at h;split at e
  ·show ih' (n+1) _ #[] ?_ c e
   grind
  ·show ih' n acc hn ?_ c e
   grind
set_option tactic.hygienic true in def vW (hc:∀ cells C s H fp,Cc ĕ)(S:bA X scope nT js N')(hi:Y0 Cc X tg iter wi)(hg)(ht)(he:∀ cells C s H fp,PE ĕ elt te)(I)(h:wi σ H (gu nT js g tt te σ F))(fin:∀ (l C:Addr)(s':Ê)(H':Hp),Inv X ñ σ H' s'->a60 X ñ H' C s'->F l H'->compPost đ X.A X.xe use Q (.ref l) C (.ok .next) s')(hs):
  wpAny đ X.A (comprehension (.ListComp elt [#[tg,iter,ifs,(0)]] scope pos) scope X.env Kg (newList []) false (eval iter X.env) use) Q X.xe s:=by
 let a6e:∀ x∈scope.names,x.2=.free->∃ c,X.env.cells.lookup x.1=!c:=λx hx hf=>I.ok.has x.1<|S.free x hx hf;let#[cl,Tu,Tt,a19]:=Led (env:=X.env) a6e;show wpAny_comprehension_free rfl hs Tu S.kind S.loc (K2 (hi ñ s σ H _ I h) λv s1 h1=>K2 h1 λitv s2 h2=>?_);let#[it,fp,tn,J,H2,e,I2,T,Xr,f2,rd]:=h2;subst e;let I3:Inv X ñ σ (upd H2 s2.heap.objs.size<|.lst []) { s2 with heap:=s2.heap.push { cls:=.type "list",data:=.seq ([]:θ).toArray } }:=I2.Y4 (t':=s2.toks) (its:=[]) .nil<|FV _;show Hf ?_ (by change 0<=sizeLine;show FV _);let#[W,#[m0,w0],turn]:=rd s2.heap.objs.size<|I2.JM.fresh (F8 _);let Rk:H2 s2.heap.objs.size=none:=I2.JM.fresh<|F8 _;generalize hl:s2.heap.objs.size=l at I3 w0 turn Rk ⊢;generalize hs3:({ s2 with heap:=s2.heap.push { cls:=.type "list",data:=.seq ([]:θ).toArray } }:Ê)=s3 at I3 ⊢;let z3:s3.heap.objs.size=l+1:=by rw[<- hs3,<- hl];show HS ..
 let k23:∀ b o,s2.heap.get? b=!o->s3.heap.get? b=!o:=λb o e=>by rw[<- hs3];show EV _ e
 show c2s ?_;generalize hC:s3.heap.objs.size=C;generalize ON:cellsFrom (C+1) scope.names cl=cells;let hz4:(s3.heap.push { cls:=.type "dict",data:=.dict [].toArray }).objs.size=C+1:=by rw[HS,hC]
 let WJ:∀ b o,s3.heap.get? b=!o->(pushCells ū scope.names).get? b=!o:=λb o e=>pushCells_keeps _ _ b o<|EV _ e;let nsC:(pushCells (s3.heap.push { cls:=.type "dict",data:=.dict [].toArray }) scope.names).Ns C (λ_=>none):=by let:=(Heap.Ns.new s3.heap<|.type "dict").keeps<|pushCells_keeps scope.names _;rwa [hC]at this
 generalize hh4:pushCells ū scope.names=h4 at WJ nsC;let memC:∀ x c,cells.lookup x=!c->(X.env.cells.lookup x=!c/\@LT.lt Nat _ c C)\/(@LE.le Nat _ (C+1) c/\(x,NameKind.cell)∈scope.names):=λx c e=>by
  let m:=mem_of_lookup e;rw[<- ON]at m;rcases fG _ _ _ _ m with z|z
  ·let q:=Tt _ z;let#[v,iz]:=I3.cell x c q;show .inl #[q,by let:=iz.lt;rw[hC]at this;show this]
  ·show .inr z
 let W4:∀ x c,cells.lookup x=!c->∃ v,h4.IsCell c v:=λx c e=>by
  let m:=mem_of_lookup e;let:=c2G scope.names ū cl (λp hp=>by let#[v,iz]:=I3.cell p.1 p.2<|Tt p hp;show⟨v,iz.keeps λb o e=>EV _ e⟩)
  rw[hz4,ON,hh4]at this;show this _ m
 change codeAny đ X.A (.compStart _ 0 ś (.ref l)<|compEnvC scope cells C X.env) (compPost (model X.prog X.w) X.A X.xe use Q (.ref l) C) { s3 with heap:=h4 };let US:∀ b∈fp,@LT.lt Nat _ b l:=λb hb=>by let#[o,e,_]:=T.obj _ _ Xr b hb;rw[<- hl];show Fe e
 let WY:∀ b∈fp,b∉OR X.stack:=λb hb z=>(Fw.mp<|I2.RJ b z).elim (f2 b hb).2.1 (f2 b hb).2.2.1;let okC:(aE X scope N' cells C s3 Į fp).Ok:=by
  show#[I3.ok.mod,S.kind,I3.ok.glob,I3.ok.blt,II hC,λx y c e1 e2=>?_,λx hx=>?_,λx c hf e=>?_,I3.ok.hd,I3.ok.frames,.inl rfl,λb hb=>#[?_,λx c e z=>?_],I3.bs,Fs I3.ok.U5 I3.sz,λb o e hb=>?_,WY,I3.stack,I3.Np]
  ·let e1':=mem_of_lookup<|show cells.lookup x=some c from e1;let Ou:=mem_of_lookup<|show cells.lookup y=some c from e2;rw[<- ON]at e1' Ou;show a08 scope.names (C+1) cl (λp hp=>?_) (λx y c h1 h2=>I3.ok.inj x y c (Tt _ h1)<|Tt _ h2) x y c e1' Ou;let#[v,iz]:=I3.cell p.1 p.2<|Tt p hp;let h1:@LT.lt Nat _ p.2 s3.heap.objs.size:=iz.lt;rw[hC]at h1;change @LT.lt Nat _ p.2 (C+1)
   lia
  ·let RU:(relabel scope X.env).names.lookup x=!.cell\/(relabel scope X.env).names.lookup x=!.free:=hx;let:∃ k,(x,k)∈scope.names/\(k=.cell\/k=.free):=by
    let m:∃ k,(x,k)∈(relabel scope X.env).names/\(k=.cell\/k=.free):=by
     rcases RU with z|z
     ·show#[_,mem_of_lookup z,.inl rfl]
     ·show#[_,mem_of_lookup z,.inr rfl]
    let#[k,m,hk]:=m;unfold relabel at m;let#[#[n,k'],m',e]:=EW.mp m;dsimp only at e;split at e
    ·rename_i WX
     cases e;simp only[He,Iw]at WX;show⟨k',m',.inr WX.1.1⟩
    ·cases e;show⟨k,m',hk⟩
   let#[k,m,hk]:=this;change ∃ c,cells.lookup x=some c;rw[<- ON];let key:∃ c,(x,c)∈cellsFrom (C+1) scope.names cl:=by
    rcases hk with rfl|rfl
    ·show a98 _ _ _ m
    ·show let ⟨c,h⟩:=a19 _ m rfl;⟨c,c1K _ _ _ h⟩
   let#[c,m]:=key;show a9I m
  ·let h1:@LE.le Nat _ (C+1) c:=a53 scope.names (C+1) cl (F8 _) (.inl<|Fv (show decide (scope.names.lookup x=some NameKind.cell)=true from hf)) c (by rw[ON];show e);change @LE.le Nat _ s3.heap.objs.size c
   lia
  ·let:=US b hb;change @Ne Nat b C
   lia
  ·subst z;rcases memC x c e with⟨q,_⟩|⟨q,_⟩
   ·show (f2 c hb).2.2.2.2.1 x c q rfl
   ·let:=US c hb
    lia
  ·rcases (f2 b hb).2.2.2.1 with z|z
   ·show I3.ok.QD b o e z
   ·show absurd (FN (Fe e)<|Fs I3.ok.U5 z) (GS _)
 let HC:∀ c:Addr,@LE.le Nat _ C c->upd H2 l (.lst []) c=none:=λc hcc=>I3.JM.fresh (show @LE.le Nat _ s3.heap.objs.size c by lia);let I4:Inv ī [] (oB nT js σ) Į { s3 with heap:=h4 }:=by
  show#[okC,1,I3.bare,Un.kept WJ,#[_,nsC,λi x v e1 e2 e3=>?_],W4,HC C<|F8 _,λx c e=>?_,(λp hp=>nomatch hp),I3.JM.kept WJ,?_]
  ·
   unfold oB at e2;by_cases QJ:i<nT
   ·rw[FQ<|by simpa using QJ,List.getElem?_replicate]at e2;split at e2 <;> cases e2
   ·rw[FT<|by simpa using QJ,List.length_replicate,F7]at e2
    cases ej:js[i - nT]? with
    | none=>rw[ej]at e2;cases e2
    | some j=>
     rw[ej]at e2;let Ou:(σ[j]?).join=!v:=by simpa using e2
     let a6J:σ[j]?=!some v:=by
      cases eσ:σ[j]? with
      | none=>rw[eσ]at Ou;cases Ou
      | some o=>rw[eσ]at Ou;show congrArg some Ou
     let#[y,n1,n2,n3,n4]:=S.cap _ _ ej;let:nT+(i - nT)=i:=#[]
     rw[this]at n1;let exy:x=y:=by let e1':N'[i]?=!x:=e1;rw[n1]at e1';show (Option.some.inj e1').symm
     subst exy;let#[m,hn,hlk]:=I3.loc;let kinds:=S.free _ n3 rfl;let vis:ZL X.env.scope x:=by
      rcases kinds with k|k
      ·show .inr (.inl k)
      ·show .inr (.inr k)
     let#[u,r,lk]:=hlk j x v n2 a6J vis;show#[u,r,?_];rcases lk with⟨k,_⟩|⟨k,c,ec,iz⟩
     ·rcases kinds with k'|k'
      ·rw[k]at k';cases k'
      ·rw[k]at k';cases k'
     ·show .inr #[?_,c,?_,iz.keeps WJ]
      ·change (relabel scope X.env).names.lookup x=!.cell\/(relabel scope X.env).names.lookup x=!.free;let ZI:ZL (relabel scope X.env) x:=e3;rcases ZI with z|z|z
       ·
        exfalso;let m:=mem_of_lookup z;unfold relabel at m;let#[#[n,k'],m',e]:=EW.mp m;dsimp only at e;split at e
        ·cases e
        ·cases e;let q:=S.loc _ m' rfl;rw[S.frl _ n3 rfl]at q
         cases q
       ·show .inl z
       ·show .inr z
      ·change cells.lookup x=!c;rw[<- ON,fF _ _ _ n4];let#[d,hd]:=a19 _ n3 rfl;let#[d',NP]:=a9I hd;let:=Tt _<|mem_of_lookup NP;rw[ec]at this;rw[NP,Option.some.inj this]
  ·rcases memC x c e with⟨q,_⟩|⟨q,_⟩
   ·show I3.KP x c q
   ·show HC c #[]
  ·unfold oB;change _=N'.length;rw[S.len,Fb,List.length_replicate,EO]
 let stat:∀ {H':Hp},(∀ b∈fp,H' b=none)->∀ b∈fp,kQ ī [] H' b:=λhn b hb=>by
  show#[hn b hb,?_,WY b hb,.inl hb,λx c e z=>?_,λp hp=>nomatch hp]
  ·let:=US b hb;change @Ne Nat b C
   lia
  ·subst z;rcases memC x c e with⟨q,_⟩|⟨q,_⟩
   ·show (f2 c hb).2.2.2.2.1 x c q rfl
   ·let:=US c hb
    lia
 let fr0:∀ b∈fp,upd H2 l (.lst []) b=none:=λb hb=>by rw[a8<|FK (US b hb)];show (f2 b hb).1
 let tn4:tn 0 h4:=T.keep _ _ _ Xr λb _ o e=>WJ b o<|k23 b o e;let loop:codeAny đ X.A (.compLoop (.ListComp elt [#[tg,iter,ifs,(0)]] scope pos) 0 ś (.ref l)<|compEnvC scope cells C X.env) (compPost đ X.A X.xe use Q (.ref l) C) { s3 with heap:=h4 }:=by
  show a48 (λn s'=>∃ i σ' H',Inv ī [] σ' H' s'/\tn i s'.heap/\(∀ b∈fp,H' b=none)/\W i n σ' H') ?_ m0 #[(0),_,_,I4,tn4,fr0,w0];rintro n s5 ⟨i,σ5,H5,I5,Zk,fr5,w5⟩;rcases turn i n σ5 H5 w5 with⟨stop,qn⟩|⟨go,step⟩
  ·show K2 (T.done ī rfl rfl rfl (hc _ _ _ _ _) i [] s5 σ5 H5 WE I5 (stat fr5) Zk stop) λr s6 J'=>?_;let#[hr,I6]:=J';subst hr;let un:Un (OR X.stack) fp Į H5 s3.heap s6.heap:=I6.base;let J6:Inv X ñ σ H5 s6:=I3.PJ (ch:=fp) I6.os un I6.JM I6.bare λb hb=>#[(f2 b hb).2.2.2.1,(f2 b hb).2.1,(f2 b hb).2.2.2.2.1,(f2 b hb).2.2.2.2.2]
   let#[m6,n6,_]:=I6.loc;let hCX:@Ne Nat C X.env.locals:=by
    let h1:@LT.lt Nat _ X.env.locals s3.heap.objs.size:=I3.lt
    lia
   let hCs:@LE.le Nat _ X.s₀.heap.objs.size C:=by let:=I3.sz;lia
   show fin l C s6 H5 J6 #[#[I6.free,hCX,λz=>?_,.inr hCs,λx c e z=>?_,λp hp z=>?_],hCs,m6,n6] qn
   ·let:=I3.a00 (a:=C)<|II hC;show this z
   ·let#[v,iz]:=I3.cell x c e;let h1:@LT.lt Nat _ c s3.heap.objs.size:=iz.lt;let h2:@Eq Nat c C:=z
    lia
   ·let h1:@LT.lt Nat _ p.1 s3.heap.objs.size:=Fe (I3.pin p hp).1;let h2:@Eq Nat p.1 C:=z
    lia
  ·show K2 (T.item ī rfl rfl rfl (hc _ _ _ _ _) i [] s5 σ5 H5 WE I5 (stat fr5) Zk go) λr s6 J'=>?_;let#[u,hr,h6]:=J';subst hr;show K2 h6 λ_ s7 J'=>?_;let#[x,H7,I7,r7,y7,st7,fr7]:=J';show K2 (hg cells C s3 Į fp _ s7 σ5 H7 x u _ (I7.pinned (stat fr7)<|T.obj _ _ st7) r7<|step x H7 y7) λ_ s8 J'=>?_;let#[σ8,H8,I8,q8]:=J';let again:∀ {H9:Hp}{s9:Ê},Inv ī ([]++mR fp s7.heap) σ8 H9 s9->tn (i+1) s9.heap/\∀ b∈fp,H9 b=none:=λ{H9 s9} I9=>by show#[T.keep _ _ _ st7 λb hb o e=>(I9.pin (b,o)<|FF _ (FF _<|gc hb e)).1,λb hb=>?_];let#[o,e,d]:=T.obj _ _ st7 b hb;show (I9.pin (b,o)<|FF _ (FF _<|gc hb e)).2.1
   let#[N,NV,hN,hNV,q8]:=q8;show K2 (ht cells C s3 Į fp _ s8 σ8 H8 _ I8 q8) λb s9 J'=>?_;let#[H9,I9,q9]:=J'
   cases b with
   | false=>
    rw[if_neg FC]at q9 ⊢;let#[m',hm,w9]:=hN _ q9;show#[m',hm,i+1,σ8,H9,I9.MT,(again I9).1,(again I9).2,w9]
   | true=>
    rw[if_pos rfl]at q9 ⊢;show K2 (he cells C s3 Į fp _ s9 σ8 H9 _ I9 q9) λy s10 J'=>?_;let#[v,SW,Wa,r10,q10]:=J';let#[ys,el,hz,m',hm,w10]:=hNV _ _ q10;show K2 (aB (X:=aE X scope N' cells C s3 Į fp) _ s10 σ8 SW (.ref l) [v] (.ref l) [y] (λz H11=>z=.non/\H11=upd SW l (.lst<|ys++[v])) Wa rfl (.cons r10 .nil) ⟨l,ys,v,rfl,rfl,el,hz,rfl,rfl⟩) λ_ s11 J'=>?_;let#[_,H11,I11,_,_,e11]:=J';subst e11;show#[m',hm,i+1,σ8,_,I11.MT,(again I11).1,(again I11).2,w10]
 show codeAny_compStart_list loop (T.self _ 0 _ _ _ tn4 loop)
universe e
section
variable {wi:TI}{nT:Nat}{js:À}{g:TG}{tt:TT}{te:TE}
theorem jn (wi:TI)(nT)(js)(g:TG)(tt:TT)(te):TE:=λσ H Q=>wi σ H (gu nT js g tt te σ λl H'=>Q LF H')
def c0X (hc:∀ cells C s H fp,Cc ĕ)(S:bA X scope nT js N')(hi:Y0 Cc X tg iter wi)(hg)(ht)(he:∀ cells C s H fp,PE ĕ elt te)(hs):PE X uV tH:=by intro ñ s σ H Q I h;show vW hc S hi hg ht he I h (λl C s' H' I' J' q=>?_) hs;let#[f,_,m,n]:=J';show#[m,n,λh' sb=>#[.ref l,H',?_,1,q]];show I'.turned ń f.1 f.2.1 f.2.2.2.1 f.2.2.2.2.1 f.2.2.2.2.2
def eQ (hc)(S:bA X scope nT js N')(hi:PI X tg iter wi)(hg)(ht)(he:∀ cells C s H fp,PE ĕ elt te)(hs):PE X uV tH:=c0X b4z S hi hg ht he hs
def a4J (hN)(QJ:X.N[i]?=!x)(hx:X.env.scope.names.lookup x=!.local)(hc:∀ cells C s H fp,Cc ĕ)(S:bA X scope nT js N')(hi:Y0 Cc X tg iter wi)(hg)(ht)(he:∀ cells C s H fp,PE ĕ elt te)(hsw)(hs):PS X b0H (lu tH Ej):=by
 intro ñ s σ H D I h;rw[exec_Assign_Name_used _ _ _ _ hsw];show EN<|IZ iX;show EN<|GX (vW hc S hi hg ht he I h (λl C s' H' I' J' q=>?_) hs) (λ_ s' hq=>F6<|F6 hq) λ_ _ e=>e;let#[f,sz,m,n]:=J';show wpAny_assign_Name<|b5f I' hN QJ (.inl hx) (v:=.ref l) rfl (λVq I'' J'=>?_) (.inr hx);let#[a,sb,ha]:=J';let hCa:C≠a:=by
  rcases ha with rfl|ha
  ·show f.2.1
  ·show λz=>f.2.2.2.2.1 x a ha z.symm
 show#[m,n.sameBut sb hCa,λh' sb'=>#[_,H',?_,q]];show I''.turned (λb o hb e=>(sb'.2 b hb).trans e) f.1 f.2.1 f.2.2.2.1 f.2.2.2.2.1 f.2.2.2.2.2
def b5 (hN)(QJ:X.N[i]?=!x)(hx:X.env.scope.names.lookup x=!.local)(hc)(S:bA X scope nT js N')(hi:PI X tg iter wi)(hg)(ht)(he:∀ cells C s H fp,PE ĕ elt te)(hsw)(hs):PS X b0H (lu tH Ej):=a4J hN QJ hx b4z S hi hg ht he hsw hs
universe e
def c2R {K:Ψ}(Pv:Addr->Nat->Ø)(h0:∀ l,H1 l=none->Pv l 0 b5Y)(hl:∀ l i H,i<=xs.length->Pv l i H->JU K H a xs)(hs:∀ l i x H,xs[i]?=!x->Pv l i H->tt a9j H λb H4=>
   if b=true then te a9j H4 λv H5=>∃ ys,H5 l=!.lst ys/\ys.length<sizeLine/\Pv l (i+1) b1U else Pv l (i+1) H4)(hd:∀ l H,Pv l xs.length H->F l H):gu 1 js (bM 0) tt te σ F DH H1:=by
 intro l Zu;show#[λi m σ' H=>m=xs.length - i/\i<=xs.length/\(∃ o,σ'=o::js.map λj=>(σ[j]?).join)/\Pv l i H,#[xs.length,c0G,h0 l Zu],?_];rintro i m σ' H ⟨rfl,hi,⟨o,rfl⟩,p⟩;let q:=hl l i H hi p;by_cases LY:i<xs.length
 ·show .inr #[WB,λx H2 y=>?_];let#[e,y]:=y;subst e;show#[Pv l<|i+1,λv H5=>∃ ys,H5 l=!.lst ys/\ys.length<sizeLine/\Pv l (i+1) _,λH4 p4=>#[c0Z,p4],
   λv H5 J'=>(by let#[ys,sf,p5]:=J';show#[ys,sf,c0Z,p5]),hs l i x _ (y xs q) p]
 ·let e:i=xs.length:=#[]
  subst e;show .inl #[#[xs,q,F8 _],hd l H p]
section
variable {X:Cx}
def b5j:Kc X nY (λxs H Q=>∃ x t T b,xs=[x,.ty T]/\jN X.K H x t/\W.kitOne X.K t nN=!b/\Q qV H):=by
 intro ñ s σ H xs us Q I r h;let#[x,t,T,b,1,ty,e,q]:=h;let#[u,w',1,r1,r2]:=B5 r
 cases r2;show c0A I r1 ty e λtk=>#[.bl b,H,I.tok tk,1,q]
def c9:bootBuiltins "isinstance"=!.builtin "isinstance":=by decide +kernel
def a0f:bootBuiltins "sum"=!.builtin "sum":=by decide +kernel
def rf (hc)(hn:X.base.err=none:=Ą):Kc X (.builtin "sum") (λxs H Q=>∃ (p:Addr)(ns:Ξ),xs=kY/\JU X.K H p ŕ/\Q AS H):=by
 intro ñ s σ H xs us Q I r h;let#[p,ns,1,hq,q]:=h;let#[u,1,r1]:=dG r
 cases r1;let#[c2y]:=I.list hq;let hi:=a0K rv;let#[xs,hx]:=hi.allInts.items;let hl':=hx▸pl.isList;show sum_intListG WC hl' λh' tk t' hk=>?_;let e1:ns=xs.toList.map (·.1):=by rw[<- nums_intItems,<- hx];show (hi.numsOf).symm
 let e2:preSum (numAt xs) xs.size=ns.sum:=by rw[preSum_eq,GV<|by simp,e1]
 rw[e2];show#[.int ns.sum,H,I.kept hk,#[_,1],q]
structure U7 (K:Ψ) {α:Type} [DecidableEq α] (R:Hp->V->α->Prop) (k:Nat):Prop where
 eq:∀ (X:Cx)(A:Ë)(ñ:ζ)(s:Ê)(σ:St)(H:Hp)(x y:V)(v u:Value)(a b:α),X.K=K->Inv X ñ σ H s->wF x v->wF y u->R H x a->R H y b->A.units+k<cLine->SeqAt.EqAt A s v u (decide (a=b))
 fn:∀ (X:Cx)(ñ:ζ)(s:Ê)(σ:St)(H:Hp)(x:V)(a b:α),X.K=K->Inv X ñ σ H s->R H x a->R H x b->a=b
theorem P9:Hp->V->Int->Prop:=λ_ x n=>x=.int n
def ip {K:Ψ}:U7 K P9 0 where
 eq:=by
  intro X A ñ s σ H x y v u a b _ I rx ry ha hb _
  cases ha
  cases hb;let#[t,1]:=rx;let#[t',1]:=ry;let#[e,nU]:=HT.UT A s a t b t';let:e=decide (a=b):=by rw[GH,h2,HW]
  simp_all
 fn:=by
  intro X ñ s σ H x a b _ I ha hb
  cases ha
  cases hb;rfl
theorem bb (K){α:Type}(R:Hp->V->α->Prop):Hp->V->List α->Prop:=λH x as=>∃ p vs,x=.ref p/\JU K H p vs/\Paired (R H) vs as
def Paired.at:∀ {l₁:List α}{l₂:List β}{i:Nat}{a:α},Paired F l₁ l₂->l₁[i]?=!a->∃ b,l₂[i]?=!b/\F a b:=by
 intro l m i a h
 induction h generalizing i with
 | nil=>intro e;simp at e
 | cons r t ih=>
  intro e
  cases i with
  | zero=>simp_all
  | succ i=>show ih qq
def lA.at' {i:Nat}(r:lA xs us)(h:us[i]?=!u):∃ x,xs[i]?=!x/\wF x u:=by
 let hl:=r.length;let hi:=(ES.mp h).1;let e:xs[i]?=some xs[i]:=by simp
 let#[u',nU]:=r.get e
 simp_all
def b2c {F:α->β->Prop}(f:∀ a b c,F a b->F a c->b=c):∀ {l:List α}{m n:List β},Paired F l m->Paired F l n->m=n:=by
 intro l m n h
 induction h generalizing n with
 | nil=>intro h;cases h;rfl
 | cons r t ih=>intro h;cases h with|cons r' t'=>rw[f _ _ _ r r',ih t']
section
variable {K:Ψ}{α:Type}[DecidableEq α]{R:Hp->V->α->Prop}{k:Nat}
def a3e (h:U7 K R k){X:Cx}{as bs:List α}(hK:X.K=K)(I)(ha:bb K R H x as)(hb:bb K R H x bs):as=bs:=by
 let#[gf]:=ha;let#[q,ws,e,ou]:=hb
 cases e;subst hK;let:=I.N0 h1 h3;subst this;show b2c (λa b c=>h.fn X ñ s σ H a b c rfl I) h2 h4
def b5k (h:U7 K R k){X:Cx}{as bs:List α}(hK:X.K=K)(I)(r1:lA vs its)(r2:lA ws MD)(p1:Paired (R H) vs as)(p2:Paired (R H) ws bs)(hl:its.length=MD.length)(hu:A.units+k<cLine):
  (∀ j (h1:j<its.toArray.size) (h2:j<MD.toArray.size),SeqAt.EqAt A s its.toArray[j] MD.toArray[j] (decide (as[j]?=bs[j]?)))/\(List.range its.toArray.size).all (λj=>decide (as[j]?=bs[j]?))=decide xx:=by
 let l1:=r1.length;let l2:=r2.length;let l3:=Paired.length p1;let l4:=Paired.length p2;show#[λj h1 h2=>?_,?_]
 ·let#[x,ex,rx]:=r1.at' (i:=j) (u:=its[j]) Ė;let#[y,ey,ry]:=r2.at' (i:=j) (u:=MD[j]) Ė;let#[a,ea,ra]:=Paired.at p1 ex;let#[b,eb,rb]:=Paired.at p2 ey;let:=h.eq X A ñ s σ H x y _ _ a b hK I rx ry ra rb hu
  simp_all
 ·rw[GN,GH,Ht,HW];constructor
  ·intro hh;apply Ih
   grind
  ·rintro rfl i _;show EY rfl
def jI (h:U7 K R k):U7 K (bb K R) (k+1) where
 eq:=by
  intro X A ñ s σ H x y v u as bs hK I rx ry ha hb hu;by_cases hxy:x=y
  ·subst hxy;let e:=a3e h hK I ha hb;subst e;let#[gf]:=ha
   cases rx
   cases ry;rw[EY rfl];show SeqAt.EqAt.same _
  ·let#[gf]:=ha;let#[q,ws,1,ou]:=hb
   cases rx
   cases ry;let SK:p≠q:=λe=>hxy (by rw[e]);subst hK;let#[c2z]:=I.list h1;let#[c2S]:=I.list h3;show SeqAt.EqAt.of_refs SK ?_;let l1:=r1.length;let l2:=r2.length;let l3:=Paired.length h2;let l4:=Paired.length h4;by_cases hl:its.length=MD.length
   ·let#[sf]:=b5k (A:=A.in1) h rfl I r1 r2 h2 h4 hl #[];rw[<- e2];show SeqAt.RcAt.lists pl.isList Ww.isList (hl) #[] e1
   ·let:decide xx=false:=by
     grind
    rw[this];show SeqAt.RcAt.lists_lengths pl.isList Ww.isList į #[]
 fn:=λX ñ s σ H x as bs hK I ha hb=>a3e h hK I ha hb
universe e
def wS [DecidableEq α]{R:Hp->V->α->Prop}(h:U7 X.K R k)(hu:X.A.units+(k+1)<cLine):L4 X w4 (λx y H Q=>∃ as bs,bb X.K R H x as/\bb X.K R H y bs/\Q š H):=by
 intro ñ s σ H x y v u Q I rx ry hw;let#[as,bs,ha,hb,q]:=hw;let#[gf]:=ha;let#[p',ws,1,ou]:=hb
 cases rx
 cases ry;let#[c2z]:=I.list h1;let#[c2S]:=I.list h3;let l1:=r1.length;let l2:=r2.length;let l3:=Paired.length h2;let l4:=Paired.length h4;by_cases hl:its.length=MD.length
 ·let#[sf]:=b5k (A:=X.A.in1) h rfl I r1 r2 h2 h4 hl #[];show SeqAt.eq_listAt pl.isList Ww.isList (hl) #[] e1 ?_;rw[e2];show#[.bl _,H,I,1,q]
 ·let:decide xx=false:=by
   grind
  rw[this]at q;show SeqAt.eq_list_lengthsAt pl.isList Ww.isList į #[] tV
def wR [DecidableEq α]{R:Hp->V->α->Prop}(h:U7 X.K R k)(hu:X.A.units+(k+1)<cLine):L4 X yd (λx y H Q=>∃ as bs,bb X.K R H x as/\bb X.K R H y bs/\Q ł H):=by
 intro ñ s σ H x y v u Q I rx ry hw;let#[as,bs,ha,hb,q]:=hw;let#[gf]:=ha;let#[p',ws,1,ou]:=hb
 cases rx
 cases ry;let#[c2z]:=I.list h1;let#[c2S]:=I.list h3;let l1:=r1.length;let l2:=r2.length;let l3:=Paired.length h2;let l4:=Paired.length h4;by_cases hl:its.length=MD.length
 ·let#[sf]:=b5k (A:=X.A.in1) h rfl I r1 r2 h2 h4 hl #[];show SeqAt.RcNeAt.lists pl.isList Ww.isList (hl) #[] e1 X.prog X.w X.xe _ ?_;rw[e2];show#[.bl _,H,I,1,q]
 ·let:decide xx=false:=by
   grind
  rw[this]at q;show SeqAt.RcNeAt.lists_lengths pl.isList Ww.isList į #[] X.prog X.w X.xe _ tV
universe e
theorem Df (P)(w)(K)(mg)(base)(k:Nat)(x)(ps)(sp):Prop:=
 ∃ f fd,mg x=!.ref f/\W.keepIn K xI=true/\MN K fd ps []/\K6 P w K mg base Ld k f fd ps sp
theorem Dm (P)(w)(K)(mg)(base)(k:Nat)(C)(m:Str)(ps)(sp):Prop:=
 ∃ f fd,Nr K C/\yb K C m f/\MN K fd ps []/\K6 P w K mg base Ld k f fd ps sp
theorem Dk (P)(w)(K)(mg)(base)(k:Nat)(x)(C)(ps)(sp):Prop:=
 ∃ f fd,mg x=!.ref C/\Mk K C f/\MN K fd ps []/\K6 P w K mg base Ld k f fd ps sp
def bg (D:Df X.prog X.w X.K X.mg X.base k x ps sp)(hr)(hg:Gl X x)(ha:PA X sQ t)(NB)(he)(LW):
  PE X ę (Bl sp [] E0 t):=by
 let#[tw,hm,kp,b,F]:=D;show b3z F hr hg hm kp b .nil mV ha NB he LW
def bx (he:PE X o ta)(D:Dm X.prog X.w X.K X.mg X.base k C m ps sp)(hr)(ha:PA X sQ t)(QG)(LW)(ht:eval oy X.env=(do
   let ov <- eval o X.env
   standAt apos.atName
   let (f,first) <- holding [ov] ő
   callWith pos f first (backTo pos ű) ġ):=ā):
  PE X oy (pU C m sp [] E0 ta t):=by
 let#[c1T]:=D;show b7g he cl hm F hr b .nil mV ha QG LW ht
def gW (D:Dk X.prog X.w X.K X.mg X.base k x C ps sp)(hr:JW X.base (k+1) X.A)(hg:Gl X x)(ha:PA X sQ t)(NB)(he)(LW):
  PE X ę (yj C sp [] E0 t):=by
 let#[tw,hm,M,b,F]:=D;show a2b M F hr hg hm b .nil mV ha NB he LW
theorem Ix (K)(x ğ:Str)(st):Prop:=∃ f fd,W.nsIn K mainGlobals x=!some xI/\Nc K x ğ st f fd
def a3l {K:Ψ}{st:Stmt}{kV:Value}(a)(l:K.lookup f=some b5V)(c)(k:W.keepIn K xI=true):Ix K x ğ st:=#[f,_,a,sW l c k]
theorem OD (K)(C)(m ğ:Str)(st):Prop:=∃ f fd,yb K C m f/\Nc K m ğ st f fd
def b1C {K:Ψ}{st:Stmt}{kV:Value}(a:W.findIn K Ax m=!some xI)(i:W.isFn K xI=true)(l:K.lookup f=some #[B8,.func (W.fnOf m ğ E8 zu Bo .none kV doc pm an JE ct),Lm])(c)(k:W.keepIn K xI=true):OD K C m ğ st:=#[f,_,#[a,i,k],sW l c k]
def aO (e:gR H H2)(h:H2 T=Option.none):gR H (upd H2 T o):=λb u hb=>by rw[a8<|ak (e b u hb) h];show e b u hb
def aY (e:gR H H2)(h:H T=Option.none):gR H (upd H2 T o):=λb u hb=>by rw[a8<|ak hb h];show e b u hb
def Paired.Of (r:Paired F l₁ l₂)(h:F a b):Paired F (l₁++[a]) (l₂++[b]):=Paired.snoc r h
def a4n {xs:Ξ}{i:Nat}(h:(xs.map V.int)[i]?=!x):∃ a,xs[i]?=!a/\x=.int a:=by
 rw[F7]at h
 cases e:xs[i]? with
 | none=>rw[e]at h;cases h
 | some z=>simp_all
section
variable {js:À}{σ:St}
abbrev a2F (σ:St)(js:À):St:=js.map λj=>(σ[j]?).join
universe e
section
variable (K:Ψ)
def xA (h):SU X (DO K):=h▸b0k
def Yg (h):SU X (DN K):=h▸c1B
def sr (hl:PE X l tl)(h):PI X tg l (WQ K tl):=h▸yz hl
def XG {x1:Nat}(hg:Gl X "zip")(hm:X.mg "zip"=none)(ha:PA X Ji ta)(h)(hs:starEach Ji X.env=zE:=ā)(QH)(hn:X.base.err=none:=Ą):
  PI X Œ tF (a1o K ta):=h▸BE hg hm ha hs QH
def bY (hc)(hh:j7 X es t)(h)(hn:(assignEach es X.env).length=n:=ā)(QG:(assignEach es X.env).findIdx? (·.1)=none:=ā):PG X b7H (Av K n t):=h▸b1T hc hh hn QG
def a1g (h):Kc X Op a3v:=h▸a80
def Ei (h):Kc X nY (λxs H Q=>∃ x t T b,xs=[x,.ty T]/\jN K H x t/\W.kitOne K t nN=!b/\Q qV H):=h▸b5j
def vG (he:PE X e ta)(hb:attributeBase e f X.env Yp=eval e X.env)(h):PE X ZB (a0p K ta f):=h▸BJ he hb
def a1f (h):Kc X Ļ (λxs H Q=>∃ p ys,xs=kY/\(JU K H p ys\/M0 K H p ys)/\∀ l,H l=none->Q LF Ar):=h▸a9J
def a6V {id:String}(pa)(slot)(VA)(hm:Cy X id r)(ho:PE X o to)(h)(Li)(Mp):PE X b5U (Xq K T r to):=h▸a3s pa slot VA hm ho Li Mp
def OS {id:String}(pa)(slot)(VA)(hm:Cy X id r)(ho:PE X o to)(ha:PA X sQ t)(h)(Li)(UO:((backTo Kg ű).all rX&&(backToKw Kg Ī).all DD
   && decide a52)=true:=ā)(Mp)(hs:starEach sQ X.env=Ō::starEach es X.env:=ā)(PB):
  PE X b4X (tBM K T r to t):=h▸a0Q pa slot VA hm ho ha Li UO Mp hs PB
universe e
theorem a4q (c:TT)(t u:TS):TS:=λD σ H=>∃ J:Υ,(∀ σ' H',J σ' H'->D.nx σ' H')/\c σ H λb H1=>if b=true then t { D with nx:=J } σ H1 else u { D with nx:=J } σ H1
def mQ (hc:PT X c tc)(ha:N7 X a t)(hb:N7 X b u):PS X De (a4q tc t u):=by
 intro ñ s σ H D I h;let#[J,hJ,h]:=h;show K2 (gy hc ha hb ñ s σ H { D with nx:=J } I h) λf s1 q=>?_
 cases f with
 | next=>let⟨σ',H',I',q⟩:=q;show#[we,I',hJ _ _ q]
 | brk=>show q
 | cont=>show q
 | ret v=>show q
section
variable {t:TA}
theorem LC (H)(o:HO)(Q):Prop:=∀ p H2,gR H H2->H p=none->H2 p=!o->Q DV H2
def LC.at (h:LC H o Q)(hp:H p=none):Q DV (upd H p o):=h p _ (aO ė hp) hp ae
theorem a0j (t:TA):TE:=λσ H Q=>t σ H λxs H1=>xs.length<=sizeLine/\LC H1 (.tup xs) Q
theorem a0o (t:TA):TE:=λσ H Q=>t σ H λxs H1=>xs.length<=sizeLine/\LC H1 fJ Q
def eM {x1}(h:PA X es t):PE X b7b (a0j t):=by intro ñ s σ H Q I hq;show wpAny_Tuple_spliced<|K2 (h pos ñ s σ H _ I hq) fun us s1 ⟨xs,H1,I1,r,z,q⟩=>#[by rw[<- r.length];show z,?_];let hf:=I1.JM.fresh<|F8 _;show⟨.ref s1.heap.objs.size,upd H1 s1.heap.objs.size _,I1.laid (λb u e=>EV _ e) XS ?_,rfl,q.at hf⟩;show#[z,us,r,#[lj,BS]]
def eO (h:PA X es t):PE X (.List es pos) (a0o t):=by intro ñ s σ H Q I hq;show wpAny_List_spliced<|K2 (h pos ñ s σ H _ I hq) fun us s1 ⟨xs,H1,I1,r,z,q⟩=>#[by rw[<- r.length];show z,?_];let hf:=I1.JM.fresh<|F8 _;show⟨.ref s1.heap.objs.size,upd H1 s1.heap.objs.size _,I1.laid (λb u e=>EV _ e) XS ?_,rfl,q.at hf⟩;show#[z,us,(0),r,Fp _ rfl]
def L4.imp (h:L4 X f r)(k:∀ x y H Q,r' x y H Q->r x y H Q):L4 X f r':=λñ s σ H x y v u Q I rx ry q=>h ñ s σ H x y v u Q I rx ry (k _ _ _ _ q)
def ZN.imp (h:ZN X r)(k:∀ x l u H Q,r' x l u H Q->r x l u H Q):ZN X r':=λñ s σ H x v vl vu lo hi sl Q I rx hs pl pu q=>h ñ s σ H x v vl vu lo hi sl Q I rx hs pl pu (k _ _ _ _ _ q)
def Kc.imp (h:Kc X f r)(k:∀ xs H Q,r' xs H Q->r xs H Q):Kc X f r':=λñ s σ H xs us Q I rx q=>h ñ s σ H xs us Q I rx Re
theorem b0I:R2:=λx y H Q=>∃ l b xs zs,x=.ref l/\y=.ref b/\H l=!.lst xs/\H b=!.lst zs/\xs.length+zs.length<=sizeLine/\LC H (.lst (xs++zs)) Q
def b3E:L4 X mJ b0I:=a6P.imp λ_ _ _ _ J'=>by let#[l,b,xs,zs,ki,h5,q]:=J';show#[l,b,xs,zs,ki,h5,λ_ hp=>q.at hp]
theorem a0E (K):V->Option Int->Option Int->Hp->VK->Prop:=λx lo hi H Q=>∃ a xs,x=.ref a/\JU K H a xs/\LC H b5S Q
def a0u (K)(h):ZN X (a0E K):=by subst h;show a20.imp λ_ _ _ _ _ J'=>by let#[a,xs,nU,q]:=J';show#[a,xs,c2T]
def listS (K)(h):Kc X Ļ b9e:=
 (a1f K h).imp λ_ _ _ J'=>by let#[p,ys,nU,q]:=J';show#[p,ys,c2T]
universe e
def At (hr:JW base k A)(h:n<=64:=ö):A.units+n<cLine:=Iz (Nat.add_le_add_left h _) hr.units
theorem aW (l:Addr)(H):Hp:=λb=>if b=l then none else H b
def aR (h:b≠l):aW l H b=H b:=if_neg h
def Kf:gR (aW l H) H:=λb o h=>by
 grind [aW,aR]
def b44 (e):gR (aW l H) (aW l H'):=λb o h=>by
 by_cases q:b=l
 ·grind [aW]
 ·rw[aR q]at h ⊢;show e _ _ h
def cY:aW l (upd H l o)=aW l H:=by
 funext b;by_cases q:b=l
 ·rw[aW,aW,if_pos q,if_pos q]
 ·rw[aR q,aR q,a8 q]
def k8 (e)(h:H l=none):gR H (aW l H'):=λb o hb=>by rw[aR<|ak hb h];show e _ _ hb
theorem JT (h:Heap)(e:Addr)(od:ψ):Prop:=∃ o vs,h.get? e=!o/\o.dict=od/\o.data=.fields vs/\vs[2]?=!.none
def AC (f:Array Value->Ò)(o):(Obj.mapFields f o).dict=o.dict:=by unfold Obj.mapFields;split <;> rfl
def JT.of (x:JT h e od)(k:∀ o,h.get? e=!o->h'.get? e=!o):JT h' e od:=let ⟨o,vs,a,r⟩:=x;#[o,vs,k o a,r]
def JT.push (x:JT h e od)(o):JT (h.push o) e od:=x.of λ_ q=>EV _ q
def JT.other (x:JT h e od)(n:a≠e)(f:Obj->Obj):JT (h.update a f) e od:=x.of λ_ q=>(FH _ _ n).trans q
def JT.set (x:JT h e od)(v:Value):JT (h.update e (Obj.mapFields (·.setIfInBounds 1 v))) e od:=
 let #[_,_,sH,d]:=x;#[_,_,Gh _ a<|Hn (GD c _),(AC ..).trans b,GD c _,by rw[IS<|by decide];show d]
def a9e (Rn)(hl:s.heap.FunFrames base ŷ)(hf:env.frame=!L)(Q9)(he:s.heap.get? e=!oe)(UM)(VI)(hd:oe.data=.fields vs)(hsz:1<vs.size)(h0:vs[0]?=!a0)(h:∀ h',Heap.LeftW base ŷ e oe.cls a0 s.heap h'->JT h' e od->Q () { s with heap:=h' }):
  wpAny M A (do let a <- frameOf env;let pl <- entryPlaceOf L QM;let b <- EntryCells.newEntry head a .none vM .none pl;setField lC 1 b) (λ_ s'=>wpAny M A Yi Q E s') E s:=by
 let UP:e∉(env::outer).filterMap b7F:=λhm=>by let#[_,o,ho,N3]:=hl.mem hm;rw[he]at ho;injection ho with ho;subst ho;show N3 vs hd
 show EN a6B;show EN b0u;unfold EntryCells.newEntry newFields;show EN (Hf ?_<|LW.sizeOk5 _ _ _ _ _);let he₁:h₁.get? e=some oe:=(hs₁.2.1 e UP).trans he;let kb₁:base.StaysIn h₁:=λb o OO=>(hs₁.2.1 b λhm=>by rw[(hl.mem hm).1]at OO;cases OO).trans<|UM b o OO;let he₂:=EV (h:=h₁) { cls:=.type "traceback",dict:=none,data:=.fields (oF++ģ).toArray } he₁;show GG he₂ hd hsz ?_;let Ro:h₁.objs.size≠e:=Gr<|Fe he₁;let hd₃:=GD hd Ĥ;let he₃:=Gh jV he₂<|Hn hd₃;let hT₃:=(FH a7q
  jV (Ne.symm Ro)).trans (Fp h₁ rfl)
 unfold setFlight;show EN (Gm he₃ hd₃ (x:=.ref h₁.objs.size) (by simp[hsz]) ?_);rw[if_pos<|show (Value.ref h₁.objs.size != Value.none)=true from by simp];show GG hT₃ rfl ħ (h _ ?_<|(((Q9.of λo q=>(hs₁.2.1 e UP).trans q).push _).set _).other Ro _);let keep:∀ b o,b≠e->h₁.get? b=!o->
   (((h₁.push { cls:=.type "traceback",dict:=none,data:=.fields (oF++ģ).toArray }).update e<|Obj.mapFields Ĥ).update h₁.objs.size
    (Obj.mapFields (·.setIfInBounds 3 ((none:ψ).elim Value.none λf=>rawInt f)))).get? b=!o:=λb o Tx hb=>by
  let hbT:h₁.objs.size≠b:=Gr<|Fe hb;rw[FH _ _ hbT,FH _ _<|Ne.symm Tx];show EV _ hb
 let Kp:∀ b o,s.heap.get? b=!o->Ŷ->b≠e:=λb o hb N3 q=>by rw[q,he]at hb;injection hb with hb;subst hb;show N3 vs hd
 show#[λb o OO=>keep b o (λq=>by rw[q,VI]at OO;cases OO)<|kb₁ b o OO,hl.of_keeps λb o hb N3=>?_,?_,λb o hb N3=>?_]
 ·let#[sl,hs]:=hs₁.2.2 b o hb;show#[c2U]
 ·show#[_,_,h₁.objs.size,_,_,?_,#[Jt _ _,by rw[IS<|by decide];show h0],hd₃,by simp[hsz],kb₁.fresh,Ro,Gh _ hT₃<|Hn (GD rfl _),GD rfl _,by first|(simp;done)|(rcases LW with rfl|⟨_,_,_,_,_,_,_,rfl⟩ <;> simp)];rw[FH _ _ Ro];show he₃
 ·let#[sl,hs]:=hs₁.2.2 b o hb;show#[sl,keep b _ Bt hs]
def a4b (Rn)(hl:s.heap.FunFrames base ŷ)(hf:env.frame=!L)(Q9)(he:s.heap.get? e=!oe)(UM)(VI)(hd:oe.data=.fields vs)(h1:vs[1]?=!.none)(h0:vs[0]?=!a0)(h:∀ h',Heap.LeftW base ŷ e oe.cls a0 s.heap h'->JT h' e od->Q () { s with heap:=h' }):wpAny M A vA Q E s:=by unfold leaving noteFrame;simp only[hf];show EN<|EN VV;show a9e Rn hl hf Q9 he UM VI hd (Hg.mp h1).1 h0 h
def b7l (Rn)(hl:s.heap.FunFrames base ŷ)(hf:env.frame=!L)(Q9)(ht:s.heap.TracedW base e cls a0)(UM)(VI)(h:∀ h',Heap.LeftW base ŷ e cls a0 s.heap h'->JT h' e od->Q () { s with heap:=h' }):wpAny M A vA Q E s:=by
 let#[c0u]:=ht;subst QL;unfold leaving noteFrame;simp only[hf];show EN<|EN VV;show EN b8s;show EN b2w;let other:∀ b,b≠T->(s.heap.update T<|Obj.mapFields (·.setIfInBounds 3 Value.none)).get? b=s.heap.get? b:=λb hb=>FH _ _<|Ne.symm hb;let Kp:∀ b o,s.heap.get? b=some o->(∀ vs,o.data≠.fields vs)->b≠T:=λb o hb N3 q=>by rw[q,hT]at hb;injection hb with hb;subst hb;show N3 ts U2
 show a9e Rn a3x hf C9 b0v
  Ŕ VI hd (Hg.mp h1).1 h0
  λh' J' y=>by let#[BQ]:=J';show h h' a3k y
def a5M (Rn)(hf:env.frame=!L)(Q9)(hfl)(hQ:∀ h',Heap.FlyingW base outer e cls a0 h'->s.heap.UpToSlots h'->JT h' e od->Q () { s with heap:=h' }):wpAny M A vA Q E s:=by let#[Bs]:=hfl;show b7l Rn f3 hf Q9 f4 f1 f2 λh' hL y=>?_;let#[k1,#[_,_,k2],k3,k4]:=hL;show hQ h' BV k4 y
def a7g {A:Ë}(Rn)(hl:s.heap.FunFrames base ŷ)(hf:env.frame=!L)(Q9)(he:s.heap.get? e=!oe)(UM)(VI)(hd:oe.data=.fields vs)(hsz:1<vs.size)(h0:vs[0]?=!a0)(h:∀ h',Heap.NotedW base ŷ e oe.cls a0 vM s.heap h'->JT h' e od->Q () { s with heap:=h' }):
  wpAny M A (do let a <- frameOf env;let pl <- entryPlaceOf L QM;let b <- EntryCells.newEntry head a .none vM .none pl;setField lC 1 b) Q E s:=by
 let UP:e∉(env::outer).filterMap b7F:=λhm=>by let#[_,o,ho,N3]:=hl.mem hm;rw[he]at ho;injection ho with ho;subst ho;show N3 vs hd
 show EN a6B;show EN b0u;unfold EntryCells.newEntry newFields;show EN (Hf ?_<|LW.sizeOk5 _ _ _ _ _);let he₁:=(hs₁.2.1 e UP).trans he;let kb₁:base.StaysIn h₁:=λb o OO=>(hs₁.2.1 b λhm=>by rw[(hl.mem hm).1]at OO;cases OO).trans<|UM b o OO;let he₂:=EV { cls:=.type "traceback",dict:=none,data:=.fields (oF++ģ).toArray } he₁;show GG he₂ hd hsz (h _ ?_<|((Q9.of λo q=>(hs₁.2.1 e UP).trans q).push _).set _);let Ro:=Gr<|Fe he₁;let hd₃:=GD hd Ĥ;let he₃:=Gh _ he₂<|Hn hd₃;let hT₃:=(FH a7q
  jV (Ne.symm Ro)).trans (Fp h₁ rfl)
 let keep:∀ b o,b≠e->h₁.get? b=!o->
   ((h₁.push { cls:=.type "traceback",dict:=none,data:=.fields (oF++ģ).toArray }).update e<|Obj.mapFields Ĥ).get? b=!o:=
  λb o Tx hb=>by rw[FH _ _<|Ne.symm Tx];show EV _ hb
 let Kp:∀ b o,s.heap.get? b=!o->Ŷ->b≠e:=λb o hb N3 q=>by rw[q,he]at hb;injection hb with hb;subst hb;show N3 vs hd
 show#[λb o OO=>keep b o (λq=>by rw[q,VI]at OO;cases OO)<|kb₁ b o OO,hl.of_keeps λb o hb N3=>?_,?_,λb o hb N3=>?_]
 ·let#[sl,hs]:=hs₁.2.2 b o hb;show#[c2U]
 ·show#[_,_,h₁.objs.size,_,_,he₃,#[Jt _ _,by rw[IS<|by decide];show h0],hd₃,by simp[hsz],kb₁.fresh,Ro,hT₃,1,by first|(simp;done)|(rcases LW with rfl|⟨_,_,_,_,_,_,_,rfl⟩ <;> simp)]
 ·let#[sl,hs]:=hs₁.2.2 b o hb;show#[sl,keep b _ Bt hs]
def a09 {L:Addr}(Rn)(hl:s.heap.FunFrames base ŷ)(hf:env.frame=!L)(Q9)(ht:s.heap.TracedW base e cls a0)(UM)(VI)(h:∀ h',Heap.NotedW base ŷ e cls a0 vM s.heap h'->JT h' e od->Q () { s with heap:=h' }):wpAny M A b6p Q E s:=by
 let#[c0u]:=ht;subst QL;unfold noteFrame;simp only[hf];show EN VV;show EN b8s;show EN b2w;let other:∀ b,b≠T->(s.heap.update T<|Obj.mapFields (·.setIfInBounds 3 Value.none)).get? b=s.heap.get? b:=λb hb=>FH _ _<|Ne.symm hb;let Kp:∀ b o,s.heap.get? b=some o->(∀ vs,o.data≠.fields vs)->b≠T:=λb o hb N3 q=>by rw[q,hT]at hb;injection hb with hb;subst hb;show N3 ts U2
 show a7g Rn a3x hf C9 b0v
  Ŕ VI hd (Hg.mp h1).1 h0
  λh' J' y=>by let#[BQ]:=J';show h h' a3k y
def a3Y (Q9)(UM)(hl:s.heap.FunFrames base l)(ht:s.heap.TracedAtW base e cls a0 fl)(h:∀ h',base.StaysIn h'->h'.FunFrames base l->h'.TracedW base e cls a0->(∀ b o,s.heap.get? b=!o->Ŷ->h'.get? b=!o)->JT h' e od->Q () { s with heap:=h' }):
  wpAny M A Yi Q E s:=by
 let#[oe,vs,T,oT,ts,he,QL,hd,h1,Zr,Ro,hT,U2,h3]:=ht;let a1C:=(Hg.mp h3).1;let other:∀ b,b≠T->(s.heap.update T<|Obj.mapFields (·.setIfInBounds 3 ((none).elim Value.none λf=>rawInt f))).get? b=s.heap.get? b:=
  λb hb=>FH _ _ (Ne.symm hb)
 let Kp:∀ b o,s.heap.get? b=!o->Ŷ->b≠T:=λb o hb N3 q=>by rw[q,hT]at hb;injection hb with hb;subst hb;show N3 ts U2
 show EN VV;show GG hT U2 a1C (h _ Ŕ
  (hl.of_keeps λb o hb N3=>#[o,(other b<|Kp b o hb N3).trans hb,1]) ?_ (λb o hb N3=>(other b<|Kp b o hb N3).trans hb) C9)
 show#[oe,vs,T,_,_,(other e<|Ne.symm Ro).trans he,QL,hd,h1,Zr,Ro,Gh _ hT<|Hn (GD U2 _),GD U2 _,by simp[a1C]]
def c0z (Rn)(hf:env.frame=!L)(Q9)(hfl)(hQ:∀ h',Heap.HeldW base ŷ e cls a0 L h'->s.heap.UpToSlots h'->JT h' e od->Q () { s with heap:=h' }):wpAny M A b6p Q E s:=by let#[Bs]:=hfl;show a09 Rn f3 hf Q9 f4 f1 f2 λh' hN y=>?_;let#[zi,k4]:=hN;show hQ h' BV k4 y
def c0r (Q9)(hh:Heap.HeldW base l e cls a0 L s.heap)(hQ:∀ h',Heap.FlyingW base l e cls a0 h'->s.heap.UpToSlots h'->JT h' e od->Q () { s with heap:=h' }):wpAny M A Yi Q E s:=by let#[Bs]:=hh;show a3Y Q9 f1 f3 f4 λh' k1 k2 k3 k4 y=>hQ h' BV a8B y
def b27 (Q9)(hh:Heap.FlyingW base l e cls a0 s.heap)(hQ:∀ h',Heap.FlyingW base l e cls a0 h'->s.heap.UpToSlots h'->JT h' e od->Q () { s with heap:=h' }):wpAny M A Yi Q E s:=by let#[Bs]:=hh;show a3Y Q9 f1 f3 f4.at λh' k1 k2 k3 k4 y=>hQ h' BV a8B y
theorem Q0 (P)(w):SX:=λouter H s E e s'=>∃ (ea:Addr)(cls a0:Value)(B:Heap)(H':Hp)(od:ψ),JT s'.heap ea od/\e=.ref ea/\s'.os=s.os/\AllBare s'.gens/\Un (OR outer) [] H H' s.heap s'.heap/\MS P w H' s'.heap/\H' ea=none/\s.heap.get? ea=none/\
 Heap.FlyingW B outer ea cls a0 s'.heap/\(∀ b o,s'.heap.get? b=!o->b∉OR outer->B.get? b=none->s.heap.get? b=none/\H' b=none)/\E cls od H'
def MS.gone (x:MS P w H h)(n:h.get? a=none):H a=none:=by
 cases q:H a with
 | none=>rfl
 | some v=>
  let#[o,e]:=eV<|x a v q;rw[n]at e;cases e
def Inv.was (I)(nx:b∉X.ex)(n:s.heap.get? b=none):X.s₀.heap.get? b=none:=by
 cases q:X.s₀.heap.get? b with
 | none=>rfl
 | some o=>
  let#[o',e]:=I.base.there b o q nx;rw[n]at e;cases e
def c0n {B:Heap}(u:Un fs [] H H' h h1)(JM:MS P w H' h1)(ZC:B.StaysIn h1)(hB2)(up:h1.UpToSlots h2)(Rn:∀ b∈fs,∃ o,h1.get? b=!o/\∀ vs,o.data≠.fields vs)(UR:∀ b∈fs,H' b=none)(old:∀ b o,h1.get? b=!o->b∉fs->B.get? b=none->h.get? b=none/\H' b=none):
  Un fs [] H H' h h2/\MS P w H' h2/\∀ b o,h2.get? b=!o->b∉fs->B.get? b=none->h.get? b=none/\H' b=none:=by
 let in1:∀ b o,h1.get? b=!o->b∉fs->(h.get? b≠none\/H' b≠none)->h2.get? b=!o:=λb o e hb hn=>by
  cases q:B.get? b with
  | none=>
   let z:=old b o e hb q;rcases hn with hn|hn
   ·show absurd z.1 hn
   ·show absurd z.2 hn
  | some o2=>
   let:=ZC b o2 q;rw[e]at this
   cases this;show hB2 b _ q
 let slots:∀ b o,h1.get? b=!o->b∈fs->∃ sl,h2.get? b=!{ o with slots:=sl }:=λb o e hb=>by
  let#[o',e',hd]:=Rn b hb;rw[e]at e'
  cases e';show up b o e hd
 show#[#[c0J,u.free,λb o e hx=>?_,u.OE,u.NW],c04]
 ·show in1 b o (u.keep b o e n hb hx) hb j0
 ·let#[sl,e1]:=u.slot b o e n hb hx;let#[sl',e2]:=slots b _ e1 hb;show#[sl',e2]
 ·let#[o',e1]:=u.there b o e hx;by_cases hb:b∈fs
  ·let#[sl,e2]:=slots b o' e1 hb;show#[_,e2]
  ·show#[o',in1 b o' e1 hb j0]
 ·show (JM a v e).KN a8g ZP λ_ _ q=>q
  ·let:=UR c z;rcases hc with rfl|hc
   ·rw[e]at this;cases this
   ·rw[hc]at this;cases this
  ·rcases hc with rfl|hc
   ·rw[e];show λz=>nomatch z
   ·rw[hc];show λz=>nomatch z
 ·cases q:h.get? b with
  | none=>rfl
  | some o'=>
   let#[o2,e2]:=u.there b o' q Ė;let:=(old b o2 e2 hb hB).1;rw[q]at this;cases this
 ·cases q:H' b with
  | none=>rfl
  | some v=>
   let#[o2,e2]:=eV<|JM b v q;let:=(old b o2 e2 hb hB).2;rw[q]at this;cases this
structure rg (X:Cx):Prop where
 So:X.stack=X.env::X.outer
 frm:X.env.frame=!X.env.locals
 exs:X.ex=[]
def rg.OR (O:rg X):L2.OR X.stack=X.env.locals::X.fs:=by rw[O.So];unfold L2.OR;rw[Iv,O.frm];rfl
def a4M {B:Heap}(O:rg X)(I)(ZC:B.StaysIn s.heap)(hB2)(up:s.heap.UpToSlots h2)(old:∀ b o,s.heap.get? b=!o->b∉OR X.stack->B.get? b=none->X.s₀.heap.get? b=none/\H b=none):
  Un X.fs [] X.H₀ H X.s₀.heap h2/\MS X.prog X.w H h2/\∀ b o,h2.get? b=!o->b∉X.fs->B.get? b=none->X.s₀.heap.get? b=none/\H b=none:=by
 let WG:∀ b o,X.s₀.heap.get? b=!o->b≠X.env.locals:=λb o e=>FK<|FN (Fe e) I.ok.above;let Up:∀ b,b≠X.env.locals->b∉X.fs->b∉OR X.stack:=λb h1 h2 z=>by
  rw[O.OR]at z;rcases Fw.mp z with z|z
  ·show h1 z
  ·show h2 z
 let in1:∀ b o,s.heap.get? b=!o->b∉OR X.stack->(X.s₀.heap.get? b≠none\/H b≠none)->h2.get? b=!o:=λb o e hb hn=>by
  cases q:B.get? b with
  | none=>
   let z:=old b o e hb q;rcases hn with hn|hn
   ·show absurd z.1 hn
   ·show absurd z.2 hn
  | some o2=>
   let:=ZC b o2 q;rw[e]at this
   cases this;show hB2 b _ q
 let slots:∀ b o,s.heap.get? b=!o->b∈X.fs->∃ sl,h2.get? b=!{ o with slots:=sl }:=λb o e hb=>by
  let#[_,o',e',hd]:=I.NU.mem hb;rw[e]at e'
  cases e';show up b o e hd
 let nx:∀ b,b∉X.ex:=λb=>by rw[O.exs];simp
 show#[#[λb o e n hb hx=>?_,λb o e n hb hx=>?_,λb o e n hx=>I.base.free b o e n<|nx b,λb o e hx=>?_,I.base.OE,I.base.NW],c04]
 ·show in1 b o (I.base.keep b o e n hb<|nx b) (Up b (WG b o e) hb) (.inl (by rw[e];show λz=>nomatch z))
 ·let#[sl,e1]:=I.base.slot b o e n hb<|nx b;let#[sl',e2]:=slots b _ e1 hb;show#[sl',e2]
 ·let#[o',e1]:=I.base.there b o e<|nx b;by_cases hb:b∈X.fs
  ·let#[sl,e2]:=slots b o' e1 hb;show#[_,e2]
  ·show#[o',in1 b o' e1 (Up b b7G hb) j0]
 ·show (I.JM a v e).KN a8g ZP λ_ _ q=>q
  ·let:=I.Np c z;rcases hc with rfl|hc
   ·rw[e]at this;cases this
   ·rw[hc]at this;cases this
  ·rcases hc with rfl|hc
   ·rw[e];show λz=>nomatch z
   ·rw[hc];show λz=>nomatch z
 ·cases q:X.s₀.heap.get? b with
  | none=>rfl
  | some o'=>
   let#[o2,e2]:=I.base.there b o' q<|nx b;let:=(old b o2 e2 (Up b (WG b o' q) hb) hB).1;rw[q]at this;cases this
 ·cases q:H b with
  | none=>rfl
  | some v=>
   let#[o2,e2]:=eV<|I.JM b v q;let nf:b∉OR X.stack:=λz=>by rw[I.Np b z]at q;cases q
   let:=(old b o2 e2 nf hB).2;rw[q]at this;cases this
def a36 (O:rg X)(I)(he:s.heap.get? ea=!oe)(hd:oe.data=.fields vs)(h0:vs[0]?=!a0)(h1:vs[1]?=!.none)(h2:vs[2]?=!.none)(hH:H ea=none)(hs0:X.s₀.heap.get? ea=none)(h:E oe.cls oe.dict H):
  wpAny đ X.A (leaving X.env X4) (λ_ Vq=>Q0 X.prog X.w X.outer X.H₀ X.s₀ E X4 Vq) E2 s:=by
 let hl:s.heap.FunFrames (W.hideAll s.heap<|ea::OR X.stack) X.stack:=W.funFrames_hide I.stack λenv he b hb=>Ft _<|List.mem_filterMap.mpr #[env,he,hb];let ZC:(W.hideAll s.heap<|ea::OR X.stack).StaysIn s.heap:=λb o q=>W.of_hideAll _ q;let hB:(W.hideAll s.heap<|ea::OR X.stack).get? ea=none:=W.hideAll_none _<|Fy ..;show a4b (by rw[I.ok.frames,O.So]) (by rw[O.So]at hl ⊢;show hl) O.frm ⟨oe,vs,he,rfl,hd,h2⟩ he ZC hB hd h1 h0 λSQ J' dd=>?_;let#[k1,#[_,_,k2],k3,k4]:=J';let#[u,JM,old]:=a4M O I ZC k1 k4 (λb o e hb hBb=>by
  by_cases Tx:b=ea
  ·rw[Tx];show#[hs0,hH]
  ·rw[W.hideAll_get _ e λz=>(Fw.mp z).elim Tx hb]at hBb;cases hBb)
 show#[ea,_,a0,_,H,_,dd,1,b94,u,JM,hH,hs0,#[k1,hB,k2,k3],old,h]
def b0o (O:rg X)(I:Inv X ñ σ Hc s)(h:Q0 X.prog X.w X.stack Hc s E e s'):
  wpAny đ X.A (leaving X.env e) (λ_ Vq=>Q0 X.prog X.w X.outer X.H₀ X.s₀ E e Vq) E2 s':=by
 let#[c1i,Q9,c1G,hE]:=h;let I1:=I.PJ os u JM bare λb z=>absurd z Ė;let none_of:∀ b,s.heap.get? b=none->X.s₀.heap.get? b=none:=λb=>I.was (by rw[O.exs];simp);show a5M (by rw[I.ok.frames,O.So]) O.frm Q9 (O.So▸fl) λSQ fl2 up dd=>?_;let#[u2,a5B,a4S]:=a4M O I1 fl.1 fl2.1 up (λb o e hb hB=>let ⟨z1,z2⟩:=old b o e hb hB;#[none_of b z1,z2]);show#[c1i,dd,1,I1.os,I1.bare,u2,a5B,PC,none_of ea Zp,fl2,a4S,hE]
theorem zp (X)(W:St->XK):Prop:=∀ (ñ:ζ)(σ:St)(H:Hp)(s:Ê)(e:Value)(s':Ê),Inv X ñ σ H s->Q0 X.prog X.w X.stack H s (W σ) e s'->X.xe e s'
theorem b7h (X)(W:St->XK):Prop:=∀ (ñ:ζ)(σ:St)(H:Hp)(s:Ê)(ea:Addr)(oe:Obj)(vs:Ò)(a0:Value),Inv X ñ σ H s->s.heap.get? ea=!oe->oe.data=.fields vs->vs[0]?=!a0->vs[1]?=!.none->vs[2]?=!.none->H ea=none->X.s₀.heap.get? ea=none->W σ oe.cls oe.dict H->X.xe X4 s
section
variable {K:Ψ}
def lV:rg a5d:=#[3]
def b6l:zp a34 iS:=λñ σ Hc sc e s' I h=>b0o lV I h
def b3n:b7h a34 iS:=λñ σ Hc sc ea oe vs a0 I he hd h0 h1 h2 hH hs h=>a36 lV I he hd h0 h1 h2 hH hs h
def Nc.okX {st:Stmt}{k:Nat}(F:Nc K x ğ st f fd)(S:au N ps Bo)(len)(Mq:∀ (JE:Value)(A:Ë)(outer:List Env)(s:Ê)(H:Hp)(vs:π)(Q:VK)(E:XK),JW base k Ĕ->sp vs H Q E->
   ∃ t,N7 ĺ zu t/\t { nx:=λ_ H'=>Q .non H',rt:=Q } GE H):K6 P w K mg base xj (k+1) f fd ps sp:=by
 let#[B8,ju]:=F.ex;show yX lk Qq S len λA outer s H vs Q E hr SH=>Mq JE A outer s H vs Q E hr SH
universe e
theorem DfX (P)(w)(K)(mg)(base)(k:Nat)(x)(ps)(sp):Prop:=
 ∃ f fd,mg x=!.ref f/\W.keepIn K xI=true/\MN K fd ps []/\K6 P w K mg base xj k f fd ps sp
section
variable {sp:Sp}{t:TA}{W:St->XK}
theorem Pp (sp)(W:St->XK)(t:TA):TE:=λσ H Q=>t σ H λvs H1=>sp vs H1 Q (W σ)
def b0q (F:K6 X.prog X.w X.K X.mg X.base (Q0 X.prog X.w) k f fd ps sp)(hr)(hb:MN X.K fd ps [])(hx:zp X W)(I)(r:lA vs us)(h:sp vs H Q (W σ)):wpAny đ X.A (call xI us) Ŋ X.xe s:=by
 let hl:(us++[]).length=ps.length:=by rw[Fq,<- r.length];show F.len _ _ _ _ h
 let P2:=hb s us I.LR hl;rw[Fq]at P2;show Jp (Il (F.run X.A X.stack s H uB us vs Q _ hr I.VQ P2 r h) λr s' hq=>?_)
 cases r with
 | error e=>show hx ñ σ H s e s' I hq
 | ok fl=>
  cases fl with
  | ret u=>show I.after hq
  | next=>show False.elim hq
  | brk=>show False.elim hq
  | cont=>show False.elim hq
def uH (hx:zp X W)(D:DfX X.prog X.w X.K X.mg X.base k x ps sp)(hr)(hg:Gl X x)(ha:PA X sQ t)(NB)(he)(LW):
  PE X ę (Pp sp W t):=by
 let#[tw,hm,hk,hb,F]:=D;intro ñ s σ H Q I h;show GR XQ;show Iy I.ok.mod.TZ hk A6 he LW;show b0q F hr hb hx I1 r q
universe e
abbrev vb:θ:=[.type "ValueError",.type "Exception",.type "BaseException",.type "object"]
theorem a0a (us):Obj:={ cls:=.type "tuple",data:=.seq us.toArray }
theorem Ew (C t:Addr):Obj:={ cls:=.ref C,data:=.fields [.ref t,.none,.none,.none,.bool false,.none].toArray }
theorem qw (h:Heap)(C)(us):Heap:=(h.push (a0a us)).push (Ew C h.objs.size)
def fV:∀ b o,h.get? b=!o->(qw h C us).get? b=!o:=λ_ _ e=>EV _ (EV _ e)
def c2x:(qw h C us).get? (h.objs.size+1)=!Ew C h.objs.size:=by
 unfold qw Ew a0a
 heap_get
def a9Q:Heap.MadeExcOf h (qw h C us) (h.objs.size+1) Ax us:=
 #[fV,Heap.get?_none_of_le<|Nat.le_succ _,h.objs.size,c2x,Heap.get?_none_of_le<|F8 _,EV _ b1W]
section
variable {fI:Addr}
def oQ (F:ExcBaseFacts B newId UA bm)(T:OwnTail s.heap bm tl)(hC)(hN:s.heap.Ns N mN)(hI)(hf:s.heap.get? fI=!oI)(hfc)(hz:us.length<=sizeLine)(k:∀ h' e,Heap.MadeExcOf s.heap h' e Ax us->wpAny Ŵ A b1j (λr s'=>r=.none/\Q (.done (.ret lC)) s') E { s with heap:=h' }):
  wpAny Ŵ A (Builtin.«type.__call__» b8t) Q E s:=by
 let#[h,qQ]:=s;repeat (first|with_reducible show wpAny_madeBy_exc hC ?_|with_reducible show HK hC ?_|wp_step)
 show codeAny_call_builtin_code (HY _ F.quiet) (wpAny_check_new_subT F T hC (codeAny_exc_new_subT F T hC ?_ hz));change wpAny _ _ _ _ _ #[qw h C us,qQ];let hC':=fV (C:=C) (us:=us) C _ hC;let hme:(Value.ref C::tl).contains Ax=true:=by simp
 let hN':(qw h C us).Ns N mN:=by let#[xr,e,r]:=hN;show#[xr,fV _ _ e,r]
 let hx:=c2x (h:=h) (C:=C) (us:=us);unfold Ew at hx;repeat (first|(with_reducible show wpAny_isSubtype_exc hC' ?_;rw[hme])|with_reducible show HK hx ?_|wp_step)
 show wpAny_typeLookup_tail hC' hN' (T.keeps fV) F.mroIs F.init.lookup ?_;rw[hI];show Gk iX;show EN (IE #[_,fV _ _ hf,hfc] ?_);show F6<|EN (GX (k _ _ a9Q) (λr s' hr=>?_) λ_ _ x=>x);let#[1,hQ]:=hr
 wp_walk
 show hQ
def b1t (F:ExcBaseFacts B newId UA bm)(T:OwnTail s.heap bm tl)(hC)(hN:s.heap.Ns N mN)(hI)(hf:s.heap.get? fI=!oI)(hfc)(hz:us.length<=sizeLine)(k:∀ h' e,Heap.MadeExcOf s.heap h' e Ax us->wpAny Ŵ (A.under (.builtin "type.__call__" b8t)) b1j (λr s'=>r=.none/\Q lC s') E { s with heap:=h' }):
  wpAny Ŵ A (call Ax us) Q E s:=by
 let f1:=tc_lookup;let f2:=tc_bind<|.ref C;let#[h,qQ]:=s;show Jp (codeAny_of_tree ?_);repeat (any_goals (first|with_reducible show HK hC ?_|assumption|wp_step))
 show#[1,codeAny_call_builtin_at (HY _<|by decide +kernel) entry_typeCall<|wpAny_check_type_call_sub hC (oQ F T hC hN hI hf hfc hz λh' e mk=>k h' e mk)]
universe e
open PySem.Calls PySem.W
open PySem.Builtin PySem.Builtin.ObjectAttr
theorem sy:List Value->Bool
 | []=>false
 | .ref _::r=>sy r
 | v::r=>(v::r)==vb
def b10 (h:(l==vb)=true):l=vb:=Iw.mp h
set_option tactic.hygienic true in def ka (self:Value):∀ (l:θ),sy l=true->refuseLoop self "__setattr__" l=pure ():=by
 intro r'
 induction r' with
 | nil=>
  intro e
  cases e
 | cons v r ih'=>
  intro e
  cases v
  case ref c=>rw[refuseLoop_ref];show ih' e
  all_goals
   let e':=b10 e;rw[e'];show F.store_ValueError.passes self
set_option tactic.hygienic true in def wA:∀ (l:θ),sy l=true->l.contains (.type "object")=true:=by
 intro r'
 induction r' with
 | nil=>
  intro e
  cases e
 | cons v r ih'=>
  intro e
  cases v
  case ref c=>rw[List.contains_cons,ih' e,Bool.or_true]
  all_goals
   let e':=b10 e;rw[e'];decide
theorem a4N (K:Frag)(C):Bool:=(clsIn K C).any λcd=>sy cd.mro
def DY {K:Frag}(X:K.In s.heap)(hx:s.heap.get? x=!ox)(Tu)(OM)(Ts:ox.dict=none)(hp:a4N K C=true)(ht:takerIn K C name=!none)(hh:hasDictIn K C=true)(h:∀ h' TY,h'.get? x=!{ ox with dict:=some s.heap.objs.size }->h'.Ns1 s.heap.objs.size (λy=>if y=name then some v else none)->(∀ b o,b≠x->s.heap.get? b=!o->h'.get? b=!o)->R yf { s with heap:=h',toks:=TY }):
  codeAny Ē A a70 R s:=by
 let SF:=PySem.F.store_object;let I:InstAt s.heap x ox C none:=#[hx,Tu,by unfold notCls;rw[OM],by rw[Ts];trivial]
 let#[cd,hc,ho]:=any_some hp;let ne:cd.mro.isEmpty=false:=by cases q:cd.mro with|nil=>rw[q]at ho;cases ho|cons _ _=>rfl
 let sub:Looks Ē s.heap b8u true:=I.type.andThen<|looks_mroIn X (by unfold mroIn;rw[hc,Option.bind_some,if_neg (by rw[ne];decide),wA _ ho]);show codeAny_call_builtin SF.slot.plain SF.entry (@check_slot _ _ _ s "object.__setattr__" "object" "__setattr__" _ b8v [] _ SF.kind SF.split sub (SF.args _ _ v) ?_);let#[attr,ha,hr]:=Option.bind_eq_some_iff.mp ht;let hm:Looks Ē s.heap (mroOf<|.ref C) cd.mro:=(looks_clsIn X hc).andThen .now;let L3:Looks Ē s.heap b7d none:=by
  cases attr with
  | none=>show .now
  | some a=>
   let#[b,hb,e]:=FO.mp hr;show (looks_takesIn X hb).andThen ?_
   cases b with
   | true=>cases e
   | false=>show .now
 rw[osa_eq,refuse_eq];show EN<|EN b01;rw[ka _ _ ho];show F6<|EN a3S;let#[cd2,hc2,NP]:=any_some hh;let#[QI,qQ]:=s;let#[zx]:=ox;subst Tu OM Ts;show EN<|F6 a3R;rw[NP];let hx₁:(QI.push { cls:=.type "dict",data:=.dict [].toArray }).get? x=!{ cls:=.ref C,data:=.fields vs,slots:=Lm }:=EV _ hx;let hxs:=FK<|Fe hx;show EN (wpAny_alloc' ?_);show EN (wpAny_update' hx₁ ?_);show F6 ?_;let hgd:((QI.push { cls:=.type "dict",data:=.dict [].toArray }).update x λo=>{ cls:=o.cls,dict:=!QI.objs.size,data:=o.data,slots:=o.slots }).get? QI.objs.size
   = !{ cls:=.type "dict",data:=.dict [].toArray }:=
  (Heap.get?_update_ne _ _ _ _ hxs.symm).trans b1W
 let WU:((QI.push { cls:=.type "dict",data:=.dict [].toArray }).update x λo=>{ cls:=o.cls,dict:=!QI.objs.size,data:=o.data,slots:=o.slots }).Ns QI.objs.size b6j:=
  #[_,[].toArray,_,hgd,1,λe he=>absurd he<|by simp,λ_=>rfl]
 show EN (F6<|EN (wpAny_nsSet1 (Heap.Ns1.of_empty WU) λh' RC hs=>?_));let#[c0F]:=RC.count<|Within.cons name v Within.nil;show EN (wpAny_lookBehind hoD (by rw[hdD];show pastItsLine_dict<|Fs hcD (by simp_all)) ?_);show F6 (h h' _ ?_ RC λb ob Yz hb=>?_)
 ·show (hs.2 x hxs).trans (Gh _ hx₁ rfl)
 ·show (hs.2 b<|FK (Fe hb)).trans ((Heap.get?_update_ne _ _ _ _ Yz).trans<|EV _ hb)
theorem nZ (ea C:Addr)(od:ψ)(h:Heap):Prop:=∃ o vs a0,h.get? ea=!o/\o.cls=.ref C/\o.data=.fields vs/\vs[0]?=!a0/\vs[1]?=!.none/\o.dict=od/\vs[2]?=!.none
theorem AA (ea C:Addr):HO:=.ext (nZ ea C none)
theorem t8 (ea C dx:Addr):HO:=.ext (nZ ea C !dx)
def a8f (x:nZ ea C od h):JR P w H h ea (.ext (nZ ea C od)):=by let#[o,vs,a0,ho,r]:=id x;show#[x,#[o,ho],λh1 h2 J' k=>(by let#[o1,Zj,a1,XJ]:=J';show#[o1,Zj,a1,k o1 q1,q2])]
def gk:aW l H l=none:=if_pos rfl
structure Cf (K:Frag) (C:Addr) (f:Str):Prop where
 sa:findIn K Ax "__setattr__"=!some Ũ
 ov:a4N K C=true
 tk:takerIn K C f=!none
 hd:hasDictIn K C=true
section
variable {σ:St}{H:Hp}
def c1r (I)(e:H ea=!AA ea C)(T:Cf X.K C f)(ry)(h:∀ dx s',H dx=none->dx≠ea->Inv X ñ σ (upd (upd H dx (.xd [(f,y)])) ea (t8 ea C dx)) s'->Q () s'):wpAny đ A b7N Q E s:=by
 let#[c1q]:=id<|(I.JM ea _ e).1;let IA:InstAt s.heap ea ox C none:=#[hx,hc,by unfold notCls;rw[hd],by rw[Ts];trivial]
 show set_plain I.LR IA T.sa (DY I.LR hx hc hd Ts T.ov T.tk T.hd λh' TY RU RC hk=>?_);let dn:=I.JM.fresh<|F8 _;let ne:=Gr<|Fe hx;show h s.heap.objs.size _ dn ne (I.PJ (ch:=[]) rfl ?_ ?_ I.bare λb z=>absurd z<|by simp)
 ·let old:∀ b,H b≠none->b≠ea->upd (upd H s.heap.objs.size<|.xd [(f,y)]) ea (t8 ea C s.heap.objs.size) b=H b:=λb hb Tx=>by rw[a8 Tx,a8 λz=>hb (by rw[z];show dn)]
  show#[b9o]
  ·show hk b o (λz=>by rw[z,e]at n;cases n) q
  ·show#[o.slots,hk b o (λz=>by rw[z,e]at n;cases n) q]
  ·rw[a8 (λz=>by rw[z,e]at n;cases n),a8<|FK (Fe q)];show n
  ·by_cases hb:b=ea
   ·rw[hb];show#[_,RU]
   ·show#[o,hk b o hb q]
  ·rw[old b (by rw[q];show λz=>nomatch z) (λz=>by rw[z,e]at q;cases q)];show q
  ·rw[old b (by rw[q];show λz=>nomatch z) (λz=>by rw[z,e]at q;cases q)];show q
 ·intro a v q;by_cases ha:a=ea
  ·rw[ha,ae]at q
   cases q;rw[ha];show a8f #[_,vs,a0,RU,hc,hd,h0,h1,1,h22]
  ·rw[a8 ha]at q;by_cases hb:a=s.heap.objs.size
   ·rw[hb,ae]at q
    cases q;rw[hb];show#[_,RC,λg=>?_];by_cases hg:g=f
    ·rw[if_pos hg,hg];simp only[List.lookup,beq_self_eq_true];show ry
    ·rw[if_neg hg];let:(g==f)=false:=by simpa using hg
     simp only[List.lookup,this];show HG
   ·rw[a8 hb]at q;show (I.JM a v q).KN a9k (λc MQ=>?_) λc xs MQ=>?_
    ·rcases MQ with MQ|MQ
     ·show ha (MQ▸z2)
     ·rw[z2,e]at MQ;cases MQ
    ·rw[a8 (λz=>by rw[z,e]at MQ;cases MQ),a8 (λz=>by rw[z,dn]at MQ;cases MQ)];show MQ
    ·rw[a8 (λz=>by rw[z,e]at MQ;cases MQ),a8 (λz=>by rw[z,dn]at MQ;cases MQ)];show MQ
theorem a0x (C)(ta tv:TE)(f):TS:=λD σ H=>tv σ H λy H1=>ta σ H1 λx H2=>∃ ea,x=.ref ea/\H2 ea=!AA ea C/\∀ dx,H2 dx=none->dx≠ea->D.nx σ (upd (upd H2 dx (.xd [(f,y)])) ea (t8 ea C dx))
def yw (T:Cf X.K C f)(ha:PE X o ta)(hv)(hs:swapsWith value pO pos.line X.env=pure false):PS X Tl (a0x C ta tv f):=by intro ñ s σ H D I h;show IQ ue hs;let#[x,oo,rx,ea,ex,he,q2]:=J';subst ex;obtain rfl:ov=Value.ref ea:=rx;show c1r I2 he T ry λdx s3 h1 h2 I3=>#[σ,_,I3,q2 dx h1 h2]
def Inv.Si (I)(e:H ea=!.ext φ):Inv X ñ σ (aW ea H) s:=by
 let hd:∀ b,b≠ea->aW ea H b=H b:=λb hb=>aR hb;show#[X0,#[I.base.keep,I.base.slot,λb o q n hx=>?_,I.base.there,λb xs q=>?_,λb o u q=>?_],I.loc,I.cell,?_,λx c q=>?_,λp hp=>?_,λa v q=>?_,I.len]
 ·by_cases hb:b=ea
  ·rw[hb];show gk
  ·rw[hd b hb];show I.base.free b o q n hx
 ·let:=I.base.OE b xs q;rw[hd b (λz=>by rw[z,e]at this;cases this)];show this
 ·let:=I.base.NW b o u q;rw[hd b (λz=>by rw[z,e]at this;cases this)];show this
 ·by_cases hb:X.env.locals=ea
  ·rw[hb];show gk
  ·rw[hd _ hb];show I.free
 ·by_cases hb:c=ea
  ·rw[hb];show gk
  ·rw[hd _ hb];show I.KP x c q
 ·let#[Et]:=I.pin p hp;show#[q1,?_,q3];by_cases hb:p.1=ea
  ·rw[hb];show gk
  ·rw[hd _ hb];show q2
 ·let ha:a≠ea:=λz=>by rw[z,gk]at q;cases q
  rw[hd a ha]at q;show (I.JM a v q).KN (λc v' _ z=>z) (λc hc=>?_) λc xs hc=>?_
  ·rw[hd c (λz=>by rw[z,e]at hc;cases hc)];show hc
  ·rw[hd c (λz=>by rw[z,e]at hc;cases hc)];show hc
universe e
theorem yF (K:Frag)(C f:Addr):Bool:=match K.lookup C with
 | some ⟨.type "type",_,.cls cd,sl⟩=>(match cd.mro,sl.toList with
  | .ref C'::bm,[xb,some (.builtin n),_]=>C'==C&&n=="ValueError.__new__"&&not cd.hasDel&&tailIn K vb bm&&nsOkIn K cd.ns&&nsIn K cd.ns "__init__"==!some xI
  | _,_=>false)
 | _=>false
set_option tactic.hygienic true in def xa {K:Frag}(X:K.In h)(G:h.Ns N mg)(e:nsIn K N n=!some v):mg n=!v:=by
 let#[o,es,ep,ho,hd,_,hf]:=G;unfold nsIn at e;split at e
 ·rename_i q;let:=X _ _ q;rw[this]at ho
  cases ho
  cases hd;split at e
  ·rename_i he
   cases e;rw[<- hf];unfold nsFind findBy
   simp_all
  ·simp_all
 ·cases e
set_option tactic.hygienic true in def yE {K:Frag}(X:K.In h)(q:yF K C f=true):
  ∃ bm N nm q bs hdct sn sub ab col dd k0 k1 k2 k3 k5 mN,K.lookup C=!excClassObj nm q C N bs bm hdct sn sub ab col dd k0 k1 k2 k3 k5 "ValueError.__new__"/\h.Ns N mN/\mN "__init__"=!.ref f/\OwnTail h vb bm:=by
 unfold yF at q;split at q
 ·rename_i dd cd sl ho;split at q
  ·rename_i C' bm k0 k1 k2 k3 n k5 hm hs;simp only[He,Iw,Bool.not_eq_true']at q;let#[#[#[#[#[2],a15],ht],JM],hni]:=q;let#[nm,bs,mro,ns,qn,hd,sn,sub,ab,col,del]:=cd;subst hm a15;let hsl:sl=[k0,k1,k2,k3,some<|.builtin "ValueError.__new__",k5].toArray:=by
    let#[l]:=sl
    simp_all
   subst hsl;show#[bm,ns,nm,qn,bs,hd,sn,sub,ab,col,dd,k0,k1,k2,k3,k5,_,ho,.of_isNs<|isNs_of_in X JM,xa X (.of_isNs<|isNs_of_in X JM) hni,tail_of_in X ht]
  ·cases q
 ·cases q
structure b7n (K:Frag) (C f:Addr):Prop where
 own:yF K C f=true
 fn:isFn K xI=true
 kp:keepIn K Ax=true
theorem oz (P)(w)(K:Frag)(mg)(base)(k:Nat)(x)(C)(ps)(sp):Prop:=
 ∃ f fd,mg x=!.ref C/\b7n K C f/\MN K fd ps []/\K6 P w K mg base Ld k f fd ps sp
def a3H {sub:θ}(Li:bm.contains oC=true)(hh:A.handled=none)(h:wpAny M A x (λv s₁=>∃ e oe vs,v=.ref e/\s₁.heap.get? C=!excClassObj nm q C N bs bm hdct sn sub ab col dd k0 k1 k2 k3 k5 newId/\s₁.heap.get? e=!oe/\oe.cls=.ref C/\oe.data=.fields vs/\vs[1]?=!.none/\E lC s₁) E s):
  wpAny M A (raiseStmt env (!x) none) Q E s:=by
 let hcB:(Value.ref C::bm).contains oC=true:=by rw[List.contains_cons,Li,Bool.or_true]
 show EN (GX h (λv s₁ h₁=>?_) λ_ _ x=>x);let#[e,oe,vs,1,hC,he,hc,hd,h1,hE]:=h₁;let#[ED]:=s₁;let#[zx]:=oe;subst hc hd;repeat (first|with_reducible show HK he ?_|with_reducible show HK hC ?_|(with_reducible show wpAny_isSubtype_exc hC ?_;rw[hcB])|wp_step)
 rw[h1];show F6 ?_;show F6 (wpAny_raiseNew_none hh hE)
section
variable {C:Addr}{sp:Sp}{t:TA}{W:St->XK}
def Inv.a1d (I)(mk:Heap.MadeExcOf s.heap h' ea Ax us):Inv X ñ σ (upd H ea (AA ea C)) { s with heap:=h' }:=by
 let hH:=I.JM.gone mk.new;let#[t,he,htn,ht]:=mk.there;let up:∀ b o,H b=!o->upd H ea (AA ea C) b=!o:=λb o q=>by rw[a8<|ak q hH];show q
 show I.PJ (ch:=[]) rfl #[λb o q n hb hx=>mk.keeps b o q,λb o q n hb hx=>#[o.slots,mk.keeps b o q],λb o q n hx=>?_,λb o q hx=>#[o,mk.keeps b o q],λb xs q=>up b _ q,λb o u q=>up b _ q] (λa v q=>?_) I.bare λb z=>absurd z Ė
 ·rw[a8 (λz=>by rw[z,mk.new]at q;cases q)];show n
 ·by_cases ha:a=ea
  ·rw[ha,ae]at q
   cases q;rw[ha];show a8f #[Cg,he,6]
  ·rw[a8 ha]at q;show (I.JM a v q).KN (λc w' _ z=>mk.keeps c w' z) (λc hc=>up c _ hc) λc xs hc=>up c _ hc
theorem Dz (W:St->XK)(C)(sp)(t:TA):TS:=λ_ σ H=>t σ H λvs H1=>vs.length<=sizeLine/\∀ ea,H1 ea=none->
 sp (.ref ea::vs) (upd H1 ea (AA ea C)) (λv H2=>v=.non/\∃ dx,H2 ea=!t8 ea C dx/\W σ Ax (!dx) (aW ea H2)) E0
def zT (O:rg X)(hc)(hw:b7h X W)(hg:Gl X x)(D:oz X.prog X.w X.K X.mg X.base k x C ps sp)(hr:JW X.base (k+1) X.A)(ha:PA X sQ t)(NB)(QG)(LW:(backTo Kg zO).any (·.1)=false:=ā)(hn:X.base.err=none:=Ą):
  PS X a7x (Dz W C sp t):=by
 let#[tw,hm,M,hb,F]:=D;intro ñ s σ H D' I h;let#[tl,N,nm,qn,bs,hdct,sn,sub,ab,col,dd,k0,zi,k5,mN,hC,hN,hni,T]:=yE I.LR M.own;let Li:=T.hasType PySem.F.excBase_ValueError.hasBase;let a2a:wpAny đ X.A (eval (.Call (.Name x np) sQ [] Kg) X.env) (λv s₃=>∃ e oe vs,v=.ref e/\s₃.heap.get? C=!excClassObj nm qn C N bs tl hdct sn sub ab col dd k0 k1 k2 k3 k5 "ValueError.__new__"/\s₃.heap.get? e=!oe/\oe.cls=.ref C/\oe.data=.fields vs/\vs[1]?=!.none/\X.xe lC s₃) X.xe s:=by
  show GR XQ;show callWith_K (h₀:=X.base) I.ok.mod.TZ M.kp (K2 (ha Kg ñ s σ H _ I h) fun us s1 ⟨vs,H1,I1,r,hz,q⟩=>b6q) QG LW;let#[tl1,N1,nm1,qn1,bs1,a8k,sn1,a9M,ab1,b3T,dd1,l0,l1,l2,l3,l5,mN1,hC1,hN1,a5L,T1]:=yE I1.LR M.own;let#[of,hof,a5E]:=FO.mp<|show typeIn X.K (.ref f)=some (.type "function") from Iw.mp M.fn;show b1t PySem.F.excBase_ValueError T1 (I1.LR _ _ hC1) hN1 a5L (I1.LR _ _ hof) a5E (by change us.length<=sizeLine;rw[<- r.length];show hz) λh' ea mk=>?_;let PC:=I1.JM.gone mk.new;let hs0:=I1.was (by rw[O.exs];simp) mk.new;let I2:=I1.a1d mk;let hq:=q ea PC;let r2:lA (V.ref ea::vs) BG:=.cons rfl r;let hl:(BG++[]).length=ps.length:=by rw[Fq];let e:=r2.length;rw[F.len _ _ _ _ hq]at e;show e.symm
  let P2:=hb _ BG I2.LR hl;rw[Fq]at P2;show Jp (Il (F.run _ X.stack _ _ #[Value.ref ea::us,[]] BG _ _ E0 b7L b5R P2 r2 hq) λr s' Pj=>?_)
  cases r with
  | error e=>show False.elim Pj
  | ok fl=>
   cases fl with
   | ret u=>
    let#[v,H',I3,rv,ev,dx,hM,hW]:=I2.after Pj;subst ev;show#[rv,?_];let#[wW,a0,he,Tu,hda,h0,h1,Yw,h22]:=id<|show nZ ea C (!dx) s'.heap from (I3.JM ea _ hM).1;show#[ea,wW,1,I3.LR _ _ hC,he,Tu,hda,h1,hw ñ σ _ s' ea oe ws a0 (I3.Si hM) he hda h0 h1 h22 gk hs0 ?_];rw[Tu,Yw];show hW
   | next=>show False.elim Pj
   | brk=>show False.elim Pj
   | cont=>show False.elim Pj
 rw[arm_exec_Raise];show EN (IZ<|a3H (C:=C) (nm:=nm) (q:=qn) (N:=N) (bs:=bs) (bm:=tl) (hdct:=hdct) (sn:=sn) (sub:=sub) (ab:=ab) (col:=col) (dd:=dd) (k0:=k0) (k1:=k1) (k2:=k2) (k3:=k3) (k5:=k5) Li WC (EN<|GX a2a (λv s₃ h₃=>EN<|IZ (F6 h₃)) λ_ _ x=>x))
universe e
theorem a2q (ea)(cls)(h:Heap):Prop:=∃ o vs,h.get? ea=!o/\o.cls=cls/\o.data=.fields vs/\vs[2]?=!.none
theorem a6v (ea)(cls):HO:=.ext (a2q ea cls)
theorem Cz (ea)(cls)(dx)(h:Heap):Prop:=∃ o vs,h.get? ea=!o/\o.cls=cls/\o.data=.fields vs/\o.dict=!dx/\vs[2]?=!.none
theorem YL (ea)(cls)(dx):HO:=.ext (Cz ea cls dx)
theorem pA (ea)(cls):Option Addr->HO
 | none=>a6v ea cls
 | some dx=>YL ea cls dx
abbrev Cx.more (X:Cx)(pn:ζ):Cx:={ X with pn:=X.pn++pn }
theorem Cx.a0d (X)(pn:ζ)(W:St->XK):Cx:=(X.more pn).P6 λe s'=>∃ ñ σ Hc sc,Inv (X.more pn) ñ σ Hc sc/\Q0 X.prog X.w X.stack Hc sc (W σ) e s'
theorem Cx.L6 (X)(ea)(pn:ζ):Cx:={ X with A:=X.A.mark !.ref ea,calm:=false,pn:=X.pn++pn,xe:=λ_ _=>False }
def a8b {X:Cx}:zp (X.a0d pn W) W:=λñ σ H s e s' I h=>#[ñ,σ,H,s,I.L5,h]
def Inv.Xh (I):Inv YI [] σ H s:=
 #[#[b9M,I.ok.hd,b9L],I.os,I.bare,I.base,I.loc,I.cell,I.free,I.KP,λp hp=>I.pin p<|by simpa using hp,I.JM,I.len]
def Inv.QC (ok:X.Ok)(I:Inv YI Oj σ H s):Inv X ñ σ H s:=
 a2U
def Inv.Sk {X:Cx}(I:Inv YI Oj σ H s):Inv (X.L6 ea ñ) [] σ H s:=
 #[#[b9M,İ,b9L],I.os,I.bare,I.base,I.loc,I.cell,I.free,I.KP,
  λp hp=>I.pin p<|FJ _ a5n,I.JM,I.len]
def Inv.Ph (ok:X.Ok)(I:Inv (X.L6 ea ñ) [] σ H s):Inv X ñ σ H s:=
 a2U
def Inv.Xf (I)(PC:H ea=none)(h0:X.s₀.heap.get? ea=none)(ho:s.heap.get? ea=!o)(hd:o.data=.fields vs)(ok:∀ H2:Hp,JR X.prog X.w H2 s.heap ea ho')(hp:∀ p∈X.pn++ñ,p.1≠ea):Inv X ñ σ (upd H ea ho') s:=by
 let WG:X.env.locals≠ea:=λz=>by let#[m,#[o',_,_,ho',NP,_],_]:=I.loc;rw[z,ho]at ho';cases ho';rw[NP]at hd;cases hd
 let Zo:∀ x c,X.env.cells.lookup x=!c->c≠ea:=λx c e z=>by let#[v,o',ho',NP]:=I.cell x c e;rw[z,ho]at ho';cases ho';rw[NP]at hd;cases hd
 let up:∀ {b:Addr}{u:HO},H b=!u->upd H ea ho' b=!u:=λ{b u} e=>by rw[a8<|ak e PC];show e
 show#[X0,#[I.base.keep,I.base.slot,λb o' e n RU=>?_,I.base.there,λb xs e=>up<|I.base.OE b xs e,λb ob u e=>up<|I.base.NW b ob u e],I.loc,I.cell,c1R,λp hp'=>?_,λa u e=>?_,I.len]
 ·let:b≠ea:=λz=>by rw[z,h0]at e;cases e
  rw[a8 this];show I.base.free b o' e n RU
 ·rw[a8 WG];show I.free
 ·rw[a8<|Zo x c e];show I.KP x c e
 ·let#[e,n,r]:=I.pin p hp';show#[e,by rw[a8<|hp p hp'];show n,r]
 ·by_cases ha:a=ea
  ·rw[ha,ae]at e
   cases e;rw[ha];show ok _
  ·rw[a8 ha]at e;show (I.JM a u e).KN (λc v _ q=>q) (λb hb=>up hb) λb xs hb=>up hb
def a3d (ho:h.get? ea=!o)(hc:o.cls=cls)(hd:o.data=.fields vs)(h2:vs[2]?=!.none):JR P w H h ea (pA ea cls o.dict):=by
 cases Rh:o.dict with
 | none=>show#[#[o,vs,i6,h2],b9I]
 | some dx=>show#[#[o,vs,i6,Rh,h2],b9I]
def ie (I)(hN)(hi:X.N[i]?=!n)(hk)(h:∀ s',Inv X ñ (σ.set i none) H s'->Q () s'):wpAny M A (do bindName X.env n .none;unbindBehindTheSuite X.env n pos) Q E s:=by
 let#[z9]:=id I.loc;let QL:a2E=false:=by rw[I.ok.kind];rfl
 let hiσ:i<σ.length:=by rw[I.len];show (ES.mp hi).1
 let UX:=I.UX;show wpAny_nameGoes_keeps hk hn QL λh' v RC hs=>?_;let#[oL,_,_,Zq,_]:=id hn;let tracked:=λb ob e=>by
  show (I.JM b ob e).KN a9A ZP λ_ _ q=>q;rintro rfl;let UN:=I.free;rcases hc with rfl|hc
  ·rw[UN]at e;cases e
  ·rw[UN]at hc;cases hc
 show h _ #[X0,#[c0J,I.base.free,λb o e hx=>?_,I.base.OE,I.base.NW],#[_,RC,λj y v' e1 e2 e3=>?_],λy c e=>?_,c0E,tracked,by simpa using I.len]
 ·show (hs.2 b<|FK zY).trans b1N
 ·let#[sl,e1]:=I.base.slot b o e n hb hx;show#[sl,(hs.2 b<|FK zY).trans e1]
 ·let#[o',e1]:=I.base.there b o e hx;show#[o',(hs.2 b<|FK zY).trans e1]
 ·by_cases hj:j=i
  ·subst hj;rw[IK hiσ]at e2
   cases e2
  ·rw[Jb<|Ne.symm hj]at e2;let#[u',r',q]:=hl j y v' e1 e2 e3;show#[u',r',?_];rcases q with⟨k,e⟩|⟨k,c,e,z⟩
   ·show .inl #[k,?_];let:y≠n:=λe=>hj<|nG hN e1 (e▸hi);simp[this,e]
   ·show .inr b0D
 ·let#[w',z]:=I.cell y c e;show#[w',z.sameBut hs<|UX y c e]
 ·let#[e,yB]:=I.pin p hp;show#[c1S]
section
variable {κ:Type}[DecidableEq κ]
theorem cL (ķ)(k:κ):Ç:=(ķ.find? λkv=>decide DS).map (·.2)
theorem dQ (ķ)(k:κ)(v):List (κ×V):=
 if A9=true then ķ.map (λkv=>if kv.1=k then Dt else kv) else ķ++[(k,v)]
theorem l9 (ķ)(k:κ):List (κ×V):=ķ.filter λkv=>decide (kv.1≠k)
def b5D {p:κ×V}{r:List (κ×V)}{k:κ}(e:p.1=k):cL (p::r) k=!p.2:=by simp[cL,Hl,e]
def c0T {p:κ×V}{r:List (κ×V)}{k:κ}(e:¬ p.1=k):cL (p::r) k=cL r k:=by simp[cL,Hl,e]
def a5m (k:κ):∀ ķ:List (κ×V),A9=(cL ķ k).isSome
 | []=>rfl
 | p::r=>by
  rw[J1];by_cases e:p.1=k
  ·simp_all [b5D,Bool.true_or,Option.isSome_some]
  ·simp_all [c0T,Bool.false_or,a5m]
def a89 (ķ)(k:κ)(v):(dQ ķ k v).length<=ķ.length+1:=by
 unfold dQ;split
 ·simp_all
 ·simp_all
def gU {ķ:List (κ×V)}{k:κ}(v)(h:cL ķ k=none):dQ ķ k v=ķ++[(k,v)]:=by
 unfold dQ;rw[a5m,h]
 simp_all
def N6.Qo (r:N6 o u):o.isSome=u.isSome:=by
 cases o with
 | none=>cases u with
  | none=>rfl
  | some _=>show (r).elim
 | some _=>cases u with
  | none=>show (r).elim
  | some _=>rfl
def KV.val (r:KV ķ vs)(k:κ):N6 (cL ķ k) (valueAt vs k):=by
 induction r with
 | nil=>show HG
 | @cons p q ps qs h t ih=>
  let#[nU]:=h;by_cases e:p.1=k
  ·let e':=h1.symm.trans e;let b:valueAt (q::qs) k=!q.2:=by simp[valueAt,e']
   rw[b5D e,b];show h2
  ·let e':¬ q.1=k:=λz=>e<|h1.trans z;let b:valueAt (q::qs) k=valueAt qs k:=by simp[valueAt,Hl,e']
   rw[c0T e,b];show ih
def KV.any (r:KV ķ vs)(k:κ):A9=vs.any λkv=>decide DS:=by
 induction r with
 | nil=>rfl
 | cons h t ih=>simp_all
def KV.a4x (r:KV ķ vs)(k:κ)(ry):
  KV (ķ.map λkv=>if kv.1=k then (kv.1,y) else kv) (vs.map λkv=>if kv.1=k then (kv.1,u) else kv):=by
 induction r with
 | nil=>show .nil
 | @cons p q ps qs h t ih=>
  show .cons ?_ ih;let#[nU]:=h;by_cases e:p.1=k
  ·simp_all
  ·simp_all
def KV.put (r:KV ķ vs)(k:κ)(ry):KV (dQ ķ k y) (stored vs k u):=by
 unfold dQ stored;rw[r.any k];by_cases e:(vs.any λkv=>decide DS)=true
 ·rw[if_pos e,if_pos e];show r.a4x k ry
 ·rw[if_neg e,if_neg e];show Paired.snoc r #[1,ry]
def KV.drop (r:KV ķ vs)(k:κ):KV (l9 ķ k) (without vs k):=by
 unfold l9 without
 induction r with
 | nil=>show .nil
 | @cons p q ps qs h t ih=>
  let#[nU]:=h;rw[GC,GC];by_cases e:p.1=k
  ·simp_all
  ·let e':¬ q.1=k:=λz=>e<|h1.trans z;let a:decide (p.1≠k)=true:=by simp[e]
   let b:decide (q.1≠k)=true:=by simp[e']
   rw[if_pos a,if_pos b];show .cons #[nU] ih
def KV.length (r:KV ķ vs):ķ.length=vs.length:=Paired.length r
def CJ (ķ)(k:κ):(l9 ķ k).length<=ķ.length:=FD _ _
universe e
def jD (r:wF p7 u):(aM P w).is k u=true:=by
 cases k with
 | inl i=>let⟨t,e⟩:=r;subst e;show a9L P w i t
 | inr x=>let⟨t,e⟩:=r;subst e;show a8i P w x t
def a5W (e:kV a=kV b):a=b:=by
 cases a with
 | inl i=>cases b with
  | inl j=>have e':=e;injection e' with e';rw[e']
  | inr y=>show nomatch (e)
 | inr x=>cases b with
  | inl j=>show nomatch (e)
  | inr y=>have e':=e;injection e' with e';rw[e']
def b0M:∀ {ks:List Dx}{us:θ},lA (ks.map kV) us->ItemsAre tT ks us:=by
 intro r'
 induction r' with
 | nil=>
  intro _ r;rw[GF]at r;cases r;show .nil
 | cons k ks ih'=>
  intro _ r;rw[Fh]at r
  cases r with
  | cons h t=>show .cons (jD h) (ih' t)
abbrev KT (H:Hp):List x0->List Z0->Prop:=Paired λp q=>p.1=q.1/\H q.2.1=!.tup (p.1.map kV)/\wF p.2 q.2.2
def Wl (ok:MS P w H h)(e:Rd H a u):JR P w H h a u:=e.ok ok
def qY (ok:MS P w H h)(e:Rd H a ku):ķ.length<=sizeLine/\(a==sysModules)=false/\∃ vs,KV ķ vs/\h.DictOf tT a vs:=
 Wl ok e
def CK (ok:MS P w H h)(e:H a=!.dK ķ):ķ.length<=sizeLine/\(a==sysModules)=false/\∃ vs,KV ķ vs/\h.DictOf tT a vs:=qY ok (.inl e)
def a41 (ok:MS P w H h)(e:H a=!.tup (ks.map kV)):(tupleKind tT).is h ks a:=by
 let#[_,its,r,o,nU,n,h3]:=(ok a _ e)
 show#[o,its.toArray,n,zr,by simpa using b0M r]
def a2A (ok:MS P w H h)(e:Rd H a (.dT ķ)):ķ.length<=sizeLine/\(a==sysModules)=false/\
  ∃ xs,KT H ķ xs/\h.DictOfH (tupleKind tT) a xs:=by
 let#[z,y,xs,r,xr,ki,h5]:=(Wl ok e)
 show#[z,y,xs,r,xr,ki,λx hx=>?_,h5];let all:∀ {l:List x0}{m:List Z0},KT H l m->∀ x∈m,(tupleKind<|aM P w).is h x.1 x.2.1:=by
  intro l m q
  induction q with
  | nil=>simp_all
  | @cons p q ps qs hq t ih=>
   intro x hx;rcases Fw.mp hx with e|hx
   ·show a41 ok ħ
   ·show ih x hx
 show all r x hx
theorem NJ (H)(a:Addr)(y:V)(r:Ç):Prop:=∃ ķ k,Rd H a ku/\y=kV k/\r=cL ķ k
theorem Qf (H)(a:Addr)(y v:V)(H':Hp):Prop:=∃ ķ k,H a=!.dK ķ/\y=kV k/\ķ.length<sizeLine/\H'=upd H a b7O
def NJ.k {k:Dx}(e:H a=!.dK ķ):NJ H a p7 (cL ķ k):=#[ķ,k,.inl e,2]
def Qf.k {k:Dx}(e:H a=!.dK ķ)(hl:ķ.length<sizeLine):Qf H a p7 v (upd H a b7O):=#[ķ,k,e,1,hl,1]
def Inv.big (I):sysModules<s.heap.objs.size:=by let h:=(I.mod.glob.keeps I.bk).lt;show Nat.lt_trans œ h
def r6 (hu:A.units+1<cLine)(I)(g:NJ H a y !v)(ry)(h:∀ w' s',Inv X ñ σ H s'->wF v w'->Q w' s'):
  wpAny đ A (getItem xV u) Q E s:=by
 let#[j6]:=g;let#[GA]:=qY I.JM e;let#[w',hw,QB]:=N6.some_of (by rw[l];show rel.val k);show wpAny_getItem_of yM dd.mapOf hw (h w' _ v5 QB)
def a6O (hu:A.units+1<cLine)(I)(g)(ry)(h:∀ s',Inv X ñ σ H s'->Q (.bool o.isSome) s'):
  wpAny đ A (compareOp .In u xV) Q E s:=by
 let#[j6]:=g;let#[GA]:=qY I.JM e;show wpAny_in_of yM hd dd.mapOf ?_;rw[<- (rel.val k).Qo,<- l];show h _ v5
def a6K (hu:A.units+1<cLine)(I)(g)(ry)(h:∀ s',Inv X ñ σ H s'->Q (.bool (not o.isSome)) s'):
  wpAny đ A (compareOp .NotIn u xV) Q E s:=by
 let#[j6]:=g;let#[GA]:=qY I.JM e;show wpAny_notIn_of yM hd dd.mapOf ?_;rw[<- (rel.val k).Qo,<- l];show h _ v5
def Cls (I)(mu:i4 (H a))(hs:Heap.SameBut a s.heap h')(he:∃ q,h'.get? a=!q)(new:JR X.prog X.w (upd H a ob) h' a ob):
  Inv X ñ σ (upd H a ob) { s with heap:=h',toks:=t' }:=
 I.write mu ĵ (λb q hb z=>(hs.2 b hb).trans z) he new
def xP (z:ķ.length<=sizeLine)(hd:(a==sysModules)=false)(rel:KV ķ vs)(dd:h'.DictOf tT a vs):
  JR P w H' h' a ku:=#[GA]
def b4a (hu:A.units+1<cLine)(I)(g:Qf H a y v H')(ry)(rv:wF v r)(h:∀ s',Inv X ñ σ H' s'->Q () s'):
  wpAny đ A (setItem xV u r) Q E s:=by
 let#[j6,1]:=g;let#[GA]:=CK I.JM e;let hl:(dQ ķ k v).length<=sizeLine:=by grind [a89]
 show wpAny_setItem_pairs (hsz:=by rw[<- rel.length];show z) yM dd λh' X1 hs=>h _ ?_;let he:∃ q,h'.get? a=!q:=let ⟨q,_,_,hq,_⟩:=X1;#[q,hq];show Cls I (by rw[e];show HG) hs he (xP hl hd (rel.put k rv) X1)
def a2B (I)(e:H a=!.dK ķ)(ry:wF p7 u)(l:cL ķ k=!v)(hm:more=[]\/∃ x,more=[x])(h:∀ w' s',Inv X ñ σ (upd H a (.dK (l9 ķ k))) s'->wF v w'->Q w' s'):wpAny đ A (call (.builtin "dict.pop") (.ref a::u::more)) Q E s:=by
 let#[GA]:=CK I.JM e;let#[w',hw,QB]:=N6.some_of (by rw[<- l];show rel.val k);let hp:(keyPart u).isSome=true:=by
  cases k with
  | inl i=>let⟨t,q⟩:=ry;subst q;rfl
  | inr x=>let⟨t,q⟩:=ry;subst q;rfl
 let ha:argsOk "dict.pop" #[.ref a::u::more,[]]:=by
  rcases hm with q|⟨x,q⟩
  ·subst q;show PySem.F.args_dict_pop_2 _ _
  ·subst q;show PySem.F.args_dict_pop_3 _ _ _
 show call_meetsIn PySem.F.slot_dict_pop dd.typeIs PySem.F.entry_dict_pop ha (meets_dict_pop_there _ a yM more hm hp)
  #[vs,w',dd,by rw[<- rel.length];show z,hw,λh' X1 hs=>h w' _ ?_ QB]
 let he:∃ q,h'.get? a=!q:=let ⟨q,_,_,hq,_⟩:=X1;#[q,hq];show Cls I (by rw[e];show HG) hs he (xP (Fs (CJ ķ k) z) hd (rel.drop k) X1)
theorem Zf (i:Expr):Prop:=∀ ov iv,subscripted i false ov iv=operate [ov,iv] (getItem ov iv)
def c10 {id:String}(hl:typeLookup nN "__getitem__"=pure !.builtin id)(hs:Zf slice)(h:wpAny Ē A (eval value env) (λo s₁=>wpAny Ē A (eval slice env) (λi s₂=>s₂.TypeIs o T/\wpAny Ē A (getItem o i) Q E s₂) E s₁) E s):
  wpAny Ē A (eval (.Subscript value slice pos) env) Q E s:=by
 show Subscript_ (GX h (λo s₁ h₁=>GX h₁ (λi s₂ h₂=>?_) λ_ _ x=>x) λ_ _ x=>x);let#[hT,h₂]:=h₂;show EN ?_;show EN (wpAny_specialOf hT hl ?_);let fin:wpAny Ē A (subscripted slice false o i) (λr s₃=>wpAny Ē A (letTemporaryGo value o r >>= λ_=>pure r) Q E s₃) E s₂:=by rw[hs o i];show wpAny_operating (GX h₂ (λr s₃ h₃=>EN<|wpAny_letTemporaryGo (F6 h₃)) λ_ _ x=>x)
 first
  | show F6 (EN fin)
  | show EN _
  | show EN fin
def a8Q (I)(g):s.TypeIs xV "dict":=by let#[ķ,k,e,_,_]:=g;let#[_,_,vs,_,dd]:=qY I.JM e;show dd.typeIs
theorem Wi (td ty:TE):TE:=λσ H Q=>td σ H λx H1=>ty σ H1 λy H2=>∃ a v,x=.ref a/\NJ H2 a y !v/\Q v H2
theorem Wj (td ty tv:TE):TS:=λD σ H=>tv σ H λv H1=>td σ H1 λx H2=>ty σ H2 λy H3=>∃ a H4,x=.ref a/\Qf H3 a y v H4/\D.nx σ H4
def c15 (hu)(ho:PE X o td)(hi:PE X i ty)(hs:Zf i):PE X b5Z (Wi td ty):=by intro ñ s σ H Q I h;show c10 PySem.F.slot_dict_getitem.lookup hs (K2 yG fun u s1 ⟨x,H1,I1,rx,q1⟩=>K2 (hi ñ s1 σ H1 _ I1 q1) λiv s2 J'=>?_);let#[y,oo,ry,a,v,ex,g,q2]:=J';subst ex;obtain rfl:u=Value.ref a:=rx;show#[a8Q I2 g,r6 hu I2 g ry λw' s3 I3 QB=>#[v,H2,I3,QB,q2]]
def bU (hu)(ho:PE X o td)(hi:PE X i ty)(hv)(hs:swapsWith value (!.Subscript o i pos') pos.line X.env=pure false):
  PS X (.Assign [.Subscript o i pos'] value pos) (Wj td ty tv):=by
 intro ñ s σ H D I h;show wpAny_Assign_Subscript (K2 a4B fun r s1 ⟨v,H1,I1,rv,q1⟩=>K2 (ho ñ s1 σ H1 _ I1 q1) fun u s2 ⟨x,H2,I2,rx,q2⟩=>K2 (hi ñ s2 σ H2 _ I2 q2) λiv s3 J'=>?_) hs;let#[y,H3,I3,ry,a,H4,ex,g,q3]:=J';subst ex;obtain rfl:u=Value.ref a:=rx;show b4a hu I3 g ry rv λs4 I4=>#[σ,H4,I4,q3]
def a1w (h:Heap)(hb:sysModules<h.objs.size):JR P w H (h.push { cls:=.type "dict",data:=.dict [].toArray }) h.objs.size B7:=
 #[FV _,Jj.mpr<|Ne.symm (FK hb),[],.nil,Heap.DictOf.new h]
theorem b9T:TE:=λ_ H Q=>∀ p,H p=none->Q DV (upd H p B7)
def Ol:PE X b7P b9T:=λñ s σ H Q I h=>
 wpAny_Dict_empty #[.ref s.heap.objs.size,_,I.laid uE XS<|a1w s.heap I.big,1,h _<|I.JM.fresh XS]
theorem rM:List (TE×TE)->St->Hp->(List (V×V)->Ø)->Prop
 | [],_,H,Q=>Q [] H
 | (tk,tv)::r,σ,H,Q=>tk σ H λx H1=>tv σ H1 λy H2=>rM r σ H2 λps H3=>Q ((x,y)::ps) H3
abbrev b5I:List (V×V)->List (Value×Value)->Prop:=Paired λp q=>wF p.1 q.1/\wF p.2 q.2
theorem sw (X)(pos:Pos)(keys:List (Option Expr))(values:Ì)(Vk):Prop:=
 ∀ (ñ:ζ)(s:Ê)(σ:St)(H:Hp)(Q:List (V×V)->Ø),Inv X ñ σ H s->rM Vk σ H Q->
  wpAny đ X.A (evalPairs (pairTrees keys values X.env pos)) (λvs s'=>∃ ps H',Inv X ñ σ H' s'/\b5I ps vs/\Q ps H') X.xe s
def b7z:sw X pos [] [] []:=λñ s σ H Q I h=>pairTrees_nil_walk b8q
def fS (hk:PE X k tk)(hv:PE X v tv)(hr:sw X pos ks vs Vk):
  sw X pos (some k::ks) (v::vs) ((tk,tv)::Vk):=λñ s σ H Q I h=>
 pairTrees_cons_walk (K2 (hk ñ s σ H _ I h) λu s1 ⟨x,H1,I1,rx,q1⟩=>K2 (hv ñ s1 σ H1 _ I1 q1) λw2 s2 ⟨y,H2,I2,ry,q2⟩=>
  K2 (hr ñ s2 σ H2 _ I2 q2) λws s3 J'=>(by let#[ps,H3,I3,rel,q3]:=J';show#[(x,y)::ps,H3,I3,.cons #[rx,ry] rel,q3]))
theorem b6 (ķ more:ξ):ξ:=more.foldl (λacc kv=>dQ acc kv.1 kv.2) ķ
def KV.merge:∀ {more:ξ}{rs:List (Dx×Value)}{ķ:ξ}{vs:List (Dx×Value)},KV more rs->KV ķ vs->KV (b6 ķ more) (merged vs rs):=by
 intro more rs ķ vs r
 induction r generalizing ķ vs with
 | nil=>intro q;show q
 | @cons p q ps qs h t ih=>
  intro r0;let e:KV (dQ ķ p.1 p.2) (stored vs q.1 q.2):=by let:=r0.put p.1 h.2;rw[<- h.1];show this
  show ih e
def bZ:∀ (more ķ:ξ),(b6 ķ more).length<=ķ.length+more.length:=by
 intro r'
 induction r' with
 | nil=>
  intro ķ;change ķ.length<=ķ.length+0;lia
 | cons p r ih'=>
  intro ķ;let h1:=ih'<|dQ ķ p.1 p.2;let h2:=a89 ķ p.1 p.2;change (b6 (dQ ķ p.1 p.2) r).length<=_
  grind
def c03:∀ {ķ:ξ}{ws:List (Value×Value)},b5I (ķ.map λkv=>(kV kv.1,kv.2)) ws->∃ rs,Carries tT ws rs/\KV ķ rs:=by
 intro ķ
 induction ķ with
 | nil=>intro ws r;rw[GF]at r;cases r;show#[[],HG,.nil]
 | cons p ķ ih=>
  intro ws r;rw[Fh]at r
  cases r with
  | @cons a b as bs h t=>
   let#[rs,c,q]:=ih t;let#[b1,b2]:=b;show#[(p.1,b2)::rs,#[jD h.1,1,c],.cons #[1,h.2] q]
theorem a0q (Vk):TE:=λσ H Q=>∀ p,H p=none->rM Vk σ (upd H p B7) λps H2=>H2 p=!.dK []/\∃ ķ:ξ,ps=ķ.map (λkv=>(kV kv.1,kv.2))/\ķ.length<=15/\Q DV (upd H2 p ŭ)
def yC (h:sw X pos keys values Vk)(Oq)(hl:keys.length=values.length)(h0:keys≠[])(h15):PE X b31 (a0q Vk):=by
 intro ñ s σ H Q I q;show wpAny_Dict_walk (knd:=aM X.prog X.w) Oq hl h0 h15 (K2 (h ñ _ σ _ _ (I.laid uE XS<|a1w s.heap I.big)<|q _ (I.JM.fresh<|F8 s.heap.objs.size)) fun ws s2 ⟨ps,H2,I2,rel,e,ķ,ep,lk,q2⟩=>?_);subst ep;let#[rs,c,rk]:=c03 rel;let#[z,hd,vs0,r0,dd]:=CK I2.JM e
 cases r0;show#[rs,c,dd,λh' X1 hs=>#[zG,?_,1,q2]];let hz:(b6 [] ķ).length<=sizeLine:=by let h1:=bZ ķ [];rw[HI]at h1;rw[Js];lia
 let he:∃ q,h'.get? s.heap.objs.size=!q:=let ⟨q,_,_,hq,_⟩:=X1;#[q,hq];show Cls I2 (by rw[e];show HG) hs he (xP hz hd (rk.merge .nil) X1)
structure a9f (X:Cx) (o:Expr) (m:Str) (apos:Pos) (e:Expr) (Kg:Pos):Prop where
 base:attributeBase o m X.env (eval o X.env)=eval o X.env
 Kv:((backTo Kg tR).all rX&&(backToKw Kg Ī).all DD
  && decide (([e]:Ì).length+([]:List Keyword).length+ŝ<30))=true
 line:(apos.endLine==Kg.line)=true
 trees:backTo Kg tR=[Ō]
theorem IsD (H)(a:Addr):Prop:=(∃ ķ,Rd H a ku)\/∃ ķ,Rd H a (.dT ķ)
def a8u (I)(d:IsD H a):
  s.TypeIs xV "dict"/\(∀ b,Value.ref a=.ref b->∃ ob,s.heap.get? b=!ob/\ob.dict=none)/\(a==sysModules)=false:=by
 rcases d with⟨ķ,e⟩|⟨ķ,e⟩
 ·let#[_,hd,vs,_,dd]:=qY I.JM e;show#[c2p]
  cases q;let#[ob,_,_,nU,_]:=dd;show#[ob,h1,h2.2.1]
 ·let#[_,hd,xs,_,dd]:=a2A I.JM e;show#[c2p]
  cases q;let#[ob,_,_,nU,_]:=dd;show#[ob,h1,h2.2.1]
theorem Bh (td ty:TE):TE:=λσ H Q=>td σ H λx H1=>∃ a,x=.ref a/\IsD H1 a/\ty σ H1 λy H2=>∃ ķ k v,H2 a=!.dK ķ/\y=kV k/\cL ķ k=!v/\Q v (upd H2 a (.dK (l9 ķ k)))
def b3U (ho:PE X o td)(he:PE X e ty)(m:a9f X o "pop" apos e Kg):PE X (.Call (.Attribute o "pop" apos) [e] [] Kg) (Bh td ty):=by intro ñ s σ H Q I h;show wpAny_Call_method m.base m.Kv m.line PySem.F.plainAttrs_dict PySem.F.slot_dict_pop PySem.F.type_dict_pop (K2 yG λu s1 J'=>?_);let#[AH,ex,d,q1]:=J';subst ex;obtain rfl:u=Value.ref a:=rx;let#[t1,t2,_]:=a8u I1 d;show#[t1,t2,?_];rw[m.trees];show HZ rfl<|Calls.evalArgs_plain (Calls.spliced_cons (K2 (he ñ s1 σ H1 _ I1 q1) fun iv s2 ⟨y,H2,I2,ry,ķ,k,v,ea,ey,l,q2⟩=>Calls.spliced_nil ?_));subst ey;show a2B I2 ea ry l ĵ λw' s3 I3 QB=>#[v,_,I3,QB,q2]
theorem NH (h:Heap)(d)(es:Ñ)(ep:Nat):Prop:=∃ o,h.get? d=!o/\o.ExactDict/\o.data=.dict es ep
def NH.to (x:NH h d es ep)(k:∀ o,h.get? d=!o->h'.get? d=!o):NH h' d es ep:=let ⟨o,a,r⟩:=x;#[o,k o a,r]
section
variable {prog:É}{w:World}{A:Ë}{d:Addr}{es:Ñ}{i ep:Nat}
def NH.ty {s:Ê}(x:NH s.heap d es ep):s.TypeIs E9 "dict":=let ⟨o,a,c,_⟩:=x;#[o,a,c.1]
def opI (hd:(d==sysModules)=false)(x:NH s.heap d es ep)(hQ:Q Ň { s with heap:=s.heap.push { cls:=.type "dict_keyiterator",data:=.fields [.ref d,.int 0 0,.int es.size 0,.int ep 0].toArray } }):
  wpAny Ē A (pyIter E9) Q E s:=by
 let T:=x.ty;let#[o,a,_,b]:=x;show wpAny_pyIter_slot T F.slot_dict_iter (GI F.slot_dict_iter T F.entry_dict_iter ?_<|F.args_dict_iter_1 _);unfold Builtin.«dict.__iter__» Builtin.Dict.dictSlotNone Builtin.Dict.showsAll;show EN<|EN (IT T oZ);show EN oZ;rw[if_neg<|by simp_all];show EN<|F6 (EN<|Ie a b (EN<|Jf a b (EN<|Hf (F6 #[_,1,"dict_keyiterator",_,#[lj,1],F.slot_dict_keyiterator_next.lookup,?_]))));show hQ
def a8q (I:s.heap.IsKeyIter it d i es.size ep)(x:NH s.heap d es ep)(hi:i<es.size)(hQ:∀ h',h'.IsKeyIter it d (i+1) es.size ep->Heap.SameBut it s.heap h'->Q (some es[i].key) { s with heap:=h' }):wpAny Ē A ň Q E s:=by
 let T:=I.typeIs;let#[u,u1,u2,u3]:=id I;let#[o,a,_,b]:=x;show EN<|Hu b0J;show EN<|F6 (EN iX);show EN<|GY T a9C;show EN<|F6 b8w;rw[if_neg<|by simp];show EN<|F6 b8x;rw[if_neg<|by simp];show F6 ?_;simp only[Gq,GW hi];show EN<|EN (GY T<|F6 (EN (wpAny_isOneOf_keyiter T ?_)));change wpAny _ _ (setField _ 1 _ >>= _) _ _ s;show EN (GG u1 u3 Ė ?_);let J:(s.heap.update it<|Obj.mapFields (·.setIfInBounds 1 (rawInt<|(i)+1))).IsKeyIter it d (i+1) es.size ep:=#[_,Gh _ u1<|Hn (GD u3 _),(Jt ..).trans u2,by rw[GD u3];simp[rawInt]]
 show EN (Gk<|EN (wpAny_isOneOf_keyiter J.typeIs ?_));show F6 (F6 #[_,1,F6<|hQ _ J (Gj ..)])
def a4P (hh)(I:s.heap.IsKeyIter it d i es.size ep)(x:NH s.heap d es ep)(hi:es.size<=i)(hQ):wpAny Ē A ň Q E s:=by let T:=I.typeIs;let#[u,u1,u2,u3]:=id I;let#[o,a,_,b]:=x;show EN<|Hu b0J;show EN<|F6 (EN iX);show EN<|GY T a9C;show EN<|F6 b8w;rw[if_neg<|by simp];show EN<|F6 b8x;rw[if_neg<|by simp];show F6 ?_;simp only[Gq,I0 hi];show EN<|EN (GY T (F6 ?_));change wpAny _ _ (setField _ 0 .none >>= _) _ _ s;show EN (GG u1 u3 (by simp) ?_);show dJ (hh.at λea o ne q=>(Gj ..).extBut ea o ne q) fun h' e hk ⟨o,ho,hc⟩=>EN yP;show F6 ĩ
def c3n (hh:A.handled=none)(I:Addr)(SK:d≠I):Walks prog w A I [I,d] [I] es.size vC (λi h=>h.IsKeyIter I d i es.size ep/\NH h d es ep) where
 sub:=λb hb=>by simp at hb;simp[hb]
 frame:=λ_ _ _ st hk=>#[st.1.at λo e=>hk I Ė o e,st.2.to λo e=>hk d Ė o e]
 item:=λi s Q E hi st hQ=>a8q st.1 st.2 hi λh' J hs=>hQ _ h' s.toks (by rw[GW hi];rfl) #[J,st.2.to λo e=>hs.extBut d o SK e] λb o hb e=>hs.extBut b o vS e
 done:=λs Q E st hQ=>a4P (.inl hh) st.1 st.2 XS λh' he=>hQ h' s.toks λb o hb e=>he b o vS e
 self:=λ_ _ _ _ st hQ=>wpAny_pyIter_keyiter st.1 hQ
def b1e (I:Addr)(SK:d≠I)(el:υ)(hel:I∉el):Walks prog w A I (I::d::el) [I] es.size vC (λi h=>(h.IsKeyIter I d i es.size ep/\NH h d es ep)/\(A.handled=none\/∃ ea∈el,A.handled=!.ref ea/\Na h ea)) where
 sub:=λb hb=>by simp at hb;simp[hb]
 frame:=λ_ _ _ st hk=>#[#[st.1.1.at λo e=>hk I Ė o e,st.1.2.to λo e=>hk d Ė o e],st.2.imp id λJ'=>(by let#[ea,m,a,b]:=J';show#[ea,m,a,b.at λo e=>hk ea (by simp[m]) o e])]
 item:=λi s Q E hi st hQ=>a8q st.1.1 st.1.2 hi λh' J hs=>hQ _ h' s.toks (by rw[GW hi];rfl) #[#[J,st.1.2.to λo e=>hs.extBut d o SK e],st.2.imp id λJ'=>(by let#[ea,m,a,b]:=J';show#[ea,m,a,b.at λo e=>hs.extBut ea o (λz=>hel<|z▸m) e])] λb o hb e=>hs.extBut b o vS e
 done:=λs Q E st hQ=>a4P (st.2.imp id λJ'=>(by let#[ea,m,a,b]:=J';show#[ea,a,λz=>hel<|z▸m,b])) st.1.1 st.1.2 (F8 _) λh' he=>hQ h' s.toks λb o hb e=>he b o vS e
 self:=λ_ _ _ _ st hQ=>wpAny_pyIter_keyiter st.1.1 hQ
def yp (lo):W.KdlSrc prog w "dict" d d es.size vC (λh=>NH h d es ep) where
 type:=λ_ x=>x.ty
 there:=λ_ J'=>by let#[_,a,_]:=J';show#[Fe a,Fe a]
 keep:=λ_ _ x hk=>x.to λo e=>hk d ĵ o e
 notList:=by decide
 notTuple:=by decide
 hint:=λ_ _ _ _ x hq=>W.kdl_hint_dict x.ty hq
 iter:=λ_ s hh x=>#[_,_,λ_ _ hq=>opI lo x hq,c3n hh _ (let #[_,a,_]:=x;FK<|Fe a),⟨⟨_,Fp _ rfl,rfl,rfl⟩,x.to λ_ e=>EV _ e⟩]
universe e
def oW (lo):MeetsIn prog w (Builtin.«dict.__len__» #[tG,[]]) (λ_ R s=>∃ es ep,NH s.heap d es ep/\R (.ok (.ret (.int es.size s.toks))) { s with toks:=s.toks+1 }):=
 .of_wp λA R s J'=>by
  let#[Ov,#[o,a,_,b],h]:=J';change wpAny _ _ (dictSize d >>= _) _ _ s;show EN<|EN (Ie a b oZ);show EN (wpAny_pendingCount_other lo (wpAny_ret_mkInt ?_))
  simp_all
def b6F (lo)(x:NH s.heap d es ep)(fit:(es.size:Int)<2 ^ 63)(h:Q (.int es.size (s.toks+1)) { s with toks:=s.toks+1+1 }):wpAny Ē A (call Op tG) Q E s:=by show Calls.call_function_entry kind_len plain_len entry_len (args_len1 _) ?_;show EN oZ;show EN<|Gf x.ty F.slot_dict_len (call_meetsIn F.slot_dict_len x.ty F.entry_dict_len (F.args_dict_len_1 _) (oW lo) #[Ov,x,?_]);show EN<|Gk (F6<|EN b8y);change wpAny _ _ (if _ ≥ 2 ^ 63 then _ else _) _ _ _;rw[if_neg<|by lia];show EN (wpAny_mkInt<|F6 #[_,1,h])
section
variable {X:Cx}{ñ:ζ}{σ:St}{H:Hp}{s:Ê}{d:Addr}{o:Obj}
theorem NF (X)(d):Prop:=∀ o u,X.H₀ d≠!.frz o u
def Inv.nf (I)(hd:H d=!.dK ķ):NF X d:=λo u z=>by let:=I.base.NW d o u z;rw[hd]at this;cases this
def mC {o:HO}{H:Hp}(x:JR P w H h a o)(hd:H d=!u)(h1:∀ b,u≠.own b)(h2):JR P w b6s h a o:=
 x.KN (λ_ _ _ q=>q) (λb q=>by rw[a8 λz=>by simp_all];show q) λb xs q=>by rw[a8 λz=>by simp_all];show q
def Inv.Sv {u v:HO}(I)(hd:H d=!u)(h1:∀ b,u≠.own b)(h2)(h3:∀ ps,u≠.tbl ps)(h4:∀ o' u',X.H₀ d=!.frz o' u'->False)(new:JR X.prog X.w b6s s.heap d v):Inv X ñ σ b6s s where
 ok:=I.ok
 os:=I.os
 bare:=I.bare
 base:=#[I.base.keep,I.base.slot,λb ob q n hx=>by rw[a8 (λz=>by let:=I.base.free b ob q n hx;rw[z,hd]at this;cases this)];show I.base.free b ob q n hx,I.base.there,
  λb xs q=>by let:=I.base.OE b xs q;rw[a8 (λz=>by rw[z,hd]at this;show h2 _<|Option.some.inj this)];show this,
  λb ob w q=>(a8 (λz:b=d=>h4 ob w (show X.H₀ d=some _ by rw[<- z];show q))).trans<|I.base.NW b ob w q]
 loc:=I.loc
 cell:=I.cell
 free:=by rw[a8 (λz=>by let:=I.free;rw[z,hd]at this;cases this)];show I.free
 KP:=λx c e=>by rw[a8 (λz=>by let:=I.KP x c e;rw[z,hd]at this;cases this)];show I.KP x c e
 pin:=λp hp=>by let#[A0,a3]:=I.pin p hp;show#[a1,by rw[a8 (λz=>by rw[z,hd]at a2;cases a2)];show a2,a3]
 JM:=λa ob e=>by
  by_cases ha:a=d
  ·subst ha;rw[ae]at e;cases e;show new
  ·rw[a8 ha]at e;show mC (I.JM a ob e) hd h1 h2
 len:=I.len
def Inv.freeze (I)(hd:H d=!.dK ķ)(ho:s.heap.get? d=!o):Inv X ñ σ b4A s:=
 I.Sv hd Ĺ Ĺ Ĺ (λo u z=>I.nf hd o u z) #[ho,mC (I.JM d _ hd) hd Ĺ λ_ z=>nomatch z]
def Inv.Xi (I)(hd:H d=!.frz o ku)(nf:NF X d):Inv X ñ σ (upd H d ku) s:=
 I.Sv hd Ĺ Ĺ Ĺ (λo u z=>nf o u z) (mC (I.JM d _ hd).2 hd Ĺ λ_ z=>nomatch z)
universe e
theorem Itk (o)(d):It:=
 ⟨λi H=>∃ ķ kv,H d=!.frz o ku/\ķ[i]?=!kv,λi H x H'=>H'=H/\∀ ķ,H d=!.frz o ku->∃ kv,ķ[i]?=!kv/\x=kV kv.1,λi H=>∃ ķ,H d=!.frz o ku/\ķ.length<=i⟩
theorem ZO (o)(d):It:=
 ⟨λi H=>∃ ķ kv,H d=!.frz o ku/\ķ[i]?=!kv,λi H x H'=>H'=H/\∀ ķ,H d=!.frz o ku->∃ kv,ķ[i]?=!kv/\x=kv.2,λi H=>∃ ķ,H d=!.frz o ku/\ķ.length<=i⟩
def lX (h:(aM P w).is k u=true):wF p7 u:=by
 rcases be h with⟨i,t,rfl,rfl⟩|⟨x,t,rfl,rfl⟩
 ·show#[t,1]
 ·show#[t,1]
section
variable {d:Addr}{o:Obj}{es:Ñ}{ep:Nat}
def Inv.ZE (I)(hd:H d=!.frz o ku)(ed):∃ vs,KV ķ vs/\s.heap.DictAt (aM X.prog X.w) d vs ep/\vs.length=es.size:=by let#[ho,z,lo,vs,r,ob,iM,e1,c1,c2,c3,c4,c5]:=I.JM d _ hd;rw[ho]at e1;cases e1;rw[ed]at c2;cases c2;show#[vs,r,#[o,es,ho,c1,ed,c3,c4,c5],?_];let:=c4.length;rw[<- this];simp
def a8K {K:Type}[DecidableEq K]{knd:PySem.KeyKind prog w K}{d:Addr}{ep:Nat}{ķ:List (K×Value)}(hh)(hit:s.heap.IsKeyIter it d i ķ.length ep)(hm:s.heap.DictAt knd d ķ ep)(hx:ķ[i]?=none)(hQ):wpAny Ē A ň Q E s:=by
 let#[o,i6]:=id hit;let#[c2b]:=id hm;show EN (Hu (Gf hit.typeIs Ha
  (GI Ha hit.typeIs a7J ?_<|b12 _)))
 show EN oZ;show EN ?_;show EN ?_
 first|show EN b6t|show EN a7U
 show EN b2U;show EN oZ;show EN (Ie Rh Yx ?_);let hsz:es.size=ķ.length:=by rw[<- hp.length];simp
 rw[if_neg (by rw[hsz];simp)];show EN oZ;show EN (Jf Rh Yx ?_);rw[if_neg<|by simp];show F6 ?_;let hge:es.size<=i:=by rw[hsz];simpa using hx
 simp only[Gq,I0 hge];show EN ?_
 first|show EN b6t|show EN a7U
 change wpAny _ _ b2x _ _ s;show EN b8z;show dJ a6C fun h' e hk ⟨o,ho,hc⟩=>EN yP;show F6 ĩ
def c0V {tg:Expr}{er:ψ}{P:É}{w:World}{K:Ψ} (it d:Addr) (o) {es:Ñ}{ep:Nat} (ed):tL er P w K tg (Itk o d) [it] it (λi h=>h.IsKeyIter it d i es.size ep) where
 mem:=by simp
 obj:=λi h st b hb=>by
  let e:b=it:=by simpa using hb
  subst e;let#[j3]:=st;show#[o,e,λv z=>by rw[d]at z;cases z]
 keep:=λi h h' st k=>st.at λo e=>k it Ė o e
 item:=by
  intro X hP hw hK hc i ñ s σ H E I hf st hg;subst hP hw hK;let#[c2V]:=hg;let#[je]:=I.ZE hd ed;let#[Ek]:=hf it Ė;let#[q,hq,hr]:=Paired.at r hx;rw[<- hl]at st;show wpAny_pyNext_dict_item st da hq λkey h' UL QW sb=>?_;let I1:Inv X ñ σ H { s with heap:=h' }:=I.turned ń f0 f1 f3 f4 f5;let#[c2Y]:=id QW;rw[hl]at QW;show#[key,1,qM e' c' d' œ #[kV kv.1,H,I1,?_,b8A,lD]]
  ·rw[hr.1];show lX UL
  ·rw[hd]at NP;cases NP;show#[kv,hx,1]
 done:=by intro X hP hw hK hc i ñ s σ H E I hf st hg;subst hP hw hK;let#[ķ,hd,hx]:=hg;let#[je]:=I.ZE hd ed;let#[Ek]:=hf it Ė;rw[<- hl]at st;let:=KV.length r;show a8K (I.caF hc.1 f3) st da (Gu<|by lia) λh' eb=>wc
 self:=λ_ _ _ _ _ st h=>wpAny_pyIter_keyiter st h
def a1V {K:Type}[DecidableEq K]{knd:PySem.KeyKind prog w K}{d:Addr}{ep:Nat}{ķ:List (K×Value)}(hh)(hit:s.heap.IsValIter it d i ķ.length ep)(hm:s.heap.DictAt knd d ķ ep)(hx:ķ[i]?=none)(hQ):wpAny Ē A ň Q E s:=by
 let#[o,i6]:=id hit;let#[c2b]:=id hm;show EN (Hu (Gf hit.typeIs F.slot_dict_valueiterator_next
  (GI F.slot_dict_valueiterator_next hit.typeIs F.entry_dict_valueiterator_next ?_<|F.args_dict_valueiterator_next_1 _)))
 show EN oZ;show EN ?_;show EN ?_
 first|show EN a7A|show EN a7V
 show EN b2U;show EN oZ;show EN (Ie Rh Yx ?_);let hsz:es.size=ķ.length:=by rw[<- hp.length];simp
 rw[if_neg (by rw[hsz];simp)];show EN oZ;show EN (Jf Rh Yx ?_);rw[if_neg<|by simp];show F6 ?_;let hge:es.size<=i:=by rw[hsz];simpa using hx
 simp only[Gq,I0 hge];show EN ?_
 first|show EN a7A|show EN a7V
 change wpAny _ _ b2x _ _ s;show EN b8z;show dJ a6C fun h' e hk ⟨o,ho,hc⟩=>EN yP;show F6 ĩ
def a2v {tg:Expr}{er:ψ}{P:É}{w:World}{K:Ψ} (it d:Addr) (o) {es:Ñ}{ep:Nat} (ed):tL er P w K tg (ZO o d) [it] it (λi h=>h.IsValIter it d i es.size ep) where
 mem:=by simp
 obj:=λi h st b hb=>by
  let e:b=it:=by simpa using hb
  subst e;let#[j3]:=st;show#[o,e,λv z=>by rw[d]at z;cases z]
 keep:=λi h h' st k=>st.at λo e=>k it Ė o e
 item:=by intro X hP hw hK hc i ñ s σ H E I hf st hg;subst hP hw hK;let#[c2V]:=hg;let#[je]:=I.ZE hd ed;let#[Ek]:=hf it Ė;let#[q,hq,hr]:=Paired.at r hx;rw[<- hl]at st;show wpAny_pyNext_values_item st da hq λh' QW sb=>?_;let I1:Inv X ñ σ H { s with heap:=h' }:=I.turned ń f0 f1 f3 f4 f5;let#[c2Y]:=id QW;rw[hl]at QW;show#[q.2,1,qM e' c' d' œ #[kv.2,H,I1,hr.2,b8A,lD]];rw[hd]at NP;cases NP;show#[kv,hx,1]
 done:=by intro X hP hw hK hc i ñ s σ H E I hf st hg;subst hP hw hK;let#[ķ,hd,hx]:=hg;let#[je]:=I.ZE hd ed;let#[Ek]:=hf it Ė;rw[<- hl]at st;let:=KV.length r;show a1V (I.caF hc.1 f3) st da (Gu<|by lia) λh' eb=>wc
 self:=λ_ _ _ _ _ st h=>wpAny_pyIter_valiter st h
universe e
def Txt:∀ {us:θ},xs.length=us.length->(∀ (j:Nat)(x:V)(u:Value),xs[j]?=!x->us[j]?=!u->wF x u)->lA xs us:=by
 induction xs with
 | nil=>intro us hl h;cases us with
  | nil=>show .nil
  | cons u us=>cases hl
 | cons x xs ih=>intro us hl h;cases us with
  | nil=>cases hl
  | cons u us=>show .cons (h 0 x u rfl rfl) (ih į λj y v hy hv=>h (j+1) y v (hy)<|hv)
theorem sgn (x)(i):Str:=⟨[x.cps.getD i 0].toArray⟩
theorem Its (x):It:=⟨λi _=>i<x.cps.size,λi H v H'=>H'=H/\v=.str (sgn x i),λi _=>i=x.cps.size⟩
def a5I {tg:Expr}{P:É}{w:World}{K:Φ} (it) (x) (t:Tok) (ty:String) (VA:["enumerate","zip","dict_itemiterator","dict_reverseitemiterator","odict_iterator","itertools.zip_longest","itertools.pairwise"].contains ty=false)
  (W:∀ A:Ë,A.handled=none->Walks P w A it [it] [it] x.cps.size (SignAt x) b0w)
  (a1G:∀ (A:Ë)(i:Nat)(s:Ê)(Q:ρ)(E:ρ),s.heap.IsStrIter it ty x t i->Q ś s->wpAny Ŵ A (pyIter ś) Q E s) {er:ψ} (SM):tL er P w K tg (Its x) [it] it b0w where
 mem:=by simp
 obj:=λi h st b hb=>by
  let e:b=it:=by simpa using hb
  let#[j3]:=st
  simp_all
 keep:=λi h h' st k=>by let#[o,e,r]:=st;show#[o,k it Ė o e,r]
 item:=by
  intro X hP hw hK hc i ñ s σ H E I hf st hg;let#[Ek]:=hf it Ė;show (W X.A<|I.MX hc.1 (hc.2.trans SM)).item i s _ _ hg st λv h' tk hv QW kk=>?_;let#[c,u,hcx,1]:=hv;let I1:Inv X ñ σ H { s with heap:=h',toks:=tk }:=I.turned a7M f0 f1 f3 f4 f5;let#[c2Y]:=id QW;show#[_,1,qM e' c' d' VA #[.str _,H,I1,#[u,?_],#[2],lD]];unfold sgn
  simp_all
 done:=by intro X hP hw hK hc i ñ s σ H E I hf st hg;let#[Ek]:=hf it Ė;let hi:=hg;subst hi;show (W X.A<|I.MX hc.1 (hc.2.trans SM)).done s _ _ st λh' tk kk=>#[1,I.turned a7M f0 f1 f3 f4 f5]
 self:=λA i s Q E st h=>a1G A i s Q E st h
section
open PyProof.V
variable {prog:É}{w:World}{A:Ë}{E:ρ}{s:Ê}{T:String}{r d:Addr}{OK:Heap->Prop}
structure mF (prog:É) (w:World) (T:String) (r d:Addr) (OK:Heap->Prop):Prop where
 type:∀ s:Ê,OK s.heap->s.TypeIs zV T
 there:∀ h:Heap,OK h->r<h.objs.size/\d<h.objs.size
 keep:∀ h h':Heap,OK h->(∀ b,b=r \/ b=d->∀ o,h.get? b=!o->h'.get? b=!o)->OK h'
 notList:(Value.type T==Value.type "list")=false
 notTuple:(Value.type T==Value.type "tuple")=false
 hint:∀ (A:Ë)(E:ρ)(s:Ê)(Q:Bool->Shared->Prop),OK s.heap->Q false s->wpAny Ē A (Builtin.List.listLengthHint zV) Q E s
def a6m (K:mF prog w T r d OK)(JM:OK s.heap)(S:Addr)(hi)(hSr:S≠r)(hSd:S≠d)(res:Value)(c₀:Nat)(hS:s.heap.get? S=!{ cls:=.type "list",data:=.seq [].toArray c₀ })(hR:∀ h' tk N4 c',a59->h'.get? S=!{ cls:=.type "list",dict:=none,data:=.seq N4 c',slots:=[].toArray }->ItemsOf P N4 n->R (.ok (.ret res)) { s with heap:=h',toks:=tk })(hn:n<=sizeLine):
  wpAny Ē A.in1 (Builtin.List.listExtendWith (.ref S) zV res)
   a2o b2V s:=by
 let hSI:=FK<|Fe hS;let#[oI,St,fp,hSf,hit,W,st]:=hi s JM hSI;let key:∀ (h:Heap)(c₁ tk:Nat),St 0 h->(∀ b o,b≠S->s.heap.get? b=!o->h.get? b=!o)->
   h.get? S=!{ cls:=.type "list",data:=.seq [].toArray c₁ }->codeAny Ē A (.builtin "list.extend.loop" #[[.ref S,.ref s.heap.objs.size,res],[]]) R { s with heap:=h,toks:=tk }:=by
  intro h c₁ tk QG hk hS₁;show codeAny_extend_loopS W.toS hn S hSf res n 0 _ [].toArray c₁ rfl (FV _) QG hS₁ (ItemsOf.nil _) λs' N4 c' hm hS' Pa=>?_;rw[Moved.eq_with hm];show hR s'.heap s'.toks N4 c' (λb o hb e=>hm.heap b o (λYs=>?_)<|hk b o hb e) hS' Pa;rcases Fw.mp Ys with e'|Ys
  ·show hb e'
  ·show absurd A7 (by rw[Fo.mp Ys];show GS _)
 show EN (IE (K.type s JM) ?_);let h1:Builtin.List.listSameRef (.ref S) zV=false:=by simp[Builtin.List.listSameRef,hSr]
 simp only[h1,K.notList,K.notTuple];show EN (hit _ _ ?_);let hS₁:=EV oI hS;show EN<|Gk (K.hint _ _ _ _ (K.keep _ _ JM λb _ o e=>EV _ e) ?_);show wpAny_ite_split (λ_=>?_) λ_=>F6 #[plainId_quiet PySem.F.plain_extend_loop _,key _ c₀ _ st (λb o _ e=>EV _ e) hS₁];show EN (IV ?_);show EN ?_;show EN (wpAny_updateSeq hS₁ rfl ?_);let hS₂:=Gh (Obj.mapSeq (·.push Value.none)) hS₁ rfl;show wpAny_updateSeq hS₂ rfl ?_;let hS₃:=Gh (Obj.mapSeq (·.pop)) hS₂ rfl;show F6 #[plainId_quiet PySem.F.plain_extend_loop _,key _ _ _ ?_ (λb o hb e=>?_) hS₃]
 ·show W.frame 0 _ _ st λb hb o e=>?_;let hbS:b≠S:=λh=>hSf<|h▸hb;show (FH _ _<|Ne.symm hbS).trans ((FH _ _<|Ne.symm hbS).trans e)
 ·show (FH _ _<|Ne.symm hb).trans ((FH _ _<|Ne.symm hb).trans<|EV _ e)
def c14 (K:mF prog w T r d OK)(JM:OK s.heap)(S:Addr)(hi)(hSr:S≠r)(hSd:S≠d)(hS:s.heap.get? S=!{ cls:=.type "list",data:=.seq [].toArray })(hR:∀ h' tk N4 c',a59->h'.get? S=!{ cls:=.type "list",dict:=none,data:=.seq N4 c',slots:=[].toArray }->ItemsOf P N4 n->R yf { s with heap:=h',toks:=tk })(hn:n<=sizeLine):
  wpAny Ē A.in1 (Builtin.«list.__init__» #[[.ref S,.ref r],[]])
   a2o b2V s:=by
 show EN ?_;show EN<|HQ hS rfl (F6 ?_);show EN (wpAny_updateSeq hS rfl ?_);let hS₂:=Gh (Obj.mapSeq λ_=>[].toArray) hS rfl;let oth:∀ b o,b≠S->s.heap.get? b=!o->(s.heap.update S<|Obj.mapSeq (λ_=>([].toArray:Ò))).get? b=!o:=
  λb o hb e=>(FH _ _<|Ne.symm hb).trans e
 show EN b8y;show a6m K (K.keep _ _ JM λb hb o e=>oth b o (by rcases hb with rfl|rfl;show hSr.symm;show hSd.symm) e) S hi hSr hSd .none _ hS₂ (λh' tk N4 c' hk hS' Pa=>?_) hn;show hR h' tk N4 c' (λb o hb e=>hk b o hb<|oth b o hb e) hS' Pa
def a2l (hL:L=s.heap.objs.size)(K:mF prog w T r d OK)(hi:∀ s:Ê,OK s.heap->L≠s.heap.objs.size->∃ (oI:Obj)(St:Nat->Heap->Prop)(fp:υ),L∉fp/\(∀ (E:ρ)(Q:ρ),Q Ň { s with heap:=s.heap.push oI }->wpAny Ē A.in1.in1 (pyIter zV) Q E s)/\Walks prog w A.in1.in1 s.heap.objs.size fp a9R n P St/\St 0 (s.heap.push oI))(JM:OK s.heap)(hn:n<=sizeLine)(hQ:∀ h' tk N4 c',uZ->h'.get? s.heap.objs.size=!{ cls:=.type "list",dict:=none,data:=.seq N4 c',slots:=[].toArray }->ItemsOf P N4 n->Q Ň { s with heap:=h',toks:=tk }):
  wpAny Ē A (call Ļ [.ref r]) Q E s:=by
 show callType_codes (Q₁:=λobj s₁=>obj=.ref s.heap.objs.size/\s₁={ s with heap:=s.heap.push { cls:=.type "list",data:=.seq [].toArray } }) PySem.F.called_list (PySem.F.typeCall_list_1 _) PySem.F.entry_list_init
  (code_list_new _ #[2]) λobj s₁ h₁=>?_
 let#[2]:=h₁;let hS:(s.heap.push { cls:=.type "list",data:=.seq [].toArray }).get? s.heap.objs.size=!{ cls:=.type "list",data:=.seq [].toArray }:=Fp _ rfl;let LY:=K.there _ JM;show#[#[_,hS,1],PySem.F.args_list_init_2 _ _,c14 K (K.keep _ _ JM λb _ o e=>EV _ e) _ (hL▸hi) (Gr LY.1) (Gr LY.2) hS (λh' tk N4 c' hk hS' Pa=>?_) hn];show#[1,hQ h' tk N4 c' (λb o e=>hk b o nu<|EV _ e) hS' Pa]
universe e
def c1P (lo)(c:A.handled=none\/∃ ea,A.handled=!.ref ea/\Na s.heap ea)(x:NH s.heap d es ep)(hn:es.size<=sizeLine)(hQ:∀ h' tk N4 c',uZ->h'.get? s.heap.objs.size=!{ cls:=.type "list",dict:=none,data:=.seq N4 c',slots:=[].toArray }->ItemsOf vC N4 es.size->Q Ň { s with heap:=h',toks:=tk }):
  wpAny Ē A (call Ļ tG) Q E s:=by
 rcases c with c|⟨ea,hA,l⟩
 ·show W.kdl_call (yp lo) c x hn hQ
 ·let lt:∀ {h:Heap},NH h d es ep/\Na h ea->d<h.objs.size/\ea<h.objs.size:=fun ⟨⟨_,a,_⟩,_,_,b,_⟩=>#[Fe a,Fe b]
  let l0:=lt #[x,l];show a2l rfl #[λ_ k=>k.1.ty,λ_ k=>lt k,λ_ _ k hk=>#[k.1.to λo e=>hk d ĵ o e,k.2.at λo e=>hk ea (.inr rfl) o e],b9B,λ_ _ _ _ k hq=>W.kdl_hint_dict k.1.ty hq]
   (λs1 k ne=>#[_,_,[s1.heap.objs.size,d,ea],?_,λ_ _ hq=>opI lo k.1 hq,b1e _ (FK (lt k).1) [ea]<|by simpa using Gr (lt k).2,⟨⟨⟨_,Fp _ rfl,rfl,rfl⟩,k.1.to λo e=>EV _ e⟩,.inr #[ea,by simp,hA,k.2.at λo e=>EV _ e]⟩]) #[x,l] hn hQ
  simpa using #[ne,Gr l0.1,Gr l0.2]
section
theorem a5f (tl:TE):TI:=λσ H R=>tl σ H λv H1=>∃ x,v=.str x/\R (Its x) H1
def b2p (hl:PE X l tl)(hn:X.base.err=none:=Ą):PI X tg l (a5f tl):=by
 intro ñ s σ H R I h;show K2 b5N λv s1 J'=>?_;let#[z,u9]:=J';let#[x,1,q]:=q1;let#[t,1]:=r1;let fp:∀ (b:Addr),b∈Eh->kQ X ñ H1 b:=λb hb=>by
  let e:b=s1.heap.objs.size:=by simpa using hb
  subst e;show I1.PF XS nJ
 cases ha:x.cps.all _
 ·show wpAny_pyIter_wide ha ?_;show#[kB,a5I _ x t "str_iterator" œ (λA' hA=>Walks.strWide hA _ x t) (λA i s Q E st h=>wpAny_pyIter_striter_wide st h) hn,Ba,fp,q]
 ·show wpAny_pyIter_ascii ha ?_;show#[kB,a5I _ x t "str_ascii_iterator" œ (λA' hA=>Walks.strAscii hA _ x t) (λA i s Q E st h=>wpAny_pyIter_striter_ascii st h) hn,Ba,fp,q]
abbrev _root_.Ð:=List Bool
def b4T {bs:Ð}:(List.range bs.length).all (λi=>bs.getD i true)=bs.all id:=by
 rw[GH];simp only[Ht,FW];constructor
 ·intro h b hb;let#[Vu]:=HD hb
  simp_all
 ·intro h i hi;rw[EU,ER hi];show h _ (FZ hi)
def kJ (K)(hc)(hK)(hn:X.base.err=none:=Ą):Kc X (.builtin "all") b4W:=by
 subst hK;intro ñ s σ H xs us Q I r h;let#[p,bs,1,hq,q]:=h;let#[u,1,r1]:=dG r
 cases r1;let#[c2y]:=I.list hq;let hlen:its.length=bs.length:=by let:=rv.length;rw[EO]at this;lia
 let hpn:p≠s.heap.objs.size:=by let#[_,_,e,_]:=pl;show FK A7
 show call_all_walk ?_;show IF pl.isList ?_;show#[c0w,λi=>bs.getD i true,b9q]
 ·let hv:its[i]?=!v:=by simpa using hv
  let hi:i<bs.length:=by rw[<- hlen];show (ES.mp hv).1
  let hb:(bs.map V.bl)[i]?=!V.bl bs[i]:=by simp_all
  let#[w1,e1,r1]:=rv.get hb;rw[hv]at e1;cases e1;obtain rfl:v=Value.bool bs[i]:=r1;dsimp only at hQ;rw[EU,ER hi]at hQ;show HJ hQ
 ·let e:its.toArray.size=bs.length:=by simp[hlen]
  rw[e,b4T];show#[.bl _,H,I.kept λb o e=>hk b o w8<|EV _ e,1,q];show absurd A7 ħ
def pH (hc):Kc X Ļ (λxs H Q=>∃ d ķ,xs=tG/\Rd H d ku/\LC H (.lst Ő) Q):=by
 intro ñ s σ H xs us Q I r h;let#[d,ķ,1,hd,q]:=h;let#[g6]:=dG r
 cases rx;let#[c0q]:=sZ
 let hl:es.size=vs.length:=by rw[<- hp.length];simp
 let WV:=KV.length rel;show c1P lo a3G mf (by rw[hl,<- WV];show z) λh' tk acc c keep LX Pa=>?_;let Yj:lA Ő acc.toList:=by
  show Txt (by let h1:=Pa.1;rw[<- Array.length_toList]at h1;rw[EO,h1,hl,WV]) λj x u' hx hu=>?_;rw[F7]at hx;let#[kv,ekv,1]:=FO.mp hx;let#[q',Pj,UG]:=Paired.at rel ekv;let hj:j<es.size:=by rw[hl];show (ES.mp Pj).1
  let h1:(es[j]?).map _=!u':=Pa.2 j u' (by rw[<- Array.getElem?_toList];show hu);rw[GW hj]at h1;let h2:=(Pairs.get? hp (by rw[Array.getElem?_toList,GW hj]) Pj).1;let:=Option.some.inj h1;rw[<- this,UG.1];show lX h2
 show#[.ref s.heap.objs.size,_,I.laid keep XS<|show JR X.prog X.w _ h' _ (.lst _) from #[by rw[EO];show z,acc.toList,c,Yj,?_],1,q.at xv];simpa using LX
def b9i:Kc X Op (λxs H Q=>∃ d ķ,xs=tG/\Rd H d ku/\Q D3 H):=by
 intro ñ s σ H xs us Q I r h;let#[d,ķ,1,hd,q]:=h;let#[g6]:=dG r
 cases rx;let#[c0q]:=sZ
 let hl:es.size=ķ.length:=by rw[KV.length rel,<- hp.length];simp
 show b6F lo mf (by let:ķ.length<=2 ^ 24:=z;lia) ?_;rw[hl];show#[.int ķ.length,uW,q]
def b9W:Kc X Op (λxs H Q=>∃ d ķ,xs=tG/\H d=!.dK ķ/\Q D3 H):=b9i.imp λ_ _ _ J'=>by let#[d,ķ,e,h,q]:=J';show#[d,ķ,e,.inl h,q]
variable {C:Addr}{sp:Sp}{x m:Str}{ta:TE}
def qe (he:PE X o ta)(D:Dm X.prog X.w X.K X.mg X.base k C m ps sp)(hr)(ht:eval Ĝ X.env=(do
   let ov <- eval o X.env
   standAt apos.atName
   let (f,first) <- holding [ov] ő
   callWith pos f first (backTo pos jp) ġ):=ā):
  PE X Ĝ (pU C m sp [] E0 ta wI):=by
 let#[c1T]:=D;show b9V he cl hm F hr b .nil mV ht
def c3s (D:Dk X.prog X.w X.K X.mg X.base k x C ps sp)(hr:JW X.base (k+1) X.A)(hg:Gl X x)(NB):
  PE X b1h (yj C sp [] E0 wI):=by
 let#[tw,hm,M,b,F]:=D;show b98 M F hr hg hm b .nil mV NB
theorem Xn (Cs:Addr->Prop)(m:Str)(sp:Addr->Sp)(ta):TE:=λσ H Q=>ta σ H λx H1=>∃ a C dx fs,x=.ref a/\Cs C/\H1 a=!.ins C dx fs/\fs.lookup m=none/\sp C [x] H1 Q E0
def qg {sp:Addr->Sp}(he:PE X o ta)(D:∀ C,Cs C->Dm X.prog X.w X.K X.mg X.base k C m ps (sp C))(hr)(ht:eval Ĝ X.env=(do
   let ov <- eval o X.env
   standAt apos.atName
   let (f,first) <- holding [ov] ő
   callWith pos f first (backTo pos jp) ġ):=ā):
  PE X Ĝ (Xn Cs m sp ta):=by
 intro ñ s σ H Q I h;show W.methodCall_KW sA ht;let#[AH,C,uk,hC,ea,l,q]:=J';subst ex;obtain rfl:u=Value.ref a:=rx;let#[c1T]:=D C hC;show b3x I1 ea cl hm l ?_;show W.callWith_K0 I1.LR hm.kp (s0 (vs:=CG) F hr b .nil mV I1 Wt q)
universe e
def zM (hd:H d=!.dK ķ)(e:gR b4A H'):gR H (upd H' d ku):=λb u hb=>by
 by_cases z:b=d
 ·grind [ae]
 ·rw[a8 z];show e b u (by rw[a8 z];show hb)
structure KD (K:Ψ) (x ğ:Str) (st:Stmt) (f:Addr) (fd:È):Prop where
 ex:∃ (oc:Value)(od:ψ)(dV kV doc pm:Value)(an:ψ)(JE ct:Value)(Lm:ω),
  fd=W.fnOf x ğ E8 zu Bo dV kV doc pm an JE ct/\K.lookup f=some ⟨oc,od,.func fd,Lm⟩/\W.codeIn K JE ğ=true
 kp:W.keepIn K xI=true
def KD.okX {K:Ψ}{st:Stmt}{k:Nat}(F:KD K x ğ st f fd)(S:au N ps Bo)(len)(Mq:∀ (JE:Value)(A:Ë)(outer:List Env)(s:Ê)(H:Hp)(vs:π)(Q:VK)(E:XK),JW base k Ĕ->sp vs H Q E->
   ∃ t,N7 ĺ zu t/\t { nx:=λ_ H'=>Q .non H',rt:=Q } GE H):K6 P w K mg base xj (k+1) f fd ps sp:=by
 let#[B8,dV,ju]:=F.ex;show yX lk Qq S len λA outer s H vs Q E hr SH=>Mq JE A outer s H vs Q E hr SH
theorem Ite (K)(a:Addr):It:=
 ⟨λi H=>∃ xs x,JU K H a xs/\xs[i]?=!x,λi H v H'=>∃ T,H T=none/\v=.ref T/\∃ x,b0G/\H'=upd H T (.tup uT),λi H=>∃ xs,JU K H a xs/\xs.length<=i⟩
theorem a4h (e it a:Addr)(i)(h:Heap):Prop:=(∃ old,IsEnum h e it i old)/\h.IsListIter it a i
def a5c {P:É}{w:World}{K:Ψ}{elts:Ì}{x1:Nat}{MP:Pos} (a e it:Addr) (ne:e≠it) {er:ψ} (SM):tL er P w K Œ (Ite K a) [e,it] e (a4h e it a) where
 mem:=by simp
 obj:=λi h st c hc=>by
  let#[#[old,h1],#[o2,e2,c2,d2]]:=st
  grind
 keep:=λi h h' st k=>by let#[c2A]:=st;show#[#[old,k e Ė _ h1],h2.at λo z=>k it Ė o z]
 item:=by
  intro X hP hw hK hc i ñ s σ H E I hf st hg;subst hP hw hK;let#[xs,x,hx,ex]:=hg;let#[c2A]:=st;let#[lF]:=I.list hx;let#[w1,ew1,r1]:=rv.get ex;show wpAny_pyNext_enum_item h1 h2 p.isList (x:=w1) b5W ne λh' a1 a2 a3 a4 a5=>?_;show#[_,1,wpAny_letOwnedTupleGo_enum (s:={ s with heap:=h',toks:=s.toks+1 }) a1 λSQ b1 sb=>?_];let hT:H s.heap.objs.size=none:=I.JM.fresh<|F8 _;let Wc:∀ c∈[e,it],c≠s.heap.objs.size:=λc hc z=>by
   let:∃ o,s.heap.get? c=!o:=by
    simp only[Fw,Gd,IG]at hc;let#[o2,e2,_]:=h2;rcases hc with rfl|rfl
    ·show#[_,h1]
    ·show#[_,e2]
   let#[o,q]:=this;show absurd (Fe q) (by rw[z];show GS _)
  let kk:∀ c o,c∉[e,it]->s.heap.get? c=!o->SQ.get? c=!o:=λc o hc z=>by simp only[Fw,Gd,IG,not_or]at hc;show sb.extBut _ _ hc.1 (a5 c o hc.1 hc.2 z)
  let I1:Inv X ñ σ H { s with heap:=SQ,toks:=s.toks+1 }:=I.Oc (t':=s.toks+1) (ch:=[e,it]) hf kk;let I2:Inv X ñ σ (upd H s.heap.objs.size<|.tup uT) { s with heap:=SQ,toks:=s.toks+1 }:=by show I1.Uc zj I.sz #[by change 2<=sizeLine;decide,[.int i s.toks,w1],.cons #[_,1]<|.cons r1 .nil,?_];show#[_,sb.extBut _ _ (Ne.symm<|Wc e Ė) a3,BS]
  show#[zG,I2,1,#[_,hT,1,x,λxs' RU=>by rw[I.N0 RU hx];show ex,1],#[#[w1,?_],?_],λc hc=>?_]
  ·simpa using b1
  ·show a2.extBut sb.extBut (Ne.symm ne)
  ·rw[a8<|Wc c hc];show (hf c hc).1
 done:=by
  intro X hP hw hK hc i ñ s σ H E I hf st hg;subst hP hw hK;let#[xs,hx,hl]:=hg;let#[c2A]:=st;let#[lF]:=I.list hx;let l1:=rv.length;show wpAny_pyNext_enum_end (I.MX hc.1<|hc.2.trans SM) h1 h2 p.isList (by simp;lia) λh' kk=>#[1,I.Oc (t':=s.toks) (ch:=[e,it]) hf λc o hc z=>?_]
  simp only[Fw,Gd,IG,not_or]at hc;show kk c o hc.2 z
 self:=λ_ _ _ _ _ st h=>wpAny_pyIter_enum st.1.choose_spec h
def a6H:bootBuiltins "enumerate"=!.type "enumerate":=by decide +kernel
theorem a1r (K)(ta:TA):TI:=λσ H R=>ta σ H λvs H1=>∃ a xs,vs=CG/\H1 a=!.lst xs/\R (Ite K a) H1
def su (K){x1:Nat}(hg:Gl X "enumerate")(hm:X.mg "enumerate"=none)(ha:PA X [e1] ta)(hK)(hs:starEach [e1] X.env=[a90]:=ā)(hn:X.base.err=none:=Ą):PI X Œ (.Call b41 [e1] [] pos) (a1r K ta):=by
 subst hK;intro ñ s σ H R I h;show Call_<|gh I hg hm a6H (GK (K2 (ha pos ñ s σ H _ I h) λus s1 J'=>?_) hs rfl);let#[vs,u9]:=J';let#[a,xs,1,hx,q]:=q1;let#[u,1,ru]:=dG r1
 cases ru;let#[its,n,rv,ho,hz]:=I1.lst hx;show call_enumerate_1 ho λh' a1 a2 a3 a4=>wpAny_pyIter_enum a1 ?_;let I2:Inv X ñ σ H1 { s1 with heap:=h' }:=I1.kept a4;show#[_,[s1.heap.objs.size+1,s1.heap.objs.size],_,_,H1,1,I2,a5c a _ _ (Gr<|GJ _) hn,⟨⟨_,a1⟩,a2⟩,λc hc=>?_,q];let le:@LE.le Nat _ s1.heap.objs.size c:=by
  simp only[Fw,Gd,IG]at hc;rcases hc with rfl|rfl
  ·show Nat.le_succ _
  ·show F8 _
 show I1.PF le b8B
def c0d {K:Φ}{tb:TS}{D:d8}(Pv)(h0)(hl:∀ i σ H,i<=xs.length->Pv i σ H->JU K H a xs)(hs:∀ (i:Nat)(x:V)(T:Addr) σ H,xs[i]?=!x->Pv i σ H->H T=none->tb { D with nx:=Pv (i+1),ct:=Pv (i+1),bk:=D.nx } ((σ.set i1 !.int i).set i2 !x) (upd H T (.tup uT)))(hd:∀ σ H,Pv xs.length σ H->D.nx σ H):
  ∃ W:Nat->Nat->Υ,Ce/\∀ i m σ H,W i m σ H->
   ((Ite K a).stop i H/\D.nx σ H)\/((Ite K a).go i H/\∃ N:Υ,Ġ/\∀ x H',(Ite K a).V' i H x H'->Av K 2 (yV (bM i1) (yV (bM i2) YH)) x σ H' λσ2 H2=>tb { D with nx:=N,ct:=N,bk:=D.nx } σ2 H2):=by
 show#[b95];rintro i m σ H ⟨rfl,hi,p⟩;let q:=hl i σ H hi p;by_cases LY:i<xs.length
 ·show .inr #[WB,Pv<|i+1,λσ' H' p'=>b0t,λv H' y=>?_];let#[T,hT,1,x,ex,1]:=y;show#[T,uT,1,M0.of ae,1,_,[x],1,_,[],2,hs i x T σ H (ex xs q) p hT]
 ·let e:i=xs.length:=#[]
  subst e;show .inl b2S
theorem isA:Hp->V->Dx->Prop:=λ_ x k=>x=kV k
def yZ (k:Dx):dY p7=true:=by cases k <;> rfl
def b9C (a b:Dx):VP (kV a) (kV b)=decide (a=b):=by
 cases a with
 | inl a=>cases b with
  | inl b=>change (a==b)=_;rw[GH];simp
  | inr b=>show (F5 λz=>nomatch z).symm
 | inr a=>cases b with
  | inl b=>show (F5 λz=>nomatch z).symm
  | inr b=>change (a==b)=_;rw[GH];simp
def c0o {K:Ψ}:U7 K isA 0 where
 eq:=by
  intro X A ñ s σ H x y v u a b _ I rx ry ha hb _
  cases ha
  cases hb;rw[<- b9C];show b17 rx ry (yZ a) (yZ b)
 fn:=by intro X ñ s σ H x a b _ I ha hb;rw[ha]at hb;show a5W hb
theorem Dmd (P)(w)(K)(mg)(base)(k:Nat)(C)(m:Str)(ps)(dvs:π)(sp):Prop:=
 ∃ f fd ds,Nr K C/\yb K C m f/\MN K fd ps ds/\lA dvs ds/\K6 P w K mg base Ld k f fd ps sp
def KD.ok {K:Ψ}{st:Stmt}{k:Nat}(F:KD K x ğ st f fd)(S:au N ps Bo)(len)(Mq:∀ (JE:Value)(A:Ë)(outer:List Env)(s:Ê)(H:Hp)(vs:π)(Q:VK)(E:XK),JW base k Ĕ->sp vs H Q E->
   ∃ t,N7 (dZ Ld P w K mg base N ğ Bo f JE A outer s H E).RO zu t/\t { nx:=λ_ H'=>Q .non H',rt:=Q } GE H):K6 P w K mg base Ld (k+1) f fd ps sp:=by
 let#[B8,dV,ju]:=F.ex;show yX lk Qq S len λA outer s H vs Q E hr SH=>?_;let#[t,h,q]:=Mq JE A outer s H vs Q E hr SH;show#[t,h.RO,q]
def BF (he:PE X o ta)(D:Dmd X.prog X.w X.K X.mg X.base k C m ps dvs sp)(hr)(ha:PA X sQ t)(QG)(LW)(ht:eval oy X.env=(do
   let ov <- eval o X.env
   standAt apos.atName
   let (f,first) <- holding [ov] ő
   callWith pos f first (backTo pos ű) ġ):=ā):
  PE X oy (pU C m sp dvs E0 ta t):=by
 let#[tw,ds,cl,hm,b,hd,F]:=D;show b7g he cl hm F hr b hd mV ha QG LW ht
def Nz (a:sc.kind=.function:=ā)(b:sc.isCoroutine=false:=ā)(c:sc.isGenerator=false:=ā)(d:N.Nodup:=ą)(e:N.take P.length=P:=ā)(f:∀ x∈P,sc.names.lookup x=!.local\/sc.names.lookup x=!.cell:=ą)(g:∀ y∈sc.names,y.2≠.free:=ą):au N P sc:=#[sH,d,e,f,g]
def JW.m (r:JW base k A)(h:j<=k:=ö):JW base j A:=r.mono h
section
def pS (i)(hN)(he:PE X e te)(hi:X.N[i]?=!x:=ā)(hx:v6 X.env.scope x:=Ć)(hs:swapsWith e tM pos.line X.env=pure false:=ā)(hf):
  PS X NE vi:=a9U hN hi hx he hs hf
def pN (i)(hN)(hi:X.N[i]?=!x:=ā)(hx:v6 X.env.scope x:=Ć)(hf):PG X Ÿ Ej:=a2w hN hi hx hf
def pC (i)(hN:N'.Nodup:=ą)(hi:N'[i]?=!x:=ā)(hx:v6 (aE X scope N' cells C s H fp).env.scope x:=Ć)(hf:(aE X scope N' cells C s H fp).fn x=true\/(aE X scope N' cells C s H fp).env.scope.names.lookup x=!.local:=ß):PG ĕ Ÿ Ej:=a2w hN hi hx hf
def cS (nT)(js)(N':η)(h:b0n X.env.scope X.N scope nT js N'=true:=ć):bA X scope nT js N':=a3I rfl rfl h
variable {tb:TE}
def pI (hr:SU X r)(ha:PE X a ta)(hb:PE X b tb)(hs:jT b:=Ĉ):PE X Bn Cw:=Wx hr ha hb hs
def pD (hu)(ho:PE X o td)(hi:PE X i ty)(hs:Zf i:=Ĉ):PE X b5Z (Wi td ty):=c15 hu ho hi hs
def pM (ho)(ha:PE X a ta)(hb:PE X b tb)(hm):PE X Ū Cw:=yD ho ha hb hm
def pT (ho)(ha:PE X a ta)(hb:PE X b tb)(hm):PT X Ū (Bc Cw):=yv ho ha hb hm
universe e
section
variable {K:Ψ}
def Nc.k {st:Stmt}{k:Nat}(F:Nc K x ğ st f fd)(S:au N ps Bo)(Mq:∀ (JE:Value)(A:Ë)(outer:List Env)(s:Ê)(H:Hp)(vs:π)(Q:VK)(E:XK),JW base k Ĕ->sp vs H Q E->
   ∃ t,N7 (dZ Ld P w K mg base N ğ Bo f JE A outer s H E).RO zu t/\t { nx:=λ_ H'=>Q .non H',rt:=Q } GE H)(len:∀ vs H Q E,sp vs H Q E->vs.length=ps.length:=Ċ):K6 P w K mg base Ld (k+1) f fd ps sp:=F.ok S len Mq
def KD.k {st:Stmt}{k:Nat}(F:KD K x ğ st f fd)(S:au N ps Bo)(Mq:∀ (JE:Value)(A:Ë)(outer:List Env)(s:Ê)(H:Hp)(vs:π)(Q:VK)(E:XK),JW base k Ĕ->sp vs H Q E->
   ∃ t,N7 (dZ Ld P w K mg base N ğ Bo f JE A outer s H E).RO zu t/\t { nx:=λ_ H'=>Q .non H',rt:=Q } GE H)(len:∀ vs H Q E,sp vs H Q E->vs.length=ps.length:=Ċ):K6 P w K mg base Ld (k+1) f fd ps sp:=KD.ok F S len Mq
universe e
universe L2
namespace K72
open PySem L2
open PyProof.Rows (boot_all boot_bool boot_dict boot_int boot_list boot_str boot_tuple)
abbrev _root_.Ü:List Str:=["self","name"]
abbrev _root_.Ý:List Str:=["self"]
abbrev _root_.Þ:List Str:=[c1H,"fallen"]
abbrev _root_.à:List Str:=[c1u]
abbrev _root_.á:List Str:=[c2Z]
abbrev _root_.â:List Str:=["net","listener","many","fallen"]
abbrev _root_.ã:List Str:=["self","fallen","name","numbers"]
abbrev _root_.ä:List Str:=["self","number"]
abbrev _root_.å:List Str:=["self","one","other"]
abbrev _root_.æ:List Str:=[c12,"_law_plan",c13,"_law_fallen"]
abbrev _root_.è:List Str:=[zK,"chosen"]
abbrev _root_.é:List Str:=[c1v,"_law_fallen","_law_name","_law_numbers"]
abbrev _root_.ë:List Str:=["__module__","__name__","__qualname__","__doc__","__annotations__"]
abbrev _root_.ì:List Str:=["field","table","many"]
abbrev _root_.í:List Str:=["self","prime"]
abbrev _root_.î:List Str:=["self",b9r]
abbrev _root_.ï:List Str:=[zK,c0x]
abbrev _root_.ò:List Str:=[zK,c0y]
abbrev _root_.ó:List Str:=["_law_table","_law_rows_here",c13]
abbrev _root_.ô:List Str:=[c1H,"falls"]
abbrev _root_.õ:List Str:=["_law_script","_law_k"]
abbrev _root_.ø:List Str:=["field","one","other"]
abbrev _root_.ù:List Str:=["self",c2c]
abbrev _root_.ú:List Str:=["self","post"]
abbrev _root_.û:List Str:=[c1U]
abbrev _root_.ü:List Str:=["number"]
abbrev _root_.ý:List Str:=["self","needed"]
abbrev _root_.þ:List Str:=["_law_ties","_law_name"]
abbrev _root_.ÿ:List Str:=["net","falls"]
theorem top (i):Stmt:=PySem.Challenge.pw_mixposts_k93_whole_plans_that_stand_fall.main.body.getD i b4Y
inductive Kd where
 |house|listener|post
deriving DecidableEq
structure Cl where
 Kq:Addr
 post:Addr
 house:Addr
 NA:Addr
theorem Cl.of (c:Cl):Kd->Addr
 | .house=>c.house
 | .listener=>c.NA
 | .post=>c.post
structure Cl.Ok (K:Ψ) (c:Cl):Prop where
 cn:Nr K c.Kq
 cp:Nr K c.post
 ch:Nr K c.house
 cl:Nr K c.NA
 fp:Ka K c.Kq "kept_posts"
 ft:Ka K c.Kq "kept_ties"
 fn:Ka K c.Kq "next_number"
 np:Ka K c.post "name"
 nh:Ka K c.house "name"
 nl:Ka K c.NA "name"
 ph:c.post≠c.house
 pl:c.post≠c.NA
 hl:c.house≠c.NA
theorem ji (c:Cl)(C):Prop:=∃ k,C=c.of k
def Cl.Ok.cls (o:Cl.Ok K c):∀ k,Nr K p9
 | .house=>o.ch
 | .listener=>o.cl
 | .post=>o.cp
def Cl.Ok.XY (o:Cl.Ok K c):∀ k,Ka K p9 "name"
 | .house=>o.nh
 | .listener=>o.nl
 | .post=>o.np
abbrev Kl:=Int×Str×Str×Int
structure NS where
 JD:List (Str×Kd)
 Jy:List Kl
 next:Int
theorem L7 (c:Cl)(H)(v)(p:Str×Kd):Prop:=∃ a dx,v=.ref a/\H a=!.ins (c.of p.2) dx [("name",.str p.1)]
theorem Mr (H)(v)(t:Kl):Prop:=∃ a,v=.ref a/\H a=!.tup a6b
structure Kt (c:Cl) (H:Hp) (n dp dt:Addr) (S:NS):Prop where
 ins:∃ dx,H n=!.ins c.Kq dx [b4B,b42,("next_number",.int S.next)]
 JD:∃ ķ,H dp=!.dK ķ/\Paired a5p ķ S.JD
 Jy:∃ ķ,H dt=!.dK ķ/\Paired (λ(kv:Dx×V) (t:Kl)=>kv.1=Sum.inl t.1/\Mr H kv.2 t) ķ S.Jy
 ne:dp≠dt
def L7.mono (e)(h:L7 c H v p):L7 c H' v p:=let ⟨a,dx,q1,q2⟩:=h;#[a,dx,vg]
def Mr.mono (e)(h:Mr H v t):Mr H' v t:=let ⟨a,q1,q2⟩:=h;#[a,vg]
def Kt.mono (e)(h:Kt c H n dp dt S):Kt c H' n dp dt S:=by let#[b9Z,h4]:=h;show#[#[dx,e _ _ h1],#[kp,e _ _ h2,Paired.Lx p2 λ_ _ J'=>(by let#[a,b]:=J';show#[a,b.mono e])],#[kt,e _ _ h3,Paired.Lx p3 λ_ _ J'=>(by let#[a,b]:=J';show#[a,b.mono e])],h4]
theorem AY:Str:="abcdefghijklmnopqrstuvwxyz"
theorem yN (x):Bool:=not (Builtin.Str.occurrences AY x 0 AY.length 1).isEmpty
theorem gi (x):Bool:=decide (1<=x.length)&&decide (x.length<=8)&&(List.range x.cps.size).all λi=>yN (sgn x i)
structure jO (mg:Ω):Prop where
 JX:mg "len"=none
 Lw:mg "isinstance"=none
 a1a:mg "str"=none
 Ut:mg "all"=none
 NO:mg "list"=none
structure EK (mg:Ω):Prop where
 let_:∃ t,mg "LETTERS"=!.str AY t
 lon:∃ t,mg "LONGEST_NAME"=!.int 8 t
 mop:∃ t,mg "MOST_POSTS"=!.int 20 t
 mol:∃ t,mg "MOST_LISTENERS"=!.int 8 t
structure Z6 (K:Ψ):Prop where
 ss:W.kitOne K lB lB=!true
def a6U (g:Nat->V)(hz:x.cps.size<=1000)(hs:∀ i H2,i<x.cps.size->gR H H2->te (some (.str (sgn x i))::a2F σ js) H2 λv H5=>v=g i/\gR H2 H5)(hd:∀ l H',H l=none->gR H H'->H' l=!.lst ((List.range x.cps.size).map g)->F l H'):gu 1 js (bM 0) wH te σ F (Its x) H:=by
 intro l Zu;show#[λi m σ' H2=>m=x.cps.size - i/\i<=x.cps.size/\(∃ o,σ'=o::a2F σ js)/\gR H H2/\H2 l=!(.lst<|(List.range i).map g),#[x.cps.size,c0G,aO ė Zu,ae],?_];rintro i m σ' H2 ⟨rfl,hi,⟨o,rfl⟩,e,hl⟩;by_cases LY:i<x.cps.size
 ·show .inr #[LY,λv H3 y=>?_];let#[2]:=y;show#[λ_=>False,λv H5=>v=g i/\gR H3 H5,λH4 p4=>p4.elim,λv H5 J'=>?_,hs i H3 LY e];let#[ev,e5]:=J';subst ev;show#[_,e5 _ _ hl,by simp only[EO,G9];show FN LY<|Fs hz œ,_,?_,1,LY,#[_,1],aY (e.trans e5) Zu,?_]
  ·lia
  ·rw[ae,List.range_succ,EX];rfl
 ·let ei:i=x.cps.size:=#[]
  subst ei;show .inl #[1,hd l H2 Zu e hl]
inductive c0R (vs:π) (H:Hp) (Q:VK) (E:XK):Prop
 |mk (x:Str):vs=[.str x]->x.length<=1000->(∀ H',gR H H'->Q (.bl (gi x)) H')->c0R vs H Q E
abbrev ia:Stmt:=top 27
def a2u:au Xe Xe (aa ia):=Nz
def wY (F:Nc K "is_name" "is_name" ia f fd)(T:jO mg)(TG:EK mg)(TK:Z6 K)(hn:base.err=none):K6 P w K mg base Ld 1 f fd Xe c0R:=by
 let#[tl,RX]:=TG.let_;let#[tn,P']:=TG.lon;show F.k a2u λJE A outer s H vs Q E hr h=>?_
 ·let#[x,1,hx,q]:=h;show#[_,(ai (gy (sj<|cC (bQ (Ei K) rfl T.Lw c9<|a9 A3 (a9 (lU (v:=.ty "str") rfl T.a1a boot_str rfl) Jx)))
  (aq<|bB qh)
  KH)
 (aq (bB (sv (mU qi qi b8 (bQ b0R rfl T.JX boot_len<|a9 A3 Jx)<|g9 (v:=.int 8) rfl P' #[_,1]) (kg (bQ (kJ K rfl) rfl T.Ut boot_all (a9 (eQ rfl (cS 1 [] ["sign"]) (b2p<|pv 0)
  ē
  DW
  (λ_ _ _ _ _=>pM a3E A3 (g9 (v:=.str AY) rfl RX #[_,1])<|by with_unfolding_all rfl)) Jx))))))),?_]
  let hxs:x.cps.size=x.length:=rfl;show#[_,1,.str x,Cg,1,.str x,TK.ss,_,1,xB ?_];let qb:gi x=(decide (1<=x.length)&&decide (x.length<=8)&&((List.range x.cps.size).map λi=>yN<|sgn x i).all id):=by rw[List.all_map];rfl
  show#[_,1,x,1,Fs hx<|by decide,?_];show⟨_,_,rfl,rfl,_,rfl,lJ (λh1=>?_) (λh1=>?_)⟩
  ·let h1:1<=x.length:=by let:=Fv h1;lia
   show#[ni,1,lJ (λh2=>?_) (λh2=>?_)]
   ·let h2:x.length<=8:=by let:=Fv h2;lia
    show#[_,1,x,1,a6U (λi=>.bl<|yN (sgn x i)) #[] (λi H2 hi e=>#[_,1,_,AY,3,gR.refl _]) (λl H' Zu e hl=>?_)];show#[l,(List.range x.cps.size).map λi=>yN<|sgn x i,1,JU.of (by rw[EZ];show hl),?_];let:=q H' e;rw[qb,EY h1,EY h2]at this;show this
   ·let h2:¬ x.length<=8:=λz=>h2<|EY #[];let:=q H ė
    simp_all
  ·let h1:¬ 1<=x.length:=λz=>h1<|EY #[];let:=q H<|gR.refl _;rw[qb,F5 h1,Bool.false_and,Bool.false_and]at this;show#[_,1,xB this]
theorem gM (b:V):Sp:=λvs H Q _=>∃ v,vs=[v]/\Q b H
abbrev dg:Stmt:=ao (top 32) 3
def b15:au Ý Ý (aa dg):=Nz
def iI (F:Nc K "reads" "Post.reads" dg f fd):K6 P w K mg base Ld 1 f fd Ý (gM PP):=by
 show F.k b15 λJE A outer s H vs Q E hr h=>?_
 ·let#[v,1,q]:=h;show#[_,aq<|bB qh,q]
abbrev b9j:Stmt:=ao (top 34) 1
def a9T:au Ý Ý (aa b9j):=Nz
def jx (F:Nc K "reads" "Listener.reads" b9j f fd):K6 P w K mg base Ld 1 f fd Ý (gM Ţ):=by
 show F.k a9T λJE A outer s H vs Q E hr h=>?_
 ·let#[v,1,q]:=h;show#[_,aq<|bB qh,q]
abbrev dh:Stmt:=ao (top 32) 4
def b86:au Ý Ý (aa dh):=Nz
def iJ (F:Nc K "hears" "Post.hears" dh f fd):K6 P w K mg base Ld 1 f fd Ý (gM Ţ):=by
 show F.k b86 λJE A outer s H vs Q E hr h=>?_
 ·let#[v,1,q]:=h;show#[_,aq<|bB qh,q]
abbrev b9F:Stmt:=ao (top 33) 1
def a27:au Ý Ý (aa b9F):=Nz
def nC (F:Nc K "hears" "House.hears" b9F f fd):K6 P w K mg base Ld 1 f fd Ý (gM PP):=by
 show F.k a27 λJE A outer s H vs Q E hr h=>?_
 ·let#[v,1,q]:=h;show#[_,aq<|bB qh,q]
theorem rdB:Kd->Bool
 | .listener=>true
 | _=>false
theorem SJ:Kd->Bool
 | .house=>false
 | _=>true
def gT (O:Cl.Ok K c):∀ k,decide (c.of k=c.NA)=rdB k
 | .listener=>EY rfl
 | .house=>F5 O.hl
 | .post=>F5 O.pl
def gZ (O:Cl.Ok K c):∀ k,(not (decide (c.of k=c.house)))=SJ k
 | .house=>by rw[show decide (c.of .house=c.house)=true from EY rfl];rfl
 | .listener=>by rw[show decide (c.of .listener=c.house)=false from F5 O.hl.symm];rfl
 | .post=>by rw[show decide (c.of .post=c.house)=false from F5 O.ph];rfl
inductive gL (c:Cl)  (vs:π) (H:Hp) (Q:VK) (E:XK):Prop
 |mk (x:Addr) (k:Kd) (dx:Addr) (n:Str):vs=[.ref x,.str n]->H x=!.ins p9 dx []->Q .non (upd H x (.ins p9 dx [("name",.str n)]))->gL c vs H Q E
abbrev bD:Stmt:=ao (top 32) 0
def b9x:au Ü Ü (aa bD):=Nz
def a9Y (F:Nc K "__init__" "Post.__init__" bD f fd)(O:Cl.Ok K c):K6 P w K mg base Ld 1 f fd Ü (gL c):=by
 show F.k b9x λJE A outer s H vs Q E hr h=>?_
 ·let#[x,k,dx,n,1,hx,q]:=h;show#[_,aq<|g8 A3 iU rfl,?_];show#[Ch,x,c.of k,Ep,hx,O.cls k,O.XY k,by decide,q]
inductive mD (c:Cl)  (vs:π) (H:Hp) (Q:VK) (E:XK):Prop
 |mk (x dx:Addr):vs=[.ref x]->H x=!.ins c.Kq dx []->(∀ d1 d2 H',H d1=none->H d2=none->d1≠d2->(∀ a o,a≠x->H a=!o->H' a=!o) ->
 H' x=!.ins c.Kq dx [("kept_posts",.ref d1),("kept_ties",.ref d2),("next_number",.int 0)]->H' d1=!.dK []->H' d2=!.dK []->Q .non H')->mD c vs H Q E
abbrev b3K:Stmt:=ao lK 0
def b5g:au Ý Ý (aa b3K):=Nz
def b9Q (F:Nc K "__init__" "Net.__init__" b3K f fd)(O:Cl.Ok K c):K6 P w K mg base Ld 1 f fd Ý (mD c):=by
 show F.k b5g λJE A outer s H vs Q E hr h=>?_
 ·let#[x,dx,1,hx,q]:=h;show#[_,(ai (g8 A3 Ol rfl)
 (ai (g8 A3 Ol rfl)
 (aq<|g8 A3 b8 rfl))),?_]
  intro d1 h1;let n1:=ak hx h1;show#[_,1,x,c.Kq,dx,_,1,by rw[a8 n1];show hx,O.cn,O.fp,by decide,?_];intro d2 h2;let n2:=ak ae h2;let n3:=ak (by rw[a8 n1.symm];show ae) h2;show#[_,1,x,c.Kq,dx,_,1,by rw[a8 n2];show ae,O.cn,O.ft,(by change 1<1000;decide),?_];show#[_,1,x,c.Kq,Ep,ae,O.cn,O.fn,(by change 2<1000;decide),?_];let YG:H d2=none:=by rw[a8 n2.symm,a8 n3.symm]at h2;show h2
  show q d1 d2 _ h1 YG n3 (λa o na ha=>?_) ae ?_ ?_
  ·rw[a8 na,a8 na,a8<|ak ha YG,a8 na,a8<|ak ha h1];show ha
  ·rw[a8 n1.symm,a8 n1.symm,a8 n3,a8 n1.symm];show ae
  ·rw[a8 n2.symm,a8 n2.symm];show ae
universe K72
namespace Mx
theorem dot:List Int->List Int->Int
 | a::x,b::y=>a * b+dot x y
 | _,_=>0
theorem fQ (p):Int->List (Int×Int)->Int
 | t,[]=>t
 | t,(a,b)::r=>fQ p b6u r
theorem JN (p)(x y:Ξ):Int:=fQ p 0 (x.zip y)
def a2I (p):∀ (x y:Ξ)(t:Int),t % p=t->fQ p t (x.zip y)=(t+dot x y) % p
 | [],_,t,h=>by simp[fQ,dot,h]
 | _::_,[],t,h=>by simp[fQ,dot,h]
 | a::x,b::y,t,_=>by change fQ p b6u (x.zip y)=_;rw[a2I p x y _<|Int.emod_emod_of_dvd _ (Int.dvd_refl _)];simp[dot,Int.emod_add_emod,Int.add_assoc,Int.add_comm]
def K3 (p)(x y:Ξ):JN p x y=dot x y % p:=by unfold JN;rw[a2I p x y 0<|by simp,Jn]
def KC:∀ (x y:Ξ),dot x y=dot y x
 | [],[]=>rfl
 | [],_::_=>rfl
 | _::_,[]=>rfl
 | a::x,b::y=>by change a * b+dot x y=b * a+dot y x;rw[Jo,KC x y]
def a4K (p):∀ (x y:Ξ),dot (x.map zP) y % p=dot x y % p
 | [],_=>by simp[dot]
 | _::_,[]=>by simp[dot]
 | a::x,b::y=>by change (a % p * b+dot (x.map zP) y) % p=(a * b+dot x y) % p;rw[Int.add_emod,a4K p x y,Int.mul_emod,Int.emod_emod_of_dvd _<|Int.dvd_refl _,<- Int.mul_emod,<- Int.add_emod]
def a1M (p)(x y:Ξ):dot x (y.map zP) % p=dot x y % p:=by rw[KC,a4K,KC]
theorem AT (x y:Ξ):Ξ:=List.zipWith (·+·) x y
def b1g:∀ (x y v:Ξ),x.length=y.length->dot (AT x y) v=dot x v+dot y v
 | [],[],v,_=>by simp[AT,dot]
 | a::x,b::y,[],_=>by simp[AT,dot]
 | a::x,b::y,c::v,h=>by
  let:=b1g x y v SC;change (a+b) * c+dot (AT x y) v=(a * c+dot x v)+(b * c+dot y v)
  rw[this,Int.add_mul]
  lia
def b0N (k:Int):∀ (x v:Ξ),dot b8C v=k * dot x v
 | [],v=>by simp[dot]
 | a::x,[]=>by simp[dot]
 | a::x,c::v=>by
  change a * k * c+dot b8C v=k * (a * c+dot x v)
  rw[b0N k x v,Int.mul_add,Jo a k,Int.mul_assoc]
abbrev _root_.Θ:=List Ξ
theorem col (t:Θ)(j):Ξ:=t.map λr=>r.getD j 0
theorem cols (t:Θ)(w:Nat):Θ:=(List.range w).map (col t)
theorem mO (t:Θ)(w:Nat)(r:Ξ):Ξ:=(cols t w).map λc=>dot c r
theorem Dy (t:Θ)(v:Ξ):Ξ:=t.map λr=>dot r v
def a6q (t:Θ)(w:Nat)(r:Ξ):(mO t w r).length=w:=by simp[mO,cols]
def LH:∀ (b:Ξ)(w:Nat),b.length=w->(List.range w).map (λj=>b.getD j 0)=b:=by
 intro b w h;subst h;apply List.ext_getElem
 ·simp
 ·intro i h1 h2
  simp_all
def b5s:∀ (t:Θ)(w:Nat)(r v:Ξ),(∀ b∈t,b.length=w)->v.length=w->r.length=t.length->dot (mO t w r) v=dot r (Dy t v)
 | [],w,r,v,_,_,hr=>by
  let:r=[]:=IC.mp (by simpa using hr);subst this;let e:mO [] w []=(List.range w).map λ_=>0:=by simp[mO,cols,col,dot]
  rw[e];let z:∀ (n:À)(v:Ξ),dot (n.map λ_=>(0:Int)) v=0:=by
   intro n
   induction n with
   | nil=>intro v;simp[dot]
   | cons a n ih=>
    intro v
    cases v with
    | nil=>simp[dot]
    | cons c v=>change 0 * c+dot _ v=0;rw[ih v];lia
  rw[z];simp[dot]
 | b::t,w,[],v,_,_,hr=>by simp at hr
 | b::t,w,a::r,v,hb,hv,hr=>by
  let ih:=b5s t w r v (λc hc=>hb c<|Ft _ hc) hv (by simpa using hr);let e:mO (b::t) w (a::r)=AT (b.map (· * a)) (mO t w r):=by unfold mO cols col AT;rw[EZ,EZ];let P2:b=(List.range w).map (λj=>b.getD j 0):=(LH b w<|hb b Fy).symm;rw[show b.map (· * a)=((List.range w).map λj=>b.getD j 0).map (· * a) by rw[<- P2]];rw[EZ,List.zipWith_map];simp[List.zipWith_self,FA,dot]
  rw[e,b1g _ _ _ (by rw[EO,a6q];show hb b Fy),b0N,ih];change a * dot b v+dot r (Dy t v)=a * dot b v+dot r (Dy t v);rfl
theorem Ky (p)(t:Θ)(v:Ξ):Ξ:=t.map λr=>JN p r v
def b92 (p)(b:Θ)(w:Nat)(r:Ξ):Ky p (cols b w) r=(mO b w r).map zP:=by unfold Ky mO;rw[EZ];apply FA;intro c _;simp[K3]
theorem Jz (n i:Nat):Ξ:=(List.range n).map λj=>if j=i then 1 else 0
theorem ones (n):Θ:=(List.range n).map (Jz n)
def a9r:∀ (n i s:Nat)(r:Ξ),r.length=n->dot ((List.range' s n).map λj=>if j=s+i then (1:Int) else 0) r=r.getD i 0
 | 0,i,s,r,h=>by
  simp_all [IC,dot]
 | n+1,i,s,[],h=>by simp at h
 | n+1,0,s,a::r,h=>by
  rw[List.range'_succ];change (if s=s+0 then (1:Int) else 0) * a+dot _ r=a;rw[if_pos<|by lia];let z:∀ (m t:Nat)(v:Ξ),s<t->dot ((List.range' t m).map λj=>if j=s+0 then (1:Int) else 0) v=0:=by
   intro m
   induction m with
   | zero=>intro t v _;simp[dot]
   | succ m ih=>
    intro t v ht;rw[List.range'_succ]
    cases v with
    | nil=>simp[dot]
    | cons c v=>
     change (if t=s+0 then (1:Int) else 0) * c+dot _ v=0;rw[if_neg<|by lia,ih (t+1) v<|by lia];lia
  simp_all
 | n+1,i+1,s,a::r,h=>by rw[List.range'_succ];change (if s=s+(i+1) then (1:Int) else 0) * a+dot _ r=_;rw[if_neg<|by lia];let:=a9r n i (s+1) r (by simpa using h);rw[show (λj=>if j=s+(i+1) then (1:Int) else 0)=λj=>if j=s+1+i then (1:Int) else 0 by funext j;rw[show s+(i+1)=s+1+i by lia]];rw[this];simp
def KA (n i:Nat)(r:Ξ)(h:r.length=n):dot (Jz n i) r=r.getD i 0:=by let:=a9r n i 0 r h;unfold Jz;rw[List.range_eq_range'];simpa using this
def UW (n j:Nat)(hj:j<n):col (ones n) j=Jz n j:=by
 unfold col ones Jz;rw[EZ];apply FA;intro i hi;simp[hj];by_cases h:j=i
 ·subst h;simp
 ·simp[h,Ne.symm h]
def R7 {r:Ξ}(h:∀ x∈r,0<=x/\x<p):r.map zP=r:=by
 let:=FA λx hx=>GO (h x hx).1 (h x hx).2
 simp_all
abbrev e (r:Ξ)(j:Nat):Int:=r.getD j 0
theorem Lk (p)(r:Ξ):Prop:=∀ x∈r,0<=x/\x<p
def Lk.at (hp:0<p)(h:Lk p r)(j):0<=e r j/\e r j<p:=by
 unfold e;rw[EU]
 cases hj:r[j]? with
 | none=>show#[Int.le_refl _,hp]
 | some x=>show h x (ET hj)
theorem scaled (p)(r:Ξ)(k:Int):Ξ:=r.map λx=>k * x % p
theorem without (p)(r lead:Ξ)(q:Nat):Ξ:=if e r q=0 then r else List.zipWith (λm t=>(m - e r q * t % p) % p) r lead
theorem Kx (ř:Θ)(start q:Nat):Option Nat:=(List.range' start (ř.length - start)).find? λa=>decide (e Ĩ q≠0)
theorem cleared (p)(bk)(ř:Θ)(start a q:Nat):Θ:=
 let lead:=scaled p Ĩ Y2
 let others:=(ř.take a++ř.drop (a+1)).map λr=>without p r lead q
 others.take start++[lead]++others.drop start
theorem step (p)(bk)(st:List (Ξ)×Nat)(q:Nat):List (Ξ)×Nat:=
 match Kx st.1 st.2 q with
 | none=>st
 | some a=>(cleared p bk st.1 st.2 a q,st.2+1)
theorem run (p)(bk)(ř:Θ)(k:Nat):List (Ξ)×Nat:=(List.range k).foldl (step p bk) (ř,0)
def Oh (p)(bk)(ř:Θ)(k:Nat):run p bk ř (k+1)=step p bk (run p bk ř k) k:=by unfold run;rw[List.range_succ,Ju];rfl
def TIp (j):e cT j=k * e r j % p:=by
 unfold e scaled;rw[EU,EU,F7]
 cases r[j]? with
 | none=>simp
 | some x=>simp
def a14 (hp:0<p)(hr:Lk p r)(hl:lead.length=r.length)(j):e kH j=(e r j - e r q * e lead j) % p:=by
 unfold without;by_cases h:e r q=0
 ·rw[if_pos h,h,Int.zero_mul,Int.sub_zero];let:=hr.at hp j;show (GO this.1 this.2).symm
 ·by_cases hj:j<r.length
  ·simp_all
  ·simp_all
def a5i (p x:Int):p ∣ x % p - x:=by
 show#[-(x / p),?_];rw[Int.emod_def,Int.mul_neg]
 lia
def a5K (p k:Int):∀ (r v:Ξ),p ∣ dot cT v - k * dot r v
 | [],v=>by simp[scaled,dot]
 | x::r,[]=>by simp[scaled,dot]
 | x::r,y::v=>by
  let ih:=a5K p k r v;let h:=a5i p<|k * x;change p ∣ b2W - k * (x * y+dot r v)
  let:b2W - k * (x * y+dot r v)=(k * x % p - k * x) * y+(dot cT v - k * dot r v):=by
   grind
  rw[this];show HF (ID h) ih
def gr (p c:Int):∀ (r lead v:Ξ),lead.length=r.length->p ∣ dot Ż v - b2y
 | [],[],v,_=>by simp[dot]
 | x::r,y::lead,[],_=>by simp[dot]
 | x::r,y::lead,z::v,h=>by
  let ih:=gr p c r lead v SC;let h1:p ∣ Wz % p - (x - c * y):=by rw[Int.sub_emod_emod];show a5i p _
  change p ∣ (Wz % p * z+dot _ v) - a71
  let:(Wz % p * z+dot Ż v) - a71=(Wz % p - (x - c * y)) * z+(dot Ż v - b2y):=by
   grind
  rw[this];show HF (ID h1) ih
def lg (p)(r lead v:Ξ)(q:Nat)(h:lead.length=r.length):p ∣ dot kH v - (dot r v - e r q * dot lead v):=by
 unfold without;by_cases h0:e r q=0
 ·simp_all
 ·rw[if_neg h0];show gr p _ r lead v h
theorem Vh (p)(v:Ξ)(ř:Θ):Prop:=∀ r∈ř,p ∣ dot r v
structure Sh (p:Int) (w:Nat) (ř:Θ):Prop where
 Ob:∀ r∈ř,r.length=w
 fit:∀ r∈ř,Lk p r
theorem Bk (p)(bk):Prop:=∀ a,0<a->a<p->p ∣ a * bk a - 1
def Lh:
  r∈cleared p bk ř start a q ↔ r=scaled p Ĩ Y2\/∃ r0∈ř.take a++ř.drop (a+1),r=without p r0 (scaled p Ĩ Y2) q:=by
 unfold cleared;simp only[];generalize hl:scaled p _ _=lead;generalize hm:(ř.take a++ř.drop (a+1)).map (λr=>without p r lead q)=others;let:r∈others.take start++[lead]++others.drop start ↔ r=lead\/r∈others:=by
  constructor
  ·intro h;rcases Fx.mp h with h|h
   ·rcases Fx.mp h with h|h
    ·show .inr (J4 h)
    ·show .inl SC
   ·show .inr (List.mem_of_mem_drop h)
  ·intro h;rcases h with h|h
   ·subst h;simp
   ·let:r∈others.take start++others.drop start:=by simp_all
    grind
 rw[this,<- hm];constructor
 ·rintro (h|h)
  ·show .inl h
  ·let#[r0,nU]:=EW.mp h;show .inr b8D
 ·rintro (h|⟨r0,h1,h2⟩)
  ·show .inl h
  ·show .inr (EW.mpr b8D)
def ik {ř:Θ}(ha:a<ř.length)(h:r∈ř):r=ř.getD a []\/r∈ř.take a++ř.drop (a+1):=by
 let#[Vu]:=HD h;rcases Nat.lt_trichotomy i a with c|c|c
 ·right;show FJ _ ?_;rw[Iq];show#[i,#[],1]
 ·left;subst c;simp[hi]
 ·right;show FF _ ?_;rw[List.mem_drop_iff_getElem];show#[i - (a+1),#[],by congr 1;lia]
def b4r {ř:Θ}(h:r∈ř.take a++ř.drop (a+1)):r∈ř:=by grind
def getD_mem {ř:Θ}(ha:a<ř.length):ř.getD a []∈ř:=by simp_all
def b9w (hp:0<p):Lk p cT:=by intro x hx;let#[y,_,1]:=EW.mp hx;show#[Gi _<|by lia,FX _ hp]
def b1i (hp:0<p)(h:Lk p r):Lk p kH:=by
 unfold without;split
 ·show h
 ·intro x hx;let#[Vu]:=HD hx;rw[Ja];show#[Gi _<|by omega,FX _ hp]
def a9P (h:lead.length=r.length):(without p r lead q).length=r.length:=by
 unfold without;split
 ·rfl
 ·simp_all
def Sh.cleared {p:Int}{bk:Int->Int}{w:Nat}{ř:Θ}{start a q:Nat} (hp:0<p) (S:Sh p w ř) (ha:a<ř.length):Sh p w b1Y:=by
 let hl:(scaled p Ĩ<|bk (e Ĩ q)).length=w:=by unfold scaled;rw[EO];show S.Ob _ (getD_mem ha)
 show#[c0K]
 ·rcases Lh.mp hr with rfl|⟨r0,h0,rfl⟩
  ·show hl
  ·let:=S.Ob r0<|b4r h0;rw[a9P<|by omega];show this
 ·rcases Lh.mp hr with rfl|⟨r0,h0,rfl⟩
  ·show b9w hp
  ·show b1i hp (S.fit r0<|b4r h0)
def a9x (hp:0<p)(hb:Bk p bk)(S:Sh p w ř)(ha:a<ř.length)(h0:e Ĩ q≠0):
  Vh p v b1Y ↔ Vh p v ř:=by
 let hm:=getD_mem ha;let hf:=(S.fit _ hm).at hp q;generalize hx:e _ q=x at *
 let hl:=λr (hr:r∈ř)=>show (scaled p _<|bk x).length=r.length by unfold scaled;rw[EO,S.Ob _ hm,S.Ob _ hr]
 let d1:=a5K p (bk x) Ĩ v;constructor
 ·intro K r hr;let k1:=K _<|Lh.mpr (.inl<|by rw[hx]);rcases ik ha hr with rfl|h
  ·
   let a1:p ∣ bk x * dot Ĩ v:=by
    let:=HP k1 d1
    grind
   let a2:p ∣ _ * dot Ĩ v:=ID<|hb x #[] hf.2;let a3:p ∣ x * _:=Gn a1;let:=HP a3 a2
   grind
  ·let k2:=K _<|Lh.mpr (.inr #[r,h,by rw[hx]]);let a1:=HP k2<|lg p r _ v q (hl r hr);let a2:p ∣ e r q * dot _ v:=Gn k1;let:=HF a1 a2
   grind
 ·intro K r hr;let k1:p ∣ dot (scaled p Ĩ<|bk x) v:=by
   let a1:p ∣ bk x * dot _ v:=Gn<|K _ hm;let:=HF d1 a1
   grind
  rcases Lh.mp hr with rfl|⟨r0,h0,rfl⟩
  ·rw[hx];show k1
  ·let hr0:=b4r h0;let a2:p ∣ dot r0 v - e r0 q * dot _ v:=HP (K r0 hr0)<|Gn k1;let:=HF (lg p r0 _ v q<|hl r0 hr0) a2
   grind
structure RR (p:Int) (w k:Nat) (ř:Θ) (ps:À):Prop where
 sh:Sh p w ř
 len:ps.length<=ř.length
 lt:∀ q∈ps,q<k
 inc:ps.Pairwise (·<·)
 one:∀ (i q:Nat),ps[i]?=!q->e Ń q=1
 zer:∀ (i j q:Nat),ps[j]?=!q->i≠j->e Ń q=0
 lead:∀ (i q q':Nat),ps[i]?=!q->q'<q->e Ń q'=0
 rest:∀ (i q:Nat),ps.length<=i->q<k->e Ń q=0
def b1f (q:Nat):e [] q=0:=by simp[e]
def RR.start (S:Sh p w ř):RR p w 0 ř []:=
 #[S,FV _,(λ_ h=>nomatch h),List.Pairwise.nil,λi q h=>by simp at h,λi j q h=>by simp at h,λi q q' h=>by simp at h,λi q _ h=>absurd h<|Jh _]
def se (h:Kx ř start q=none):∀ i,start<=i->e Ń q=0:=by
 intro i hi;by_cases hl:i<ř.length
 ·unfold Kx at h
  grind
 ·grind
def Oi (h:Kx ř start q=!a):start<=a/\a<ř.length/\e Ĩ q≠0:=by
 unfold Kx at h
 grind
def b5n (ha:a<ř.length)(hs:start<=a):(cleared p bk ř start a q).length=ř.length:=by
 unfold cleared;simp only[Fb,Fd,IX,EO,FU,HI]
 lia
def cP (ha:a<ř.length)(hs:start<=a)(i)(hi:i<ř.length):
  ∃ lead,lead=scaled p Ĩ Y2/\
   ((i<start/\(cleared p bk ř start a q).getD i []=without p Ń lead q)\/(i=start/\(cleared p bk ř start a q).getD i []=lead) \/
    (start<i/\∃ i',start<=i'/\i'<ř.length/\i'≠a/\(cleared p bk ř start a q).getD i []=without p (ř.getD i' []) lead q)):=by
 show#[vD];unfold cleared;simp only[];generalize scaled p _ _=lead;let VE:((ř.take a++ř.drop (a+1)).map λr=>without p r lead q).length=ř.length - 1:=by simp only[EO,Fb,Fd,IX];lia
 let hoa:∀ j,j<ř.length - 1->((ř.take a++ř.drop (a+1)).map λr=>without p r lead q)[j]?=!without p (ř.getD (if j<a then j else j+1) []) lead q:=by
  intro j hj;rw[F7];by_cases c:j<a
  ·rw[FQ (by rw[Fd];lia),Gz c,if_pos c,ER<|by lia,EU,ER<|by lia];rfl
  ·rw[FT (by rw[Fd];lia),Fd,IB,if_neg c];let:a+1+(j - min a ř.length)=j+1:=#[]
   rw[this,ER<|by lia,EU,ER<|by lia];rfl
 generalize ((ř.take a++ř.drop (a+1)).map λr=>without p r lead q)=others at VE hoa;rw[EU];rcases Nat.lt_trichotomy i start with c|c|c
 ·left;show#[c,?_];rw[FI,FQ (by rw[Fd];lia),Gz c,hoa i<|by lia,if_pos<|by lia];rfl
 ·right;left;show#[c,?_];subst c;rw[FI,FT (by rw[Fd];lia),Fd];let:i - min i others.length=0:=#[]
  rw[this];rfl
 ·right;right;show#[c,if i - 1<a then i - 1 else i - 1+1,D2,D2]
  ·split <;> lia
  ·split <;> lia
  ·split <;> lia
  ·rw[FT (by rw[Fb,Fd,Gg];lia),Fb,Fd,Gg,IB];let:start+(i - (min start others.length+1))=i - 1:=#[]
   rw[this,hoa _<|by lia];rfl
def RR.step (hp:1<p)(hb:Bk p bk)(R:RR p w k ř ps):
  ∃ Vt,Mx.step p bk xU k=((Mx.step p bk xU k).1,Vt.length)/\RR p w (k+1) (Mx.step p bk xU k).1 Vt/\(Mx.step p bk xU k).1.length=ř.length/\∀ v,Vh p v (Mx.step p bk xU k).1 ↔ Vh p v ř:=by
 unfold Mx.step
 cases h:Kx ř ps.length k with
 | none=>
  show#[ps,1,#[R.sh,R.len,λq hq=>Ig<|R.lt q hq,R.inc,R.one,R.zer,R.lead,λi q hi hq=>?_],1,λv=>Iff.rfl];rcases Nat.lt_succ_iff_lt_or_eq.mp hq with c|c
  ·show R.rest i q hi c
  ·subst c;show (se h) i hi
 | some a=>
  let#[hs,ha,h0]:=Oi h;let QI:0<p:=#[]
  let hm:=getD_mem ha;let hf:=(R.sh.fit _ hm).at QI k;show#[ps++[k],by simp,?_,b5n ha hs,λv=>a9x QI hb R.sh ha h0];let hlen:=b5n (p:=p) (bk:=bk) (q:=k) ha hs;let l1:e (scaled p Ĩ<|bk (e Ĩ k)) k=1:=by rw[TIp,Jo];let:=(Ip).mpr<|Hz (hb (e Ĩ k) #[] hf.2);rw[this];show GO #[] hp
  let l0:∀ q,q<k->e (scaled p Ĩ<|bk (e (ř.getD a []) k)) q=0:=λq hq=>by rw[TIp,R.rest a q hs hq,Int.mul_zero,Int.zero_emod]
  let wz:∀ (i:Nat)(lead:Ξ),i<ř.length->lead=scaled p Ĩ (bk<|e Ĩ k)->
    e b43 k=0/\∀ q,q<k->e b43 q=e Ń q:=by
   intro i lead hi hl;let hmi:=getD_mem hi;let hll:lead.length=(ř.getD i []).length:=by rw[hl];unfold scaled;rw[EO,R.sh.Ob _ hm,R.sh.Ob _ hmi]
   show#[?_,λq hq=>?_]
   ·rw[a14 QI b8E hll,hl,l1,Int.mul_one,Int.sub_self,Int.zero_emod]
   ·rw[a14 QI b8E hll,hl,l0 q hq,Int.mul_zero,Int.sub_zero];let:=(R.sh.fit _ hmi).at QI q;show GO this.1 this.2
  let out:∀ i,¬ i<ř.length->(cleared p bk ř ps.length a k).getD i []=[]:=λi hi=>by rw[EU,Gu<|by lia];rfl
  let psk:∀ (i q:Nat),(ps++[k])[i]?=!q->(i<ps.length/\ps[i]?=!q)\/(i=ps.length/\q=k):=λi q hq=>by
   by_cases c:i<ps.length
   ·rw[FQ c]at hq;show .inl #[c,hq]
   ·rw[FT<|by lia]at hq;by_cases c2:i - ps.length=0
    ·rw[c2]at hq;simp at hq;show .inr #[#[],hq.symm]
    ·rw[Gu (by simp;lia)]at hq;cases hq
  let plt:∀ (i q:Nat),ps[i]?=!q->q<k:=λi q hq=>R.lt q<|ET hq;show⟨R.sh.cleared QI ha,by rw[hlen,Fb,Gg];lia,λq hq=>?_,?_,λi q hq=>?_,λi j q hq hij=>?_,λi q q' hq Pj=>?_,λi q hi hq=>?_⟩
  ·rcases Fx.mp hq with c|c
   ·show Ig (R.lt q c)
   ·let:q=k:=by simpa using c
    lia
  ·rw[List.pairwise_append];show#[R.inc,List.pairwise_singleton _ _,λx hx y hy=>?_];let:y=k:=by simpa using hy
   rw[this];show R.lt x hx
  ·
   rcases psk i q hq with⟨c,hq⟩|⟨c,rfl⟩
   ·let#[ui]:=cP ha hs i #[];rcases d with⟨_,d⟩|⟨d,_⟩|⟨d,_⟩
    ·rw[d,(wz i lead #[] hl).2 q<|plt i q hq];show R.one i q hq
    ·lia
    ·lia
   ·let#[ui]:=cP ha hs i #[];rcases d with⟨d,_⟩|⟨_,d⟩|⟨d,_⟩
    ·lia
    ·rw[d,hl];show l1
    ·lia
  ·
   by_cases hi:i<ř.length
   ·let#[ui]:=cP ha hs i hi;rcases psk j q hq with⟨c,hq⟩|⟨c,rfl⟩
    ·let hk:=plt j q hq;rcases d with⟨_,d⟩|⟨d1,d⟩|⟨_,i',d1,d2,_,d⟩
     ·rw[d,(wz i lead hi hl).2 q hk];show R.zer i j q hq hij
     ·rw[d,hl];show l0 q hk
     ·rw[d,(wz i' lead d2 hl).2 q hk];show R.rest i' q d1 hk
    ·rcases d with⟨_,d⟩|⟨d1,d⟩|⟨_,i',d1,d2,_,d⟩
     ·rw[d];show (wz i lead hi hl).1
     ·lia
     ·rw[d];show (wz i' lead d2 hl).1
   ·rw[out i hi];show b1f q
  ·
   rcases psk i q hq with⟨c,hq⟩|⟨c,rfl⟩
   ·let hk:=plt i q hq;let#[ui]:=cP ha hs i #[];rcases d with⟨_,d⟩|⟨d,_⟩|⟨d,_⟩
    ·rw[d,(wz i lead #[] hl).2 q'<|by lia];show R.lead i q q' hq Pj
    ·lia
    ·lia
   ·let#[ui]:=cP ha hs i #[];rcases d with⟨d,_⟩|⟨_,d⟩|⟨d,_⟩
    ·lia
    ·rw[d,hl];show l0 q' Pj
    ·lia
  ·
   rw[Fb,Gg]at hi;by_cases WW:i<ř.length
   ·let#[ui]:=cP ha hs i WW;rcases d with⟨d,_⟩|⟨d,_⟩|⟨_,i',d1,d2,_,d⟩
    ·lia
    ·lia
    ·rcases Nat.lt_succ_iff_lt_or_eq.mp hq with c|c
     ·rw[d,(wz i' lead d2 hl).2 q c];show R.rest i' q d1 c
     ·subst c;rw[d];show (wz i' lead d2 hl).1
   ·rw[out i WW];show b1f q
def RR.run (hp:1<p)(hb:Bk p bk)(S:Sh p w ř):∀ k,∃ ps,(Mx.run p bk ř k).2=ps.length/\RR p w k (Mx.run p bk ř k).1 ps/\(Mx.run p bk ř k).1.length=ř.length/\∀ v,Vh p v (Mx.run p bk ř k).1 ↔ Vh p v ř:=by
 intro k
 induction k with
 | zero=>show#[[],1,RR.start S,1,λv=>Iff.rfl]
 | succ k ih=>
  let#[ps,ki]:=ih;rw[Oh];let e1:Mx.run p bk ř k=((Mx.run p bk ř k).1,ps.length):=by rw[<- h1]
  rw[e1];let#[Vt,mL,g3,g4]:=h2.step hp hb;show#[Vt,by rw[g1],g2,g3.trans h3,λv=>(g4 v).trans<|h4 v]
theorem K4 (r:Ξ)(m):Option Nat:=(List.range m).find? λq=>decide (e r q≠0)
theorem Kr (ř:Θ)(m):À:=(ř.map λr=>K4 r m).filterMap id
def a91 (hq:q<m)(h1:e r q≠0)(h0:∀ q',q'<q->e r q'=0):K4 r m=!q:=by
 unfold K4
 simp_all
def c0c (h0:∀ q,q<m->e r q=0):K4 r m=none:=by
 unfold K4
 simp_all
def Le (R:RR p w m ř ps):Kr ř m=ps:=by
 let:ř.map (λr=>K4 r m)=ps.map some++List.replicate (ř.length - ps.length) none:=by
  apply Ih;intro i;let hl:=R.len;by_cases hi:i<ř.length
  ·by_cases c:i<ps.length
   ·let hq:=ER c;let:=a91 (R.lt _<|FZ c) (by rw[R.one i _ hq];decide) (λq' Pj=>R.lead i _ q' hq Pj)
    simp_all
   ·let:=c0c (λq hq=>R.rest i q #[] hq)
    simp_all
  ·simp_all
 unfold Kr
 simp_all
def im:∀ (ps:À)(s m:Nat),ps.Pairwise (·<·)->(∀ q∈ps,s<=q/\q<s+m)->ps.length<=m/\(ps.length=m->ps=List.range' s m)
 | [],s,m,_,_=>by
  simp_all
 | a::ps,s,0,_,h=>by let:=h a Fy;lia
 | a::ps,s,m+1,hp,h=>by
  let#[nU]:=List.pairwise_cons.mp hp;let ha:=h a Fy;let ih:=im ps (s+1) m h2 λq hq=>#[by let:=h1 q hq;lia,by let:=(h q<|Ft _ hq).2;lia];show⟨by simp;show ih.1,λhl=>?_⟩;let e1:=ih.2 į;rw[List.range'_succ];let:a=s:=by
   rcases Nat.lt_or_ge s a with c|c
   ·exfalso;let ih2:=im ps (s+2) (m - 1) h2 (λq hq=>#[by let:=h1 q hq;lia,by let:=(h q<|Ft _ hq).2;let:=h1 q hq;lia])
    grind
   ·lia
  rw[this,e1]
def RR.all (R:RR p w m ř ps)(h:ps.length=m):ps=List.range m:=by let:=(im ps 0 m R.inc λq hq=>#[FV _,by let:=R.lt q hq;lia]).2 h;rw[this,List.range_eq_range']
def RR.Kv (R:RR p w m ř ps):ps.length<=m:=
 (im ps 0 m R.inc λq hq=>#[FV _,by let:=R.lt q hq;lia]).1
def tj (h:q<m):e b7Q q=e r q:=by simp_all
def b04 {ř:Θ}:(ř.map UF).getD a []=(ř.getD a []).take m:=by
 rw[EU,EU,F7]
 cases ř[a]? with
 | none=>simp
 | some x=>rfl
def a8d (h:q<m):Kx b6v start q=Kx ř start q:=by unfold Kx;rw[EO];congr 1;funext a;rw[b04,tj h]
def a5y (h:q<m):without p b7Q (lead.take m) q=(without p r lead q).take m:=by
 unfold without;rw[tj h];split
 ·rfl
 ·rw[List.take_zipWith]
def b96:scaled p b7Q k=(scaled p r k).take m:=by unfold scaled;rw[Hv]
def a9y (h:q<m):cleared p bk b6v start a q=(cleared p bk ř start a q).map UF:=by
 unfold cleared;simp only[];rw[b04,tj h,b96];generalize scaled p _ _=lead;let:((ř.map<|List.take m).take a++(ř.map<|List.take m).drop (a+1)).map (λr=>without p r (lead.take m) q)=((ř.take a++ř.drop (a+1)).map λr=>without p r lead q).map UF:=by rw[<- Hv,<- J0,<- EX,EZ,EZ];apply FA;intro r _;show a5y h
 rw[this];simp only[EX,Hv,J0,Fh,GF]
def R5:∀ k,k<=m->run p bk b6v k=((run p bk ř k).1.map UF,(run p bk ř k).2):=by
 intro r'
 induction r' with
 | zero=>
  intro _;show rfl
 | succ k ih'=>
  intro h;rw[Oh,Oh,ih'<|by lia];unfold step;simp only[];rw[a8d<|by lia]
  cases Kx (run p bk ř k).1 (run p bk ř k).2 k with
  | none=>rfl
  | some a=>simp only[];rw[a9y<|by lia]
def a8h:∀ (x a y b:Ξ),x.length=a.length->dot (x++y) (a++b)=dot x a+dot y b
 | [],[],y,b,_=>by simp[dot]
 | u::x,v::a,y,b,h=>by
  change u * v+dot (x++y) (a++b)=u * v+dot x a+dot y b;rw[a8h x a y b<|by simpa using h]
  lia
def b1n:∀ (x v:Ξ),dot x (v.map λt=>-t)=- dot x v
 | [],v=>by simp[dot]
 | a::x,[]=>by simp[dot]
 | a::x,b::v=>by
  change a * -b+dot x (v.map λt=>-t)=-(a * b+dot x v)
  rw[b1n x v,Int.mul_neg]
  lia
theorem joined (t:Θ):Θ:=List.zipWith (λr o=>r++o) t (ones t.length)
def JQ (n i:Nat):(Jz n i).length=n:=by simp[Jz]
def eU (hp:1<p)(n i:Nat):Lk p (Jz n i):=by intro x hx;let#[j,_,1]:=EW.mp hx;split <;> lia
def a2y (t:Θ)(i)(hi:i<t.length):(joined t)[i]?=!t[i]++Jz t.length i:=by
 unfold joined ones
 simp_all
def Lf (t:Θ):(joined t).length=t.length:=by simp[joined,ones]
def a9m (h:r∈joined t):∃ i,∃ (hi:i<t.length),r=t[i]++Jz t.length i:=by
 let#[Vu]:=HD h;let QJ:i<t.length:=by rw[Lf]at hi;show hi
 show#[i,QJ,?_];let:=a2y t i QJ
 simp_all
def OJ (hp:1<p)(S:Sh p m t):Sh p YT b7R:=by
 show#[c0K]
 ·let#[Vu]:=a9m hr;rw[Fb,JQ,S.Ob _<|FZ hi]
 ·let#[Vu]:=a9m hr;intro x hx;rcases Fx.mp hx with h|h
  ·show S.fit _ (FZ hi) x h
  ·show eU hp _ _ x h
def Ra (S:Sh p m t):(joined t).map UF=t:=by
 apply Ih;intro i;rw[F7];by_cases hi:i<t.length
 ·rw[a2y t i hi,ER hi];change some ((t[i]++Jz t.length i).take m)=some t[i];rw[J3 (by rw[S.Ob _<|FZ hi];show F8 _),GV (by rw[S.Ob _<|FZ hi];show F8 _)]
 ·rw[Gu (by rw[Lf];lia),Gu<|by lia];rfl
theorem T4 (t:Θ)(m j:Nat):Ξ:=(Jz m j).map (λx=>-x)++col t j
def a3o (hr:r.length=m+n):dot r (T4 t m j)=dot (r.drop m) DB - e r j % 1 * 0 - (if j<m then e r j else 0):=by
 let:=(Gs m r).symm;unfold T4
 conv=>lhs;rw[this]
 rw[a8h _ _ _ _ (by rw[EO,JQ,Fd];lia),b1n,KC,KA m j _ (by rw[Fd];lia)];by_cases c:j<m
 ·let:(r.take m).getD j 0=e r j:=tj c
  lia
 ·grind
def xz (S:Sh p m t)(j)(hj:j<m):Vh p (T4 t m j) b7R:=by
 intro r hr;let#[Vu]:=a9m hr;let hw:=S.Ob _<|FZ hi;rw[a3o<|by rw[Fb,JQ,hw],if_pos hj];let e1:(t[i]++Jz t.length i).drop m=Jz t.length i:=by
  grind
 let e2:e (t[i]++Jz t.length i) j=e t[i] j:=by
  grind
 rw[e1,e2,KA _ _ _<|by simp[col]];let e3:(col t j).getD i 0=e t[i] j:=by unfold col;simp[hi]
 simp_all
def Ta (hp:1<p)(S:Sh p m t)(R:RR p YT m ř ps)(RB:ps=List.range m)(hl:ř.length=t.length)(hk:∀ v,Vh p v ř ↔ Vh p v b7R)(i j:Nat)(hi:i<m)(hj:j<m):dot Cq DB % p=if i=j then 1 else 0:=by
 let LW:ps.length=m:=by rw[RB];simp
 let hir:i<ř.length:=by let:=R.len;lia
 let hm:=getD_mem hir;let k:=(hk _).mpr (xz S j hj) _ hm;rw[a3o<|R.sh.Ob _ hm,if_pos hj]at k;let pj:ps[j]?=!j:=by rw[RB];show Hh hj
 let er:e Ń j=if i=j then 1 else 0:=by
  by_cases c:i=j
  ·subst c;rw[if_pos rfl];show R.one i i pj
  ·rw[if_neg c];show R.zer i j j pj c
 rw[er]at k;let k':p ∣ dot Cq DB - b4C:=by rwa [show dot _ _ - _ % 1 * 0 - _=dot Cq DB - b4C by lia]at k
 let:=Ip.mpr<|Hz k';rw[this];show GO (by split <;> lia) (by split <;> lia)
theorem fg (p)(u:Nat):List (List Int×Nat)->List Int->Ξ
 | [],v=>v
 | (r,q)::rest,v=>fg p u rest (v.set q ((0 - e r u) % p))
abbrev _root_.Ï:=List (List Int×Nat)
def a67 (p)(u:Nat):∀ (l:Ï)(v:Ξ),(fg p u l v).length=v.length:=by
 intro r'
 induction r' with
 | nil=>
  intro v;show rfl
 | cons hd' rest ih'=>
  let#[r,q]:=hd';intro v;change (fg p u rest _).length=_;rw[ih',List.length_set]
def a7k (p)(u:Nat):∀ (l:Ï)(v:Ξ)(j:Nat),(∀ x∈l,x.2≠j)->e vL j=e v j:=by
 intro r'
 induction r' with
 | nil=>
  intro v j _;show rfl
 | cons hd' rest ih'=>
  let#[r,q]:=hd';intro v j h;change e xR j=_;rw[ih' _ j λx hx=>h x<|Ft _ hx]
  simp_all
def a3P (p)(u:Nat):∀ (l:Ï)(v:Ξ)(r:Ξ)(q:Nat),(r,q)∈l->(l.map (·.2)).Pairwise (·<·)->q<v.length->e vL q=(0 - e r u) % p:=by
 intro l
 induction l with
 | nil=>intro v r q h;cases h
 | cons x rest ih=>
  intro v r q h hp hq;let#[r',q']:=x;change e xR q=_;let#[nU]:=List.pairwise_cons.mp hp;rcases Fw.mp h with c|c
  ·let#[c1,c2]:=Prod.mk.inj c;rw[<- c2,<- c1];rw[<- c2]at h1;rw[a7k p u rest _ q (λx hx=>by let:q<x.2:=h1 x.2<|EW.mpr #[x,hx,1];lia)]
   simp_all
  ·show ih _ r q c h2 (by rw[List.length_set];show hq)
def a3Z (hp:0<p)(u:Nat):∀ (l:Ï)(v:Ξ),Lk p v->Lk p vL:=by
 intro r'
 induction r' with
 | nil=>
  intro v h;show h
 | cons hd' rest ih'=>
  let#[r,q]:=hd';intro v h;change Lk p xR;show ih' _ λx hx=>?_;rcases List.mem_or_eq_of_mem_set hx with c|c
  ·show h x c
  ·subst c;show#[Gi _<|by lia,FX _ hp]
theorem eJ (f:Nat->Int):Nat->Int
 | 0=>0
 | n+1=>eJ f n+f n
def c02 (f:Nat->Int):∀ n,eJ f (n+1)=f 0+eJ (λj=>f (j+1)) n:=by
 intro r'
 induction r' with
 | zero=>
  simp[eJ]
 | succ n ih'=>
  rw[eJ,ih',eJ]
  lia
def a8S:∀ (x v:Ξ),x.length=v.length->dot x v=eJ (λj=>e x j * e v j) x.length
 | [],[],_=>rfl
 | a::x,b::v,h=>by change a * b+dot x v=_;rw[a8S x v<|by simpa using h,FU,c02];rfl
def a3y:∀ n,(∀ j,j<n->f j=0)->eJ f n=0:=by
 intro r'
 induction r' with
 | zero=>
  intro _;show rfl
 | succ n ih'=>
  intro h;rw[eJ,ih' λj hj=>h j<|by lia,h n<|by lia];rfl
def b2R:∀ n,a<n->(∀ j,j<n->j≠a->f j=0)->eJ f n=f a
 | n+1,ha,h=>by
  rw[eJ];by_cases c:a=n
  ·subst c;rw[a3y a λj hj=>h j #[]<|by lia];lia
  ·rw[b2R n #[] λj hj Yu=>h j #[] Yu,h n #[]<|Ne.symm c];lia
def a4a:∀ n,a<n->b<n->a≠b->(∀ j,j<n->j≠a->j≠b->f j=0)->eJ f n=f a+f b
 | n+1,ha,hb,VL,h=>by
  rw[eJ];by_cases c:a=n
  ·subst c;rw[b2R a (a:=b) #[] λj hj hjb=>h j #[] #[] hjb];lia
  ·by_cases d:b=n
   ·subst d;rw[b2R b (a:=a) #[] λj hj Yu=>h j #[] Yu<|by lia]
   ·rw[a4a n #[] #[] VL λj hj Yu hjb=>h j #[] Yu hjb,h n #[] iK<|Ne.symm d];lia
theorem Ke (p)(ř:Θ)(ps:À)(m u:Nat):Ξ:=fg p u (ř.zip ps) (Jz m u)
def b9g (m u j:Nat):e (Jz m u) j=if j<m/\j=u then 1 else 0:=by
 unfold e Jz;rw[EU,F7];by_cases c:j<m
 ·simp[c]
 ·simp[c]
def Tc (hp:1<p)(R:RR p m m ř ps)(hu:u<m)(hup:u∉ps):
  Vh p Da ř/\e Da u=1/\(Ke p ř ps m u).length=m/\Lk p Da:=by
 let Ti:((ř.zip ps).map (·.2))=ps:=by rw[List.map_snd_zip];let:=R.len;lia
 let hlen:(Ke p ř ps m u).length=m:=by unfold Ke;rw[a67,JQ]
 let a45:∀ x∈ř.zip ps,x.2∈ps:=λx hx=>(HH hx).2;let out:∀ j,j∉ps->e Da j=if j<m/\j=u then 1 else 0:=λj hj=>by unfold Ke;rw[a7k p u _ _ j λx hx z=>hj<|z▸a45 x hx,b9g]
 let inn:∀ (i q:Nat),ps[i]?=!q->e Da q=(0 - e Ń u) % p:=λi q hq=>by
  let hi:=(ES.mp hq).1;let hir:i<ř.length:=by let:=R.len;lia
  show a3P p u _ _ _ q ?_ (by rw[Ti];show R.inc) (by rw[JQ];show R.lt q<|ET hq);rw[List.mem_iff_getElem?];show#[i,?_];rw[Jr];show#[?_,hq];rw[EU,ER hir];rfl
 show#[λr hr=>?_,by rw[out u hup,if_pos #[hu,1]],hlen,?_]
 ·let#[Vu]:=HD hr;let eg:ř[i]=ř.getD i []:=by rw[EU,ER hi];rfl
  rw[eg];let hw:=R.sh.Ob _<|getD_mem hi;rw[a8S _ _<|by rw[hw,hlen],hw];by_cases c:i<ps.length
  ·let hq:=ER c;let SK:ps[i]≠u:=λz=>hup<|z▸FZ c;rw[a4a m (R.lt _<|FZ c) hu SK (λj hj Yu hjb=>?_)]
   ·rw[R.one i _ hq,inn i _ hq,out u hup,if_pos #[hu,1],Int.one_mul,Int.mul_one];let:=a5i p<|0 - e Ń u;rwa [show _ % p - _=(0 - e Ń u) % p+e Ń u by lia]at this
   ·by_cases VH:j∈ps
    ·let#[i',QJ,e']:=HD VH;let Pj:ps[i']?=!j:=by rw[ER QJ,e']
     let:i≠i':=λz=>by subst z;show Yu e'.symm
     rw[R.zer i i' j Pj this,Int.zero_mul]
    ·rw[out j VH,if_neg λz=>hjb z.2,Int.mul_zero]
  ·rw[a3y m λj hj=>by rw[R.rest i j #[] hj,Int.zero_mul]];show Int.dvd_zero p
 ·show a3Z #[] u _ _ (eU hp m u)
universe Mx
namespace My
theorem LV (n:Int):Bool:=@decide (2<=n/\∀ e:Int,2<=e->e * e<=n->Int.fmod n e≠0) (Classical.propDecidable _)
def JL (n:Int):LV n=true ↔ (2<=n/\∀ e:Int,2<=e->e * e<=n->Int.fmod n e≠0):=by simp[LV]
def b1z (hp:LV p=true)(h2:2<=r)(hr:r<p):Int.fmod p r≠0:=by
 intro h0;let#[_,h]:=(JL p).mp hp;let hq:p=r * Int.fdiv p r:=by let:=Int.fmod_def p r;omega
 generalize Int.fdiv p r=q at hq;let hq2:2<=q:=by
  rcases Int.lt_or_le q 2 with c|c
  ·exfalso;let:r * q<=r * 1:=HV #[] #[]
   lia
  ·show c
 rcases Int.le_total r q with c|c
 ·let:r * r<=r * q:=HV c #[];show h r h2 #[] h0
 ·let:q * q<=r * q:=Int.mul_le_mul_of_nonneg_right c #[];show h q hq2 #[] ?_
  simp_all
theorem chk (p:Nat):Bool:=decide (2<=p)&&(List.range 1000).all λe=>decide (e<2) || decide (p<e * e) || decide (p % e≠0)
def Vy (h:chk p=true)(hp:p<1000000):LV (p:Int)=true:=by
 unfold chk at h;rw[He]at h;let#[nU]:=h;rw[JL];show#[#[],λe he hee h0=>?_];obtain⟨k,rfl⟩:∃ k:Nat,e=(k):=#[e.toNat,#[]]
 let hk:k<1000:=by
  rcases Nat.lt_or_ge k 1000 with c|c
  ·show c
  ·let:=IH c c
   lia
 let:=(Ht.mp h2) k (FW.mpr hk)
 grind
structure Inv (p a rest made:Int):Prop where
 eq:(made * a - rest) % p=0
 lo:0<=made
 hi:made<p
def PK (hp:2<=p)(hr:Int.fmod a p=r):Inv p a r 1:=by
 show#[?_,sI];rw[Int.one_mul,<- hr,Ge _<|by lia]
 simp_all
def zg (h:Inv p a r m)(hp:2<=p)(hr:0<r):Inv p a (Int.fmod p r) (Int.fmod (m * (0 - Int.fdiv p r)) p):=by
 let e1:=Int.fmod_def p r;generalize Int.fdiv p r=q at *
 rw[e1];rw[Ge _<|by lia];show#[?_,Gi _<|by lia,FX _<|by lia];let#[k,hk]:=Gv h.eq;let e2:m * _ % p=m * (0 - q) - p * _:=Int.emod_def ..;rw[e2];generalize m * _ / p=z;apply Hz;show#[- z * a - q * k - 1,?_]
 grind
def rNs (hp:LV p=true)(h1:0<r)(h2:r≠1)(h3:r<p):0<Int.fmod p r/\Int.fmod p r<r:=by
 let:=b1z hp #[] h3;let a:=Int.fmod_nonneg_of_pos p h1;let b:=Int.fmod_lt_of_pos p h1
 lia
open Classical in
theorem bk (p a:Int):Int:=if h:∃ z:Int,0<=z/\z<p/\p ∣ a * z - 1 then Classical.choose h else 0
def V2 (h0:0<=z)(h1:z<p)(h:p ∣ a * z - 1):bk p a=z:=by
 let hx:∃ z:Int,0<=z/\z<p/\p ∣ a * z - 1:=#[z,h0,h1,h]
 unfold bk;rw[dif_pos hx];let#[y0,y1,y2]:=Classical.choose_spec hx;generalize Classical.choose hx=y at *
 let d:p ∣ y - z:=by
  let#[k,hk]:=h;let#[j,hj]:=y2;show#[z * j - y * k,?_]
  grind
 let e:=Ip.mpr<|Hz d;rwa [GO y0 y1,GO h0 h1]at e
def SD (h:Inv p a 1 m):p ∣ a * m - 1:=by let:=Gv h.eq;rwa [Jo m a]at this
def a8T (hP:LV p=true)(hp:2<=p):∀ (n:Nat)(r m:Int),r.toNat<=n->0<r->r<p->Inv p a r m->∃ z:Int,0<=z/\z<p/\p ∣ a * z - 1:=by
 intro r'
 induction r' with
 | zero=>
  intro r m h h0 _ _
  lia
 | succ n ih'=>
  intro r m h h0 h1 I;by_cases c:r=1
  ·subst c;show#[m,I.lo,I.hi,SD I]
  ·let l:=rNs hP h0 c h1;show ih' _ _ #[] l.1 #[] (zg I hp h0)
def Qw (hP:LV p=true):Mx.Bk p (bk p):=by
 intro a h0 h1;let hp:=((JL p).mp hP).1;let hf:Int.fmod a p=a:=by rw[Ge _<|by lia];show GO #[] h1
 let#[z,z0,z1,z2]:=a8T hP hp a.toNat a 1 XS h0 h1<|PK hp hf;rw[V2 z0 z1 z2];show z2
def V0 (h:Inv p a r m)(hp:2<=p)(hr:0<r):Inv p a (p % r) (m * (0 - p / r) % p):=by let:=zg h hp hr;rwa [Ge _<|by lia,Ge _<|by lia,Int.fdiv_eq_ediv_of_nonneg _<|by lia]at this
def V1 (hp:LV p=true)(h1:0<r)(h2:r≠1)(h3:r<p):0<p % r/\p % r<r:=by let:=rNs hp h1 h2 h3;rwa [Ge _<|by lia]at this
def a2N (hP:LV p=true)(h0:0<a)(h1:a<p):0<=bk p a/\bk p a<p:=by
 let hp:=((JL p).mp hP).1;let hf:Int.fmod a p=a:=by rw[Ge _<|by lia];show GO #[] h1
 let#[z,z0,z1,z2]:=a8T hP hp a.toNat a 1 XS h0 h1<|PK hp hf;rw[V2 z0 z1 z2];show#[z0,z1]
universe My
namespace L2
open PySem PySem.Spec PyProof.Rows
inductive D where
 |non|bl (b:Bool)|int (i:Int)|str (x:Str)|lst (l:List D)|scr (l:List D)|tup (l:List D)|dct (k:List Dx) (l:List D)|ins (C:Addr) (n:η) (l:List D)
mutual
theorem DR (F:Hp):D->V->Prop
 | .non,v=>v=.non
 | .bl b,v=>v=.bl b
 | .int i,v=>v=.int i
 | .str x,v=>v=.str x
 | .lst l,v=>∃ a vs,v=.ref a/\F a=!.lst vs/\JS F l vs
 | .scr l,v=>∃ a vs,v=.ref a/\Rd F a (.lst vs)/\JS F l vs
 | .tup l,v=>∃ a vs,v=.ref a/\F a=!.tup vs/\JS F l vs
 | .dct k l,v=>∃ a ķ,v=.ref a/\Rd F a ku/\ķ.map (·.1)=k/\JS F l Ķ
 | .ins C n l,v=>∃ a dx fs,v=.ref a/\F a=!.ins C dx fs/\fs.map (·.1)=n/\JS F l (fs.map (·.2))
theorem JS (F:Hp):List D->List V->Prop
 | [],vs=>vs=[]
 | d::l,vs=>∃ v ws,vs=v::ws/\DR F d v/\JS F l ws
end
def Rd.mono (e:gR F F')(h:Rd F a o):Rd F' a o:=h.imp (e a o) λJ'=>by let#[r,q]:=J';show#[r,e a _ q]
mutual
def DR.mono {F F':Hp}(e:gR F F'):∀ (d:D)(v:V),DR F d v->DR F' d v
 | .non,_,h=>h
 | .bl _,_,h=>h
 | .int _,_,h=>h
 | .str _,_,h=>h
 | .lst l,_,h=>let ⟨a,vs,q1,q2,q3⟩:=h;#[c1Q]
 | .scr l,_,h=>let ⟨a,vs,q1,q2,q3⟩:=h;#[a,vs,q1,q2.mono e,JS.mono e l vs q3]
 | .tup l,_,h=>let ⟨a,vs,q1,q2,q3⟩:=h;#[c1Q]
 | .dct _ l,_,h=>let ⟨a,vs,q1,q2,q3,q4⟩:=h;#[a,vs,q1,q2.mono e,c20]
 | .ins _ _ l,_,h=>let ⟨a,dx,vs,q1,q2,q3,q4⟩:=h;#[a,dx,vs,vg,c20]
def JS.mono {F F':Hp}(e:gR F F'):∀ (l:List D)(vs:List V),JS F l vs->JS F' l vs
 | [],_,h=>h
 | d::l,_,h=>let ⟨v,ws,q1,q2,q3⟩:=h;#[v,ws,q1,DR.mono e d v q2,JS.mono e l ws q3]
end
theorem Q1:V->D
 | .bl b=>.bl b
 | .int i=>.int i
 | .str x=>.str x
 | _=>.non
def BW:∀ {v:V},dY v=true->DR F (Q1 v) v:=by
 intro v h
 cases v<;>first|rfl|cases h
abbrev _root_.χ:=List D
def JS.length:∀ {l:χ}{vs:π},JS F l vs->vs.length=l.length:=by
 intro r'
 induction r' with
 | nil=>
  intro _ h;rw[show _=[] from h];rfl
 | cons _ _ ih'=>
  intro _ y1';let#[_,_,q1,_,q3]:=y1';rw[q1,FU,FU,ih' q3]
def JS.at:∀ {l:χ}{vs:π}{i:Nat}{d:D},JS F l vs->l[i]?=!d->∃ v,vs[i]?=!v/\DR F d v:=by
 intro l
 induction l with
 | nil=>intro vs i d _ e;cases e
 | cons x l ih=>
  intro vs i d h e;let#[v,_,Et]:=h
  cases i with
  | zero=>show#[v,by rw[q1];rfl,Option.some.inj e▸q2]
  | succ i=>let⟨v,q,r⟩:=ih (i:=i) q3 e;show#[v,by rw[q1];show q,r]
def JS.at':∀ {l:χ}{vs:π}{i:Nat}{v:V},JS F l vs->vs[i]?=!v->∃ d,l[i]?=!d/\DR F d v:=λ{l vs i v} h e=>by
 let:=h.length;let hi:i<l.length:=by rw[<- this];show (ES.mp e).1
 let#[u,q,r]:=h.at (ER hi)
 simp_all
def JS.app:∀ {l m:χ}{vs ws:π},JS F l vs->JS F m ws->JS F (l++m) (vs++ws):=by
 intro r'
 induction r' with
 | nil=>
  intro _ _ _ h k;rw[show _=[] from h];show k
 | cons _ _ ih'=>
  intro _ _ _ y3' k;let#[v,A2]:=y3';show #[v,_,by rw[q1];rfl,q2,ih' q3 k]
def JS.one (h:DR F d v):JS F [d] [v]:=#[v,[],1,h,1]
theorem grow (F H H':Hp):Hp:=λa=>if H a=none then H' a else F a
def aj (l:gR F H):gR F xi:=λa o e=>by unfold grow;rw[if_neg (by rw[l a o e];show nofun)];show e
def aH (l:gR F H)(e:gR H H1):gR xi H1:=λa o q=>by
 unfold grow at q;by_cases h:H a=none
 ·rwa [if_pos h]at q
 ·rw[if_neg h]at q;show e _ _ (l _ _ q)
def av (e1:gR H H1)(e2:gR H1 H2):grow xi H1 H2=grow F H H2:=by
 funext a;unfold grow;by_cases h:H a=none
 ·rw[if_pos h,if_pos h]
  cases h1:H1 a with
  | none=>rw[if_pos rfl]
  | some o=>rw[if_neg nofun,e2 _ _ h1]
 ·rw[if_neg h,if_neg h,if_neg];intro z
  cases q:H a with
  | none=>show h q
  | some o=>rw[e1 _ _ q]at z;cases z
def ay (h:H a=none):grow F H H1 a=H1 a:=if_pos h
abbrev En:=List b7S
abbrev Rx:=En->D->Prop
structure Sd (F:Hp) (σ:St) (H:Hp) (ε:En):Prop where
 le:gR F H
 len:ε.length<=σ.length
 rd:∀ (i:Nat)(d:D),ε[i]?=!some d->∃ v,σ[i]?=!some v/\DR F d v
def Sd.step (S:Sd F σ H ε)(e:gR H H1):Sd xi σ H1 ε:=
 #[aH S.le e,S.len,λi d q=>let ⟨v,a,b⟩:=S.rd i d q;#[v,a,b.mono<|aj S.le]]
def Sd.set (S:Sd F σ H ε)(h:DR F d v)(i):Sd F CD H (ε.set i !d):=
 #[S.le,by simpa using S.len,λj e q=>by
  rw[HM]at q ⊢;let:=S.len;by_cases c:i=j
  ·grind
  ·rw[if_neg c]at q ⊢;show S.rd j e q]
theorem tP (r:Rx):TE:=λσ H Q=>∃ F ε d,Sd F σ H ε/\r ε d/\∀ x H',gR H H'->DR Ŏ d x->Q x H'
abbrev _root_.Á:=En->List D->Prop
theorem Mu (r:Á):TA:=λσ H Q=>∃ F ε d,Sd F σ H ε/\r ε d/\∀ x H',gR H H'->JS Ŏ d x->Q x H'
abbrev _root_.Å:=En->Bool->Prop
theorem Od (r:Å):TT:=λσ H Q=>∃ F ε b,Sd F σ H ε/\r ε b/\∀ H',gR H H'->Q b H'
def PE.imp (h:PE X e t)(k:∀ σ H Q,t' σ H Q->t σ H Q):PE X e t':=λñ s σ H Q I q=>h ñ s σ H Q I Re
def PT.imp (h:PT X e t)(k:∀ σ H Q,t' σ H Q->t σ H Q):PT X e t':=λñ s σ H Q I q=>h ñ s σ H Q I Re
def PA.imp (h:PA X e t)(k:∀ σ H Q,t' σ H Q->t σ H Q):PA X e t':=λp ñ s σ H Q I q=>h p ñ s σ H Q I Re
def tP.go (S:Sd F σ H ε)(h:r ε d)(k:∀ x H',gR H H'->Sd Ŏ σ H' ε->DR Ŏ d x->Q x H'):tP r σ H Q:=a6f
def Mu.go (S:Sd F σ H ε)(h:r ε d)(k:∀ x H',gR H H'->Sd Ŏ σ H' ε->JS Ŏ d x->Q x H'):Mu r σ H Q:=a6f
section
variable {X:Cx}{a b:Expr}{ra rb:Rx}{rs:Á}{pos:Pos}
theorem rV (i):Rx:=λε d=>ε[i]?=!some d
theorem rC (c:D):Rx:=λ_ d=>d=c
def tP.at {Q:VK}(l:gR F H)(q)(h:DR F d v):Q v H:=q v H ė (h.mono<|aj l)
def dv (h:PE X e D4):PE X e (tP (rV i)):=h.imp λσ H Q ⟨F,ε,d,S,r,q⟩=>let ⟨v,h1,h2⟩:=S.rd i d r;#[v,h1,tP.at S.le q h2]
def Đ (i)(hN:X.N[i]?=!x:=ā)(hv:ZL X.env.scope x:=ă)(hd)(Qq):PE X Ÿ (tP<|rV i):=dv (pv i hN hv hd Qq)
def dC (h:PE X e (tC v))(hf:dY v=true:=ā):PE X e (tP (rC (Q1 v))):=h.imp λσ H Q J'=>by let#[CU,r,q]:=J';show tP.at S.le q (r▸BW hf)
inductive rO (f:D->D->D->Prop) (ra rb:Rx) (ε:En) (d:D):Prop
 |mk {x y:D}:ra ε x->rb ε y->f x y d->rO f ra rb ε d
theorem Qd (f:D->D->D->Prop)(r:R2):Prop:=∀ (F H:Hp) x y u v d (Q:VK),gR F H->f x y d->DR F x u->DR F y v->a8P->r u v H Q
def tP.op (k:Qd f r)(h:tP (rO f ra rb) σ H Q):Wg r ya wK σ H Q:=by obtain⟨F,ε,d,S,@⟨x,y,hx,hy,hf⟩,q⟩:=h;show tP.go S hx λu H1 e1 S1 q1=>tP.go S1 hy λv H2 e2 S2 q2=>k _ _ x y u v d Q S2.le hf (q1.mono<|aj S1.le) q2 λz H3 e3 q3=>q z H3 ŵ ?_;rwa [av e1 e2,av ļ e3]at q3
def dO (ho:L4 X (binaryOp op) r)(k:Qd f r)(ha)(hb:PE X b wK):PE X b6i kA:=(gV ho ha hb).imp λ_ _ _ h=>tP.op k h
def dX (ho:SU X r)(k:Qd f r)(ha)(hb:PE X b wK)(hs:jT b:=Ĉ):PE X Bn kA:=(Wx ho ha hb hs).imp λ_ _ _ h=>tP.op k h
def dM (ho)(k:Qd f r)(ha)(hb:PE X b wK)(hm):PE X Ū kA:=(yD ho ha hb hm).imp λ_ _ _ h=>tP.op k h
def dT {op:CmpOp}{f:D->D->D->Prop}{r:R2} (ho) (k:Qd f r) (ha) (hb:PE X b wK) (hm):PT X Ū (Od λε b=>rO f ra rb ε qV):=
 (yv ho ha hb hm).imp λσ H Q J'=>by let#[AQ]:=J';show tP.op k #[c0M]
theorem OH:Á:=λ_ l=>l=[]
def JC:PA X [] (Mu OH):=Jx.imp λσ H Q J'=>by let#[CU,r,q]:=J';show q [] H ė (by rw[r];rfl)
inductive rA (ra:Rx) (rs:Á) (ε:En):List D->Prop
 |mk {d:D}{m:χ}:ra ε d->rs ε m->rA ra rs ε (d::m)
def da (ha:PE X e ya)(hr:PA X es DF)(hs:starEach sQ X.env=Ō::starEach es X.env:=ā):PA X sQ (Mu (rA ra rs)):=(a9 ha hr hs).imp λσ H Q J'=>by let#[Xv,l,S,h,q]:=J';let#[nU]:=h;show tP.go S h1 λx H1 e1 S1 q1=>Mu.go S1 h2 λxs H2 e2 S2 q2=>q _ H2 ļ ?_;let q3:=q1.mono<|aj (H1:=H2) S1.le;rw[av e1 e2]at q2 q3;show#[x,xs,1,q3,q2]
abbrev _root_.Ä:=List D->D->Prop
theorem Pr (R:Ä):Sp:=λvs H Q _=>∃ F l d,gR F H/\JS F l vs/\R l d/\∀ x H',gR H H'->DR Ŏ d x->Q x H'
inductive rF (R:Ä) (rs:Á) (ε:En) (d:D):Prop
 |mk {l:χ}:rs ε l->R l d->rF R rs ε d
def Mu.call {dl:χ}(hd:∀ F,JS F dl dvs)(h:tP (rF (λl=>R (l++dl)) rs) σ H Q):Bl Eo dvs E DF σ H Q:=by
 let#[CU,#[nU],q]:=h;show Mu.go S h1 λxs H1 e1 S1 q1=>#[_,_,d,S1.le,q1.app<|hd _,h2,λx H2 e2 q2=>q x H2 ļ ?_]
 rwa [av e1 e2]at q2
def dF (Dd:Df X.prog X.w X.K X.mg X.base k x ps Eo)(hr)(hg:Gl X x)(ha:PA X sQ DF)(NB)(he)(LW):
  PE X ę MV:=(bg Dd hr hg ha NB he LW).imp λσ H Q J'=>by let#[CU,#[nU],q]:=J';show Mu.call (dl:=[]) (λ_=>rfl) #[CU,#[h1,by rwa [Fq]],q]
universe e
structure SV (F:Hp) (J:It) (l:χ):Prop where
 go:∀ H (i:Nat) d,gR F H->l[i]?=!d->J.go i H/\∀ x H',J.V' i H x H'->gR H H'/\DR Ŏ d x
 stop:∀ H (i:Nat),gR F H->l.length<=i->J.stop i H
def SV.mono (e:gR F F')(h:SV F J l):SV F' J l:=
 #[λH i d s q=>let ⟨a,b⟩:=h.go H i d (e.trans s) q;#[a,λx H' y=>let ⟨c,z⟩:=b x H' y;#[c,z.mono λa o q=>by
  unfold grow at q ⊢;by_cases n:H a=none
  ·rwa [if_pos n]at q ⊢
  ·rw[if_neg n]at q ⊢;show e _ _ q]],λH i s q=>h.stop H i (e.trans s) q]
theorem sN (g:TG)(r:D->En->En->Prop):Prop:=∀ (F H:Hp) σ ε ε' d x (Q:Υ),Sd F σ H ε->DR F d x->r d ε ε'->a4u->g x σ H Q
theorem rN (i):D->En->En->Prop:=λd ε ε'=>ε'=ε.set i !d
def a78 (i):sN Ej (rN i):=λF H σ ε ε' d x Q S h r q=>q _ Ė (by rw[r];show S.set h i)
theorem Yb:List Nat->List D->En->En->Prop
 | [],l,ε,ε'=>l=[]/\ε'=ε
 | i::is,l,ε,ε'=>∃ d m,l=d::m/\Yb is m (ε.set i !d) ε'
theorem ZD:List Nat->W8
 | []=>YH
 | i::is=>yV Ej (ZD is)
def c1N:∀ (is:À)(F H:Hp) σ ε ε' l xs (Q:Υ),Sd F σ H ε->JS F l xs->Yb is l ε ε'->a4u->ZD is xs σ H Q:=by
 intro r'
 induction r' with
 | nil=>
  intro F H σ ε ε' l xs Q S h r q;let#[2]:=r;show#[h,q σ rfl S]
 | cons i is ih'=>
  intro F H σ ε ε' l xs Q S h r q;let#[d,m,1,r]:=r;let#[va,nU]:=h;show#[va,ih' F H _ _ ε' m ws Q (S.set h1 i) h2 r λσ' e s=>q σ' (by rw[e];simp) s]
theorem a0C (is:À):D->En->En->Prop:=λd ε ε'=>∃ l,d=.tup l/\l.length=is.length/\Yb is l ε ε'
def b65 (K)(is:À):sN b3m (a0C is):=λF H σ ε ε' d x Q S h r q=>by let#[l,1,hl,r]:=r;let#[sL]:=h;show#[a,vs,1,M0.of<|S.le _ _ ha,by rw[hv.length,hl],c1N is F H σ ε ε' l vs Q S hv r q]
def a2G (S:Sd F σ H ε)(nT)(js):Sd F (oB nT js σ) H (List.replicate nT none++js.map λj=>(ε[j]?).join):=by
 show#[S.le,by simp[oB],λi d q=>?_];unfold oB;by_cases c:i<nT
 ·rw[FQ<|by simpa using c,List.getElem?_replicate,if_pos c]at q
  cases q
 ·rw[FT<|by simpa using c,List.length_replicate,F7]at q ⊢
  cases hj:js[i - nT]? with
  | none=>rw[hj]at q;cases q
  | some j=>
   rw[hj]at q;let q':(ε[j]?).join=!d:=Option.some.inj q
   cases hε:ε[j]? with
   | none=>rw[hε]at q';cases q'
   | some o=>
    rw[hε]at q';let#[v,a,b]:=S.rd j d ħ
    simp_all
set_option tactic.hygienic true in def CW (os:List (Option D))(hg:sN g r)(S:Sd F1 σ H1 ε)(hJ)(hl:l.length<=1000)(hcs:cs=js.map λj=>(ε[j]?).join)(ho:os.length=l.length)(ht:∀ p:En,p.length=nT->∀ (i:Nat) d o,l[i]?=!d->os[i]?=!o->∃ p':En,p'.length=nT/\r d (p++cs) (p'++cs)/\∃ b,rt (p'++cs) b/\match o with
   | none=>b=false
   | some v=>b=true/\re (p'++cs) v)(hG:∀ a H' vs,gR H1 H'->H1 a=none->H' a=!.lst vs->JS (grow F1 H1 (aW a H')) (os.filterMap id) vs->G a H'):gu nT js g (Od rt) (tP re) σ G J H1:=by
 intro a ha;show#[λi m σ' H'=>m=l.length - i/\i<=l.length/\gR H1 (aW a H')/\(∃ p,p.length=nT/\Sd (grow F1 H1<|aW a H') σ' H' (p++cs))/\∃ vs,H' a=!.lst vs/\vs.length<=i/\JS (grow F1 H1<|aW a H') ((os.take i).filterMap id) vs,#[l.length,1,FV _,?_,#[List.replicate nT none,by simp,?_],[],ae,F8 _,1],?_]
 ·rw[cY];show k8 ė ha
 ·let S0:=a2G S nT js;rw[<- hcs]at S0;show#[λb o q=>?_,S0.len,λi d q=>?_]
  ·rw[cY]at q;show aO ė ha b o (Kf _ _<|aH S.le (k8 ė ha) b o q)
  ·let#[v,p1,p2]:=S0.rd i d q;show#[v,p1,p2.mono<|aj S.le]
 ·rintro i m σ' H' ⟨rfl,hi,e1,⟨p,n0,S0⟩,vs,hv,hn,hD⟩;let hFi:gR F1 (grow F1 H1<|aW a H'):=aj S.le;by_cases c:i<l.length
  ·let#[go,yl]:=(hJ.mono hFi).go H' i l[i] S0.le<|ER c;show .inr ⟨go,λx H2 y=>?_⟩;let#[e2,hx]:=yl x H2 y;let S2:=S0.step e2;let c':i<os.length:=#[]
   let#[p',t3,t1,b,t4,t5]:=ht p n0 i l[i] os[i] (ER c)<|ER c';show hg _ H2 σ' _ _ l[i] x _ S2 hx t1 λσ3 n3 S3=>?_;let hH2:=e2 _ _ hv;let key:∀ H5,gR H2 H5->grow (grow (grow F1 H1<|aW a H') H' H2) H2 H5=grow F1 H1 (aW a H5)/\gR H1 (aW a H5):=λH5 e5=>by
    constructor
    ·rw[av e2 e5];funext b;unfold grow aW;by_cases q1:H' b=none
     ·rw[if_pos q1];by_cases q2:H1 b=none
      ·rw[if_pos q2,if_neg];intro z;rw[z,hv]at q1;cases q1
      ·cases q3:H1 b with
       | none=>show absurd q3 q2
       | some o=>
        let:=Kf _ _<|e1 b o q3;rw[q1]at this;cases this
     ·rw[if_neg q1];by_cases q2:H1 b=none
      ·by_cases z:b=a
       ·rw[if_pos z,if_pos z]
       ·cases q3:H' b with
        | none=>show absurd q3 q1
        | some o=>rw[e5 _ _<|e2 _ _ q3]
      ·rw[if_neg q2,if_neg q2]
    ·show λb o q=>by
      let z:=e1 b o q;unfold aW at z ⊢;by_cases zz:b=a
      ·rw[if_pos zz]at z;cases z
      ·rw[if_neg zz]at z ⊢;show e5 _ _ (e2 _ _ z)
   let next:∀ H4,gR H2 H4->∃ p,p.length=nT/\Sd (grow F1 H1<|aW a H4) σ3 H4 (p++cs):=λH4 e4=>#[p',t3,(key H4 e4).1▸S3.step e4]
   let old:∀ H4,gR H2 H4->JS (grow F1 H1<|aW a H4) ((os.take i).filterMap id) vs:=λH4 e4=>by rw[<- (key H4 e4).1];show (hD.mono<|aj S0.le).mono (aj S2.le)
   let htk:(os.take<|i+1).filterMap id=(os.take i).filterMap id++os[i].toList:=by
    rw[GL,ER c',List.filterMap_append]
    cases q:os[i] <;> simp
   show#[λH4=>gR H2 H4/\os[i]=none,λv H5=>gR H2 H5/\∃ d,os[i]=!d/\DR (grow F1 H1<|aW a H5) d v,fun H4 ⟨e4,h4⟩=>#[l.length - (i+1),#[],1,c,(key H4 e4).2,next H4 e4,vs,e4 _ _ hH2,#[],?g1],fun v H5 ⟨e5,d,h5,q5⟩=>#[vs,e5 _ _ hH2,Iz (Fs hn<|Fs hi hl)<|by decide +kernel,l.length - (i+1),#[],1,c,?g2,?g3,vs++[v],ae,by simp;lia,?g4],_,_,b,S3,t4,λH4 e4=>?g5]
   case g1=>rw[htk,h4];simpa using old H4 e4
   case g2=>rw[cY];show (key H5 e5).2
   case g3=>
    let#[p5,q2,S5]:=next H5 e5
    show#[p5,q2,λb o q=>?_,S5.len,λj d q=>?_]
    ·rw[cY]at q;by_cases z:b=a
     ·rw[z,ay ha]at q;unfold aW at q;rw[if_pos rfl]at q;cases q
     ·rw[a8 z];show S5.le b o q
    ·rw[cY];show S5.rd j d q
   case g4=>
    rw[cY,htk,h5];show (old H5 e5).app (.one q5)
   case g5=>
    change if b=true then _ else _
    cases hf:os[i] with
    | none=>
     simp_all
    | some d=>
     rw[hf]at t5;rw[if_pos t5.1];show tP.go (S3.step e4) t5.2 λv H5 e5 S5 q5=>#[e4.trans e5,d,1,by rw[av e4 e5,(key H5<|e4.trans e5).1]at q5;show q5]
  ·show .inl #[(hJ.mono hFi).stop H' i S0.le<|by lia,hG a H' vs (e1.trans Kf) ha hv<|by rwa [GV<|by lia]at hD]
def jz (ha:H1 a=none)(hv:H' a=!.lst vs)(h:JS (grow F1 H1 (aW a H')) l vs):DR (grow F1 H1 H') uq xV:=
 #[a,vs,1,by rw[ay ha];show hv,h.mono λb o q=>by
  unfold grow at q ⊢;by_cases n:H1 b=none
  ·rw[if_pos n]at q ⊢;show Kf _ _ q
  ·rwa [if_neg n]at q ⊢]
abbrev Ri:=En->List D->Prop
theorem tI (ri:Ri):TI:=λσ H R=>∃ F ε l,Sd F σ H ε/\ri ε l/\∀ J H',gR H H'->SV Ŏ J l->R J H'
def PI.imp (h:PI X tg e t)(k:∀ σ H R,t' σ H R->t σ H R):PI X tg e t':=λñ s σ H R I q=>h ñ s σ H R I Re
section
def yQ {K:Ψ}(h:Rd F a (.lst vs))(q:JS F l vs):SV F DH l:=
 #[λH i d s e=>let ⟨v,e1,e2⟩:=q.at e;#[#[vs,v,.inl<|h.mono s,e1],λx H' ⟨z,y⟩=>#[z▸gR.refl _,by let:=y vs<|.inl (h.mono s);rw[e1]at this;cases this;show e2.mono<|aj s]],λH i s z=>#[vs,.inl<|h.mono s,by rw[q.length];show z]]
def b2T (h:PE X e (tP r)):PI X tg e (tI λε l=>r ε uq):=(yz h).imp λσ H R ⟨F,ε,l,S,h,q⟩=>
 tP.go S h λx H1 e1 S1 J'=>by let#[vm]:=J';show#[a,ex,#[vs,.inl<|.inl (S1.le _ _ ha)],q _ H1 e1<|yQ (.inl ha) hv]
theorem rH (lo:Int)(n):χ:=(List.range n).map λ(i:Nat)=>.int (lo+(i:Int))
def a43 {lo:Int}:SV F (X7 lo n) (rH lo n):=
 #[λH i d s e=>(by
  unfold rH at e;rw[F7]at e;by_cases c:i<n
  ·rw[Hh c]at e;cases e;show#[c,λx H' J'=>(by let#[z,y]:=J';show#[z▸gR.refl _,y])]
  ·rw[Gu<|by simpa using c]at e;cases e),λH i s z=>show n<=i by unfold rH at z;simpa using z]
def Th (hg:Gl X "range")(hm:X.mg "range"=none)(ha:PA X [e] DF)(hs:starEach [e] X.env=[Ō]:=ā):PI X tg (.Call CT [e] [] pos) (tI λε l=>∃ n:Nat,n<=1000/\rs ε M1/\l=rH 0 n):=
 (qd hg hm ha hs).imp λσ H R ⟨F,ε,l,S,⟨n,hn,h,hl⟩,q⟩=>Mu.go S h λxs H1 e1 S1 hx=>by
  let#[va,nU]:=hx
  cases h1;cases h2;show#[n,1,sI,q _ H1 e1 (by rw[hl,Gq];show a43)]
def iR2 (hg:Gl X "range")(hm:X.mg "range"=none)(ha:PA X Ji DF)(hs:starEach Ji X.env=zE:=ā)(QH):
  PI X tg (.Call CT Ji [] pos) (tI λε l=>∃ m n:Nat,m<=1000/\n<=1000/\rs ε [.int m,.int n]/\l=rH m (n - m)):=
 (zW hg hm ha hs QH).imp λσ H R ⟨F,ε,l,S,⟨m,n,hm,hn,h,hl⟩,q⟩=>Mu.go S h λxs H1 e1 S1 hx=>by
  let#[va,h1,u,ws,1,h2,h3]:=hx
  cases h1;cases h2;cases h3;show#[m,n,1,#[],q _ H1 e1 (by rw[hl,show ((n) - (m:Int)).toNat=n - m by lia];show a43)]
def b4k (s)(hT:H T=none)(hx:DR F c x)(hy:DR F d y):gR H uX/\DR (grow F H uX) (.tup [c,d]) lH:=
 let g:=aj s
 #[aO ė hT,T,_,1,by rw[ay hT,ae],x,_,1,hx.mono g,.one<|hy.mono g]
variable {x1:Nat}
def iZ (hg:Gl X "zip")(hm:X.mg "zip"=none)(ha:PA X Ji DF)(hs:starEach Ji X.env=zE:=ā)(QH)(hn:X.base.err=none:=Ą):
  PI X Œ tF (tI λε l=>∃ m n,rs ε [.lst m,.lst n]/\l=(m.zip n).map λz=>.tup [z.1,z.2]):=
 (BE hg hm ha hs QH).imp fun σ H R ⟨F,ε,l,S,⟨m,n,h,hl⟩,q⟩=>Mu.go S h λxs H1 e1 S1 hx=>by
  let#[va,#[sL],u,ws,1,#[b,us,1,hb,hu],h3]:=hx
  cases h3;let qa:=λ{H':Hp} (s:gR (grow F H H1) H')=>JU.of (K:=X.K)<|s _ _ ha;let qb:=λ{H':Hp} (s:gR (grow F H H1) H')=>JU.of (K:=X.K)<|s _ _ hb;show⟨a,b,rfl,⟨vs,qa S1.le⟩,⟨us,qb S1.le⟩,q _ H1 e1 ⟨λH2 i d s e=>?_,λH2 i s z=>#[vs,us,qa s,qb s,?_]⟩⟩
  ·rw[hl,F7]at e
   cases hz:(m.zip n)[i]? with
   | none=>rw[hz]at e;cases e
   | some z=>
    rw[hz]at e;cases e;let#[z1,z2]:=Jr.mp hz;let#[x,x1,x2]:=hv.at z1;let#[y,y1,y2]:=hu.at z2;show#[#[vs,us,x,y,qa s,qb s,x1,y1],λw H3 J'=>?_];let#[T,hT,ew,x',y',XJ,e3]:=J';let:=q1 vs<|qa s;rw[x1]at this;cases this;let:=q2 us<|qb s;rw[y1]at this;cases this;subst e3 ew;show b4k s hT x2 y2
  ·let:=hv.length;let:=hu.length
   grind
def iE (hg:Gl X "enumerate")(hm:X.mg "enumerate"=none)(ha:PA X [e] DF)(hs:starEach [e] X.env=[Ō]:=ā)(hn:X.base.err=none:=Ą):
  PI X Œ (.Call b41 [e] [] pos) (tI λε l=>∃ m,rs ε [.lst m]/\l=m.zipIdx.map λz=>.tup [.int z.2,z.1]):=
 (su X.K hg hm ha rfl hs).imp fun σ H R ⟨F,ε,l,S,⟨m,h,hl⟩,q⟩=>Mu.go S h λxs H1 e1 S1 hx=>by
  let#[va,#[sL],h3]:=hx
  cases h3;let qa:=λ{H':Hp} (s:gR (grow F H H1) H')=>JU.of (K:=X.K)<|s _ _ ha;show⟨a,vs,rfl,S1.le _ _ ha,q _ H1 e1 ⟨λH2 i d s e=>?_,λH2 i s z=>#[vs,qa s,?_]⟩⟩
  ·rw[hl,F7,List.getElem?_zipIdx]at e
   cases hz:m[i]? with
   | none=>rw[hz]at e;cases e
   | some z=>
    rw[hz]at e;cases e;let#[x,x1,x2]:=hv.at hz;show#[#[vs,x,qa s,x1],λw H3 J'=>?_];let#[T,hT,ew,x',q1,e3]:=J';let:=q1 vs<|qa s;rw[x1]at this;cases this;subst e3 ew;show b4k s hT (by simp[DR]) x2
  ·let:=hv.length
   simp_all
universe e
theorem ZM:Nat->D->List D->Prop
 | 0,d,l=>l=[d]
 | n+1,d,l=>d=.tup l/\l.length=n+1
inductive Tn (n:Nat) (cs:En) (rt:Å) (re:Rx) (x:D):Option D->Prop
 |no {xs:χ}:ZM n x xs->rt yu false->Tn n cs rt re x none
 |yes {xs:χ}{v:D}:ZM n x xs->rt yu true->re yu v->Tn n cs rt re x !v
inductive rL (n:Nat) (js:À) (ri:Ri) (rt:Å) (re:Rx) (ε:En) (d:D):Prop
 |mk {l:χ}{os:List (Option D)}:ri ε l->l.length<=1000->Paired (Tn n (js.map λj=>(ε[j]?).join) rt re) l os->d=.lst SB->rL n js ri rt re ε d
def Key:∀ (n:Nat)(k:Nat)(l:χ)(q p cs:En),l.length=n->q.length=k->p.length=n->Yb (List.range' k n) l (q++(p++cs)) (q++b8F):=by
 intro r'
 induction r' with
 | zero=>
  intro k l q p cs hl hq hp
  cases Jc hl;cases Jc hp;show#[2]
 | succ n ih'=>
  intro k l q p cs hl hq hp
  match l,p,hl,hp with
  | d::m,o::p,hl,hp=>
   show#[d,m,1,?_];let:=ih' (k+1) m (q++[!d]) p cs į (by simp[hq]) (by simpa using hp)
   simp_all
theorem nW (K):Nat->TG
 | 0=>bM 0
 | n+1=>Av K (n+1) (ZD b47)
theorem a0D:Nat->D->En->En->Prop
 | 0=>rN 0
 | n+1=>a0C b47
def Xk (K):∀ n,sN qp (a0D n):=by
 intro r'
 induction r' with
 | zero=>
  show a78 0
 | succ n ih'=>
  let:=b65 K<|List.range' 0 (n+1);rwa [List.length_range']at this
theorem lI:Nat->Nat
 | 0=>1
 | n+1=>n+1
def a7o:∀ {n:Nat}{d:D}{l:χ}{p cs:En},ZM n d l->p.length=lI n->a0D n d (p++cs) b8F/\(l.map some).length=lI n:=by
 intro r'
 induction r' with
 | zero=>
  intro d l p cs h hp
  match p,hp with
  | [o],_=>rw[show l=[d] from h];show#[2]
 | succ n ih'=>
  intro d l p cs y4' hp;let#[nU]:=y4';show #[#[l,h1,by simp_all,Key (n+1) 0 l [] p cs h2 rfl hp],by rw[EO];show h2]
section
variable {K:Ψ}
def qc {os:List b7S}(S:Sd F σ H ε)(hJ:SV F J l)(hl:l.length<=1000)(ht:Paired a72 l os)(hG:∀ a H' vs,gR H H'->H a=none->H' a=!.lst vs->JS (grow F H (aW a H')) SB vs->G a H'):gu yq js qp sV z8 σ G J H:=
 CW os (Xk K n) S hJ hl rfl (Paired.length ht).symm (λp hp i d o h1 h2=>by
  let#[o',ou]:=Paired.at ht h1;rw[h2]at h3;cases h3
  cases h4 with
  | no h4 h5=>
   let#[mL]:=a7o h4 hp;show#[_,g2,g1,_,h5,1]
  | yes h4 h5 h6=>
   let#[mL]:=a7o h4 hp;show#[_,g2,g1,_,h5,1,h6]) hG
def sg (h:tP oP σ H Q):jn yO yq js qp sV z8 σ H Q:=
 have ⟨F,ε,d,S,.mk (l:=l) h1 h2 h3 h4,q⟩:=h
 #[Xv,l,S,h1,λJ H1 e1 hJ=>qc uC hJ h2 h3 λa H2 vs e2 ha hv hd=>q _ H2 ļ (by let:=jz ha hv hd;rw[av e1 e2]at this;rw[h4];show this)]
def dL (n)(hc)(S:bA X scope yq js N')(hi:PI X tg iter yO)(hg:∀ cells C s H fp,PG ĕ tg pR)(ht:∀ cells C s H fp,NI ĕ ifs sV)(he:∀ cells C s H fp,PE ĕ elt z8)(hs):PE X uV (tP oP):=(eQ hc S hi hg ht he hs).imp λ_ _ _=>sg
def NI.imp (h:NI X ifs t)(k:∀ σ H Q,t' σ H Q->t σ H Q):NI X ifs t':=λñ s σ H Q I q=>h ñ s σ H Q I Re
theorem zR:Å:=λ_ b=>b=true
def df0:NI X [] (Od zR):=b3J.imp λσ H Q J'=>by let#[Xv,b,S,h,q]:=J';subst h;show q H ė
universe e
section
variable {α:Type}
def iW:∀ {xs:List α},(∀ x∈xs,P (f x) (g x))->Paired P (xs.map f) (xs.map g):=by
 intro r'
 induction r' with
 | nil=>
  intro _;show .nil
 | cons x xs ih'=>
  intro h;show .cons (h x Fy) (ih' λy hy=>h y<|Ft _ hy)
def aZ {xs:List α}{u h:α->D}(hi:ri ε mr)(hl:xs.length<=1000)(k:∀ x∈xs,∃ l,ZM n (u x) l/\re vP (h x)):rL n js ri zR re ε (.lst (xs.map h)):=
 .mk hi į (iW λx hx=>let ⟨l,a,b⟩:=k x hx;.yes a rfl b) ħ
def bv {xs:List α}{u h:α->D}(c:α->Bool)(hi:ri ε mr)(hl:xs.length<=1000)(k:∀ x∈xs,∃ l,ZM n (u x) l/\rt vP (c x)/\(c x=true->re vP (h x))):rL n js ri rt re ε (.lst ((xs.filter c).map h)):=
 .mk (os:=xs.map λx=>if c x=true then some (h x) else none) hi į (iW λx hx=>by
  let#[l,a,b,d]:=k x hx;by_cases z:c x=true
  ·rw[if_pos z];show .yes a (z▸b) (d z)
  ·rw[if_neg z];show .no a<|Bool.eq_false_iff.mpr z▸b) (by
  congr 1;rw[List.filterMap_map];clear hi hl k
  induction xs with
  | nil=>rfl
  | cons x xs ih=>
   rw[GC,Iv];by_cases z:c x=true
   ·simp_all
   ·simp only[Function.comp_apply,if_neg z];show ih)
universe e
inductive Sl where
 |un|fz (d:D)|ow (d:D)
abbrev Ev:=List Sl
theorem Sl.z:Sl->Option D
 | .fz d=>!d
 | _=>none
theorem Sl.a:Sl->Option D
 | .un=>none
 | .fz d=>!d
 | .ow d=>!d
theorem RE (F H:Hp):D->Addr->Prop
 | .lst l,a=>∃ vs,H a=!.lst vs/\JS F l vs
 | .dct k l,a=>∃ ķ,H a=!.dK ķ/\ķ.map (·.1)=k/\JS F l Ķ
 | _,_=>False
def RE.some:∀ {d:D}{a:Addr},RE F H d a->H a≠none:=by
 intro d a h z
 cases d<;>first|(let#[_,h,_]:=h;rw[h]at z;cases z)|cases h
def RE.mono (e:gR F F'):∀ {d:D}{a:Addr},(∀ o,H a=Option.some o->H' a=Option.some o)->RE F H d a->RE F' H' d a
 | .lst _,_,s,⟨vs,h,q⟩=>#[vs,s _ h,q.mono e]
 | .dct _ _,_,s,⟨vs,h,k,q⟩=>#[vs,s _ h,k,q.mono e]
def RE.dr (e:gR F G):∀ {d:D}{a:Addr},(∀ o,H a=Option.some o->G a=Option.some o)->RE F H d a->DR G d xV
 | .lst _,a,s,⟨vs,h,q⟩=>#[E5,s _ h,q.mono e]
 | .dct _ _,a,s,⟨vs,h,k,q⟩=>#[a,vs,1,.inl<|s _ h,k,q.mono e]
structure Ss (F0 H0 F:Hp) (σ:St) (H:Hp) (ε:Ev):Prop where
 b0:gR H0 H
 f0:gR F0 H0
 up:gR F0 F
 lo:gR F ur
 len:ε.length<=σ.length
 rz:∀ (i:Nat) d,ε[i]?=!.fz d->∃ v,σ[i]?=!some v/\DR F d v
 ro:∀ (i:Nat) d,ε[i]?=!.ow d->∃ a,σ[i]?=!some xV/\F a=none/\H0 a=none/\RE F H d a
 ap:∀ (i j:Nat) c d a,i≠j->ε[i]?=!.ow c->ε[j]?=!.ow d->σ[i]?=!some xV->σ[j]?≠!some xV
section
variable {F0 H0 F F' H H1:Hp}{σ:St}{ε:Ev}
def Ss.le (S):gR F H:=λa o q=>aH S.f0 S.b0 a o (S.lo a o q)
def aT (s:gR H H1):gR ur (grow F0 H0 H1):=λa o q=>by
 unfold grow at q ⊢;by_cases n:H0 a=none
 ·rw[if_pos n]at q ⊢;show s _ _ q
 ·rwa [if_neg n]at q ⊢
def Ss.step (S)(e:gR H H1)(u:gR F F')(l:gR F' (grow F0 H0 H1))(n:∀ a,F a=none->H a≠none->F' a=none):Ss F0 H0 F' σ H1 ε where
 b0:=S.b0.trans e
 f0:=S.f0
 up:=S.up.trans u
 lo:=l
 len:=S.len
 rz:=λi d q=>let ⟨v,a,b⟩:=S.rz i d q;#[v,a,b.mono u]
 ro:=λi d q=>let ⟨a,p1,p2,p3,p4⟩:=S.ro i d q;#[a,p1,n a p2 p4.some,p3,p4.mono u<|e a]
 ap:=S.ap
def Ss.KN (S)(e:gR H H1):Ss F0 H0 F σ H1 ε:=S.step e ė (S.lo.trans<|aT e) λ_ h _=>h
def Ss.grow (S)(e:gR H H1):Ss F0 H0 xi σ H1 ε:=S.step e sS (λa o q=>by
 unfold L2.grow at q;by_cases n:H a=none
 ·rw[if_pos n]at q;rw[ay (by cases z:H0 a with
   | none=>rfl
   | some u=>rw[S.b0 _ _ z]at n;cases n)]
  show q
 ·rw[if_neg n]at q;show aT e _ _<|S.lo _ _ q) λa h k=>by unfold L2.grow;rw[if_neg k];show h
def Ss.z (S):Sd F σ H Ec:=#[S.le,by simpa using S.len,λi d q=>by
 rw[F7]at q
 cases h:ε[i]? with
 | none=>rw[h]at q;cases q
 | some s=>
  rw[h]at q
  cases s with
  | fz c=>cases q;show S.rz i _ h
  | _=>cases q]
def Ss.a (S):Sd (L2.grow F0 H0 H) σ H Ĭ:=#[aH S.f0 S.b0,by simpa using S.len,λi d q=>by
 rw[F7]at q
 cases h:ε[i]? with
 | none=>rw[h]at q;cases q
 | some s=>
  rw[h]at q
  cases s with
  | un=>cases q
  | fz c=>cases q;let#[v,a,b]:=S.rz i _ h;show#[v,a,b.mono S.lo]
  | ow c=>cases q;let#[a,AB,p4]:=S.ro i _ h;show#[_,p1,p4.dr S.lo λo z=>by rw[ay p3];show z]]
def Ss.RL (S)(h:DR F d v)(i):Ss F0 H0 F CD H SL:=by
 let len:=S.len;let old:∀ {j:Nat}{s:Sl},(ε.set i<|.fz d)[j]?=!s->(i=j/\s=.fz d/\_[j]?=!some v)\/(i≠j/\ε[j]?=!s/\(σ.set i<|some v)[j]?=σ[j]?):=λ{j s} q=>by
  rw[HM]at q;rw[HM];by_cases c:i=j
  ·lia
  ·rw[if_neg c]at q;show .inr b4D
 show#[S.b0,S.f0,S.up,S.lo,by simpa using len,λj c q=>?_,λj c q=>?_,λj k c e a n q1 q2 z1 z2=>?_]
 ·rcases old q with⟨_,q2,q3⟩|⟨_,q2,q3⟩
  ·cases q2;show#[v,q3,h]
  ·rw[q3];show S.rz j c q2
 ·rcases old q with⟨_,q2,_⟩|⟨_,q2,q3⟩
  ·cases q2
  ·rw[q3];show S.ro j c q2
 ·rcases old q1 with⟨_,y,_⟩|⟨_,y1,y2⟩
  ·cases y
  ·rcases old q2 with⟨_,y,_⟩|⟨_,y3,y4⟩
   ·cases y
   ·rw[y2]at z1;rw[y4]at z2;show S.ap j k c e a n y1 y3 z1 z2
def Ss.frz (S)(h:ε[i]?=!.ow d):∃ F',gR F F'/\Ss F0 H0 F' σ H SL:=by
 let#[a,AB,p4]:=S.ro i d h;show let F':=λb=>if b=a then H a else F b;?_
 let u:gR F F':=λb o q=>by
  lia
 let old:∀ {j:Nat}{s:Sl},(ε.set i<|.fz d)[j]?=some s->(i=j/\s=.fz d)\/(i≠j/\ε[j]?=some s):=λ{j s} q=>by
  rw[HM]at q;by_cases c:i=j
  ·simp_all
  ·rw[if_neg c]at q;show .inr #[c,q]
 show#[F',u,S.b0,S.f0,S.up.trans u,c1c,c0g]
 ·by_cases z:b=a
  ·rw[show F' b=H a from if_pos z]at q;rw[z,ay p3];show q
  ·rw[show F' b=F b from if_neg z]at q;show S.lo _ _ q
 ·rcases old q with⟨y1,y⟩|⟨_,y⟩
  ·cases y;subst y1;show#[_,p1,p4.dr u λo z=>(if_pos rfl).trans z]
  ·let#[v,x1,x2]:=S.rz j c y;show#[v,x1,x2.mono u]
 ·rcases old q with⟨_,y⟩|⟨y1,y⟩
  ·cases y
  ·let#[b,BQ]:=S.ro j c y;show#[b,x1,(if_neg λz:b=a=>S.ap i j d c a y1 h y p1<|z▸x1).trans x2,x3,x4.mono u λ_ z=>z]
 ·rcases old q1 with⟨_,y⟩|⟨_,y1⟩
  ·cases y
  ·rcases old q2 with⟨_,y⟩|⟨_,y2⟩
   ·cases y
   ·show S.ap j k c e b n y1 y2 z1 z2
def Ss.a0w {a:Addr}(S)(i)(ha:H a=none)(e:gR H H1)(h:RE (aW a (L2.grow F H H1)) H1 d a):∃ F',gR F F'/\Ss F0 H0 F' (σ.set i !.ref a) H1 ud:=by
 let len:=S.len;let u:gR F (aW a<|L2.grow F H H1):=λb o q=>by rw[aR (λz=>by rw[z]at q;rw[S.le _ _ q]at ha;cases ha)];show aj S.le _ _ q
 let ha0:H0 a=none:=by cases z:H0 a with
  | none=>rfl
  | some o=>rw[S.b0 _ _ z]at ha;cases ha
 let S2:=S.step e u (Kf.trans (S.grow e).lo) λb p q=>by
  unfold aW L2.grow
  simp_all
 let old:∀ {j:Nat}{s:Sl},(ε.set i<|.ow d)[j]?=!s->(i=j/\s=.ow d/\(σ.set i<|some xV)[j]?=!(some<|.ref a))\/(i≠j/\ε[j]?=some s/\_[j]?=σ[j]?):=λ{j s} q=>by
  rw[HM]at q;rw[HM];by_cases c:i=j
  ·lia
  ·rw[if_neg c]at q;show .inr b4D
 let far:∀ {j:Nat}{c:D},ε[j]?=!_->σ[j]?≠!(some<|.ref a):=λ{j c} q z=>by let#[b,x1,_,_,x4]:=S.ro j c q;rw[x1]at z;cases z;show x4.some ha
 show#[_,u,S2.b0,S2.f0,S2.up,S2.lo,by simpa using len,c0g]
 ·rcases old q with⟨_,y,_⟩|⟨_,y,y3⟩
  ·cases y
  ·rw[y3];show S2.rz j c y
 ·rcases old q with⟨_,y,y3⟩|⟨_,y,y3⟩
  ·cases y;show#[a,y3,if_pos rfl,ha0,h]
  ·rw[y3];show S2.ro j c y
 ·rcases old q1 with⟨y1,y2,y3⟩|⟨y1,y2,y3⟩
  ·simp_all
  ·rcases old q2 with⟨_,_,w3⟩|⟨_,w2,w3⟩
   ·simp_all
   ·rw[y3]at z1;rw[w3]at z2;show S.ap j k c e b n y2 w2 z1 z2
def Ss.chg {a:Addr}(S)(h:ε[i]?=!.ow c)(ha:σ[i]?=!some xV)(hn:RE F BH d a):Ss F0 H0 F σ BH ud:=by
 let#[b,AB,p4]:=S.ro i c h;let old:∀ {j:Nat}{s:Sl},(ε.set i<|.ow d)[j]?=some s->(i=j/\s=.ow d)\/(i≠j/\ε[j]?=some s):=λ{j s} q=>by
  rw[HM]at q;by_cases c:i=j
  ·simp_all
  ·rw[if_neg c]at q;show .inr #[c,q]
 show#[λb o q=>?_,S.f0,S.up,c1c,λj c q=>?_,λj c' q=>?_,λj k c' e b n q1 q2 z1 z2=>?_]
 ·rw[a8 λz=>by simp_all];show S.b0 _ _ q
 ·let q':=S.lo _ _ q;unfold L2.grow at q' ⊢;rw[a8 λz=>by simp_all];show q'
 ·rcases old q with⟨_,y⟩|⟨_,y⟩
  ·cases y
  ·show S.rz j c y
 ·rcases old q with⟨y1,y⟩|⟨y1,y⟩
  ·simp_all
  ·let#[b,BQ]:=S.ro j c' y;show#[b,x1,x2,x3,x4.mono ė λo z=>by rw[a8 (λzz:b=a=>S.ap i j c c' a y1 h y ha<|zz▸x1)];show z]
 ·rcases old q1 with⟨y1,y⟩|⟨y1,y⟩
  ·cases y;rcases old q2 with⟨w1,_⟩|⟨_,w⟩
   ·show n (y1.symm.trans w1)
   ·subst y1;show S.ap i k c e b n h w z1 z2
  ·rcases old q2 with⟨w1,w⟩|⟨_,w⟩
   ·cases w;subst w1;show S.ap j i c' c b n y h z1 z2
   ·show S.ap j k c' e b n y w z1 z2
universe e
inductive Fl where
 |nx (ε:Ev)|rt (d:D)
abbrev Rs:=Ev->Fl->Prop
theorem W' (F0 H0 F:Hp)(E:d8):Fl->Prop
 | .nx ε=>∀ σ H F',gR F F'->Ss F0 H0 F' σ H ε->E.nx σ H
 | .rt d=>∀ x H,gR H0 H->gR F H->DR ur d x->E.rt x H
def W'.up (e:gR F F'):∀ {f:Fl},W' F0 H0 F E f->W' F0 H0 F' E f
 | .nx _,h=>λσ H F2 u S=>h σ H F2 (e.trans u) S
 | .rt _,h=>λx H a b=>h x H a (e.trans b)
theorem tQ (F0 H0:Hp)(r:Rs):TS:=λE σ H=>∃ F ε f,Ss F0 H0 F σ H ε/\r ε f/\W' F0 H0 F E f
theorem QS (X)(st)(r:Rs):Prop:=∀ F0 H0,PS X st lM
theorem Pn (X)(st:Í)(r:Rs):Prop:=∀ F0 H0,N7 X st lM
def PS.imp (h:PS X e t)(k:∀ E σ H,t' E σ H->t E σ H):PS X e t':=λñ s σ H D I q=>h ñ s σ H D I Re
def N7.imp (h:N7 X e t)(k:∀ E σ H,t' E σ H->t E σ H):N7 X e t':=λñ s σ H D I q=>h ñ s σ H D I Re
section
variable {st:Stmt}{r r2:Rs}{re:Rx}{rt:Å}
def q0:Pn X [] λε f=>f=.nx ε:=λF0 H0=>KH.imp λE σ H J'=>by let#[BU]:=J';subst h;show p σ H F ė S
inductive oY (r r2:Rs) (ε:Ev):Fl->Prop
 |nx {ε1:Ev}{f:Fl}:r ε (.nx ε1)->r2 ε1 f->oY r r2 ε f
 |rt {d:D}:r ε AR->oY r r2 ε AR
def qC (h:QS X st r)(k:Pn X ss r2):Pn X (st::ss) (oY r r2):=λF0 H0=>(ai fj<|k F0 H0).imp λE σ H J'=>by
 let#[BU]:=J'
 cases h with
 | nx h1 h2=>show#[Xv,_,S,h1,λσ' H' F' u S'=>#[c21]]
 | rt h1=>show#[Xv,_,S,h1,p]
def q1 (h:QS X st r):Pn X [st] r:=λF0 H0=>aq fj
def b4b:QS X st λ_ _=>False:=λF0 H0=>a4s.imp λE σ H J'=>by let#[BU]:=J';show h.elim
def qZ (i)(h:Pn X ss r):Pn X ss λε f=>∃ d,ε[i]?=!.ow d/\r SL f:=λF0 H0=>(h F0 H0).imp λE σ H J'=>by let#[Xv,f,S,#[d,nU],p]:=J';let#[F',u,S']:=S.frz h1;show#[c21]
inductive Bw (i:Nat) (re:Rx) (ε:Ev):Fl->Prop
 |mk {d:D}:re Ec d->Bw i re ε (.nx SL)
def qS (h:PS X st vi)(k:∀ σ H Q,tP re σ H Q->te σ H Q):QS X st (Bw i re):=λF0 H0=>h.imp λE σ H J'=>by let#[BU]:=J';let#[h1]:=h;show k _ _ _ (tP.go S.z h1 λx H1 e1 _ q1=>p _ H1 _ sS<|(S.grow e1).RL q1 i)
theorem lL:D->Bool
 | .non|.bl _|.int _|.str _=>true
 | _=>false
def Es:∀ {d:D}{v:V},lL d=true->DR F d v->DR G d v:=by
 intro d v h i
 cases d<;>first|show i|cases h
inductive a0F (i:Nat) (re:Rx) (ε:Ev):Fl->Prop
 |mk {d:D}:re Ĭ d->lL d=true->a0F i re ε (.nx SL)
theorem tN (re:Rx):TE:=λσ H Q=>∃ F ε d,Sd F σ H ε/\re ε d/\∀ a H',gR H H'->H a=none->RE (aW a Ŏ) H' d a->Q xV H'
def tN.p (h:tP re σ H Q):tN re σ H Q:=let ⟨F,ε,d,S,h1,q⟩:=h;#[CU,h1,λa H' e n w=>q _ H' e (w.dr Kf λo z=>by rw[ay n];show z)]
inductive Bv (i:Nat) (re:Rx) (ε:Ev):Fl->Prop
 |mk {d:D}:re Ec d->Bv i re ε (.nx ud)
def qO (h:PS X st vi)(k:∀ σ H Q,tN re σ H Q->te σ H Q):QS X st (Bv i re):=λF0 H0=>h.imp λE σ H J'=>by let#[BU]:=J';obtain @⟨d,h1⟩:=h;show k _ _ _ #[F,_,d,S.z,c2J];let#[F',u,S']:=S.a0w i n e1 w;show p _ H1 F' u S'
inductive Xx (re:Rx) (ε:Ev) (f:Fl):Prop
 |mk {d:D}:re Ĭ d->f=.rt d->Xx re ε f
def qR (h:PE X e z8):QS X b67 (Xx re):=λF0 H0=>(bB h).imp λE σ H J'=>by let#[Xv,f,S,#[nU],p]:=J';subst h2;show tP.go S.a h1 λx H1 e1 _ q1=>p x H1 (S.b0.trans e1) (S.le.trans e1) (by rw[av S.b0 e1]at q1;show q1)
inductive rIf (rt:Å) (rx ry:Rs) (ε:Ev) (f:Fl):Prop
 |t:rt Ĭ true->rx ε f->rIf rt rx ry ε f
 |f:rt Ĭ false->ry ε f->rIf rt rx ry ε f
def qI (h:PT X c sV)(ha:Pn X a rx)(hb:Pn X b ry):QS X De (rIf rt rx ry):=λF0 H0=>(gy h (ha F0 H0)<|hb F0 H0).imp λE σ H J'=>by
 let#[BU]:=J'
 cases h with
 | t h1 h2=>show#[_,_,true,c22]
 | f h1 h2=>show#[_,_,false,c22]
inductive Z4 (rt:Å) (rb:Rs):Nat->Ev->Fl->Prop
 |done {n:Nat}{ε:Ev}:rt Ĭ false->Z4 rt rb n ε vv
 |next {n:Nat}{ε ε2:Ev}{f:Fl}:rt Ĭ true->rb ε vc->Z4 rt rb n ε2 f->Z4 rt rb (n+1) ε f
 |ret {n:Nat}{ε:Ev}{d:D}:rt Ĭ true->rb ε AR->Z4 rt rb n ε AR
theorem rWh (rt:Å)(rb:Rs):Rs:=λε f=>∃ n,Z4 rt rb n ε f
set_option tactic.hygienic true in def qW (hp)(hc:PT X c (Od rt))(hb:Pn X ss rb):QS X (.While c ss [] pos) (rWh rt rb):=λF0 H0=>(BC hp hc<|hb F0 H0).imp λE σ H J'=>by
 let#[F,ε,f,S,#[n,h],p]:=J';show#[λm σ H=>∃ F' ε',gR F F'/\Ss F0 H0 F' σ H ε'/\Z4 rt rb m ε' f,#[n,F,ε,gR.refl _,S,h],fun m σ H ⟨F',ε',u,S',w⟩=>?_]
 cases w with
 | done t=>show#[_,_,false,S'.a,t,λH1 e1=>p σ H1 F' u<|S'.KN e1]
 | next t b w=>show#[_,_,true,S'.a,t,λH1 e1=>#[λσ' H'=>∃ F2,gR F F2/\Ss F0 H0 F2 σ' H' _,λσ2 H2 J'=>(by let#[F2,u2,S2]:=J';show#[_,GJ _,F2,_,u2,S2,w]),F',ε',_,S'.KN e1,b,λσ2 H2 F2 u2 S2=>#[F2,u.trans u2,S2]]]
 | ret t b=>show#[_,_,true,S'.a,t,λH1 e1=>#[λ_ _=>False,λ_ _ z=>z.elim,F',ε',_,S'.KN e1,b,p.up u]]
abbrev _root_.Ù:=Ev->Prop
abbrev _root_.Ô:=D->Ev->Ù
theorem W7 (g:TG)(q:Ô):Prop:=∀ (F0 H0 F H:Hp) σ ε ε' d x (Q:Υ),Ss F0 H0 F σ H ε->DR F d x->q d ε ε'->(∀ σ',Ss F0 H0 F σ' H ε'->Q σ' H)->g x σ H Q
def aD (i):W7 Ej λd ε ε'=>ε'=ε.set i (.fz d):=λF0 H0 F H σ ε ε' d x Q S h r q=>q _ (by subst r;show S.RL h i)
theorem sets:List Nat->List D->Ev->Ev
 | i::is,d::l,ε=>sets is l SL
 | _,_,ε=>ε
def c2w:∀ (is:À)(F0 H0 F H:Hp) σ ε l xs (Q:Υ),Ss F0 H0 F σ H ε->JS F l xs->l.length=is.length->(∀ σ',Ss F0 H0 F σ' H (sets is l ε)->Q σ' H)->ZD is xs σ H Q:=by
 intro r'
 induction r' with
 | nil=>
  intro F0 H0 F H σ ε l xs Q S h r q
  cases Jc r;show#[h,q σ S]
 | cons i is ih'=>
  intro F0 H0 F H σ ε l xs Q S h r q
  match l,r with
  | d::m,r=>
   let#[va,nU]:=h;show#[va,ih' F0 H0 F H _ _ m ws Q (S.RL h1 i) h2 (by simpa using r) q]
def de (K)(is:À):W7 b3m λd ε ε'=>∃ l,d=.tup l/\l.length=is.length/\ε'=sets is l ε:=λF0 H0 F H σ ε ε' d x Q S h r q=>by let#[l,1,hl,1]:=r;let#[sL]:=h;show#[a,vs,1,M0.of<|S.le _ _ ha,by rw[hv.length,hl],c2w is F0 H0 F H σ ε l vs Q S hv hl q]
inductive jU (q:Ô) (rb:Rs):Ev->List D->Fl->Prop
 |done {ε:Ev}:jU q rb ε [] vv
 |next {ε ε1 ε2:Ev}{d:D}{l:χ}{f:Fl}:q d ε ε1->rb ε1 vc->jU q rb ε2 l f->jU q rb ε (d::l) f
 |ret {ε ε1:Ev}{d v:D}{l:χ}:q d ε ε1->rb ε1 (.rt v)->jU q rb ε (d::l) (.rt v)
set_option tactic.hygienic true in def mB {tb:TS}(SG:∀ E σ H,tQ F0 H0 rb E σ H->tb E σ H)(hg:W7 g q)(S:Ss F0 H0 F1 σ H1 ε)(hJ)(h:jU q rb ε l f)(p:W' F0 H0 F1 E f):
  ∃ W:Nat->Nat->Υ,(∃ m,W 0 m σ H1)/\∀ i m σ H,W i m σ H->
   (J.stop i H/\E.nx σ H)\/(J.go i H/\∃ N:Υ,Ġ/\∀ x H',J.V' i H x H'->g x σ H' λσ2 H2=>tb { E with nx:=N,ct:=N,bk:=E.nx } σ2 H2):=by
 show#[λi m σ H=>m=l.length - i/\i<=l.length/\∃ F' ε',gR F1 F'/\Ss F0 H0 F' σ H ε'/\jU q rb ε' (l.drop i) f,#[_,1,FV _,F1,ε,gR.refl _,S,h],?_];rintro i m σ H ⟨rfl,hi,F',ε',u,S',w⟩;by_cases c:i<l.length
 ·rw[Hm c]at w;let#[go,yl]:=(hJ.mono u).go H i l[i] S'.le<|ER c;show .inr #[go,?_]
  cases w with
  | next t b w=>
   show#[λσ' H'=>∃ F2,gR F1 F2/\Ss F0 H0 F2 σ' H' _,λσ2 H2 J'=>(by let#[F2,u2,S2]:=J';show#[_,#[],1,c,F2,_,u2,S2,w]),λx H2 y=>?_];let#[e2,hx]:=yl x H2 y;show hg _ _ _ _ _ _ _ _ x _ (S'.grow e2) hx t λσ3 S3=>SG _ _ _ #[_,_,_,S3,b,λσ4 H4 F4 u4 S4=>#[F4,u.trans<|(aj S'.le).trans u4,S4]]
  | ret t b=>
   show#[λ_ _=>False,λ_ _ z=>z.elim,λx H2 y=>?_];let#[e2,hx]:=yl x H2 y;show hg _ _ _ _ _ _ _ _ x _ (S'.grow e2) hx t λσ3 S3=>SG _ _ _ #[_,_,_,S3,b,p.up<|u.trans (aj S'.le)]
 ·rw[List.drop_of_length_le<|by lia]at w
  cases w;show .inl #[(hJ.mono u).stop H i S'.le<|by lia,p σ H F' u S']
inductive jr (ri:Ri) (q:Ô) (rb:Rs) (ε:Ev) (f:Fl):Prop
 |mk {l:χ}:ri Ec l->jU q rb ε l f->jr ri q rb ε f
def qL (hp)(hc)(hi:PI X tg iter yO)(ht:PG X tg g)(hg:W7 g q)(hb:Pn X ss rb)(hs):
  QS X IR yJ:=λF0 H0=>(bP hp hc hi ht (hb F0 H0) hs).imp fun E σ H ⟨F,ε,f,S,.mk (l:=l) h1 h2,p⟩=>
 #[F,_,l,S.z,h1,λJ H1 e1 hJ=>mB (λ_ _ _ h=>h) hg iP hJ h2<|p.up sS]
inductive RM (re:Rx) (ε:Ev) (d:D):Prop
 |z:re Ec d->RM re ε d
 |a:re Ĭ d->lL d=true->RM re ε d
def RM.go (S)(h:RM re ε d)(k:∀ x H1 F',gR H H1->gR F F'->Ss F0 H0 F' σ H1 ε->DR F' d x->Q x H1):tP re σ H Q:=by
 cases h with
 | z h=>show tP.go S.z h λx H1 e1 _ q1=>k x H1 _ e1 sS iP q1
 | a h hf=>show tP.go S.a h λx H1 e1 _ q1=>k x H1 _ e1 ė (S.KN e1) (Es hf q1)
inductive Wr (i:Nat) (re:Rx) (ε:Ev):Fl->Prop
 |mk {l:χ}{d:D}:ε[i]?=!.ow uq->l.length<=1000->RM re ε d->Wr i re ε (.nx (ε.set i (.ow (.lst (l++[d])))))
def qA {K:Ψ}(h:PS X st (Bg (tBM K "list" a3A D4 (Bi te wI))))(k:∀ σ H Q,tP re σ H Q->te σ H Q):QS X st (Wr i re):=λF0 H0=>h.imp λE σ H J'=>by let#[BU]:=J';let#[zr]:=h;let#[c23,p5]:=S.ro i _ h1;show#[_,p1,.inl b8G,k _ _ _<|h3.go S λx H1 F' e1 u S1 q1=>#[a,vs,x,2,e1 _ _ p4,Iz (by rw[p5.length];show h2)<|by decide +kernel,p σ _ F' u<|S1.chg h1 p1 #[_,ae,(p5.mono u).app<|.one q1]]]
universe e
section
variable {K:Ψ}{st:Stmt}{k:Nat}
theorem ent (n)(l:χ):Ev:=l.map .fz++List.replicate (n - l.length) .un
def og (N:η)(s)(h:JS F l vs):Ss F H F GE H (ent N.length l):=by
 let hl:=h.length;show#[gR.refl _,s,gR.refl _,aj s,by simp[ent,start,hl],c2d]
 ·unfold ent at q;by_cases c:i<l.length
  ·rw[FQ<|by simpa using c,F7]at q
   cases z:l[i]? with
   | none=>rw[z]at q;cases q
   | some e=>
    rw[z]at q;cases q;let#[v,a,b]:=h.at z;show#[v,by unfold start;rw[FQ<|by simp[hl,c],F7,a];rfl,b]
  ·rw[FT<|by simpa using c]at q
   cases (Hw<|ET q)
 all_goals
  rcases Fx.mp (ET q) with z|z
  ·simp_all
  ·simp_all
theorem ql (n m:Nat)(r:Rs)(R:Ä):Prop:=∀ l d,R l d->l.length=m/\(r (ent n l) AR\/d=.non/\∃ ε,r (ent n l) vv)
def ql.ok {ps:η}(t:ql N.length ps.length r R)(h:Pr R vs H Q E):vs.length=ps.length/\∃ F,tQ F H r { nx:=λ_ H'=>Q .non H',rt:=Q } GE H:=by
 let#[F,l,d,s,hl,hR,q]:=h;let#[hn,t]:=t l d hR;show#[by rw[hl.length,hn],F,?_];rcases t with t|⟨rfl,ε,t⟩
 ·show#[F,_,_,og N s hl,t,λx H' e _ z=>q x H' e z]
 ·show#[F,_,_,og N s hl,t,λσ H' F' u S'=>q _ H' S'.b0 rfl]
def Nc.dv (F:Nc K x ğ st f fd)(S:au N ps Bo)(t:ql N.length ps.length r R)(b:∀ (JE:Value)(A:Ë)(outer:List Env)(s:Ê)(H:Hp)(E:XK),JW base k Ĕ->Pn (dZ Ld P w K mg base N ğ Bo f JE A outer s H E).RO zu r):K6 P w K mg base Ld (k+1) f fd ps Eo:=
 F.ok S b2z λJE A outer s H vs Q E hr h=>let ⟨_,F,z⟩:=t.ok h;#[b9N,z]
def KD.dv (F:KD K x ğ st f fd)(S:au N ps Bo)(t:ql N.length ps.length r R)(b:∀ (JE:Value)(A:Ë)(outer:List Env)(s:Ê)(H:Hp)(E:XK),JW base k Ĕ->Pn (dZ Ld P w K mg base N ğ Bo f JE A outer s H E).RO zu r):K6 P w K mg base Ld (k+1) f fd ps Eo:=
 KD.ok F S b2z λJE A outer s H vs Q E hr h=>let ⟨_,F,z⟩:=t.ok h;#[b9N,z]
universe e
section
variable {K:Ψ}{b c e:Expr}{rs:Á}{F H:Hp}
inductive fI (C:Int->Int->Prop) (g:Int->Int->D):D->D->D->Prop
 |mk {i j:Int}:C i j->fI C g xu Y5 M3
def Mv (h:∀ i j,dY M3=true:=ċ):Qd (fI C λi j=>Q1 M3) (rI C g):=λF H x y u v d Q s z hu hv q=>by obtain @⟨i,j,hc⟩:=z;show#[i,j,hu,hv,hc,tP.at s q (BW<|h i j)]
def cF (h:∀ i j,dY M3=true:=ċ):Qd (fI MU λi j=>Q1 M3) (Vr g):=λF H x y u v d Q s z hu hv q=>by obtain @⟨i,j,_⟩:=z;show#[i,j,hu,hv,tP.at s q (BW<|h i j)]
theorem fv:D->V
 | .bl b=>.bl b
 | .int i=>.int i
 | .str x=>.str x
 | _=>.non
def jF:∀ {d:D}{v:V},lL d=true->DR F d v->v=fv d
 | .non,_,_,h=>h
 | .bl _,_,_,h=>h
 | .int _,_,_,h=>h
 | .str _,_,_,h=>h
def nX:∀ {l:χ}{vs:π},l.all lL=true->JS F l vs->vs=l.map fv:=by
 intro r'
 induction r' with
 | nil=>
  intro _ _ h;show h
 | cons d l ih'=>
  intro _ hf y2';let#[v,A2]:=y2';rw[List.all_cons,He]at hf;rw[q1,jF hf.1 q2,ih' hf.2 q3];rfl
def emp:∀ {d:D},lL d=true->dY (fv d)=true
 | .non,_=>rfl
 | .bl _,_=>rfl
 | .int _,_=>rfl
 | .str _,_=>rfl
inductive fE (n:Bool) (x y d:D):Prop
 |mk:lL x=true->lL y=true->Xt (fv x) (fv y)=true->d=.bl (if n=true then not (decide (fv x=fv y)) else decide (fv x=fv y))->fE n x y d
def cv:Qd rS rEq:=λF H x y u v d Q s J' hu hv q=>by let#[ki]:=J';rw[jF h1 hu,jF h2 hv];show#[c1y]
def pe:Qd (fE true) rNe:=λF H x y u v d Q s J' hu hv q=>by let#[ki]:=J';rw[jF h1 hu,jF h2 hv];show#[c1y]
theorem isN:D->Bool
 | .non=>true
 | _=>false
def c1f:∀ {d:D}{v:V},DR F d v->decide (v=.non)=isN d:=by
 intro d v h
 cases d<;>first|(rw[h];rfl)|(let#[_,_,h,_]:=h;rw[h];rfl)|(let#[Cg,h,_]:=h;rw[h];rfl)
inductive fN (n:Bool) (x:D):D->D->Prop
 |mk:fN n x .non (.bl (if n=true then not (isN x) else isN x))
def c2M:Qd (fN false) a5G:=λF H x y u v d Q s z hu hv q=>by cases z;show#[c1j]
def nE:Qd (fN true) a4A:=λF H x y u v d Q s z hu hv q=>by cases z;show#[c1j]
inductive Sq:D->List D->Prop
 |lst {l:χ}:Sq uq l
 |scr {l:χ}:Sq (.scr l) l
def Sq.at (q:Sq d l)(h:DR F d v):∃ a vs,v=.ref a/\Rd F a (.lst vs)/\JS F l vs:=by
 cases q with
 | lst=>let⟨a,vs,h1,h2,h3⟩:=h;show#[a,vs,h1,.inl h2,h3]
 | scr=>show h
def JS.P5 {l:χ}{vs:π}{i:Int}{d:D} (h:JS F l vs) (e:P5 l i=!d):∃ v,L2.P5 vs i=!v/\DR F d v:=by
 unfold L2.P5 at e ⊢;rw[h.length]
 cases z:Vx l.length i with
 | none=>rw[z]at e;cases e
 | some j=>rw[z]at e;show h.at e
def a4W (s)(h1:Sq x l)(h3:L2.P5 l i=!d)(hu:DR F x u)(hv:DR F xu v)(q):DO K u v H Q:=by let#[xZ]:=h1.at hu;let#[w,p3,p4]:=p2.P5 h3;show#[a,vs,i,w,1,hv,.inl<|p1.mono s,p3,tP.at s q p4]
def a4V (s)(h3:L2.P5 l i=!d)(hu:DR F vY u)(hv:DR F xu v)(q):DN K u v H Q:=by let#[xZ]:=hu;let#[w,p3,p4]:=p2.P5 h3;show#[a,vs,i,w,1,hv,M0.of<|s _ _ p1,p3,tP.at s q p4]
inductive Z9:D->List D->Prop
 |sq {x:D}{l:χ}:Sq x l->Z9 x l
 |tup {l:χ}:Z9 vY l
inductive fIn (n:Bool) (x y d:D):Prop
 |mk {l:χ}:Z9 y l->lL x=true->l.all lL=true->d=.bl (if n=true then not (Vc (fv x) (l.map fv)) else Vc (fv x) (l.map fv))->fIn n x y d
def a4Y:Qd (fIn n) (rIn K n):=λF H x y u v d Q s z hu hv q=>by
 obtain @⟨l,h1,h2,h3,h4⟩:=z;let hf:(l.map fv).all dY=true:=by rw[List.all_map,Ht];show λz hz=>emp (Ht.mp h3 z hz)
 rcases h1 with h1|_
 ·let#[xZ]:=h1.at hv;show#[a,l.map fv,1,.inl<|nX h3 p2▸.inl (p1.mono s),by rw[jF h2 hu];show emp h2,hf,tP.at s q (by rw[h4,jF h2 hu];rfl)]
 ·let#[xZ]:=hv;show#[a,l.map fv,1,.inr<|nX h3 p2▸M0.of (s _ _ p1),by rw[jF h2 hu];show emp h2,hf,tP.at s q (by rw[h4,jF h2 hu];rfl)]
def jA (s)(q)(h:∀ a G,gR F G->G a=!o->DR G d xV):LC H o Q:=λp H2 e n z=>q _ H2 e (h p _ (aj s) (by rw[ay n];show z))
inductive a2p:D->D->D->Prop
 |mk {l m:χ}:l.length+m.length<=10000->a2p uq vd (.lst (l++m))
def a0Y:Qd a2p b0I:=λF H x y u v d Q s z hu hv q=>by obtain @⟨l,m,h3⟩:=z;let#[xZ]:=hu;let#[b,us,1,p3,p4]:=hv;show#[a,b,vs,us,2,s _ _ p1,s _ _ p3,Fs (by rw[p2.length,p4.length];show h3)<|by decide +kernel,jA s q λc G e z=>#[c,_,1,z,(p2.mono e).app<|p4.mono e]]
theorem Cb (R:Ä)(r:List V->Hp->VK->Prop):Prop:=∀ (F H:Hp) l xs d (Q:VK),gR F H->R l d->JS F l xs->a8P->r xs H Q
def tP.cb (k:Cb R r)(h:tP (rF R rs) σ H Q):tCB r DF σ H Q:=by obtain⟨F,ε,d,S,@⟨l,h1,h2⟩,q⟩:=h;show Mu.go S h1 λxs H1 e1 S1 q1=>k _ H1 l xs d Q S1.le h2 q1 λz H2 e2 q2=>q z H2 ļ (by rwa [av e1 e2]at q2)
inductive a2M:Ä
 |mk {x:D}{m:χ}:Z9 x m->a2M [x] (.int m.length)
def YY:Cb a2M a3v:=λF H l xs d Q s z hx q=>by
 let#[h2]:=z;let#[va,p,1]:=hx;rcases h2 with h2|_
 ·let#[xZ]:=h2.at p;show#[a,vs,1,.inl<|.inl (p1.mono s),by rw[p2.length];show tP.at s q rfl]
 ·let#[xZ]:=p;show#[a,vs,1,.inr<|M0.of (s _ _ p1),by rw[p2.length];show tP.at s q rfl]
def j8 {ns:Ξ}(h:JS F (ns.map .int) vs):vs=ns.map V.int:=by rw[nX (by simp[lL]) h,EZ];rfl
def a9W {bs:Ð}(h:JS F (bs.map .bl) vs):vs=bs.map V.bl:=by rw[nX (by simp[lL]) h,EZ];rfl
inductive a2K:Ä
 |mk {ns:Ξ}{l:χ}:l=ns.map .int->a2K [.lst l] AS
def b1E:Cb a2K (λxs H Q=>∃ (p:Addr)(ns:Ξ),xs=kY/\JU K H p ŕ/\Q AS H):=λF H l xs d Q s z hx q=>by obtain @⟨ns,_,h⟩:=z;subst h;let#[AK]:=hx;show#[a,ns,1,JU.of<|j8 p2▸s _ _ p1,tP.at s q rfl]
inductive UZ:Ä
 |mk {bs:Ð}{l:χ}:l=bs.map .bl->UZ [.lst l] (.bl (bs.all id))
inductive W5:Ä
 |mk {bs:Ð}{l:χ}:l=bs.map .bl->W5 [.lst l] (.bl (bs.any id))
def a9l:Cb UZ b4W:=λF H l xs d Q s z hx q=>by obtain @⟨ns,_,h⟩:=z;subst h;let#[AK]:=hx;show#[a,ns,1,JU.of<|a9W p2▸s _ _ p1,tP.at s q rfl]
def b1V:Cb W5 b37:=λF H l xs d Q s z hx q=>by obtain @⟨ns,_,h⟩:=z;subst h;let#[AK]:=hx;show#[a,ns,1,JU.of<|a9W p2▸s _ _ p1,tP.at s q rfl]
inductive a2L:Ä
 |mk {x:D}{m:χ}:Z9 x m->a2L [x] vd
def EC:Cb a2L b9e:=λF H l xs d Q s z hx q=>by
 let#[h2]:=z;let#[va,p,1]:=hx;rcases h2 with h2|_
 ·let#[xZ]:=h2.at p;show#[a,vs,1,.inl<|.inl (p1.mono s),jA s q λc G e z=>b51]
 ·let#[xZ]:=p;show#[a,vs,1,.inr<|M0.of (s _ _ p1),jA s q λc G e z=>b51]
inductive rDs (c:List D->D) (rs:Á) (ε:En) (d:D):Prop
 |mk {l:χ}:rs ε l->l.length<=1000->d=c l->rDs c rs ε d
def jL {x1:Nat}(h:PA X es DF):PE X b7b (tP (rDs .tup rs)):=(eM h).imp λσ H Q J'=>by let#[CU,#[zr],q]:=J';show Mu.go S h1 λxs H1 e1 S1 q1=>#[Fs (by rw[q1.length];show h2)<|by decide +kernel,jA S1.le (λx H2 e2 q2=>q x H2 ļ<|by rwa [av e1 e2]at q2) λc G e z=>by rw[h3];show#[c,_,1,z,q1.mono e]]
def bV (h:PA X es DF):PE X (.List es pos) (tN (rDs .lst rs)):=(eO h).imp fun σ H Q ⟨F,ε,d,S,⟨h1,h2,h3⟩,q⟩=>Mu.go S h1 λxs H1 e1 S1 q1=>#[Fs (by rw[q1.length];show h2)<|by decide +kernel,λp H2 e2 n z=>by
 let n0:H p=none:=by cases y:H p with
  | none=>rfl
  | some o=>rw[e1 _ _ y]at n;cases n
 show q p H2 ļ n0 ?_;rw[h3];show#[xs,z,q1.mono λb o y=>?_];rw[aR (λzz=>by rw[zz,ay n0]at y;rw[y]at n;cases n)];show aT e2 _ _ y]
def dV (h:PT X e (Bc ya)):PT X e (Od λε b=>ra ε qV):=h.imp λσ H Q J'=>by let#[AQ]:=J';show#[c0M]
universe e
def b1H:typeLookup Ļ "keys"=pure none:=by rw[typeLookup_type,builtinLookup_eq_fast];kernel_rfl
def eZ:entryFor table "dict.update.loop"=some Builtin.«dict.update.loop»:=entryFor_of_tree uQ
def a85 (c:A.handled=none\/∃ ea,A.handled=!.ref ea/\Na s.heap ea)(h:∀ h' tk e,uZ->a5q->E lC { s with heap:=h',toks:=tk })(hm:msg.length<=sizeLine):
  wpAny Ē A (raiseAttrError o name msg:Sem α) Q E s:=by
 show EN (wpAny_mkStr iX hm);show EN b4N;show EN (wpAny_of_eq (by rfl) ?_);show Hf ?_ (by size_fits);let#[ED]:=s;let f1:=sub_AttributeError;repeat (any_goals (first|assumption|wp_step))
 let un:∀ b o,hp.get? b=!o->∀ p,b≠(hp.push p).objs.size:=λb o e p=>by rw[HS];show FK (Ig<|Fe e)
 let up:∀ b o,hp.get? b=!o->∀ p q f,(((hp.push p).push q).update (hp.push p).objs.size f).get? b=!o:=λb o e p q f=>(FH _ _<|Ne.symm (un b o e p)).trans<|EV _ (EV _ e);show a9o (c.imp id λJ'=>(by let#[ea,a,wW,b,d]:=J';show#[c2X,up _ _ b _ _ _,d])) (Gh _ (Fp _ rfl) rfl) rfl Ė
  λh' k t=>h _ _ _ (λb o e=>k b o (un b o e _)<|up b o e _ _ _) t
def xh (xs:Ò)(k:Nat)(sl:ω)(name:Str)(u:Tok)(a1W:typeLookup Ļ name=pure none)(UJ)(hsz:name.length+100<=sizeLine):
  Meets a3C (λA R s=>s.heap.get? a=!{ cls:=.type "list",dict:=none,data:=.seq xs k,slots:=sl }/\(A.handled=none\/∃ ea,A.handled=!.ref ea/\Na s.heap ea)/\
   ∀ h' tk e,uZ->a5q->R (.error lC) { s with heap:=h',toks:=tk }):=
 Meets.of_wp λprog w A R s hs=>by
  let#[ED]:=s;let#[hx,hs]:=hs;repeat (any_goals (first|assumption|wp_step))
  simp only[UJ,b48,HA];repeat (any_goals (first|assumption|wp_step))
  show a85 hs.1 hs.2 b5a
def Am (hx:s.heap.get? a=some #[.type "list",none,.seq xs k,sl])(hA:A.handled=none\/∃ ea,A.handled=!.ref ea/\Na s.heap ea)(h:∀ h' tk,uZ->Q none { s with heap:=h',toks:=tk }):wpAny Ē A b5b Q E s:=by
 let#[ED]:=s;let hT:∀ TY,(#[hp,g,d,TY,os]:Ê).TypeIs xV "list":=λ_=>#[_,hx,1]
 let f1:=sub_AttributeError;let f3:=F.slot_list_getattribute.lookup;let f4:=F.slot_list_getattribute.bind xV;let f5:=am_list_getattr_none;repeat (any_goals (first|assumption|show hT _|((with_reducible show (wpAny _ _ (call (Value.builtin "list.__getattribute__") _ _) _ _ _));show IW F.slot_list_getattribute (hT _) am_entry_list_getattribute (F.args_list_getattribute_2 _ _) (xh xs k sl "keys" _ b1H (by decide) (by size_fits)) ⟨hx,hA,fun h' TY e hk ⟨oe,he,hc⟩=>?_⟩)|wp_step))
 unfold getattributeRaised;let hI:(#[h',g,d,TY,os]:Ê).TypeIs lC "AttributeError":=#[oe,he,hc]
 repeat (any_goals (first|assumption|wp_step))
 show h _ _ hk
section
variable {prog:É}{w:World}{κ:Type}[DecidableEq κ]{knd:KeyKind prog w κ}
theorem b3c (knd)(h:Heap)(items:Ò)(ps:List (κ×Value)):Prop:=items.size=ps.length/\∀ (i:Nat) x p,items[i]?=!x->ps[i]?=!p->∃ t u,x=.ref t/\h.IsTuple t [u,p.2].toArray/\knd.is p.1 u=true
def a4z {ps:List (κ×Value)}(hh:A.handled=none\/∃ ea,A.handled=!.ref ea/\ea≠it/\ea≠d)(RB)(VJ:d≠l)(WW:it≠l)(Yw:d≠it)(R:Result->Shared->Prop):
  ∀ (n i:Nat)(s:Ê),n=ps.length - i->i<=ps.length->(∀ ea,A.handled=!.ref ea->Na s.heap ea)->s.heap.IsListIter it l i->s.heap.IsList l items->b3c knd s.heap items ps->s.heap.DictOf knd d b36->
   (∀ h' tk,h'.DictOf knd d ng->(∀ b o,b≠d->b≠it->s.heap.get? b=!o->h'.get? b=!o)->R yf { s with heap:=h',toks:=tk })->
   codeAny Ē A (.builtin "dict.update.loop" #[[.ref d,.ref it,rawInt i,.none],[]]) R s:=by
 intro n
 induction n with
 | zero=>
  intro i s hn hi lo hit hl hp hd h;let ei:i=ps.length:=#[]
  show Jg eZ ?_;show EN (vj (hh.imp id λJ'=>(by let#[ea,a,b,_]:=J';show#[ea,a,b,lo ea a])) hit hl b4F λh' ext=>?_);let#[rJ]:=hd;show EN (F6<|F6 (h h' _ ⟨o,es,ep,ext d o Yw ho,by rw[ei,FE]at r;show r⟩ λb o hb1 hb2 hb=>ext b o hb2 hb))
 | succ n ih=>
  intro i s hn hi lo hit hl hp hd h;let LY:i<ps.length:=#[]
  obtain⟨p,ep⟩:∃ p,ps[i]?=!p:=b7T
  obtain⟨x,ex⟩:∃ x,items[i]?=!x:=#[_,GW (by rw[hp.1];show LY)]
  let#[t,u,1,ht,hk]:=hp.2 i x p ex ep;show Jg eZ ?_;let neT:∀ t' v',s.heap.IsTuple t' v'->t'≠it/\t'≠d:=λt' v' J'=>by
   let#[o',ho',_,n',NP]:=J';let#[oi,hoi,_,a56]:=hit;let#[od,Ov,Rh,_,Yx,_]:=hd;constructor
   ·intro z;rw[z,hoi]at ho'
    cases ho';rw[a56]at NP
    cases NP
   ·intro z;rw[z,Rh]at ho'
    cases ho';rw[Yx]at NP
    cases NP
  show EN (wpAny_pyNext_list_item hit hl ex λh1 a5U sb1=>?_);let NL:∀ b o,b≠it->s.heap.get? b=!o->h1.get? b=!o:=λb o hb e=>(sb1.2 b hb).trans e;let a0b:∀ t' v',s.heap.IsTuple t' v'->h1.IsTuple t' v':=λt' v' z=>by let#[o',ho',r']:=id z;show#[o',NL t' o' (neT t' v' z).1 ho',r']
  let Vf:h1.DictOf knd d b4G:=by let#[rJ]:=hd;show#[xr,NL d o Yw ho,r]
  let P1:h1.IsList l items:=by let#[o,ho,r]:=hl;show#[o,NL l o WW.symm ho,r]
  let#[ot,hot,hct,nt,hdt]:=a0b t _ ht;show EN<|Gk (EN b6x);show EN (IE #[ot,hot,hct] ?_);show EN<|HQ hot hdt oZ;let hml:(merged []<|ps.take i).length<=sizeLine:=by
   let h1:=merged_length_le ([])<|ps.take i;rw[Fd]at h1;let h2:sizeLine=2 ^ 24:=rfl;simp only[HI]at h1
   lia
  show Gk (wpAny_dictSet_pairs hk Vf λh2 hd2 sb2=>?_);let Lu:∀ b o,b≠d->h1.get? b=!o->h2.get? b=!o:=λb o hb e=>(sb2.2 b hb).trans e;show F6 #[HY _<|by decide +kernel,?_];show ih (i+1) { s with heap:=h2,toks:=s.toks+1 } #[] #[] (λea z=>(lo ea z).at λo q=>hh.elim (λy=>by rw[y]at z;cases z) λJ'=>(by let#[ZG,y,n1,n2]:=J';rw[y]at z;cases z;show Lu _ _ n2<|NL _ _ n1 q)) ?_ ?_ ⟨hp.1,λj x' p' h3 h4=>?_⟩ ?_ λh' tk h3 h4=>h h' tk h3 λb o hb1 hb2 hb=>h4 b o hb1 hb2 (Lu b o hb1<|NL b o hb2 hb)
  ·let#[oi,hoi,r]:=a5U;show#[oi,Lu it oi Yw.symm hoi,r]
  ·let#[ol,VE,r]:=P1;show#[ol,Lu l ol VJ.symm VE,r]
  ·let#[t',u',e',Qp,U1]:=hp.2 j x' p' h3 h4;let#[o',ho',r']:=a0b t' _ Qp;show#[t',u',e',#[o',Lu t' o' (neT t' _ Qp).2 ho',r'],U1]
  ·rw[merged_take_succ _ _ i p ep];show hd2
def a8n {ps:List (κ×Value)}(hh:A.handled=none\/∃ ea,A.handled=!.ref ea/\Na s.heap ea)(hl:s.heap.get? l=some #[.type "list",none,.seq items n,sl])(hp:b3c knd s.heap items ps)(RB)(h:∀ h' tk,h'.DictOf knd s.heap.objs.size ng->uZ->Q Ň { s with heap:=h',toks:=tk }):
  wpAny Ē A b7i Q E s:=by
 show callType_codes (Q₁:=λobj s₁=>obj=.ref s.heap.objs.size/\s₁={ s with heap:=s.heap.push { cls:=.type "dict",data:=.dict [].toArray } }) F.kt_called_dict B3 F.entry_dict_init C7 ?_;rintro obj s₁ ⟨rfl,rfl⟩;let LX:(s.heap.push { cls:=.type "dict",data:=.dict [].toArray }).DictOf knd s.heap.objs.size []:=Heap.DictOf.new s.heap;let hl':=EV { cls:=.type "dict",data:=.dict [].toArray } hl;show#[b9U];show EN ?_;show EN Uh;show F6 ?_;show EN (IE #[_,hl',1] ?_);show EN (Am hl' (hh.imp id λ⟨ea,a,lo⟩=>#[ea,a,lo.at λo=>EV _]) λh1 tk1 ne1=>?_);let Lv:=λb o e=>ne1 b o<|EV _ e;let P1:h1.IsList l items:=#[_,Lv _ _ hl,1,n,1]
 show EN (IV ?_);show EN (IF P1 ?_);show F6 #[HY _<|by decide +kernel,?_];let kp:∀ b o,h1.get? b=some o->(h1.push { cls:=.type "list_iterator",data:=.fields [.ref l,.int 0 0].toArray }).get? b=some o:=λb o e=>EV _ e;let Vf:h1.DictOf knd s.heap.objs.size []:=by let#[rJ]:=LX;show#[xr,ne1 _ _ ho,r]
 let nl:=Gr<|Fe hl;let lt1:s.heap.objs.size<h1.objs.size:=by let#[rJ]:=Vf;show Fe ho
 show a4z (A:=A.in1) (knd:=knd) (hh.imp id λJ'=>(by let#[ea,a,wW,b,_]:=J';show#[ea,a,FK<|Fe (Lv _ _ b),FK<|Fe b])) RB nl (Gr<|Fe (Lv _ _ hl)) (FK lt1) _ ps.length 0 { s with heap:=h1.push { cls:=.type "list_iterator",data:=.fields [.ref l,.int 0 0].toArray },toks:=tk1 } #[] (FV _) (λea z=>hh.elim (λy=>by rw[show A.in1.handled=A.handled from rfl,y]at z;cases z) λJ'=>(by let#[ZG,y,lo]:=J';rw[show A.in1.handled=A.handled from rfl,y]at z;cases z;show lo.at λo q=>kp _ _<|Lv _ _ q)) ⟨_,Fp _ rfl,rfl,rfl⟩ ?_ ⟨hp.1,λi x p h3 h4=>?_⟩ ?_ λh' tk hD keep=>?_
 ·let#[o,ho,r]:=P1;show#[o,kp _ _ ho,r]
 ·let#[t,u,e,#[o,ho,r],hk]:=hp.2 i x p h3 h4;show#[t,u,e,#[o,kp _ _<|Lv _ _ ho,r],hk]
 ·let#[rJ]:=Vf;show#[xr,kp _ _ ho,by show r]
 ·show#[1,h h' tk hD λb o e=>keep b o nu (FK<|Fe (Lv b o e))<|kp b o (Lv b o e)]
universe e
theorem b97 (H)(p:Addr)(ķ:ξ):Prop:=∃ xs,H p=!.lst xs/\Paired a7z xs ķ
def a3Q (JM:MS P w H h):∀ {xs:π}{ķ:ξ}{its:θ},Paired a7z xs ķ->lA xs its->
  ∃ ps:List (Dx×Value),KV ķ ps/\its.length=ps.length/\∀ (i:Nat) x p,its[i]?=!x->ps[i]?=!p->∃ t u,x=.ref t/\h.IsTuple t [u,p.2].toArray/\(aM P w).is p.1 u=true:=by
 intro xs ķ its h
 induction h generalizing its with
 | nil=>intro h;cases h;show#[[],.nil,1,λi x p h1 _=>by simp at h1]
 | @cons _ kv _ _ y r ih=>
  intro h
  cases h with
  | @cons _ b _ _ rv rvs=>
   let#[t,e,ht]:=y;let#[ps,zi]:=ih rvs;subst e;obtain rfl:b=Value.ref t:=rv;let#[_,MD,r2,ob,DE]:=(show JR P w H h t (.tup BZ) from JM t _ ht)
   let#[u,v,1,ru,Wk]:=B5 r2;show#[Dt::ps,.cons #[1,Wk] k1,by simp[k2],λi x p h1 h2=>?_]
   cases i with
   | zero=>
    let h1:Value.ref t=x:=by simpa using h1
    let h2:Dt=p:=by simpa using h2
    subst h1 h2;show#[t,u,1,#[ob,DE],jD ru]
   | succ i=>show k3 i x p Ez tD
def c8 (hc):Kc X On (λxs H Q=>∃ p ķ,xs=kY/\b97 H p ķ/\ķ.length<=1000/\LC H ŭ Q):=by
 intro ñ s σ H xs us Q I r h;let#[p,ķ,1,#[ys,hy,hp],hz,q]:=h;let#[g6]:=dG r;obtain rfl:u=Value.ref p:=rx;let#[z,its,n,rv,e]:=(I.JM p _ hy)
 let#[ps,zi]:=a3Q I.JM hp rv;let WV:=KV.length k1;show a8n a3G e #[by show k2,λi x p h1 h2=>k3 i x p Ez h2] #[] λh' tk hD keep=>?_;let Ti:(b6 [] ķ).length<=sizeLine:=by let h1:=bZ ķ [];rw[HI]at h1;rw[Js];lia
 show#[c08];show#[Ti,Jj.mpr<|Gr I.big,_,k1.merge .nil,hD]
open PySem.Calls
def qD:∀ {us:θ}{ns:Ξ},IntsAre us ns->lA ŕ us
 | _,_,.nil=>.nil
 | _,_,.cons _ t h=>.cons #[t,1] (qD h)
def yU:∀ {us:θ}{ns:Ξ},us.length=ns.length->(∀ (j:Nat)(n:Int)(u:Value),ns[j]?=!n->us[j]?=!u->∃ t,u=.int n t)->IntsAre us ns
 | [],[],_,_=>.nil
 | u::us,n::ns,hl,h=>by let#[t,1]:=h 0 n u rfl rfl;show .cons n t (yU į λj m v h1 h2=>h (j+1) m v Ez<|by simpa using h2)
 | [],_::_,hl,_=>by cases hl
 | _::_,[],hl,_=>by cases hl
def lQ (hc)(hn:X.base.err=none:=Ą):Kc X (.builtin "sorted") (λxs H Q=>∃ d ķ ns,xs=tG/\Rd H d ku/\ķ.map (·.1)=ns.map (λn:Int=>(Sum.inl n:Dx))/\ns.length<64/\
  ∀ Q2:Ξ,Q2.Perm ns->Q2.Pairwise zU->LC H b5c Q):=by
 intro ñ s σ H xs us Q I r h;let#[d,ķ,ns,1,hd,Yt,h64,q]:=h;let#[g6]:=dG r
 cases rx;let#[c0q]:=sZ
 let hl:es.size=vs.length:=by rw[<- hp.length];simp
 let WV:=KV.length rel;let hkn:ķ.length=ns.length:=by let:=congrArg List.length Yt;simpa using this
 show call_function_entry kind_sorted plain_sorted entry_sorted (args_sorted1 _) ?_;show EN oZ;show EN (W.kdu_collect (yp lo) WC mf (by rw[hl,<- WV];show z) λh' tk acc keep Pa=>?_);let hI:IntsAre acc.toList ns:=by
  show yU (by let h1:=Pa.1;rw[<- Array.length_toList]at h1;rw[h1,hl,<- WV,hkn]) λj n u' hn hu=>?_;let hkj:(ķ.map (·.1))[j]?=!Sum.inl n:=by rw[Yt,F7,hn];rfl
  rw[F7]at hkj;let#[kv,ekv,hkv]:=FO.mp hkj;let#[q',Pj,UG]:=Paired.at rel ekv;let hj:j<es.size:=by rw[hl];show (ES.mp Pj).1
  let h1:(es[j]?).map (·.key)=!u':=Pa.2 j u' (by rw[<- Array.getElem?_toList];show hu);rw[GW hj]at h1;let h2:=(Pairs.get? hp (e:=es[j]) ħ Pj).1;let h3:=Option.some.inj h1;let h4:=lX h2;rw[<- UG.1,hkv]at h4;rw[<- h3];show h4
 let hlen:acc.toList.length<64:=by
  let h1:=Pa.1
  simp_all
 show EN (wpAny_newList ?_<|Fs (Jm hlen) œ);let Zq:(h'.push _).get? h'.objs.size=!seqObj "list" acc.toList.toArray 0:=Fp _ rfl;show EN<|Gk (GI slot_list_sort ⟨_,Zq,rfl⟩ entry_list_sort (list_sort_tree Zq hI hlen λout Q2 a1 a2 a3=>EH)<|args_list_sort _);show F6 EH;let a1j:∀ b u,h'.get? b=!u->(sortedHeap (h'.push<|seqObj "list" acc.toList.toArray 0) h'.objs.size acc.toList out).get? b=some u:=λb u h1=>by let h2:=Fe h1;rw[sortedHeap_old (FK h2) (by rw[size_push'];show Ig h2)];show EV _ h1
 let#[e,hat]:=sortedHeap_at Zq;let Yj:=qD a1;let Zt:(Q2.map V.int).length<=sizeLine:=by
  rw[EO,a2.length_eq]
  simp_all
 let I1:=I.kept (t':=tk) keep;show#[.ref h'.objs.size,_,I1.laid a1j XS<|show JR X.prog X.w _ _ _ (.lst<|Q2.map V.int) from #[Zt,out.toList,e,Yj,?_],1,(q Q2 a2 a3).at nJ];simpa using hat
section
variable {κ:Type}[DecidableEq κ]
def c1d {knd:KeyKind prog w κ}{ps:List (κ×Value)}(hl:s.heap.DictOf knd l ps)(hS:(l==sysModules)=false)(hz:ps.length<=sizeLine)(h:∀ h',h'.DictOf knd s.heap.objs.size ng->uZ->Q Ň { s with heap:=h' }):
  wpAny Ē A b7i Q E s:=by
 show callType_codes (Q₁:=λobj s₁=>obj=.ref s.heap.objs.size/\s₁={ s with heap:=s.heap.push { cls:=.type "dict",data:=.dict [].toArray } }) F.kt_called_dict B3 F.entry_dict_init C7 ?_;rintro obj s₁ ⟨rfl,rfl⟩;let LX:(s.heap.push { cls:=.type "dict",data:=.dict [].toArray }).DictOf knd s.heap.objs.size []:=Heap.DictOf.new s.heap;let kp:∀ b o,s.heap.get? b=!o->(s.heap.push { cls:=.type "dict",data:=.dict [].toArray }).get? b=!o:=λb o e=>EV _ e;let lt:l<s.heap.objs.size:=by let#[rJ]:=hl;show Fe ho
 let hl':(s.heap.push { cls:=.type "dict",data:=.dict [].toArray }).DictOf knd l ps:=by let#[rJ]:=hl;show#[xr,kp _ _ ho,r]
 show#[b9U];show EN ?_;show EN Uh;show F6 ?_;show EN (IE hl'.typeIs ?_);show EN ?_;show EN ?_;show EN (Hq hl'.typeIs isSubtype_dict_dict ?_);show EN<|wpAny_specialOf hl'.typeIs F.slot_dict_iter.lookup (F6 ?_);show EN (F6 ?_);show wpAny_mergeDict (Gr lt) hS LX hl' λh' NP ho' hs'=>?_;show EN<|F6 (F6 ⟨rfl,h h' NP λb o e=>?_⟩);show (hs'.2 b<|FK A7).trans (kp b o e)
universe e
def a8N:Kc X On (λxs H Q=>∃ p ķ,xs=kY/\Rd H p ku/\LC H ŭ Q):=by
 intro ñ s σ H xs us Q I r h;let#[p,ķ,1,hy,q]:=h;let#[g6]:=dG r;obtain rfl:u=Value.ref p:=rx;let#[z,hS,ps,k1,hD]:=(hy.ok I.JM)
 let WV:=KV.length k1;show c1d hD hS #[] λh' hD' keep=>?_;let Ti:(b6 [] ķ).length<=sizeLine:=by
  let h1:=bZ ķ [];rw[HI]at h1
  lia
 show#[c08];show#[Ti,Jj.mpr<|Gr I.big,_,k1.merge .nil,hD']
section
variable {K:Ψ}{a b o i:Expr}{ra rb rc:Rx}{rs:Á}{rt ru:Å}{F H:Hp}{σ:St}
abbrev Rt:=En->Bool->Prop
def PW.imp (h:PW X e t)(k:∀ σ H Q,t' σ H Q->t σ H Q):PW X e t':=λwh ñ s σ H Q I q=>h wh ñ s σ H Q I Re
inductive zS (rt ru:Rt) (ε:En):Bool->Prop
 |t {b:Bool}:rt ε true->ru ε b->zS rt ru ε b
 |f:rt ε false->zS rt ru ε false
inductive rOr (rt ru:Rt) (ε:En):Bool->Prop
 |t:rt ε true->rOr rt ru ε true
 |f {b:Bool}:rt ε false->ru ε b->rOr rt ru ε b
inductive rIe (rt:Rt) (ra rb:Rx) (ε:En) (d:D):Prop
 |t:rt ε true->ra ε d->rIe rt ra rb ε d
 |f:rt ε false->rb ε d->rIe rt ra rb ε d
def kF (ha:PT X a sV)(hb:PW X T0 (Od ru)):PW X KF (Od (zS rt ru)):=(BB ha hb).imp λσ H Q J'=>by
 let#[AQ]:=J'
 cases h with
 | t h1 h2=>show#[Xv,true,S,h1,λH1 e1=>a5v]
 | f h1=>show#[Xv,false,c2C]
def dOr (ha:PT X a sV)(hb:PW X b1O (Od ru)):PW X b0Y (Od (rOr rt ru)):=(Ws ha hb).imp λσ H Q J'=>by
 let#[AQ]:=J'
 cases h with
 | t h1=>show#[Xv,true,c2C]
 | f h1 h2=>show#[Xv,false,S,h1,λH1 e1=>a5v]
def CO (ha:PT X a sV):PT X Jd (Od λε b=>rt ε (not b)):=(sj ha).imp λσ H Q J'=>by let#[AQ]:=J';show#[Xv,not c,S,h,λH1 e1=>by simp_all]
def W2 (hc:PT X c sV)(ha)(hb:PE X b wK):PE X b66 (tP (rIe rt ra rb)):=(BI hc ha hb).imp λσ H Q J'=>by
 let#[vJ]:=J';rcases h with⟨h1,h2⟩|⟨h1,h2⟩
 ·show#[F,ε,true,S,h1,λH1 e1=>tP.go uC h2 λx H2 e2 _ q2=>q x H2 ļ<|by rwa [av e1 e2]at q2]
 ·show#[F,ε,false,S,h1,λH1 e1=>tP.go uC h2 λx H2 e2 _ q2=>q x H2 ļ<|by rwa [av e1 e2]at q2]
inductive BA (ra rb:Rx) (ε:En):D->Prop
 |t {d:D}:ra ε Ţ->rb ε d->BA ra rb ε d
 |f:ra ε PP->BA ra rb ε PP
inductive a0I (ra:Rx) (ε:En):D->Prop
 |mk {b:Bool}:ra ε qV->a0I ra ε (.bl (not b))
def CQ (ha)(hb:PE X T0 wK):PE X KF (tP (BA ra rb)):=(sv ha hb).imp λσ H Q J'=>by
 let#[vJ]:=J'
 cases h with
 | t h1 h2=>show tP.go S h1 λx H1 e1 S1 q1=>#[true,q1,tP.go S1 h2 λx H2 e2 _ q2=>q x H2 ļ<|by rwa [av e1 e2]at q2]
 | f h1=>show tP.go S h1 λx H1 e1 S1 q1=>#[false,q1,q _ H1 e1 rfl]
inductive rCh (f g:D->D->D->Prop) (ra rb rc:Rx) (ε:En):D->Prop
 |t {x y z d:D}:ra ε x->rb ε y->f x y Ţ->rc ε z->g y z d->rCh f g ra rb rc ε d
 |f {x y:D}:ra ε x->rb ε y->f x y PP->rCh f g ra rb rc ε PP
def dCh (h:PE X e (Bj r r' ya wK (tP rc)))(k:Qd f r)(k':Qd g r'):PE X e (tP (rCh f g ra rb rc)):=h.imp λσ H Q J'=>by
 let#[vJ]:=J'
 cases h with
 | t hx hy h1 h2 h3=>show tP.go S hx λu H1 e1 S1 q1=>tP.go S1 hy λv H2 e2 S2 q2=>k _ _ _ _ u v _ _ S2.le h1 (q1.mono<|aj S1.le) q2 λw H3 e3 q3=>#[true,q3,tP.go (S2.step e3) h2 λw' H4 e4 S4 q4=>k' _ _ _ _ v w' d Q S4.le h3 ((q2.mono<|aj S2.le).mono<|aj (S2.step e3).le) q4 λx5 H5 e5 q5=>q x5 H5 (e1.trans<|e2.trans (e3.trans<|e4.trans e5)) (by rw[av e1 e2,av ļ e3,av ŵ e4,av (e1.trans<|e2.trans (e3.trans e4)) e5]at q5;show q5)]
 | f hx hy h1=>show tP.go S hx λu H1 e1 S1 q1=>tP.go S1 hy λv H2 e2 S2 q2=>k _ _ _ _ u v _ _ S2.le h1 (q1.mono<|aj S1.le) q2 λw H3 e3 q3=>#[false,q3,q _ H3 ŵ rfl]
theorem a4D:En->Option Int->Prop:=λ_ p=>p=none
inductive rPt (r:Rx) (ε:En):Option Int->Prop
 |mk {i:Int}:r ε xu->rPt r ε !i
theorem tPO (r:En->Option Int->Prop):TO:=λσ H Q=>∃ F ε p,Sd F σ H ε/\r ε p/\∀ H',gR H H'->Q p H'
def PO.imp (h:PO X e t)(k:∀ σ H Q,t' σ H Q->t σ H Q):PO X e t':=λñ s σ H Q I q=>h ñ s σ H Q I Re
def VZ:PO X none (tPO a4D):=b6L.imp λσ H Q J'=>by let#[Xv,p,S,h,q]:=J';cases h;show q H ė
def VY (h:PE X e ya):PO X (!e) (tPO (rPt ra)):=(sk h).imp λσ H Q J'=>by let#[Xv,p,S,h,q]:=J';obtain @⟨i,h1⟩:=h;show tP.go S h1 λx H1 e1 _ q1=>#[i,q1,q H1 e1]
theorem vV (l:χ)(lo hi:Ó):χ:=(l.drop (HT.Qk l.length 0 lo)).take (HT.Qk l.length l.length hi - HT.Qk l.length 0 lo)
def JS.drop:∀ {l:χ}{vs:π} (n:Nat),JS F l vs->JS F (l.drop n) (vs.drop n)
 | _,_,0,h=>h
 | [],_,_+1,h=>by rw[show _=[] from h];rfl
 | _::_,_,n+1,⟨_,_,q1,_,q3⟩=>by rw[q1];show JS.drop n q3
def JS.take:∀ {l:χ}{vs:π} (n:Nat),JS F l vs->JS F (l.take n) (vs.take n)
 | _,_,0,_=>rfl
 | [],_,_+1,h=>by rw[show _=[] from h];rfl
 | _::_,_,n+1,⟨_,_,q1,q2,q3⟩=>by rw[q1];show#[Qc,q2,JS.take n q3]
inductive rSl (ra:Rx) (rl rh:En->Option Int->Prop) (ε:En) (d:D):Prop
 |mk {x:D}{l:χ}{p q:Ó}:ra ε x->Sq x l->rl ε p->rh ε q->d=.lst (vV l p q)->rSl ra rl rh ε d
def W0 {lo:Option Expr}(ha)(hl:PO X lo (tPO rl))(hh:PO X hi (tPO rh)):PE X (.Subscript a b4w pos) (tP (rSl ra rl rh)):=
 (uG (a0u X.K) ha hl hh).imp fun σ H Q ⟨F,ε,d,S,.mk (p:=p) (q:=r) h1 h2 h3 h4 h5,q⟩=>tP.go S h1 λu H1 e1 S1 q1=>#[_,_,p,S1,h3,λH2 e2=>#[_,_,r,S1.step e2,h4,λH3 e3=>by let#[ad,vs,1,p1,p2]:=h2.at q1;let S3:=(S1.step e2).step e3;show#[ad,vs,1,.inl ((p1.mono<|aj S1.le).mono (aj (S1.step e2).le) |>.mono S3.le),jA S3.le (λy H4 e4 q4=>q y H4 (e1.trans<|e2.trans (e3.trans e4)) (by rw[av e1 e2,av ļ e3,av ŵ e4]at q4;show q4)) λy G e z=>?_];rw[h5];show#[y,_,1,z,?_];unfold vV pF;rw[p2.length];show ((((p2.mono<|aj S1.le).mono<|aj (S1.step e2).le).mono e).drop _).take _]]
def JS.look:∀ {n:η}{l:χ}{fs:Î},fs.map (·.1)=n->JS F l (fs.map (·.2))->(n.zip l).lookup f=!d->∃ v,fs.lookup f=!v/\DR F d v:=by
 intro n l
 induction l generalizing n with
 | nil=>intro fs h1 h2 h3;simp_all
 | cons e l ih=>
  intro fs h1 h2 h3
  cases n with
  | nil=>cases h3
  | cons m n=>
   cases fs with
   | nil=>cases h1
   | cons p fs=>
    let#[v,A2]:=h2;rw[Fh]at h1 q1;injection h1 with h1 h1';injection q1 with q1 Vs;rw[Jq,Io]at h3;rw[show p::fs=(p.1,p.2)::fs from rfl,Io,h1]
    cases z:f==m with
    | true=>grind
    | false=>rw[z]at h3;show ih h1' (Vs▸q3) h3
inductive rFl (Pc:Addr->Prop) (f:Str) (r:Rx) (ε:En) (d:D):Prop
 |mk {C:Addr}{n:η}{l:χ}:r ε uP->Pc C->(n.zip l).lookup f=!d->rFl Pc f r ε d
def RD (hP:∀ C,Pc C->Nr X.K C/\Ka X.K C f)(ha)(hb:attributeBase a f X.env (eval a X.env)=eval a X.env:=ā):PE X (.Attribute a f pos) (tP (rFl Pc f ra)):=
 (BJ ha hb).imp fun σ H Q ⟨F,ε,d,S,.mk (C:=C) h1 h2 h3,q⟩=>tP.go S h1 λx H1 e1 S1 J'=>by let#[ad,uk,AB]:=J';let#[v,v1,v2]:=JS.look p2 p3 h3;show#[ad,C,dx,fs,v,ex,S1.le _ _ p1,(hP C h2).1,(hP C h2).2,v1,q v H1 e1 v2]
def a9N {fs:Î}(h:fs.map (·.1)=n)(hm:m∉n):fs.lookup m=none:=by rw[List.lookup_eq_none_iff];intro p hp;rw[bne_iff_ne];rintro rfl;show hm (h▸EW.mpr #[p,hp,1])
variable {k:Nat}{C:Addr}{m:Str}{R:Ä}
inductive rMe (C:Addr) (m:Str) (R:Ä) (r:Rx) (rs:Á) (ε:En) (d:D):Prop
 |mk {n:η}{l ds:χ}:r ε uP->m∉n->rs ε ds->R (.ins C n l::ds) d->rMe C m R r rs ε d
inductive Xz (Cs:Addr->Prop) (m:Str) (R:Addr->Ä) (r:Rx) (ε:En) (d:D):Prop
 |mk {C:Addr}{n:η}{l:χ}:r ε uP->Cs C->m∉n->R C [.ins C n l] d->Xz Cs m R r ε d
def tP.me (h:tP b7U σ H Q):pU C m Eo [] E0 ya DF σ H Q:=by obtain⟨F,ε,d,S,@⟨n,l,ds,h1,h2,h3,h4⟩,q⟩:=h;show tP.go S h1 λx H1 e1 S1 q1=>?_;let#[ad,uk,AB]:=id q1;show#[ad,uk,S1.le _ _ p1,a9N p2 h2,Mu.go S1 h3 λxs H2 e2 S2 q2=>#[_,.ins C n l::ds,d,S2.le,#[x,_,1,q1.mono<|aj S1.le,by simp_all],h4,λy H3 e3 q3=>q y H3 ŵ ?_]];rwa [av e1 e2,av ļ e3]at q3
def Pk (he:PE X o ya)(Dd)(hr)(ha:PA X sQ DF)(QG)(LW)(ht:eval oy X.env=(do
   let ov <- eval o X.env
   standAt apos.atName
   let (f,first) <- holding [ov] ő
   callWith pos f first (backTo pos ű) ġ):=ā):PE X oy (tP b7U):=(bx he Dd hr ha QG LW ht).imp λ_ _ _ h=>tP.me h
def EA {R:Addr->Ä}(he:PE X o ya)(Dd:∀ C,Cs C->Dm X.prog X.w X.K X.mg X.base k C m ps (Pr (R C)))(hr)(ht:eval Ĝ X.env=(do
   let ov <- eval o X.env
   standAt apos.atName
   let (f,first) <- holding [ov] ő
   callWith pos f first (backTo pos jp) ġ):=ā):PE X Ĝ (tP (Xz Cs m R ra)):=
 (qg he Dd hr ht).imp fun σ H Q ⟨F,ε,d,S,.mk (C:=C) (n:=n) (l:=l) h1 h2 h3 h4,q⟩=>tP.go S h1 λx H1 e1 S1 q1=>by let#[ad,uk,AB]:=id q1;show#[ad,C,dx,fs,ex,h2,S1.le _ _ p1,a9N p2 h3,_,[.ins C n l],d,S1.le,#[x,_,1,q1,1],h4,λy H3 e3 q3=>q y H3 (e1.trans e3)<|by rwa [av e1 e3]at q3]
theorem kD:Dx->D
 | .inl i=>.int i
 | .inr x=>.str x
abbrev _root_.ι:=List (Dx×D)
abbrev KR (ð:ι):D:=.dct (ð.map (·.1)) (ð.map (·.2))
def l7 (h:DR F (kD y) v):v=kV y:=by cases y <;> show h
theorem cy (ð:ι)(y:Dx):Option D:=(ð.find? λkv=>decide HR).map (·.2)
def JS.val:∀ {ð:ι}{ķ:ξ},ķ.map (·.1)=ð.map (·.1)->JS F ŏ Ķ->(cy ð y=none->cL ķ y=none)/\∀ d,cy ð y=!d->∃ v,cL ķ y=!v/\DR F d v:=by
 intro ð
 induction ð with
 | nil=>
  intro ķ h _
  cases ķ with
  | nil=>show#[λ_=>rfl,λ_ h=>nomatch h]
  | cons _ _=>cases h
 | cons p ð ih=>
  intro ķ h y'
  cases ķ with
  | nil=>cases h
  | cons q ķ=>
   let#[v,A2]:=y';rw[Fh,Fh]at h;rw[Fh]at q1;injection h with h1 h2;injection q1 with q1 Vs;let ih:=ih h2<|Vs▸q3;unfold cy cL at ih ⊢;rw[Hl,Hl,h1];by_cases z:p.1=y
   ·grind
   ·rw[F5 z];show ih
inductive Sub:D->D->D->Prop
 |l {x d:D}{l:χ}{i:Int}:Sq x l->P5 l i=!d->Sub x xu d
 |t {d:D}{l:χ}{i:Int}:P5 l i=!d->Sub vY xu d
 |k {ð:ι}{y:Dx}{x d:D}:cy ð y=!d->x=kD y->Sub vO x d
def a7n (hu):SU X (λx y H Q=>∃ a v,x=.ref a/\NJ H a y !v/\Q v H):=by
 intro value slice ñ s σ H x y v u Q I rx ry h hs;let#[a,z,1,g,q]:=h
 cases rx;let hT:=a8Q I g;show EN ?_;show EN (wpAny_specialOf hT PySem.F.slot_dict_getitem.lookup ?_);let fin:wpAny đ X.A (subscripted slice false xV u) (λr s₃=>wpAny đ X.A (letTemporaryGo value xV r >>= λ_=>pure r) Ŋ X.xe s₃) X.xe s:=by rw[hs];show wpAny_operating (r6 hu I g ry λw' s3 I3 QB=>EN<|wpAny_letTemporaryGo (F6 #[z,H,I3,QB,q]))
 first
  | show F6 (EN fin)
  | show EN _
  | show EN fin
def a0X:Qd Sub (λx y H Q=>(DO K x y H Q\/DN K x y H Q)\/∃ a v,x=.ref a/\NJ H a y !v/\Q v H):=λF H x y u v d Q s z hu hv q=>by
 cases z with
 | l h1 h2=>show .inl (.inl<|a4W s h1 h2 hu hv q)
 | t h=>show .inl (.inr<|a4V s h hu hv q)
 | k h e=>
  subst e;let#[ad,ķ,1,AB]:=hu;let#[w,w1,w2]:=(JS.val p2 p3).2 d h;show .inr #[ad,w,1,#[ķ,_,p1.mono s,l7 hv,w1.symm],tP.at s q w2]
def dS (hu)(ha)(hb:PE X b wK)(hs:jT b:=Ĉ):PE X Bn b6y:=dX (SU.or (SU.or b0k c1B)<|a7n hu) a0X ha hb hs
inductive V5 (n:Bool) (x y d:D):Prop
 |s:fIn n x y d->V5 n x y d
 |k {ð:ι}{z:Dx}:y=KR ð->x=kD z->d=.bl (if n=true then not (cy ð z).isSome else (cy ð z).isSome)->V5 n x y d
theorem XA (n:Bool):R2:=λy x H Q=>∃ a o,x=.ref a/\NJ H a y o/\Q (.bl (if n=true then not o.isSome else o.isSome)) H
def b0W (hu):L4 X sG (XA false):=by intro ñ s σ H y x iv u Q I ry rx h;let#[a,ov,ex,g,q]:=h;subst ex;obtain rfl:u=Value.ref a:=rx;show a6O hu I g ry λs3 I3=>#[.bl ov.isSome,H,I3,1,q]
def a9i (hu):L4 X cN (XA true):=by intro ñ s σ H y x iv u Q I ry rx h;let#[a,ov,ex,g,q]:=h;subst ex;obtain rfl:u=Value.ref a:=rx;show a6K hu I g ry λs3 I3=>#[.bl _,H,I3,1,q]
set_option tactic.hygienic true in def BX:Qd (V5 n) (λx y H Q=>rIn K n x y H Q\/XA n x y H Q):=λF H x y u v d Q s z hu hv q=>by
 cases z with
 | s h=>show .inl (a4Y F H x y u v d Q s h hu hv q)
 | k e1 e2 hd=>
  subst e1 e2;rename_i ð k;let#[ad,ķ,1,p1,p2,p3]:=hv;let#[n1,n2]:=JS.val p2 p3;let hs:(cL ķ k).isSome=(cy ð k).isSome:=by
   cases z:cy ð k with
   | none=>rw[n1 z];rfl
   | some d=>let⟨w,w1,_⟩:=n2 d z;rw[w1];rfl
  show .inr #[ad,_,1,#[ķ,k,p1.mono s,l7 hu,1],tP.at s q (by rw[hd,hs];rfl)]
def dIn (hu)(ha)(hb:PE X b wK)(hm:behindInMarks .In b=false:=Ă):PE X b2A (tP (rO vq ra rb)):=dM b7V BX ha hb hm
def Va (hu)(ha)(hb:PE X b wK)(hm:behindInMarks .In b=false:=Ă):PT X b2A (Od λε c=>rO vq ra rb ε (.bl c)):=dT b7V BX ha hb hm
def Sn (hu)(ha)(hb:PE X b wK)(hm:behindInMarks .NotIn b=false:=Ă):PT X (.Compare a [.NotIn] [b] pos) (Od λε c=>rO (V5 true) ra rb ε (.bl c)):=dT (L4.or c1t<|a9i hu) BX ha hb hm
inductive Ds:D->D->D->Prop
 |i {i j:Int}:Ds xu Y5 (.int (i+j))
 |l {l m:χ}:l.length+m.length<=10000->Ds uq vd (.lst (l++m))
def Q5 (ha)(hb:PE X b wK):PE X (.BinOp a .Add b pos) (tP (rO Ds ra rb)):=dO (L4.or a63 b3E) (λF H x y u v d Q s z hu hv q=>by
 cases z with
 | i=>show .inl #[_,_,hu,hv,tP.at s q rfl]
 | l h=>show .inr<|a0Y F H _ _ u v _ Q s (.mk h) hu hv q) ha hb
universe e
section
variable {X:Cx}{σ:St}{H:Hp}{d:Addr}{ķ:ξ}
theorem Fz (X)(H H2:Hp)(d)(o)(ķ:ξ):Prop:=H2 d=!.frz o ku/\((H d=!.dK ķ/\H2=upd H d (.frz o ku)/\NF X d)\/H2=H)
def Inv.fz2 (I)(hd:Rd H d ku)(ho:s.heap.get? d=!ob):∃ H2,Inv X ñ σ H2 s/\Fz X H H2 d ob ķ:=by
 rcases hd with hd|⟨o,hd⟩
 ·show#[_,I.freeze hd ho,ae,.inl #[hd,1,I.nf hd]]
 ·let#[h1,_]:=I.JM d _ hd;rw[ho]at h1;cases h1;show#[H,I,hd,.inr rfl]
theorem iD2 (X)(J)(tl:TE):TI:=λσ H R=>∃ Q:VK,tl σ H Q/\∀ x H1,Q x H1->∃ d ķ,x=.ref d/\Rd H1 d ku/\∀ o H2,Fz X H1 H2 d o ķ->R (J o d) H2
theorem As (X)(tl:TE):TI:=λσ H R=>∃ Q:VK,tl σ H Q/\∀ x H1,Q x H1->∃ a,x=.ref a/\((∃ xs,JU X.K H1 a xs/\R (X8 X.K a) H1)\/(∃ xs,M0 X.K H1 a xs/\R (Itt X.K a) H1)\/∃ ķ,Rd H1 a ku/\∀ o H2,Fz X H1 H2 a o ķ->R (Itk o a) H2)
def ar (hl:PE X l tl):PI X tg l (As X tl):=by
 intro ñ s σ H R I h;let#[Q,hq,h]:=h;show K2 a8m λv s1 J'=>?_;let#[zQ]:=J';let#[a,ex,q]:=h x H1 q1;subst ex
 cases r1;let fr:∀ {H2:Hp} (I2:Inv X ñ σ H2 s1) (b:Addr),b∈Eh->kQ X ñ H2 b:=λI2 b hb=>by
  let e:b=s1.heap.objs.size:=by simpa using hb
  subst e;show I2.PF XS Wu
 rcases q with⟨xs,hq,q⟩|⟨xs,hq,q⟩|⟨ķ,hd,q⟩
 ·let#[lF]:=I1.list hq;show IF p.isList #[kB,c0Q a _,Ba,fr I1,q]
 ·let#[lF]:=I1.tuple hq;show wpAny_pyIter_tuple p #[kB,a8o a _,Ba,fr I1,q]
 ·let#[c0p]:=wE
  let hsz:vs.length=es.size:=by rw[<- c4.length];simp
  show wpAny_pyIter_dict lo wC ?_;rw[hsz];let#[oo,fz]:=I1.fz2 hd ho;show#[s1.heap.objs.size,Eh,c0s,c0V _ a ob c2,Ba,fr I2,q ob H2 fz]
def c1p (hl:PE X l tl)(Li:attributeBase l "values" X.env (eval l X.env)=eval l X.env:=ā)(Mp):PI X tg (.Call (.Attribute l "values" apos) [] [] Kg) (iD2 X ZO tl):=by
 intro ñ s σ H R I h;let#[Q,hq,h]:=h;show wpAny_Call_method0_late Li Mp a73;let#[zQ]:=J';let#[d,ķ,e,hd,q]:=h x H1 q1;subst e
 cases r1;let#[c0p]:=wE
 let hsz:vs.length=es.size:=by rw[<- c4.length];simp
 let da:s1.heap.DictAt _ d vs ep:=wC
 show#["dict","dict.values",F.plainAttrs_dict,F.slot_dict_values,F.type_dict_values,c0S]
 ·cases e2;show#[ob,ho,c1.2.1]
 show call_meetsIn F.slot_dict_values da.dictOf.typeIs F.entry_dict_values (F.args_dict_values_1 _) (meets_dict_values _ d lo) b5e;let#[oo,fz]:=I1.fz2 hd ho;let I2:=I2.kept (t':=s1.toks) (h':=s1.heap.push { cls:=.type "dict_values",data:=.fields [.ref d].toArray }) λb o e=>EV _ e;show wpAny_pyIter_values Ba (da.push _) ?_;rw[hsz];show#[_,[(s1.heap.push { cls:=.type "dict_values",data:=.fields [.ref d].toArray }).objs.size],c0s,a2v _ d ob c2,Ba,c2D];let e:b=(s1.heap.push { cls:=.type "dict_values",data:=.fields [.ref d].toArray }).objs.size:=by simpa using hb
 subst e;show I2.PF XS Wu
universe e
theorem KZ (a:Addr)(o:HO)(F:Hp):Hp:=λb=>if b=a/\F a≠none then some o else F b
section
variable {F:Hp}{a:Addr}{o o':HO}{ķ:ξ}
def br (h:b≠a):KZ a o F b=F b:=if_neg λz=>h z.1
def cg (h:F a≠none):KZ a o F a=!o:=if_pos #[1,h]
def rP (h:F a=none):KZ a o F=F:=by funext b;show if_neg λz=>z.2 h
def cA (s):gR (KZ a o F) (KZ a o H):=λb u q=>by
 by_cases z:b=a
 ·subst z;by_cases n:F b=none
  ·rw[rP n,n]at q;cases q
  ·rw[cg n]at q;rw[cg (λm=>by cases y:F b with
    | none=>show n y
    | some w=>rw[s _ _ y]at m;cases m)]
   show q
 ·rw[br z]at q ⊢;show s _ _ q
def Oe:KZ a o F b=none ↔ F b=none:=by
 by_cases z:b=a
 ·subst z;by_cases n:F b=none
  ·rw[rP n]
  ·grind [cg]
 ·rw[br z]
def lS (h:F a=!o):KZ a o DA=F:=by
 funext b;by_cases z:b=a
 ·subst z;rw[cg<|by grind [cg],h]
 ·rw[br z,br z]
theorem U8 (o:HO)(ķ:ξ):Prop:=o=.dK ķ\/∃ r,o=.frz r ku
def b3Y (h:F a=!o)(k:U8 o ķ)(k')(hr:Rd F b u)(hu:∀ r w,u≠.frz r w):Rd DA b u:=by
 by_cases z:b=a
 ·subst z;let:u=.dK ķ:=by
   rcases hr with hr|⟨r,hr⟩
   ·rw[h]at hr;cases hr;rcases k with k|⟨r,k⟩
    ·show k
    ·show absurd k (hu _ _)
   ·rw[h]at hr;cases hr;rcases k with k|⟨r,k⟩
    ·cases k
    ·cases k;rfl
  subst this;let e:KZ b o' F b=!o':=cg (by rw[h];show nofun);rcases k' with rfl|⟨r,rfl⟩
  ·show .inl e
  ·show .inr #[r,e]
 ·unfold Rd;rw[br z];show hr
mutual
def DR.KZ (h:F a=!o)(k:U8 o ķ)(k'):∀ (d:D)(v:V),DR F d v->DR DA d v
 | .non,_,h=>h
 | .bl _,_,h=>h
 | .int _,_,h=>h
 | .str _,_,h=>h
 | .lst l,_,q=>let ⟨b,vs,q1,q2,q3⟩:=q;#[b,vs,q1,by rw[br (λz=>by subst z;rw[h]at q2;cases q2;rcases k with k|⟨_,k⟩ <;> cases k)];show q2,JS.KZ h k k' l vs q3]
 | .scr l,_,q=>let ⟨b,vs,q1,q2,q3⟩:=q;#[c09,JS.KZ h k k' l vs q3]
 | .tup l,_,q=>let ⟨b,vs,q1,q2,q3⟩:=q;#[b,vs,q1,by rw[br (λz=>by subst z;rw[h]at q2;cases q2;rcases k with k|⟨_,k⟩ <;> cases k)];show q2,JS.KZ h k k' l vs q3]
 | .dct _ l,_,q=>let ⟨b,vs,q1,q2,q3,q4⟩:=q;#[c09,q3,JS.KZ h k k' l _ q4]
 | .ins _ _ l,_,q=>let ⟨b,dx,vs,q1,q2,q3,q4⟩:=q;#[b,dx,vs,q1,by rw[br (λz=>by subst z;rw[h]at q2;cases q2;rcases k with k|⟨_,k⟩ <;> cases k)];show q2,q3,JS.KZ h k k' l _ q4]
def JS.KZ (h:F a=!o)(k:U8 o ķ)(k'):∀ (l:List D)(vs:List V),JS F l vs->JS DA l vs
 | [],_,h=>h
 | d::l,_,q=>let ⟨v,ws,q1,q2,q3⟩:=q;#[v,ws,q1,DR.KZ h k k' d v q2,JS.KZ h k k' l ws q3]
end
def jj (h:H a=!o):upd H a o'=KZ a o' H:=by
 funext b;by_cases z:b=a
 ·subst z;rw[ae,cg (by rw[h];show nofun)]
 ·rw[a8 z,br z]
def Sd.KZ (S:Sd F σ H ε)(h:F a=!o)(k:U8 o ķ)(k'):Sd WD σ v8 ε:=#[cA S.le,S.len,λi d q=>let ⟨v,x,y⟩:=S.rd i d q;#[v,x,y.KZ h k k']]
theorem pK (kv:Dx×D):D:=kD kv.1
def a0V {ð:ι}(h:F a=!.frz ob ku)(h1:ķ.map (·.1)=ð.map (·.1)):SV F (Itk ob a) kU:=
 #[λH i d s e=>by
  rw[F7]at e
  cases z:ð[i]? with
  | none=>rw[z]at e;cases e
  | some kd=>
   rw[z]at e;cases e;let:(ķ.map (·.1))[i]?=!kd.1:=by simp_all
   rw[F7]at this
   cases y:ķ[i]? with
   | none=>simp_all
   | some kv=>
    rw[y]at this;let e1:kv.1=kd.1:=Option.some.inj this;show#[E1,fun x H' ⟨e2,e3⟩=>#[e2▸gR.refl _,?_]];let#[kv',e4,1]:=e3 ķ<|s _ _ h;rw[y]at e4;cases e4;rw[e1];unfold pK;cases kd.1 <;> rfl,λH i s z=>#[ķ,s _ _ h,by let:=congrArg List.length h1;simp at this z;lia]]
def a1l {ð:ι}(h:F a=!.frz ob ku)(h2:JS F ŏ Ķ):SV F (ZO ob a) ŏ:=
 #[λH i d s e=>by
  let#[v,sf]:=h2.at e;rw[F7]at e1
  cases y:ķ[i]? with
  | none=>simp_all
  | some kv=>
   rw[y]at e1;cases e1;show#[E1,fun x H' ⟨Ou,e3⟩=>#[Ou▸gR.refl _,?_]];let#[kv',e4,1]:=e3 ķ<|s _ _ h;rw[y]at e4;cases e4;subst Ou;show e2.mono<|aj s,λH i s z=>#[ķ,s _ _ h,by let:=h2.length;simp at this z;lia]]
universe e
theorem Dn (J)(pr:Dx×D->D):Prop:=∀ {F:Hp}{a:Addr}{ob:Obj}{ķ:ξ}{ð:ι},F a=!.frz ob ku->ķ.map (·.1)=ð.map (·.1)->JS F ŏ Ķ->SV F (J ob a) b6z
def a6L:Dn Itk pK:=λh h1 _=>a0V h h1
def a6g:Dn ZO (·.2):=λh _ h2=>a1l h h2
inductive iO:D->List D->Prop
 |l {x:D}{l:χ}:Sq x l->iO x l
 |t {l:χ}:iO vY l
 |k {ð:ι}:iO vO kU
inductive Wo (r:Rx) (ε:En) (l:χ):Prop
 |mk {d:D}:r ε d->iO d l->Wo r ε l
inductive rVs (r:Rx) (ε:En) (l:χ):Prop
 |mk {ð:ι}:r ε vO->l=ð.map (·.2)->rVs r ε l
section
variable {X:Cx}{K:Ψ}
def WM (h:F a=!.tup vs)(q:JS F l vs):SV F (Itt K a) l:=
 #[λH i d s e=>let ⟨v,e1,e2⟩:=q.at e;#[#[vs,v,M0.of<|s _ _ h,e1],λx H' ⟨z,y⟩=>#[z▸gR.refl _,by let:=y vs<|M0.of (s _ _ h);rw[e1]at this;cases this;show e2.mono<|aj s]],λH i s z=>#[vs,M0.of<|s _ _ h,by rw[q.length];show z]]
theorem Vo (X)(Q):VK:=λv H'=>(∃ a o ķ,NF X a/\H' a=!.frz o ku/\Q v (upd H' a ku))\/Q v H'
def a7y {ð:ι}{os:List b7S}(hJ:Dn J pr)(S1:Sd F1 σ H1 ε)(p1:Rd F1 a ku)(p2)(p3)(fz)(h2:(ð.map pr).length<=1000)(h3:Paired a72 b6z os)(q:∀ b H4,gR H1 H4->DR (grow F1 H1 H4) (.lst SB) BL->Q BL H4):gu yq js qp sV z8 σ b1D (J o a) H2:=by
 let#[f1,f2]:=fz;rcases p1 with p1|⟨r,p1⟩
 ·let VN:=S1.le _ _ p1;rcases f2 with⟨_,f2,nf⟩|f2
  ·let S2:=S1.KZ p1 ĵ<|.inr #[o,1];let eF:KZ a _ F1 a=!(.frz o<|.dK ķ):=cg (by rw[p1];show nofun);rw[jj VN]at f2;subst f2;show qc S2 (hJ eF p2<|p3.KZ p1 (.inl rfl) (.inr ⟨o,rfl⟩)) h2 h3 λb H3 vs e3 hb hv hd=>.inl #[a,o,ķ,nf,e3 _ _ f1,?_];rw[jj<|e3 _ _ f1];let e4:gR H1 (KZ a ku H3):=by let:=cA (a:=a) (o:=.dK ķ) e3;rwa [lS VN]at this
   show q _ _ e4 (((jz hb hv hd).KZ (aj S2.le _ _ eF) wV<|.inl rfl).mono λc w y=>?_);by_cases z:c=a
   ·subst z;rw[cg (by rw[aj S2.le _ _ eF];show nofun)]at y;show aj S1.le _ _ (p1.trans y)
   ·rw[br z]at y;unfold grow at y ⊢;rw[br z,br z]at y;rw[br z];show y
  ·simp_all
 ·let VN:=S1.le _ _ p1;rcases f2 with⟨f2,_⟩|f2
  ·simp_all
  ·subst f2;rw[VN]at f1;cases f1;show qc S1 (hJ p1 p2 p3) h2 h3 λb H3 vs e3 hb hv hd=>.inr (q _ H3 e3<|jz hb hv hd)
def PE.Vo {e:Expr}{t t':TE} (h:PE X e t) (k:∀ σ H Q,t' σ H Q->t σ H (Vo X Q)):PE X e t':=λñ s σ H Q I q=>K2 (h ñ s σ H _ I<|k _ _ _ q) λu s' J'=>by
 let#[v,H',I',r',z]:=J';rcases z with⟨a,o,ķ,nf,e,q⟩|q
 ·show#[v,_,I'.Xi e nf,r',q]
 ·show#[v,H',I',r',q]
def dLv (n)(hc)(S:bA X scope yq js N')(hi:PI X tg iter b7k)(hg:∀ cells C s H fp,PG ĕ tg pR)(ht:∀ cells C s H fp,NI ĕ ifs sV)(he:∀ cells C s H fp,PE ĕ elt z8)(hs):PE X uV (tP (rL n js (rVs rd) rt re)):=
 (eQ hc S hi hg ht he hs).Vo fun σ H Q ⟨F,ε,d,S,.mk (.mk (ð:=ð) h1 hl) h2 h3 h4,q⟩=>by subst hl h4;show#[λx H1=>gR H H1/\DR _ _ x,tP.go S h1 λx H1 e1 _ q1=>xN,λx H1 J'=>(by let#[e1,ve]:=J';show#[a,ķ,ex,p1.mono (S.step e1).le,λo H2 fz=>a7y a6g uC p1 p2 p3 fz h2 h3 λb H4 e4 y=>q _ H4 (e1.trans e4)<|by rwa [av e1 e4]at y])]
def a4y (h:tP Cn σ H Q):jn Aq yq js qp sV z8 σ H (Vo X Q):=by
 obtain⟨F,ε,d,S,@⟨l,os,@⟨c,h1,hl⟩,h2,h3,h4⟩,q⟩:=h;subst h4;show#[λx H1=>gR H H1/\DR _ c x,tP.go S h1 λx H1 e1 _ q1=>xN,λx H1 J'=>?_];let#[e1,hx]:=J';let S1:=S.step e1;let fin:∀ b H4,gR H1 H4->DR (grow _ H1 H4) _ _->Q BL H4:=λb H4 e4 y=>q _ H4 (e1.trans e4) (by rwa [av e1 e4]at y)
 cases hl with
 | l hl=>
  let#[vm]:=hl.at hx;show#[a,ex,.inl #[vs,.inl<|ha.mono S1.le,qc S1 (yQ ha hv) h2 h3 λb H3 vs e3 hb hv hd=>.inr<|fin b H3 e3 (jz hb hv hd)]]
 | t=>
  let#[vm]:=hx;show#[a,ex,.inr<|.inl #[vs,M0.of<|S1.le _ _ ha,qc S1 (WM ha hv) h2 h3 λb H3 vs e3 hb hv hd=>.inr<|fin b H3 e3 (jz hb hv hd)]]
 | k=>
  let#[ve]:=hx;show#[a,ex,.inr<|.inr ⟨ķ,p1.mono S1.le,λo H2 fz=>a7y a6L S1 p1 p2 p3 fz h2 h3 fin⟩]
def Pd (n)(hc)(S:bA X scope yq js N')(hi:PI X tg iter Aq)(hg:∀ cells C s H fp,PG ĕ tg pR)(ht:∀ cells C s H fp,NI ĕ ifs sV)(he:∀ cells C s H fp,PE ĕ elt z8)(hs):PE X uV (tP Cn):=(eQ hc S hi hg ht he hs).Vo λ_ _ _ h=>a4y h
universe e
def a6l:typeLookup uO "keys"=pure none:=by rw[typeLookup_type,builtinLookup_eq_fast];kernel_rfl
def b9H:typeLookup uO "__getattr__"=pure none:=by rw[typeLookup_type,builtinLookup_eq_fast];kernel_rfl
def a0v:entryFor table "zip.__getattribute__"=some Builtin.«object.__getattribute__»:=
 entryFor_alias (id':="object.__getattribute__") uQ KM KM uQ
def nI (a:Addr)(vs:Ò)(name:Str)(u:Tok)(a1W:typeLookup uO name=pure none)(UJ)(hsz:name.length+100<=sizeLine:=Č):
  Meets a3C (λA R s=>s.heap.get? a=!{ cls:=.type "zip",dict:=none,data:=.fields vs,slots:=[].toArray }/\raisesAttr xV name A R s):=
 Meets.of_wp λprog w A R s hs=>by
  let#[ED]:=s;let#[hx,hs]:=hs;repeat (any_goals (first|assumption|wp_step))
  simp only[UJ,b48,HA];repeat (any_goals (first|assumption|wp_step))
  show wpAny_raiseAttrError hs.1 hs.2 b5a
def wx (hx:s.heap.get? a=!{ cls:=.type "zip",dict:=none,data:=.fields vs,slots:=[].toArray })(hA:A.handled=none)(h:∀ h' tk e,Heap.NewExcOf s.heap h' e "AttributeError"->Q none { s with heap:=h',toks:=tk }):wpAny Ē A b5b Q E s:=by
 let#[ED]:=s;let hT:∀ TY,(#[hp,g,d,TY,os]:Ê).TypeIs xV "zip":=λ_=>#[_,hx,1]
 let f1:=sub_AttributeError;let f3:=F.slot_zip_getattribute.lookup;let f4:=F.slot_zip_getattribute.bind xV;let f5:=b9H;repeat (any_goals (first|assumption|show hT _|((with_reducible show (wpAny _ _ (call (Value.builtin "zip.__getattribute__") _ _) _ _ _));show IW F.slot_zip_getattribute (hT _) a0v (F.args_zip_getattribute_2 _ _) (nI a vs "keys" _ a6l (by decide) (by size_fits)) ⟨hx,hA,λh' TY e RU=>?_⟩)|wp_step))
 let#[t',u',he]:=RU.there;show (wpAny _ _ (getattributeRaised _ _ _ _ _ _ _) _ _ _);unfold getattributeRaised;repeat (any_goals (first|assumption|wp_step))
 show h _ _ _ RU.of
def u8 (ho:s.heap.get? a=!o)(h:Q (!o) s):wpAny Ē A (loadIfAlive a) Q E s:=λΓ p _=>by
 unfold loadIfAlive
 simp_all
abbrev kP (h:Heap)(z TI TO:Addr)(T:Nat)(b:Bool):Prop:=h.get? z=!{ cls:=.type "zip",dict:=none,data:=.fields [rawInt T,.bool b,.bool false,.ref TI,.ref TO].toArray,slots:=[].toArray }
def u7 {TI TO:Addr}(hz)(hT)(h:∀ h',kP h' z TI TO T true->Heap.SameBut z s.heap h'->Q false { s with heap:=h' }):
  wpAny Ē A (Builtin.SmallTypes.ownedTupleIsFree BY) Q E s:=by
 show EN b7m;show EN (u8 hT ?_);show EN b7m
 cases b with
 | true=>show F6 (h _ hz #[1,λ_ _=>rfl])
 | false=>show EN (wpAny_setField_rec hz Ė λh₁ hz₁ hs₁=>F6<|h h₁ hz₁ hs₁)
def c3t {TI TO:Addr}(D)(hz)(hT)(RY)(h1)(h2:s.heap.IsListIter i2 l2 k2)(P1)(Rk)(hx:xs[k1]?=!x)(hy:ys[k2]?=!y)(hQ:∀ h',kP h' z TI TO T true->h'.IsListIter i1 l1 (k1+1)->h'.IsListIter i2 l2 (k2+1)->IsPair h' s.heap.objs.size x y->h'.objs.size=s.heap.objs.size+1->
   (∀ c o,c≠z->c≠i1->c≠i2->s.heap.get? c=!o->h'.get? c=!o)->Q b3q { s with heap:=h' }):
  wpAny Ē A Ed Q E s:=by
 let hTy:s.TypeIs BY "zip":=#[_,hz,1]
 show EN (Hu<|Gf hTy F.slot_zip_next (GI F.slot_zip_next hTy F.entry_zip_next ?_<|F.args_zip_next_1 _));change wpAny _ _ (field _ 2 >>= _) _ _ _;show EN (Gm hz rfl rfl ?_);show EN (Gm hz rfl rfl ?_);show EN (HQ RY rfl ?_);show EN (u7 hz hT λh₁ hz₁ hs₁=>?_);show EN ?_;show EN<|EN (Gk ?_);show EN (wpAny_nextOf_list_item (h1.extBut hs₁.extBut D.i1z) (P1.extBut hs₁.extBut D.l1z) hx λh₂ h1₂ hs₂=>F6 ?_);show F6 ?_;show EN<|EN (Gk ?_);show EN (wpAny_nextOf_list_item ((h2.extBut hs₁.extBut D.i2z).extBut hs₂.extBut D.i12.symm) ((Rk.extBut hs₁.extBut D.l2z).extBut hs₂.extBut D.l2i1) hy λh₃ h2₃ hs₃=>F6 ?_);show F6 oZ;show EN (wpAny_newTuple ?_ (by change 2<=sizeLine;decide));let e3:h₃.objs.size=s.heap.objs.size:=by rw[hs₃.1,hs₂.1,hs₁.1]
 show F6 EH;show F6 ?_;let kp:∀ c o,c≠z->c≠i1->c≠i2->s.heap.get? c=!o->(h₃.push { cls:=.type "tuple",data:=.seq [x,y].toArray }).get? c=!o:=λc o c1 c2 c3 e=>EV _<|hs₃.extBut _ _ c3 (hs₂.extBut _ _ c2<|hs₁.extBut _ _ c1 e);let up:∀ c o,h₃.get? c=some o->(h₃.push { cls:=.type "tuple",data:=.seq [x,y].toArray }).get? c=some o:=λc o e=>EV _ e;let hn:(h₃.push { cls:=.type "tuple",data:=.seq [x,y].toArray }).get? h₃.objs.size=!{ cls:=.type "tuple",data:=.seq [x,y].toArray }:=Fp _ rfl;rw[e3]at hn ⊢;show hQ _ (up _ _<|hs₃.extBut _ _ D.i2z.symm (hs₂.extBut _ _ D.i1z.symm hz₁)) ((h1₂.extBut hs₃.extBut D.i12).at λo e=>up _ o e) (h2₃.at λo e=>up _ o e) hn (by rw[HS,e3]) kp
def c2t {TI TO:Addr}(hh:A.handled=none)(D)(hz)(hT)(RY)(h1)(P1)(hx:xs[k1]?=none)(hQ:∀ h',(∀ c o,c≠z->c≠i1->s.heap.get? c=!o->h'.get? c=!o)->Q none { s with heap:=h' }):
  wpAny Ē A Ed Q E s:=by
 let hTy:s.TypeIs BY "zip":=#[_,hz,1]
 show EN (Hu<|Gf hTy F.slot_zip_next (GI F.slot_zip_next hTy F.entry_zip_next ?_<|F.args_zip_next_1 _));change wpAny _ _ (field _ 2 >>= _) _ _ _;show EN (Gm hz rfl rfl ?_);show EN (Gm hz rfl rfl ?_);show EN (HQ RY rfl ?_);show EN (u7 hz hT λh₁ hz₁ hs₁=>?_);show EN ?_;show EN<|EN (Gk ?_);show EN (wpAny_nextOf_list_end hh (h1.extBut hs₁.extBut D.i1z) (P1.extBut hs₁.extBut D.l1z) hx λh₂ e hs₂ he=>?_);let#[o,ho,hc]:=he;show EN yP;show F6 (hQ _ λc o c1 c2 e=>hs₂ _ _ c2<|hs₁.extBut _ _ c1 e)
structure ZS (h:Heap) (z TI TO i1 i2 l1 l2 d:Addr) (k:Nat):Prop where
 zok:(IsZip h z TI TO .none/\∃ a b,IsPair h TO a b) \/ ∃ T b o,kP h z TI TO T b/\h.get? T=!o/\T≠z/\T≠TO/\T≠i1/\T≠i2/\T≠d
 RY:IsPair h TI (.ref i1) (.ref i2)
 h1:h.IsListIter i1 l1 k
 h2:h.IsListIter i2 l2 k
def ww {TI TO:Addr}(D)(Z)(hd:d<s.heap.objs.size)(P1)(Rk)(hx:xs[k]?=!x)(hy:ys[k]?=!y)(hQ:∀ h',ZS h' z TI TO i1 i2 l1 l2 d (k+1)->IsPair h' s.heap.objs.size x y->a3g->Q b3q { s with heap:=h' }):
  wpAny Ē A Ed Q E s:=by
 let#[hz,RY,nU]:=Z;let zl:∀ {c:Addr}{o:Obj},s.heap.get? c=!o->s.heap.objs.size≠c:=λe=>Gr<|Fe e;let#[o1,e1,_]:=id h1;let#[o2,e2,_]:=id h2;rcases hz with⟨hz,a,b,YD⟩|⟨T,b,o,hz,hT,t1,t2,t3,t4,t5⟩
 ·show wpAny_pyNext_zip_item D hz RY YD h1 h2 P1 Rk hx hy λh' a1 a2 a3 a4 a5 a6 a7=>hQ h' #[.inr #[_,false,_,a1,a5,zl hz,zl YD,zl e1,zl e2,Gr hd],a7 _ _ D.TIz D.TITO D.TIi1 D.TIi2 RY,a3,a4] a5 a7
 ·show c3t D hz hT RY h1 h2 P1 Rk hx hy λh' a1 a3 a4 a5 a6 a7=>hQ h' #[.inr #[T,true,o,a1,a7 _ _ t1 t3 t4 hT,c1V],a7 _ _ D.TIz D.TIi1 D.TIi2 RY,a3,a4] a5 λc o c1 _ c3 c4 e=>a7 c o c1 c3 c4 e
def zt {TI TO:Addr}(hh:A.handled=none)(D)(Z)(P1)(Rk)(hx:xs[k]?=none)(hQ:∀ h',a3g->Q none { s with heap:=h' }):
  wpAny Ē A Ed Q E s:=by
 let#[hz,RY,nU]:=Z;rcases hz with⟨hz,a,b,YD⟩|⟨T,b,o,hz,hT,_⟩
 ·show wpAny_pyNext_zip_end hh D hz RY YD h1 h2 P1 Rk (.inl hx) hQ
 ·show c2t hh D hz hT RY h1 P1 hx λh' kk=>hQ h' λc o c1 _ c3 _ e=>kk c o c1 c3 e
section
variable {prog:É}{w:World}{κ:Type}[DecidableEq κ]{knd:KeyKind prog w κ}
theorem b2P (knd)(xs ys:Ò)(ps:List (κ×Value)):Prop:=xs.size=ps.length/\∀ (i:Nat) p,ps[i]?=!p->∃ u,xs[i]?=!u/\ys[i]?=!p.2/\knd.is p.1 u=true
def b3L {TI TO:Addr}{ps:List (κ×Value)}(hh:A.handled=none)(RB)(D)(hp:b2P knd xs ys ps)(nd:d≠z/\d≠TI/\d≠TO/\d≠i1/\d≠i2/\d≠l1/\d≠l2)(R:Result->Shared->Prop):
  ∀ (n i:Nat)(s:Ê),n=ps.length - i->i<=ps.length->ZS s.heap z TI TO i1 i2 l1 l2 d i->s.heap.IsList l1 xs->s.heap.IsList l2 ys->s.heap.DictOf knd d b36->
   (∀ h' tk,h'.DictOf knd d ng->(∀ b o,b≠d->b≠z->b≠TO->b≠i1->b≠i2->s.heap.get? b=!o->h'.get? b=!o)->R yf { s with heap:=h',toks:=tk })->
   codeAny Ē A (.builtin "dict.update.loop" #[[.ref d,.ref z,rawInt i,.none],[]]) R s:=by
 let#[dz,dTI,dTO,di1,di2,dl1,dl2]:=nd;let lk:∀ {h h':Heap}{l:Addr}{vs:Ò},h.IsList l vs->(∀ o,h.get? l=!o->h'.get? l=!o)->h'.IsList l vs:=λJ' k=>by let#[o,ho,r]:=J';show#[o,k o ho,r]
 intro n
 induction n with
 | zero=>
  intro i s hn hi Z P1 Rk hd h;let ei:i=ps.length:=#[]
  show Jg eZ ?_;show EN (zt hh D Z P1 Rk b4F λh' ext=>?_);let#[rJ]:=hd;show EN (F6<|F6 (h h' _ ⟨o,es,ep,ext d o dz dTO di1 di2 ho,by rw[ei,FE]at r;show r⟩ λb o _ b1 b2 b3 b4 hb=>ext b o b1 b2 b3 b4 hb))
 | succ n ih=>
  intro i s hn hi Z P1 Rk hd h;let LY:i<ps.length:=#[]
  obtain⟨p,ep⟩:∃ p,ps[i]?=!p:=b7T
  let#[u,ex,ey,hk]:=hp.2 i p ep;show Jg eZ ?_;let VJ:d<s.heap.objs.size:=by let#[o,_,_,ho,_]:=hd;show Fe ho
  show EN (ww D Z VJ P1 Rk ex ey λh1 Z1 ht NL=>?_);let Vf:h1.DictOf knd d b4G:=by let#[rJ]:=hd;show#[xr,NL d o dz dTO di1 di2 ho,r]
  show EN (Gk<|EN b6x);show EN (IE #[_,ht,1] ?_);show EN<|HQ ht rfl oZ;let hml:(merged []<|ps.take i).length<=sizeLine:=by
   let h1:=merged_length_le ([])<|ps.take i;rw[Fd]at h1;let h2:sizeLine=2 ^ 24:=rfl;simp only[HI]at h1
   lia
  show Gk (wpAny_dictSet_pairs (hsz:=hml) hk Vf λh2 hd2 sb2=>?_);let Lu:∀ b o,b≠d->h1.get? b=!o->h2.get? b=!o:=λb o hb e=>(sb2.2 b hb).trans e;show F6 #[HY _<|by decide +kernel,?_];show ih (i+1) { s with heap:=h2,toks:=s.toks+1 } #[] #[] ?_ (lk P1 λo e=>Lu _ o dl1.symm<|NL _ o D.l1z D.l1TO D.l1i1 D.l1i2 e) (lk Rk λo e=>Lu _ o dl2.symm<|NL _ o D.l2z D.l2TO D.l2i1 D.l2i2 e) ?_ λh' tk h3 h4=>h h' tk h3 λb o b0 b1 b2 b3 b4 hb=>h4 b o b0 b1 b2 b3 b4 (Lu b o b0<|NL b o b1 b2 b3 b4 hb)
  ·let#[zk,Et]:=Z1;show#[?_,Lu _ _ dTI.symm q1,q2.at λo e=>Lu _ o di1.symm e,q3.at λo e=>Lu _ o di2.symm e];rcases zk with⟨a1,a,b,a2⟩|⟨T,b,o,a1,a2,t1,t2,t3,t4,t5⟩
   ·show .inl #[Lu _ _ dz.symm a1,a,b,Lu _ _ dTO.symm a2]
   ·show .inr #[T,b,o,Lu _ _ dz.symm a1,Lu _ _ t5 a2,c1V]
  ·rw[merged_take_succ _ _ i p ep];show hd2
def a5D {TI TO:Addr}{ps:List (κ×Value)}(hh:A.handled=none)(D)(hz:IsZip s.heap z TI TO .none)(RY)(YD:IsPair s.heap TO .none .none)(h1:s.heap.IsListIter i1 l1 0)(h2:s.heap.IsListIter i2 l2 0)(P1)(Rk)(hp:b2P knd xs ys ps)(RB)(h:∀ h' tk,h'.DictOf knd s.heap.objs.size ng->(∀ b o,b≠z->b≠TO->b≠i1->b≠i2->s.heap.get? b=!o->h'.get? b=!o)->Q Ň { s with heap:=h',toks:=tk }):
  wpAny Ē A (call On [.ref z]) Q E s:=by
 let ls:∀ {c:Addr}{o:Obj},s.heap.get? c=!o->s.heap.objs.size≠c:=λe=>Gr<|Fe e;show callType_codes (Q₁:=λobj s₁=>obj=.ref s.heap.objs.size/\s₁={ s with heap:=s.heap.push { cls:=.type "dict",data:=.dict [].toArray } }) F.kt_called_dict B3 F.entry_dict_init C7 ?_;rintro obj s₁ ⟨rfl,rfl⟩;let LX:(s.heap.push { cls:=.type "dict",data:=.dict [].toArray }).DictOf knd s.heap.objs.size []:=Heap.DictOf.new s.heap;let hz':=EV { cls:=.type "dict",data:=.dict [].toArray } hz;show#[b9U];show EN ?_;show EN Uh;show F6 ?_;show EN (IE #[_,hz',1] ?_);show EN (wx hz' hh λg1 tk1 e1 ne1=>?_);let Lv:=λb o e=>ne1.keeps b o<|EV _ e;show EN (IV ?_);show EN (wpAny_pyIter_zip (Lv _ _ hz) ?_);show F6 #[HY _<|by decide +kernel,?_];let Vf:g1.DictOf knd s.heap.objs.size []:=by let#[rJ]:=LX;show#[xr,ne1.keeps _ _ ho,r]
 let lk:∀ {l:Addr}{vs:Ò},s.heap.IsList l vs->g1.IsList l vs:=λJ'=>by let#[o,ho,r]:=J';show#[o,Lv _ o ho,r]
 let#[p1,q1,_]:=id h1;let#[p2,q2,_]:=id h2;let#[p3,q3,_]:=id P1;let#[p4,q4,_]:=id Rk;show b3L (A:=A.in1) hh RB D hp #[ls hz,ls RY,ls YD,ls q1,ls q2,ls q3,ls q4] _ ps.length 0 { s with heap:=g1,toks:=tk1 } #[] (FV _) #[.inl #[Lv _ _ hz,_,_,Lv _ _ YD],Lv _ _ RY,h1.at λo e=>Lv _ o e,h2.at λo e=>Lv _ o e] (lk P1) (lk Rk) (by show Vf) λh' tk hD keep=>?_;show#[1,h h' tk hD λb o b1 b2 b3 b4 e=>keep b o (ls e).symm b1 b2 b3 b4<|Lv b o e]
universe e
theorem tDZ (K)(ta:TA):TE:=λσ H Q=>ta σ H λvs H1=>∃ a b ķ,vs=[.ref a,.ref b]/\JU K H1 a Ő/\JU K H1 b Ķ/\ķ.length<=1000/\LC H1 ŭ Q
def a3W:∀ {ķ:ξ}{us vs:θ},lA Ő us->lA Ķ vs->∃ ps:List (Dx×Value),KV ķ ps/\us.length=ps.length/\∀ (i:Nat) p,ps[i]?=!p->∃ u,us[i]?=!u/\vs[i]?=!p.2/\(aM P w).is p.1 u=true:=by
 intro ķ
 induction ķ with
 | nil=>intro us vs h h';cases h;cases h';show#[[],.nil,1,λi p h=>by simp at h]
 | cons kv ķ ih=>
  intro us vs h h'
  cases h with
  | @cons _ u _ _ ru r=>
   cases h' with
   | @cons _ v _ _ rv r'=>
    let#[ps,zi]:=ih r r';show#[Dt::ps,.cons #[1,rv] k1,by simp[k2],λi p h=>?_]
    cases i with
    | zero=>
     let h:Dt=p:=by simpa using h
     subst h;show#[u,2,jD ru]
    | succ i=>show k3 i p SC
def b19 (K)(hc)(hgD:Gl X "dict")(hmD:X.mg "dict"=none)(hgZ:Gl X "zip")(hmZ:X.mg "zip"=none)(ha:PA X Ji ta)(hK)(hs:starEach Ji X.env=zE:=ā)(QH)(hn:X.base.err=none:=Ą):
  PE X (.Call b8H [.Call (.Name "zip" p2) Ji [] p3] [] pos) (tDZ K ta):=by
 subst hK;intro ñ s σ H Q I h;show GR (gh I hgD hmD PyProof.Rows.boot_dict ?_);show GK ?_;show Calls.spliced_cons ?_;show GR<|gh I hgZ hmZ a8s (GK (K2 (ha p3 ñ s σ H _ I h) λus s1 J'=>?_) Pw (by rw[QH];rfl));let#[vs,u9]:=J';let#[a,b,ķ,e,hx,hy,hz,q]:=q1;subst e;let#[u1,u2,1,r,r']:=B5 r1
 cases r
 cases r';let#[its,rv,p1,_]:=I1.list hx;let#[MD,Wk,p2,_]:=I1.list hy;let#[ps,zi]:=a3W rv Wk;let WV:=KV.length k1;show call_zip_2 p1.isList p2.isList λh' a1 a2 a3 a4 a5 a6 a7=>?_;show F6 ?_;let lt:∀ {c:Addr}{o:Obj},s1.heap.get? c=!o->@LT.lt Nat _ c s1.heap.objs.size:=λe=>Fe e;let#[oa,ea,ra]:=id p1.isList;let#[ob,eb,rb]:=id p2.isList;let la:=lt ea;let lb:=lt eb;show a5D WC #[b87,b87,D2] a1 a2 a3 a4 a5 #[oa,a7 _ _ ea,ra] #[ob,a7 _ _ eb,rb] #[by show k2,λi p h1=>by simpa using k3 i p h1] #[] λSQ tk hD keep=>?_;all_goals try (intro z;let z':@Eq Nat _ _:=z;lia)
 let Ti:(b6 [] ķ).length<=sizeLine:=by let h1:=bZ ķ [];rw[HI]at h1;rw[Js];lia
 let le:@LE.le Nat _ s1.heap.objs.size h'.objs.size:=by rw[a6];lia
 show#[.ref h'.objs.size,_,I1.laid (λc o e=>?_) le ?_,1,q.at b8B]
 ·let:=lt e;show keep c o ?_ ?_ ?_ ?_<|a7 c o e;all_goals (intro z;let z':@Eq Nat _ _:=z;lia)
 ·show#[Ti,Jj.mpr<|Gr (FN I1.big le),_,k1.merge .nil,hD]
def a9H (bs:Ð):(List.range bs.length).any b4H=bs.any id:=by
 let e:(List.range bs.length).map b4H=bs:=by show List.ext_getElem Ė λi h1 h2=>?_;simp[h2]
 let:=List.any_map (f:=λi=>bs.getD i false) (l:=List.range bs.length) (p:=id);rw[e]at this;show this.symm
def AO (K)(hc)(hK)(hn:X.base.err=none:=Ą):Kc X (.builtin "any") b37:=by
 subst hK;intro ñ s σ H xs us Q I r h;let#[p,bs,1,hq,q]:=h;let#[u,1,r1]:=dG r
 cases r1;let#[c2y]:=I.list hq;let hlen:its.length=bs.length:=by let:=rv.length;rw[EO]at this;lia
 let hpn:p≠s.heap.objs.size:=by let#[_,_,e,_]:=pl;show FK A7
 show call_any_walk ?_;show IF pl.isList ?_;show#[c0w,λi=>bs.getD i false,b9q]
 ·let hv:its[i]?=!v:=by simpa using hv
  let hi:i<bs.length:=by rw[<- hlen];show (ES.mp hv).1
  let hb:(bs.map V.bl)[i]?=!V.bl bs[i]:=by simp_all
  let#[w1,e1,r1]:=rv.get hb;rw[hv]at e1;cases e1;obtain rfl:v=Value.bool bs[i]:=r1;dsimp only at hQ;rw[EU,ER hi]at hQ;show HJ hQ
 ·let e:its.toArray.size=bs.length:=by simp[hlen]
  rw[e,a9H];show#[.bl _,H,I.kept λb o e=>hk b o w8<|EV _ e,1,q];show absurd A7 ħ
section
variable {x:Str}{p:Pos}{rs:Á}{K:Ψ}
def dB {id:String}(k:Cb R r)(hc:Kc X xD r)(hg:Gl X x)(hm:X.mg x=none)(hv:bootBuiltins x=!.builtin id)(ha:PA X sQ DF)(hn:x≠"__name__":=ö)(NB)(he)(LW):PE X ę MV:=(bQ hc hg hm hv ha hn NB he LW).imp λ_ _ _ h=>tP.cb k h
def UU (k:Cb R r)(hc:Kc X nN r)(hg:Gl X x)(hm:X.mg x=none)(hv:bootBuiltins x=!.type T)(ha:PA X sQ DF)(hn:x≠"__name__":=ö)(NB)(he)(LW):PE X ę MV:=(dA hc hg hm hv ha hn NB he LW).imp λ_ _ _ h=>tP.cb k h
def JS.put (hd:DR F d v):∀ {ð:ι}{ķ:ξ},ķ.map (·.1)=ð.map (·.1)->JS F ŏ Ķ->
  (ķ.map λkv=>if kv.1=y then Dt else kv).map (·.1)=(ð.map λkv=>if kv.1=y then (kv.1,d) else kv).map (·.1)/\JS F ((ð.map λkv=>if kv.1=y then (kv.1,d) else kv).map (·.2)) ((ķ.map λkv=>if kv.1=y then Dt else kv).map (·.2)):=by
 intro ð
 induction ð with
 | nil=>
  intro ķ h _
  cases ķ with
  | nil=>show#[2]
  | cons _ _=>cases h
 | cons p ð ih=>
  intro ķ h y'
  cases ķ with
  | nil=>cases h
  | cons q ķ=>
   let#[u,A2]:=y';rw[Fh,Fh]at h;rw[Fh]at q1;injection h with h1 h2;injection q1 with q1 Vs;let#[IO]:=ih h2<|Vs▸q3;simp only[Fh,h1];by_cases z:p.1=y
   ·rw[if_pos z,if_pos z];show#[by rw[i1],v,_,1,hd,i2]
   ·rw[if_neg z,if_neg z];show#[by rw[h1,i1],Qc,by simp_all,i2]
theorem si (ð:ι)(y:Dx)(d:D):ι:=if b05=true then ð.map (λkv=>if kv.1=y then (kv.1,d) else kv) else ð++[(y,d)]
theorem qX (ð:ι)(y:Dx):ι:=ð.filter λkv=>decide (kv.1≠y)
theorem fm (ð more:ι):ι:=more.foldl (λacc kv=>si acc kv.1 kv.2) ð
def PGs {α β:Type}{l:List (Dx×α)}{m:List (Dx×β)}(h:l.map (·.1)=m.map (·.1)):(l.any λkv=>decide HR)=m.any λkv=>decide HR:=by
 let:∀ {γ:Type} (l:List (Dx×γ)),(l.any λkv=>decide _)=(l.map (·.1)).any λk=>decide (k=y):=λl=>by rw[List.any_map];rfl
 rw[this,this,h]
def UnR (h:ķ.map (·.1)=ð.map (·.1))(k:JS F ŏ Ķ)(hd:DR F d v):(dQ ķ y v).map (·.1)=(si ð y d).map (·.1)/\JS F ((si ð y d).map (·.2)) ((dQ ķ y v).map (·.2)):=by
 unfold dQ si;rw[PGs h];by_cases z:b05=true
 ·rw[if_pos z,if_pos z];show JS.put hd h k
 ·rw[if_neg z,if_neg z];simp only[EX,Fh,GF,h,true_and];show k.app (.one hd)
def jC:∀ {md:ι}{mv:ξ}{ð:ι}{ķ:ξ},mv.map (·.1)=md.map (·.1)->JS F (md.map (·.2)) (mv.map (·.2))->ķ.map (·.1)=ð.map (·.1)->JS F ŏ Ķ->
  (b6 ķ mv).map (·.1)=(fm ð md).map (·.1)/\JS F ((fm ð md).map (·.2)) ((b6 ķ mv).map (·.2)):=by
 intro md
 induction md with
 | nil=>
  intro mv ð ķ h _ h' k
  cases mv with
  | nil=>show#[h',k]
  | cons _ _=>cases h
 | cons p md ih=>
  intro mv ð ķ h y' h' k
  cases mv with
  | nil=>cases h
  | cons q mv=>
   let#[u,A2]:=y';rw[Fh,Fh]at h;rw[Fh]at q1;injection h with h1 h2;injection q1 with q1 Vs;let#[IO]:=UnR (y:=p.1) h' k q2;let:=ih (ð:=si ð p.1 p.2) (ķ:=dQ ķ p.1 u) h2 (Vs▸q3) i1 i2;change (b6 (dQ ķ q.1 q.2) mv).map (·.1)=_/\JS F _ ((b6 (dQ ķ q.1 q.2) mv).map (·.2));rw[h1,show q.2=u from q1];show this
def a1Z:∀ {ð:ι}{ķ:ξ},ķ.map (·.1)=ð.map (·.1)->JS F ŏ Ķ->(l9 ķ y).map (·.1)=(qX ð y).map (·.1)/\JS F ((qX ð y).map (·.2)) ((l9 ķ y).map (·.2)):=by
 intro ð
 induction ð with
 | nil=>
  intro ķ h _
  cases ķ with
  | nil=>show#[2]
  | cons _ _=>cases h
 | cons p ð ih=>
  intro ķ h y'
  cases ķ with
  | nil=>cases h
  | cons q ķ=>
   let#[u,A2]:=y';rw[Fh,Fh]at h;rw[Fh]at q1;injection h with h1 h2;injection q1 with q1 Vs;let#[IO]:=ih h2<|Vs▸q3;unfold l9 qX at i1 i2 ⊢;rw[GC,GC,h1];by_cases z:p.1=y
   ·rw[if_neg<|by simp[z],if_neg<|by simp[z]];show#[IO]
   ·rw[if_pos<|by simp[z],if_pos<|by simp[z]];simp only[Fh,i1,h1,true_and];show#[Qc,by simp_all,i2]
def b33 {ð:ι}{ķ:ξ}(h:ķ.map (·.1)=ð.map (·.1)):JS F kU Ő:=by
 let:∀ l:List Dx,JS F (l.map kD) (l.map kV):=λl=>by
  induction l with
  | nil=>rfl
  | cons y l ih=>show#[_,_,1,by cases y <;> rfl,ih]
 let e1:ð.map pK=(ð.map (·.1)).map kD:=by rw[EZ];rfl
 let e2:Ő=(ķ.map (·.1)).map kV:=by rw[EZ];rfl
 rw[e1,e2,h];show this _
def vy:∀ ms:Ξ,JS F (ms.map .int) (ms.map V.int):=by
 intro r'
 induction r' with
 | nil=>
  show rfl
 | cons _ ms ih'=>
  show #[XC,ih']
theorem prs (ð:ι):χ:=ð.map λkv=>.tup [kD kv.1,kv.2]
def b13:∀ {ð:ι}{vs:π},JS F (prs ð) vs->∃ ķ:ξ,ķ.map (·.1)=ð.map (·.1)/\JS F ŏ Ķ/\Paired (λv (kv:Dx×V)=>∃ t,v=.ref t/\F t=!.tup BZ) vs ķ:=by
 intro ð
 induction ð with
 | nil=>intro vs h;rw[show _=[] from h];show#[[],2,.nil]
 | cons p ð ih=>
  intro vs h;let#[v,ws,q1,#[a,us,q0,q2,u1,u2,q3,q4,u3,u4,q5,q6,q7],q8]:=h;let#[ķ,IO,i3]:=ih q8;subst q0 q1 q5 q3
  cases q7;rw[l7 q4]at q2;show#[(p.1,u3)::ķ,by simp_all,#[Qc,q6,i2],.cons #[a,1,q2] i3]
inductive LD:Ä
 |s {x:D}{m:χ}:Z9 x m->LD [x] (.int m.length)
 |k {ð:ι}:LD XR (.int ð.length)
def b9h:Kc X Op (λxs H Q=>(∃ p ys,xs=kY/\(JU X.K H p ys\/M0 X.K H p ys)/\Q vT H)\/∃ d ķ,xs=tG/\Rd H d ku/\Q D3 H):=a80.or b9i
def c1A:Cb LD (λxs H Q=>(∃ p ys,xs=kY/\(JU K H p ys\/M0 K H p ys)/\Q vT H)\/∃ d ķ,xs=tG/\Rd H d ku/\Q D3 H):=λF H l xs d Q s z hx q=>by
 cases z with
 | s h=>show .inl (YY F H _ xs _ Q s (.mk h) hx q)
 | k=>
  let#[x6]:=hx;let:=congrArg List.length p2;simp at this;show .inr #[a,ķ,1,p1.mono s,by rw[this];show tP.at s q rfl]
inductive ZJ:Ä
 |s {x:D}{m:χ}:Z9 x m->ZJ [x] vd
 |k {ð:ι}:ZJ XR (.lst kU)
def eA (hc):Kc X Ļ (λxs H Q=>(∃ p ys,xs=kY/\(JU X.K H p ys\/M0 X.K H p ys)/\LC H D6 Q)\/∃ d ķ,xs=tG/\Rd H d ku/\LC H (.lst Ő) Q):=(listS X.K).or (pH hc)
def hX:Cb ZJ (λxs H Q=>(∃ p ys,xs=kY/\(JU K H p ys\/M0 K H p ys)/\LC H D6 Q)\/∃ d ķ,xs=tG/\Rd H d ku/\LC H (.lst Ő) Q):=λF H l xs d Q s z hx q=>by
 cases z with
 | s h=>show .inl (EC F H _ xs _ Q s (.mk h) hx q)
 | k=>
  let#[x6]:=hx;show .inr #[a,ķ,1,p1.mono s,jA s q λc G e z=>#[c,_,1,z,b33 p2]]
inductive UY:Ä
 |k {ð:ι}:UY XR wX
 |p {ð:ι}:ð.length<=1000->UY [.lst (prs ð)] wX
def cQ (hc):Kc X On ņ:=a8N.or (c8 hc)
def hZ:Cb UY ņ:=λF H l xs d Q s z hx q=>by
 cases z with
 | k=>
  let#[x6]:=hx;show .inl #[a,ķ,1,p1.mono s,jA s q λc G e z=>let m:=jC p2 (p3.mono e) (ð:=[]) (ķ:=[]) rfl rfl;#[c2K]]
 | p h3=>
  let#[AK]:=hx;let#[ķ,IO,i3]:=b13 p2;let:=congrArg List.length i1;simp at this;show .inr #[a,ķ,1,#[vs,s _ _ p1,Paired.Lx i3 λ_ _ J'=>(by let#[t,z1,z2]:=J';show#[t,z1,s _ _ z2])],#[],jA s q λc G e z=>let m:=jC i1 (i2.mono e) (ð:=[]) (ķ:=[]) rfl rfl;#[c2K]]
inductive cSo:Ä
 |k {ð:ι}{ns ms:Ξ}:ð.map (·.1)=ns.map (λn:Int=>(Sum.inl n:Dx))->ns.length<64->(∀ Q2:Ξ,Q2.Perm ns->Q2.Pairwise zU->Q2=ms)->cSo XR (.lst (ms.map .int))
def MtR:Cb cSo (λxs H Q=>∃ d ķ ns,xs=tG/\Rd H d ku/\ķ.map (·.1)=ns.map (λn:Int=>(Sum.inl n:Dx))/\ns.length<64/\
  ∀ Q2:Ξ,Q2.Perm ns->Q2.Pairwise zU->LC H b5c Q):=λF H l xs d Q s z hx q=>by
 let#[ou,h5]:=z;let#[x6]:=hx;show#[a,ķ,_,1,p1.mono s,p2.trans h3,h4,λQ2 a1 a2=>?_];rw[h5 Q2 a1 a2];show jA s q λc G e z=>#[c,_,1,z,vy _]
inductive rDz (rs:Á) (ε:En) (d:D):Prop
 |mk {ð:ι}:rs ε [.lst kU,.lst ŏ]->ð.length<=1000->d=KR (fm [] ð)->rDz rs ε d
def a8l:∀ {ð:ι}{vs us:π},JS F kU vs->JS F ŏ us->∃ ķ:ξ,vs=ķ.map (λkv=>kV kv.1)/\us=ķ.map (·.2)/\ķ.map (·.1)=ð.map (·.1):=by
 intro r'
 induction r' with
 | nil=>
  intro _ _ h h';show #[[],h,h',1]
 | cons p ð ih'=>
  intro _ _ y2' y3';let#[v,A2]:=y2';let#[u,us,q4,q5,q6]:=y3';let#[ķ,IO,i3]:=ih' q3 q6;show#[(p.1,u)::ķ,by rw[q1,i1,l7 q2];rfl,by rw[q4,i2];rfl,by simp_all]
inductive cMi:Ä
 |mk {ns:Ξ}{m:Int}:m∈ns->(∀ a∈ns,m<=a)->cMi [.lst (ns.map .int)] (.int m)
universe e
def PE.p (h:PE X e (tN re)):PE X e z8:=h.imp λ_ _ _=>tN.p
def b0F {K:Ψ}(h:tN oP σ H Q):jn yO yq js qp sV z8 σ H Q:=by
 obtain⟨F,ε,d,S,@⟨l,os,h1,h2,h3,h4⟩,q⟩:=h;show#[Xv,l,S,h1,λJ H1 e1 hJ=>qc uC hJ h2 h3 λa H2 vs e2 ha hv hd=>?_];let n0:H a=none:=by cases y:H a with
  | none=>rfl
  | some o=>rw[e1 _ _ y]at ha;cases ha
 subst h4;show q a H2 ļ n0 #[vs,hv,hd.mono λb o y=>?_];unfold grow aW at y;by_cases z:b=a
 ·grind
 ·rw[aR z];unfold grow;by_cases w:H b=none
  ·rw[if_pos w]at y ⊢;by_cases w1:H1 b=none
   ·simp_all
   ·rw[if_neg w1]at y;show e2 _ _ y
  ·rw[if_neg w]at y ⊢;by_cases w1:H1 b=none
   ·cases y3:H b with
    | none=>show absurd y3 w
    | some o=>rw[e1 _ _ y3]at w1;cases w1
   ·rwa [if_neg w1]at y
section
variable {st:Stmt}{re rk:Rx}{K:Ψ}{i j:Nat}
def Yf:PE X b7P (tN λ_ d=>d=KR []):=Ol.imp λσ H Q J' p hp=>by let#[vJ]:=J';subst h;show q p _ (aO ė hp) hp #[[],ae,2]
inductive rD1 (ra rb:Rx) (ε:En) (d:D):Prop
 |mk {k:Dx}{x v:D}:ra ε x->x=kD k->rb ε v->d=KR [(k,v)]->rD1 ra rb ε d
def dD1 (ha)(hb:PE X b wK):PE X (.Dict [!a] [b] pos) (tN (rD1 ra rb)):=
 (yC (fS ha hb b7z) rfl rfl İ<|IU rfl).imp fun σ H Q ⟨F,ε,d,S,.mk (k:=k) h1 hk h2 h3,q⟩ p hp=>by
  subst hk;let S0:Sd F σ (upd H p<|.dK []) ε:=⟨λb o y=>by rw[a8 (λz=>by rw[z]at y;rw[S.le _ _ y]at hp;cases hp)];show S.le _ _ y,S.len,S.rd⟩
  show tP.go S0 h1 λx H1 e1 S1 q1=>tP.go S1 h2 λy H2 e2 S2 q2=>#[e2 _ _<|e1 _ _ ae,[(k,y)],by rw[l7 q1];rfl,IU rfl,?_]
  let e3:gR H (upd H2 p<|.dK (b6 [] [(k,y)])):=aY ((aO ė hp).trans<|e1.trans e2) hp;subst h3;show q p _ e3 hp ⟨[(k,y)],by rw[ae];rfl,rfl,_,_,rfl,q2.mono λb o w=>?_,rfl⟩;rw[av e1 e2]at w;unfold grow at w;by_cases z:b=p
  ·subst z;rw[if_neg<|by grind [ae]]at w;rw[S.le _ _ w]at hp;cases hp
  ·rw[aR z];unfold grow;rw[a8 z]at w ⊢;show w
inductive Xy (i:Nat) (rk re:Rx) (ε:Ev):Fl->Prop
 |mk {ð:ι}{k:Dx}{x d:D}:ε[i]?=!.ow vO->ð.length<=1000->RM re ε d->rk Ĭ x->x=kD k->Xy i rk re ε (.nx (ε.set i (.ow (KR (si ð k d)))))
def qP (h:PS X st (Wj D4 (tP rk) te))(kt:∀ σ H Q,tP re σ H Q->te σ H Q):QS X st (Xy i rk re):=λF0 H0=>h.imp λE σ H J'=>by let#[BU]:=J';obtain @⟨ð,k,x,d,h1,h2,h3,h4,hk⟩:=h;subst hk;show kt _ _ _ (h3.go S λx H1 F1 e1 u1 S1 q1=>?_);let#[a,AB,ķ,p4,p5,p6]:=S1.ro i _ h1;show#[_,p1,tP.go S1.a h4 λy H2 e2 _ q2=>#[a,_,1,l7 q2▸Qf.k (e2 _ _ p4) (Iz (by let:=congrArg List.length p5;simp at this;rw[this];show h2)<|by decide +kernel),p σ _ F1 u1 ((S1.KN e2).chg h1 p1 ?_)]];let#[IO]:=UnR p5 p6 q1;show#[_,ae,IO]
inductive Wm (i j:Nat) (ε:Ev):Fl->Prop
 |mk {l:χ}{d:D}:ε[j]?=!.ow (.lst (l++[d]))->Wm i j ε a6i
inductive Wn (i j:Nat) (ε:Ev):Fl->Prop
 |mk {l:χ}{d:D}:ε[j]?=!.ow (.lst (d::l))->Wn i j ε a6i
def a4H (h:PS X st (lu (Xq K "list" a0H (uh j)) Ej)):QS X st (Wm i j):=λF0 H0=>h.imp λE σ H J'=>by
 let#[BU]:=J';obtain @⟨l,d,h1⟩:=h;let#[c23,p5]:=S.ro j _ h1;let hl:=p5.length;rw[Fb,Gg]at hl;let#[v,v1,v2]:=p5.at (i:=l.length) (d:=d) Ė
 show#[_,p1,.inl b8G,a,vs,v,2,p4,by rw[hl];show v1,p _ _ F ė<|(S.chg (d:=.lst l) h1 p1 #[_,ae,?_]).RL v2 i];let:=p5.take l.length;rw[List.take_left'  rfl]at this;rw[List.dropLast_eq_take,hl];show this
def a0N (h:PS X st (lu (tBM K "list" b6J (uh j) (Bi (tC Pu) wI)) Ej)):QS X st (Wn i j):=λF0 H0=>h.imp λE σ H J'=>by let#[BU]:=J';obtain @⟨l,d,h1⟩:=h;let#[c23,va,p5,p6]:=S.ro j _ h1;show#[_,p1,.inl #[1,_,JU.of p4],a,_,(0),(0),v,2,p4,by decide,by decide,by simp[seqIndex?],1,p _ _ F ė<|(S.chg (d:=.lst l) h1 p1 #[_,ae,by simpa using p6]).RL p5 i]
inductive Uk (i:Nat) (rk:Rx) (ε:Ev):Fl->Prop
 |mk {ð:ι}{k:Dx}{x v:D}:ε[i]?=!.ow vO->rk Ĭ x->x=kD k->cy ð k=!v->Uk i rk ε (.nx (ε.set i (.ow (KR (qX ð k)))))
def a0O (h:PS X st (Bg (Bh D4 (tP rk)))):QS X st (Uk i rk):=λF0 H0=>h.imp λE σ H J'=>by let#[BU]:=J';obtain @⟨ð,k,x,v,h1,h2,hk,h3⟩:=h;subst hk;let#[a,AB,ķ,p4,p5,p6]:=S.ro i _ h1;let#[w,w1,_]:=(JS.val p5 p6).2 v h3;let#[IO]:=a1Z p5 p6;show#[_,p1,a,1,.inl #[ķ,.inl p4],tP.go S.a h2 λy H2 e2 _ q2=>#[ķ,k,w,e2 _ _ p4,l7 q2,w1,p σ _ F ė<|(S.KN e2).chg h1 p1 #[_,ae,IO]]]
inductive rSI (i:Nat) (rk re:Rx) (ε:Ev):Fl->Prop
 |mk {l:χ}{m:Nat}{k:Int}{d:D}:ε[i]?=!.ow uq->RM re ε d->rk Ĭ vk->Vx l.length k=!m->rSI i rk re ε (.nx (ε.set i (.ow (.lst (l.set m d)))))
inductive a0M (i:Nat) (g:Int->Int->Int) (re:Rx) (ε:Ev):Fl->Prop
 |mk {x y:Int}:ε[i]?=!.fz (.int x)->re Ĭ (.int y)->a0M i g re ε (.nx (ε.set i (.fz (.int (g x y)))))
def XB (h:PS X st (a0r i z8 (ipI g))):QS X st (a0M i g re):=λF0 H0=>h.imp λE σ H J'=>by let#[BU]:=J';obtain @⟨x,y,h1,h2⟩:=h;let#[v,v1,v2]:=S.rz i _ h1;show#[v,v1,tP.go S.a h2 λu H1 e1 _ q1=>#[x,y,v2,q1,p _ _ F ė<|(S.KN e1).RL (d:=.int _) rfl i]]
inductive rEx (re:Rx) (ε:Ev):Fl->Prop
 |mk {d:D}:re Ĭ d->rEx re ε vv
def b1Q (h:PE X e z8)(hs:swapsWith e none pos.line X.env=pure false:=ā):QS X (.Expr e pos) (rEx re):=λF0 H0=>(aw h hs).imp λE σ H J'=>by let#[BU]:=J';let#[h1]:=h;show tP.go S.a h1 λx H1 e1 _ q1=>p σ H1 F ė (S.KN e1)
inductive rTs (q:Ô) (re:Rx) (ε:Ev):Fl->Prop
 |mk {d:D}{ε':Ev}:re Ec d->q d ε ε'->rTs q re ε sC
universe e
def b03 (h0:H0 a≠none->F0 a=!o)(hH:H a=!o):KZ a o' ur=grow (KZ a o' F0) (KZ a o' H0) (KZ a o' H):=by
 funext b;by_cases z:b=a
 ·subst z;by_cases n:H0 b=none
  ·let e1:grow F0 H0 H b≠none:=by rw[ay n,hH];show nofun
   rw[cg e1,ay<|Oe.mpr n,cg (by rw[hH];show nofun)]
  ·let e0:=h0 n;let e1:grow F0 H0 H b≠none:=by unfold grow;rw[if_neg n,e0];show nofun
   rw[cg e1];unfold grow;rw[if_neg λm=>n<|Oe.mp m,cg (by rw[e0];show nofun)]
 ·rw[br z];unfold grow;rw[br z,br z,br z]
def gJ (h:F a=none\/F a=!o):KZ a o (KZ a u F)=F:=by
 rcases h with h|h
 ·rw[rP h,rP h]
 ·show lS h
def RE.KZ (hF:F a=Option.some o)(k:U8 o ķ)(k')(hb:b≠a):RE F H d b->RE WD v8 d b:=by
 cases d with
 | lst l=>rintro⟨vs,h,q⟩;show#[vs,by rw[br hb];show h,q.KZ hF k k']
 | dct ks l=>rintro⟨vs,h,h2,q⟩;show#[vs,by rw[br hb];show h,h2,q.KZ hF k k']
 | _=>show λz=>z.elim
def Ss.KZ {a:Addr}(S)(hF:F a=!o)(k:U8 o ķ)(k'):Ss (L2.KZ a o' F0) (L2.KZ a o' H0) WD σ v8 ε:=by
 let h0:=λn=>by let:=S.lo _ _ hF;unfold L2.grow at this;rwa [if_neg n]at this
 show#[cA S.b0,cA S.f0,cA S.up,?_,S.len,c0C,S.ap]
 ·rw[<- b03 h0 (S.le _ _ hF)];show cA S.lo
 ·let#[v,v1,v2]:=S.rz i d q;show#[v,v1,v2.KZ hF k k']
 ·let#[b,z6,b4]:=S.ro i d q;let hb:b≠a:=λz=>by grind
  show#[b,b1,by rw[br hb];show b2,by rw[br hb];show b3,b4.KZ hF k k' hb]
section
variable {X:Cx}
theorem Lj (X)(E:d8):d8 where
 nx:=λσ H=>(∃ a o ķ,NF X a/\H a=!.frz o ku/\E.nx σ (upd H a ku))\/E.nx σ H
 rt:=λv H=>(∃ a o ķ,NF X a/\H a=!.frz o ku/\E.rt v (upd H a ku))\/E.rt v H
def W'.Lj {F0 H0 F:Hp}{E:d8}:∀ {f:Fl},W' F0 H0 F E f->W' F0 H0 F (Lj X E) f
 | .nx _,h=>λσ H F' u S=>.inr (h σ H F' u S)
 | .rt _,h=>λx H a b c=>.inr (h x H a b c)
def SP.Sm (h:SP X ñ (Lj X E) f s):SP X ñ E f s:=by
 cases f with
 | next=>
  obtain⟨σ,H,I,⟨a,o,ķ,nf,e,q⟩|q⟩:=h
  ·show#[σ,_,I.Xi e nf,q]
  ·show#[σ,H,I,q]
 | ret v=>
  obtain⟨x,σ,H,I,r,⟨a,o,ķ,nf,e,q⟩|q⟩:=h
  ·show#[x,σ,_,I.Xi e nf,r,q]
  ·show#[x,σ,H,I,r,q]
 | brk=>let⟨σ,H,I,q⟩:=h;show False.elim q
 | cont=>let⟨σ,H,I,q⟩:=h;show False.elim q
def PI0 {ð:ι}(hJ:Dn J pr)(hg:W7 g q)(S1:Ss F0 H0 F1 σ H1 ε)(p1:Rd F1 a ku)(p2)(p3)(fz)(h2:jU q rb ε b6z f)(pu:W' F0 H0 F1 E f):
  ∃ W:Nat->Nat->Υ,(∃ m,W 0 m σ H2)/\∀ i m σ H,W i m σ H->((J o a).stop i H/\(Lj X E).nx σ H)\/((J o a).go i H/\∃ N:Υ,Ġ/\∀ x H',(J o a).V' i H x H'->g x σ H' λσ2 H2=>Ŭ { Lj X E with nx:=N,ct:=N,bk:=(Lj X E).nx } σ2 H2):=by
 let#[f1,f2]:=fz;rcases p1 with p1|⟨r,p1⟩
 ·let VN:=S1.le _ _ p1;rcases f2 with⟨_,f2,nf⟩|f2
  ·let S2:=S1.KZ p1 ĵ<|.inr #[o,1];let eF:KZ a _ F1 a=!(.frz o<|.dK ķ):=cg (by rw[p1];show nofun);let h0:F0 a=none\/F0 a=!.dK ķ:=by
    cases y:F0 a with
    | none=>show .inl rfl
    | some w=>have:=S1.up _ _ y;rw[p1]at this;show .inr this.symm
   let h0':H0 a=none\/H0 a=!.dK ķ:=by
    cases y:H0 a with
    | none=>show .inl rfl
    | some w=>have:=S1.b0 _ _ y;rw[VN]at this;show .inr this.symm
   rw[jj VN]at f2;subst f2;show mB (tb:=λE σ H=>∃ F0 H0,tQ F0 H0 rb E σ H) mI hg S2 (hJ eF p2<|p3.KZ p1 ĵ wV) h2 ?_
   cases f with
   | nx ε'=>show λσ' H' F' u S'=>.inl #[a,o,ķ,nf,S'.le _ _<|u _ _ eF,by let S3:=S'.KZ (u _ _ eF) wV<|.inl rfl;rw[gJ h0,gJ h0']at S3;rw[jj<|S'.le _ _ (u _ _ eF)];show pu σ' _ _ ?_ S3;let:=cA (a:=a) (o:=.dK ķ) u;rwa [lS p1]at this]
   | rt d=>show λx H' b1 b2 z=>.inl #[a,o,ķ,nf,b2 _ _ eF,by
     let hH':=b2 _ _ eF;rw[jj hH'];let b3:=cA (a:=a) (o:=.dK ķ) b1;rw[gJ h0']at b3;let b4:=cA (a:=a) (o:=.dK ķ) b2;rw[lS p1]at b4;show pu x _ b3 b4 ?_;let hz:grow (KZ a b8I F0) (KZ a b8I H0) H' a=!(.frz o<|.dK ķ):=by
      by_cases n:H0 a=none
      ·rw[ay<|Oe.mpr n];show hH'
      ·unfold grow;rw[if_neg λm=>n<|Oe.mp m,cg];intro m;let:=S1.lo _ _ p1
       grind [grow]
     let z2:=z.KZ hz wV<|.inl rfl;rw[b03 (λn=>by unfold grow at hz;rwa [if_neg n]at hz) hH',gJ h0,gJ h0']at z2
     show z2]
  ·simp_all
 ·let VN:=S1.le _ _ p1;rcases f2 with⟨f2,_⟩|f2
  ·simp_all
  ·subst f2;rw[VN]at f1;cases f1;show mB (tb:=λE σ H=>∃ F0 H0,tQ F0 H0 rb E σ H) mI hg S1 (hJ p1 p2 p3) h2 (.Lj pu)
def Px (hp)(hc)(hi:PI X tg iter Aq)(ht:PG X tg g)(hg:W7 g q)(hb:Pn X ss rb)(hs):QS X IR (jr (Wo rd) q rb):=by
 intro F0 H0 ñ s σ H E I h;obtain⟨F,ε,f,S,@⟨l,@⟨c,h1,hl⟩,h2⟩,p⟩:=h;let Yz:N7 X ss Ŭ:=λñ s σ H E I J'=>by let#[F0,H0,h]:=J';show hb F0 H0 ñ s σ H E I h
 show K2 (bP hp hc hi ht Yz hs ñ s σ H _ I #[λx H1=>gR H H1/\DR _ c x,tP.go S.z h1 λx H1 e1 _ q1=>xN,λx H1 J'=>?_]) λf s' q=>SP.Sm q;let#[e1,hx]:=J';let S1:=S.grow e1;let pu:=p.up (aj (H1:=H1) S.le)
 cases hl with
 | l hl=>
  let#[vm]:=hl.at hx;show#[a,ex,.inl #[vs,.inl<|ha.mono S1.le,mB (tb:=λE σ H=>∃ F0 H0,tQ F0 H0 rb E σ H) mI hg S1 (yQ ha hv) h2<|.Lj pu]]
 | t=>
  let#[vm]:=hx;show#[a,ex,.inr<|.inl #[vs,M0.of<|S1.le _ _ ha,mB (tb:=λE σ H=>∃ F0 H0,tQ F0 H0 rb E σ H) mI hg S1 (WM ha hv) h2<|.Lj pu]]
 | k=>
  let#[ve]:=hx;show#[a,ex,.inr<|.inr ⟨ķ,p1.mono S1.le,λo H2 fz=>PI0 a6L hg S1 p1 p2 p3 fz h2 pu⟩]
def qLv (hp)(hc)(hi:PI X tg iter b7k)(ht:PG X tg g)(hg:W7 g q)(hb:Pn X ss rb)(hs):QS X IR (jr (rVs rd) q rb):=by
 intro F0 H0 ñ s σ H E I h;obtain⟨F,ε,f,S,@⟨l,@⟨ð,h1,hl⟩,h2⟩,p⟩:=h;subst hl;let Yz:N7 X ss Ŭ:=λñ s σ H E I J'=>by let#[F0,H0,h]:=J';show hb F0 H0 ñ s σ H E I h
 show K2 (bP hp hc hi ht Yz hs ñ s σ H _ I #[c0b,λx H1 J'=>(by let#[e1,ve]:=J';show#[a,ķ,ex,p1.mono (S.grow e1).le,λo H2 fz=>PI0 a6g hg iP p1 p2 p3 fz h2<|p.up (aj S.le)])]) λf s' q=>SP.Sm q
def Vb {K:Ψ}{st:Stmt}(h:PS X st (lu (jn Aq yq js qp sV z8) Ej))(hK:K=X.K):QS X st (Bw i Cn):=by intro F0 H0 ñ s σ H E I z;let#[Xv,f,S,z,p]:=z;let#[z]:=z;show K2 (h ñ s σ H (Lj X E) I<|a4y (tP.go S.z z λx H1 e1 _ q1=>p _ H1 _ sS<|(S.grow e1).RL q1 i)) λf s' q=>SP.Sm q
universe e
section
variable {q:Ô}{rb:Rs}{α:Type}{u:α->D}
def a02 (I:β->Ù)(g:β->α->β):∀ (xs:List α) {b:β}{ε:Ev},(∀ b x ε,x∈xs->I b ε->∃ ε1,q (u x) ε ε1/\∃ ε2,rb ε1 vc/\I (g b x) ε2)->I b ε->∃ ε',jU q rb ε mr sC/\I IL ε':=by
 intro r'
 induction r' with
 | nil=>
  intro _ ε _ h;show B2
 | cons x xs ih'=>
  intro b ε k h;let#[ε1,k1,ε2,k2,k3]:=k b x ε Fy h;let#[qB]:=ih' (λb y ε hy=>k b y ε<|Ft _ hy) k3;show#[ε',c1k]
def a81 (I:Ù)(c:α->Bool)(h:α->D):∀ (xs:List α){ε:Ev},(∀ x ε,x∈xs->I ε->∃ ε1,q (u x) ε ε1/\if c x=true then rb ε1 (.rt (h x)) else ∃ ε2,rb ε1 vc/\I ε2)->I ε->match xs.find? c with
   | some x=>jU q rb ε mr (.rt<|h x)
   | none=>∃ ε',jU q rb ε mr sC/\I ε'
 | [],ε,_,h=>B2
 | x::xs,ε,k,hI=>by
  let#[ε1,k1,k2]:=k x ε Fy hI;rw[Hl]
  cases z:c x with
  | true=>rw[z,if_pos rfl]at k2;show .ret k1 k2
  | false=>
   rw[z,if_neg nofun]at k2;let#[ε2,k3,k4]:=k2;let:=a81 I c h xs (λy ε hy=>k y ε<|Ft _ hy) k4
   cases y:xs.find? c with
   | some w=>rw[y]at this;show .next k1 k3 this
   | none=>rw[y]at this;let#[qB]:=this;show#[ε',.next k1 k3 h1,h2]
def fh (I:β->Ù)(μ:β->Nat)(h0:I b ε)(k:∀ b ε,I b ε->rt Ĭ false/\r2 ε f\/rt Ĭ true/\∃ b' ε',rb ε sC/\I b' ε'/\μ b'<μ b):oY (rWh rt rb) r2 ε f:=by
 let go:∀ (n:Nat) {b:β}{ε:Ev},μ b<n->I b ε->∃ ε',Z4 rt rb n ε sC/\r2 ε' f:=λn=>by
  induction n with
  | zero=>simp_all
  | succ n ih=>
   intro b ε h hI;rcases k b ε hI with⟨t,h1⟩|⟨t,b',ε',k1,k2,k3⟩
   ·show#[ε,.done t,h1]
   ·let#[ε2,nU]:=ih #[] k2;show#[ε2,.next t k1 h1,h2]
 let#[qB]:=go _ (GJ _) h0;show .nx #[_,h1] h2
def gO (xs)(I:Ù)(c:α->Bool)(h:α->D)(h0:I ε)(hl)(k:∀ x ε,x∈xs->I ε->∃ ε1,q (u x) ε ε1/\if c x=true then rb ε1 (.rt (h x)) else ∃ ε2,rb ε1 vc/\I ε2)(hs:∀ x,xs.find? c=!x->f=.rt (h x))(fin:xs.find? c=none->∀ ε,I ε->r2 ε f):oY yJ r2 ε f:=by
 let:=a81 I c h xs k h0
 cases z:xs.find? c with
 | some x=>rw[z]at this;rw[hs x z];show .rt (.mk hl this)
 | none=>rw[z]at this;let#[qB]:=this;show .nx u0 (fin z ε' h2)
universe e
def bo (n):rH 0 n=(List.range n).map λi=>.int (i:Int):=by unfold rH;show FA λi _=>by rw[Jn]
def zA (s n:Nat):rH s n=(List.range' s n).map λi=>.int (i:Int):=by unfold rH;simp[List.range'_eq_map_range]
abbrev rw (r:Ξ):D:=.lst (r.map .int)
abbrev tb (t:Θ):D:=.lst CY
def Ql (g:α->Int)(l:List α):Fl.rt (rw DG)=.rt (.lst (l.map λx=>.int (g x))):=by simp_all
def tbm (g:α->Ξ)(l:List α):Fl.rt (tb DG)=.rt (.lst E4):=by simp_all
def b5p {g:α->β}{l:List α}{i:Nat}{x:α}(h:l[i]?=!x):P5 DG (i:Int)=!g x:=iy ħ
def cH {l:Ξ}(h:i<l.length):P5 (l.map D.int) (i:Int)=!.int (l.getD i 0):=b5p ħ
def tK {t:Θ}(h:i<t.length):P5 CY (i:Int)=!rw (t.getD i []):=b5p ħ
def dj {t:List α}{z:α}(h:i<t.length):t.getD i z∈t:=by simp_all
def ne_int (ha:ra ε xu)(hb:rb ε Y5):rO (fE true) ra rb ε (.bl (decide (i≠j))):=.mk ha hb (.mk rfl rfl rfl (congrArg D.bl (by
 by_cases c:i=j
 ·subst c;simp
 ·rw[EY c,F5 λz=>c<|by injection z];rfl)))
def eq_int (ha:ra ε xu)(hb:rb ε Y5):rO rS ra rb ε (.bl (decide (i=j))):=.mk ha hb (.mk rfl rfl rfl (congrArg D.bl (by
 rw[if_neg nofun];by_cases c:i=j
 ·subst c;simp
 ·rw[F5 c,F5 λz=>c<|by injection z])))
theorem BP:Option Nat->D
 | none=>.non
 | some a=>.int (a:Int)
def cu (k:Nat):vV l none b7M=l.take k:=by
 unfold vV;rw[HT.R4,HT.Pg,List.drop_zero,Nat.sub_zero,List.take_eq_take_iff]
 lia
def iw (k:Nat):vV l b7M none=l.drop k:=by
 unfold vV;rw[HT.R4,HT.Pg,GV<|by simp_all]
 simp_all
section
variable {α:Type}{u:α->D}
abbrev _root_.Õ:=Nat->Ù
def a3F {ok:D->Prop}:∀ (xs:List α)(I:Õ){ε:Ev},I 0 ε->(∀ i x ε,xs[i]?=!x->I i ε->∃ ε1,q (u x) ε ε1/\((∃ d,rb ε1 AR/\ok d)\/∃ ε2,rb ε1 vc/\I (i+1) ε2))->(∃ d,jU q rb ε mr AR/\ok d)\/∃ ε',jU q rb ε mr sC/\I xs.length ε':=by
 intro xs
 induction xs with
 | nil=>intro I ε h _;show .inr B2
 | cons x xs ih=>
  intro I ε h k;obtain⟨ε1,k1,⟨d,k2,k3⟩|⟨ε2,k2,k3⟩⟩:=k 0 x ε rfl h
  ·show .inl #[d,.ret k1 k2,k3]
  ·rcases ih (λi=>I<|i+1) k3 (λi y ε hy=>k (i+1) y ε<|by simpa using hy) with⟨d,h1,h2⟩|⟨ε',h1,h2⟩
   ·show .inl #[d,c1k]
   ·show .inr #[ε',c1k]
def a97 (xs)(I:Õ)(h0:I 0 ε)(hl)(k):∃ ε',jr ri q rb ε sC/\I xs.length ε':=by
 rcases a3F (ok:=λ_=>False) xs I h0 (λi x ε h h'=>let ⟨ε1,a,b⟩:=k i x ε h h';#[ε1,a,.inr b]) with⟨_,_,z⟩|⟨ε',h1,h2⟩
 ·show z.elim
 ·show#[ε',.mk hl h1,h2]
def bX (xs)(I:Õ)(h0:I 0 ε)(hl)(k)(fin):oY yJ r2 ε f:=
 let #[qB]:=a97 xs I h0 hl k
 .nx h1 (fin ε' h2)
def b6D (xs)(I:Õ)(h0:I 0 ε)(hl)(k:∀ i x ε,xs[i]?=!x->I i ε->∃ ε1,q (u x) ε ε1/\((∃ d,rb ε1 AR/\f=.rt d)\/∃ ε2,rb ε1 vc/\I (i+1) ε2))(fin):oY yJ r2 ε f:=by
 rcases a3F xs I h0 k with⟨d,h1,rfl⟩|⟨ε',h1,h2⟩
 ·show .rt u0
 ·show .nx u0 (fin ε' h2)
universe e
section
variable {α:Type}{u:α->D}{J:Ù}
def t9 (h1:r1 ε (.nx ε1))(h2:∃ ε',r2 ε1 sC/\J ε'):∃ ε',oY r1 r2 ε sC/\J ε':=let ⟨ε',a,b⟩:=h2;#[ε',.nx h1 a,b]
def a2s {β:Type}(xs)(I:β->Ù)(g:β->α->β){b:β}(h0:I b ε)(hl)(k:∀ b x ε,x∈xs->I b ε->∃ ε1,q (u x) ε ε1/\∃ ε2,rb ε1 vc/\I (g b x) ε2)(fin:∀ ε',I IL ε'->J ε'):∃ ε',jr ri q rb ε sC/\J ε':=
 let #[qB]:=a02 I g xs k h0
 #[ε',.mk hl h1,fin ε' h2]
def vH (xs)(I:Õ)(h0:I 0 ε)(hl)(k)(fin:∀ ε',I xs.length ε'->J ε'):∃ ε',jr ri q rb ε sC/\J ε':=
 let #[qB]:=a97 xs I h0 hl k
 #[ε',h1,fin ε' h2]
universe e
def aQ {l:List α}{x:α}(h:l[i]?=!x):l.take (i+1)=l.take i++[x]:=by rw[GL,h];rfl
def gt_int (ha:ra ε xu)(hb:rb ε Y5):rO (fI MU λi j=>Q1 b52) ra rb ε b52:=B0
def lt_int (ha:ra ε xu)(hb:rb ε Y5):rO (fI MU λi j=>Q1 b53) ra rb ε b53:=B0
def fR (h:(List.range n)[i]?=!x):i=x/\i<n:=by
 let#[nU]:=ES.mp h;rw[G9]at h1
 simp_all
def gH {l:List α}{f:α->Dx}{g:α->D}:cy Fa k=(l.find? λx=>decide (f x=k)).map g:=by unfold cy;rw[List.find?_map,Option.map_map];rfl
def kS:D.str x=kD Xd:=rfl
def kI:D.int i=kD (.inl i):=rfl
def a2f:(cy ð k).isSome=true ↔ k∈ð.map (·.1):=by grind [cy,Option.isSome_map,List.find?_isSome,List.mem_map]
def YA {l:List α}{f:α->Str}{g:α->D}:(cy (l.map λx=>(.inr (f x),g x)) (.inr y)).isSome=decide (y∈l.map f):=by
 rw[GH,a2f,EZ,HW,EW,EW]
 grind
def YB {l:List α}{f:α->Int}{g:α->D}:(cy (l.map λx=>Ow) (.inl y)).isSome=decide (y∈l.map f):=by
 rw[GH,a2f,EZ,HW,EW,EW]
 grind
def dR (h:k∉ð.map (·.1)):si ð k d=ð++[(k,d)]:=if_neg λz=>h (let #[p,a,b]:=List.any_eq_true.mp z;EW.mpr #[p,a,Fv b])
inductive YK:D->D->D->Prop
 |mk {x:D}{k:Nat}:k<=1000->YK (.lst [x]) vk (.lst (List.replicate k x))
def yK:Qd YK a0G:=λF H x y u v d Q s z hu hv q=>by
 obtain @⟨x,k,hk⟩:=z;let#[E5,p1,w,ws,1,p2,1]:=hu;show#[a,k,[w],1,hv,s _ _ p1,sI,?_,λp n=>q _ _ (aO ė n) #[p,_,1,by rw[ay n,ae],JS.mono (aj s) _ _ ?_]]
 ·show Fs b6B (by decide +kernel:1000<=sizeLine)
 ·clear hk q hv
  induction k with
  | zero=>rfl
  | succ k ih=>show#[w,_,1,p2,ih]
def c6 {α:Type}{xs:List α}{u h:α->D}(hi:ri ε mr)(hl:xs.length<=1000)(k:∀ x∈xs,∃ l,ZM n (u x) l/\re vP (h x))(e:d=.lst (xs.map h)):rL n js ri zR re ε d:=e▸aZ hi hl k
def LD.m {g:α->D}{x:List α}:LD [.lst (x.map g)] (.int x.length):=by rw[<- EO (f:=g)];show .s (.sq .lst)
def a25 (i:Int):∀ (ks:Ξ),Vc xu ((ks.map D.int).map fv)=decide DJ:=by
 intro r'
 induction r' with
 | nil=>
  show rfl
 | cons k ks ih'=>
  let ih:=ih';unfold Vc at ih ⊢;rw[Fh,Fh,J1,ih,GH];change b5C=true ↔ _
  grind
def gj:V5 n xu (rw ks) a3B:=.s #[.sq .lst,1,by rw[List.all_map,Ht];show λ_ _=>rfl,by rw[show Vc (fv<|.int i) _=decide _ from a25 i ks]]
def c1E (i:Str):∀ (ks:η),Vc (.str i) ((ks.map D.str).map fv)=decide DJ:=by
 intro r'
 induction r' with
 | nil=>
  show rfl
 | cons k ks ih'=>
  let ih:=ih';unfold Vc at ih ⊢;rw[Fh,Fh,J1,ih,GH];change b5C=true ↔ _
  grind
def eY {ks:η}:V5 n (.str i) (.lst (ks.map .str)) a3B:=.s #[.sq .lst,1,by rw[List.all_map,Ht];show λ_ _=>rfl,by rw[show Vc (fv<|.str i) _=decide _ from c1E i ks]]
def iO.m {l:List α}{f:α->Dx}{g:α->D}:iO (KR Fa) (l.map λx=>kD (f x)):=by let:=iO.k (ð:=l.map λx=>zD);rw[EZ]at this;show this
def dH (nd:(ð.map (·.1)).Nodup)(h:(k,d)∈ð):cy ð k=!d:=by
 unfold cy
 induction ð with
 | nil=>cases h
 | cons kv l ih=>
  let nd:=FP.mp nd;rcases Fw.mp h with z|z
  ·rw[<- z,List.find?_cons_of_pos<|by simp];rfl
  ·rw[List.find?_cons_of_neg (by simp only[decide_eq_true_eq];show λy=>nd.1<|EW.mpr #[_,z,y.symm])];show ih nd.2 z
def ig:∀ {more ð:ι},((ð++more).map (·.1)).Nodup->fm ð more=ð++more
 | [],ð,_=>(Fq _).symm
 | kv::more,ð,nd=>by
  unfold fm;rw[GU,dR λz=>by rw[EX,Fh,FG]at nd;show nd.2.2 _ z _ Fy rfl]
  let:=ig (more:=more) (ð:=ð++[kv]) (by rwa [FI]);rwa [FI]at this
def UY.m {l:List α}{f:α->Dx}{g:α->D}(h:l.length<=1000)(nd:(l.map f).Nodup):UY [.lst (l.map λx=>.tup [kD (f x),g x])] (KR Fa):=by let:=UY.p (ð:=l.map λx=>zD) SC;rw[ig (by rw[Gp,EZ];show nd),Gp]at this;unfold prs at this;rw[EZ]at this;show this
theorem Zc (R:Ä):Sp:=λvs H Q _=>∃ F l d,gR F H/\JS F l vs/\R l d/\∀ a H',gR H H'->H a=none->RE (aW a Ŏ) H' d a->Q xV H'
def Zc.p (h:Pr R vs H Q E):Zc R vs H Q E:=let ⟨F,l,d,s,a,b,q⟩:=h
 #[F,l,d,s,a,b,λa H' e n w=>q _ H' e (w.dr Kf λo z=>by rw[ay n];show z)]
def eI (he:PE X o ya)(Dd)(hr)(ht:eval Ĝ X.env=(do
   let ov <- eval o X.env
   standAt apos.atName
   let (f,first) <- holding [ov] ő
   callWith pos f first (backTo pos jp) ġ):=ā):PE X Ĝ (tP (Xz (·=C) m (λ_=>R) ra)):=EA he (λC' h=>by cases h;show Dd) hr ht
def dLN (n)(hc)(S:bA X scope yq js N')(hi:PI X tg iter yO)(hg:∀ cells C s H fp,PG ĕ tg pR)(ht:∀ cells C s H fp,NI ĕ ifs sV)(he:∀ cells C s H fp,PE ĕ elt z8)(hs):PE X uV (tN oP):=(eQ hc S hi hg ht he hs).imp λ_ _ _=>b0F
section
variable {K:Ψ}
def Nc.dvN {k:Nat}{st:Stmt}(F:Nc K x ğ st f fd)(S:au N ps Bo)(hb:ax st=b7o)(t:∀ l d,R l d->l.length=ps.length/\re ((ent N.length l).map Sl.a) d)(b:∀ (JE:Value)(A:Ë)(outer:List Env)(s:Ê)(H:Hp)(E:XK),JW base k Ĕ->PE (dZ Ld P w K mg base N ğ Bo f JE A outer s H E).RO e (tN re)):K6 P w K mg base Ld (k+1) f fd ps (Zc R):=
 F.ok S (λvs H Q E J'=>(by let#[_,l,d,_,hl,hR,_]:=J';rw[hl.length,(t l d hR).1])) λJE A outer s H vs Q E hr J'=>by let#[F,l,d,sm,hl,hR,q]:=J';show#[_,hb▸aq (bB<|b JE A outer s H E hr),_,_,d,(og N sm hl).a,(t l d hR).2,λa H' e n w=>q a H' e n<|by rwa [av ė e]at w]
def Df.p (h:Df P w K mg base k x ps (Zc R)):Df P w K mg base k x ps Eo:=let ⟨f,fd,a,b,c,d⟩:=h;#[tw,sH,d.imp λ_ _ _ _=>Zc.p]
universe e
inductive cDk:Ä
 |mk {ð:ι}:cDk XR wX
def a6Q (hc)(hg:Gl X "dict")(hm:X.mg "dict"=none)(ha:PA X sQ DF)(hn:("dict":Str)≠"__name__":=ö)(NB:(("dict":Str)==("__debug__":Str))=false:=ö)(he)(LW):PE X (.Call b8H sQ [] pos) (tN (rF cDk rs)):=(dA (cQ hc) hg hm boot_dict ha hn NB he LW).imp fun σ H Q ⟨F,ε,d,S,⟨h1,h2⟩,q⟩=>Mu.go S h1 λxs H1 e1 S1 q1=>by
 cases h2;let#[x6]:=q1;show .inl #[a,ķ,1,p1.mono S1.le,λp H2 e2 n z=>?_];let n0:=e1.free n;let m:=jC (F:=aW p<|grow F H H2) (ð:=[]) (ķ:=[]) p2 (p3.mono λb o y=>?_) rfl rfl
 ·show q p H2 ļ n0 #[_,z,m.1,m.2]
 ·by_cases c:b=p
  ·subst c;rw[ay n0,n]at y;cases y
  ·rw[aR c];unfold grow at y ⊢;by_cases w:H b=none
   ·rw[if_pos w]at y ⊢;show e2 _ _ y
   ·simp_all
def dI:PE X (.Constant (.int n) j pos) (tP (rC (Q1 (.int n)))):=dC b8
def bO:PE X b4Q (tP (rC (Q1 yI))):=dC b0Q
def Qv:PE X (.Constant (.bool c) j pos) (tP (rC (Q1 (.bl c)))):=dC qh
def Q4:PE X b3O (tP (rC (Q1 .non))):=dC a6h
def qr (h:PE X e z8):Pn X b7o (Xx re):=q1 (qR h)
def Kh (hr)(ha)(hb:PE X b wK)(hs:jT b:=Ĉ):PE X Bn b6y:=dS C3 ha hb hs
def cw (hm:X.mg "len"=none)(ha:PE X e z8)(hg:Gl X "len":=ā)(he:starEach [e] X.env=Ō::starEach [] X.env:=ā):PE X (.Call (.Name "len" p) [e] [] pos) (tP (rF LD (rA re OH))):=dB c1A b9h hg hm boot_len (da ha JC he) (he:=he)
def qs (i)(hN)(he:PE X e z8)(hi:X.N[i]?=!x:=ā)(hx:v6 X.env.scope x:=Ć)(hs:swapsWith e tM pos.line X.env=pure false:=ā)(hf):
  QS X NE (Bw i re):=qS b3r λ_ _ _ h=>h
def qo (i)(hN)(he:PE X e (tN re))(hi:X.N[i]?=!x:=ā)(hx:v6 X.env.scope x:=Ć)(hs:swapsWith e tM pos.line X.env=pure false:=ā)(hf):
  QS X NE (Bv i re):=qO b3r λ_ _ _ h=>h
def MO (cells:Ã)(C)(s:Ê)(H)(fp:υ):NI ĕ [] (Od zR):=df0
section
variable {K:Ψ}{x:Str}{st:Stmt}{k:Nat}
def Nc.dw (F:Nc K x ğ st f fd)(N:η)(t)(b:∀ (JE:Value)(A:Ë)(outer:List Env)(s:Ê)(H:Hp)(E:XK),JW base k Ĕ->(ps++N).Nodup->Pn (dZ Ld P w K mg base zC ğ Bo f JE A outer s H E).RO zu r)(S:au zC ps Bo:=č):K6 P w K mg base Ld (k+1) f fd ps Eo:=
 F.dv S t λJE A outer s H E hr=>b JE A outer s H E hr S.nd
def KD.dw (F:KD K x ğ st f fd)(N:η)(t)(b:∀ (JE:Value)(A:Ë)(outer:List Env)(s:Ê)(H:Hp)(E:XK),JW base k Ĕ->(ps++N).Nodup->Pn (dZ Ld P w K mg base zC ğ Bo f JE A outer s H E).RO zu r)(S:au zC ps Bo:=č):K6 P w K mg base Ld (k+1) f fd ps Eo:=
 KD.dv F S t λJE A outer s H E hr=>b JE A outer s H E hr S.nd
abbrev Fu (K:Ψ)(x:Str)(st:Stmt):=Nc K x x st
universe e
class Bd where
  P : Program
  w : World
  K : PySem.W.Frag
  mg : Str -> Option Value
  base : zL
section
variable [B:Bd]
abbrev Kn:=Df B.P B.w B.K B.mg B.base
abbrev KJ:=Dm B.P B.w B.K B.mg B.base
abbrev U4:=Dk B.P B.w B.K B.mg B.base
abbrev YS:=Dmd B.P B.w B.K B.mg B.base
abbrev AD:=DfX B.P B.w B.K B.mg B.base
abbrev CM:=oz B.P B.w B.K B.mg B.base
abbrev PH:=K6 B.P B.w B.K B.mg B.base
abbrev Tm (k:Nat)(x ğ:Str)(st:Stmt)(ps:η)(sp:Sp):Prop:=∀ f fd,Nc B.K x ğ st f fd->PH Ld k f fd ps sp
abbrev Tk (k:Nat)(x:Str):=Tm k x x
def dw {x ğ:Str}{st:Stmt}{ps:η}{k:Nat}{r:Rs}{R:Ä} (N:η) (t)
  (b) (S:au zC ps Bo:=č):Tm (k+1) x ğ st ps Eo:=
 λf _ F=>F.dw N t (b f) S
def KS {x ğ:Str}{st:Stmt}{ps:η}{k:Nat}{r:Rs}{R:Ä} (N:η) (t:∀ l d,R l d->r (ent (ps++N).length l) AR)
  (b) (S:au zC ps Bo:=č) (hl:∀ l d,R l d->l.length=ps.length:=Ď):Tm (k+1) x ğ st ps Eo:=
 dw N (λl d h=>#[hl l d h,.inl<|t l d h]) b S
universe e
universe L2
namespace K72
open PySem L2
open PyProof.Rows (boot_all boot_bool boot_dict boot_int boot_list boot_sorted boot_str boot_tuple)
structure wU (K:Ψ) (mg:Ω) (C:Addr):Prop where
 cl:Nr K C
 nP:Ka K C "prime"
 K8:mg "range"=none
 M8:mg "zip"=none
 Uq:mg "sum"=none
 JX:mg "len"=none
abbrev fD (C:Addr)(p:Int):D:=.ins C ["prime"] [.int p]
section
variable {C:Addr}
def wU.fl [Bx:Bd](T):∀ C',C'=C->Nr Bx.K C'/\Ka Bx.K C' "prime":=λC' h=>h▸#[T.cl,T.nP]
inductive Pe (C:Addr):Ä
 |mk {p n:Int}:0<p->Pe C fA (.int (n % p))
def b0O [Bx:Bd](T):Tm 1 "fit" "Field.fit" (ao mH 1) ä (Pr (Pe C)):=by
 show KS [] ?_ λ_ _ _ _ _ _ _ hr ND=>(qr<|dO bJ Mv (Đ 1) (RD T.fl<|Đ 0))
 rintro _ _ ⟨hp⟩;show#[#[iL,#[hp]],1]
inductive i5 (C:Addr):Ä
 |mk {p:Int}{xs ys:Ξ}:0<p->p<=1000000->xs.length<=1000->(∀ x∈xs,0<=x/\x<p)->i5 C [fD C p,rw xs,rw ys] (.int (Mx.JN p xs ys))
def a6t (f:α->γ)(g:β->δ):∀ (xs:List α)(ys:List β),(xs.map f).zip (ys.map g)=(xs.zip ys).map λz=>(f z.1,g z.2)
 | [],_=>rfl
 | _::_,[]=>rfl
 | _::xs,_::ys=>by simp_all [Fh,Jq,a6t]
def fY (xs ys:Ξ):((xs.zip ys).map λz=>D.tup EB)=((xs.map D.int).zip (ys.map D.int)).map λz=>.tup [z.1,z.2]:=by rw[a6t,EZ];rfl
def gr:∀ (xs ys:Ξ),((xs.zip ys).map λz=>z.1 * z.2).sum=Mx.dot xs ys
 | [],_=>by simp[Mx.dot]
 | _::_,[]=>by simp[Mx.dot]
 | x::xs,y::ys=>by rw[Jq,Fh,List.sum_cons,gr xs ys];rfl
def Own [Bx:Bd](hn)(T)(JA):Tk 3 "row_sum" (top 41) ø (Pr (i5 C)):=by
 show KS [] ?_ λ_ _ _ _ _ _ _ hr ND=>(qr (Pk (Đ 0) JA hr.m (da (dB b1E (rf rfl) rfl T.Uq a0f (da (dL 2 rfl (cS 2 [] ["mine","theirs"]) r9
  Ě
  MO
  (λ_ _ _ _ _=>dO cq Mv (Đ 0)<|Đ 1)) JC)) JC)))
 rintro _ _ @⟨p,xs,ys,hp,Tr,hl,hx⟩;show#[#[xg,#[#[#[aZ #[_,_,#[3],fY xs ys] (by rw[Hi];lia) λz hz=>#[DM,2,#[?_]],1],.mk (by rw[EZ];rfl)],1],#[hp]],?_]
 ·let:=hx z.1 (HH hz).1;show .inl AM
 ·rw[gr,<- Mx.K3]
abbrev Cs:=List (Int×Int)
abbrev W3 (cs:Cs):D:=KR (cs.map λx=>(.inl x.1,.int x.2))
theorem bz (cs:Cs)(k:Int):Ó:=(cs.find? λx=>decide X').map (·.2)
def B6 (h:bz cs k=!n):cy (cs.map λx=>Ya) tU=!.int n:=by let#[x,nU]:=FO.mp h;rw[gH,funext λx=>Ik.mpr b21,h1,<- h2];rfl
inductive jR:Ä
 |l {t:Θ}{k:Nat}:t.length<=1000->(∀ r∈t,k<r.length)->jR [tb t,.int k] (rw (Mx.col t k))
 |d {α:Type}{l:List α}{g:α->Cs}{h:α->Int}{k:Int}:l.length<=1000->(∀ x∈l,bz (g x) k=some (h x))->jR [.lst (l.map λx=>W3 (g x)),.int k] (rw (l.map h))
def a3t [Bx:Bd]:Tk 1 "column" (top 42) ["table","place"] (Pr jR):=by
 show KS [] ?_ λ_ _ _ _ _ _ _ hr ND=>(qr (Pd 0 rfl (cS 1 [1] ["row","place"]) ż
  ē
  MO
  (λ_ _ _ _ _=>Kh hr (Đ 0)<|Đ 1)))
 intro _ _ h
 cases h with
 | @l t k hl hk=>show#[aZ yc hl λr hr=>#[_,3,.l .lst<|cH (hk r hr)],Ql _ _]
 | @d α l g h k hl hk=>show#[aZ yc hl λx hx=>#[_,3,.k (B6<|hk x hx) kI],Ql _ _]
inductive b9l:Ä
 |mk {n i:Nat}:n<=1000->b9l [.int n,.int i] (rw (Mx.Jz n i))
def b5i:au Bm Bm (aa (top 44)):=Nz
def b1B [Bx:Bd](T):Tk 1 "ones_row" (top 44) Bm (Zc b9l):=by
 intro f fd F;show F.dvN b5i rfl ?_ λJE A outer s H E hr=>(dLN 0 rfl (cS 1 [1] ["place","own"]) Y6
  ē
  MO
  (λ_ _ _ _ _=>W2 (dT bc cv (Đ 0)<|Đ 1) dI dI))
 rintro _ _ @⟨n,i,hn⟩;show#[1,?_];rw[show rw _=.lst ((List.range n).map λj=>.int<|if j=i then 1 else 0) from D.lst.inj (Fl.rt.inj<|Ql _ _)▸rfl];show aZ ⟨n,hn,⟨rfl,rfl⟩,(bo n).symm⟩ (by simpa using hn) λj _=>EH
 let rd:=eq_int (ε:=[some<|.int j,some<|.int i]) (ra:=rV 0) (rb:=rV 1) rfl rfl;by_cases c:j=i
 ·rw[EY<|by rw[c]]at rd;show .t rd (by rw[if_pos c];rfl)
 ·rw[F5<|by lia]at rd;show .f rd (by rw[if_neg c];rfl)
inductive b1s:Ä
 |mk {n:Nat}:n<=1000->b1s M1 (tb (Mx.ones n))
def b3Z [Bx:Bd](T)(O2:Kn 1 "ones_row" Bm (Zc b9l)):Tk 2 "ones" (top 45) ["many"] (Pr b1s):=by
 show KS [] ?_ λ_ _ _ _ _ _ _ hr ND=>(qr (dL 0 rfl (cS 1 [0] ["own","many"]) Y6
  ē
  MO
  (λ_ _ _ _ _=>dF O2.p hr.m rfl<|da (Đ 1) Ŗ)))
 rintro _ _ @⟨n,hn⟩;show#[aZ #[n,hn,#[2],(bo n).symm] b6C λj _=>#[_,iL,#[hn]],tbm _ _]
inductive oH (C:Addr):Ä
 |mk {p a b:Int}:0<p->TV a b->oH C b4I (.int (a * b % p))
def a7e [Bx:Bd](JA):Tm 2 "times" "Field.times" (ao mH 4) å (Pr (oH C)):=by
 show KS [] ?_ λ_ _ _ _ _ _ _ hr ND=>(qr<|Pk (Đ 0) JA hr.m (da (dO cq Mv (Đ 1)<|Đ 2) JC))
 rintro _ _ ⟨hp,hc⟩;show#[#[xg,#[#[2,#[hc]],1],#[hp]],1]
inductive y9 (C:Addr):Ä
 |mk {p a b:Int}:0<p->y9 C b4I (.int ((a - b) % p))
def b6w [Bx:Bd](JA):Tm 2 "minus" "Field.minus" (ao mH 3) å (Pr (y9 C)):=by
 show KS [] ?_ λ_ _ _ _ _ _ _ hr ND=>(qr<|Pk (Đ 0) JA hr.m (da (dO n5 cF (Đ 1)<|Đ 2) JC))
 rintro _ _ ⟨hp⟩;show#[#[xg,#[#[2,jG],1],#[hp]],1]
inductive Mb (C:Addr):Ä
 |mk {p:Int}{r:Ξ}:0<p->r.length<=1000->Mb C [c24] (rw (r.map zP))
def b1c [Bx:Bd](JA):Tk 2 "fitted_row" (top 46) ["field","row"] (Pr (Mb C)):=by
 show KS [] ?_ λ_ _ _ _ _ _ _ hr ND=>(qr (Pd 0 rfl b1m ST
  ē
  MO
  (λ_ _ _ _ _=>Pk (Đ 1) JA hr.m<|da (Đ 0) JC)))
 rintro _ _ @⟨p,r,hp,hl⟩;show#[aZ yc hl λx _=>#[_,2,by decide,#[2],#[hp]],Ql _ _]
inductive tS (C:Addr):Ä
 |mk {p k:Int}{r:Ξ}:0<p->0<=k->k<=1000000->r.length<=1000->tS C [c24,.int k] (rw (Mx.scaled p r k))
def c0W [Bx:Bd](K0):Tk 3 "scaled" (top 48) b3s (Pr (tS C)):=by
 show KS [] ?_ λ_ _ _ _ _ _ _ hr ND=>(qr (Pd 0 rfl (cS 1 [0,2] [c1W,"number"]) ST
  ē
  MO
  (λ_ _ _ _ _=>Pk (Đ 1) K0 hr.m<|da (Đ 2) Ŗ)))
 rintro _ _ @⟨p,k,r,hp,h0,h1,hl⟩;show#[aZ yc hl λx _=>#[_,2,by decide,#[3],#[hp,.inl AM]],Ql _ _]
inductive Nw:Ä
 |mk {t:Θ}{st q:Nat}:t.length<=1000->st<=t.length->q<=1000->(∀ r∈t,q<r.length)->Nw [tb t,.int st,.int q] (BP (Mx.Kx t st q))
def a7t [Bx:Bd](T):Tk 1 "row_with" (top 47) b3t (Pr Nw):=by
 show KS ["at"] ?_ λ_ _ _ _ _ _ _ hr ND=>(qC (qL F9 rfl (iR2 rfl T.K8<|da (Đ 1) (da AJ JC)) sE (aD 3)
  (q1 (qI (dT iH pe (Kh hr (Kh hr (Đ 0)<|Đ 3)<|Đ 2) dI)
  ug
  q0)))
 AE)
 rintro _ _ @⟨t,st,q,hl,hs,hq,hw⟩;show ?_;show gO _ (λε=>∃ o,ε=[.fz<|tb t,.fz<|.int st,.fz<|.int q,o]) (λa=>decide b8J) (λa=>.int<|a) #[_,1] #[st,t.length,#[],hl,#[1,#[#[2],by rw[<- EO];show .s<|.sq .lst],1],(zA _ _).symm] (λa ε ha J'=>?_) (λa h=>by unfold Mx.Kx;rw[h];rfl) λh ε _=>#[1,by unfold Mx.Kx;rw[h];rfl]
 let#[o,he]:=J';subst he;let ha:=List.mem_range'_1.mp ha;show#[vD];let rd:=ne_int (ε:=([Sl.fz<|tb t,.fz<|.int st,.fz<|.int q,o].set 3<|.fz (.int a)).map Sl.a) (ra:=rO Sub (rO Sub rq<|rV 3)<|rV 2) (rb:=rC<|.int 0) #[#[2,.l .lst<|tK #[]],1,.l .lst<|cH (hw _<|dj (by lia:a<t.length))] rfl
 cases c:decide b8J with
 | false=>rw[c]at rd;show#[c25,_,1]
 | true=>rw[c]at rd;show .t rd #[2]
inductive oG (C:Addr):Ä
 |mk {p:Int}{r ld:Ξ}{q:Nat}:0<p->p<=1000000->r.length<=1000->q<r.length->Mx.Lk p r->oG C [c24,rw ld,.int q] (rw (Mx.without p r ld q))
def b2k [Bx:Bd](hn)(T)(K0)(Mn:KJ 2 C "minus" å (Pr (y9 C))):Tk 3 "without" (top 49) b06 (Pr (oG C)):=by
 show KS ["often"] ?_ λ_ _ _ _ _ _ _ hr ND=>(qC (qs 4 ND<|Kh hr (Đ 1) (Đ 3))
 (qC (qI (dT bc cv (Đ 4) dI)
  (qr<|Đ 1)
  q0)
 (qr (dL 2 rfl (cS 2 [0,4] [c1l]) r9
  Ě
  MO
  (λ_ _ _ _ _=>Pk (Đ 2) Mn hr.m<|da (Đ 0) (da (Pk (Đ 2) K0 hr.m<|da (Đ 3) Ž) JC))))))
 rintro _ _ @⟨p,r,ld,q,hp,Tr,hl,hq,hf⟩;show .nx #[2,.l .lst<|cH hq] ?_;unfold Mx.without;let rd:=eq_int (ε:=[some<|fD C p,some<|rw r,some<|rw ld,some<|.int q,some<|.int (r.getD q 0)]) (ra:=rV 4) (rb:=rC<|.int 0) rfl rfl;by_cases c:r.getD q 0=0
 ·rw[EY c]at rd;rw[if_pos c];show .rt (.t rd #[2])
 ·rw[F5 c]at rd;rw[if_neg c];show .nx fH #[aZ (xs:=r.zip ld) t7 (by rw[Hi];lia) λz hz=>#[DM,xg,#[1,#[xg,#[3],#[hp,?_]],1],#[hp]],?_]
  ·let:=Mx.Lk.at hp hf q;show .inl AM
  ·rw[<- GQ];show Ql _ _
inductive Dg (C:Addr):Ä
 |mk {p n:Int}:My.LV p=true->p<=1000000->0<n->n<p->Dg C fA (.int (My.bk p n))
def a8x [Bx:Bd](T)(JA)(K0):Tm 3 "back" "Field.back" (ao mH 5) ä (Pr (Dg C)):=by
 let Rq:=T.fl;show KS ["rest","made"] ?_ λ_ _ _ _ _ _ _ hr ND=>(qC (qs 2 ND<|Pk (Đ 0) JA hr.m Ž)
 (qC (qI (dT bc cv (Đ 2) dI)
  wL
  q0)
 (qC (qs 3 ND dI)
 (qC (qW F9 (dT iH pe (Đ 2) dI)
  (qC (qs 3 ND<|Pk (Đ 0) K0 hr.m (da (Đ 3)<|da (dO n5 cF dI<|dO cE Mv (RD Rq<|Đ 0) (Đ 2)) JC))
 (q1<|qs 2 ND (dO bJ Mv (RD Rq<|Đ 0)<|Đ 2))))
 ug))))
 rintro _ _ @⟨p,n,hP,Ve,h0,h1⟩;let Tr:=((My.JL p).mp hP).1;let hp:0<p:=#[]
 let en:=GO #[] h1;let r0:=eq_int (ε:=[some<|fD C p,some<|.int n,some<|.int n,none]) (ra:=rV 2) (rb:=rC<|.int 0) rfl rfl;rw[F5<|by lia]at r0;show .nx #[xg,#[2],(by let:=Pe.mk (C:=C) (n:=n) hp;rwa [en]at this)]<|.nx (.f r0 rfl) (.nx ⟨rfl⟩ ?_);show fh (b:=(n,1)) (λb ε=>ε=[.fz<|fD C p,.fz<|.int n,.fz<|.int b.1,.fz<|.int b.2]/\0<b.1/\b.1<p/\My.Inv p n b.1 b.2) (λb=>b.1.toNat) #[1,h0,h1,My.PK Tr (by rw[Ge _<|by lia];show en)] λb ε J'=>?_;let#[he,r0,r1,I]:=J';subst he;let rd:=ne_int (ε:=[some<|fD C p,some<|.int n,some<|.int b.1,some<|.int b.2]) (ra:=rV 2) (rb:=rC<|.int 1) rfl rfl;by_cases c:b.1=1
 ·rw[F5 λz=>z c]at rd;rw[c]at I;show .inl #[rd,1,by rw[My.V2 I.lo I.hi<|My.SD I]]
 ·rw[EY c]at rd;let l:=My.V1 hP r0 c r1;let m0:=I.lo;let m1:=I.hi;show .inr #[rd,(p % b.1,b.2 * (0 - p / b.1) % p),_,.nx #[xg,#[1,#[1,#[#[3],1,#[r0,#[]]],jG],1],#[hp,.inl AM]] #[#[3],1,#[r0]],#[1,l.1,#[],My.V0 I Tr r0],by change (p % b.1).toNat<b.1.toNat;lia]
inductive a8a:Ä
 |mk {r:Ξ}{m:Nat}:m<=r.length->r.length<=1000->a8a [rw r,.int m] (BP (Mx.K4 r m))
def b32 [Bx:Bd](T):Tk 1 "first_place" (top 52) uc (Pr a8a):=by
 show KS ["place"] ?_ λ_ _ _ _ _ _ _ hr ND=>(qC (qL F9 rfl yR pY (aD 2)
  (q1 (qI (dT iH pe (Kh hr (Đ 0)<|Đ 2) dI)
  Dr
  q0)))
 AE)
 rintro _ _ @⟨r,m,hm,hl⟩;show ?_;show gO _ b0x (λa=>decide (Mx.e r a≠0)) (λa=>.int<|a) ⟨_,rfl⟩ ⟨m,#[],⟨rfl,rfl⟩,(bo _).symm⟩ (λa ε ha J'=>?_) (λa h=>by unfold Mx.K4;rw[h];rfl) λh ε _=>#[1,by unfold Mx.K4;rw[h];rfl]
 let#[o,he]:=J';subst he;let ha:=FW.mp ha;show#[vD];let rd:=ne_int (ε:=([Sl.fz<|rw r,.fz<|.int m,o].set 2<|.fz (.int a)).map Sl.a) (ra:=rO Sub rq<|rV 2) (rb:=rC<|.int 0) ko rfl
 cases c:decide (Mx.e r a≠0) with
 | false=>rw[c]at rd;show#[c25,_,1]
 | true=>rw[c]at rd;show .t rd #[2]
abbrev nats (l:À):D:=.lst (l.map λ(a:Nat)=>.int (a:Int))
inductive dm:Ä
 |mk {t:Θ}{m:Nat}:t.length<=1000->(∀ r∈t,m<=r.length/\r.length<=1000)->dm [tb t,.int m] (nats (Mx.Kr t m))
def c0j [Bx:Bd](Mj:Kn 1 "first_place" uc (Pr a8a)):Tk 2 "lead_places" (top 53) [c2c] (Pr dm):=by
 show KS ["places"] ?_ λ_ _ _ _ _ _ _ hr ND=>(qC (Vb (n:=0) (b5 (i:=2) ND rfl rfl rfl (cS 1 [1] uc) ż
  ē
  MO
  (λ_ _ _ _ _=>dF Mj hr.m rfl<|da (Đ 0) Ž)) rfl)
 (qr (Pd 0 rfl b6E CB
  ē
  (λ_ _ _ _ _=>cD<|dT eS nE (Đ 0) Q4)
  Ŧ)))
 rintro _ _ @⟨t,m,hl,hw⟩;show .nx #[aZ yc hl λr hr=>#[_,iL,#[(hw r hr).1,(hw r hr).2]]] #[bv (h:=BP) Option.isSome #[1,by rw[EZ];show .l .lst] į λo _=>#[_,1,#[2,by cases o <;> show#[0]],λ_=>rfl],?_];unfold Mx.Kr;congr 2;clear hl hw
 induction t with
 | nil=>rfl
 | cons r t ih=>
  rw[Fh]
  cases c:Mx.K4 r m with
  | none=>simp_all
  | some a=>
   injection ih with ih;rw[List.filter_cons_of_pos rfl,Fh,<- ih];rfl
structure X5 (p:Int) (w:Nat) (t:Θ):Prop where
 sh:Mx.Sh p w t
 Kv:t.length<=100
 nar:w<=200
inductive oN (C:Addr):Ä
 |mk {p:Int}{t:Θ}{st a q wd:Nat}:My.LV p=true->p<=1000000->X5 p wd t->q<wd->st<=a->a<t.length->Mx.e lY q≠0->oN C [fD C p,tb t,.int st,.int a,.int q] (tb (Mx.cleared p DX t st a q))
def a5k [Bx:Bd](T)(PQ:Kn 3 "scaled" b3s (Pr (tS C)))(OT:Kn 3 "without" b06 (Pr (oG C)))(MM:KJ 3 C "back" ä (Pr (Dg C))):Tk 4 "cleared" (top 50) a8R (Pr (oN C)):=by
 show KS ["lead","others"] ?_ λ_ _ _ _ _ _ _ hr ND=>(qC (qs 5 ND<|dF PQ hr.m rfl (da (Đ 0)<|da b54 (da (Pk (Đ 0) MM hr.m<|da (Kh hr b54<|Đ 4) JC) JC)))
 (qC (Vb (n:=0) (b5 (i:=6) ND rfl rfl rfl (cS 1 [0,4,5] ["row","field","place","lead"]) (ar<|Q5 (W0 (Đ 1) VZ<|VY (Đ 3)) (W0 (Đ 1) (VY<|Q5 (Đ 3) dI) VZ))
  ē
  MO
  (λ_ _ _ _ _=>dF OT hr.m rfl<|da (Đ 1) b22)) rfl)
 (qr<|Q5 (Q5 (W0 (Đ 6) VZ<|VY (Đ 2)) (bV<|da (Đ 5) JC).p) (W0 (Đ 6) (VY<|Đ 2) VZ))))
 rintro _ _ @⟨p,t,st,a,q,wd,hP,Ve,S,hq,hs,ha,SK⟩;let Tr:=((My.JL p).mp hP).1;let Kv:=S.Kv;let nar:=S.nar;let ma:=dj (z:=[]) ha;let wa:=S.sh.Ob _ ma;let fa:=Mx.Lk.at #[] (S.sh.fit _ ma) q;let f0:0<Mx.e lY q:=#[]
 let hb:=My.a2N hP f0 fa.2;let mt:∀ {r},r∈t.take a++t.drop (a+1)->r∈t:=λh=>(Fx.mp h).elim J4 List.mem_of_mem_drop;let ra:rO Sub qv Aa [some<|fD C p,some<|tb t,some<|.int st,some<|.int a,some<|.int q,none,none] (rw lY):=#[2,.l .lst<|tK ha]
 let cd:vV CY none (!(a:Int))++vV CY (some<|(a:Int)+1) none=(t.take a++t.drop (a+1)).map rw:=by rw[cu,show ((a:Int)+1)=((a+1:Nat):Int) from rfl,iw,EX,Hv,J0]
 show .nx #[#[1,ra,#[xg,#[#[ra,1,.l .lst<|cH #[]],1],⟨hP,Ve,f0,fa.2⟩],1],⟨#[],hb.1,Int.le_trans (Int.le_of_lt hb.2) Ve,#[]⟩] (.nx ⟨aZ ⟨⟨⟨rfl,.lst,rfl,⟨rfl⟩,rfl⟩,⟨rfl,.lst,⟨⟨rfl,rfl,.i⟩⟩,rfl,rfl⟩,.l ?_⟩,by rw[cd];show .l .lst⟩ ?_ λr hr=>#[_,1,#[5],#[#[],Ve,D2,?_]]⟩ #[#[#[Co,nK,.l ?_],#[1,.lst,#[1],2],.l ?_],?_])
 ·rw[<- Fb,cd];simp;lia
 ·simp;lia
 ·rw[S.sh.Ob r<|mt hr];lia
 ·rw[S.sh.Ob r<|mt hr];show hq
 ·show S.sh.fit r (mt hr)
 ·rw[cu];simp;lia
 ·rw[cu,iw];simp;lia
 ·rw[cu,iw];unfold Mx.cleared;change Fl.rt (.lst<|List.map rw (_++[_]++_))=_;rw[EX,EX,Hv,J0,EZ];rfl
universe e
section
variable {C:Addr}
abbrev red (p:Int)(t:Θ)(m:Nat):Θ:=(Mx.run p DX t m).1
inductive oK (C:Addr):Ä
 |mk {p:Int}{m wd:Nat}{t:Θ}:My.LV p=true->p<=1000000->X5 p wd t->m<=wd->oK C zy (tb mT)
def c2I (hP)(S:X5 p wd t)(i):∃ ps,(Mx.run p DX t i).2=ps.length/\Mx.RR p wd i wj ps/\(red p t i).length=t.length/\X5 p wd wj:=by let Tr:=((My.JL p).mp hP).1;let#[ps,zr,_]:=Mx.RR.run b7W Ah S.sh i;show#[ps,h1,h2,h3,h2.sh,by rw[h3];show S.Kv,S.nar]
def b40 [Bx:Bd](T)(MH:Kn 2 "fitted_row" ["field","row"] (Pr (Mb C)))(O0:Kn 1 "row_with" b3t (Pr Nw))(OX:Kn 4 "cleared" a8R (Pr (oN C))):Tk 5 "reduced" (top 51) ì (Pr (oK C)):=by
 show KS ["rows","start","place","at"] ?_ λ_ _ _ _ _ _ _ hr ND=>(qC (Vb (n:=0) (b5 (i:=3) ND rfl rfl rfl (cS 1 [0] ["row","field"]) ST
  ē
  MO
  (λ_ _ _ _ _=>dF MH hr.m rfl<|da (Đ 1) Ŗ)) rfl)
 (qC (qs 4 ND dI)
 (qC (qL F9 rfl v3 nA (aD 5)
  (qC (qs 6 ND<|dF O0 hr.m rfl (da (Đ 3)<|da (Đ 4) sd))
 (q1 (qI (dT eS nE (Đ 6) Q4)
  (qC (qs 3 ND<|dF OX hr.m rfl (da (Đ 0)<|da (Đ 3) (da (Đ 4)<|da (Đ 6) sd)))
 (q1<|XB (wM (i:=4) ND rfl Bq dI a1u)))
  q0))))
 ug)))
 rintro _ _ @⟨p,m,wd,t,hP,Ve,S,hm⟩;let Tr:=((My.JL p).mp hP).1;let Kv:=S.Kv;let nar:=S.nar;show .nx #[aZ (h:=rw) yc #[] λr hr=>#[_,iL,?_]] iA
 ·let:=Mb.mk (C:=C) (p:=p) #[] (by rw[S.sh.Ob r hr];lia);rwa [Mx.R7<|S.sh.fit r hr]at this
 show bX cV (λi ε=>∃ o5 o6,ε=[.fz<|fD C p,.fz<|tb t,.fz<|.int m,.fz<|tb wj,.fz<|.int ((Mx.run p (My.bk p) t i).2:Nat),o5,o6]) ⟨_,_,rfl⟩ ⟨m,#[],⟨rfl,rfl⟩,(bo _).symm⟩ (λi x ε hx J'=>?_) λε J'=>?_
 ·let#[o5,o6,he]:=J';let#[1,hi]:=fR hx;subst he;let#[ps,zr,Sr]:=c2I hP S i;let QG:(Mx.run p DX t i).2<=(red p t i).length:=by rw[h1];show h2.len
  let Rf:=Mx.Oh p DX t i;unfold Mx.step at Rf;let hf:=Sr.Kv;show#[vD];let c1:=Nw.mk (q:=i) #[] QG #[] λr hr=>by rw[Sr.sh.Ob r hr];lia
  cases hrw:Mx.Kx wj (Mx.run p DX t i).2 i with
  | none=>
   rw[hrw]at c1 Rf;show#[_,.nx X6<|.f pV rfl,_,_,by unfold red;rw[Rf];rfl]
  | some a=>
   let#[mL,g3]:=Mx.Oi hrw;rw[hrw]at c1 Rf;show#[_,.nx X6<|.t pV (.nx #[#[6],#[hP,Ve,Sr,#[],mL,g3]] #[2]),_,_,by unfold red;rw[Rf];rfl]
 ·let#[o5,o6,he]:=J';subst he;rw[G9];show#[2]
abbrev LI (p:Int)(t:Θ)(m:Nat):À:=Mx.Kr mT m
theorem uz (p)(t:Θ)(m):D:=if (LI p Ĵ m).length<m then .non else tb (((red p Ĵ m).take m).map (List.drop m))
inductive Pm (C:Addr):Ä
 |mk {p:Int}{m:Nat}{t:Θ}:My.LV p=true->p<=1000000->X5 p m t->m<=100->Pm C zy (uz p t m)
def a7T (r o:Ξ):rw (r++o)=.lst (r.map .int++o.map .int):=congrArg D.lst EX
def b4q [Bx:Bd](hn)(T)(Lr)(Mh:Kn 2 "lead_places" [c2c] (Pr dm))(OU:Kn 5 "reduced" ì (Pr (oK C))):Tk 6 "reader" (top 54) ì (Pr (Pm C)):=by
 show KS ["joined","rows"] ?_ λ_ _ _ _ _ _ _ hr ND=>(qC (qS (b5 (i:=3) ND rfl rfl rfl (cS 2 [] ["row","own"]) (iZ rfl T.M8<|da (Đ 1) (da (dF Lr hr.m rfl<|da sD JC) JC))
  Ě
  MO
  (λ_ _ _ _ _=>Q5 (Đ 0)<|Đ 1)) λ_ _ _=>sg (n:=2))
 (qC (qs 4 ND<|dF OU hr.m rfl b22)
 (qC (qI (dT fU cF (cw T.JX<|dF Mh hr.m rfl b23)<|Đ 2)
  AE
  q0)
 (qr (Pd 0 rfl (cS 1 [2] uc) (ar<|W0 (Đ 4) VZ (VY<|Đ 2))
  ē
  MO
  (λ_ _ _ _ _=>W0 (Đ 0) (VY<|Đ 1) VZ))))))
 rintro _ _ @⟨p,m,t,hP,Ve,S,hm⟩;let Tr:2<=p:=((My.JL p).mp hP).1;let Kv:=S.Kv;let Sj:X5 p YT Ĵ:=#[Mx.OJ #[] S.sh,by rw[Mx.Lf];show Kv,#[]]
 let#[ps,zr,Sr]:=c2I hP Sj m;let hf:=Sr.Kv;show .nx #[c6 (xs:=t.zip<|Mx.ones t.length) (u:=λz=>.tup [rw z.1,rw z.2]) (h:=λz=>rw (z.1++z.2)) #[_,_,#[1,#[#[rG,1],#[#[]]],1],by rw[a6t,EZ];rfl] (by rw[Hi];lia) (λz hz=>#[DM,2,?_]) ?_] (.nx #[#[4],#[hP,Ve,Sj,#[]]] ?_)
 ·let h1:=S.sh.Ob _ (HH hz).1;let#[j,_,h2]:=EW.mp (HH hz).2;let h2:z.2.length=t.length:=by rw[<- h2];simp[Mx.Jz]
  rw[a7T];show .l (by rw[EO,EO];lia)
 ·unfold Mx.joined;rw[<- GQ,show tb _=.lst XH from rfl,EZ];rfl
 let rd:=lt_int (ε:=[some<|fD C p,some<|tb t,some<|.int m,some<|tb Ĵ,some<|tb ja]) (ra:=rF LD<|rA (rF dm<|rA (rV 4) (rA (rV 2) OH)) OH) (rb:=rV 2) ⟨⟨⟨⟨rfl,rfl,rfl⟩,⟨#[],λr hr=>by rw[Sr.sh.Ob r hr];lia⟩⟩,rfl⟩,LD.m⟩ rfl;unfold uz;by_cases c:(LI p Ĵ m).length<m
 ·rw[if_pos c];rw[EY<|Int.ofNat_lt.mpr c]at rd;show .rt (.t rd #[2])
 ·rw[if_neg c];rw[F5 λz=>c<|Int.ofNat_lt.mp z]at rd;show .nx (.f rd rfl) ⟨aZ (u:=rw) (h:=λr=>rw (r.drop m)) #[Co,by rw[cu,Hv];show .l .lst] (by rw[Fd];lia) λr _=>#[_,2,.lst,#[1],1,by rw[iw,<- J0]],tbm _ _⟩
theorem my (p)(t:Θ)(m):À:=(List.range m).filter λq=>not (decide (q∈LI p t m))
theorem fC (p)(t:Θ)(m):D:=.tup [.str "reads",uz p t m]
inductive jh (C:Addr):Ä
 |mk {p:Int}{m:Nat}{t:Θ}:My.LV p=true->p<=1000000->X5 p m t->m<=100->¬ (LI p Ĵ m).length<m->jh C zy (fC p t m)
def qNs {X:Cx}{ss:Í}:Pn X ss λ_ _=>False:=λF0 H0=>Nq.imp λE σ H J'=>by let#[BU]:=J';show h.elim
def a3q [Bx:Bd](PR:Kn 6 "reader" ì (Pr (Pm C))):Tk 7 "judgement" (top 67) ì (Pr (jh C)):=by
 show KS ["read"] ?_ λ_ _ _ _ _ _ _ hr ND=>(qC (qs 3 ND<|dF PR hr.m rfl (da (Đ 0)<|da (Đ 1) ţ))<|qC (qI (dT eS nE (Đ 3) Q4) (qr<|jL (da bO<|da (Đ 3) JC)) q0) qNs)
 rintro _ _ @⟨p,m,t,hP,Ve,S,hm,c⟩;let c1:=Pm.mk (C:=C) hP Ve S hm;unfold fC;unfold uz at c1 ⊢;rw[if_neg c]at c1 ⊢;show .nx X6 (.rt<|.t pV #[uN,1])
universe e
abbrev gA (c:Cl)(p:Str×Kd):D:=.ins (c.of p.2) Xe [.str p.1]
abbrev bN (t:Kl):D:=.tup a6b
abbrev BD (c:Cl)(S:NS):D:=KR XM
abbrev a1i (S:NS):D:=KR (S.Jy.map λt=>(.inl t.1,bN t))
abbrev aA (c:Cl)(S:NS):D:=.ins c.Kq ["kept_posts","kept_ties","next_number"] [BD c S,a1i S,.int S.next]
abbrev aK (l:η):D:=.lst (l.map .str)
abbrev bK (ts:List Kl):D:=.lst wQ
theorem NS.names (S:NS):η:=S.JD.map (·.1)
theorem NS.JO (S:NS):η:=(S.JD.filter λp=>rdB p.2).map (·.1)
theorem NS.K5 (S:NS):Option (Str×Kd):=S.JD.find? λp=>not (SJ p.2)
theorem qG:Option (Str×Kd)->D
 | none=>.non
 | some p=>.str p.1
def jE {S:NS}:(cy XM Xd).isSome=decide (x∈S.names):=YA
section
variable {c:Cl}
def Cl.Ok.YJ [Bx:Bd](O):∀ C,C=c.Kq->Nr Bx.K C/\Ka Bx.K C "kept_posts":=λ_ h=>h▸#[O.cn,O.fp]
def Cl.Ok.ft' [Bx:Bd](O):∀ C,C=c.Kq->Nr Bx.K C/\Ka Bx.K C "kept_ties":=λ_ h=>h▸#[O.cn,O.ft]
def Cl.Ok.nm' [Bx:Bd](O):∀ C,ji c C->Nr Bx.K C/\Ka Bx.K C "name":=λ_ J'=>by let#[k,h]:=J';show h▸#[O.cls k,O.XY k]
inductive iC (b:Bool):Ä
 |mk {d:D}:iC b [d] qV
def dD [Bx:Bd](F:PH Ld 1 f fd Ý (gM qV)):PH Ld 1 f fd Ý (Pr (iC b)):=F.imp fun vs H Q E ⟨_,_,_,s,h,⟨⟩,q⟩=>let ⟨v,ws,e,_,e2⟩:=h;#[v,by rw[e,e2],q _ H ė rfl]
inductive bH (c:Cl):Ä
 |mk {S:NS}{x:Str}:x.length<=1000->gi x=true->x∉S.names->bH c kE .non
inductive OA:Ä
 |mk {x:Str}:x.length<=1000->OA [.str x] (.bl (gi x))
def a7l [Bx:Bd](O)(OW:Kn 1 "is_name" Xe (Pr OA)):Tm 2 "check_new_name" "Net.check_new_name" (ao lK 4) Ü (Pr (bH c)):=by
 show dw [] ?_ λ_ _ _ _ _ _ _ hr ND=>(qC (qI (CO<|dV (cC<|dF OW hr.m rfl Ž))
  wL
  q0)
 (q1 (qI (Va C3 (Đ 1)<|RD O.YJ (Đ 0))
  wL
  q0)))
 rintro _ _ @⟨S,x,hx,h1,h2⟩;let d1:=OA.mk hx;rw[h1]at d1;show#[1,.inr #[1,_,.nx (.f #[#[2],d1] rfl)<|.f #[iL,.k rfl rfl (by rw[jE,F5 h2];rfl)] rfl]]
inductive y8 (c:Cl):Ä
 |mk {S:NS}:y8 c oS (aK S.names)
def a5h [Bx:Bd](O)(T:jO Bx.mg):Tm 1 "names" "Net.names" (ao lK 11) Ý (Pr (y8 c)):=by
 show KS [] ?_ λ_ _ _ _ _ _ _ hr ND=>(qr<|UU hX pP rfl T.NO boot_list (da (RD O.YJ<|Đ 0) JC))
 rintro _ _ @⟨S⟩;show#[#[#[#[3],1],.k],by rw[EZ];change Fl.rt a99=_;rw[EZ];rfl]
inductive b7 (c:Cl):Ä
 |mk {S:NS}:S.JD.length<=1000->b7 c oS (aK S.JO)
def a7d (l:List α)(f:α->Dx)(g:α->D):l.map g=(l.map λx=>zD).map (·.2):=by rw[EZ];rfl
def a6c [Bx:Bd](O)(Mc):Tm 2 "listeners" "Net.listeners" (ao lK 12) Ý (Pr (b7 c)):=by
 show KS [] ?_ λ_ _ _ _ _ _ _ hr ND=>(qr (dLv 0 rfl (cS 1 [] ["post"]) b55
  ē
  (λ_ _ _ _ _=>cD<|dV (cC<|EA (Đ 0) Mc hr.m))
  (λ_ _ _ _ _=>RD O.nm'<|Đ 0)))
 rintro _ _ @⟨S,hl⟩;show#[bv (λp=>rdB p.2) gw hl λp _=>#[_,1,#[1,#[_,1],by decide,by rw[<- gT O];show#[0]],λ_=>#[1,#[_,1],1]],by change Fl.rt a99=_;rw[EZ];rfl]
inductive wr (c:Cl):Ä
 |mk {S:NS}:wr c oS (qG S.K5)
def a5w [Bx:Bd](O)(Md):Tm 2 "home" "Net.home" (ao lK 13) Ý (Pr (wr c)):=by
 show KS ["post"] ?_ λ_ _ _ _ _ _ _ hr ND=>(qC (qLv F9 rfl b55 (pN 1 ND) (aD 1)
  (q1 (qI (CO<|dV (cC<|EA (Đ 1) Md hr.m))
  (qr<|RD O.nm' (Đ 1))
  q0)))
 AE)
 rintro _ _ @⟨S⟩;show ?_;show gO S.JD (λε=>∃ o,ε=[.fz _,o]) (λp=>not (SJ p.2)) (λp=>.str p.1) #[_,1] gw (λp ε _ J'=>?_) (λp h=>by unfold NS.K5;rw[h];rfl) λh ε _=>#[1,by unfold NS.K5;rw[h];rfl]
 let#[o,he]:=J';subst he;let hb:iC b0a [gA c p] (.bl<|SJ p.2):=by rw[<- gZ O];show#[0]
 show#[vD]
 cases z:SJ p.2 with
 | true=>rw[z]at hb;show#[_,.f b3v rfl,_,1]
 | false=>rw[z]at hb;show .t b3v #[#[1,#[_,1],1],1]
inductive jP (c:Cl):Ä
 |mk {S:NS}:S.Jy.length<=1000->jP c oS (bK S.Jy)
def c0H [Bx:Bd](O):Tm 1 "ties" "Net.ties" (ao lK 14) Ý (Pr (jP c)):=by
 show KS [] ?_ λ_ _ _ _ _ _ _ hr ND=>(qr (dLv 4 rfl (cS 4 [] [xq]) (c1p<|RD O.ft' (Đ 0))
  ĭ
  MO
  (λ_ _ _ _ _=>jL<|da (Đ 0) b2B)))
 rintro _ _ @⟨S,hl⟩;show#[aZ gw hl λt _=>#[DM,#[5],pb],1]
inductive cJ (c:Cl):Ä
 |mk {S:NS}{x:Str}:x∈S.names->cJ c kE .non
def b1b [Bx:Bd](O):Tm 1 "check_there" "Net.check_there" (ao lK 8) Ü (Pr (cJ c)):=by
 show dw [] ?_ λ_ _ _ _ _ _ _ hr ND=>(q1 (qI (Sn C3 (Đ 1)<|RD O.YJ (Đ 0))
  wL
  q0))
 rintro _ _ @⟨S,x,h⟩;show#[1,.inr #[1,_,.f #[iL,.k rfl rfl (by rw[jE,EY h];rfl)] rfl]]
theorem NS.into (S:NS)(x):Ξ:=(S.Jy.filter λt=>decide Ac).map (·.1)
theorem NS.LG (S:NS)(x):Ξ:=(S.Jy.filter λt=>decide nS).map (·.1)
inductive rE (c:Cl) (g:NS->Str->Ξ):Ä
 |mk {S:NS}{x:Str}:S.Jy.length<=1000->x∈S.names->rE c g kE (rw (g S x))
def eq_str (ha:ra ε yI)(hb:rb ε (.str y)):rO rS ra rb ε b5Q:=.mk ha hb (.mk rfl rfl rfl<|congrArg D.bl (by show Ik.mpr #[congrArg V.str,V.str.inj]))
def MtM [Bx:Bd](JJ)(JB):Tm 2 "into" "Net.into" (ao lK 15) Ü (Pr (rE c NS.into)):=by
 show KS [] ?_ λ_ _ _ _ _ _ _ hr ND=>(qC t6
 (qr (Pd 4 rfl a5r pf
  ĭ
  (λ_ _ _ _ _=>cD<|dT bc cv (Đ 2) (Đ 4))
  Ŧ)))
 rintro _ _ @⟨S,x,hl,hx⟩;show .nx CS a18
def a3b [Bx:Bd](JJ)(JB):Tm 2 "out_of" "Net.out_of" (ao lK 16) Ü b7X:=by
 show KS [] ?_ λ_ _ _ _ _ _ _ hr ND=>(qC t6
 (qr (Pd 4 rfl a5r pf
  ĭ
  (λ_ _ _ _ _=>cD<|dT bc cv (Đ 1) (Đ 4))
  Ŧ)))
 rintro _ _ @⟨S,x,hl,hx⟩;show .nx CS a18
universe e
inductive iN (ts:List Kl) (x:Str):Str->Prop
 |refl:iN ts x x
 |step {t:Kl}:t∈ts->iN ts x t.2.1->iN ts x t.2.2.1
abbrev nQ (R:η):D:=KR (R.map λy=>(.inr y,.bl true))
def a17 {R:η}:(cy (R.map λy=>b3w) (.inr y)).isSome=decide (y∈R):=by simp[YA]
abbrev ky (nm:Str)(b:List Str×η)(t:Kl):List Str×η:=if t.2.1=nm/\t.2.2.1∉b.1 then b6I else b
inductive uY (ts:List Kl) (R':η):Nat->List Str×List Str->Prop
 |done:uY ts R' 0 (R',[])
 |step {n:Nat}{R W:η}{nm:Str}:uY ts R' n (ts.foldl AU (R,W))->uY ts R' (n+1) (R,W++[nm])
theorem mW (ts:List Kl)(R:η):Nat:=ts.countP λt=>decide (t.2.2.1∉R)
def b28 (ht:t∈ts)(h:t.2.2.1∉R):mW ts (R++D5)<mW ts R:=by
 let#[a,b,1]:=List.append_of_mem ht;unfold mW;let k:∀ l:List Kl,l.countP (λu=>decide (u.2.2.1∉R++D5))<=l.countP λu=>decide _:=λl=>List.countP_mono_left λu _ z=>EY λy=>Fv z<|FJ _ y;let:=k a;let:=k b;rw[List.countP_append,List.countP_append,List.countP_cons_of_neg<|by simp,List.countP_cons_of_pos<|by simpa using h]
 lia
structure EL (ts:List Kl) (x:Str) (b:List Str×η):Prop where
 ld:∀ y∈b.1,iN ts x y
 Kv:b.1.length+mW ts b.1<=1+ts.length
def c18 (hn:iN ts x nm):∀ (us:List Kl)(b:List Str×η),(∀ t∈us,t∈ts)->EL ts x b->(∀ y∈b.2,y∈b.1)->EL ts x (us.foldl AU b)/\(∀ y∈(us.foldl AU b).2,y∈(us.foldl AU b).1)/\2 * mW ts (us.foldl AU b).1+(us.foldl AU b).2.length<=2 * mW ts b.1+b.2.length:=by
 intro r'
 induction r' with
 | nil=>
  intro b _ I h;show #[I,h,F8 _]
 | cons t us ih'=>
  intro b ht I h;rw[GU];let Qp:=λu hu=>ht u<|Ft _ hu;by_cases c:t.2.1=nm/\t.2.2.1∉b.1
  ·let ol:=b28 (ht t Fy) c.2;rw[show ky nm b t=_ from if_pos c];let#[zr]:=ih' b6I Qp #[λy hy=>(Fx.mp hy).elim (I.ld y) λz=>by rw[Fo.mp z];show .step (ht t Fy)<|c.1▸hn,by let:=I.Kv;simp;lia] λy hy=>(Fx.mp hy).elim (λz=>FJ _<|h y z)<|FF _;show#[h1,h2,by simp at h3 ol ⊢;lia]
  ·rw[show ky nm b t=_ from if_neg c];show ih' b Qp I h
def c1g:∀ (n:Nat)(R W:η),2 * mW ts R+W.length<=n->EL ts x (R,W)->(∀ y∈W,y∈R)->∃ R' k,uY ts R' k (R,W)/\EL ts x (R',[]):=by
 intro n
 induction n with
 | zero=>
  intro R W hn I h;rcases List.eq_nil_or_concat W with rfl|⟨W,nm,rfl⟩
  ·show#[c2E]
  ·simp at hn
 | succ n ih=>
  intro R W hn I h;rcases List.eq_nil_or_concat W with rfl|⟨W,nm,rfl⟩
  ·show#[c2E]
  ·rw[List.concat_eq_append]at hn h I ⊢;let#[zr]:=c18 (I.ld nm<|h nm (by simp)) ts (R,W) (λ_ z=>z) #[I.ld,I.Kv] λy hy=>h y Su;let#[R',k,a,b]:=ih _ _ (by simp at hn h3;lia) h1 h2;show#[R',k+1,.step a,b]
def c0a (ts:List Kl)(x):∃ R n,uY ts R n ([x],[x])/\(∀ y∈R,iN ts x y)/\R.length<=1+ts.length:=by let#[R,n,zr]:=c1g (ts:=ts) _ [x] [x] XS #[λy hy=>by rw[Fo.mp hy];show .refl,by simp[mW,List.countP_le_length]] λ_ z=>z;show#[R,n,nU,by grind]
inductive TgD:Ä
 |mk {ts:List Kl}{x:Str}{R:η}{n:Nat}:ts.length<=900->uY ts R n ([x],[x])->TgD [bK ts,.str x] (nQ R)
def b6r [Bx:Bd](T:jO Bx.mg):Tk 1 "led_to" (top 30) b8K (Pr TgD):=by
 show KS ["reached","waiting","name",xq] ?_ λ_ _ _ _ _ _ _ hr ND=>(qC (qo 2 ND<|dD1 (Đ 1) Qv)
 (qC (qo 3 ND<|bV Ž)
 (qC (qW F9 b7Y
  (qC (a4H<|pS 4 ND (a6V Bx.K Ff PySem.F.slot_list_pop PySem.F.type_list_pop b2l<|pv 3))
 (q1 (Px F9 rfl ż (bY Bx.K rfl<|af nA (af Eu<|af m9 (af nV aF))) (de Bx.K [5,6,7,8])
  (q1 (qI (PW.pt<|kF (dT bc cv (Đ 6)<|Đ 4) (c7<|Sn C3 (Đ 7) (Đ 2)))
  (qC (qP (bU C3 wJ (Đ 7) Qv rfl) λ_ _ _ h=>h)
 a3i)
  q0))))))
 Dr)))
 rintro _ _ @⟨ts,x,R,n,hl,L⟩;show .nx #[#[1,kS,2]] (.nx #[nK] ?_);let o0:mW ts [x]<=ts.length:=List.countP_le_length;show fh (b:=(n,[x],[x])) (λb ε=>uY ts R b.1 b.2/\b.2.2.length<=b.2.1.length/\b.2.1.length+mW ts b.2.1<=1+ts.length/\∃ o4 o5 o6 o7 o8,ε=[.fz<|bK ts,.fz<|.str x,.ow<|nQ b.2.1,.ow<|aK b.2.2,o4,o5,o6,o7,o8]) (·.1) ⟨L,F8 _,Nat.add_le_add_left o0 _,_,_,_,_,_,rfl⟩ λJ' ε Vz=>?_;let#[n,b]:=J';let#[L,hw,hf,o4,nq]:=Vz;dsimp only at L hw hf he;subst he;let rd:=gt_int (ε:=[some<|bK ts,some<|.str x,some<|nQ b.1,some<|aK b.2,o4.a,o5.a,o6.a,o7.a,o8.a]) (ra:=rF LD<|rA Aa OH) (rb:=rC<|.int 0) rG rfl
 cases L with
 | done=>show .inl #[rd,2]
 | @step n R' W nm L=>
  rw[EY<|by simp]at rd;let hw:W.length+1<=R'.length:=by simpa using hw
  show .inr #[rd,(n,ts.foldl AU (R',W)),t9 (ε1:=[.fz<|bK ts,.fz<|.str x,.ow<|nQ R',.ow<|aK W,.fz<|.str nm,o5,o6,o7,o8]) (by rw[show aK (W++[nm])=.lst (W.map .str++[.str nm]) from congrArg D.lst EX];show⟨rfl⟩) ?_];show a2s (u:=bN) ts (λb ε=>b.2.length<=b.1.length/\b.1.length+mW ts b.1<=1+ts.length/\∃ o5 o6 o7 o8,ε=[.fz<|bK ts,.fz<|.str x,.ow<|nQ b.1,.ow<|aK b.2,.fz<|.str nm,o5,o6,o7,o8]) (ky nm) (b:=(R',W)) ⟨by change W.length<=R'.length;lia,hf,_,_,_,_,rfl⟩ ⟨rfl,.l .lst⟩ (λb t ε ht J'=>?_) λε' J'=>by let#[hb,hf,nq]:=J';show#[#[L,hb,hf,nv,he],GJ _]
  let#[hb,hf,nq]:=J';subst he;let r1:=eq_str (ε:=[some<|bK ts,some<|.str x,some<|nQ b.1,some<|aK b.2,some<|.str nm,some<|.int t.1,some<|.str t.2.1,some<|.str t.2.2.1,some<|.int t.2.2.2]) (ra:=rV 6) (rb:=rV 4) rfl rfl;by_cases c1:t.2.1=nm
  ·rw[EY c1]at r1;by_cases c2:t.2.2.1∈b.1
   ·show#[_,#[_,3],_,.f (.t r1 #[2,.k rfl kS (by rw[a17,EY c2];rfl)]) rfl,by rw[show ky nm b t=b from if_neg λz=>z.2 c2];show#[hb,hf,xb,1]]
   ·let ol:=b28 ht c2;show#[_,#[_,3],_,.t (.t r1 #[2,.k rfl kS (by rw[a17,F5 c2];rfl)])<|.nx #[1,by rw[EO];lia,.z rfl,1,kS] #[1,by rw[EO];lia,.z rfl],?_];rw[show ky nm b t=_ from if_pos #[c1,c2]];show#[by simpa using hb,by simp;lia,.fz<|.int t.1,.fz<|.str t.2.1,.fz<|.str t.2.2.1,.fz<|.int t.2.2.2,?_];rw[dR λz=>c2<|by simpa using z];dsimp only;rw[show nQ (b.1++[t.2.2.1])=KR (b.1.map (λy=>b3w)++[(.inr t.2.2.1,.bl true)]) from congrArg KR EX,show aK (b.2++D5)=.lst (b.2.map .str++[.str t.2.2.1]) from congrArg D.lst EX];rfl
  ·rw[F5 c1]at r1;show#[_,#[_,3],_,.f (.f r1) rfl,by rw[show ky nm b t=b from if_neg λz=>c1 z.1];show#[hb,hf,xb,1]]
universe K72
namespace Mw
def Qs [DecidableEq β](g:α->β):∀ (xs:List β)(ts:List α),xs.Nodup->(∀ t∈ts,g t∈xs)->(xs.flatMap λx=>ts.filter λt=>decide (g t=x)).Perm ts:=by
 intro r'
 induction r' with
 | nil=>
  intro ts _ h
  cases ts with
  | nil=>show .nil
  | cons t _=>show absurd (h t<|by simp) Ė
 | cons x xs ih'=>
  intro ts nd h;let nd:=FP.mp nd;rw[Hy];let e:(xs.flatMap λy=>ts.filter λt=>decide (g t=y))=xs.flatMap λy=>(ts.filter λt=>not (decide (g t=x))).filter λt=>decide (g t=y):=by
   rw[List.flatMap_def,List.flatMap_def];congr 1;show FA λy hy=>?_;rw[List.filter_filter];show Jv λt _=>?_;by_cases c:g t=y
   ·let:¬ g t=x:=λz=>nd.1 (by rw[<- z,c];show hy);simp[c,this];intro z;show this (c.trans z)
   ·simp[c]
  rw[e];let ih:=ih' (ts.filter λt=>not (decide (g t=x))) nd.2 λt ht=>by
   let#[nU]:=Fj.mp ht;let h3:=h t h1;rcases Fw.mp h3 with z|z
   ·simp[z]at h2
   ·show z
  show (List.Perm.append_left _ ih).trans (List.filter_append_perm _ _)
def R3 [DecidableEq β]:∀ (l1 l2:List β),l1.Nodup->(∀ x∈l1,x∈l2)->l2.length<=l1.length->∀ x∈l2,x∈l1:=by
 intro r'
 induction r' with
 | nil=>
  intro l2 _ _ hl x hx
  simp_all
 | cons a l1 ih'=>
  intro l2 nd sub hl x hx;let nd:=FP.mp nd;let ha:=sub a Ė;by_cases c:x=a
  ·rw[c];simp
  ·show Ft _ (ih' (l2.erase a) nd.2 (λy hy=>?_) ?_ x ?_)
   ·grind
   ·grind
   ·simp_all
def T7 {l1:Ξ}(p:l1.Perm l2)(h1:l1.Pairwise zU)(h2:l2.Pairwise zU):l1=l2:=
 List.Perm.eq_of_pairwise (λa b _ _ h3 h4=>Int.le_antisymm h3 h4) h1 h2 p
universe Mw
namespace K72
open PySem L2
open PyProof.Rows (boot_all boot_bool boot_dict boot_int boot_list boot_sorted boot_str boot_tuple)
structure EI (mg:Ω):Prop where
 Lo:mg "dict"=none
 Ur:mg "sorted"=none
section
variable {c:Cl}{f:Addr}
def b0b {S:NS}(h:x∈S.names):∃ p∈S.JD,p.1=x/\cy XM Xd=!gA c p:=by let:=jE (c:=c) (S:=S) (x:=x);rw[EY h,gH,Option.isSome_map,Gy]at this;let#[p,hp]:=this;show#[p,FY hp,Sum.inr.inj<|Fv (Hk (p:=λp:Str×Kd=>decide (sY=.inr x)) hp),by rw[gH,hp];rfl]
inductive i7 (c:Cl):Ä
 |mk {S:NS}{x y:Str}:x∈S.names->y∈S.names->S.Jy.length<=900->b0e->¬ iN S.Jy y x->i7 c [aA c S,.str x,.str y] .non
def a6s [Bx:Bd](O)(Md)(JJ)(JB)(PU:Kn 1 "led_to" b8K (Pr TgD)):Tm 2 "check_ends" "Net.check_ends" (ao lK 7) å (Pr (i7 c)):=by
 let Me:=O.YJ;show dw [] ?_ λ_ _ _ _ _ _ _ hr ND=>(qC t6
 (qC (b1Q<|Pk (Đ 0) JJ hr.m ţ)
 (qC (qI (CO<|dV (cC<|EA (Kh hr (RD Me<|Đ 0)<|Đ 2) Md hr.m))
  wL
  q0)
 (q1 (qI (Va C3 (Đ 1)<|dF PU hr.m rfl (da (eI (Đ 0) JB hr.m)<|da (Đ 2) JC))
  wL
  q0)))))
 rintro _ _ @⟨S,x,y,hx,hy,hl,hk,hn⟩;let#[p,hp,ep,hv]:=b0b (c:=c) hy;let hb:iC b0a [gA c p] Ţ:=by rw[gZ O,hk p hp ep];show#[0]
 let#[R,n,nU,_]:=c0a S.Jy y;show#[1,.inr #[1,_,.nx CS<|.nx #[#[xg,#[2],#[hy]]] (.nx (.f #[#[#[3],1,.k hv kS],#[_,1],by decide,hb] rfl)<|.f ⟨rfl,⟨⟨⟨rfl,rfl,by decide,⟨#[]⟩⟩,rfl,rfl⟩,⟨hl,h1⟩⟩,.k rfl kS (by rw[a17,F5 λz=>hn<|h2 x z];rfl)⟩ rfl)]]
theorem gS (ts:η)(b:Str×η):Bool:=not (decide (b.1∈ts))&&b.2.all λy=>decide KB
theorem bC (bs)(ts:η):Option Str:=(bs.find? (gS ts)).map (·.1)
theorem Xw:Option Str->D
 | none=>.non
 | some x=>.str x
abbrev tJ (bs:List (Str×η)):D:=KR (bs.map λb=>(.inr b.1,aK b.2))
inductive LB:Ä
 |mk {bs:List (Str×η)}{ts:η}:(bs.map (·.1)).Nodup->(∀ b∈bs,b.2.length<=1000)->LB [tJ bs,aK ts] (Xw (bC bs ts))
def a01 {l:List α}{f:α->Str}(h:(l.map f).Nodup){g:α->D}:((l.map λx=>((.inr (f x):Dx),g x)).map (·.1)).Nodup:=by
 rw[EZ];let:(l.map f).map (Sum.inr)=l.map ((λx:Dx×D=>x.1) ∘ λx=>(.inr<|f x,g x)):=by rw[EZ];rfl
 rw[<- this];show Ii _ (λ_ _ h z=>h<|Sum.inr.inj z) h
def sR {l:List α}{f:α->Int}(h:(l.map f).Nodup){g:α->D}:((l.map λx=>((.inl (f x):Dx),g x)).map (·.1)).Nodup:=by
 rw[EZ];let:(l.map f).map (Sum.inl)=l.map ((λx:Dx×D=>x.1) ∘ λx=>(.inl<|f x,g x)):=by rw[EZ];rfl
 rw[<- this];show Ii _ (λ_ _ h z=>h<|Sum.inl.inj z) h
def Loc [Bx:Bd](hn)(T:jO Bx.mg):Tk 1 "first_ready" (top 31) b7Z (Pr LB):=by
 show KS Xe ?_ λ_ _ _ _ _ _ _ hr ND=>(qC (Px F9 rfl ż pY (aD 2)
  (q1 (qI (PW.pt (kF (Sn C3 (Đ 2)<|Đ 1) (c7 (dV (cC (dB a9l (kJ Bx.K rfl) rfl T.Ut boot_all (da (Pd 0 rfl (cS 1 [1] ["one","told"]) (ar<|Kh hr (Đ 0) (Đ 2))
  ē
  MO
  (λ_ _ _ _ _=>dIn C3 (Đ 0)<|Đ 1)) JC)))))))
  Dr
  q0)))
 AE)
 rintro _ _ @⟨bs,ts,nd,hl⟩;show ?_;show gO bs (λε=>∃ o,ε=[.fz<|tJ bs,.fz<|aK ts,o]) (gS ts) (λb=>.str b.1) #[_,1] mj (λb ε hb J'=>?_) (λb h=>by unfold bC;rw[h];rfl) λh ε _=>#[1,by unfold bC;rw[h];rfl]
 let#[o,he]:=J';subst he;show#[vD];unfold gS;by_cases c:b.1∈ts
 ·rw[EY c];show#[_,.f (.f #[2,by let:=eY (n:=true) (i:=b.1) (ks:=ts);rwa [EY c]at this]) rfl,_,1]
 ·rw[F5 c];let r1:rO (V5 true) um qv a74 Ţ:=#[2,by let:=eY (n:=true) (i:=b.1) (ks:=ts);rwa [F5 c]at this]
  let r2:rF UZ (rA (rL 0 [1] (Wo<|rO Sub rq um) zR<|rO vq rq qv) OH) a74 (.bl<|b.2.all λy=>decide KB):=#[#[aZ #[#[2,.k (dH (a01 nd)<|Fc hb) kS],.l .lst] (hl b hb) λy _=>#[_,3,eY],1],by let:=UZ.mk (by rw[EZ];rfl:b.2.map (λy=>D.bl<|decide KB)=_);rwa [List.all_map]at this]
  cases z:b.2.all λy=>decide KB with
  | true=>rw[z]at r2;show .t Xg #[2]
  | false=>rw[z]at r2;show#[_,.f Xg rfl,_,1]
theorem RK {α:Type}(f:α->Int)(l:List α):List α:=l.mergeSort λa b=>decide (f a<=f b)
def KW {f:α->Int}:(RK f l).Perm l:=List.mergeSort_perm _ _
def c1F {f:α->Int}:((RK f l).map f).Pairwise zU:=by rw[HL];show (List.pairwise_mergeSort (le:=λa b=>decide (f a<=f b)) (λa b c h1 h2=>EY<|Int.le_trans (Fv h1) (Fv h2)) (λa b=>by simp[Int.le_total]) l).imp Fv
inductive b9Y:Ä
 |mk {α:Type}{l:List α}{f:α->Int}{g:α->D}:l.length<64->(l.map f).Nodup->b9Y [KR (l.map λx=>Ow)] (KR ((RK f l).map λx=>Ow))
def c19 [Bx:Bd](hn)(T:EI Bx.mg):Tk 1 "by_number" (top 58) ["told"] (Pr b9Y):=by
 show KS [] ?_ λ_ _ _ _ _ _ _ hr ND=>(qr (UU hZ qU rfl T.Lo boot_dict (da (Pd 0 rfl (cS 1 [0] ["number","told"]) (ar<|dB MtR (lQ rfl) rfl T.Ur boot_sorted Ŗ)
  ē
  MO
  (λ_ _ _ _ _=>jL<|da (Đ 0) (da jw JC))) JC)))
 rintro _ _ @⟨α,l,f,g,hl,nd⟩;let pm:=KW (f:=f) (l:=l);let so:=c1F (f:=f) (l:=l);generalize RK f l=m at pm so;show#[#[#[aZ #[#[#[2],?_],.l .lst] (by rw[pm.length_eq];lia) λx hx=>#[_,1,#[#[1,#[2,.k (dH (sR nd)<|Fc (pm.mem_iff.mp hx)) kI],1],pb]],1],UY.m (f:=λx=>.inl<|f x) (by rw[pm.length_eq];lia) ?_],1]
 ·let:=cSo.k (ð:=l.map λx=>(_,g x)) (by rw[EZ,EZ];rfl) į λQ2 h1 h2=>Mw.T7 (h1.trans (pm.map _).symm) h2 so;rwa [EZ]at this
 ·let:=sR b1o (g:=g);rwa [EZ]at this
universe e
abbrev _root_.Λ:=Option Ξ
abbrev KL:=Int×Λ
theorem Qn:Option Ξ->D
 | none=>.non
 | some ks=>rw ks
abbrev Af (m:KL):D:=.tup [.int m.1,Qn m.2]
abbrev gX (ms:List KL):D:=.lst (ms.map Af)
theorem bh (S:NS)(x):Λ:=if S.K5.map (·.1)=some x then none else !S.into x
theorem JH (S:NS)(ns:η):List KL:=ns.flatMap λx=>(S.LG x).map λk=>xo
def a6Y (S:NS)(ns:η)(x):JH S (ns++[x])=JH S ns++(S.LG x).map λk=>xo:=by simp[JH,GB]
def a7G (S:NS)(ns:η)(i):(JH S YN).length<=(JH S ns).length:=by
 unfold JH
 conv=>rhs;rw[<- Gs i ns,GB,Fb]
 lia
section
variable {c:Cl}
abbrev _root_.Æ:=List Str->Prop
inductive oM (c:Cl) (ord:NS->Æ):Ä
 |mk {S:NS}{ns:η}:ord S ns->oM c ord oS (aK ns)
inductive jQ (c:Cl) (ord:NS->Æ):Ä
 |mk {S:NS}{ns:η}:ord S ns->(∀ x∈ns,x∈S.names)->S.Jy.length<=1000->(JH S ns).length<=1000->jQ c ord oS (gX ŧ)
def c07 (ha:ra ε yI)(hb:rb ε (qG h)):rO rS ra rb ε (.bl (decide (h.map (·.1)=!x))):=by
 show .mk ha hb ?_
 cases h with
 | none=>show .mk rfl rfl rfl (congrArg D.bl rfl)
 | some p=>show .mk rfl rfl rfl (congrArg D.bl<|by show Ik.mpr ⟨λz=>congrArg V.str (Option.some.inj z).symm,λz=>congrArg some (V.str.inj z).symm⟩)
def c05 [Bx:Bd](Kj)(Mm:KJ 2 c.Kq "ordered" Ý (Pr (oM c ord)))(La)(MK:KJ 2 c.Kq "out_of" Ü b7X):Tk 3 "mixing_ties" (top 57) ["net"] (Pr (jQ c ord)):=by
 show KS ["home","told","name","mixed","number"] ?_ λ_ _ _ _ _ _ _ hr ND=>(qC (qs 1 ND<|eI (Đ 0) Kj hr.m)
 (qC db
 (qC (Px F9 rfl (ar<|eI (Đ 0) Mm hr.m) sE (aD 3)
  (qC (qs 4 ND<|W2 (dT bc cv (Đ 3)<|Đ 1) Q4 (Pk (Đ 0) La hr.m<|da (Đ 3) JC))
 (q1 (Px F9 rfl (ar<|Pk (Đ 0) MK hr.m NK) nA (aD 5)
  (q1<|qA (aw<|OS Bx.K Ff Fn Fm aB wJ (a9 (jL<|da (Đ 5) (da (Đ 4) JC)) Jx)) (λ_ _ _ h=>h))))))
 Dr)))
 rintro _ _ @⟨S,ns,ho,hn,hl,hm⟩;show .nx b6K (.nx AI ?_);show bX ns (λi ε=>∃ o3 o4 o5,ε=[.fz<|aA c S,.fz<|qG S.K5,.ow<|gX (JH S<|ns.take i),o3,o4,o5]) ⟨_,_,_,rfl⟩ ⟨⟨rfl,rfl,by decide,⟨ho⟩⟩,.l .lst⟩ (λi x ε hx J'=>?_) λε J'=>?_
 ·let#[o3,o4,o5,he]:=J';subst he;let xn:=hn x<|ET hx;let tl:=a7G S ns<|i+1;rw[aQ hx,a6Y,Fb,EO]at tl;rw[aQ hx,a6Y];show#[_,1,t9 (ε1:=[.fz<|aA c S,.fz<|qG S.K5,.ow<|gX (JH S<|ns.take i),.fz<|.str x,.fz<|Qn (bh S x),o5]) ?_ ?_]
  ·let r:=c07 (ε:=[some<|aA c S,some<|qG S.K5,none,some<|.str x,o4.z,o5.z]) (ra:=rV 3) (rb:=rV 1) rfl rfl;unfold bh;by_cases z:S.K5.map (·.1)=!x
   ·rw[EY z]at r;rw[if_pos z];show#[.t r rfl]
   ·rw[F5 z]at r;rw[if_neg z];show#[.f r #[xg,#[2],#[hl,xn]]]
  ·show vH (S.LG x) (λj ε=>∃ o5,ε=[.fz<|aA c S,.fz<|qG S.K5,.ow<|gX (JH S (ns.take i)++((S.LG x).take j).map λk=>xo),.fz<|.str x,.fz<|Qn (bh S x),o5]) ⟨_,by rw[Ij,GF,Fq]⟩ ⟨⟨rfl,by decide,⟨rfl,rfl⟩,⟨hl,xn⟩⟩,.l .lst⟩ (λj k ε hk J'=>?_) λε' ⟨o5,he⟩=>#[_,_,_,by rw[FE]at he;show he]
   let#[o5,he]:=J';subst he;let lt:=(ES.mp hk).1;let e:gX (JH S YN++((S.LG x).take<|j+1).map λk=>xo)=.lst ((JH S YN++((S.LG x).take j).map λk=>xo).map Af++[Af xo]):=by rw[aQ hk,EX,<- FI];show congrArg D.lst EX
   show#[_,1,_,#[1,by simp;omega,.z uN],.fz<|.int k,by rw[e];rfl]
 ·let#[Cg,he]:=J';rw[he,FE];show#[2]
universe e
section
variable {C:Addr}
inductive a44:Ä
 |mk {n:Int}:My.LV n=true->n<=1000000->a44 M1 Ţ
def le_int (ha:ra ε xu)(hb:rb ε Y5):rO (fI MU λi j=>Q1 b5h) ra rb ε b5h:=B0
def a4c [Bx:Bd]:Tk 1 "is_prime" (top 38) ü (Pr a44):=by
 show KS ["divisor"] ?_ λ_ _ _ _ _ _ _ hr ND=>(qC (qI (dT fU cF (Đ 0) dI)
  DT
  q0)
 (qC (qs 1 ND dI)
 (qC (qW F9 (dT qi cF (dO cq Mv (Đ 1)<|Đ 1)<|Đ 0)
  (qC (qI (dT bc cv (dO bJ Mv (Đ 0)<|Đ 1) dI)
  DT
  q0)
 (q1<|XB (wM (i:=1) ND rfl Bq dI a1u))))
 DT)))
 rintro _ _ @⟨n,hP,hn⟩;let h2:=(My.JL n).mp hP;let r0:=lt_int (ε:=[some<|.int n,none]) (ra:=rV 0) (rb:=rC<|.int 2) rfl rfl;rw[F5<|by lia]at r0;show .nx (.f r0 rfl) (.nx ⟨rfl⟩ ?_);show fh (λd ε=>ε=[.fz<|.int n,.fz<|.int d]/\2<=d/\d<=n) (λd=>(n+1 - d).toNat) #[1,sI] λd ε J'=>?_;let#[he,d2,dn]:=J';subst he;let rd:=le_int (ε:=[some<|.int n,some<|.int d]) (ra:=rO (fI TV λi j=>Q1<|.int (i * j)) qv<|rV 1) (rb:=rV 0) Dl rfl;by_cases z:d * d<=n
 ·rw[EY z]at rd;let a:2 * d<=d * d:=Int.mul_le_mul_of_nonneg_right d2 #[];let r1:=eq_int (ε:=[some<|.int n,some<|.int d]) (ra:=rO (fI (λ_ j=>0<j) λi j=>Q1<|.int (i % j)) rq<|rV 1) (rb:=rC<|.int 0) #[2,#[#[]]] rfl;rw[F5 (by rw[<- Ge _ #[]];show h2.2 d d2 z)]at r1;show .inr #[rd,d+1,_,.nx z4 #[2],#[1,sI],#[]]
 ·rw[F5 z]at rd;show .inl #[rd,2]
inductive b3l:Ä
 |mk {n:Int}:b3l M1 Ţ
inductive fM (C:Addr):Ä
 |mk {p n:Int}:0<=n->n<p->fM C fA Ţ
def b9p [Bx:Bd](T)(L'):Tk 2 "is_number_of" (top 60) b7s (Pr (fM C)):=by
 show KS [] ?_ λ_ _ _ _ _ _ _ hr ND=>(qr<|CQ (dF L' hr.m rfl<|da (Đ 1) JC) (kg<|dCh (mU qi fU dI (Đ 1)<|RD T.fl (Đ 0)) cF cF))
 rintro _ _ @⟨p,n,h0,h1⟩;show#[.t #[#[2],#[0]]<|.t rfl rfl (by let:=fI.mk (C:=λ_ _=>True) (g:=λi j=>Q1<|.bl (decide (i<=j))) (i:=0) (j:=n) trivial;rwa [EY h0]at this) ⟨rfl,rfl,rfl⟩ (by let:=fI.mk (C:=λ_ _=>True) (g:=λi j=>Q1<|.bl (decide (i<j))) (i:=n) (j:=p) trivial;rwa [EY h1]at this),1]
inductive MF (C:Addr):Ä
 |mk {p:Int}{ns:Ξ}:ns.length<=1000->(∀ n∈ns,0<=n/\n<p)->MF C [fD C p,rw ns,.int ns.length] Ţ
def Itm [Bx:Bd](hn)(T:jO Bx.mg)(LO:Kn 2 "is_number_of" b7s (Pr (fM C))):Tk 3 "is_row_of" (top 61) b3y (Pr (MF C)):=by
 show KS [] ?_ λ_ _ _ _ _ _ _ hr ND=>(qr (CQ (dM bc cv sD<|Đ 2) (kg (dB a9l (kJ Bx.K rfl) rfl T.Ut boot_all (da (Pd 0 rfl b1m ST
  ē
  MO
  (λ_ _ _ _ _=>dF LO hr.m rfl<|da (Đ 1) Ŗ)) JC)))))
 rintro _ _ @⟨p,ns,hl,hn⟩;let r1:=eq_int (ε:=[some<|fD C p,some<|rw ns,some<|.int ns.length]) (ra:=rF LD<|rA (rV 1) OH) (rb:=rV 2) ⟨⟨rfl,rfl⟩,LD.m⟩ rfl;rw[EY rfl]at r1;show⟨.t r1 ⟨⟨aZ ⟨rfl,.l .lst⟩ hl λn hm=>#[_,iL,#[(hn n hm).1,(hn n hm).2]],rfl⟩,UZ.mk (by rw[EZ];rfl)⟩,by simp⟩
abbrev bf:=Int×Ξ
abbrev aG (ř:List bf):D:=KR (ř.map λr=>D7)
theorem inc (msg)(cs:Cs):Option Ξ->Ξ
 | none=>msg
 | some ks=>ks.map λk=>(bz cs k).getD 0
inductive eB:Ä
 |n {msg:Ξ}{d:D}:eB [rw msg,.non,d] (rw msg)
 |s {msg ks:Ξ}{cs:Cs}:ks.length<=1000->(∀ k∈ks,∃ n,bz cs k=!n)->eB [rw msg,rw ks,W3 cs] (rw (inc msg cs !ks))
def a0y [Bx:Bd]:Tk 1 "coming_in" (top 63) b1q (Pr eB):=by
 show KS [] ?_ λ_ _ _ _ _ _ _ hr ND=>(qC (qI mY
  (qr<|Đ 0)
  q0)
 (qr (Pd 0 rfl (cS 1 [2] ["number","carries"]) ST
  ē
  MO
  Fr)))
 intro l d h
 cases h with
 | n=>show .rt (.t pV #[2])
 | @s msg ks cs hl hk=>show .nx Cp #[aZ yc hl λk hm=>#[_,3,by let#[n,hn]:=hk k hm;rw[hn];show .k (B6 hn) kI],Ql _ _]
universe e
theorem xK (fo)(k:Int):Bool:=match fo with
 | none=>false
 | some ks=>decide lh
theorem gQ (ř)(n:Int):Option bf:=ř.find? λr=>decide (r.1=n)
theorem bF (ř)(k:Int):Ξ:=((gQ ř k).map (·.2)).getD []
def gG (h:gQ ř k=!r):cy (ř.map λr=>Os) tU=!rw r.2:=by rw[gH,funext λx=>Ik.mpr b21,show ř.find? _=some r from h];rfl
theorem fc (p)(ř)(msg)(fo)(cs:Cs)(m:KL):Int:=if xK fo m.1 then 0 else Mx.JN p (bF ř m.1) b8L
theorem bu (p)(ř)(msg)(fo):List KL->Cs->Cs
 | [],cs=>cs
 | m::ms,cs=>bu p ř msg fo ms (cs++[(m.1,fc p ř msg fo cs m)])
def a65 (p)(ř)(msg)(fo)(m:KL):∀ (ms:List KL)(cs:Cs),bu p ř msg fo (ms++[m]) cs=bu p ř msg fo ms cs++[(m.1,fc p ř msg fo (bu p ř msg fo ms cs) m)]:=by
 intro r'
 induction r' with
 | nil=>
  intro _;show rfl
 | cons _ ms ih'=>
  intro _;show ih' _
def fX (p)(ř)(msg)(fo):∀ (ms:List KL)(cs:Cs),(bu p ř msg fo ms cs).map (·.1)=cs.map (·.1)++ms.map (·.1)
 | [],_=>by simp[bu]
 | m::ms,cs=>by
  simp_all [bu,fX]
def b9X (h:k∈cs.map (·.1)):∃ n,bz cs k=!n:=by let#[x,nU]:=EW.mp h;let#[y,hy]:=Gy.mp (HN (p:=λx:Int×Int=>decide X') |>.mpr #[x,h1,EY h2]);show#[y.2,by unfold bz;rw[hy];rfl]
structure AW (ms:List KL):Prop where
 nd:(ms.map (·.1)).Nodup
 Kv:ms.length<64
 ahead:∀ (i:Nat) m ks,ms[i]?=!m->m.2=!ks->ks.length<=1000/\∀ k∈ks,k∈(ms.take i).map (·.1)
theorem U6 (p)(l:Ξ):Prop:=∀ z∈l,0<=z/\z<p
structure Dq (p:Int) (ms:List KL) (ř:List bf) (fo:Λ):Prop where
 p0:0<p
 p1:p<=1000000
 fits:AW ms
 has:∀ m∈ms,xK fo m.1=false->∃ r,gQ ř m.1=!r/\U6 p r.2/\r.2.length<=1000
section
variable {C:Addr}
inductive Dc (C:Addr):Ä
 |mk {p:Int}{ms:List KL}{ř:List bf}{msg:Ξ}{fo:Λ}:Dq p ms ř fo->Dc C [fD C p,gX ms,aG ř,rw msg,Qn fo] (W3 (RK (·.1) nH))
def ngh (h1:ra ε (Qn fo))(h2:rb ε vk)(h3:rc ε .non):zS (λε b=>rO (fN true) ra rc ε qV) (λε b=>rO vq rb ra ε qV) ε (xK fo k):=by
 cases fo with
 | none=>show .f b56
 | some ks=>show .t b56 #[h2,h1,gj]
def a9s [Bx:Bd](KI)(Nm:Kn 1 "coming_in" b1q (Pr eB))(JY):Tk 4 "flow" (top 64) a62 (Pr (Dc C)):=by
 show KS ["carries",c1x] ?_ λ_ _ _ _ _ _ _ hr ND=>(qC (qo 5 ND Yf)
 (qC (Px F9 rfl ST b0f (de Bx.K [6,7])
  (q1 (qI (PW.pt<|kF b57 (c7<|Va C3 (Đ 6) (Đ 4)))
  (q1<|qP (bU (aJ hr) (pv 5) (Đ 6) dI rfl) (λ_ _ _ h=>h))
  (q1<|qP (bU C3 Xj (Đ 6) (dF KI hr.m rfl<|da (Đ 0) (da (Kh hr (Đ 2)<|Đ 6)<|da (dF Nm hr.m rfl<|da (Đ 3) (da (Đ 7)<|da (Đ 5) JC)) JC)) rfl) (λ_ _ _ h=>h)))))
 (qr<|dF JY hr.m rfl sd)))
 rintro _ _ @⟨p,ms,ř,msg,fo,W⟩;let Kv:=W.fits.Kv;show .nx #[1] ?_;show bX ms (λi ε=>∃ o6 o7,ε=[.fz<|fD C p,.fz<|gX ms,.fz<|aG ř,.fz<|rw msg,.fz<|Qn fo,.ow<|W3 (bu p ř msg fo (ms.take i) []),o6,o7]) ⟨_,_,rfl⟩ ⟨rfl,.l .lst⟩ (λi m ε hm J'=>?_) λε J'=>?_
 ·let#[x8]:=J';subst he;let nd:=W.fits.nd;let hk:=fX p ř msg fo qz [];rw[aQ hm,a65];generalize bu p ř msg fo qz []=cs at hk;let hl:cs.length<=1000:=by let:=congrArg List.length hk;simp at this;omega
  let nw:(.inl m.1:Dx)∉(cs.map λx=>Ya).map (·.1):=λz=>by let#[x,nU]:=EW.mp z;let#[y,h3,1]:=EW.mp h1;let:=EW.mpr #[y,h3,Sum.inl.inj h2];rw[hk,GF,Gp]at this;let nd:=(Gs i ms)▸nd;rw[EX,FG]at nd;show nd.2.2 _ this _ (EW.mpr #[m,ET (i:=0) (by rw[IB];show hm),1]) rfl
  let tt:=ngh (ε:=[some<|fD C p,some<|gX ms,some<|aG ř,some<|rw msg,some<|Qn fo,some<|W3 cs,some<|.int m.1,some<|Qn m.2]) (ra:=rV 4) (rb:=rV 6) (rc:=rC .non) rfl rfl rfl;let e:∀ z:Int,W3 (cs++[(m.1,z)])=KR (si (cs.map λx=>Ya) (.inl m.1)<|.int z):=λz=>by rw[dR nw];show congrArg KR EX
  show#[lx,?_];unfold fc
  cases hf:xK fo m.1 with
  | true=>rw[hf]at tt;show#[_,.t tt #[1,by rw[EO];show hl,.z rfl,1,kI],.fz<|.int m.1,.fz<|Qn m.2,by rw[if_pos rfl,e];rfl]
  | false=>
   rw[hf]at tt;let#[r,zr]:=W.has m (ET hm) hf;let er:bF ř m.1=r.2:=by unfold bF;rw[h1];rfl
   rw[er];let ci:eB [rw msg,Qn m.2,W3 cs] (rw b8L):=by
    cases hx:m.2 with
    | none=>show .n
    | some ks=>show .s (W.fits.ahead i m ks hm hx).1 λk U1=>b9X (by rw[hk];show (W.fits.ahead i m ks hm hx).2 k U1)
   show#[_,.f tt #[1,by rw[EO];show hl,.a #[#[1,b7u,#[#[4],ci],1],#[W.p0,W.p1,h3,h2]] rfl,1,kI],.fz<|.int m.1,.fz<|Qn m.2,by rw[if_neg nofun,e];rfl]
 ·let#[_,_,he]:=J';rw[FE]at he;subst he;let hk:=fX p ř msg fo ms [];show#[#[#[2],.mk (by let:=congrArg List.length hk;simp at this;lia) (by rw[hk];show W.fits.nd)],1]
universe e
structure a2S (K:Ψ) (mg:Ω) (C:Addr):Prop where
 cl:Nr K C
 nP:Ka K C "prime"
 g_G:∃ t,mg "GREATEST_PRIME"=!.int 1000000 t
section
variable {c:Cl}{C:Addr}
def a93:au í í (aa b70):=Nz
inductive df (C:Addr) (vs:π) (H:Hp) (Q:VK) (E:XK):Prop
 |mk (x dx:Addr) (p:Int):vs=[.ref x,.int p]->H x=!.ins C dx []->p<=1000000->My.LV p=true->(∀ H',gR H H'->Q .non (upd H' x (.ins C dx [("prime",.int p)])))->df C vs H Q E
def b9z [Bx:Bd](T:a2S Bx.K Bx.mg C)(O3:Kn 1 "is_prime" ü (Pr a44)):Tm 2 "__init__" "Field.__init__" b70 í (df C):=by
 intro f fd F;let#[tk,hgG]:=T.g_G;show F.k a93 λJE A outer s H vs Q E hr h=>?_
 ·let#[x,dx,p,1,hx,hp,hP,q]:=h;show#[_,(ai (gy (PW.pt<|Ws (pT jt iU<|g9 (v:=.int 1000000) rfl hgG #[_,1]) (mP<|sj (cC<|bg O3 hr.m rfl WA)))
  E7
  KH)
 (aq<|g8 A3 iU rfl)),?_]
  show#[_,1,ni,1,lJ (λhc=>absurd (Fv hc)<|by omega) λhc=>?_];show#[_,1,H,[.int p],.bl true,gR.refl _,#[_,_,3],#[hP,hp],λv H' e hv=>#[true,hv,xB ?_]];show#[Ch,x,C,dx,[],1,e _ _ hx,T.cl,T.nP,by decide,q H' e]
inductive a0J (C:Addr) (rs:Á) (ε:En) (d:D):Prop
 |mk {p:Int}:rs ε [.int p]->p<=1000000->My.LV p=true->d=fD C p->a0J C rs ε d
def AF (Dd:Dk X.prog X.w X.K X.mg X.base k x C ps (df C))(hr:JW X.base (k+1) X.A)(hg:Gl X x)(ha:PA X sQ DF)(NB)(he)(LW):
  PE X ę (tP (a0J C rs)):=(gW Dd hr hg ha NB he LW).imp fun σ H Q ⟨F,ε,d,S,⟨h1,h2,h3,h4⟩,q⟩=>Mu.go S h1 λvs H1 e1 S1 J' x dx nx nd ne=>by
 let#[v,ws,ev,hv,hw]:=J';subst ev h4
 cases hv
 cases hw;show .mk x dx _ rfl ae h2 h3 λH' e'=>#[1,q _ _ (λa o z=>?_) #[x,Ep,by rw[ay<|e1.free nx,ae],1,_,_,3]]
 let z1:=e1 _ _ z;let n1:=ak z1 nx;rw[a8 n1];show e' _ _ (by rw[a8 n1,a8<|ak z1 nd];show z1)
def a4T:∀ {l:List α},(l.map f).Nodup->∀ {x y},x∈l->y∈l->f x=f y->x=y:=by
 intro l
 induction l with
 | nil=>intro _ x y hx;cases hx
 | cons a l ih=>
  intro nd x y hx hy e;let nd:=FP.mp nd;rcases Fw.mp hx with h1|h1 <;> rcases Fw.mp hy with h2|h2
  ·rw[h1,h2]
  ·show absurd (EW.mpr #[y,h2,by rw[<- e,h1]]) nd.1
  ·simp_all
  ·show ih nd.2 h1 h2 e
def a04 (pm:cs.Perm l)(nd:(l.map (·.1)).Nodup)(h:bz l k=!n):bz cs k=!n:=by
 unfold bz at h ⊢;let#[x,nU]:=FO.mp h;let hm:=pm.mem_iff.mpr<|FY h1;let hx:=Fv<|Hk (p:=λx:Int×Int=>decide _) h1;let#[y,hy]:=Gy.mp (HN (p:=λx:Int×Int=>decide X') |>.mpr #[x,hm,EY hx]);let hy2:=Fv<|Hk (p:=λx:Int×Int=>decide X') hy;let:=a4T b1o (FY hy) hm (hy2.trans hx.symm)
 simp_all
theorem cZ (p)(ř)(fo)(ms)(many:Nat)(k:Int):Ξ:=(List.range many).map λj=>(bz (bu p ř (Mx.Jz many j) fo ms []) k).getD 0
inductive jS (c:Cl) (ord:NS->Æ):Ä
 |mk {S:NS}{ns:η}{p:Int}{ř:List bf}{many:Nat}{fo:Λ}:ord S ns->(∀ x∈ns,x∈S.names)->S.Jy.length<=1000->My.LV p=true->Dq p (JH S ns) ř fo->many<=1000->jS c ord [c0e,Qn fo] (KR ((RK (·.1) (JH S ns)).map λm=>(.inl m.1,rw (cZ p ř fo ŧ many m.1))))
def a03 [Bx:Bd](F:KD Bx.K "carried" "carried" (top 65) f fd)(T:EI Bx.mg)(Kk)(JZ)(Sb:Kn 4 "flow" a62 (Pr (Dc C)))(Lr)(Mt)(JY):PH Ld 5 f fd Þ (Pr (jS c ord)):=by
 show KD.dw F ["field","mixing","flows"] ?_ λ_ _ _ _ _ _ hr ND=>(qC (qs 5 ND<|AF Kk hr.m rfl NK)
 (qC (qs 6 ND<|dF JZ hr.m rfl Ŗ)
 (qC (qs 7 ND (Pd 0 rfl (cS 1 [1,4,5,6] ["message","plan","fallen","field","mixing"]) (ar<|dF Lr hr.m rfl ţ)
  ē
  MO
  (λ_ _ _ _ _=>dF Sb hr.m rfl<|da (Đ 3) (da (Đ 4)<|da (Đ 1) rj))))
 (qr (dF JY hr.m rfl (da (UU hZ qU rfl T.Lo boot_dict (da (Pd 2 rfl (cS 2 [7] [c1x,"flows"]) (ar<|Đ 6)
  Ě
  MO
  (λ_ _ _ _ _=>jL<|da (Đ 0) (da (dF Mt hr.m rfl<|da (Đ 2) Ŗ) JC))) JC)) JC))))))
 rintro _ _ @⟨S,ns,p,ř,many,fo,ho,hn,hl,hP,W,hm⟩;let Kv:=W.fits.Kv;let nd:=W.fits.nd;show#[1,.inl<|.nx #[#[#[2],W.p1,hP,1]] (.nx #[#[2],#[ho,hn,hl,#[]]]<|.nx ⟨aZ (h:=λj=>W3<|RK (·.1) (bu p ř (Mx.Jz many j) fo (JH S ns) [])) ⟨⟨⟨rfl,rfl⟩,⟨hm⟩⟩,?_⟩ (by simpa using hm) λj _=>#[_,1,#[6],#[W]]⟩ #[#[#[#[#[aZ (u:=Af) yc #[] λm VG=>#[DM,#[1,#[#[3],.d kZ λj _=>?_],1],pb],1],UY.m (f:=λm:KL=>(.inl m.1:Dx)) #[] ?_],1],.mk Kv nd],1])]
 ·unfold Mx.ones;rw[show tb _=.lst XH from rfl,EZ];show .l .lst
 ·let hk:=fX p ř (Mx.Jz many j) fo ŧ [];let#[n,hn]:=b9X (by rw[hk];show Fc VG);rw[hn];show a04 KW (by rw[hk];show nd) hn
 ·let:=sR nd (g:=λ_=>.non);rwa [EZ]at this
universe e
structure D9 (mg:Ω):Prop where
 Lo:mg "dict"=none
 JX:mg "len"=none
 NO:mg "list"=none
 a7P:mg "min"=none
theorem zw (many:Int):Option Ξ->Int
 | none=>many
 | some ks=>ks.length
theorem aP (ms)(ř):List bf:=(RK (·.1) ms).map λm=>(m.1,bF ř m.1)
structure OB (many p:Int) (ms:List KL) (ř:List bf):Prop where
 row:∀ m∈ms,∃ r,gQ ř m.1=!r/\(r.2.length:Int)=zw many m.2/\U6 p r.2/\r.2.length<=1000
 odd:∀ r∈ř,r.1∈ms.map (·.1)
 Kv:ř.length<=1000
def b5B (nd:(ms.map (·.1)).Nodup)(h:m∈ms):gQ (aP ms ř) m.1=!(m.1,bF ř m.1):=by unfold aP gQ;let#[y,hy]:=Gy.mp (HN (p:=λr:bf=>decide (r.1=m.1)) |>.mpr ⟨_,Fc (f:=λm:KL=>(m.1,bF ř m.1))<|(KW).mem_iff.mpr h,EY rfl⟩);rw[hy];let#[z,hz,e]:=EW.mp<|FY hy;let h2:=Fv<|Hk (p:=λr:bf=>decide (r.1=m.1)) hy;rw[<- e,(congrArg Prod.fst e).trans h2]
section
variable {c:Cl}{ord:NS->Æ}
structure Dj (ord:NS->Æ) (S:NS) (ns:η):Prop where
 ord:ord S ns
 XY:∀ x∈ns,x∈S.names
 tz:S.Jy.length<=60
 fits:AW ŧ
inductive tO (c:Cl) (ord:NS->Æ):Ä
 |mk {S:NS}{ns:η}{many:Int}:Dj ord S ns->tO c ord [aA c S,.int many] (KR ((RK (·.1) (JH S ns)).map λm=>(.inl m.1,.int (zw many m.2))))
def b1J [Bx:Bd](T:D9 Bx.mg)(JZ)(JY):Tk 4 "wanted_lengths" (top 59) [zK] (Pr (tO c ord)):=by
 show KS [] ?_ λ_ _ _ _ _ _ _ hr ND=>(qr (dF JY hr.m rfl (da (UU hZ qU rfl T.Lo boot_dict (da (Pd 2 rfl (cS 2 [1] [c1x,"many"]) (ar<|dF JZ hr.m rfl Ŗ)
  Ě
  MO
  (λ_ _ _ _ _=>jL<|da (Đ 0) (da (W2 mY (Đ 2)<|cw T.JX (Đ 1)) JC))) JC)) JC)))
 rintro _ _ @⟨S,ns,many,N⟩;let Kv:=N.fits.Kv;let tz:=N.tz;show#[#[#[#[#[aZ #[#[#[2],#[N.ord,N.XY,sI]],.l .lst] #[] λm _=>#[DM,#[1,?_,1],pb],1],UY.m (f:=λm:KL=>.inl m.1) #[] ?_],1],.mk Kv N.fits.nd],1]
 ·cases hx:m.2 with
  | none=>show .t pV rfl
  | some ks=>show .f pV rG
 ·let:=sR N.fits.nd (g:=λ_=>.non);rwa [EZ]at this
inductive oO (c:Cl) (ord:NS->Æ):Ä
 |mk {S:NS}{ns:η}{many p:Int}{ř:List bf}:Dj ord S ns->My.LV p=true->p<=1000000->OB many p ŧ ř->oO c ord [c0e] (aG b71)
def a33 [Bx:Bd](T:D9 Bx.mg)(Kk)(L9:Kn 4 "wanted_lengths" [zK] (Pr (tO c ord)))(Nl:Kn 3 "is_row_of" b3y (Pr (MF C))):Tk 5 "checked_plan" (top 62) b1r (Pr (oO c ord)):=by
 show KS ["field","lengths","number","strange"] ?_ λ_ _ _ _ _ _ _ hr ND=>(qC (qs 4 ND<|AF Kk hr.m rfl NK)
 (qC (qs 5 ND<|dF L9 hr.m rfl rj)
 (qC (Px F9 rfl xX Eu (aD 6)
  (q1 (qI (PW.pt<|dOr (Sn C3 (Đ 6)<|Đ 1) (mP<|CO (dV<|cC (dF Nl hr.m rfl<|da (Đ 4) (da (Kh hr (Đ 1)<|Đ 6)<|da (Kh hr (Đ 5)<|Đ 6) JC)))))
  wL
  q0)))
 (qC (Vb (n:=0) (b5 (i:=7) ND rfl rfl rfl (cS 1 [5] ["number","lengths"]) ST
  ē
  (λ_ _ _ _ _=>cD<|Sn C3 (Đ 0) (Đ 1))
  Ŧ) rfl)
 (qC (qI (dT jt cF (cw T.JX<|Đ 7) dI)
  wL
  q0)
 (qr (UU hZ qU rfl T.Lo boot_dict (da (Pd 0 rfl (cS 1 [1] ["number","plan"]) xX
  ē
  MO
  (λ_ _ _ _ _=>jL<|da (Đ 0) (da (UU hX pP rfl T.NO boot_list<|da jw JC) JC))) JC))))))))
 rintro _ _ @⟨S,ns,many,p,ř,N,hP,hp,G⟩;let Kv:=N.fits.Kv;let pm:=KW (f:=λm:KL=>m.1) (l:=JH S ns);show .nx b7v (.nx #[#[3],#[N]] ?_);unfold aP;generalize hg:RK (λm:KL=>m.1) ŧ=gs at pm;let gl:=pm.length_eq;let gd:(gs.map (·.1)).Nodup:=(pm.map _).nodup_iff.mpr N.fits.nd;show bX gs (λ_ ε=>∃ o6 o7,ε=[.fz<|aA c S,.fz<|aG ř,.fz<|.int many,.fz<|.int p,.fz<|fD C p,.fz<|KR (gs.map λm=>(.inl m.1,.int<|zw many m.2)),o6,o7]) ⟨_,_,rfl⟩ ⟨rfl,iO.m⟩ (λi m ε hm J'=>?_) λε J'=>?_
 ·let#[x8]:=J';subst he;let hm:=ET hm;let#[r,ki]:=G.row m<|pm.mem_iff.mp hm;let rr:=MF.mk (C:=C) h4 h3;rw[h2]at rr;show#[_,1,_,.f (.f #[2,.k rfl kI (by rw[gG h1];rfl)] #[#[1,b7u,#[2,.k (dH (sR gd)<|Fc hm) kI],1],rr]) rfl,Qc]
 ·let#[x8]:=J';subst he;let es:ř.filter a7X=[]:=HE.mpr λr hr=>by rw[EY<|(pm.map _).mem_iff.mpr (G.odd r hr)];show nofun
  show .nx #[bv (xs:=ř) (h:=λr=>.int r.1) a7X mj G.Kv λr hr=>#[_,1,#[2,.k rfl kI (by rw[YB (f:=λm:KL=>m.1)];rfl)],λ_=>rfl]] ?_;rw[es];show .nx (.f (gt_int (i:=0) (j:=0) #[#[2],.s<|.sq .lst] rfl) rfl) ⟨⟨⟨aZ (xs:=gs) (u:=λm=>.int m.1) (h:=λm=>.tup [.int m.1,rw (bF ř m.1)]) mj #[] λm hm=>#[_,1,#[#[1,#[#[#[2,?_],1],.s<|.sq .lst],1],pb]],rfl⟩,UY.m (f:=λm:KL=>(.inl m.1:Dx)) #[] ?_⟩,?_⟩
  ·let#[r,h1,_]:=G.row m<|pm.mem_iff.mp hm;let er:bF ř m.1=r.2:=by unfold bF;rw[h1];rfl
   rw[er];show .k (gG h1) kI
  ·let:=sR (f:=λm:KL=>m.1) gd (g:=λ_=>.non);rwa [EZ]at this
  ·rw[show aG (gs.map _)=KR (List.map _<|List.map _ gs) from rfl,EZ];rfl
universe e
def a6R (hp:0<p)(ř)(msg)(fo)(cs:Cs)(m:KL):0<=fc p ř msg fo cs m/\fc p ř msg fo cs m<p:=by
 unfold fc;by_cases c:xK fo m.1=true
 ·lia
 ·rw[if_neg c,Mx.K3];show#[Gi _<|by lia,FX _ hp]
def b9c (hp:0<p)(ř)(msg)(fo):∀ (ms:List KL)(cs:Cs),(∀ x∈cs,0<=x.2/\x.2<p)->∀ x∈bu p ř msg fo ms cs,0<=x.2/\x.2<p:=by
 intro r'
 induction r' with
 | nil=>
  intro _ h;show h
 | cons m ms ih'=>
  intro cs h;show ih' _ λx hx=>by
   rcases Fx.mp hx with z|z
   ·show h x z
   ·rw[Fo.mp z];show a6R hp ř msg fo cs m
def a3u (hp:0<p)(ř)(fo)(ms)(many:Nat)(k:Int):U6 p (cZ p ř fo ms many k):=λz hz=>by
 let#[j,_,1]:=EW.mp hz
 cases hl:bz _ k with
 | none=>show#[Int.le_refl _,hp]
 | some n=>
  let#[x,hx,e]:=FO.mp hl;let:=b9c hp ř _ fo ms [] (λ_ h=>(Gd h).elim) x<|FY hx;rw[<- e];show this
theorem cW (S:NS)(p)(rs:List bf)(fo)(ms)(many:Nat)(g:Str):Θ:=(S.into g).map λk=>cZ p rs fo ms many k
def yh (hp:0<p)(h1:(S.into g).length<=100)(h2:many<=100):X5 p many (cW S p rs fo ms many g):=by
 show#[#[c0K],by unfold cW;rw[EO];show h1,#[]]
 ·let#[k,_,1]:=EW.mp hr;unfold cZ;rw[EO,G9]
 ·let#[k,_,1]:=EW.mp hr;show a3u hp rs fo ms many k
section
variable {c:Cl}{ord:NS->Æ}
def OB.a2m (N:Dj ord S ns)(hP)(hp:p<=1000000)(G:OB many p ŧ ř):Dq p ŧ b71 fo:=by let h2:=((My.JL p).mp hP).1;show#[#[],hp,N.fits,λm hm _=>#[_,b5B N.fits.nd hm,?_]];let#[r,h1,_,ou]:=G.row m hm;rw[show bF ř m.1=r.2 by unfold bF;rw[h1];rfl];show#[ou]
inductive Lz (c:Cl) (ord:NS->Æ):Ä
 |mk {S:NS}{ns:η}{many:Nat}{p:Int}{ř:List bf}{fo:Λ}:Dj ord S ns->My.LV p=true->p<=1000000->OB many p (JH S ns) ř->many<=100->S.JD.length<=100->S.names.Nodup->(∀ t∈S.Jy,t.1∈(JH S ns).map (·.1))->(∀ g∈S.JO,¬ (LI p (Mx.joined (cW S p (aP (JH S ns) ř) fo (JH S ns) many g)) many).length<many)->Lz c ord [c0e,Qn fo] (KR (S.JO.map λg=>(.inr g,fC p (cW S p b71 fo ŧ many g) many)))
def a5X [Bx:Bd](F:KD Bx.K "judged" "judged" (top 68) f fd)(LP:Kn 5 "checked_plan" b1r (Pr (oO c ord)))(Kk)(OY:Kn 5 "carried" Þ (Pr (jS c ord)))(Jw)(La)(Nk:Kn 7 "judgement" ì (Pr (jh C))):PH Ld 8 f fd Þ (Pr (Lz c ord)):=by
 show KD.dw F ["looked_over","field","rows","told","listener","table"] ?_ λ_ _ _ _ _ _ hr ND=>(qC (qs 5 ND<|dF LP hr.m rfl (da (Đ 0)<|da (Đ 1) (da (Đ 2)<|da (Đ 3) JC)))
 (qC (qs 6 ND<|AF Kk hr.m rfl NK)
 (qC (qs 7 ND<|dF OY hr.m rfl (da (Đ 0)<|da (Đ 5) (da (Đ 2)<|da (Đ 3) (da (Đ 4) JC))))
 (qC (qo 8 ND Yf)
 (qC (Px F9 rfl (ar<|eI (Đ 0) Jw hr.m) (pN 9 ND) (aD 9)
  (qC (Vb (K:=Bx.K) (n:=0) (b5 (i:=10) ND rfl rfl rfl (cS 1 [7] b72) (ar<|Pk (Đ 0) La hr.m (da (Đ 9) JC))
  ē
  MO
  Fr) rfl)
 (q1<|qP (bU C3 uS (Đ 9) (dF Nk hr.m rfl<|da (Đ 6) (da (Đ 10)<|da (Đ 2) JC)) rfl) (λ_ _ _ h=>h))))
 (qr<|Đ 8))))))
 rintro _ _ @⟨S,ns,many,p,ř,fo,N,hP,hp,G,hm,hz,nd,hk,VC⟩;let h2:=((My.JL p).mp hP).1;let Kv:=N.fits.Kv;let tz:=N.tz;let pm:=KW (f:=λm:KL=>m.1) (l:=JH S ns);let li:∀ g∈S.JO,g∈S.names:=λg hg=>by let#[q,nU]:=EW.mp hg;show EW.mpr #[q,(Fj.mp h1).1,h2]
 let ln:S.JO.Nodup:=List.Nodup.sublist b4g nd;let lz:S.JO.length<=100:=by unfold NS.JO;rw[EO];show Fs nj hz
 let iz:∀ g,(S.into g).length<=S.Jy.length:=λg=>by unfold NS.into;rw[EO];show FD _ _
 show#[1,.inl<|.nx #[#[5],#[N,hP,hp,G]] (.nx b7v<|.nx ⟨⟨rfl,rfl,rfl,rfl,rfl,rfl⟩,⟨N.ord,N.XY,by omega,hP,G.a2m N hP hp,by omega⟩⟩ (.nx ⟨rfl⟩ ?_))];generalize aP (JH S ns) ř=rs at VC;show bX S.JO (u:=.str) (λi ε=>∃ o9 Oa,ε=[.fz<|aA c S,.fz<|aG ř,.fz<|.int many,.fz<|.int p,.fz<|Qn fo,.fz<|aG rs,.fz<|fD C p,.fz<|KR ((RK (·.1)<|JH S ns).map λm=>(.inl m.1,rw b3A)),.ow<|KR ((S.JO.take i).map λg=>(.inr g,fC p Ex many)),o9,Oa]) #[Qc] #[b2C,.l .lst] (λi g ε hg J'=>?_) λε J'=>?_
 ·let#[o9,Oa,he]:=J';subst he;let gm:=ET hg;let lt:=(ES.mp hg).1;let gz:(S.into g).length<=100:=by let:=iz g;omega
  let nw:(.inr g:Dx)∉((S.JO.take i).map λg=>((.inr g:Dx),fC p Ex many)).map (·.1):=λz=>by rw[EZ]at z;let#[x,nU]:=EW.mp z;let h1:=Sum.inr.inj h2▸h1;let nd:=(Gs i S.JO)▸ln;rw[FG]at nd;show nd.2.2 _ h1 _ (ET (i:=0) (by rw[IB];show hg)) rfl
  show#[_,1,_,.nx #[c6 (xs:=S.into g) (u:=.int) (h:=λk=>rw (cZ p rs fo ŧ many k)) (d:=tb<|cW S p rs fo (JH S ns) many g) ⟨⟨rfl,by decide,⟨rfl,rfl⟩,⟨by omega,li g gm⟩⟩,.l .lst⟩ (by omega) (λk U1=>#[_,3,.k ?_ kI]) (by unfold cW;rw[show tb _=.lst XH from rfl,EZ];rfl)] #[1,by simp;omega,.z #[#[4],#[hP,hp,yh b7W gz hm,hm,VC g gm]],1,kS],.fz<|.str g,.fz<|tb Ex,?_]
  ·let#[t,h1,1]:=EW.mp U1;let#[m,ou]:=EW.mp<|hk t (Fj.mp h1).1;rw[<- h4];show dH (sR<|(pm.map _).nodup_iff.mpr N.fits.nd) (Fc (f:=λm:KL=>((.inl m.1:Dx),rw b3A))<|pm.mem_iff.mpr h3)
  ·rw[dR nw,aQ hg,EX];rfl
 ·let#[_,_,he]:=J';rw[FE]at he;subst he;show#[2]
universe e
universe K72
namespace L2.Wy
variable {ν:Type}[DecidableEq ν]
abbrev T (ν:Type):=Int×ν×ν×Int
theorem b2 (b:Bool):Int:=if b then 1 else 0
theorem iR (U)(p:ν->Bool)(t:T ν):Int:=if U t.1 then b2 (p t.2.1) - b2 (p t.2.2.1) else 0
theorem Kq (ts)(U)(p:ν->Bool):Int:=(ts.map (iR U p)).sum
theorem NN (t:T ν)(x:ν)(U):Option ν:=if U t.1 then (if t.2.2.1=x then some t.2.1 else none) else (if t.2.1=x then some t.2.2.1 else none)
theorem pq (U)(k:Int):Int->Bool:=λj=>if j=k then not (U j) else U j
def a5S (U)(k:Int):pq U k k=not (U k):=if_pos rfl
def m5 (U)(h:j≠k):pq U k j=U j:=if_neg h
def jB (t:T ν)(ts)(U)(p:ν->Bool):Kq (t::ts) U p=iR U p t+Kq ts U p:=by
 unfold Kq
 simp_all
def b7j {ts:List (T ν)}{V:Int->Bool}(p:ν->Bool)(h:∀ t∈ts,U t.1=V t.1):Kq ts U p=Kq ts V p:=by unfold Kq;congr 1;show FA λt ht=>?_;unfold iR;rw[h t ht]
theorem WZ (ts):Prop:=(ts.map (·.1)).Nodup
def WZ.tail (h:WZ (t::ts)):WZ ts:=(FP.mp h).2
def WZ.ne (h:WZ (t::ts))(hu:u∈ts):u.1≠t.1:=λe=>(FP.mp h).1 (by change t.1∈ts.map _;rw[<- e];show Fc hu)
def WZ.inj (h:WZ ts){u:T ν}(ht:t∈ts)(hu:u∈ts)(e:t.1=u.1):t=u:=by
 induction ts with
 | nil=>cases ht
 | cons a ts ih=>
  rcases Fw.mp ht with rfl|ht1
  ·rcases Fw.mp hu with rfl|hu
   ·rfl
   ·show absurd e.symm (h.ne hu)
  ·rcases Fw.mp hu with rfl|hu
   ·show absurd e (h.ne<|by assumption)
   ·show ih h.tail (by assumption) hu
def c3h {p:ν->Bool}{t:T ν}{x y:ν}(h:NN t x U=!y):iR b73 p t=iR U p t+b2 (p x) - b2 (p y):=by
 unfold NN at h;unfold iR;rw[a5S]
 cases hU:U t.1 with
 | true=>
  simp_all
 | false=>
  simp_all
def a9S {ts:List (T ν)}{p:ν->Bool}{t:T ν}{x y:ν}(nd)(ht:t∈ts)(h:NN t x U=!y):Kq ts b73 p=Kq ts U p+b2 (p x) - b2 (p y):=by
 induction ts with
 | nil=>cases ht
 | cons a ts ih=>
  rw[jB,jB];rcases Fw.mp ht with rfl|ht
  ·rw[c3h h,b7j p λu hu=>m5 U<|nd.ne hu]
   lia
  ·rw[ih nd.tail ht];let:iR b73 p a=iR U p a:=by unfold iR;rw[m5 U λe=>nd.ne ht e.symm]
   lia
theorem Flow (ts)(U)(h g:ν)(v:Int):Prop:=∀ p:ν->Bool,Kq ts U p=v * (b2 (p h) - b2 (p g))
def Flow.none (ts)(h g:ν):Flow ts (λ_=>false) h g 0:=λp=>by
 rw[Int.zero_mul];unfold Kq
 induction ts with
 | nil=>rfl
 | cons t ts ih=>
  rw[Fh,List.sum_cons,ih];rfl
abbrev Cm (ν:Type):=List (ν×Option (Int×ν))
theorem keys (c:Cm ν):List ν:=c.map (·.1)
inductive LQ (ts:List (T ν)) (U:Int->Bool) (h:ν):Cm ν->Prop
 |one:LQ ts U h Ad
 |snoc {cs:Cm ν}{x y:ν}{t:T ν}:LQ ts U h cs->x∈keys cs->t∈ts->NN t x U=!y->¬ y∈keys cs->LQ ts U h (cs++[jb])
def bd (a b:Cm ν):keys (a++b)=keys a++keys b:=EX
def LQ.nd {ts:List (T ν)}{h:ν}{cs:Cm ν}(C:LQ ts U h cs):(keys cs).Nodup:=by
 induction C with
 | one=>simp[keys]
 | snoc C hx ht hs hy ih=>
  rw[bd];show FG.mpr #[ih,by simp[keys],λa ha b hb e=>?_];let:=Fo.mp hb
  simp_all
def LQ.K5 {ts:List (T ν)}{h:ν}{cs:Cm ν}(C:LQ ts U h cs):h∈keys cs:=by
 induction C with
 | one=>simp[keys]
 | snoc C hx ht hs hy ih=>rw[bd];show FJ _ ih
def LQ.at {ts:List (T ν)}{h:ν}{cs:Cm ν}(C:LQ ts U h cs){pre post:Cm ν}{y:ν}{s:Option (Int×ν)}(e:cs=pre++(y,s)::post):
  (s=none/\y=h)\/∃ t x,t∈ts/\s=!(t.1,x)/\x∈keys pre/\NN t x U=!y:=by
 induction C generalizing post with
 | one=>
  cases pre with
  | nil=>
   injection e with e1 e2;injection e1 with e1 e3;show .inl #[e3.symm,e1.symm]
  | cons a pre=>
   simp_all
 | @snoc cs x y' t C hx ht hs hy ih=>
  rcases List.eq_nil_or_concat post with rfl|⟨Ul,q,rfl⟩
  ·let e':=e;let#[sf]:=List.append_inj' e' rfl
   grind
  ·let e':cs++[(y',!(t.1,x))]=(pre++(y,s)::Ul)++[q]:=by simp_all
   let#[sf]:=List.append_inj' e' rfl;show ih e1
def b9E {t:T ν}{x x' y y':ν}(h:NN t x U=!y)(h':NN t x' U=!y'):y=y':=by grind [NN]
def zI {t:T ν}{V:Int->Bool}(x:ν)(h:U t.1=V t.1):NN t x U=NN t x V:=by unfold NN;rw[h]
def ik (h:y∈keys c):∃ pre s post,c=pre++(y,s)::post:=by let#[#[y',s],hq,1]:=EW.mp h;let#[yo]:=List.append_of_mem hq;show#[pre,s,post,e]
structure kO (ts:List (T ν)) (U:Int->Bool) (g:ν) (c:Cm ν) (V:Int->Bool) (y:ν) (s:Option (Int×ν)) (n:Nat):Prop where
 at':∃ pre post,c=pre++(y,s)::post/\pre.length=n/\∀ q∈pre++[(y,s)],∀ k x,q.2=!(k,x)->V k=U k
 nt:∀ p,Kq ts V p=Kq ts U p+b2 (p y) - b2 (p g)
def kO.start (e:c=pre++(g,s)::post):kO ts U g c U g s pre.length:=
 #[#[yo,1,λ_ _ _ _ _=>rfl],λp=>by lia]
def kO.step {ts:List (T ν)}{V:Int->Bool}{h g:ν}{c:Cm ν}(nd)(C:LQ ts U h c){y x:ν}(B:kO ts U g c V y (!(k,x)) n):
  ∃ s m,m<n/\kO ts U g c (pq V k) x s m:=by
 let#[yo,hn,hV]:=B.at';rcases C.at e with⟨e0,_⟩|⟨t,x',ht,es,hx,hs⟩
 ·cases e0
 injection es with es;injection es with e1 e2;subst e1 e2;let hVt:=hV _ (FF _<|Fo.mpr rfl) _ _ rfl;let#[XF,s,Ul,e3]:=ik hx;let LY:XF.length<n:=by
  rw[<- hn,e3,Fb,FU]
  lia
 show#[s,XF.length,LY,#[#[XF,Ul++jb::post,by rw[e,e3];simp,1,λq hq k' x'' hq2=>?_],λp=>?_]]
 ·let hqp:q∈pre:=by
   rw[e3];rcases Fx.mp hq with hq|hq
   ·show FJ _ hq
   ·rw[Fo.mp hq];show FF _ (Fy ..)
  let SK:k'≠t.1:=λek=>by
   let#[a,b,eab]:=List.append_of_mem hqp;let e5:c=a++(q.1,q.2)::(b++jb::post):=by rw[e,eab];simp
   rcases C.at e5 with⟨e0,_⟩|⟨t2,x2,ht2,es2,_,QH⟩
   ·rw[hq2]at e0;cases e0
   ·rw[hq2]at es2;injection es2 with es2;injection es2 with e6 e7;let:=nd.inj ht2 ht<|e6.symm.trans ek;subst this;let:=b9E QH hs;let hk:=C.nd;rw[e,bd]at hk;let h1:q.1∈keys pre:=Fc hqp;show (FG.mp hk).2.2 q.1 h1 y (by simp[keys]) this
  rw[m5 V SK];show hV q (FJ _ hqp) k' x'' hq2
 ·rw[a9S nd ht<|(zI x hVt).trans hs,B.nt p]
  lia
def kO.stop {ts:List (T ν)}{V:Int->Bool}{h g:ν}{c:Cm ν}(C:LQ ts U h c){y:ν}(B:kO ts U g c V y none n)(F:Flow ts U h g v):Flow ts V h g (v+1):=by
 let#[yo,hn,hV]:=B.at';rcases C.at e with⟨_,rfl⟩|⟨t,x',ht,es,hx,hs⟩
 ·intro p;rw[B.nt p,F p,Int.add_mul,Int.one_mul]
  lia
 ·cases es
theorem u5 (ts)(U)(p:ν->Bool):Prop:=∀ t∈ts,∀ x z,p x=true->NN t x U=!z->p z=true
theorem xT (p:ν->Bool)(t:T ν):Bool:=p t.2.1&&not (p t.2.2.1)
theorem r8 (ts)(p:ν->Bool):List (T ν):=ts.filter (xT p)
def b9t {p:ν->Bool}{t:T ν}(h:∀ x z,p x=true->NN t x U=!z->p z=true):iR U p t=b2 (xT p t):=by
 unfold iR xT b2
 cases hU:U t.1 with
 | true=>
  let:=h t.2.2.1 t.2.1;unfold NN at this
  cases h1:p t.2.1 <;> cases h2:p t.2.2.1 <;> simp_all
 | false=>
  let:=h t.2.1 t.2.2.1;unfold NN at this
  simp_all
def a8e {ts:List (T ν)}{p:ν->Bool}(h:u5 ts U p):Kq ts U p=((r8 ts p).length:Int):=by
 unfold r8
 induction ts with
 | nil=>rfl
 | cons t ts ih=>
  rw[jB,GC,ih λu hu=>h u<|Ft _ hu,b9t<|h t (Fy ..)]
  cases xT p t with
  | true=>
   grind [b2]
  | false=>
   grind [b2]
def Flow.cut {ts:List (T ν)}{h g:ν}{p:ν->Bool}(F:Flow ts U h g v)(hc:u5 ts U p)(hh:p h=true)(hg:p g=false):((r8 ts p).length:Int)=v:=by
 let:=F p;rw[a8e hc,hh,hg]at this;rw[this];change v * (1 - 0)=v
 lia
inductive NX (ts:List (T ν)):ν->List (T ν)->ν->Prop
 |nil (x:ν):NX ts x [] x
 |snoc {x:ν}{ws:List (T ν)}{t:T ν}:NX ts x ws t.2.1->t∈ts->NX ts x kN t.2.2.1
theorem nums (ws:List (T ν)):Ξ:=ws.map (·.1)
def NX.sub (W:NX ts x ws y):∀ t∈ws,t∈ts:=by
 induction W with
 | nil=>simp_all
 | snoc W ht ih=>
  intro t h;rcases Fx.mp h with h|h
  ·show ih t h
  ·simp_all
def NX.up {ts:List (T ν)}{rk:ν->Nat}(hr:∀ t∈ts,rk t.2.1<rk t.2.2.1){x y:ν}{ws:List (T ν)}(W:NX ts x ws y):rk x+ws.length<=rk y/\(∀ t∈ws,rk t.2.1<rk y)/\ws.Nodup:=by
 induction W with
 | nil=>simp_all
 | @snoc ws t W ht ih=>
  let:=hr _ ht;let#[IO,i3]:=ih;show#[by rw[Fb,Gg];lia,λu hu=>?_,?_]
  ·rcases Fx.mp hu with hu|hu
   ·let:=i2 u hu;lia
   ·simp_all
  ·show FG.mpr #[i3,by simp,λa ha b hb e=>?_];let eb:=Fo.mp hb;let:=i2 a ha
   lia
def LdS {ws:List (T ν)}(nd)(hs:∀ t∈ws,t∈ts)(h:ws.Nodup):(nums ws).Nodup:=by
 induction ws with
 | nil=>show Hx
 | cons a ws ih=>
  let#[nU]:=FP.mp h;show FP.mpr #[λz=>?_,ih (λt ht=>hs t<|Ft _ ht) h2];let#[u,hu,e]:=EW.mp z;let:=nd.inj (hs u<|Ft _ hu) (hs a<|Fy ..) e
  simp_all
theorem without (U)(ks:Ξ):Int->Bool:=λk=>U k&&not (decide lh)
def c2N (nd)(p:ν->Bool)(W:NX Ģ x ws y)(hn:(nums ws).Nodup):
  Kq ts (without U l8) p=Kq ts U p - b2 (p x)+b2 (p y):=by
 induction W with
 | nil=>
  simp[b7j,without,nums]
 | @snoc ws t W ht ih=>
  let RC:(nums ws++[t.1]).Nodup:=by
   let:nums kN=nums ws++[t.1]:=EX
   simp_all
  let#[n1,_,n3]:=FG.mp RC;let LX:=λz=>n3 t.1 z t.1 (Fo.mpr rfl) rfl;let hU:=(Fj.mp ht).2;let hV:without U l8 t.1=true:=by unfold without;rw[hU,F5 LX];rfl
  let hs:NN t t.2.2.1 (without U<|nums ws)=!t.2.1:=by unfold NN;rw[hV,if_pos rfl,if_pos rfl]
  let e:Kq ts (without U<|nums kN) p=Kq ts (pq (without U<|nums ws) t.1) p:=b7j p λu _=>by
   let e2:nums kN=nums ws++[t.1]:=EX;by_cases hu:u.1=t.1
   ·rw[hu,a5S,hV];unfold without
    simp_all
   ·rw[m5 _ hu];unfold without
    simp_all
  rw[e,a9S nd ((Fj.mp ht).1) hs,ih n1]
  lia
def Flow.without (nd)(F:Flow ts U h g v){ws:List (T ν)}(W:NX Ģ h ws g)(hn:(nums ws).Nodup):Flow ts (Wy.without U l8) h g (v - 1):=λp=>by
 rw[c2N nd p W hn,F p,Int.sub_mul,Int.one_mul]
 lia
set_option tactic.hygienic true in def BN {ts:List (T ν)}{x:ν}(h:0<=Kq ts U No)(hi:0<Kq ts U No\/∃ t∈ts,U t.1=true/\t.2.2.1=x/\t.2.1≠x):∃ t∈ts,U t.1=true/\t.2.1=x:=by
 by_cases hx:∃ t∈ts,U t.1=true/\t.2.1=x
 ·show hx
 ·exfalso;let key:∀ ts:List (T ν),(∀ t∈ts,¬ (U t.1=true/\t.2.1=x))->Kq ts U No<=0/\((∃ t∈ts,U t.1=true/\t.2.2.1=x/\t.2.1≠x)->Kq ts U No<0):=by
   intro ts hts
   induction ts with
   | nil=>show#[Int.le_refl _,λJ'=>(by let#[t,ht,_]:=J';show nomatch ht)]
   | cons a ts ih=>
    let#[i1,i2]:=ih λt ht=>hts t<|Ft _ ht;rw[jB];let t0:iR U (λz=>decide (z=x)) a<=0:=by
     unfold iR;split
     ·rename_i hU;change b2 (decide _) - b2 (decide _)<=0;rw[F5 λe=>(hts a<|Fy ..) #[hU,e]]
      cases decide (a.2.2.1=x) <;> decide
     ·show Int.le_refl _
    show#[#[],λJ'=>?_];let#[t,ht,h1,h2,h3]:=J';rcases Fw.mp ht with rfl|ht
    ·let:iR U No t=-1:=by unfold iR;rw[if_pos h1];change b2 (decide _) - b2 (decide _)=-1;rw[F5 h3,EY h2];rfl
     lia
    ·let:=i2 #[t,ht,h1,h2,h3]
     lia
  let#[k1,k2]:=key ts λt ht z=>hx #[t,ht,z]
  grind
def Flow.VO {ts:List (T ν)}{rk:ν->Nat}(hr:∀ t∈ts,rk t.2.1<rk t.2.2.1){h g x:ν}(F:Flow ts U h g v)(hv:0<v)(hg:x≠g){ws:List (T ν)}(W:NX Ģ h ws x):∃ t∈ts,U t.1=true/\t.2.1=x:=by
 let e:=F λz=>decide (z=x);rw[F5<|show ¬ g=x from λz=>hg z.symm]at e;by_cases hh:h=x
 ·rw[EY hh]at e;let:Kq ts U No=v:=by rw[e];change v * (1 - 0)=v;lia
  show BN #[] (.inl<|by lia)
 ·show BN #[] (.inr ?_)
  cases W with
  | nil=>show absurd rfl hh
  | @snoc ws t W ht=>
   let:=hr t (Fj.mp ht).1;show#[t,(Fj.mp ht).1,(Fj.mp ht).2,1,λz=>by lia]
variable {ν:Type}[DecidableEq ν]
theorem look (U)(x:ν):List (T ν)->Cm ν×List ν->Cm ν×List ν
 | [],s=>s
 | t::r,s=>match NN t x U with
  | some z=>if z∈keys s.1 then look U x r s else look U x r b09
  | none=>look U x r s
theorem gx (ts)(x:ν):List (T ν):=ts.filter λt=>decide nS || decide Ac
theorem ZK (ts)(U):Nat->Cm ν×List ν->Cm ν
 | 0,s=>s.1
 | n+1,s=>match s.2 with
  | []=>s.1
  | x::w=>ZK ts U n (look U x wN (s.1,w))
theorem eL (ts)(U)(N:Nat):Option ν->Cm ν
 | none=>[]
 | some h=>ZK ts U N (Ad,[h])
structure Bf (ts:List (T ν)) (U:Int->Bool) (h:ν) (c:Cm ν) (d w:List ν):Prop where
 MR:LQ ts U h c
 ks:keys c=d++w
 done:∀ x∈d,∀ t∈ts,∀ z,NN t x U=!z->z∈keys c
def Bf.start (ts)(U)(h:ν):Bf ts U h Ad [] [h]:=#[.one,1,λx hx=>nomatch hx]
def b4c:∀ (r:List (T ν))(s:Cm ν×List ν),(∀ t∈r,t∈ts)->LQ ts U h s.1->keys s.1=d++s.2->x∈d->
  LQ ts U h (look U x r s).1/\keys (look U x r s).1=d++(look U x r s).2/\(∀ z∈keys s.1,z∈keys (look U x r s).1)/\∀ t∈r,∀ z,NN t x U=!z->z∈keys (look U x r s).1:=by
 intro r'
 induction r' with
 | nil=>
  intro s _ C k _;show #[C,k,λz hz=>hz,λt ht=>nomatch ht]
 | cons t r ih'=>
  intro s hr C k hx;let UG:∀ t∈r,t∈ts:=λu hu=>hr u<|Ft _ hu;unfold look
  cases hs:NN t x U with
  | none=>
   let#[sH,e]:=ih' s UG C k hx;show#[c26]
   grind
  | some y=>
   change LQ ts U h (if y∈keys s.1 then look U x r s else _).1/\_;by_cases hy:y∈keys s.1
   ·simp only[if_pos hy];let#[sH,e]:=ih' s UG C k hx;show#[c26];rcases Fw.mp hu with rfl|hu
    ·rw[hs]at hz;cases hz;show c _ hy
    ·show e u hu z hz
   ·simp only[if_neg hy];let C':LQ ts U h xy:=.snoc C ħ (hr t<|Fy ..) hs hy;let k':keys xy=d++(s.2++[y]):=by rw[bd,k,FI];rfl
    let#[sH,e]:=ih' (s.1++[jb],s.2++[y]) UG C' k' hx;let hyk:y∈keys xy:=by simp_all
    show#[a,b,λz hz=>c z (by rw[bd];show FJ _ hz),λu hu z hz=>?_]
    grind
def c3i {t:T ν}{x z:ν}(h:NN t x U=!z):t.2.1=x\/t.2.2.1=x:=by grind [NN]
def Bf.step {ts:List (T ν)}{h x:ν}{c:Cm ν}{d w:List ν}(B:Bf ts U h c d (x::w)):Bf ts U h (look U x wN (c,w)).1 (d++[x]) (look U x wN (c,w)).2:=by
 let#[a,b,m,e]:=b4c (x:=x) (d:=d++[x]) _ (c,w) b4J B.MR (by rw[B.ks];simp) Ė;show#[a,b,λy hy t ht z hz=>?_];rcases Fx.mp hy with hy|hy
 ·show m z (B.done y hy t ht z hz)
 ·let hyx:=Fo.mp hy;rw[hyx]at hz;show e t (Fj.mpr #[ht,?_]) z hz;rw[Bool.or_eq_true];rcases c3i hz with h|h
  ·show .inl (EY h)
  ·show .inr (EY h)
theorem d8 (ts)(nm:List ν):Prop:=∀ t∈ts,t.2.1∈nm/\t.2.2.1∈nm
def yk {t:T ν}{x z:ν}(h:NN t x U=!z):z=t.2.1\/z=t.2.2.1:=by grind [NN]
def LQ.names {ts:List (T ν)}{h:ν}{c:Cm ν}{nm:List ν}(C:LQ ts U h c)(E)(hh:h∈nm):∀ z∈keys c,z∈nm:=by
 induction C with
 | one=>intro z hz;rw[Fo.mp hz];show hh
 | snoc C hx ht hs hy ih=>
  intro z hz;rw[bd]at hz;rcases Fx.mp hz with hz|hz
  ·show ih z hz
  ·rw[Fo.mp hz];rcases yk hs with e|e
   ·rw[e];show (E _ ht).1
   ·rw[e];show (E _ ht).2
def eK {xs ys:List ν}(nd:xs.Nodup)(h:∀ x∈xs,x∈ys):xs.length<=ys.length:=by
 induction xs generalizing ys with
 | nil=>show FV _
 | cons a xs ih=>
  let#[n1,n2]:=FP.mp nd;let ha:=h a<|Fy ..;let:=ih (ys:=ys.erase a) n2 λx hx=>(J9 λe=>n1 (by rw[<- e];show hx)).mpr<|h x (Ft _ hx);rw[List.length_erase_of_mem ha]at this;let:=List.length_pos_of_mem ha;rw[FU]
  lia
def Bf.len {ts:List (T ν)}{h:ν}{c:Cm ν}{d w nm:List ν}(B:Bf ts U h c d w)(E)(hh:h∈nm):d.length+w.length<=nm.length/\c.length<=nm.length:=by
 let:=eK B.MR.nd<|B.MR.names E hh;let e:(keys c).length=c.length:=EO _;let e2:=congrArg List.length B.ks
 grind
structure qm (ts:List (T ν)) (U:Int->Bool) (h:ν) (c:Cm ν):Prop where
 MR:LQ ts U h c
 all:∀ x∈keys c,∀ t∈ts,∀ z,NN t x U=!z->z∈keys c
def c1s (E)(hh:h∈nm):∀ (n:Nat)(c:Cm ν)(d w:List ν),Bf ts U h c d w->nm.length<=n+d.length->qm ts U h (ZK ts U n (c,w))
 | 0,c,d,w,B,hn=>by let hl:=(B.len E hh).1;let hw:w=[]:=IC.mp #[];subst hw;show#[b9S]
 | n+1,c,d,[],B,hn=>#[b9S]
 | n+1,c,d,x::w,B,hn=>c1s E hh n _ (d++[x]) _ B.step (by rw[Fb,Gg];lia)
def b30 {ts:List (T ν)}{h:ν}{nm:List ν}(E)(hh:h∈nm)(hN:nm.length<=N):qm ts U h (eL ts U N !h):=c1s E hh N _ [] [h] (Bf.start ts U h) (hN)
def qm.closed {ts:List (T ν)}{h:ν}{c:Cm ν}(R:qm ts U h c):u5 ts U (λz=>decide kX):=λt ht x z hx hs=>EY (R.all x (Fv hx) t ht z hs)
theorem RH (U:Ξ)(k:Int):Ξ:=if k∈U then U.filter (λj=>not (decide (j=k))) else U++[k]
theorem Ly (U:Ξ):Int->Bool:=λk=>decide (k∈U)
def a9X (U:Ξ)(k:Int):Ly (RH U k)=pq C6 k:=by
 funext j
 grind [Ly,RH,pq]
set_option tactic.hygienic true in def zF (h:U.Nodup)(k:Int):(RH U k).Nodup:=by
 unfold RH;split
 ·show h.filter _
 ·rename_i hk;show FG.mpr ⟨h,by simp,λa ha b hb e=>?_⟩
  simp_all
theorem cB (c:Cm ν)(y:ν):Option (Int×ν):=(c.find? λq=>decide (q.1=y)).bind (·.2)
def jY {c pre post:Cm ν}{y:ν}{s:Option (Int×ν)}(nd:(keys c).Nodup)(e:c=pre++(y,s)::post):c.find? XL=!(y,s)/\cB c y=s:=by
 let h1:c.find? XL=!(y,s):=by rw[e,bd]at nd;let hno:pre.find? XL=none:=Hb.mpr λq hq z=>(FG.mp nd).2.2 q.1 (Fc hq) y (by simp[keys])<|Fv z;rw[e,IP,hno];simp
 show#[h1,?_];unfold cB;rw[h1];rfl
theorem gC (c:Cm ν):Nat->List Int->Option (Int×ν)->Ξ
 | 0,U,_=>U
 | _+1,U,none=>U
 | n+1,U,some s=>gC c n (RH U s.1) (cB c s.2)
def c3v (c:Cm ν)(n)(U:Ξ)(k:Int)(x:ν):gC c (n+1) U (!(k,x))=gC c n (RH U k) (cB c x):=rfl
def kO.look {ts:List (T ν)}{V:Int->Bool}{h g y:ν}{c:Cm ν}{s:Option (Int×ν)}(C:LQ ts U h c)(B:kO ts U g c V y s n):cB c y=s/\c.find? XL=!(y,s)/\n<c.length:=by
 let#[yo,hn,_]:=B.at';let#[nU]:=jY C.nd e
 simp_all
def b2e (nd)(C:LQ ts U h c)(F:Flow ts U h g v):∀ (n m:Nat)(V:Ξ)(y:ν)(s:Option (Int×ν)),kO ts U g c (Ly V) y s m->m<n->V.Nodup->Flow ts (Ly (gC c n V s)) h g (v+1)/\(gC c n V s).Nodup
 | 0,m,V,y,s,B,hm,_=>absurd hm (Jh _)
 | n+1,m,V,y,none,B,hm,hV=>#[B.stop C F,hV]
 | n+1,m,V,y,some (k,x),B,hm,hV=>by let#[s',m',LY,B']:=B.step nd C;rw[<- a9X]at B';let e:=(B'.look C).1;rw[c3v,e];show b2e nd C F n m' (RH V k) x s' B' #[] (zF hV k)
def b4n {ts:List (T ν)}{h g:ν}{c:Cm ν}(nd)(C:LQ ts C6 h c)(F:Flow ts C6 h g v)(hg:g∈keys c)(hU:U.Nodup)(hn:c.length<=n):Flow ts (Ly (gC c n U (cB c g))) h g (v+1)/\(gC c n U (cB c g)).Nodup:=by let#[pre,s,post,e]:=ik hg;let B:=kO.start (ts:=ts) (U:=Ly U) e;rw[(B.look C).1];show b2e nd C F n _ U g s B (FN (B.look C).2.2 hn) hU
theorem AG (ts)(c:Cm ν):Ξ:=nums (r8 ts λz=>decide kX)
theorem dE (ts)(h:Option ν)(g:ν)(N:Nat):Nat->List Int->Sum Ξ Ξ
 | 0,U=>.inr U
 | m+1,U=>if g∈keys Ů then dE ts h g N m b5l else .inl (AG ts Ů)
def b85 (ts)(h:Option ν)(g:ν)(N m:Nat)(U:Ξ):dE ts h g N (m+1) U=if g∈keys Ů then dE ts h g N m b5l else .inl (AG ts Ů):=rfl
structure a23 (ts:List (T ν)) (h g:ν) (U:Ξ) (ks:Ξ) (p:ν->Bool):Prop where
 closed:u5 ts C6 p
 hh:p h=true
 hg:p g=false
 ks:ks=nums (r8 ts p)
def mh (nd)(E)(hh:h∈nm)(hN:nm.length<=N):∀ (m:Nat)(U:Ξ)(v:Int),Flow ts C6 h g v->U.Nodup->
  (∀ V,dE ts (!h) g N m U=.inr V->Flow ts (Ly V) h g (v+m)/\V.Nodup)/\
  (∀ ks,dE ts (!h) g N m U=.inl ks->∃ (i:Nat)(V:Ξ)(p:ν->Bool),i<m/\dE ts (!h) g N i U=.inr V/\Flow ts (Ly V) h g (v+i)/\a23 ts h g V ks p/\(ks.length:Int)=v+i):=by
 intro r'
 induction r' with
 | zero=>
  intro U v F hU;show #[λV e=>by cases e;show#[by simpa using F,hU],λks e=>by cases e]
 | succ m ih'=>
  intro U v F hU;let R:=b30 (U:=Ly U) E hh hN;rw[b85];generalize hc:eL ts C6 N (!h)=c at R;let cl:c.length<=N:=by
   let:=eK R.MR.nd (R.MR.names E hh)
   grind [keys,List.length_map]
  by_cases hg:g∈keys c
  ·rw[if_pos hg];let#[F',hU']:=b4n nd R.MR F hg hU cl;let#[a,b]:=ih' _ (v+1) F' hU';show#[λV e=>?_,λks e=>?_]
   ·let:=a V e
    grind
   ·let#[i,V,p,hi,Xo]:=b ks e;show#[i+1,V,p,#[],D2,e3,#[]]
    ·rw[b85,hc,if_pos hg];show e1
    ·grind
  ·rw[if_neg hg];show#[(λV e=>by cases e),λks e=>?_]
   cases e;let hh':decide (h∈keys c)=true:=EY R.MR.K5;let hg':decide (g∈keys c)=false:=F5 hg;show#[(0),U,λz=>decide kX,#[],1,by simpa using F,#[R.closed,hh',hg',1],?_];let:=F.cut R.closed hh' hg'
   simp_all [AG,nums,EO]
theorem LG (L:List (T ν))(x:ν):Option (T ν):=L.find? λt=>decide nS
theorem cX (L:List (T ν))(g:ν):Nat->ν->List (T ν)
 | 0,_=>[]
 | n+1,x=>if x=g then [] else match LG L x with
  | none=>[]
  | some t=>t::cX L g n t.2.2.1
def b1X {L:List (T ν)}{x:ν}{t:T ν}(h:LG L x=!t):t∈L/\t.2.1=x:=#[FY h,by simpa using Hk h]
def b5x {ts:List (T ν)}{rk:ν->Nat}(hr:∀ t∈ts,rk t.2.1<rk t.2.2.1){h g:ν}(F:Flow ts U h g v)(hv:0<v)(hN:∀ z,rk z<N):∀ (n:Nat)(x:ν)(ws:List (T ν)),NX Ģ h ws x->N<=n+rk x->NX Ģ h (ws++cX Ģ g n x) g:=by
 intro r'
 induction r' with
 | zero=>
  intro x ws W hn;show absurd (hN x) #[]
 | succ n ih'=>
  intro x ws W hn;unfold cX;by_cases hx:x=g
  ·simp_all
  ·rw[if_neg hx]
   cases ho:LG Ģ x with
   | none=>
    let#[t,ht,hU,e]:=F.VO hr hv hx W;show absurd (EY e) (Hb.mp ho t<|Fj.mpr #[ht,hU])
   | some t=>
    let#[nU]:=b1X ho;subst h2;let:=hr t (Fj.mp h1).1;let:=ih' t.2.2.1 kN (.snoc W h1) #[]
    simp_all
theorem gB (h g:ν)(N:Nat):Nat->List (T ν)->Θ
 | 0,_=>[]
 | m+1,L=>nums Br::gB h g N m (L.filter λt=>not (decide (t.1∈nums Br)))
def b1y {ts:List (T ν)}(nd){rk:ν->Nat}(hr:∀ t∈ts,rk t.2.1<rk t.2.2.1){h g:ν}(hN:∀ z,rk z<N):∀ (m:Nat)(U:Int->Bool),Flow ts U h g (m:Int)->
  ∃ OC:List (List (T ν)),gB h g N m Ģ=OC.map nums/\OC.length=m/\(∀ ws∈OC,NX Ģ h ws g)/\(OC.map nums).flatten.Nodup:=by
 intro r'
 induction r' with
 | zero=>
  intro U F;show #[[],2,(λws hw=>nomatch hw),Hx]
 | succ m ih'=>
  intro U F;let W:=b5x hr F #[] hN N h [] (.nil h) #[];rw[Gp]at W;unfold gB;generalize cX Ģ g N h=ws at W;let up:=W.up (rk:=rk) λt ht=>hr t (Fj.mp ht).1;let hn:=LdS nd (λt ht=>(Fj.mp<|W.sub t ht).1) up.2.2;let F':=F.without nd W hn;rw[show ((m+1:Nat):Int) - 1=(m:Int) by lia]at F';let#[OC,e,hl,hw,WU]:=ih' _ F';let ef:(ts.filter λt=>U t.1).filter (λt=>not (decide (t.1∈nums ws)))=ts.filter λt=>Wy.without U l8 t.1:=by rw[List.filter_filter];show Jv λt _=>?_;unfold Wy.without;rw[Bool.and_comm]
  rw[ef,e];let b0L:∀ vs∈OC,NX Ģ h vs g/\∀ k∈nums vs,¬ k∈nums ws:=λvs hv=>by
   let V:=hw vs hv;let:∀ {x y:ν}{vs:List (T ν)},NX (ts.filter λt=>Wy.without U l8 t.1) x vs y->NX Ģ x vs y:=by
    intro x y vs V
    induction V with
    | nil=>show .nil _
    | snoc V ht ih=>
     show .snoc ih ?_
     grind
   show#[this V,λk hk z=>?_];let#[uI]:=EW.mp hk;let#[a,b]:=Fj.mp<|V.sub t ht;unfold Wy.without at b;rw[EY z]at b;simp at b
  show#[ws::OC,1,by rw[FU,hl],λvs hv=>?_,?_]
  ·grind
  ·rw[Fh,IM]
   grind
universe L2.Wy
namespace K72
open PySem L2 L2.Wy
open PyProof.Rows (boot_all boot_bool boot_dict boot_int boot_list boot_sorted boot_str boot_tuple)
abbrev bW (U:Ξ):D:=KR (U.map λk=>b74)
def fO:(cy (U.map λk=>Ų) tU).isSome=Ly U k:=by let:=YB (l:=U) (f:=λz=>z) (g:=λ_=>D.bl true) (y:=k);rwa [List.map_id']at this
theorem oD:Option Str->D
 | none=>.non
 | some x=>.str x
theorem aI (ts:List Kl):Option Ξ->List Kl
 | none=>ts
 | some ks=>ts.filter λt=>not (decide (t.1∈ks))
theorem iF:Option (Int×Str)->D
 | none=>.non
 | some s=>.tup [.int s.1,.str s.2]
abbrev fe (c:Cm Str):D:=KR (c.map λq=>(.inr q.1,iF q.2))
def eo:(cy b8M (.inr y)).isSome=decide (y∈keys c):=YA
section
variable {c:Cl}
inductive kK (c:Cl):Ä
 |mk {S:NS}{fo:Λ}:S.Jy.length<=1000->kK c [aA c S,Qn fo] (bK Ao)
def a8j [Bx:Bd](JB):Tk 2 "standing_ties" (top 70) b8N (Pr (kK c)):=by
 show KS [] ?_ λ_ _ _ _ _ _ _ hr ND=>(qC (qI mY
  (qr<|eI (Đ 0) JB hr.m)
  q0)
 (qr (Pd 0 rfl (cS 1 [1] ["tie","fallen"]) pf
  ē
  a9p
  Ŧ)))
 rintro _ _ @⟨S,fo,hl⟩
 cases fo with
 | none=>show .rt (.t pV #[a3h,1])
 | some ks=>show .nx Cp #[bv (λt=>not (decide _)) tZ hl λt _=>b2h,1]
inductive ME:Ä
 |mk {t:Kl}{x:Str}{U:Ξ}:ME [bN t,.str x,bW U] (oD (NN t x C6))
def b7e [Bx:Bd]:Tk 1 "step_over" (top 72) b5m (Pr ME):=by
 show KS [] ?_ λ_ _ _ _ _ _ _ hr ND=>(qC (qI (Va C3 Ť<|Đ 2)
  a9D
  q0)
 a9D)
 rintro _ _ @⟨t,x,U⟩;let r1:=eq_str (ε:=a9b) (ra:=rO Sub rq<|rC (.int 1)) (rb:=rV 1) Di rfl;let r2:=eq_str (ε:=a9b) (ra:=rO Sub rq<|rC (.int 2)) (rb:=rV 1) Di rfl;unfold NN
 cases hu:Ly U t.1 with
 | true=>
  show .rt (.t a8U #[?_,1]);by_cases z:t.2.2.1=x
  ·rw[EY z]at r2;rw[if_pos z];show .t r2 Di
  ·rw[F5 z]at r2;rw[if_neg z];show .f r2 rfl
 | false=>
  show .nx (.f a8U rfl) #[?_,1];by_cases z:t.2.1=x
  ·rw[EY z]at r1;rw[if_pos z];show .t r1 Di
  ·rw[F5 z]at r1;rw[if_neg z];show .f r1 rfl
inductive a1F:Ä
 |mk {ts:List Kl}{x:Str}{t:Kl}:LG ts x=!t->a1F [bK ts,.str x] (bN t)
def b0r [Bx:Bd]:Tk 1 "tie_out_of" (top 76) ["ties","name"] (Pr a1F):=by
 show KS ["tie"] ?_ λ_ _ _ _ _ _ _ hr ND=>(qC (Px F9 rfl ż pY (aD 2)
  (q1 (qI (dT bc cv (Kh hr (Đ 2) dI)<|Đ 1)
  Dr
  q0)))
 AE)
 rintro _ _ @⟨ts,x,t,ht⟩;show ?_;show gO ts b0x (λt=>decide _) bN #[_,1] yc (λt ε _ J'=>?_) (λu h=>by rw[Option.some.inj<|ht.symm.trans h]) λh=>nomatch ht.symm.trans h
 let#[o,he]:=J';subst he;let r1:=eq_str (ε:=[some<|bK ts,some<|.str x,some<|bN t]) (ra:=rO Sub um<|rC (.int 1)) (rb:=rV 1) Di rfl;show#[vD];by_cases z:t.2.1=x
 ·rw[EY z]at r1 ⊢;show .t r1 #[2]
 ·rw[F5 z]at r1 ⊢;show#[_,.f r1 rfl,_,1]
inductive c01:Ä
 |mk {ts:List Kl}{c:Cm Str}:ts.length<=1000->c01 [bK ts,fe c] (rw (AG ts c))
def b0X [Bx:Bd]:Tk 1 "ties_between" (top 75) ["ties","came"] (Pr c01):=by
 show KS [] ?_ λ_ _ _ _ _ _ _ hr ND=>(qr (Pd 4 rfl (cS 4 [1] [xq,"came"]) ż
  ĭ
  (λ_ _ _ _ _=>cD<|PW.pt (kF (Va C3 (Đ 1)<|Đ 4)<|c7 (Sn C3 (Đ 2)<|Đ 4)))
  Ŧ))
 rintro _ _ @⟨ts,cm,hl⟩;show#[bv _ yc hl λt _=>#[DM,?_,λ_=>rfl],Ql _ _];change zS _ _ _ (decide _&&not (decide _))
 cases z:decide (t.2.1∈keys cm) with
 | true=>show .t b0y #[2,.k rfl kS (by rw[eo];rfl)]
 | false=>show .f b0y
universe e
section
variable {c:Cl}
def ne_str (ha:ra ε yI)(hb:rb ε (.str y)):rO (fE true) ra rb ε (.bl (decide (x≠y))):=.mk ha hb (.mk rfl rfl rfl<|congrArg D.bl (by rw[if_pos rfl,<- decide_not];show Ik.mpr ⟨λh z=>h<|V.str.inj z,λh z=>h<|congrArg V.str z⟩))
def a4F {ws:List Kl}(A:NX ts x ws y)(B:NX ts x ws z):y=z:=by
 cases A with
 | nil=>exact (by generalize hw:([])=ws at B;cases B with|nil=>rfl|snoc _ _=>show absurd hw.symm<|by simp)
 | snoc A1 h1=>
  generalize hw:_++[_]=ws at B
  cases B with
  | nil=>simp_all
  | snoc B1 h2=>simp_all
inductive Oz:Ä
 |mk {L:List Kl}{h g:Str}{N:Nat}:NX L h Br g->(cX L g N h).length<=1000->Oz [bK L,.str h,.str g] (rw (nums Br))
def c2g [Bx:Bd](MG:Kn 1 "tie_out_of" ["ties","name"] (Pr a1F)):Tk 2 "one_way" (top 77) b2D (Pr Oz):=by
 show KS ["way","name","tie"] ?_ λ_ _ _ _ _ _ _ hr ND=>(qC (qo 3 ND<|bV JC)
 (qC (qs 4 ND<|Đ 1)
 (qC (qW F9 (dT iH pe (Đ 4)<|Đ 2)
  (qC (qs 5 ND<|dF MG hr.m rfl b24)
 (qC (qA (aw<|OS Bx.K Ff Fn Fm aB (pv 3) (a9 (Kh hr (Đ 5) dI) Jx)) λ_ _ _ h=>h)
 (q1<|qs 4 ND (Kh hr (Đ 5) dI)))))
 ug)))
 rintro _ _ @⟨L,h,g,N,W,hl⟩;show .nx AI iA;show fh (b:=(N,[],h)) (λb ε=>NX L h b.2.1 b.2.2/\b.2.1++cX L g b.1 b.2.2=cX L g N h/\∃ o,ε=[.fz<|bK L,.fz<|.str h,.fz<|.str g,.ow<|rw (nums b.2.1),.fz<|.str b.2.2,o]) (·.1) ⟨.nil h,rfl,_,rfl⟩ λJ' ε Vz=>?_;let#[n,ws,x]:=J';let#[A,e,o,he]:=Vz;subst he;let rd:=ne_str (ε:=[some<|bK L,some<|.str h,some<|.str g,some<|rw l8,some<|.str x,o.a]) (ra:=rV 4) (rb:=rV 2) rfl rfl;by_cases z:x=g
 ·rw[F5 λy=>y z]at rd;let e0:cX L g n x=[]:=by cases n with
   | zero=>rfl
   | succ n=>unfold cX;rw[if_pos z]
  rw[e0,Fq]at e;show .inl #[rd,1,by rw[e]]
 ·rw[EY z]at rd;let nn:cX L g n x≠[]:=λy=>z (by rw[y,Fq]at e;rw[<- e]at W;show a4F A W)
  cases n with
  | zero=>show absurd rfl nn
  | succ n=>
   cases ho:LG L x with
   | none=>show absurd (by unfold cX;rw[if_neg z,ho]) nn
   | some t=>
    rw[show cX L g (n+1) x=t::cX L g n t.2.2.1 by conv=>lhs;unfold cX;rw[if_neg z,ho]]at e;let e2:kN++cX L g n t.2.2.1=cX L g N h:=by rw[FI];show e
    let tl:=congrArg List.length e2;rw[Fb,Fb,Gg]at tl;let tx:=Fv<|Hk (p:=λt:Kl=>decide nS) ho;show .inr #[rd,(n,ws++[t],t.2.2.1),_,.nx #[#[3],#[ho]]<|.nx #[1,by unfold nums;simp;lia,.z Di] Di,#[.snoc (tx▸A)<|FY ho,e2,.fz<|bN t,?_],GJ _];simp[nums,List.map,EX]
def c3u (U:Ξ)(k:Int):qX (U.map λk=>Ų) tU=(U.filter λj=>not (decide (j=k))).map λk=>Ų:=by
 unfold qX;rw[List.filter_map];congr 1;show Jv λj _=>by
  simp_all
def b1F (U:Ξ)(k:Int):(RH U k).length<=U.length+1:=by
 unfold RH;split
 ·show Nat.le_succ_of_le nj
 ·simp
inductive Oy (c:Cm Str):Nat->Option (Int×Str)->Prop
 |done {n:Nat}:Oy c n none
 |step {n:Nat}{k:Int}{x:Str}{s:Option (Int×Str)}:c.find? (λq=>decide (q.1=x))=!(x,s)->Oy c n s->Oy c (n+1) !(k,x)
def ze {c:Cm Str}(h:c.find? (λq=>decide (q.1=x))=!(x,s)):cy b8M Xd=!iF s:=by rw[gH,funext λq=>Ik.mpr #[Sum.inr.inj,congrArg _],h];rfl
inductive c2k:Ä
 |mk {U:Ξ}{c:Cm Str}{g:Str}{n:Nat}{s:Option (Int×Str)}:c.find? (λq=>decide (q.1=g))=!(g,s)->Oy c n s->U.Nodup->U.length+n<=1000->c2k [bW U,fe c,.str g] (bW (gC c n U s))
def a86 [Bx:Bd](T:EI Bx.mg):Tk 1 "used_with" (top 74) b2E (Pr c2k):=by
 show KS ["told","step"] ?_ λ_ _ _ _ _ _ _ hr ND=>(qC (qo 3 ND<|a6Q rfl rfl T.Lo Ŗ)
 (qC (qs 4 ND<|Kh hr (Đ 1) (Đ 2))
 (qC (qW F9 b57
  (qC (qI (Va C3 yt<|Đ 3)
  (q1<|a0O (aw<|b3U XO yt #[4]))
  (q1<|qP (bU (aJ hr) (pv 3) (Kh hr (Đ 4) dI) Qv rfl) (λ_ _ _ h=>h)))
 (q1<|qs 4 ND (Kh hr (Đ 1)<|Kh hr (Đ 4) dI))))
 ug)))
 rintro _ _ @⟨U,cm,g,n,s,hg,ss,nd,hl⟩;let em:KR (fm []<|U.map λk=>Ų)=bW U:=by rw[ig (by rw[Gp];show sR<|by rwa [List.map_id'])];rfl
 let dk:=cDk.mk (ð:=U.map λk=>Ų);rw[em]at dk;show .nx #[#[#[2],dk]] (.nx #[2,.k (ze hg) kS] ?_);show fh (b:=(n,U,s)) (λb ε=>Oy cm b.1 b.2.2/\b.2.1.length+b.1<=1000/\gC cm b.1 b.2.1 b.2.2=gC cm n U s/\ε=[.fz<|bW U,.fz<|fe cm,.fz<|.str g,.ow<|bW b.2.1,.fz<|iF b.2.2]) (·.1) ⟨ss,hl,rfl,rfl⟩ λJ' ε Vz=>?_;let#[n',V,s']:=J';let#[ss,hl,e,he]:=Vz;subst he
 cases ss with
 | done=>
  let:gC cm n' V none=V:=by cases n' <;> rfl
  show .inl #[pV,1,by rw[<- e,this]]
 | @step n1 k x s1 h1 s2=>
  let e1:cB cm x=s1:=by unfold cB;rw[h1];rfl
  let e2:gC cm n1 (RH V k) s1=gC cm n U s:=by rw[<- e,<- e1];rfl
  let tl:=b1F V k;show .inr #[pV,(n1,RH V k,s1),_,.nx (ε1:=[.fz<|bW U,.fz<|fe cm,.fz<|.str g,.ow<|bW (RH V k),.fz<|iF !(k,x)]) ?_ #[#[1,Di,.k (ze h1) kS]],#[s2,#[],e2,1],GJ _];unfold RH;by_cases z:k∈V
  ·rw[if_pos z];let#[v,hv]:=Gy.mp (fO |>.trans (EY z));let:=Uk.mk (i:=3) (rk:=rO Sub yT<|rC Pu) (ε:=[.fz<|bW U,.fz<|fe cm,.fz<|.str g,.ow<|bW V,.fz<|iF !(k,x)]) rfl Di kI hv;rw[c3u]at this;show .t #[Di,1,.k rfl kI (by rw[fO,Ly,EY z];rfl)] this
  ·rw[if_neg z];let:=Xy.mk (i:=3) (rk:=rO Sub yT<|rC Pu) (re:=rC<|.bl true) (ε:=[.fz<|bW U,.fz<|fe cm,.fz<|.str g,.ow<|bW V,.fz<|iF (some (k,x))]) rfl (by rw[EO];lia) (.z rfl) ⟨rfl,rfl,.t rfl⟩ kI;rw[dR λy=>z<|by simpa using y]at this;rw[show bW (V++[k])=KR (V.map (λk=>Ų)++[b74]) from congrArg KR EX];show .f #[Di,1,.k rfl kI (by rw[fO,Ly,F5 z];rfl)] this
universe e
abbrev gI (nm:η)(ts:List Kl):D:=KR (nm.map λx=>(.inr x,bK wN))
theorem vh (U)(x)(s:Cm Str×η)(t:Kl):Cm Str×η:=match NN t x U with
 | some z=>if z∈keys s.1 then s else b09
 | none=>s
def b9A (U)(x):∀ (r:List Kl)(s:Cm Str×η),look U x r s=r.foldl (vh U x) s
 | [],_=>rfl
 | t::r,s=>by
  rw[GU,<- b9A U x r];unfold vh
  conv=>lhs;unfold look
  cases NN t x U with
  | none=>rfl
  | some z=>
   by_cases c:z∈keys s.1
   ·simp only[if_pos c]
   ·simp only[if_neg c]
inductive N5:Ä
 |n {d e:D}:N5 [.non,d,e] (fe [])
 |s {h:Str}{nm:η}{ts:List Kl}{U:Ξ}{N:Nat}:d8 ts nm->h∈nm->nm.Nodup->nm.length<=N->nm.length<=900->N5 [.str h,gI nm ts,bW U] (fe (eL ts C6 N !h))
def a30 [Bx:Bd](T:jO Bx.mg)(Nh:Kn 1 "step_over" b5m (Pr ME)):Tk 2 "reached_from" (top 73) b2F (Pr N5):=by
 show KS ["came","waiting","name","tie","nearby"] ?_ λ_ _ _ _ _ _ _ hr ND=>(qC (qI (dT b4l c2M (Đ 0) Q4)
  (qr Yf.p)
  q0)
 (qC (qo 3 ND<|dD1 (Đ 0) Q4)
 (qC (qo 4 ND<|bV Ŗ)
 (qC (qW F9 (dT jt cF (cw T.JX<|Đ 4) dI)
  (qC (a0N<|pS 5 ND (OS Bx.K Ff PySem.F.slot_list_pop PySem.F.type_list_pop b5u uo<|a9 b8 Jx))
 (q1 (Px F9 rfl (ar<|Kh hr (Đ 1) (Đ 5)) Eu (aD 6)
  (qC (qs 7 ND<|dF Nh hr.m rfl (da (Đ 6)<|da (Đ 5) ţ))
 (q1 (qI (PW.pt<|kF (dT eS nE (Đ 7) Q4) (c7<|Sn C3 (Đ 7) (Đ 3)))
  (qC (qP (bU C3 XO (Đ 7) (jL<|da (Kh hr (Đ 6) dI) (da (Đ 5) JC)) rfl) λ_ _ _ h=>h)
 (q1<|qA (aw<|OS Bx.K Ff Fn Fm aB (pv 4) (a9 (Đ 7) Jx)) (λ_ _ _ h=>h)))
  q0)))))))
 ug))))
 intro _ _ r
 cases r with
 | n=>show .rt (.t pV #[2])
 | @s h nm ts U N E hh nd hN hz=>
  show .nx Cp (.nx #[#[1,kS,2]] (.nx #[nK] ?_));show fh (β:=Nat×Cm Str×η) (b:=(N,Ad,[h])) (λb ε=>(∃ d,Bf ts C6 h b.2.1 d b.2.2/\nm.length<=b.1+d.length)/\ZK ts C6 b.1 b.2=eL ts C6 N !h/\∃ o5 o6 o7,ε=[.fz<|.str h,.fz<|gI nm ts,.fz<|bW U,.ow<|fe b.2.1,.ow<|aK b.2.2,o5,o6,o7]) (·.1) ⟨⟨[],Bf.start ..,by simpa using hN⟩,rfl,_,_,_,rfl⟩ λJ' ε Vz=>?_;let#[n,cm,wt]:=J';let#[#[d,B,hn],eN,An,he]:=Vz;dsimp only at B hn eN he;subst he;let bl:=B.len E hh;let rd:=gt_int (ε:=[some<|.str h,some<|gI nm ts,some<|bW U,some<|fe cm,some<|aK wt,o5.a,o6.a,o7.a]) (ra:=rF LD<|rA yT OH) (rb:=rC<|.int 0) rG rfl
  cases wt with
  | nil=>
   let:ZK ts C6 n (cm,[])=cm:=by cases n <;> rfl
   show .inl #[rd,1,by rw[<- eN,this]]
  | cons x wt=>
   rw[EY<|by simp]at rd;rw[FU]at bl;obtain⟨n,rfl⟩:∃ n',n=n'+1:=#[n - 1,by omega]
   let xn:x∈nm:=B.MR.names E hh x (by rw[B.ks];simp);let st:=B.step;let eN:ZK ts C6 n (look C6 x wN (cm,wt))=eL ts C6 N !h:=eN;rw[b9A]at st eN;show .inr #[rd,(n,(gx ts x).foldl (vh C6 x) (cm,wt)),t9 (ε1:=[.fz<|.str h,.fz<|gI nm ts,.fz<|bW U,.ow<|fe cm,.ow<|aK wt,.fz<|.str x,o6,o7]) ⟨rfl⟩ ?_];show a2s (u:=bN) (gx ts x) (λs ε=>(keys s.1).Nodup/\(∀ y∈keys s.1,y∈nm)/\s.2.length<=s.1.length/\∃ o6 o7,ε=[.fz<|.str h,.fz<|gI nm ts,.fz<|bW U,.ow<|fe s.1,.ow<|aK s.2,.fz<|.str x,o6,o7]) (vh (Ly U) x) (b:=(cm,wt)) ⟨B.MR.nd,B.MR.names E hh,?_,_,_,rfl⟩ ⟨⟨rfl,rfl,.k (dH (a01 (f:=λx=>x)<|by rwa [List.map_id'])<|Fc xn) kS⟩,.l .lst⟩ (λs t ε ht J'=>?_) λε' J'=>by let#[Cg,x8]:=J';show#[#[#[d++[x],st,by simp;omega],eN,Cg,he],GJ _]
   ·let:=congrArg List.length B.ks;unfold keys at this;simp at this;change wt.length<=cm.length;omega
   ·let#[zr,x8]:=J';subst he;let kl:=eK h1 h2;let kl:s.1.length<=nm.length:=by unfold keys at kl;rwa [EO]at kl
    let tm:=(Fj.mp ht).1;let so:=ME.mk (t:=t) (x:=x) (U:=U);show#[vD];unfold vh
    cases hs:NN t x C6 with
    | none=>
     rw[hs]at so;show#[_,.nx b75<|.f (.f pV) rfl,h1,h2,h3,.fz<|bN t,.fz .non,1]
    | some z=>
     rw[hs]at so;by_cases cz:z∈keys s.1
     ·simp only[if_pos cz];show#[_,.nx b75<|.f (.t pV #[2,.k rfl kS (by rw[eo,EY cz];rfl)]) rfl,h1,h2,h3,.fz<|bN t,.fz<|.str z,1]
     ·simp only[if_neg cz];let zn:z∈nm:=(yk hs).elim (λe=>e▸(E t tm).1) λe=>e▸(E t tm).2;show#[_,.nx b75<|.t (.t pV #[2,.k rfl kS (by rw[eo,F5 cz];rfl)]) (.nx #[1,by rw[EO];omega,.z #[#[Di,2],pb],1,kS] #[1,by rw[EO];omega,.z rfl]),?_,?_,?_,.fz<|bN t,.fz<|.str z,?_]
      ·rw[bd];show FG.mpr #[h1,by simp[keys],λa ha b hb=>by rw[Fo.mp hb];show λ(e:a=z)=>cz<|e▸ha]
      ·rw[bd];show λy hy=>(Fx.mp hy).elim (h2 y) λe=>by rw[Fo.mp e];show zn
      ·simpa using h3
      ·rw[dR λy=>cz (by rw[EZ]at y;let#[q,a,b]:=EW.mp y;show EW.mpr #[q,a,Sum.inr.inj b]),show fe (s.1++[(z,!(t.1,x))])=KR (s.1.map (λq=>a7m)++[(.inr z,iF<|some (t.1,x))]) from congrArg KR EX,show aK (s.2++[z])=.lst (s.2.map .str++[.str z]) from congrArg D.lst EX];rfl
structure b0c (ts:List Kl) (N:Nat):Prop where
 nd:WZ ts
 rk:∃ rk:Str->Nat,(∀ t∈ts,rk t.2.1<rk t.2.2.1)/\∀ z,rk z<N
 Kv:N<=1000
 many:ts.length<=1000
section
variable {c:Cl}
inductive c1h:Ä
 |mk {ts:List Kl}{U:Int->Bool}{h g:Str}{m N:Nat}:b0c ts N->Wy.Flow ts U h g m->m<=1000->c1h [bK (ts.filter λt=>U t.1),.str h,.str g,.int m] (tb (gB h g N m Ģ))
def b3e [Bx:Bd](T:jO Bx.mg)(OV:Kn 2 "one_way" b2D (Pr Oz)):Tk 3 "parted_ways" (top 78) b0i (Pr c1h):=by
 show KS ["told","left","way"] ?_ λ_ _ _ _ _ _ _ hr ND=>(qC b8O
 (qC (qs 5 ND<|Đ 0)
 (qC (qW F9 (dT fU cF (cw T.JX<|Đ 4)<|Đ 3)
  (qC (qs 6 ND<|dF OV hr.m rfl (da (Đ 5)<|da (Đ 1) ţ))
 (qC (Vb (n:=0) (b5 (i:=5) ND rfl rfl rfl (cS 1 [6] ["tie","way"]) xX
  ē
  a9p
  Ŧ) rfl)
 (q1<|qA GM (λ_ _ _ h=>h)))))
 (qr<|Đ 4))))
 rintro _ _ @⟨ts,U,h,g,m,N,PT,F0,hm⟩;let#[rk,Ym,hr2]:=PT.rk;show .nx AI iA;show fh (b:=(m,U,[])) (λb ε=>Wy.Flow ts b.2.1 h g b.1/\b.2.2.length+b.1=m/\b.2.2++gB h g N b.1 (ts.filter λt=>b.2.1 t.1)=gB h g N m Ģ/\∃ o,ε=[.fz<|bK (ts.filter λt=>U t.1),.fz<|.str h,.fz<|.str g,.fz<|.int m,.ow<|tb b.2.2,.fz<|bK (ts.filter λt=>b.2.1 t.1),o]) (·.1) #[F0,by simp,BS] λJ' ε Vz=>?_;let#[n,Ui,dn]:=J';let#[F2,hs,eP,o,he]:=Vz;subst he;let rd:=lt_int (ε:=[some<|bK (ts.filter λt=>U t.1),some<|.str h,some<|.str g,some<|.int m,some<|tb dn,some<|bK (ts.filter λt=>Ui t.1),o.a]) (ra:=rF LD<|rA yT OH) (rb:=rV 3) rG rfl
 cases n with
 | zero=>
  rw[F5<|by lia]at rd;show .inl #[rd,1,by rw[<- eP];change _=Fl.rt (tb dn);rw[show gB h g N 0 _=[] from rfl,Fq]]
 | succ n=>
  rw[EY<|by lia]at rd;let W:=b5x Ym F2 #[] hr2 N h [] (.nil h) #[];rw[Gp]at W;let up:=W.up λt ht=>Ym t (Fj.mp ht).1;let hgN:=hr2 g;let Kv:=PT.Kv;let hz:(cX (ts.filter λt=>Ui t.1) g N h).length<=1000:=#[]
  let F3:=F2.without PT.nd W<|LdS PT.nd (λt ht=>(Fj.mp<|W.sub t ht).1) up.2.2;rw[show ((n+1:Nat):Int) - 1=(n:Int) by lia]at F3;let ef:(ts.filter λt=>Ui t.1).filter (λt=>not (decide (t.1∈nums ž)))=ts.filter λt=>Wy.without Ui (nums<|cX (ts.filter λt=>Ui t.1) g N h) t.1:=by rw[List.filter_filter];show Jv λt _=>?_;unfold Wy.without;rw[Bool.and_comm]
  let eP:dn++nums ž::gB h g N n ((ts.filter λt=>Ui t.1).filter λt=>not (decide (t.1∈nums ž)))=gB h g N m Ģ:=eP;let c1:=Oz.mk W hz;generalize nums ž=ks at c1 F3 eP ef;rw[ef]at eP;show .inr #[rd,(n,Wy.without Ui ks,dn++[ks]),_,.nx X6<|.nx ⟨bv (λt=>not (decide (t.1∈ks))) yc (Fs nj PT.many) λt _=>b2h⟩ #[1,by rw[EO];lia,.z rfl],#[F3,by simp;lia,by rw[FI];show eP,.fz<|rw ks,?_],GJ _];dsimp only;rw[ef,show tb (dn++[ks])=.lst (dn.map rw++[rw ks]) from congrArg D.lst EX];rfl
def Oy.mono (h:Oy cm n s):∀ {m:Nat},n<=m->Oy cm m s:=by
 induction h with
 | done=>show λ_=>.done
 | step h1 _ ih=>show λ{m} hm=>by obtain⟨k,rfl⟩:∃ k,m=k+1:=#[m - 1,#[]];show .step h1 (ih<|by lia)
def a2Y (C:LQ ts U h cm):∀ post:Cm Str,(keys (cm++post)).Nodup->∀ y∈keys cm,∃ s,(cm++post).find? XL=!(y,s)/\Oy (cm++post) cm.length s:=by
 induction C with
 | one=>show λpost nd y hy=>by rw[Fo.mp hy];show#[none,(jY nd rfl (pre:=[])).1,.done]
 | @snoc cs x y t C hx ht hs hy ih=>
  intro post nd z hz;rw[FI]at nd ⊢;let ih:=ih _ nd;rw[bd]at hz;rw[Fb];rcases Fx.mp hz with hz|hz
  ·let#[s,nU]:=ih z hz;show#[s,h1,h2.mono<|Nat.le_add_right _ _]
  ·rw[Fo.mp hz];let#[s,nU]:=ih x hx;show#[!_,(jY nd rfl).1,.step h1 h2]
def b46 (c:Cm Str):∀ (n:Nat)(U:Ξ)(s:Option (Int×Str)),(gC c n U s).length<=U.length+n
 | 0,U,_=>F8 _
 | n+1,U,none=>Nat.le_add_right _ _
 | n+1,U,some s=>by
  let h1:=b46 c n (RH U s.1)<|cB c s.2;let h2:=b1F U s.1;unfold gC
  lia
structure QY (S:NS) (fo:Λ) (N:Nat):Prop where
 parts:b0c Ao N
 ends:d8 Ao S.names
 nn:S.names.Nodup
 hN:S.names.length<=N
 tl:S.Jy.length<=1000
 pl:S.names.length<=900
theorem iD:Sum Ξ Θ->D
 | .inl ks=>.tup [.str "cut",rw ks]
 | .inr OC=>.tup [.str "ways",tb OC]
theorem aV (ts:List Kl)(ho:Option Str)(g:Str)(N m:Nat):Sum Ξ Θ:=match ho with
 | none=>.inl []
 | some h=>match dE ts (!h) g N m [] with
  | .inl ks=>.inl ks
  | .inr U=>.inr (gB h g N m (ts.filter λt=>Ly U t.1))
inductive Mut:Ä
 |mk {nm:η}{ts:List Kl}:nm.Nodup->nm.length<=900->ts.length<=1000->d8 ts nm->(∀ t∈ts,t.2.1≠t.2.2.1)->Mut [aK nm,bK ts] (gI nm ts)
inductive Ms (c:Cl):Ä
 |mk {S:NS}{g:Str}{m N:Nat}{fo:Λ}:QY S fo N->g∈S.JO->1<=m->m<=1000->m * N+N<=1000->Ms c [aA c S,.str g,.int m,Qn fo] (iD (aV Ao Ħ g N m))
universe e
structure Z5 (mg:Ω):Prop where
 K8:mg "range"=none
section
variable {c:Cl}{f:Addr}{fd:È}
def b68 (ts:List Kl):AG ts []=[]:=by unfold AG r8 nums;rw[HE.mpr λt _=>by unfold xT;simp[keys]];rfl
def c0l [Bx:Bd](F:KD Bx.K "ways" "ways" (top 79) f fd)(T:jO Bx.mg)(TR:Bx.mg "range"=none)(Jw)(Kj)(Ll:KJ 1 c.Kq "names" Ý (Pr (y8 c)))
  (Lq:Kn 2 "standing_ties" b8N (Pr (kK c))) (LK:Kn 1 "ties_by_post" Eg (Pr Mut)) (LM:Kn 2 "reached_from" b2F (Pr N5))
  (Nd:Kn 1 "used_with" b2E (Pr c2k)) (LL:Kn 1 "ties_between" ["ties","came"] (Pr c01)) (Mf:Kn 3 "parted_ways" b0i (Pr c1h)):PH Ld 4 f fd â (Pr (Ms c)):=by
 let T:Z5 Bx.mg:=#[TR]
 show KD.dw F ["home","ties","touching","used","turn","came"] ?_ λ_ _ _ _ _ _ hr ND=>(qC (qI (Sn C3 (Đ 1)<|eI (Đ 0) Jw hr.m)
  wL
  q0)
 (qC (qs 4 ND<|eI (Đ 0) Kj hr.m)
 (qC (qs 5 ND<|dF Lq hr.m rfl b25)
 (qC (qs 6 ND<|dF LK hr.m rfl (da (eI (Đ 0) Ll hr.m)<|da (Đ 5) JC))
 (qC (qs 7 ND Yf.p)
 (qC (qL F9 rfl v3 nV (aD 8)
  (qC (qs 9 ND<|dF LM hr.m rfl (da (Đ 4)<|da (Đ 6) P3))
 (qC (qI (Sn C3 (Đ 1)<|Đ 9)
  (qr<|jL (da bO<|da (dF LL hr.m rfl<|da (Đ 5) (da (Đ 9) JC)) JC))
  q0)
 (q1<|qs 7 ND (dF Nd hr.m rfl<|da (Đ 7) (da (Đ 9)<|da (Đ 1) JC))))))
 (qr (jL (da bO (da (dF Mf hr.m rfl (da (Pd 0 rfl (cS 1 [7] ["tie","used"]) xX
  ē
  (λ_ _ _ _ _=>cD<|Va C3 Ť (Đ 1))
  Ŧ)<|da (Đ 4) (da (Đ 1)<|da (Đ 2) JC))) JC))))))))))
 rintro _ _ @⟨S,g,m,N,fo,O,hg,RV,hm,hz⟩;let pl:S.JD.length<=900:=by let:=O.pl;unfold NS.names at this;rwa [EO]at this
 let R8:=O.parts.many;let#[rk,Ym,hr2]:=O.parts.rk;let inl:=eY (n:=true) (i:=g) (ks:=S.JO);rw[EY hg]at inl;let En:=O.ends;let Pt:=O.parts;show#[1,.inl<|.nx (.f #[1,b2C,inl] rfl) (.nx b6K<|.nx ⟨⟨rfl,rfl,rfl⟩,⟨O.tl⟩⟩ (.nx ⟨⟨⟨rfl,rfl,by decide,⟨⟩⟩,rfl,rfl⟩,⟨O.nn,O.pl,R8,En,λt ht z=>by let:=Ym t ht;rw[z]at this;omega⟩⟩ iA))];generalize aI S.Jy fo=ts at R8 Ym En Pt;unfold aV
 cases hh:S.K5 with
 | none=>
  show b6D cV (u:=λ(j:Nat)=>.int (j:Int)) (λi ε=>i=0/\∃ o8 o9,ε=[.fz<|aA c S,.fz<|.str g,.fz<|.int m,.fz<|Qn fo,.fz .non,.fz<|bK ts,.fz<|gI S.names ts,.fz<|bW [],o8,o9]) ⟨rfl,_,_,rfl⟩ ⟨m,hm,⟨rfl,rfl⟩,(bo _).symm⟩ (λi x ε hx J'=>?_) λε J'=>by let#[h,_]:=J';rw[G9]at h;omega
  let#[hi,o8,o9,he]:=J';subst he;show#[_,1,.inl #[_,.nx #[#[4],.n]<|.rt (.t #[2,.k rfl kS rfl] a8G),?_]];rw[b68];rfl
 | some q=>
  let hq:q.1∈S.names:=Fc<|FY hh;show b6D (List.range m) (u:=λ(j:Nat)=>.int (j:Int)) (λi ε=>∃ Ui o8 o9,ε=[.fz<|aA c S,.fz<|.str g,.fz<|.int m,.fz<|Qn fo,.fz<|.str q.1,.fz<|bK ts,.fz<|gI S.names ts,.fz<|bW Ui,o8,o9]/\Ui.Nodup/\Ui.length<=i * N/\Wy.Flow ts (Ly Ui) q.1 g i/\dE ts (some q.1) g N m []=dE ts (some q.1) g N (m - i) Ui) ⟨[],_,_,rfl,Hx,FV _,Flow.none ts q.1 g,rfl⟩ ⟨m,hm,⟨rfl,rfl⟩,(bo _).symm⟩ (λi x ε hx J'=>?_) λε J'=>?_
  ·let#[c2f]:=J';subst he;let#[1,hi]:=fR hx;rw[show m - i=m - (i+1)+1 by omega,b85]at eW;let R:=b30 (ts:=ts) (U:=Ly Ui) En hq O.hN;let c1:=N5.s (U:=Ui) En hq O.nn O.hN O.pl;generalize eL ts (Ly Ui) N (!q.1)=cc at eW R c1;let ccl:cc.length<=N:=by let:=eK R.MR.nd<|R.MR.names En hq;let e:(keys cc).length=cc.length:=EO _;let:=O.hN;omega
   let i1:i * N+N<=m * N:=by rw[<- Im];show Nat.mul_le_mul_right _ hi
   show#[vD];by_cases Zv:g∈keys cc
   ·rw[if_pos Zv]at eW;let#[F',nd']:=b4n Pt.nd R.MR Fi Zv nd ccl;let#[s,nU]:=a2Y R.MR [] (by rw[Fq];show R.MR.nd) g Zv;rw[Fq]at h1 h2;let es:cB cc g=s:=by unfold cB;rw[h1];rfl
    let ul':=b46 cc N Ui s;rw[es]at F' nd' eW;show .inr #[_,.nx X6<|.nx (.f #[2,.k rfl kS (by rw[eo,EY Zv];rfl)] rfl) #[#[4],#[h1,h2.mono ccl,nd,by omega]],gC cc N Ui s,.fz<|.int i,.fz<|fe cc,1,nd',by rw[Im];omega,by rw[show ((i+1:Nat):Int)=(i:Int)+1 by omega];show F',eW]
   ·rw[if_neg Zv]at eW;show .inl #[_,.nx X6<|.rt (.t #[2,.k rfl kS (by rw[eo,F5 Zv];rfl)] a8G),by change Fl.rt a3j=_;rw[eW];rfl]
  ·let#[c2f]:=J';subst he;rw[G9,Nat.sub_self]at eW;rw[G9]at Fi;let eW:dE ts (!q.1) g N m []=.inr Ui:=eW;show#[#[#[1,#[#[bv (xs:=ts) (u:=bN) (h:=bN) (λt=>Ly Ui t.1) yc R8 λt _=>#[_,1,#[Di,1,.k rfl kI (by rw[fO];rfl)],λ_=>rfl],4],#[Pt,Fi,hm]],1],pb],?_];change Fl.rt a3j=_;rw[eW];rfl
universe e
universe K72
namespace Mk
open Mx
def tq (hP)(h:p ∣ a * b):p ∣ a\/p ∣ b:=by
 let h2:=((My.JL p).mp hP).1;by_cases c:p ∣ a
 ·show .inl c
 ·let h0:0<a % p:=by
   let:=Gi a (b:=p) #[];let n:=λz=>c (Gv z)
   lia
  let#[k,hk]:=My.Qw hP _ h0<|FX _ #[];let#[j,hj]:=h;show .inr #[My.bk p (a % p) * j - My.bk p (a % p) * (a / p) * b - k * b,?_];let e:=Ho a p;generalize My.bk p _=z at *
  generalize a % p=r at *
  generalize a / p=q at *
  grind
def a1U {q:α->Bool}:∀ {l:List α},l.Nodup->(∀ x∈l,∀ y∈l,q x=true->q y=true->x=y)->l.length<=(l.filter λx=>not (q x)).length+1
 | [],_,_=>by simp
 | a::l,nd,h=>by
  rw[FP]at nd
  cases c:q a with
  | false=>
   rw[GC,c];let:=a1U nd.2 λx hx y hy=>h x (by simp[hx]) y Su
   simp_all
  | true=>
   let:l.filter (λx=>not (q x))=l:=Jk.mpr λx hx=>by
    cases c2:q x with
    | false=>rfl
    | true=>show absurd (h a Ė x (by simp[hx]) c c2▸hx) nd.1
   rw[GC,c,this];simp
theorem Lp (p)(k:Int)(vs ss:Ξ):Bool:=(List.zipWith (λv s=>(k * v+s) % p) vs ss).any λx=>decide (x=0)
def a7O (hP):∀ (vs ss:Ξ)(X:À),X.Nodup->(∀ x∈X,(x:Int)<p)->vs.length<X.length->(∀ v∈vs,¬ p ∣ v)->∃ k∈X,Lp p k vs ss=false
 | [],_,x::X,_,_,_,_=>b3D
 | [],_,[],_,_,h,_=>by simp at h
 | _::_,[],x::X,_,_,_,_=>b3D
 | _::_,[],[],_,_,h,_=>by simp at h
 | v::vs,s::ss,X,nd,lt,h,nz=>by
  let one:X.length<=(X.filter λ(x:Nat)=>not (decide b4h)).length+1:=a1U nd λx hx y hy h1 h2=>by
   let h1:=Gv<|Fv h1;let h2:=Gv<|Fv h2;let h3:p ∣ ((x:Int) - y) * v:=by
    let:=HP h1 h2;let e:(x:Int) * v+s - (y * v+s)=(x - y) * v:=by rw[Int.sub_mul];lia
    rwa [e]at this
   rcases tq hP h3 with h3|h3
   ·let a1:=lt x hx;let a2:=lt y hy;let#[j,hj]:=h3;let hj0:j=0:=by
     rcases Int.lt_trichotomy j 0 with z|z|z
     ·let:p * j<=p * (-1):=HV #[] #[]
      lia
     ·show z
     ·let:p * 1<=p * j:=HV #[] #[]
      lia
    subst hj0
    lia
   ·show absurd h3 (nz v<|by simp)
  let#[k,hk,hb]:=a7O hP vs ss (X.filter λ(x:Nat)=>not (decide b4h)) (nd.sublist Iu) (λx hx=>lt x (Fj.mp hx).1) (by simp only[FU]at h;lia) λu hu=>nz u (by simp[hu]);let#[hk1,hk2]:=Fj.mp hk;show#[k,hk1,?_];unfold Lp at hb ⊢;rw[List.zipWith_cons_cons,J1,hb];simpa using hk2
theorem ub (p)(vs ss:Ξ):Nat:=((List.range p.toNat).find? λ(k:Nat)=>not (Lp p k vs ss)).getD 0
def Ub (hP)(hl:(vs.length:Int)<p)(nz:∀ v∈vs,¬ p ∣ v):Lp p (ub p vs ss) vs ss=false/\(∀ j:Nat,j<ub p vs ss->Lp p j vs ss=true)/\((ub p vs ss:Nat):Int)<p:=by
 let#[k,hk,hb]:=a7O hP vs ss (List.range p.toNat) List.nodup_range (λx hx=>by grind) ħ nz
 cases hf:(List.range p.toNat).find? λ(k:Nat)=>not (Lp p k vs ss) with
 | none=>
  simp_all
 | some u=>
  let e:ub p vs ss=u:=by unfold ub;rw[hf];rfl
  simp_all
theorem lP (a b:Int)(x q:Ξ):Ξ:=List.zipWith (λu v=>a * u - b * v) x q
def jJ (a b:Int):∀ (x q y:Ξ),x.length=q.length->dot ly y=a * dot x y - b * dot q y
 | [],[],y,_=>by simp[lP,dot]
 | [],_::_,y,h=>by simp at h
 | _::_,[],y,h=>by simp at h
 | u::x,v::q,[],_=>by simp[lP,dot]
 | u::x,v::q,w::y,h=>by
  let ih:=jJ a b x q y SC;change FM * w+dot ly y=a * (u * w+dot x y) - b * (v * w+dot q y)
  rw[ih]
  grind
def b5J (h:x.length=q.length):(lP a b x q).length=x.length:=by
 unfold lP
 simp_all
structure Ok (p:Int) (m:Nat) (P:Θ) (F:Nat->Ξ):Prop where
 len:P.length=m
 Ob:∀ r∈P,r.length=m/\Lk p r
 fw:∀ j,j<m->(F j).length=m
 off:∀ i j,i<m->j<m->i≠j->p ∣ dot ŗ (F j)
 own:∀ i,i<m->¬ p ∣ dot ŗ (F i)
 sep:∀ x:Ξ,x.length=m->(∀ j,j<m->p ∣ dot x (F j))->∀ y:Ξ,y.length=m->p ∣ dot x y
def Ok.start {p:Int}(hp:1<p)(m):Ok p m (ones m) (Jz m) where
 len:=by simp[ones]
 Ob:=λr hr=>by let#[i,_,1]:=EW.mp hr;show#[JQ _ _,eU hp _ _]
 fw:=λj _=>JQ _ _
 off:=λi j hi hj h=>by
  let e1:(ones m).getD i []=Jz m i:=by simp[ones,hi]
  grind [KA,JQ,b9g,Int.dvd_zero]
 own:=λi hi=>by
  let e1:(ones m).getD i []=Jz m i:=by simp[ones,hi]
  rw[e1,KA _ _ _<|JQ _ _];let:=b9g m i i;unfold e at this;intro h;let:=J2 #[] h
  lia
 sep:=λx hx h y hy=>by
  rw[a8S _ _<|by lia];let:∀ n,n<=x.length->p ∣ eJ (λj=>e x j * e y j) n:=by
   intro n
   induction n with
   | zero=>intro _;show Int.dvd_zero _
   | succ n ih=>
    intro hn;let h1:=h n #[];rw[KC,KA _ _ _ hx]at h1;show HF (ih<|by lia) (ID h1)
  show this _ XS
theorem MC (p)(P:Θ)(w:Nat)(t:Ξ)(i):Ξ:=
 if i=w\/JN p ŗ t=0 then P.getD i [] else List.zipWith (λa b=>(JN p Ř t * a - JN p ŗ t * b) % p) ŗ Ř
theorem moved (p)(P:Θ)(w:Nat)(t:Ξ):Θ:=(List.range P.length).map (MC p P w t)
def a2j (p a b:Int):∀ (x q y:Ξ),p ∣ dot (List.zipWith (λu v=>FM % p) x q) y - dot ly y
 | [],_,y=>by simp[lP,dot]
 | _::_,[],y=>by simp[lP,dot]
 | u::x,v::q,[]=>by simp[lP,dot]
 | u::x,v::q,w::y=>by
  let#[k,hk]:=a2j p a b x q y;show#[k - FM / p * w,?_];change FM % p * w+dot _ y - (FM * w+dot ly y)=_;let e:=Ho FM p;generalize FM % p=r at *
  generalize FM / p=d at *
  rw[<- e]
  grind
def Ok.at (h:Ok p m P F)(hi:i<m):(P.getD i []).length=m/\Lk p ŗ:=h.Ob _ (getD_mem (by rw[h.len];show hi))
def b9K (hP)(h:Ok p m P F)(hw)(ht:¬ p ∣ dot Ř t)(hi:i<m):
  ∃ a b:Int,¬ p ∣ a/\(i=w->b=0)/\(∀ y,p ∣ dot (MC p P w t i) y - (a * dot ŗ y - b * dot Ř y))/\(i≠w->p ∣ a * dot ŗ t - b * dot Ř t):=by
 let h2:=((My.JL p).mp hP).1;let n1:¬ p ∣ (1):=λz=>by let:=J2 #[] z;lia
 unfold MC;by_cases c:i=w\/JN p ŗ t=0
 ·rw[if_pos c];show#[(1),(0),n1,λ_=>rfl,λy=>by simp,λz=>?_];rcases c with c|c
  ·show absurd c z
  ·rw[K3]at c;simpa using Gv c
 ·rw[if_neg c];show#[JN p Ř t,JN p ŗ t,λz=>?_,λz=>absurd (.inl z) c,λy=>?_,λ_=>?_]
  ·rw[K3]at z;let:=HF z<|Int.dvd_mul_right p (dot Ř t / p);rw[Ho]at this;show ht this
  ·let:=a2j p (JN p Ř t) (JN p ŗ t) ŗ Ř y;rwa [jJ _ _ _ _ _<|by rw[(h.at hi).1,(h.at hw).1]]at this
  ·rw[K3,K3];generalize dot _ t=u;generalize dot _ t=v;let e1:=Ho u p;let e2:=Ho v p;show#[u % p * (v / p) - v % p * (u / p),?_];generalize u % p=a at *
   generalize v % p=b at *
   generalize u / p=c at *
   generalize v / p=d at *
   grind
def b1l (hi:i<P.length):(moved p P w t).getD i []=MC p P w t i:=by simp[moved,hi]
def Ok.move {p:Int}{m:Nat}{P:Θ}{F:Nat->Ξ} (hP) (h:Ok p m P F) {w:Nat} (hw) {t:Ξ} (hl:t.length=m) (ht:¬ p ∣ dot Ř t):
  Ok p m (moved p P w t) (λj=>if j=w then t else F j) where
 len:=by simp[moved,h.len]
 Ob:=λr hr=>by
  let h2:=((My.JL p).mp hP).1;let#[Vu]:=EW.mp hr;let hi:i<m:=by rw[<- h.len];show FW.mp hi
  unfold MC;by_cases c:i=w\/JN p ŗ t=0
  ·rw[if_pos c];show h.at hi
  ·rw[if_neg c];show#[by rw[List.length_zipWith,(h.at hi).1,(h.at hw).1,Nat.min_self],λx hx=>?_];let#[k,hk,1]:=FR.mp hx;rw[Ja];show#[Gi _<|by lia,FX _<|by lia]
 fw:=λj hj=>by
  by_cases c:j=w
  ·rw[if_pos c,hl]
  ·rw[if_neg c,h.fw j hj]
 off:=λi j hi hj n=>by
  rw[b1l (by rw[h.len];show hi)];let#[a,b,na,hb,hd,hz]:=b9K hP h hw ht hi;by_cases c:j=w
  ·rw[if_pos c];let h1:=hd t;let h2:=hz λz=>n<|z.trans c.symm;let:=HF h1 h2;simpa using this
  ·rw[if_neg c];let h1:=hd<|F j;let h2:=Gn (b:=a)<|h.off i j hi hj n;let h3:=Gn (b:=b)<|h.off w j hw hj iK;let:=HF h1<|HP h2 h3;simpa using this
 own:=λi hi=>by
  rw[b1l (by rw[h.len];show hi)];let#[a,b,na,hb,hd,hz]:=b9K hP h hw ht hi;intro z;by_cases c:i=w
  ·rw[if_pos c]at z;let h1:=hd t;rw[hb c,Int.zero_mul,Int.sub_zero]at h1;let h2:=HP z h1;rw[Int.sub_sub_self]at h2;rcases tq hP h2 with q|q
   ·show na q
   ·rw[c]at q;show ht q
  ·rw[if_neg c]at z;let h1:=hd<|F i;let h3:=Gn (b:=b)<|h.off w i hw hi iK;let h2:=HF (HP z h1) h3;rw[Int.sub_sub_self,Int.sub_add_cancel]at h2;rcases tq hP h2 with q|q
   ·show na q
   ·show h.own i hi q
 sep:=λx hx hk y hy=>by
  let lw:=(h.at hw).1;let h1:=h.sep (lP (dot Ř<|F w) (dot x<|F w) x<|P.getD w []) (by rw[b5J<|by lia,hx]) λj hj=>by
   rw[jJ _ _ _ _ _<|by lia];by_cases c:j=w
   ·subst c;rw[Jo,Int.sub_self];show Int.dvd_zero _
   ·let h2:=hk j hj;rw[if_neg c]at h2;show HP (Gn h2) (Gn<|h.off w j hw hj iK)
  let h2:=h1 t hl;rw[jJ _ _ _ _ _<|by lia]at h2;let h3:=hk w hw;rw[if_pos rfl]at h3;let h4:p ∣ dot x (F w) * dot Ř t:=by let:=HP (Gn (b:=dot Ř<|F w) h3) h2;rwa [Int.sub_sub_self]at this
  show h.sep x hx (λj hj=>?_) y hy;by_cases c:j=w
  ·rw[c];rcases tq hP h4 with q|q
   ·show q
   ·show absurd q ht
  ·let:=hk j hj;rwa [if_neg c]at this
abbrev Ask:=Nat×Nat×Int
theorem Uy (p)(mixed:Ξ)(A)(s:Ask->Int->Int)(T:List Int×Ξ)(h o:Int):List Int×Ξ:=
 (List.zipWith (λk a=>Ty % p) mixed T.1,List.zipWith b4K T.2 (A.map λb=>s b h))
theorem Om (p)(mixed:Ξ)(A)(s:Ask->Int->Int)(T:List Int×Ξ)(n):List Int×Ξ:=
 if T.2.getD n 0≠0 then T else Uy p mixed A s T (A.getD n (0,0,0)).2.2 (ub p (T.2.take n) (A.map λb=>s b (A.getD n (0,0,0)).2.2))
theorem OI (p)(mixed:Ξ)(A)(s:Ask->Int->Int):Nat->List Int×Ξ
 | 0=>(List.replicate mixed.length 0,List.replicate A.length 0)
 | n+1=>Om p mixed A s CI n
abbrev RS (p:Int)(mixed:Ξ)(A:List Ask)(s:Ask->Int->Int):Ξ:=(OI p mixed A s A.length).1
structure QR (p:Int) (mixed:Ξ) (A:List Ask) (s:Ask->Int->Int):Prop where
 prime:My.LV p=true
 Kv:(A.length:Int)<=p
 nd:mixed.Nodup
 ahead:∀ a∈A,a.2.2∈mixed
 own:∀ a∈A,¬ p ∣ s a a.2.2
structure b4d (p:Int) (mixed:Ξ) (A:List Ask) (s:Ask->Int->Int) (n:Nat) (T:List Int×Ξ):Prop where
 l1:T.1.length=mixed.length
 l2:T.2.length=A.length
 f1:Lk p T.1
 f2:Lk p T.2
 val:∀ (i:Nat) a,A[i]?=!a->p ∣ T.2.getD i 0 - dot T.1 b76
 nz:∀ i,i<n->T.2.getD i 0≠0
def b9m (hp:0<p)(f:α->β->Int)(x:List α)(y:List β):Lk p (List.zipWith (λa b=>f a b % p) x y):=λz hz=>by let#[k,hk,1]:=FR.mp hz;rw[Ja];show#[Gi _<|by lia,FX _ hp]
def a7h {p a:Int}:p ∣ a % p - a:=#[-(a / p),by let:=Ho a p;rw[Int.mul_neg];lia]
def a2H (p o h:Int)(f:Int->Int):∀ (mixed told:Ξ),told.length=mixed.length->mixed.Nodup->p ∣ dot (List.zipWith (λk a=>Ty % p) mixed told) kq - (o * dot told kq+if h∈mixed then f h else 0):=by
 intro mixed
 induction mixed with
 | nil=>
  intro told e _
  cases told with
  | nil=>simp[dot]
  | cons _ _=>simp at e
 | cons k mixed ih=>
  intro told e nd
  cases told with
  | nil=>simp at e
  | cons a told=>
   rw[FP]at nd;let#[j,hj]:=ih told qq nd.2;let#[i,hi]:=@a7h p Ty;show#[j+i * f k,?_];change Ty % p * f k+dot _ kq - (o * (a * f k+dot told kq)+if h∈k::mixed then f h else 0)=_;let e1:(if h∈k::mixed then f h else 0)=(if k=h then 1 else 0) * f k+if h∈mixed then f h else 0:=by
    by_cases c:k=h
    ·simp_all
    ·simp[c,Ne.symm c]
   grind
def Ot (hp:0<p)(h:Lk p r)(i):0<=r.getD i 0/\r.getD i 0<p:=Lk.at hp h i
def RQ (h:QR p mixed A s):∀ n,n<=A.length->b4d p mixed A s n CI
 | 0,_=>by
  let h2:=((My.JL p).mp h.prime).1;show#[by simp[OI],by simp[OI],λx hx=>?_,λx hx=>?_,λi a ha=>?_,λi hi=>absurd hi<|Jh _]
  ·let:=Hw hx;lia
  ·let:=Hw hx;lia
  ·let z:∀ (n:Nat)(y:Ξ),dot D8 y=0:=λn=>by
    induction n with
    | zero=>intro y;rfl
    | succ n ih=>
     intro y
     cases y with
     | nil=>rfl
     | cons b y=>change 0 * b+dot D8 y=0;rw[ih];lia
   change p ∣ (List.replicate A.length (0:Int)).getD i 0 - dot (List.replicate mixed.length 0) _;rw[z,EU,HU (ES.mp ha).1];simp
 | n+1,hn=>by
  let h2:=((My.JL p).mp h.prime).1;let p0:0<p:=#[]
  let I:=RQ h n #[];change b4d p mixed A s (n+1) (Om p mixed A s CI n);generalize OI p mixed A s n=T at I;unfold Om;by_cases c:T.2.getD n 0≠0
  ·rw[if_pos c];show { I with nz:=λi hi=>?_ };by_cases e:i=n
   ·rw[e];show c
   ·show I.nz i #[]
  ·rw[if_neg c];let c:T.2.getD n 0=0:=Classical.not_not.mp c;let ea:A[n]?=some A[n]:=ER #[];let eg:A.getD n (0,0,0)=A[n]:=by rw[EU,ea];rfl
   let am:A[n]∈A:=FZ _;rw[eg];generalize ha:A[n]=a at *
   let sl:(A.map λb=>s b a.2.2).length=A.length:=by simp
   let#[u1,_,_]:=Ub h.prime (vs:=T.2.take n) (ss:=A.map λb=>s b a.2.2) (by rw[Fd];let:=h.Kv;lia) λv hv=>by
    let#[Vu]:=FR.mp hv;rw[List.getElem_take];rw[Fd]at hi;let:=I.nz i #[];let f:=Ot p0 I.f2 i;rw[EU,ER<|by lia]at this f;intro z;let:=J2 (by let h1:T.2[i]≠0:=this;let h3:0<=T.2[i]/\T.2[i]<p:=f;lia) z;let h3:0<=T.2[i]/\T.2[i]<p:=f
    lia
   generalize (ub p (T.2.take n) (A.map λb=>s b a.2.2):Int)=o at *
   let vat:∀ i b,A[i]?=!b->(List.zipWith b4K T.2<|A.map λb=>s b a.2.2).getD i 0=Y' % p:=λi b hb=>by let hi:=(ES.mp hb).1;rw[EU,Ib,F7,hb,EU,ER (by rw[I.l2];show hi)];rfl
   unfold Uy;show#[by simp[I.l1],by simp[I.l2],b9m p0 _ _ _,b9m p0 _ _ _,λi b hb=>?_,λi hi=>?_] <;> dsimp only
   ·rw[vat i b hb];let#[x,hx]:=I.val i b hb;let#[y,hy]:=a2H p o a.2.2 (s b) mixed T.1 I.l1 h.nd;rw[if_pos<|h.ahead a am]at hy;let#[z,hz]:=@a7h p Y';show#[z+o * x - y,?_];generalize Y' % p=q at *
    generalize dot (List.zipWith _ mixed T.1) b8P=w at *
    generalize dot T.1 b8P=d at *
    let e1:T.2.getD i 0=d+p * x:=#[]
    rw[e1]at hz;let e2:q=o * (d+p * x)+s b a.2.2+p * z:=#[]
    let e3:w=o * d+s b a.2.2+p * y:=#[]
    rw[e2,e3]
    grind
   ·by_cases e:i=n
    ·subst e;rw[vat i a<|by rw[ea],c];intro z;let:=Gv z;rw[Int.mul_zero,Jn]at this;show h.own a am this
    ·let QJ:i<A.length:=#[]
     rw[vat i A[i]<|ER QJ];intro z;let:Lp p o (T.2.take n) (A.map λb=>s b a.2.2)=true:=by unfold Lp;rw[List.any_eq_true];show#[(0),List.mem_iff_getElem?.mpr #[i,?_],by simp];rw[Ib,Gz<|by lia,F7,ER QJ,ER (by rw[I.l2];show QJ)];rw[EU,ER (by rw[I.l2];show QJ)]at z;show congrArg some z
     rw[this]at u1
     cases u1
def Sx (h:QR p mixed A s):(RS p mixed A s).length=mixed.length/\Lk p b8Q/\∀ a∈A,¬ p ∣ dot b8Q b76:=by
 let h2:=((My.JL p).mp h.prime).1;let I:=RQ h A.length<|F8 _;show⟨I.l1,I.f1,λa ha z=>?_⟩;let#[i,hi,e]:=FR.mp ha;let h1:=HF (I.val i a<|by simp_all) z;let f:=Ot #[] I.f2 i;let:=I.nz i hi;let:=J2 #[] h1
 lia
abbrev KL:=Int×Λ
abbrev K7:=Nat×Θ
theorem st (w:Nat):Int:=-1 - (w:Int)
theorem Ny (e w:Nat)(way):List (Int×Ask):=(way.zip (st w::way)).map λq=>(q.1,e,w,q.2)
theorem LZ (e:Nat)(ways:Θ):List (Int×Ask):=ways.zipIdx.flatMap λx=>Ny e x.2 x.1
theorem LJ (ê):List (Int×Ask):=ê.zipIdx.flatMap λx=>LZ x.2 x.1.2
theorem pick (L:List (Int×Ask))(k:Int):List Ask:=(L.filter λx=>decide X').map (·.2)
abbrev K' (ê:List K7)(k:Int):List Ask:=pick (LJ ê) k
def fu:∀ (way:Ξ)(s:Int),(k,a)∈way.zip (s::way) ↔ ∃ l r,way=l++k::r/\a=l.getLast?.getD s:=by
 intro r'
 induction r' with
 | nil=>
  intro s;simp
 | cons b way ih'=>
  intro s;rw[Jq,Fw,ih' b];constructor
  ·rintro (h|⟨l,r,rfl,rfl⟩)
   ·cases h;show#[[],way,2]
   ·show#[b::l,r,1,by rw[List.getLast?_cons];rfl]
  ·rintro⟨l,r,e,rfl⟩
   cases l with
   | nil=>simp_all
   | cons c l=>
    grind
def Pz {e:Nat}:(k,a)∈Ny e w way ↔ ∃ l r,way=l++k::r/\a=(e,w,l.getLast?.getD gp):=by
 unfold Ny;rw[EW];constructor
 ·rintro⟨⟨k',h⟩,hm,z⟩
  cases z;let#[l,r,nU]:=(fu way _).mp hm;show#[l,r,h1,by rw[h2]]
 ·rintro⟨l,r,h1,rfl⟩;show#[(k,_),(fu way _).mpr #[l,r,h1,1],1]
def MZ:(k,a)∈LJ ê ↔ ∃ JP way,ê[a.1]?=!JP/\JP.2[a.2.1]?=!way/\∃ l r,way=l++k::r/\a.2.2=l.getLast?.getD b77:=by
 unfold LJ LZ;rw[Hr];constructor
 ·rintro⟨⟨JP,e⟩,he,h⟩;let#[#[way,w],hw,h]:=Hr.mp h;let#[l,r,nU]:=Pz.mp h;let he:=Gw.mp he;let hw:=Gw.mp hw;subst h2;show#[JP,way,he,hw,l,r,h1,1]
 ·rintro⟨JP,way,he,hw,l,r,h1,h2⟩;show#[(JP,a.1),Gw.mpr he,Hr.mpr #[(way,a.2.1),Gw.mpr hw,Pz.mpr #[l,r,h1,?_]]]
  grind
def MY:a∈pick L k ↔ (k,a)∈L:=by
 unfold pick
 simp_all
def Qh (e w:Nat)(way):(Ny e w way).map (·.1)=way:=by unfold Ny;rw[EZ];change (way.zip _).map (·.1)=way;rw[List.map_fst_zip<|by simp]
def Qu (e:Nat)(ways:Θ):(LZ e ways).map (·.1)=ways.flatten:=by unfold LZ;rw[List.map_flatMap];let:(λx:List Int×Nat=>(Ny e x.2 x.1).map _)=λx=>x.1:=funext λx=>Qh _ _ _;rw[this,List.flatMap_def,List.zipIdx_map_fst]
def Pl (h:∀ JP∈ê,JP.2.flatten.Nodup)(k:Int):((K' ê k).map (·.1)).Nodup:=by
 let pw:(LJ ê).Pairwise λx y=>x.1=y.1->x.2.1≠y.2.1:=by
  unfold LJ;rw[List.pairwise_flatMap];show#[λx hx=>?_,?_]
  ·let h1:=h x.1<|ET (Gw.mp hx);rw[<- Qu x.2]at h1;show (HL.mp h1).imp λn z=>absurd z n
  ·let key:∀ (x:K7×Nat)(a:Int×Ask),a∈LZ x.2 x.1.2->a.2.1=x.2:=λx a ha=>by let#[q,_,h2]:=Hr.mp ha;let#[Cg,e]:=Pz.mp h2;rw[e]
   let hn:(ê.zipIdx.map (·.2)).Nodup:=by rw[List.zipIdx_map_snd];show List.nodup_range'
   show (HL.mp hn).imp λ{x y} n a ha b hb _ z=>n ?_;rw[<- key x a ha,<- key y b hb,z]
 unfold K' pick;rw[EZ,List.Nodup,HL,List.pairwise_filter];show pw.imp λ{x y} n hx hy=>n ?_
 grind
def b11:∀ (n:Nat)(X:À),X.Nodup->(∀ x∈X,x<n)->X.length<=n:=by
 intro r'
 induction r' with
 | zero=>
  intro X _ h
  cases X with
  | nil=>simp
  | cons x X=>show absurd (h x<|by simp) (Jh _)
 | succ n ih'=>
  intro X nd h;let h1:=a1U (q:=λx=>decide (x=n)) nd λx _ y _ a b=>by
   grind
  let h2:=ih' (X.filter λx=>not (decide (x=n))) (nd.sublist Iu) λx hx=>by
   grind
  lia
def Ru (h:∀ JP∈ê,JP.2.flatten.Nodup)(k:Int):(K' ê k).length<=ê.length:=by
 let:=b11 ê.length _ (Pl h k) λx hx=>by let#[a,ha,1]:=EW.mp hx;let#[JP,_,h1,_]:=MZ.mp<|MY.mp ha;show (ES.mp h1).1
 simp_all
theorem fr (D:Ξ)(s:Int)(way):Int:=((way.filter λk=>decide (k∈D)).getLast?).getD s
def jH (nd:(D++k::rest).Nodup)(hs:way.Sublist (D++k::rest))(s:Int):
  (¬ k∈way/\fr (D++[k]) s way=fr D s way)\/∃ l r,way=l++k::r/\fr D s way=l.getLast?.getD s/\fr (D++[k]) s way=k:=by
 let#[l,l2,1,nU]:=List.sublist_append_iff.mp hs;let#[nD,nk,dis]:=FG.mp nd;rw[FP]at nk;let fl:∀ z:Ξ,l.filter (λx=>decide (x∈D++z))=l:=λz=>Jk.mpr λx hx=>by simp[h1.subset hx]
 let kl:=λz=>dis k (h1.subset z) k Ė rfl;let fD:∀ r:Ξ,r.Sublist rest->r.filter (λx=>decide _)=[]:=λr hr=>HE.mpr λx hx z=>dis x (by simpa using z) x b4i rfl;let fk:∀ r:Ξ,r.Sublist rest->r.filter (λx=>decide (x∈D++[k]))=[]:=λr hr=>HE.mpr λx hx z=>by
  rcases Fx.mp (Fv z) with z|z
  ·show dis x z x b4i rfl
  ·show nk.1 (Fo.mp z▸hr.subset hx)
 let fl0:=fl [];rw[Fq]at fl0;unfold fr;rcases List.sublist_cons_iff.mp h2 with h2|⟨r,rfl,h3⟩
 ·show .inl #[λz=>?_,?_]
  ·rcases Fx.mp z with z|z
   ·show kl z
   ·show nk.1 (h2.subset z)
  ·rw[Hs,Hs,fl,fl0,fD _ h2,fk _ h2]
 ·show .inr #[l,r,1,D2]
  ·let:=λz=>dis k z k Ė rfl;rw[Hs,fl0,GC,fD _ h3,F5 this];simp
  ·rw[Hs,fl,GC,fk _ h3,EY<|show k∈D++[k] by simp];simp
def Ea {p:Int}(h:p ∣ a % p):p ∣ a:=by let:=HF h<|Int.dvd_mul_right p (a / p);rwa [Ho]at this
abbrev NY:=List (Int×Ξ)
abbrev _root_.Δ:=List Θ
structure Qe where
 R:List NY
 P:Δ
theorem lk (R:NY)(k:Int):Ξ:=((R.find? λr=>decide (r.1=k)).map (·.2)).getD []
theorem starts (m):Ξ:=(List.range m).map st
theorem K9 (m):Option Ξ->Ξ
 | none=>starts m
 | some ks=>ks
theorem rowsOf (ê)(T:Qe)(e:Nat):NY:=T.R.getD (ê.getD e (0,[])).1 []
theorem shown (p)(ê)(T:Qe)(a:Ask)(k:Int):Int:=JN p ((T.P.getD a.1 []).getD a.2.1 []) B4
theorem newRow (p)(m)(cs:Ξ)(R:NY)(x:KL)(told:Ξ):Ξ:=if x.1∈cs then List.replicate m 0 else Ky p (cols ((K9 m x.2).map (lk R)) m) told
theorem JK (p)(m)(ç)(R:List NY)(x:KL)(told:Ξ):List NY:=List.zipWith (λcs r=>r++[(x.1,newRow p m cs r x told)]) ç R
theorem M9 (p)(ê)(k:Int)(T:Qe)(a:Ask):Qe:={ T with P:=T.P.set a.1 (moved p b78 a.2.1 B4) }
theorem JI (p)(m)(ê)(T:Qe)(x:KL):Ξ:=RS p (K9 m x.2) b6M (shown p ê T)
theorem Pq (p)(m)(ç)(ê)(T:Qe)(x:KL):Qe:=(K' ê x.1).foldl (M9 p ê x.1) { T with R:=JK p m ç T.R x FS }
theorem start (m)(ç)(ê):Qe:=⟨ç.map λ_=>(List.range m).map λw=>yW,ê.map λ_=>ones m⟩
theorem stN (p)(m)(ç)(ê)(ord:List KL):Nat->Qe
 | 0=>start m ç ê
 | n+1=>Pq p m ç ê ua Ey
structure Nb (p:Int) (m:Nat) (ç:Θ) (ê:List K7) (ord:List KL):Prop where
 prime:My.LV p=true
 nd:(ord.map (·.1)).Nodup
 pos:∀ x∈ord,0<=x.1
 mix:∀ x∈ord,∀ ks,x.2=!ks->ks.Nodup
 ahd:∀ (i:Nat) x ks,ord[i]?=!x->x.2=!ks->∀ k∈ks,k∈(ord.take i).map (·.1)
 ech:∀ JP∈ê,JP.1<ç.length
 ways:∀ JP∈ê,JP.2.length=m
 Vi:∀ JP∈ê,∀ way∈JP.2,way.Sublist b8R
 link:∀ JP∈ê,∀ way∈JP.2,∀ l k r,way=l++k::r->∀ mx,(k,mx)∈ord->∀ w,w<m->l.getLast?.getD gp∈K9 m mx
 Xb:∀ JP∈ê,JP.2.flatten.Nodup
 free:∀ JP∈ê,∀ way∈JP.2,∀ k∈way,¬ k∈ç.getD JP.1 []
 Kv:(ê.length:Int)<=p
structure wu (p:Int) (m:Nat) (ç:Θ) (ê:List K7) (ord:List KL) (n:Nat) (T:Qe):Prop where
 rl:T.R.length=ç.length
 pl:T.P.length=ê.length
 keys:∀ R∈T.R,R.map (·.1)=starts m++(ord.take n).map (·.1)
 rows:∀ R∈T.R,∀ r∈R,r.2.length=m/\Lk p r.2
 ok:∀ e JP,ê[e]?=!JP->Ok p m uy λw=>lk b7w (fr FB gp (JP.2.getD w []))
def b0h (h:k∈R.map (·.1))(z:NY):lk (R++z) k=lk R k:=by
 let#[r,hr,1]:=EW.mp h;unfold lk;rw[IP]
 cases hf:R.find? λx=>decide (x.1=r.1) with
 | none=>show absurd (EY rfl) (Hb.mp hf r hr)
 | some x=>rfl
def QF (h:¬ k∈R.map (·.1))(v:Ξ):lk (R++[(k,v)]) k=v:=by unfold lk;rw[IP,Hb.mpr λx hx z=>h<|by simpa using #[x.2,(Fv z)▸hx]];simp
def Sy (h:k∈R.map (·.1)):(k,lk R k)∈R:=by
 let#[r,hr,1]:=EW.mp h;unfold lk
 cases hf:R.find? λx=>decide (x.1=r.1) with
 | none=>show absurd (EY rfl) (Hb.mp hf r hr)
 | some x=>
  let h2:x.1=r.1:=by simpa using Hk hf
  rw[<- h2];show FY hf
def Mo {e:Nat}(h:ê[e]?=!JP):rowsOf ê T e=T.R.getD JP.1 []:=by
 unfold rowsOf
 simp_all
def WI (I:wu p m ç ê ord n T)(G)(h:JP∈ê):T.R.getD JP.1 []∈T.R:=by
 let:=G.ech JP h;rw[EU,ER (by rw[I.rl];show this)]
 simp_all
def a8E (D:Ξ)(s:Int)(way):fr D s way=s\/fr D s way∈D:=by
 unfold fr
 cases h:(way.filter λk=>decide (k∈D)).getLast? with
 | none=>show .inl rfl
 | some x=>show .inr (by simpa using (Fj.mp<|List.mem_of_getLast? h).2)
def Ct (I:wu p m ç ê ord n T)(G)(hR:R∈T.R)(hw)(way):fr FB gp way∈R.map (·.1):=by
 rw[I.keys R hR];rcases a8E FB gp way with h|h
 ·rw[h];show FJ _ (Fc<|FW.mpr hw)
 ·show FF _ h
def QE (I:wu p m ç ê ord n T)(G)(hx:ord[n]?=!x):QR p (K9 m x.2) b6M (shown p ê T):=by
 let xm:=ET hx;show#[G.prime,Int.le_trans (by let:=Ru G.Xb x.1;lia) G.Kv,?_,λa ha=>?_,λa ha=>?_]
 ·cases h:x.2 with
  | none=>
   change (starts m).Nodup;unfold starts;rw[List.Nodup,HL];show List.nodup_range.imp λn z=>n (by unfold st at z;lia)
  | some ks=>show G.mix x xm ks h
 all_goals
  let#[JP,way,nU,l,r,ou]:=MZ.mp<|MY.mp ha;let em:=ET h1;let wm:=ET h2;let hw:=G.ways JP em▸(ES.mp h2).1
 ·rw[h4];show G.link JP em way wm l x.1 r h3 x.2 xm _ hw
 ·let K:=I.ok a.1 JP h1;let od:ord=ord.take n++x::ord.drop (n+1):=by rw[<- (ES.mp hx).2,<- Hm _,Gs]
  let nd:=G.nd;let hs:=G.Vi JP em way wm;rw[od,EX,Fh]at nd hs;let ef:fr FB b77 way=a.2.2:=by
   rcases jH nd hs b77 with⟨z,_⟩|⟨l',r',e1,e2,_⟩
   ·show absurd (by rw[h3];simp) z
   ·let wn:=nd.sublist hs;rw[e1]at h3;rw[e2,h4];rw[e1]at wn;let:l'=l:=by
     rcases (List.append_eq_append_iff.mp h3) with⟨as,q1,q2⟩|⟨bs,q1,q2⟩
     ·cases as with
      | nil=>simpa using q1.symm
      | cons y as=>
       cases q2;rw[h3,q1]at wn;show absurd rfl a9c
     ·cases bs with
      | nil=>simpa using q1
      | cons y bs=>
       cases q2;rw[q1]at wn;show absurd rfl a9c
    rw[this]
  let own:=K.own a.2.1 hw;let eg:JP.2.getD a.2.1 []=way:=by rw[EU,h2];rfl
  rw[eg,ef]at own;unfold shown;rw[Mo h1,K3];intro z;show own (Ea z)
def Ok.congr (h:Ok p m P F)(e:∀ j,j<m->F' j=F j):Ok p m P F':=
 #[h.len,h.Ob,λj hj=>by rw[e j hj];show h.fw j hj,λi j hi hj n=>by rw[e j hj];show h.off i j hi hj n,λi hi=>by rw[e i hi];show h.own i hi,λx hx hk=>h.sep x hx λj hj=>by rw[<- e j hj];show hk j hj]
def Nu (k:Int):∀ (A:List Ask)(T:Qe),(A.map (·.1)).Nodup->(A.foldl Cu T).R=T.R/\(A.foldl Cu T).P.length=T.P.length/\
  (∀ e,(∀ a∈A,a.1≠e)->(A.foldl Cu T).P.getD e []=T.P.getD e [])/\
  ∀ a∈A,a.1<T.P.length->(A.foldl Cu T).P.getD a.1 []=moved p b78 a.2.1 B4:=by
 intro r'
 induction r' with
 | nil=>
  intro T _;show #[2,λ_ _=>rfl,λ_ h=>(Gd h).elim]
 | cons b A ih'=>
  intro T nd;rw[Fh,FP]at nd;let#[ki]:=ih' (M9 p ê k T b) nd.2;let l1:(M9 p ê k T b).P.length=T.P.length:=List.length_set;let off:∀ e,b.1≠e->(M9 p ê k T b).P.getD e []=T.P.getD e []:=λe n=>by
   change (T.P.set b.1 _).getD e []=_
   simp_all
  show#[h1,h2.trans l1,λe he=>?_,λa ha hl=>?_]
  ·rw[GU,h3 e λa ha=>he a<|by simp[ha]];show off e (he b<|by simp)
  ·rw[GU];rcases Fw.mp ha with rfl|ha
   ·rw[h3 a.1 λc hc z=>nd.1<|z▸Fc hc];change (T.P.set a.1 _).getD a.1 []=_
    simp_all
   ·rw[h4 a ha<|l1▸hl,off a.1 λz=>nd.1<|z▸Fc ha];rfl
def b1P (hp:0<p)(t:Θ)(v:Ξ):Lk p (Ky p t v):=λx hx=>by let#[r,_,1]:=EW.mp hx;rw[K3];show#[Gi _<|by lia,FX _ hp]
def a32 (t:Θ)(m)(v:Ξ):(Ky p (cols t m) v).length=m:=by simp[Ky,cols]
def b2g (hc:∀ b∈comes,b.length=m)(hq:q.length=m)(ht:told.length=comes.length):p ∣ dot q (Ky p (cols comes m) told) - dot told (comes.map λb=>dot q b):=by rw[b92];let h2:=b5s comes m told q hc hq ht;let e:Dy comes q=comes.map λb=>dot q b:=FA λb _=>KC b q;rw[e,KC]at h2;rw[<- h2];show Gv (by rw[Int.sub_emod,a1M p q _,Int.sub_self];simp)
def a2D (I:wu p m ç ê ord n T)(G)(hx:ord[n]?=!x):wu p m ç ê ord (n+1) (Pq p m ç ê T x):=by
 let p2:=((My.JL p).mp G.prime).1;let#[tl,tf,tn]:=Sx<|QE I G hx;let od:ord=ord.take n++x::ord.drop (n+1):=by rw[<- (ES.mp hx).2,<- Hm ((ES.mp hx).1),Gs]
 let tk:(ord.take<|n+1).map (·.1)=(ord.take n).map (·.1)++[x.1]:=by rw[GL,hx,EX];rfl
 let nd:=G.nd;rw[od,EX,Fh]at nd;let nk:∀ R∈T.R,¬ x.1∈R.map (·.1):=λR hR z=>by
  rw[I.keys R hR]at z;rcases Fx.mp z with z|z
  ·let#[w,_,e]:=EW.mp z;let:=G.pos x<|ET hx;unfold st at e
   lia
  ·show (FG.mp nd).2.2 x.1 z x.1 Ė rfl
 let#[Bs]:=Nu x.1 b6M { T with R:=JK p m ç T.R x FS }<|Pl G.Xb x.1;let zat:∀ c r,ç[c]?=!r->∀ R,T.R[c]?=!R->(JK p m ç T.R x<|JI p m ê T x)[c]?=!R++[(x.1,newRow p m r R x<|JI p m ê T x)]:=λc r hr R hR=>by unfold JK;rw[Ib,hr,hR]
 let a0A:∀ R',R'∈JK p m ç T.R x FS->∃ R∈T.R,∃ r,R'=R++[(x.1,newRow p m r R x<|JI p m ê T x)]:=λR' h=>by unfold JK at h;let#[c,hc,1]:=FR.mp h;rw[Ja];show#[_,FZ _,_,1]
 unfold Pq;show#[by rw[f1];simp[JK,I.rl],f2.trans I.pl,λR' hR=>?_,λR' hR r hr=>?_,λe JP he=>?_]
 ·rw[f1]at hR;let#[R,h1,r,1]:=a0A R' hR;rw[EX,I.keys R h1,tk,FI];rfl
 ·rw[f1]at hR;let#[R,h1,cs,1]:=a0A R' hR;rcases Fx.mp hr with h|h
  ·show I.rows R h1 r h
  ·rw[Fo.mp h];change (newRow p m cs R x _).length=m/\Lk p (newRow p m cs R x _);unfold newRow;split
   ·show#[by simp,λz hz=>by let:=Hw hz;lia]
   ·show#[a32 _ _ _,b1P #[] _ _]
 ·let em:=ET he;let K:=I.ok e JP he;let hR:=WI I G em;let hel:=(ES.mp he).1;let hc:=G.ech JP em;let eR:T.R[JP.1]?=!T.R.getD JP.1 []:=by rw[EU,ER (by rw[I.rl];show hc)];rfl
  let eC:ç[JP.1]?=!ç.getD JP.1 []:=by rw[EU,ER hc];rfl
  let gR':(JK p m ç T.R x<|JI p m ê T x).getD JP.1 []=T.R.getD JP.1 []++[(x.1,newRow p m GT b7w x<|JI p m ê T x)]:=by rw[EU,zat JP.1 _ eC _ eR];rfl
  rw[f1];rw[gR',tk];generalize hr0:T.R.getD JP.1 []=R at *
  let KN:∀ w,w<m->∀ way,lk (R++[(x.1,newRow p m GT R x<|JI p m ê T x)]) (fr ((ord.take n).map (·.1)) (st w) way)=lk R (fr ((ord.take n).map (·.1)) (st w) way):=λw hw way=>b0h (Ct I G hR hw way) _;let wat:∀ w,w<m->∃ way,JP.2[w]?=!way/\JP.2.getD w []=way/\way.Sublist ((ord.take n).map (·.1)++x.1::(ord.drop<|n+1).map (·.1)):=λw hw=>by
   let hw':w<JP.2.length:=by rw[G.ways JP em];show hw
   show#[JP.2[w],ER hw',by rw[EU,ER hw'];rfl,?_];let:=G.Vi JP em _<|FZ hw';rwa [od,EX,Fh]at this
  by_cases hA:∃ w0,w0<m/\x.1∈JP.2.getD w0 []
  ·let#[w0,hw0,UK]:=hA;let#[way,sf,e3]:=wat w0 hw0;rw[e2]at UK;obtain⟨l,r,e4,e5,e6⟩:∃ l r,way=l++x.1::r/\fr FB (st w0) way=l.getLast?.getD (st w0)/\fr ((ord.take n).map (·.1)++[x.1]) (st w0) way=x.1:=by
    rcases jH nd e3 (st w0) with⟨z,_⟩|z
    ·show absurd UK z
    ·show z
   let am:(b1u:Ask)∈K' ê x.1:=MY.mpr<|MZ.mpr #[JP,way,he,e1,l,r,e4,1];let h4:=f4 _ am (by rw[I.pl];show hel);let QB:rowsOf ê { T with R:=JK p m ç T.R x FS } e=R++[(x.1,newRow p m GT R x<|JI p m ê T x)]:=by rw[Mo he,<- gR']
   let h4:(List.foldl (M9 p ê x.1) { T with R:=JK p m ç T.R x FS }<|K' ê x.1).P.getD e []=moved p uy w0 (newRow p m GT R x<|JI p m ê T x):=by rw[h4];change moved p uy w0 (lk (rowsOf ê _ e) x.1)=_;rw[QB,QF<|nk R hR]
   rw[h4];let fre:=G.free JP em way (ET e1) x.1 UK;let cl:∀ b∈(K9 m x.2).map (lk R),b.length=m:=λb hb=>by
    let#[k,hk,1]:=EW.mp hb;show (I.rows R hR (k,lk R k) (Sy ?_)).1;rw[I.keys R hR]
    cases h:x.2 with
    | none=>rw[h]at hk;show FJ _ hk
    | some ks=>rw[h]at hk;show FF _ (G.ahd n x ks hx h k hk)
   let a0Z:newRow p m GT R x FS=Ky p (cols ((K9 m x.2).map<|lk R) m) FS:=by unfold newRow;rw[if_neg fre]
   let shn:¬ p ∣ dot xJ (newRow p m GT R x<|JI p m ê T x):=λz=>by
    rw[a0Z]at z;let:=HP z<|b2g (told:=JI p m ê T x) cl ((K.at hw0).1) (by rw[EO];show tl);rw[Int.sub_sub_self,EZ]at this;show tn _ am ?_;let e7:(K9 m x.2).map (shown p ê T b1u)=((K9 m x.2).map<|(λb=>dot xJ b) ∘ lk R).map zP:=by rw[EZ];show FA λk _=>?_;unfold shown;rw[Mo he,hr0,K3];rfl
    rw[e7];let h5:=a1M p FS<|(K9 m x.2).map ((λb=>dot xJ b) ∘ lk R);rw[Hz this]at h5;show Gv h5
   show (K.move G.prime hw0 (by rw[a0Z];show a32 _ _ _) shn).congr λw hw=>?_;by_cases c:w=w0
   ·subst c;rw[if_pos rfl,e2,e6,QF<|nk R hR]
   ·rw[if_neg c];let#[ZZ,mL,g3]:=wat w hw;let nin:¬ x.1∈ZZ:=λz=>by
     let fl:=G.Xb JP em;rw[List.Nodup,List.pairwise_flatten]at fl;let pw:=List.pairwise_iff_getElem.mp fl.2;let#[i1,j1]:=ES.mp g1;let#[i2,j2]:=ES.mp e1;rcases Nat.lt_or_gt_of_ne c with q|q
     ·show pw w w0 i1 i2 q x.1 (j1▸z) x.1 (j2▸UK) rfl
     ·show pw w0 w i2 i1 q x.1 (j2▸UK) x.1 (j1▸z) rfl
    rw[g2];rcases jH nd g3 gp with⟨_,z⟩|⟨l',r',z,_⟩
    ·rw[z];show KN w hw ZZ
    ·show absurd (by rw[z];simp) nin
  ·let h3:=f3 e λa ha z=>by
    let#[b3B,way,nU,l,r,ou]:=MZ.mp<|MY.mp ha;rw[z,he]at h1
    cases h1;let hw:=G.ways JP em▸(ES.mp h2).1;show hA #[a.2.1,hw,?_];rw[EU,h2];change x.1∈way;rw[h3];simp
   rw[h3];show K.congr λw hw=>?_;let#[way,mL,g3]:=wat w hw;rw[g2];rcases jH nd g3 gp with⟨_,z⟩|⟨l',r',z,_⟩
   ·rw[z];show KN w hw way
   ·show absurd #[w,hw,by rw[g2,z];simp] hA
def c3k (G):wu p m ç ê ord 0 (start m ç ê):=by
 let p2:=((My.JL p).mp G.prime).1;let hk:((List.range m).map λw=>yW).map (·.1)=starts m:=by rw[EZ];rfl
 show#[by simp[start],by simp[start],λR hR=>?_,λR hR r hr=>?_,λe JP he=>?_]
 ·let#[Qc]:=EW.mp hR;rw[hk];simp
 ·let#[Qc]:=EW.mp hR;let#[w,_,1]:=EW.mp hr;show#[JQ _ _,eU #[] _ _]
 ·let em:=ET he;let e1:(start m ç ê).P.getD e []=ones m:=by
   change ((ê.map λ_=>ones m)[e]?).getD []=_
   simp_all
  let e2:(start m ç ê).R.getD JP.1 []=(List.range m).map λw=>yW:=by change ((ç.map λ_=>_)[JP.1]?).getD []=_;rw[F7,ER<|G.ech JP em];rfl
  rw[e1,e2];show (Ok.start #[] m).congr λj hj=>?_;let e3:fr ((ord.take 0).map (·.1)) (st j) (JP.2.getD j [])=st j:=by unfold fr;rw[HE.mpr λx _ z=>by simp at z];rfl
  let#[w,_,e4]:=EW.mp<|Sy (by rw[hk];show Fc<|FW.mpr hj);let e5:=congrArg Prod.fst e4;let e6:w=j:=by unfold st at e5;lia
  simp_all
def MB (G):∀ n,n<=ord.length->wu p m ç ê ord n ua:=by
 intro r'
 induction r' with
 | zero=>
  intro _;show c3k G
 | succ n ih'=>
  intro h;let hx:ord[n]?=!ord.getD n zf:=by
   grind
  show a2D (ih'<|by lia) G hx
def Qx (es:List K7)(JP:K7):LJ (es++[JP])=LJ es++LZ es.length JP.2:=by unfold LJ;rw[HX,GB];simp
def Qt {e:Nat}{ways:Θ}(h:ways[w]?=!way):LZ e (ways.take (w+1))=LZ e UV++Ny e w way:=by unfold LZ;rw[GL,h,HX,GB];simp[Nat.min_eq_left<|Jm ((ES.mp h).1)]
def a5Y (es fs:List K7):(LJ es).length<=(LJ (es++fs)).length:=by simp[LJ,HX,GB,Fb]
def c2B (e:Nat)(ways:Θ)(w:Nat):(LZ e UV).length<=(LZ e ways).length:=by
 let h:LZ e ways=LZ e UV++((ways.drop w).zipIdx (ways.take w).length).flatMap λx=>Ny e x.2 x.1:=by
  unfold LZ
  grind [List.flatMap_append,List.zipIdx_append,List.take_append_drop]
 simp_all
def Tb (L:List (Int×Ask))(k:Int)(a:Ask):pick lG k=pick L k++[a]:=by simp[pick,Hs,EX]
def RN (L:List (Int×Ask))(h:k≠k')(a:Ask):pick lG k'=pick L k':=by
 unfold pick
 simp_all
def Vv (L:List (Int×Ask))(k:Int):(pick L k).length<=L.length:=by unfold pick;rw[EO];show FD _ _
theorem JF (found:List Δ):List K7:=found.zipIdx.flatMap λx=>x.1.map λways=>b79
def P4 {found:List Δ}(h:found[c]?=!bl):JF (found.take (c+1))=JF qF++bl.map λways=>rB:=by unfold JF;rw[GL,h,HX,GB];simp[Nat.min_eq_left<|Jm ((ES.mp h).1)]
def a8V (found:List Δ)(c:Nat):∃ r,JF found=JF qF++r:=by
 show#[((found.drop c).zipIdx (found.take c).length).flatMap λx=>x.1.map λways=>b79,?_];unfold JF
 grind [List.flatMap_append,List.zipIdx_append,List.take_append_drop]
def room (hB:(LJ (JF found)).length<=B)(h1:found[c]?=!bl)(h2:bl[j]?=!ways)(h3:ways[w]?=!way):
  (LJ (JF qF++(bl.take j).map λways=>rB)++LZ (JF qF++(bl.take j).map λways=>rB).length UV++(Ny (JF qF++(bl.take j).map λways=>rB).length w way).take i).length<=B:=by
 let#[r,hr]:=a8V found<|c+1;let e1:bl=bl.take j++ways::bl.drop (j+1):=by let#[hj,e]:=ES.mp h2;rw[<- e,<- Hm hj,Gs]
 rw[P4 h1,e1,EX,Fh,<- FI,FI,List.cons_append,List.append_cons]at hr;rw[hr]at hB;generalize (JF _++(bl.take j).map λways=>_)=A at hB ⊢;show Fs ?_ hB;show Fs ?_<|a5Y _ _;rw[Qx,Fb,Fb,Fb];let h4:=c2B A.length ways<|w+1;rw[Qt h3,Fb]at h4;rw[Fd]
 lia
def Qr (I:wu p m ç ê ord n T)(G)(hx:ord[n]?=!x):∀ R∈T.R,¬ x.1∈R.map (·.1):=λR hR z=>by
 rw[I.keys R hR]at z;let nd:=G.nd;rw[show ord=ord.take n++x::ord.drop (n+1) by rw[<- (ES.mp hx).2,<- Hm _,Gs],EX,Fh]at nd;rcases Fx.mp z with z|z
 ·let#[w,_,e]:=EW.mp z;let:=G.pos x<|ET hx;unfold st at e
  lia
 ·show (FG.mp nd).2.2 x.1 z x.1 Ė rfl
def RG (X R:List α)(hc:c<=X.length)(j)(d:α):(X.take c++R.drop c).getD j d=if j<c then X.getD j d else R.getD j d:=by
 let hl:(X.take c).length=c:=by grind
 rw[EU];by_cases h:j<c
 ·rw[if_pos h,FQ<|by lia,Gz h,EU]
 ·rw[if_neg h,FT<|by lia,hl,IB,EU];congr 2
  lia
def MW (hk:ç[c]?=!ks)(hR:c<R.length):(JK p m ç R x told).getD c []=R.getD c []++[(x.1,newRow p m ks (R.getD c []) x told)]:=by
 let e:R[c]?=!R.getD c []:=by
  simp_all
 unfold JK;rw[EU,Ib,hk,e];rfl
section
variable {p:Int}{m:Nat}{ç:Θ}{ê:List K7}{ord:List KL}
def a9O (G)(n)(hn:n<ord.length)(hc:ç[c]?=!ks):(stN p m ç ê ord (n+1)).R.getD c []=(stN p m ç ê ord n).R.getD c []++[((ord.getD n zf).1,newRow p m ks a9q Ey (JI p m ê ua Ey))]:=by let I:=MB G n #[];change (Pq p m ç ê _ _).R.getD c []=_;unfold Pq;rw[(Nu _ _ _<|Pl G.Xb _).1];show MW hc (by rw[I.rl];show (ES.mp hc).1)
def a9d (G)(hc:ç[c]?=!ks)(n):∀ d,n+d<=ord.length->∃ z,(stN p m ç ê ord (n+d)).R.getD c []=(stN p m ç ê ord n).R.getD c []++z
 | 0,_=>#[[],(Fq _).symm]
 | d+1,h=>by let#[z,e]:=a9d G hc n d #[];let h2:=a9O G (n+d) #[] hc;rw[e,FI]at h2;show#[_,h2]
abbrev QO (p:Int)(m:Nat)(ç:Θ)(ê:List K7)(ord:List KL)(c:Nat):NY:=(stN p m ç ê ord ord.length).R.getD c []
def xM (G)(hc:ç[c]?=!ks)(hn:n<=ord.length)(hk:k∈starts m++(ord.take n).map (·.1)):lk vK k=lk a9q k:=by
 let#[z,e]:=a9d G hc n (ord.length - n) #[];rw[show n+_=ord.length by lia]at e;unfold QO;rw[e];show b0h ?_ z;let I:=MB G n hn;let MQ:=(ES.mp hc).1;let hm:(stN p m ç ê ord n).R.getD c []∈(stN p m ç ê ord n).R:=by rw[EU,ER (by rw[I.rl];show MQ)];show FZ _
 rw[I.keys _ hm];show hk
def VS (G)(hc:ç[c]?=!ks)(hx:ord[n]?=!x):lk vK x.1=newRow p m ks vK x (JI p m ê ua x):=by
 let hn:=(ES.mp hx).1;let eg:ord.getD n zf=x:=by rw[EU,hx];rfl
 let I:=MB G n #[];let MQ:=(ES.mp hc).1;let hm:(stN p m ç ê ord n).R.getD c []∈(stN p m ç ê ord n).R:=by rw[EU,ER (by rw[I.rl];show MQ)];show FZ _
 rw[xM G hc (n:=n+1) #[]<|FF _ (EW.mpr #[x,by rw[GL,hx];simp,1]),a9O G n hn hc,eg,QF<|Qr I G hx _ hm];unfold newRow;split
 ·rfl
 ·congr 2;show FA λk hk=>(xM G hc #[] ?_).symm
  cases h:x.2 with
  | none=>rw[h]at hk;show FJ _ hk
  | some Sz=>rw[h]at hk;show FF _ (G.ahd n x Sz hx h k hk)
def TM (G)(hc:ç[c]?=!ks)(hw):lk vK gp=Jz m w:=by
 rw[xM G hc (FV _)<|FJ _ (Fc<|FW.mpr hw)];let e2:(start m ç ê).R.getD c []=(List.range m).map λw=>yW:=by change ((ç.map λ_=>_)[c]?).getD []=_;rw[F7,hc];rfl
 change lk ((start m ç ê).R.getD c []) _=_;rw[e2];let h:=Sy (R:=(List.range m).map λw=>yW) (by rw[EZ];show Fc<|FW.mpr hw);let#[w',_,e4]:=EW.mp h;let e5:st w'=st w:=congrArg Prod.fst e4;let e6:w'=w:=by unfold st at e5;lia
 show (congrArg Prod.snd e4).symm.trans (by rw[e6])
def VR (G){e:Nat}(he:ê[e]?=!JP)(ne:∀ way∈JP.2,way≠[])(hx:x.length=m)(hk:∀ way∈JP.2,∀ k,way.getLast?=!k->p ∣ dot x (lk (QO p m ç ê ord JP.1) k))(hy:y.length=m):p ∣ dot x y:=by
 let I:=MB G ord.length<|F8 _;let em:=ET he;show (I.ok e JP he).sep x hx (λj hj=>?_) y hy;let VH:j<JP.2.length:=by rw[G.ways JP em];show hj
 let eg:JP.2.getD j []=JP.2[j]:=by rw[EU,ER VH];rfl
 let wm:=FZ VH;rw[eg,FE];let hf:fr b8R (st j) JP.2[j]=(JP.2[j].getLast?).getD (st j):=by unfold fr;rw[Jk.mpr λk hk=>EY<|(G.Vi JP em _ wm).subset hk]
 rw[hf]
 cases hl:JP.2[j].getLast? with
 | none=>show absurd (List.getLast?_eq_none_iff.mp hl) (ne _ wm)
 | some k=>show hk _ wm k hl
universe e
universe Mk
namespace K72
open PySem L2
open PyProof.Rows (boot_all boot_any boot_bool boot_dict boot_int boot_list boot_sorted boot_str boot_tuple)
structure Ma (K:Ψ) (mg:Ω) (CE:Addr):Prop where
 cl:Nr K CE
 nR:Ka K CE "rows"
 nB:Ka K CE "probes"
 K8:mg "range"=none
 M8:mg "zip"=none
 a1b:mg "any"=none
 JX:mg "len"=none
 Lg:mg "enumerate"=none
abbrev xO (CE:Addr)(R:Mk.NY)(B:Θ):D:=.ins CE ["rows","probes"] [aG R,tb B]
section
variable {C CE:Addr}
def Ma.fr [Bx:Bd](T:Ma Bx.K Bx.mg CE):∀ C',C'=CE->Nr Bx.K C'/\Ka Bx.K C' "rows":=λC' h=>h▸#[T.cl,T.nR]
def Ma.fb [Bx:Bd](T:Ma Bx.K Bx.mg CE):∀ C',C'=CE->Nr Bx.K C'/\Ka Bx.K C' "probes":=λC' h=>h▸#[T.cl,T.nB]
def dNg (h:PE X a (tC xu)):PE X (.UnaryOp .USub a pos) (tP (rC (.int (-i)))):=(a0P a3T h).imp λσ H Q J'=>by let#[CU,r,q]:=J';show#[i,1,tP.at S.le q (by rw[r];rfl)]
def wB (h:k∈R.map (·.1)):cy (R.map λr=>Os) tU=!rw Ź:=by let#[x,nU]:=EW.mp h;let#[y,hy]:=Gy.mp (HN (p:=λr:bf=>decide (r.1=k)) |>.mpr #[x,h1,EY h2]);rw[gG hy,show Mk.lk R k=y.2 by unfold Mk.lk;rw[hy];rfl]
inductive b0p:Ä
 |mk {m:Nat}:m<=1000->b0p [.int m] (rw (Mk.starts m))
def a6N [Bx:Bd](T:Ma Bx.K Bx.mg CE):Tk 1 "message_ties" (top 83) ["many"] (Pr b0p):=by
 show KS [] ?_ λ_ _ _ _ _ _ _ hr ND=>(qr (dL 0 rfl b6E Y6
  ē
  MO
  (λ_ _ _ _ _=>dO n5 cF (dNg b8)<|Đ 0)))
 rintro _ _ @⟨m,hm⟩;show#[aZ b3F kZ λj _=>#[_,3,jG],Ql _ _]
inductive oJ (C CE:Addr):Ä
 |mk {p k:Int}{i:Nat}{B:Θ}{R:Mk.NY}:0<p->p<=1000000->k∈R.map (·.1)->i<B.length->U6 p Š->(B.getD i []).length<=1000->oJ C CE [xO CE R B,fD C p,.int i,.int k] (.int (Mx.JN p Š Ź))
def a5b [Bx:Bd](T:Ma Bx.K Bx.mg CE)(KI):Tm 4 "shown" "Ear.shown" (ao nO 1) à (Pr (oJ C CE)):=by
 show KS [] ?_ λ_ _ _ _ _ _ _ hr ND=>(qr<|dF KI hr.m rfl (da (Đ 1)<|da (Kh hr (RD T.fb<|Đ 0)<|Đ 2) (da (Kh hr (RD T.fr<|Đ 0)<|Đ 3) JC)))
 rintro _ _ @⟨p,k,i,B,R,p0,p1,hk,hi,hf,hl⟩;show#[#[#[1,#[#[3],1,.l .lst<|tK hi],#[#[3],1,.k (wB hk) kI],1],#[p0,p1,hl,hf]],1]
inductive Nv (C:Addr):Ä
 |mk {p:Int}{us ss:Ξ}:My.LV p=true->p<=1000000->(us.length:Int)<p->us.length<=1000->(∀ u∈us,¬ p ∣ u)->U6 p us->Nv C [fD C p,rw us,rw ss] (.int (Mk.ub p us ss:Nat))
def a2h [Bx:Bd](hn)(T:Ma Bx.K Bx.mg CE)(JA):Tk 2 "unbarred" (top 85) b2G (Pr (Nv C)):=by
 show KS ["often"] ?_ λ_ _ _ _ _ _ _ hr ND=>(qC (qs 3 ND dI)
 (qC (qW F9 (dV (cC (dB b1V (AO Bx.K rfl) rfl T.a1b boot_any (da (dL 2 rfl (cS 2 [0,3] b0z) r9
  Ě
  MO
  (λ_ _ _ _ _=>dM bc cv (Pk (Đ 2) JA hr.m<|da (Q5 tE<|Đ 1) JC) dI)) JC))))
  (q1<|XB (wM (i:=3) ND rfl Bq dI a1u)))
 ug))
 rintro _ _ @⟨p,us,ss,hP,p1,hl,hz,nz,hF⟩;let#[u1,u2,u3]:=Mk.Ub hP (ss:=ss) hl nz;show .nx #[1] ?_;show fh (β:=Nat) (λj ε=>ε=[.fz<|fD C p,.fz<|rw us,.fz<|rw ss,.fz<|.int j]/\j<=Mk.ub p us ss) (λj=>Mk.ub p us ss - j) #[1,FV _] λj ε J'=>?_;let#[he,hj]:=J';subst he;let rd:rF W5 (rA (rL 2 [0,3] (λε l=>∃ m n,rA qv (rA um OH) ε [.lst m,.lst n]/\l=(m.zip n).map λz=>.tup [z.1,z.2]) zR<|rO rS (rMe C "fit" (Pe C) um<|rA (rO Ds (rO (fI TV λi j=>Q1<|.int (i * j)) Aa<|rV 0)<|rV 1) OH) XT) OH) [some<|fD C p,some<|rw us,some<|rw ss,some<|.int j] (.bl<|Mk.Lp p j us ss):=by show⟨⟨aZ ⟨_,_,⟨rfl,rfl,rfl⟩,fY _ _⟩ (by rw[Hi];lia) λz hz=>#[DM,eq_int #[xg,b8S,#[#[]]] rfl],rfl⟩,?_⟩;let:=W5.mk (by rw[EZ];rfl:(us.zip ss).map (λz=>D.bl<|decide (((j:Int) * z.1+z.2) % p=0))=_);unfold Mk.Lp;rw[<- GQ,List.any_map];rwa [List.any_map]at this
 by_cases z:j<Mk.ub p us ss
 ·rw[u2 j z]at rd;show .inr #[rd,j+1,DM,#[1,z],#[]]
 ·let z:j=Mk.ub p us ss:=#[]
  rw[z,u1]at rd;show .inl #[by rw[z];show rd,1,by rw[z]]
inductive jf (C:Addr):Ä
 |mk {p:Int}{t:Θ}{r:Ξ}:0<p->p<=1000000->(∀ z∈t,U6 p z/\z.length<=1000)->t.length<=1000->jf C [fD C p,tb t,rw r] (rw (Mx.Ky p t r))
def c0L [Bx:Bd](KI):Tk 4 "times_row" (top 43) b4j (Pr (jf C)):=by
 show KS [] ?_ λ_ _ _ _ _ _ _ hr ND=>(qr (Pd 0 rfl (cS 1 [0,2] [c1W,"row"]) ST
  ē
  MO
  (λ_ _ _ _ _=>dF KI hr.m rfl<|da (Đ 1) rj)))
 rintro _ _ @⟨p,t,r,p0,p1,ht,hl⟩;show#[aZ yc hl λz hz=>#[_,1,#[4],#[p0,p1,(ht z hz).2,(ht z hz).1]],Ql _ _]
inductive jg (C:Addr):Ä
 |mk {p:Int}{m:Nat}{mixed told:Ξ}{R:Mk.NY}:0<p->p<=1000000->(∀ k∈mixed,k∈R.map (·.1)/\(Mk.lk R k).length=m/\U6 p Ź)->mixed.length<=1000->m<=1000->jg C [fD C p,rw mixed,rw told,aG R,.int m] (rw (Mx.Ky p (Mx.cols (mixed.map (Mk.lk R)) m) told))
def a2X [Bx:Bd](T:Ma Bx.K Bx.mg CE)(Nf:Kn 4 "times_row" b4j (Pr (jf C)))(Mt):Tk 5 "mixed_row" (top 87) a8I (Pr (jg C)):=by
 show KS ["comes"] ?_ λ_ _ _ _ _ _ _ hr ND=>(qC (qs 5 ND (Pd 0 rfl (cS 1 [3] b72) ST
  ē
  MO
  Fr))
 (qr (dF Nf hr.m rfl (da (Đ 0) (da (dL 0 rfl (cS 1 [5] ["place","comes"]) (Th rfl T.K8<|da (Đ 4) JC)
  ē
  MO
  (λ_ _ _ _ _=>dF Mt hr.m rfl<|da (Đ 1) Ŗ))<|da (Đ 2) JC)))))
 rintro _ _ @⟨p,m,mixed,told,R,p0,p1,hk,hl,hm⟩;show .nx #[c6 yc hl (λk h=>#[_,3,.k (wB (hk k h).1) kI]) (by rw[show tb _=.lst _ from rfl,EZ];rfl)] #[#[#[1,c6 b3F kZ (λj hj=>#[_,iL,.l į λr hr=>?_]) ?_,2],#[p0,p1,D2]],1]
 ·let#[k,h1,1]:=EW.mp hr;rw[(hk k h1).2.1];show FW.mp hj
 ·unfold Mx.cols;rw[show tb _=.lst XH from rfl,EZ];rfl
 ·intro z hz;let#[j,hj,1]:=EW.mp hz;show#[λy hy=>?_,by unfold Mx.col;simpa using hl];unfold Mx.col at hy;rw[EZ]at hy;let#[k,h1,1]:=EW.mp hy;let:=hk k h1;show Mk.Ot p0 this.2.2 j
 ·unfold Mx.cols;simpa using hm
universe e
section
variable {C CE:Addr}
abbrev wf (CE:Addr)(R:Mk.Ask->Mk.NY)(B:Mk.Ask->Θ)(a:Mk.Ask):D:=.tup [xO CE (R a) (B a),.int (a.2.1:Nat),.int a.2.2]
structure a24 (p:Int) (A:List Mk.Ask) (R:Mk.Ask->Mk.NY) (B:Mk.Ask->Θ) (s:Mk.Ask->Int->Int):Prop where
 pl:∀ a∈A,a.2.1<(B a).length
 fit:∀ a∈A,U6 p b5q/\((B a).getD a.2.1 []).length<=1000
 has:∀ a∈A,∀ b∈A,b.2.2∈(R a).map (·.1)
 sh:∀ a∈A,∀ k,s a k=Mx.JN p b5q (Mk.lk (R a) k)
inductive gv (C CE:Addr):Ä
 |mk {p:Int}{mixed:Ξ}{A:List Mk.Ask}{R:Mk.Ask->Mk.NY}{B:Mk.Ask->Θ}{s:Mk.Ask->Int->Int}:p<=1000000->a24 p A R B s->Mk.QR p mixed A s->mixed.length<=1000->A.length<=1000->gv C CE [fD C p,rw mixed,.lst (A.map (wf CE R B))] (rw (Mk.RS p mixed A s))
def b5z (n):rw D8=.lst (List.replicate n Pu):=congrArg D.lst List.map_replicate
def a8M [Bx:Bd](hn)(T:Ma Bx.K Bx.mg CE)(KG)(JA)(NZ:Kn 2 "unbarred" b2G (Pr (Nv C))):Tk 5 "multipliers" (top 86) b3G (Pr (gv C CE)):=by
 show KS ["told","values","at","ask","steps","often"] ?_ λ_ _ _ _ _ _ _ hr ND=>(qC (qs 3 ND<|dO n8 yK (bV<|da dI JC).p sD)
 (qC (qs 4 ND<|dO n8 yK (bV<|da dI JC).p (cw T.JX<|Đ 2))
 (qC (qL F9 rfl (iE rfl T.Lg<|da (Đ 2) JC) (bY Bx.K rfl<|af nA (af Eu aF)) (de Bx.K [5,6])
  (q1 (qI (dT bc cv (Kh hr (Đ 4)<|Đ 5) dI)
  (qC (Vb (n:=3) (b5 (i:=7) ND rfl rfl rfl (cS 3 [0,6] [c27,"field","ask"]) CB
  (λ_ _ _ _ _=>bY Bx.K rfl<|af (pC 0) (af (pC 1)<|af (pC 2) aF))
  MO
  (λ_ _ _ _ _=>Pk (Đ 0) KG hr.m<|da (Đ 3) (da (Đ 1)<|da yt JC))) rfl)
 (qC (qs 8 ND<|dF NZ hr.m rfl (da (Đ 0)<|da (W0 (Đ 4) VZ<|VY (Đ 5)) P3))
 (qC (qS (b5 (i:=3) ND rfl rfl rfl (cS 2 [0,6,8] ["number",c1W,"ask","often"]) (iZ rfl T.M8<|da (Đ 1) NK)
  Ě
  MO
  (λ_ _ _ _ _=>Pk (Đ 2) JA hr.m<|da (Q5 (dO cq Mv (Đ 4)<|Đ 1)<|W2 (dT bc cv (Đ 0)<|Kh hr (Đ 3) dI) dI dI) JC)) λ_ _ _=>sg (n:=2))
 (q1 (qS (b5 (i:=4) ND rfl rfl rfl (cS 2 [0,8] b0z) (iZ rfl T.M8<|da (Đ 4) P3)
  (λ_ _ _ _ _=>bY Bx.K (n:=2) rfl<|af (pC 0) (af (pC 1) aF))
  MO
  (λ_ _ _ _ _=>Pk (Đ 2) JA hr.m<|da (Q5 tE<|Đ 1) JC)) λ_ _ _=>sg (K:=Bx.K) (n:=2))))))
  q0)))
 ug)))
 rintro _ _ @⟨p,mixed,A,R,B,s,p1,K1,pre,mz,az⟩;let p2:=((My.JL p).mp pre.prime).1;show .nx #[nK,rG,#[mz]] (.nx #[nK,rG,#[az]] ?_);show bX A.zipIdx (u:=λz=>.tup [.int (z.2:Nat),wf CE R B z.1]) (λi ε=>∃ o5 o6 o7 o8,ε=[.fz<|fD C p,.fz<|rw mixed,.fz<|.lst b7x,.fz<|rw (Mk.OI p mixed A s i).1,.fz<|rw (Mk.OI p mixed A s i).2,o5,o6,o7,o8]) ⟨_,_,_,_,by unfold Mk.OI;rw[b5z,b5z];rfl⟩ ⟨_,⟨rfl,rfl⟩,by rw[List.zipIdx_map,EZ];rfl⟩ (λn z ε hz J'=>?_) λε J'=>?_
 ·let#[nq]:=J';rw[List.getElem?_zipIdx,Nat.zero_add]at hz;let#[a,ea,1]:=FO.mp hz;subst he;let hn:n<A.length:=(ES.mp ea).1;let am:=ET ea;let I:=Mk.RQ pre n #[];let st:Mk.OI p mixed A s (n+1)=Mk.Om p mixed A s (Mk.OI p mixed A s n) n:=rfl;let ega:A.getD n (0,0,0)=a:=by rw[EU,ea];rfl
  unfold Mk.Om Mk.Uy at st;rw[ega]at st;rw[st];clear st;generalize Mk.OI p mixed A s n=M at I;let rd:=eq_int (ε:=[some<|fD C p,some<|rw mixed,some<|.lst b7x,some<|rw M.1,some<|rw M.2,some<|.int n,some<|wf CE R B a,o7.a,o8.a]) (ra:=rO Sub yT<|rV 5) (rb:=rC<|.int 0) #[2,.l .lst<|cH (by rw[I.l2];show hn)] rfl;show#[lx,?_];by_cases c0:M.2.getD n 0=0
  ·rw[EY c0]at rd;rw[if_neg λz=>z c0];let tl:((M.2.take n).length:Int)<p:=by
    rw[Fd];let:=pre.Kv
    lia
   let tz:∀ u∈M.2.take n,¬ p ∣ u:=λu hu=>by
    let#[Vu]:=FR.mp hu;rw[List.getElem_take];rw[Fd]at hi;let z1:=I.nz i #[];let z2:=Mk.Ot #[] I.f2 i;rw[EU,ER<|show i<M.2.length by lia]at z1 z2;simp only[Option.getD_some]at z1 z2;intro z;let:=J2 #[] z
    lia
   let u3:=(Mk.Ub pre.prime (ss:=A.map λb=>s b a.2.2) tl tz).2.2;let ub:=Nv.mk (C:=C) (ss:=A.map λb=>s b a.2.2) pre.prime p1 tl (by rw[Fd];lia) tz λu hu=>I.f2 u<|J4 hu;generalize Mk.ub p (M.2.take n) (A.map λb=>s b a.2.2)=o at u3 ub ⊢;show#[_,.t rd<|.nx ⟨c6 (xs:=A) (u:=wf CE R B) (h:=λb=>.int<|s b a.2.2) (d:=rw (A.map λb=>s b a.2.2)) yc az (λb hb=>#[_,#[2],1,by decide,#[2,Di,1],by rw[K1.sh b hb];show#[#[],p1,K1.has b hb a am,K1.pl b hb,(K1.fit b hb).1,(K1.fit b hb).2]])<|Fl.rt.inj WO⟩ (.nx #[#[1,#[1,.lst,1,#[1],by rw[cu,<- Hv]],2],ub]<|.nx ⟨c6 (xs:=mixed.zip M.1) (u:=λz=>.tup EB) (h:=λz=>.int<|((o:Int) * z.2+if z.1=a.2.2 then 1 else 0) % p) (d:=rw (List.zipWith (λk x=>((o:Int) * x+if k=a.2.2 then 1 else 0) % p) mixed M.1)) t7 (by rw[Hi];lia) (λz hz=>#[DM,xg,#[#[Dl,?_,.i],1],#[#[]]]) ?_⟩ #[c6 (xs:=M.2.zip<|A.map λb=>s b a.2.2) (u:=λz=>.tup EB) (h:=λz=>.int<|((o:Int) * z.1+z.2) % p) (d:=rw (List.zipWith (λv x=>((o:Int) * v+x) % p) M.2<|A.map λb=>s b a.2.2)) t7 (by rw[Hi,I.l2];lia) (λz hz=>#[DM,xg,b8S,#[#[]]]) ?_]),_,_,_,_,1]
   ·let r1:=eq_int (ε:=[some<|.int z.1,some<|.int z.2,some<|fD C p,some<|wf CE R B a,some<|.int o]) (ra:=rV 0) (rb:=rO Sub Aa<|rC (.int 2)) rfl Di;by_cases e:z.1=a.2.2
    ·rw[EY e]at r1;rw[if_pos e];show .t r1 rfl
    ·rw[F5 e]at r1;rw[if_neg e];show .f r1 rfl
   ·rw[<- GQ];show Fl.rt.inj WO
   ·rw[<- GQ];show Fl.rt.inj WO
  ·rw[F5 c0]at rd;rw[if_pos c0];show#[c25,xb,1]
 ·let#[nq]:=J';subst he;rw[List.length_zipIdx];show#[2]
universe e
open L2.Wy
section
variable {c:Cl}{C:Addr}
def b3M {α:Type}{u:α->D}{J:Ù}(xs)(I:Õ)(h0:I 0 ε)(hl)(k)(fin:∀ ε',I xs.length ε'->∃ ε2,r2 ε' vc/\J ε2):∃ ε',oY yJ r2 ε sC/\J ε':=
 let #[qB]:=a97 xs I h0 hl k;let #[ε2,ou]:=fin ε' h2
 #[ε2,.nx h1 h3,h4]
inductive b5K (c:Cl):Ä
 |mk {S:NS}:S.Jy.length<=1000->b5K c [aA c S,.int 0] (tb [[]])
theorem iQ:Sum Ξ Θ->Θ
 | .inl _=>[]
 | .inr w=>w
theorem aN (S:NS)(N m:Nat)(ks:Ξ):Δ:=S.JO.map λg=>iQ (aV xF Ħ g N m)
abbrev R1 (t:Δ):D:=.lst (t.map tb)
abbrev Q6 (t:List Δ):D:=.lst (t.map R1)
inductive cf (c:Cl):Ä
 |mk {S:NS}{m N:Nat}{ç:Θ}:ç.length<=1000->(∀ ks∈ç,QY S (!ks) N/\∀ g∈S.JO,∃ w,aV xF Ħ g N m=.inr w)->S.JD.length<=1000->1<=m->m<=1000->m * N+N<=1000->cf c b5r (Q6 (ç.map (aN S N m)))
def Kw:au [zK,"chosen","listeners",c1J,"by_listener","listener","found"] è (aa (top 82)):=Nz
def c11 [Bx:Bd](Jw)(L8):Tk 5 "ways_by_choice" (top 82) è (Pr (cf c)):=by
 intro f fd F;let ND:=Kw.nd;show F.dv Kw ?_ λJE A outer s H E hr=>(qC (qs 3 ND<|eI (Đ 0) Jw hr.m)
 (qC b8O
 (qC (Px F9 rfl CB nA (aD 5)
  (qC b8T
 (qC (Px F9 rfl (ar<|Đ 3) m9 (aD 7)
  (qC ō
 (qC (qI KK
  wL
  q0)
 Ł)))
 (qZ 6<|q1 (qA GM λ_ _ _ h=>h)))))
 (qr<|Đ 4))))
 rintro _ _ @⟨S,m,N,ç,hc,hw,hp,RV,hm,hz⟩;let ll:S.JO.length<=1000:=by unfold NS.JO;rw[EO];show Fs nj hp
 show#[1,.inl<|.nx ⟨rfl,rfl,by decide,⟨hp⟩⟩ (.nx ⟨⟨rfl,by simp,rfl⟩⟩ ?_)];show bX ç (λi ε=>∃ o5 o6 o7 o8,ε=[.fz<|aA c S,.fz<|.int m,.fz<|tb ç,.fz<|aK S.JO,.ow<|Q6 ş,o5,o6,o7,o8]) ⟨_,_,_,_,rfl⟩ ⟨rfl,.l .lst⟩ (λi ks ε hk J'=>?_) λε J'=>?_
 ·let#[nq]:=J';subst he;let#[O,W]:=hw ks<|ET hk;show⟨_,rfl,t9 ⟨⟨rfl,by simp,rfl⟩⟩ ?_⟩;show b3M S.JO (λj ε=>∃ o7 o8,ε=[.fz<|aA c S,.fz<|.int m,.fz<|tb ç,.fz<|aK S.JO,.ow<|Q6 ş,.fz<|rw ks,.ow<|R1 ((S.JO.take j).map λg=>iQ<|aV Ś (S.K5.map (·.1)) g N m),o7,o8]) ⟨_,_,rfl⟩ ⟨rfl,.l .lst⟩ (λj g ε hg J'=>?_) λε J'=>?_
  ·let#[o7,o8,he]:=J';subst he;let#[wy,SE]:=W g<|ET hg;let c1:=Ms.mk (c:=c) O (ET hg) RV hm hz;rw[SE]at c1;let rd:=eq_str (ε:=[some<|aA c S,some<|.int m,some<|tb ç,some<|aK S.JO,some<|Q6 ş,some<|rw ks,some<|R1 ((S.JO.take j).map λg=>iQ<|aV Ś Ħ g N m),some<|.str g,some<|iD (.inr wy)]) (ra:=rO Sub (rV 8)<|rC Pu) (rb:=rC<|.str "cut") Di rfl;rw[F5<|by decide]at rd;show#[_,1,_,.nx #[#[5],c1]<|.nx fH #[1,by simp;omega,.z Di],.fz<|.str g,.fz<|iD (.inr wy),?_];rw[aQ hg,EX,Fh,GF,SE,show R1 (_++[iQ<|.inr wy])=.lst (List.map tb _++[tb wy]) from congrArg D.lst EX];rfl
  ·let#[o7,o8,he]:=J';rw[FE]at he;subst he;show#[_,#[_,2,by simp;omega,.z rfl],.fz<|rw ks,.fz<|R1 (aN S N m ks),o7,o8,?_];rw[aQ hk,EX,Fh,GF,show Q6 (_++[aN S N m ks])=.lst (List.map R1 _++[R1<|aN S N m ks]) from congrArg D.lst EX];rfl
 ·let#[xb,he]:=J';rw[FE]at he;subst he;show#[2]
inductive a7H (c:Cl) (C:Addr) (Rm:Ä):Ä
 |mk {S:NS}{m N:Nat}{p:Int}{d:D}:My.LV p=true->p<=1000000->QY S (![]) N->(∀ g∈S.JO,∃ w,aV (aI S.Jy ![]) Ħ g N m=.inr w)->S.JD.length<=1000->1<=m->m<=1000->m * N+N<=1000->(S.JO.length:Int)<=p->Rm [kr,tb [[]],Q6 [aN S N m []]] d->a7H c C Rm [aA c S,DC,.int 0] d
def KO:au [c2Z,c0y,"needed"] á (aa iG):=Nz
universe e
universe K72
namespace L2
open PySem PySem.Spec PyProof.Rows
abbrev Er:=Addr×List (Str×D)
theorem NM (H)(dx)(fs:List (Str×D)):Prop:=∃ ys,H dx=!.xd ys/\Paired (λ(y:Str×V) (d:Str×D)=>y.1=d.1/\DR H d.2 y.2) ys fs
theorem V4 (R:List D->Er->Prop):Sp:=λvs H _ E=>∃ F l C,gR F H/\JS F l vs/\R l C/\∀ dx H',gR H H'->NM H' dx C.2->E b8a (!dx) H'
abbrev Rz:=Ev->Er->Prop
theorem tX (W:St->XK)(F0 H0:Hp)(e:Rz):TS:=λ_ σ H=>∃ F ε C,Ss F0 H0 F σ H ε/\e ε C/\∀ σ' dx H',gR H0 H'->NM H' dx C.2->W σ' b8a (!dx) H'
theorem QX (X)(W:St->XK)(st)(e:Rz):Prop:=∀ F0 H0,PS X st (tX W F0 H0 e)
theorem Zb (X)(W:St->XK)(st:Í)(e:Rz):Prop:=∀ F0 H0,N7 X st (tX W F0 H0 e)
section
variable {st:Stmt}{r:Rs}{z:Rz}{rt:Å}
inductive zNx (r:Rs) (z:Rz) (ε:Ev) (C:Er):Prop
 |mk {ε1:Ev}:r ε (.nx ε1)->z ε1 C->zNx r z ε C
def xC (h:QS X st r)(k:Zb X W ss z):Zb X W (st::ss) (zNx r z):=λF0 H0=>(ai fj<|k F0 H0).imp λE σ H J'=>by let#[Xv,C,S,#[nU],p]:=J';show#[Xv,_,S,h1,λσ' H' F' u S'=>#[F',_,C,S',h2,p]]
def x1 (h:QX X W st z):Zb X W (st::ss) z:=λF0 H0=>(ai fj Nq).imp λE σ H h=>h
inductive zIf (rt:Å) (z:Rz) (ε:Ev) (C:Er):Prop
 |t:rt Ĭ true->z ε C->zIf rt z ε C
def b0K (h:PT X c sV)(ha:Zb X W a z):QX X W De (zIf rt z):=λF0 H0=>(gy h (ha F0 H0) Nq).imp λE σ H ⟨F,ε,C,S,⟨h1,h2⟩,p⟩=>
 #[_,_,true,S.a,h1,λH1 e1=>#[Xv,C,S.KN e1,h2,p]]
inductive AV (q:Ô) (rb:Rs) (zb:Rz):Ev->List D->Er->Prop
 |next {ε ε1 ε2:Ev}{d:D}{l:χ}{C:Er}:q d ε ε1->rb ε1 vc->AV q rb zb ε2 l C->AV q rb zb ε (d::l) C
 |ex {ε ε1:Ev}{d:D}{l:χ}{C:Er}:q d ε ε1->zb ε1 C->AV q rb zb ε (d::l) C
inductive ZV (ri:Ri) (q:Ô) (rb:Rs) (zb:Rz) (ε:Ev) (C:Er):Prop
 |mk {l:χ}:ri Ec l->AV q rb zb ε l C->ZV ri q rb zb ε C
set_option tactic.hygienic true in def xL (hp)(hc)(hi:PI X tg iter (tI ri))(ht:PG X tg g)(hg:W7 g q)(hb:Pn X ss rb)(hx:Zb X W ss zb)(hs):
  QX X W IR (ZV ri q rb zb):=λF0 H0=>(bP hp hc hi ht (tb:=λE σ H=>tQ F0 H0 rb E σ H\/tX W F0 H0 zb E σ H) (λñ s σ H D I h=>h.elim (hb F0 H0 ñ s σ H D I)<|hx F0 H0 ñ s σ H D I) hs).imp fun E σ H ⟨F,ε,C,S,.mk (l:=l) h1 h2,p⟩=>by
 show#[F,_,l,S.z,h1,λJ H1 e1 hJ=>?_];show#[λi m σ H=>m=l.length - i/\i<=l.length/\∃ F' ε',gR _ F'/\Ss F0 H0 F' σ H ε'/\AV q rb zb ε' (l.drop i) C,#[_,1,FV _,_,ε,gR.refl _,S.grow e1,h2],?_];rintro i m σ H ⟨rfl,hi,F',ε',u,S',w⟩;by_cases c:i<l.length
 ·rw[Hm c]at w;let#[go,yl]:=(hJ.mono u).go H i l[i] S'.le<|ER c;show .inr #[go,?_]
  cases w with
  | next t b w=>
   show#[λσ' H'=>∃ F2,gR _ F2/\Ss F0 H0 F2 σ' H' _,λσ2 H2 J'=>(by let#[F2,u2,S2]:=J';show#[_,by omega,1,c,F2,_,u2,S2,w]),λx H2 y=>?_];let#[e2,hx]:=yl x H2 y;show hg _ _ _ _ _ _ _ _ x _ (S'.grow e2) hx t λσ3 S3=>.inl #[_,_,_,S3,b,λσ4 H4 F4 u4 S4=>#[F4,u.trans<|(aj S'.le).trans u4,S4]]
  | ex t b=>
   show#[λ_ _=>False,λ_ _ z=>z.elim,λx H2 y=>?_];let#[e2,hx]:=yl x H2 y;show hg _ _ _ _ _ _ _ _ x _ (S'.grow e2) hx t λσ3 S3=>.inr #[_,_,_,S3,b,p]
 ·rw[List.drop_of_length_le<|by lia]at w
  cases w
theorem Zd (C)(R:List D->List (Str×D)->Prop):Sp:=λvs H Q _=>∃ F ea l fs ws,vs=.ref ea::ws/\H ea=!AA ea C/\(∀ b o,F b=!o->b≠ea/\H b=!o)/\JS F l ws/\R l fs/\∀ dx H',(∀ b o,b≠ea->H b=!o->H' b=!o)->H' ea=!t8 ea C dx->NM (aW ea H') dx fs->Q .non H'
inductive zRz (C:Addr) (rs:Á) (R:List D->List (Str×D)->Prop) (ε:Ev):Er->Prop
 |mk {l:χ}{fs:List (Str×D)}:rs Ĭ l->R l fs->l.length<=1000->zRz C rs R ε (C,fs)
def a5x (O:rg X)(hc)(hw:b7h X W)(hg:Gl X x)(Dd:oz X.prog X.w X.K X.mg X.base k x C ps (Zd C R))(hr:JW X.base (k+1) X.A)(ha:PA X sQ DF)(NB)(QG)(LW:(backTo Kg zO).any (·.1)=false:=ā)(hn:X.base.err=none:=Ą):
  QX X W a7x (zRz C rs R):=λF0 H0=>(zT O hc hw hg Dd hr ha NB QG LW).imp λE σ H J'=>by
 let#[Xv,C',S,h,p]:=J';let#[zr]:=h;show Mu.go S.a h1 λvs H1 e1 S1 q1=>#[Fs (by rw[q1.length];show h3)<|by decide,λea PC=>#[_,ea,_,_,vs,1,ae,λb o w=>?_,q1,h2,λdx H' k1 k2 k3=>#[1,dx,k2,p _ _ _ (λb o w=>?_) k3]]]
 ·let:=S1.le _ _ w;let ne:=ak this PC;show#[ne,by rw[a8 ne];show this]
 ·let w1:=e1 _ _<|S.b0 _ _ w;let ne:=ak w1 PC;rw[aR ne];show k1 b o ne (by rw[a8 ne];show w1)
inductive AZ (rs:Á) (R:List D->Er->Prop) (ε:Ev) (C:Er):Prop
 |mk {l:χ}:rs Ĭ l->R l C->AZ rs R ε C
def Pp.go (S)(h:AZ rs R ε C)(p:∀ σ' dx H',gR H0 H'->NM H' dx C.2->W σ' b8a (!dx) H'):Pp (V4 R) W DF σ H Q:=by let#[nU]:=h;show Mu.go S.a h1 λvs H1 e1 S1 q1=>#[_,_,C,S1.le,q1,h2,λdx H' e=>p _ _ _<|S.b0.trans (e1.trans e)]
def c1e (h:PS X st (lu (Pp (V4 R) W DF) Ej)):QX X W st (AZ rs R):=λF0 H0=>h.imp λE σ H J'=>by let#[Xv,C,S,h,p]:=J';show Pp.go S h p
universe e
section
variable {K:Ψ}{st:Stmt}{k:Nat}{R:List D->Er->Prop}{z:Rz}
theorem b2q (n m:Nat)(z:Rz)(R:List D->Er->Prop):Prop:=∀ l C,R l C->l.length=m/\z (ent n l) C
def Nc.dvE (F:Nc K x ğ st f fd)(S:au N ps Bo)(t:b2q N.length ps.length z R)(b:∀ (JE:Value)(A:Ë)(outer:List Env)(s:Ê)(H:Hp)(E:XK),JW base k Ĕ->Zb ĺ iS zu z):K6 P w K mg base xj (k+1) f fd ps (V4 R):=
 F.okX S a28 λJE A outer s H vs Q E hr J'=>by let#[F,l,C,s1,hl,hR,q]:=J';show#[b9G]
def KD.dvE (F:KD K x ğ st f fd)(S:au N ps Bo)(t:b2q N.length ps.length z R)(b:∀ (JE:Value)(A:Ë)(outer:List Env)(s:Ê)(H:Hp)(E:XK),JW base k Ĕ->Zb ĺ iS zu z):K6 P w K mg base xj (k+1) f fd ps (V4 R):=
 KD.okX F S a28 λJE A outer s H vs Q E hr J'=>by let#[F,l,C,s1,hl,hR,q]:=J';show#[b9G]
def K6.qx (F:K6 P w K mg base Ld k f fd ps sp):K6 P w K mg base xj k f fd ps sp:=
 #[F.len,λA outer s H args us vs Q E hr he hb hv hs=>Il (F.run A outer s H args us vs Q E hr he hb hv hs) λr s' h=>by
  cases r with
  | error e=>show h.elim
  | ok f=>cases f <;> show h]
def K6.or (F:K6 P w K mg base CX k f fd ps sp)(F':K6 P w K mg base CX k f fd ps sp'):K6 P w K mg base CX k f fd ps λvs H Q E=>sp vs H Q E\/sp' vs H Q E:=
 #[λvs H Q E h=>h.elim (F.len vs H Q E)<|F'.len vs H Q E,λA outer s H args us vs Q E hr he hb hv hs=>hs.elim (F.run A outer s H args us vs Q E hr he hb hv)<|F'.run A outer s H args us vs Q E hr he hb hv]
universe e
open PySem.Calls PySem.W
open PySem.Builtin PySem.Builtin.ObjectAttr
def BO {K:Frag}(X:K.In s.heap)(hx:s.heap.get? x=!ox)(Tu)(OM)(Ts:ox.dict=!d)(U0:s.heap.Ns1 d m)(wi:Within a8W L)(hL:L.length<=1000)(hp:a4N K C=true)(ht:takerIn K C name=!none)(hh:hasDictIn K C=true)(h:∀ h' TY,h'.Ns1 d a8W->(∀ b o,b≠d->s.heap.get? b=!o->h'.get? b=!o)->R yf { s with heap:=h',toks:=TY }):
  codeAny Ē A a70 R s:=by
 let SF:=PySem.F.store_object;let#[od,es0,ep0,Rh,a1H]:=id U0;let I:W.InstAt s.heap x ox C !od:=#[hx,Tu,by unfold notCls;rw[OM],by rw[Ts];show Rh]
 let#[cd,hc,ho]:=any_some hp;let ne:cd.mro.isEmpty=false:=by cases q:cd.mro with|nil=>rw[q]at ho;cases ho|cons _ _=>rfl
 let sub:Looks Ē s.heap b8u true:=I.type.andThen<|looks_mroIn X (by unfold mroIn;rw[hc,Option.bind_some,if_neg (by rw[ne];decide),wA _ ho]);show codeAny_call_builtin SF.slot.plain SF.entry (@check_slot _ _ _ s "object.__setattr__" "object" "__setattr__" _ b8v [] _ SF.kind SF.split sub (SF.args _ _ v) ?_);let#[attr,ha,hr]:=Option.bind_eq_some_iff.mp ht;let hm:Looks Ē s.heap (mroOf<|.ref C) cd.mro:=(looks_clsIn X hc).andThen .now;let L3:Looks Ē s.heap b7d none:=by
  cases attr with
  | none=>show .now
  | some a=>
   let#[b,hb,e]:=FO.mp hr;show (looks_takesIn X hb).andThen ?_
   cases b with
   | true=>cases e
   | false=>show .now
 rw[osa_eq,refuse_eq];show EN<|EN b01;rw[ka _ _ ho];show F6<|EN a3S;let#[cd2,hc2,NP]:=any_some hh;let#[QI,g,dr,t,os]:=s;let#[zx]:=ox;subst Tu OM Ts;show EN<|F6 a3R;rw[NP];show F6 ?_;show EN<|F6 (EN (wpAny_nsSet1 U0 λh' RC hs=>?_));let#[c0F]:=RC.count wi;show EN (wpAny_lookBehind hoD (by rw[hdD];show pastItsLine_dict<|Fs hcD (by rw[Js];omega)) ?_);show F6 (h h' _ RC λb ob hbd hb=>(hs.2 b hbd).trans hb)
section
variable {σ:St}{H:Hp}
def b1d:∀ {fs:Î},fs.lookup g=!z->g∈fs.map (·.1):=by
 intro r'
 induction r' with
 | nil=>
  intro h
  cases h
 | cons p fs ih'=>
  intro h;rw[Io]at h
  cases hb:g==p.1 with
  | true=>simp_all
  | false=>rw[hb]at h;show Ft _ (ih' h)
def b0j (I)(e:H ea=!t8 ea C dx)(ed:H dx=!.xd fs)(hz:fs.length<=900)(T:Cf X.K C f)(ry)(h:∀ s',Inv X ñ σ (upd H dx b8b) s'->Q () s'):wpAny đ A b7N Q E s:=by
 let#[c1q]:=id<|(I.JM ea _ e).1;let#[mA,U0,a1I]:=(I.JM dx _ ed)
 let#[od,es0,ep0,Rh,a1H]:=id U0;let IA:W.InstAt s.heap ea ox C !od:=#[hx,hc,by unfold notCls;rw[hd],by rw[Ts];show Rh]
 let wi:=Within.cons f u λg hg=>by
  let hr:=a1I g
  cases hl:fs.lookup g with
  | none=>rw[hl]at hr;cases hm:mA g with
   | none=>show absurd hm hg
   | some z=>rw[hm]at hr;show (hr).elim
  | some z=>show b1d hl
 show set_plain I.LR IA T.sa (BO I.LR hx hc hd Ts U0 wi (by rw[FU,EO];lia) T.ov T.tk T.hd λh' TY RC hk=>?_);show h _ (I.PJ (ch:=[]) rfl ?_ ?_ I.bare λb z=>absurd z<|by simp)
 ·let old:∀ b,b≠dx->upd H dx (.xd<|(f,y)::fs) b=H b:=λb hb=>a8 hb;show#[b9o]
  ·show hk b o (λz=>by rw[z,ed]at n;cases n) q
  ·show#[o.slots,hk b o (λz=>by rw[z,ed]at n;cases n) q]
  ·rw[old b (λz=>by rw[z,ed]at n;cases n)];show n
  ·by_cases hb:b=dx
   ·let#[o',_,_,ho',_]:=id RC
    simp_all
   ·show#[o,hk b o hb q]
  ·rw[old b (λz=>by rw[z,ed]at q;cases q)];show q
  ·rw[old b (λz=>by rw[z,ed]at q;cases q)];show q
 ·intro a v q;by_cases hb:a=dx
  ·rw[hb,ae]at q
   cases q;rw[hb];show#[_,RC,λg=>?_];by_cases hg:g=f
   ·rw[if_pos hg,hg];simp only[List.lookup,beq_self_eq_true];show ry
   ·rw[if_neg hg];let:(g==f)=false:=by simpa using hg
    simp only[List.lookup,this];show a1I g
  ·rw[a8 hb]at q;show (I.JM a v q).KN a9k (λc MQ=>?_) λc xs MQ=>?_
   ·grind
   ·rw[a8 λz=>by simp_all];show MQ
   ·rw[a8 λz=>by simp_all];show MQ
theorem Xu (C)(ta tv:TE)(f):TS:=λD σ H=>tv σ H λy H1=>ta σ H1 λx H2=>∃ ea dx fs,x=.ref ea/\H2 ea=!t8 ea C dx/\H2 dx=!.xd fs/\fs.length<=900/\D.nx σ (upd H2 dx b8b)
def uF (T:Cf X.K C f)(ha:PE X o ta)(hv)(hs:swapsWith value pO pos.line X.env=pure false):PS X Tl (Xu C ta tv f):=by intro ñ s σ H D I h;show IQ ue hs;let#[x,oo,rx,ea,uk,he,hd,hz,q2]:=J';subst ex;obtain rfl:ov=Value.ref ea:=rx;show b0j I2 he hd hz T ry λs3 I3=>#[σ,_,I3,q2]
universe e
universe L2
namespace K72
open PySem L2
open PyProof.Rows (boot_all boot_bool boot_dict boot_int boot_list boot_sorted boot_str boot_tuple)
def a6G:au ý ý (aa pQ):=Nz
def iY [Bx:Bd](T:Cf Bx.K C "needed"):Tm 1 "__init__" "SmallPrime.__init__" pQ ý (Zd C λl fs=>∃ i:Int,l=uf/\fs=(uJ:List (Str×D))):=by
 intro f fd F;show F.ok a6G b7y CZ
 ·let#[_,uU,_,_,hl,#[i,1,_],_]:=h;let#[v,_,1,_,h]:=hl
  cases h;rfl
 ·let#[_,uU,he,_,hl,#[i,2],q]:=h;let#[v,_,1,hv,h]:=hl
  cases h
  cases hv;show#[_,aq<|yw T (pv 0) (pv 1) rfl,?_];show⟨_,rfl,_,rfl,ea,rfl,he,λdx hd ne=>q dx _ (λb o nb hb=>?_) ae #[_,by rw[aR ne,a8 ne];show ae,.cons b8U .nil]⟩;rw[a8 nb,a8<|ak hb hd];show hb
inductive a4U (vs:π) (H:Hp) (Q:VK) (E:XK):Prop
 |mk (a:Addr) (xs:π):vs=CG->H a=!.lst xs->(∀ l H',gR H H'->H l=none->H' l=!.lst xs->Q LF H')->a4U vs H Q E
def b0g:au kC kC (aa (top 5)):=Nz
def a9V [Bx:Bd](h1:Bx.mg "isinstance"=none)(h2:Bx.mg "list"=none)(TL:W.kitOne Bx.K Ļ Ļ=!true):Tk 1 "kept" (top 5) kC a4U:=by
 intro f fd F;show F.k b0g λJE A outer s H vs Q E hr h=>?_
 ·let#[a,xs,1,ha,q]:=h;show#[_,ai (gy (cC<|bQ (Ei Bx.K) rfl h1 c9 (a9 A3<|a9 (lU (v:=.ty "list") rfl h2 boot_list rfl) Jx)) (aq<|bB (dA (listS Bx.K) rfl h2 boot_list<|a9 A3 Jx)) KH) Nq,?_];show#[_,1,.ref a,Cg,1,.lst ha,TL,_,1,Cj ?_];show#[_,1,a,xs,1,.inl<|JU.of ha,λl H' e h0 h1=>q l H' e h0 h1]
def a6S:au ã ã (aa sX):=Nz
def v4 [Bx:Bd](T1:Cf Bx.K C "fallen")(T2:Cf Bx.K C "name")(T3:Cf Bx.K C "numbers")(QT:Kn 1 "kept" kC a4U):Tm 2 "__init__" "Cut.__init__" sX ã (Zd C λl fs=>∃ xs z ys,l=b3H/\fs=(a4i:List (Str×D))):=by
 intro f fd F;show F.ok a6S b7y CZ
 ·let#[_,uU,_,_,hl,#[xs,z,ys,1,_],_]:=h;let#[Qc,Cg,1,Cg,1,_,h]:=hl
  cases h;rfl
 ·let#[F0,uU,he,hF,hl,#[xs,z,ys,2],q]:=h;let#[Qc,#[a,us,1,ha,dxs],Qc,hz,Qc,#[b,vs,1,hb,dys],h]:=hl
  cases hz
  cases h;let ha:=(hF _ _ ha).2;let#[nbe,hb]:=hF _ _ hb;show#[_,ai (yw T1 A3 (bg QT hr.m rfl<|a9 iU Jx) rfl)<|ai (uF T2 A3 wJ rfl) (aq<|uF T3 A3 (bg QT hr.m rfl<|a9 (pv 3) Jx) rfl),?_];show⟨_,rfl,a,us,rfl,ha,λla H1 e1 h1 k1=>#[_,1,ea,1,e1 _ _ he,λdx SN ne=>?_]⟩;show#[Ch,ea,Ep,ae,(by rw[a8 ne];show ae),(by change 1<=900;decide),?_];let kb:∀ c o,c≠ea->H c=!o->(upd (upd a8X ea<|t8 ea C dx) dx<|.xd [c00]) c=some o:=λc o nc hc=>by let hc1:=e1 _ _ hc;rw[a8<|ak hc1 SN,a8 nc,a8<|ak hc1 SN];show hc1
  show#[_,1,b,vs,1,kb b _ nbe hb,λlb H2 e2 h2 k2=>?_];show#[_,1,ea,Ep,e2 _ _ (by rw[a8 ne.symm];show ae),e2 _ _ ae,(by change 2<=900;decide),?_];let nl:∀ c o,upd (upd a8X ea<|t8 ea C dx) dx (.xd [c00]) c=some o->c≠lb:=λc o hc z=>by rw[z,h2]at hc;cases hc
  let nle:la≠ea:=λz=>by rw[z]at h1;rw[h1]at he;cases he
  let nld:la≠dx:=λz=>by rw[z,SN]at k1;cases k1
  let ebd:=(nl dx _ ae).symm;let ebe:=(nl ea _ (by rw[a8 ne.symm];show ae)).symm;let fin:∀ c o,c≠ea->H c=!o->upd H2 dx (.xd [("numbers",.ref lb),("name",.str z),b0l]) c=!o:=λc o nc hc=>by rw[a8<|ak (e1 _ _ hc) SN];show e2 _ _ (kb c o nc hc)
  let sm:gR F0 (aW ea _):=λc o w=>by rw[aR (hF _ _ w).1];show fin c o (hF _ _ w).1 (hF _ _ w).2
  show q dx _ fin ?_ #[_,by rw[aR ne];show ae,.cons #[1,lb,vs,1,by rw[aR ebe,a8 ebd];show k2,JS.mono sm _ _ dys]<|.cons b8U (.cons #[1,la,us,1,?_,JS.mono sm _ _ dxs] .nil)]
  ·rw[a8 ne.symm];show e2 _ _ (by rw[a8 ne.symm];show ae)
  ·rw[aR nle,a8 nld];show e2 _ _ (by rw[a8 nld,a8 nle,a8 nld];show k1)
open L2.Wy
open PyProof.Rows (boot_any)
def b9J:∀ (n:Nat)(xs:List α)(I:Õ){ε:Ev},I 0 ε->xs[n]?=!x->a7p->
  (∀ ε,I n ε->∃ ε1,q (u x) ε ε1/\zb ε1 C)->AV q rb zb ε mr C:=by
 intro n
 induction n with
 | zero=>
  intro xs I ε h0 hx _ fin
  cases xs with
  | nil=>cases hx
  | cons y xs=>cases hx;let#[ε1,a,b]:=fin ε h0;show .ex a b
 | succ n ih=>
  intro xs I ε h0 hx k fin
  cases xs with
  | nil=>cases hx
  | cons y xs=>
   let#[ε1,a,ε2,b,c]:=k 0 y ε b8V rfl h0;show .next a b (ih xs (λi=>I<|i+1) c hx (λi y ε hi hy h=>k (i+1) y ε b5t hy h) fin)
section
variable {c:Cl}{aC:Addr}
inductive wv (S:NS) (m N:Nat) (ç:Θ) (ks:Ξ) (g:Str) (ns:Ξ):Prop
 |mk {i n:Nat}:ç[i]?=!ks->S.JO[n]?=!g->aV xF Ħ g N m=.inl ns->(∀ j h,j<n->S.JO[j]?=!h->∃ w,aV xF Ħ h N m=.inr w) ->
  (∀ j Sz,j<i->ç[j]?=!Sz->∀ h∈S.JO,∃ w,aV (aI S.Jy !Sz) Ħ h N m=.inr w)->wv S m N ç ks g ns
theorem CV (ks:Ξ)(g:Str)(ns:Ξ):List (Str×D):=[("numbers",rw ns),("name",.str g),("fallen",rw ks)]
inductive zm (c:Cl) (aC:Addr):List D->Er->Prop
 |mk {S:NS}{m N:Nat}{ç:Θ}{ks:Ξ}{g:Str}{ns:Ξ}:ç.length<=1000->(∀ ks∈ç,QY S (!ks) N)->wv S m N ç ks g ns->S.JD.length<=1000->1<=m->m<=1000->m * N+N<=1000->zm c aC b5r (aC,CV ks g ns)
set_option tactic.hygienic true in def jy [Bx:Bd](hn)(F:Fu Bx.K "ways_by_choice" (top 82) f fd)(Jw)(L8)(V8:CM 2 "Cut" aC ã (Zd aC λl fs=>∃ xs z ys,l=[.lst xs,.str z,.lst ys]/\fs=([("numbers",.lst ys),("name",.str z),("fallen",.lst xs)]:List (Str×D)))):PH (Q0 Bx.P Bx.w) 5 f fd è (V4 (zm c aC)):=by
 let ND:=Kw.nd;show F.dvE Kw ?_ λJE A outer s H E hr=>(xC (qS (pS 3 ND<|eI (Đ 0) Jw hr.m) λ_ _ _ h=>h)
 (xC (qO (pS 4 ND<|bV JC) λ_ _ _ h=>h)
 (x1 (xL PassesOwn.leaving rfl (b2T<|Đ 2) (pN 5 ND) (aD 5)
  (qC (qo 6 ND<|bV JC)
 (qC (Px PassesOwn.leaving rfl (ar<|Đ 3) (pN 7 ND) (aD 7)
  (qC ō
 (qC (qI KK
  (q1 b4b)
  q0)
 Ł)))
 (qZ 6<|q1 (qA GM λ_ _ _ h=>h))))
  (xC (qO (pS 6 ND<|bV JC) λ_ _ _ h=>h)
 (x1 (xL PassesOwn.leaving rfl (b2T<|Đ 3) (pN 7 ND) (aD 7)
  (qC ō
 (qC (qI KK
  (q1 b4b)
  q0)
 Ł))
  (xC (qS (pS 8 ND<|dF L8 hr.m rfl (da (Đ 0)<|da (Đ 7) (da (Đ 1)<|da (Đ 5) JC))) λ_ _ _ h=>h)
 (x1<|b0K KK (x1<|a5x lV rfl b3n rfl V8 hr.m (da (Đ 5)<|da (Đ 7) (da (dS (aJ hr) (Đ 8)<|dC b8) JC))))))))))))
 rintro _ _ @⟨S,m,N,ç,Y8,g0,ns,hc,hw,⟨hi0,hg0,ec,hnn,hb⟩,hp,RV,hm,hz⟩;rename_i i0 n0;let ll:S.JO.length<=1000:=by unfold NS.JO;rw[EO];show Fs (FD _ _) hp
 show⟨rfl,.mk ⟨rfl,rfl,by decide,⟨hp⟩⟩<|.mk ⟨⟨rfl,by simp,rfl⟩⟩ (.mk rfl ?_)⟩;show b9J i0 ç (λi ε=>∃ o5 o6 o7 o8,ε=[.fz<|aA c S,.fz<|.int m,.fz<|tb ç,.fz<|aK S.JO,.ow<|Q6 ş,o5,o6,o7,o8]) ⟨_,_,_,_,rfl⟩ hi0 (λi ks ε hi hk J'=>?_) λε J'=>?_
 ·let#[o5,o6,o7,o8,he]:=J';subst he;let lt:=(ES.mp hk).1;let O:=hw ks<|ET hk;let W:=hb i ks hi hk;show⟨_,rfl,t9 ⟨⟨rfl,by simp,rfl⟩⟩ ?_⟩;show b3M S.JO (λj ε=>∃ o7 o8,ε=[.fz<|aA c S,.fz<|.int m,.fz<|tb ç,.fz<|aK S.JO,.ow<|Q6 ş,.fz<|rw ks,.ow<|R1 ((S.JO.take j).map λg=>iQ<|aV Ś (S.K5.map (·.1)) g N m),o7,o8]) ⟨_,_,rfl⟩ ⟨rfl,.l .lst⟩ (λj g ε hg J'=>?_) λε J'=>?_
  ·let#[o7,o8,he]:=J';subst he;let#[wy,SE]:=W g<|ET hg;let jl:=(ES.mp hg).1;let c1:=Ms.mk (c:=c) O (ET hg) RV hm hz;rw[SE]at c1;let rd:=eq_str (ε:=[some<|aA c S,some<|.int m,some<|tb ç,some<|aK S.JO,some<|Q6 ş,some<|rw ks,some<|R1 ((S.JO.take j).map λg=>iQ<|aV Ś Ħ g N m),some<|.str g,some<|iD (.inr wy)]) (ra:=rO Sub (rV 8)<|rC (.int 0)) (rb:=rC<|.str "cut") #[2,.t rfl] rfl;rw[F5<|by decide]at rd;show#[_,1,_,.nx #[#[5],c1]<|.nx (.f rd rfl) #[1,by simp;omega,.z #[2,.t rfl]],.fz<|.str g,.fz<|iD (.inr wy),?_];rw[aQ hg,EX,Fh,GF,SE,show R1 (_++[iQ<|.inr wy])=.lst (List.map tb _++[tb wy]) from congrArg D.lst EX];rfl
  ·let#[o7,o8,he]:=J';rw[FE]at he;subst he;show#[_,#[_,2,by simp;omega,.z rfl],.fz<|rw ks,.fz<|R1 (aN S N m ks),o7,o8,?_];rw[aQ hk,EX,Fh,GF,show Q6 (_++[aN S N m ks])=.lst (List.map R1 _++[R1<|aN S N m ks]) from congrArg D.lst EX];rfl
 ·let#[o5,o6,o7,o8,he]:=J';subst he;let O:=hw Y8<|ET hi0;show⟨_,rfl,.mk ⟨⟨rfl,by simp,rfl⟩⟩ (.mk (l:=S.JO.map .str) rfl ?_)⟩;show b9J n0 S.JO (λj ε=>∃ o7 o8,ε=[.fz<|aA c S,.fz<|.int m,.fz<|tb ç,.fz<|aK S.JO,.ow<|Q6 ((ç.take i0).map<|aN S N m),.fz<|rw Y8,.ow<|R1 ((S.JO.take j).map λg=>iQ<|aV (aI S.Jy<|some Y8) (S.K5.map (·.1)) g N m),o7,o8]) ⟨_,_,rfl⟩ hg0 (λj h ε hj hh J'=>?_) λε J'=>?_
  ·let#[o7,o8,he]:=J';subst he;let#[wy,SE]:=hnn j h hj hh;let jl:=(ES.mp hh).1;let c1:=Ms.mk (c:=c) O (ET hh) RV hm hz;rw[SE]at c1;let rd:=eq_str (ε:=[some<|aA c S,some<|.int m,some<|tb ç,some<|aK S.JO,some<|Q6 ((ç.take i0).map<|aN S N m),some<|rw Y8,some<|R1 ((S.JO.take j).map λg=>iQ<|aV (aI S.Jy<|some Y8) Ħ g N m),some<|.str h,some<|iD (.inr wy)]) (ra:=rO Sub (rV 8)<|rC (.int 0)) (rb:=rC<|.str "cut") #[2,.t rfl] rfl;rw[F5<|by decide]at rd;show#[_,1,_,.nx #[#[5],c1]<|.nx (.f rd rfl) #[1,by simp;omega,.z #[2,.t rfl]],.fz<|.str h,.fz<|iD (.inr wy),?_];rw[aQ hh,EX,Fh,GF,SE,show R1 (_++[iQ<|.inr wy])=.lst (List.map tb _++[tb wy]) from congrArg D.lst EX];rfl
  ·let#[o7,o8,he]:=J';subst he;let c1:=Ms.mk (c:=c) O (ET hg0) RV hm hz;rw[ec]at c1;let rd:=eq_str (ε:=[some<|aA c S,some<|.int m,some<|tb ç,some<|aK S.JO,some<|Q6 ((ç.take i0).map<|aN S N m),some<|rw Y8,some<|R1 ((S.JO.take n0).map λg=>iQ<|aV (aI S.Jy<|some Y8) Ħ g N m),some<|.str g0,some<|iD (.inl ns)]) (ra:=rO Sub (rV 8)<|rC (.int 0)) (rb:=rC<|.str "cut") #[2,.t rfl] rfl;rw[EY rfl]at rd;show#[_,1,.mk #[#[5],c1]<|.t rd (.mk #[2,#[2,.t rfl],1] #[_,_,_,2] (by change 3<=1000;decide))]
universe e
theorem okN (ch)(n:Int):Bool:=decide (ch.length=0) || decide b1v
theorem lR (ch)(b:Θ)(n:Int):Θ:=if okN ch n=true then b++[ch++[n]] else b
theorem bS (ç)(nums):Θ:=ç.foldl wZ []
def a3f (ch):∀ (nums:Ξ)(b:Θ),(nums.foldl zB b).length<=b.length+nums.length:=by
 intro r'
 induction r' with
 | nil=>
  intro b;show F8 _
 | cons n ns ih'=>
  intro b;rw[GU,FU];show Fs (ih' _) ?_;unfold lR;split <;> simp <;> lia
def a49 (nums):∀ (ç b:Θ),(ç.foldl wZ b).length<=b.length+ç.length * nums.length:=by
 intro r'
 induction r' with
 | nil=>
  intro b;simp
 | cons ch cs ih'=>
  intro b;rw[GU,FU,Im];let h1:=ih'<|nums.foldl zB b;let h2:=a3f ch nums b
  lia
def b6m {ch:Ξ}(h:ch.length≠0):P5 (ch.map D.int) (-1)=!.int (ch.getD (ch.length - 1) 0):=by
 let h2:ch.length - 1<ch.length:=#[]
 unfold P5 Vx;rw[EO,if_neg<|by lia,if_pos<|by lia,show (-1+(ch.length:Int)).toNat=ch.length - 1 by lia];simp[ER h2]
theorem fB (nums):Nat->Θ
 | 0=>[[]]
 | k+1=>bS (fB nums k) nums
theorem cK (nums):Nat->Θ
 | 0=>[[]]
 | k+1=>cK nums k++fB nums (k+1)
section
variable {c:Cl}
inductive b63:Ä
 |mk {ç:Θ}{nums:Ξ}:ç.length * nums.length<=1000->(∀ ch∈ç,ch.length<=1000)->b63 [tb ç,rw nums] (tb (bS ç nums))
def b1S [Bx:Bd](T:jO Bx.mg):Tk 1 "longer_by_one" (top 2) b58 (Pr b63):=by
 show KS [c1J,"number"] ?_ λ_ _ _ _ _ _ _ hr ND=>(qC db
 (qC (Px F9 rfl ż sE (aD 3)
  (q1 (Px F9 rfl ST DI (aD 4)
  (q1 (qI (PW.pt<|dOr (dT bc cv Og dI) (mP<|dT jt cF (Đ 4) (Kh hr (Đ 3)<|dNg b8)))
  (q1<|qA (aw<|OS Bx.K Ff Fn Fm aB wJ (a9 (Q5 (Đ 3) (bV<|da (Đ 4) JC).p) Jx)) (λ_ _ _ h=>h))
  q0)))))
 Dr))
 rintro _ _ @⟨ç,nums,hz,hc⟩;show .nx AI ?_;show bX ç (λi ε=>∃ o3 o4,ε=[.fz<|tb ç,.fz<|rw nums,.ow<|tb (bS (ç.take i) nums),o3,o4]) ⟨_,_,rfl⟩ ⟨rfl,.l .lst⟩ (λi ch ε hi J'=>?_) λε J'=>?_
 ·let#[o3,o4,he]:=J';subst he;let WW:=(ES.mp hi).1;let bl:=a49 nums vX [];rw[Fd,Nat.min_eq_left<|by lia]at bl;let bm:=Nat.mul_le_mul_right nums.length (show i+1<=ç.length by lia);show⟨_,rfl,vH nums (λj ε=>∃ o4,ε=[.fz<|tb ç,.fz<|rw nums,.ow<|tb ((nums.take j).foldl zB<|bS vX nums),.fz<|rw ch,o4]) ⟨_,rfl⟩ ⟨rfl,.l .lst⟩ (λj n ε hj J'=>?_) λε' J'=>?_⟩
  ·let#[o4,he]:=J';subst he;let hjl:=(ES.mp hj).1;let b2:=a3f ch (nums.take j)<|bS vX nums;rw[Fd,Nat.min_eq_left<|by lia]at b2;let b3:(bS vX nums).length<=i * nums.length:=by unfold bS;simpa using bl
   rw[aQ hj,Ju,GU,List.foldl_nil];generalize (nums.take j).foldl zB (bS vX nums)=b at b2 ⊢;let r1:=eq_int (ε:=a3O) (ra:=rF LD<|rA Aa OH) (rb:=rC<|.int 0) ⟨⟨rfl,rfl⟩,LD.m⟩ rfl;let ho:rOr (λε b=>rO rS (rF LD<|rA Aa OH) XT ε<|.bl b) (λε b=>rO a8J yT (rO Sub Aa<|rC (.int<|-1)) ε<|.bl b) a3O (okN ch n):=by
    by_cases c0:ch.length=0
    ·rw[EY<|by lia]at r1;rw[show okN ch n=true by simp[okN,c0]];show .t r1
    ·rw[F5<|by lia]at r1;rw[show okN ch n=decide b1v by unfold okN;rw[F5 c0,Bool.false_or]];show .f r1 (gt_int rfl #[2,.l .lst<|b6m c0])
   by_cases c1:okN ch n=true
   ·rw[c1]at ho;show#[_,1,_,.t ho #[1,by simp;lia,.z #[1,nK,.l (by let:=hc ch<|ET hi;simp;lia)]],.fz<|.int n,?_];rw[show lR ch b n=b++[ch++[n]] from if_pos c1,show tb (b++[ch++[n]])=.lst (b.map rw++[rw (ch++[n])]) from congrArg D.lst EX,show rw (ch++[n])=.lst (ch.map .int++M1) from congrArg D.lst EX];rfl
   ·rw[Bool.eq_false_iff.mpr c1]at ho;show#[_,1,_,.f ho rfl,.fz<|.int n,by rw[show lR ch b n=b from if_neg c1];rfl]
  ·let#[o4,he]:=J';subst he;show#[.fz<|rw ch,o4,?_];rw[FE,aQ hi];unfold bS;rw[Ju];rfl
 ·let#[_,_,he]:=J';rw[FE]at he;subst he;show#[2]
inductive cI (c:Cl):Ä
 |mk {S:NS}{k:Nat}:S.Jy.length<=1000->k<=1000->(∀ j,j<k->(fB ě j).length * S.Jy.length<=1000/\(∀ ch∈fB ě j,ch.length<=1000)/\(cK ě j).length<=1000)->cI c [aA c S,.int k] (tb (cK ě k))
def b08 [Bx:Bd](T:Z5 Bx.mg)(JB)(Ls:Kn 1 "longer_by_one" b58 (Pr b63)):Tk 2 "choices" (top 3) ÿ (Pr (cI c)):=by
 show KS ["numbers","told","longest","turn"] ?_ λ_ _ _ _ _ _ _ hr ND=>(qC (Vb (K:=Bx.K) (n:=0) (b5 (i:=2) ND rfl rfl rfl b8c pf
  ē
  MO
  Pi) rfl)
 (qC (qs 3 ND (bV<|da (bV JC).p JC).p)
 (qC (qs 4 ND (bV<|da (bV JC).p JC).p)
 (qC (qL F9 rfl yR nA (aD 5)
  (qC (qs 4 ND<|dF Ls hr.m rfl b23)
 (q1<|qs 3 ND (Q5 (Đ 3)<|Đ 4))))
 ug))))
 rintro _ _ @⟨S,k,hl,hk,hb⟩;show .nx #[aZ (xs:=S.Jy) (u:=bN) (h:=λt=>.int t.1) tZ hl λt _=>Cr]<|.nx ⟨⟨⟨⟨rfl,by simp,rfl⟩,rfl⟩,by simp,rfl⟩⟩ (.nx ⟨⟨⟨⟨rfl,by simp,rfl⟩,rfl⟩,by simp,rfl⟩⟩ ?_);rw[show D.lst (S.Jy.map λt=>D.int t.1)=rw ě by rw[show rw ě=.lst ((S.Jy.map (·.1)).map .int) from rfl,EZ];rfl];show bX (List.range k) (u:=λ(i:Nat)=>.int (i:Int)) (λi ε=>∃ o5,ε=[.fz<|aA c S,.fz<|.int k,.fz<|rw ě,.fz<|tb (cK ě i),.fz<|tb (fB (S.Jy.map (·.1)) i),o5]) ⟨_,rfl⟩ ⟨k,hk,⟨rfl,rfl⟩,(bo _).symm⟩ (λi x ε hi J'=>?_) λε J'=>?_
 ·let#[o5,he]:=J';subst he;let WW:=(fR hi).2;let#[z6]:=hb i WW;show#[_,1,_,.nx #[#[3],.mk (by rw[EO];show b1) b2] #[2,.l ?_],.fz<|.int x,?_]
  ·let:=a49 ě (fB ě i) [];rw[EO]at this;rw[EO,EO];let:(bS (fB ě i)<|S.Jy.map (·.1)).length<=1000:=by unfold bS;simpa using Fs this (by simpa using b1)
   lia
  ·rw[show cK ě (i+1)=cK ě i++fB ě (i+1) from rfl,show tb (cK ě i++fB ě (i+1))=.lst (List.map rw _++List.map rw _) from congrArg D.lst EX];rfl
 ·let#[o5,he]:=J';rw[G9]at he;subst he;show#[2]
universe e
abbrev WL (gs:η)(J:Str->D):D:=KR (gs.map λg=>(.inr g,.tup [.str "reads",J g]))
abbrev kR (gs:η)(J:Str->D):D:=KR (gs.map λg=>(.inr g,J g))
def WK {gs:η}(nd:gs.Nodup){V:Str->D}(h:g∈gs):cy (gs.map λg=>(.inr g,V g)) (.inr g)=!V g:=by show dH ?_ (EW.mpr #[g,h,1]);rw[EZ];show Ii _ (λa b VL e=>VL<|Sum.inr.inj e) nd
structure a2R (mg:Ω):Prop where
 Lo:mg "dict"=none
inductive a6A:Ä
 |mk {gs:η}{J:Str->D}:gs.Nodup->a6A [WL gs J] .non
def b1Z [Bx:Bd]:Tk 1 "first_deaf" (top 91) za (Pr a6A):=by
 show KS ["listener"] ?_ λ_ _ _ _ _ _ _ hr ND=>(qC (Px F9 rfl ż (pN 1 ND) (aD 1)
  (q1 (qI (dT iH pe (Kh hr (Kh hr (Đ 0)<|Đ 1) dI) bO)
  (qr<|Đ 1)
  q0)))
 AE)
 rintro _ _ @⟨gs,J,nd⟩;show ?_;show bX gs (λi ε=>∃ o,ε=[.fz _,o]) #[_,1] mj (λi g ε hi J'=>?_) λε J'=>by let#[o,he]:=J';show#[2]
 let#[o,he]:=J';subst he;let:=ne_str (ε:=[some<|WL gs J,!_]) (ra:=rO Sub (rO Sub rq<|rV 1)<|rC Pu) (rb:=rC<|.str "reads") #[#[2,.k (WK nd<|ET hi) kS],1,.t rfl] rfl;show#[_,1,_,.f this rfl,_,1]
inductive b0s:Ä
 |mk {gs:η}{J:Str->D}:gs.Nodup->gs.length<=1000->b0s [WL gs J] (kR gs J)
def a3p [Bx:Bd](T:a2R Bx.mg):Tk 1 "tables_of" (top 92) za (Pr b0s):=by
 show KS [] ?_ λ_ _ _ _ _ _ _ hr ND=>(qr (UU hZ qU rfl T.Lo boot_dict (da (Pd 0 rfl (cS 1 [0] ["listener","judgements"]) ż
  ē
  MO
  (λ_ _ _ _ _=>jL<|da (Đ 0) (da (Kh hr jw dI) JC))) JC)))
 rintro _ _ @⟨gs,J,nd,hl⟩;show#[#[#[aZ mj hl λg hg=>EH,1],UY.m hl<|Ii _ (λa b VL e=>VL<|Sum.inr.inj e) nd],1];show#[#[1,#[#[2,.k (WK nd hg) kS],1,.t rfl],1],pb]
abbrev gK (gs:η)(J:List Int->Str->D)(chs:Θ):D:=.lst (chs.map λch=>.tup [rw ch,kR gs YM])
inductive m7 (Rc Rj:Ä):Ä
 |mk {n pl:D}{m p k:Int}{chs:Θ}{gs:η}{J:List Int->Str->D}:Rc [n,.int k] (tb chs)->chs.length<=1000->gs.length<=1000->gs.Nodup->(∀ ch∈chs,Rj [n,pl,DC,rw ch] (WL gs YM))->m7 Rc Rj [n,pl,DC,.int k] (.tup [.str "stands",gK gs J chs])
def c0Y [Bx:Bd](F:KD Bx.K "stands" "stands" (top 93) f fd)(Ko:Kn 2 "choices" ÿ (Pr Rc))(PV:Kn 8 "judged" Þ (Pr Rj))(MI:Kn 1 "first_deaf" za (Pr a6A))(Ng:Kn 1 "tables_of" za (Pr b0s)):PH Ld 9 f fd ô (Pr (m7 Rc Rj)):=by
 show KD.dw F [c1J,"judgements","deaf"] ?_ λ_ _ _ _ _ _ hr ND=>(qC (qo 5 ND<|bV JC)
 (qC (Px F9 rfl (ar<|dF Ko hr.m rfl b24) Eu (aD 6)
  (qC (qs 7 ND<|dF PV hr.m rfl (da (Đ 0)<|da (Đ 1) (da (Đ 2)<|da (Đ 3) (da (Đ 6) JC))))
 (qC (qs 8 ND<|dF MI hr.m rfl P3)
 (qC (qI (dT eS nE (Đ 8) Q4)
  (qr<|jL (da bO<|da (Đ 6) (da (Đ 8)<|da b0U (da b0U JC))))
  q0)
 (q1<|qA (aw<|OS Bx.K Ff Fn Fm aB Xj (a9 (jL<|da (Đ 6) (da (dF Ng hr.m rfl<|da (Đ 7) JC) JC)) Jx)) (λ_ _ _ h=>h))))))
 (qr<|jL (da bO<|da (Đ 5) JC))))
 rintro _ _ @⟨n,pl,m,p,k,chs,gs,J,hc,hl,hg,nd,hj⟩;show#[1,.inl (.nx AI ?_)];show bX chs (λi ε=>∃ o6 o7 o8,ε=[.fz n,.fz pl,.fz<|.int m,.fz<|.int p,.fz<|.int k,.ow<|gK gs J (chs.take i),o6,o7,o8]) ⟨_,_,_,rfl⟩ ⟨⟨⟨rfl,rfl,rfl⟩,hc⟩,.l .lst⟩ (λi ch ε hi J'=>?_) λε J'=>?_
 ·let#[uL]:=J';subst he;show#[_,1,_,.nx #[#[6],hj ch<|ET hi]<|.nx #[#[2],.mk nd] (.nx Cp #[1,?_,.z #[#[1,#[#[2],.mk nd hg],1],pb]]),.fz<|rw ch,.fz<|WL gs YM,.fz .non,?_]
  ·rw[EO,Fd];omega
  ·rw[aQ hi,show gK gs J (chs.take i++[ch])=.lst ((chs.take i).map (λch=>.tup b6N)++[.tup b6N]) from congrArg D.lst EX];rfl
 ·let#[uL]:=J';rw[FE]at he;subst he;show#[uN,1]
theorem Ry (d)(H H':Hp):Prop:=∀ a o,a≠d->H a=!o->H' a=!o
def Ry.of (e):Ry d H H':=λa o _ h=>e a o h
def Ry.trans (a:Ry d H H1)(b:Ry d H1 H2):Ry d H H2:=λc o n h=>b c o n (a c o n h)
theorem NS.put (S:NS)(x)(k:Kd):NS:={ S with JD:=S.JD++[(x,k)] }
def Kt.put (N)(hd:H dp=!.dK ķ)(hp:Paired a5p ķ S.JD)(pa:L7 c H xV p)(e:Ry dp H H')(NP:H' dp=!.dK (ķ++[(Sum.inr p.1,.ref a)])):Kt c H' n dp dt (S.put p.1 p.2):=by
 let#[#[dx,h1],_,#[kt,h3,p3],h4]:=N;let SA:∀ {v:V}{q:Str×Kd},L7 c H v q->L7 c H' v q:=λJ'=>by let#[Fk,hb]:=J';show#[Fk,e _ _ xH hb]
 let Uz:∀ {v:V}{t:Kl},Mr H v t->Mr H' v t:=λJ'=>by let#[b,eb,hb]:=J';show#[b,eb,e _ _ xH hb]
 show#[#[dx,e _ _ (cG h1 hd λz=>nomatch z) h1],#[_,NP,Paired.Of (Paired.Lx hp λ_ _ J'=>(by let#[x,y]:=J';show#[x,SA y])) #[1,SA pa]],#[kt,e _ _ (Ne.symm h4) h3,Paired.Lx p3 λ_ _ J'=>(by let#[x,y]:=J';show#[x,Uz y])],h4]
def jK {f:α->Dx}{g:α->D}:∀ {ķ:ξ}{l:List α},Paired (λ(kv:Dx×V) x=>kv.1=f x/\DR H (g x) kv.2) ķ l->ķ.map (·.1)=(l.map λx=>zD).map (·.1)/\JS H ((l.map λx=>zD).map (·.2)) Ķ:=by
 intro a b h
 induction h with
 | nil=>show#[2]
 | cons h r ih=>let⟨a,b⟩:=h;show#[by simp_all,Qc,b,ih.2]
def L7.dr (h:L7 c H v p):DR H (gA c p) v:=let ⟨a,dx,e,q⟩:=h;#[a,dx,_,e,q,1,_,_,3]
def Mr.dr (h:Mr H v t):DR H (bN t) v:=let ⟨a,e,q⟩:=h;#[a,_,e,q,c28]
def Kt.dr (N):DR H sO (.ref n):=by let#[b9Z,_]:=N;let a:=jK<|Paired.Lx p2 λ_ _ J'=>(by let#[a,b]:=J';show#[a,b.dr]);let b:=jK<|Paired.Lx p3 λ_ _ J'=>(by let#[a,b]:=J';show#[a,b.dr]);show#[n,Ep,h1,1,Qc,#[dp,kp,1,.inl h2,a.1,a.2],Qc,#[dt,kt,1,.inl h3,b.1,b.2],_,_,3]
def pr (hl:JS H l vs)(hR:R l d)(q:∀ x H',gR H H'->DR H' d x->Q x H'):Pr R vs H Q E0:=#[H,l,d,gR.refl _,hl,hR,λx H' e h=>q x H' e<|h.mono (aH ė e)]
def Vg (h:DR H d v):JS H [d] [v]:=#[Qc,h,1]
def dr2 (h:DR H d v)(h'):JS H [d,d'] [v,v']:=#[Qc,h,Qc,h',1]
theorem Em (S:NS)(k:Kd):Bool:=decide (20<=S.JD.length) || (rdB k&&decide (8<=S.JO.length))
inductive dq (c:Cl)  (vs:π) (H:Hp) (Q:VK) (E:XK):Prop
 |mk (n dp dt a:Addr) (S:NS) (p:Str×Kd):vs=[.ref n,.ref a]->Kt c H n dp dt S->L7 c H xV p->¬ p.1∈S.names->S.JD.length<=1000->Em S p.2=false->(∀ H',Ry dp H H'->Kt c H' n dp dt (S.put p.1 p.2)->Q .non H')->dq c vs H Q E
def b0T:au ú ú (aa b8d):=Nz
def b3C [Bx:Bd](O)(T:jO Bx.mg)(TG:EK Bx.mg)(Mc)(Jw):Tm 3 "put_in" "Net.put_in" b8d ú (dq c):=by
 intro f fd F;let#[tl,Q8]:=TG.mop;let#[tn,Oo]:=TG.mol;show F.k b0T λJE A outer s H vs Q E hr h=>?_
 ·let#[n,dp,dt,a,S,p,1,N,pa,LX,hz,XJ]:=h;let#[dx,h1]:=id N.ins;let#[ķ,hd,hp]:=id N.JD;let#[a',dxa,ea,ha]:=id pa
  cases ea;let hl:=Paired.length hp;show#[_,(ai (gy (pT yH a9t<|g9 (v:=.int 20) rfl Q8 #[_,1])
  E7
  KH)
 (ai (gy (PW.pt<|BB (cC<|qg iU Mc hr.m) (c7<|pT yH (bQ (a1g Bx.K) rfl T.JX boot_len<|a9 (qe A3 Jw hr.m) Jx) (g9 (v:=.int 8) rfl Oo #[_,1])))
  E7
  KH)
 (aq<|bU C3 Id (vG Bx.K iU rfl) iU rfl))),?_]
  let store:∀ H1,gR H H1->∃ a_1 H4,V.ref dp=V.ref a_1/\Qf H1 a_1 (.str p.1) xV H4/\Q .non H4:=λH1 e1=>by
   let hv:cL ķ sY=none:=by
    cases hs:cL ķ sY with
    | none=>rfl
    | some v=>
     let:=(jK<|Paired.Lx hp λ_ _ J'=>(by let#[a,b]:=J';show#[a,b.dr]))
     let h2:=(JS.val (y:=.inr p.1) this.1 this.2).1;let h3:=jE (c:=c) (S:=S) (x:=p.1);rw[F5 LX]at h3;rw[h2<|Option.not_isSome_iff_eq_none.mp (by rw[h3];show nofun)]at hs
     cases hs
   show#[dp,_,1,Qf.k (k:=Sum.inr p.1) (e1 _ _ hd) (by change ķ.length<2 ^ 24;lia),?_];let b1:Ry dp H (upd H1 dp<|.dK (dQ ķ sY<|.ref a)):=λb o nb hb=>by rw[a8 nb];show e1 _ _ hb
   show q2 _ b1 (N.put hd hp pa b1<|by rw[ae,gU _ hv])
  unfold Em at q1;rw[Bool.or_eq_false_iff,Bool.and_eq_false_iff]at q1;let#[g0,g2]:=q1;let g0:=of_decide_eq_false g0;show#[xW,Qc,h1,O.cn,O.fp,1,dp,ķ,1,hd,ni,1,lJ (λg1=>?_) (λg1=>?_)]
  ·let g1:20<=S.JD.length:=by let:=Fv g1;lia
   show absurd g1 g0
  ·show#[_,1,a,c.of p.2,dxa,_,1,#[_,1],ha,1,pr (Vg pa.dr) #[0] λx H1 e1 hx=>#[_,hx,?_]];rw[gT O]
   cases hb:rdB p.2 with
   | false=>show xB (xB #[Ch,n,c.Kq,dx,c1a,c1L,e1 _ _ ha,O.cls _,O.XY _,1,store H1 e1])
   | true=>
    show Cj #[yS,pr b6O #[hz] λy H2 e2 J'=>?_];let#[l,vs,ey,P1,hv]:=J';subst ey;let vl:=hv.length;let Qa:=e1.trans e2;show#[l,_,1,.inl<|JU.of P1,_,_,2,_,1,lJ (λg3=>?_) λg3=>#[Ch,n,c.Kq,dx,Qc,Qa _ _ h1,O.cn,c1L,Qa _ _ ha,O.cls _,O.XY _,1,store H2 Qa]];let g3:8<=S.JO.length:=by let:=Fv g3;rw[vl,EO]at this;lia
    rcases g2 with z|z
    ·rw[hb]at z;cases z
    ·show absurd g3 (of_decide_eq_false z)
theorem may (S:NS)(x)(k:Kd):Prop:=gi x=true/\¬ x∈S.names/\¬ (SJ k=false/\S.K5.isSome=true)/\Em S k=false
inductive fZ (c:Cl) (k:Kd)  (vs:π) (H:Hp) (Q:VK) (E:XK):Prop
 |mk (n dp dt:Addr) (S:NS) (x:Str):vs=[c2h]->Kt c H n dp dt S->x.length<=1000->S.JD.length<=1000->may S x k->(∀ H',Ry dp H H'->Kt c H' n dp dt (S.put x k)->Q .non H')->fZ c k vs H Q E
def made (N)(hz:S.JD.length<=1000)(hm:may S x k)(q2:∀ H',Ry dp H H'->Kt c H' n dp dt (S.put x k)->Q .non H')(y dy:Addr)(ny:H y=none)(XX:H dy=none)(ne:dy≠y):
  dq c [.ref n,.ref y] (upd (upd (upd H dy (.own y)) y (.ins p9 dy [])) y (.ins p9 dy [("name",.str x)])) Q E:=by
 let e1:gR H (upd (upd (upd H dy<|.own y) y<|.ins p9 dy []) y<|.ins (c.of k) dy [("name",.str x)]):=aY (aY (aO (gR.refl _) XX) ny) ny;show⟨n,dp,dt,y,S,(x,k),rfl,N.mono e1,⟨y,dy,rfl,ae⟩,hm.2.1,hz,hm.2.2.2,λH' b' N'=>q2 H' ((Ry.of e1).trans b') N'⟩
def a95:au Ü Ü (aa b8e):=Nz
def b2b [Bx:Bd](O)(JG)(Kb)(Se:U4 1 "Post" c.post Ü (gL c)):Tm 4 "post" "Net.post" b8e Ü (fZ c .post):=by
 intro f fd F;show F.k a95 λJE A outer s H vs Q E hr h=>?_
 ·let#[c0k]:=h;let#[dx,h1]:=id N.ins;show#[_,(ai n9
 (aq<|aw (bx A3 Kb hr.m<|a9 (gW Se hr.m rfl<|a9 iU Jx) Jx))),?_]
  show#[b9s];show#[yS,_,1,λy dy ny XX ne=>#[y,.post,c1X]];show made (Q:=λ_ H2=>Q .non H2) b6P hz hm Ps y dy ny XX ne
def a87:au Ü Ü (aa b8f):=Nz
def b2X [Bx:Bd](O)(JG)(Kb)(O7:U4 1 "Listener" c.NA Ü (gL c)):Tm 4 "listener" "Net.listener" b8f Ü b8W:=by
 intro f fd F;show F.k a87 λJE A outer s H vs Q E hr h=>?_
 ·let#[c0k]:=h;let#[dx,h1]:=id N.ins;show#[_,(ai n9
 (aq<|aw (bx A3 Kb hr.m<|a9 (gW O7 hr.m rfl<|a9 iU Jx) Jx))),?_]
  show#[b9s];show#[yS,_,1,λy dy ny XX ne=>#[y,.listener,c1X]];show made (Q:=λ_ H2=>Q .non H2) b6P hz hm Ps y dy ny XX ne
def a7S:au Ü Ü (aa b8g):=Nz
def a3U [Bx:Bd](O)(JG)(Kb)(Kj)(QV:U4 1 "House" c.house Ü (gL c)):Tm 4 "house" "Net.house" b8g Ü (fZ c .house):=by
 intro f fd F;show F.k a7S λJE A outer s H vs Q E hr h=>?_
 ·let#[c0k]:=h;let#[dx,h1]:=id N.ins;show#[_,(ai n9
 (ai (gy (pT eS (qe A3 Kj hr.m) a6h)
  E7
  KH)
 (aq<|aw (bx A3 Kb hr.m<|a9 (gW QV hr.m rfl<|a9 iU Jx) Jx)))),?_]
  show#[b9s];show#[yS,pr b6O #[0] λhv H2 e2 hx2=>?_]
  cases hs:S.K5 with
  | some p=>show absurd #[1,by rw[hs];rfl] hm.2.2.1
  | none=>
   rw[hs]at hx2
   cases hx2;let e1:=e1.trans e2;show#[BS,a1m rfl ?_];show#[yS,_,1,λy dy ny XX ne=>#[y,.house,c1X]];show made (Q:=λ_ H2=>Q .non H2) b6P hz hm Ps y dy ny XX ne
structure EJ (mg:Ω):Prop where
 Lw:mg "isinstance"=none
 Us:mg "int"=none
 XZ:mg "bool"=none
 JX:mg "len"=none
structure Z8 (mg:Ω):Prop where
 mot:∃ t,mg "MOST_TIES"=!.int 40 t
 lod:∃ t,mg "LONGEST_DELAY"=!.int 99 t
structure Z7 (K:Ψ):Prop where
 ii:W.kitOne K Uf Uf=!true
 ib:W.kitOne K Uf mS=!false
theorem NS.T4 (S:NS)(x y:Str)(d:Int):NS:={ S with Jy:=S.Jy++[(S.next,x,y,d)],next:=S.next+1 }
theorem EM (n d:Addr)(H H':Hp):Prop:=∀ a o,a≠n->a≠d->H a=!o->H' a=!o
def dr3 (h:DR H d v)(h')(h2:DR H d2 v2):JS H [d,d',d2] [v,v',v2]:=#[Qc,h,dr2 h' h2]
theorem c0h:Sp:=λvs H Q _=>∃ i:Int,vs=uf/\Q Ţ H
def a1S:au ü ü (aa xE):=Nz
def sJ [Bx:Bd](T:EJ Bx.mg)(TI:Z7 Bx.K):Tk 1 "is_whole" xE ü c0h:=by
 intro f fd F;show F.k a1S λJE A outer s H vs Q E hr h=>?_
 ·let#[i,1,q]:=h;show#[_,aq<|bB (sv (bQ (Ei Bx.K) rfl T.Lw c9<|a9 A3 (a9 (lU (v:=.ty "int") rfl T.Us boot_int rfl) Jx))<|kg (b4e<|bQ (Ei Bx.K) rfl T.Lw c9 (a9 A3<|a9 (lU (v:=.ty "bool") rfl T.XZ boot_bool rfl) Jx))),?_];show#[c2i,TI.ii,_,1,Cj #[c2i,TI.ib,_,1,q]]
def a6I [Bx:Bd](F:Fu Bx.K "is_whole" xE f fd)(T:EJ Bx.mg)(TI:Z7 Bx.K):PH Ld 1 f fd ü (Pr b3l):=(sJ T TI f fd F).imp λvs H Q E J'=>by
 let#[F,_,_,s,h,r,q]:=J'
 cases r;let#[v,ws,3]:=h;show#[_,1,q _ H ė rfl]
def b49 [Bx:Bd](hn)(F:Fu Bx.K "is_name" ia f fd)(T:jO Bx.mg)(TG:EK Bx.mg)(TK:Z6 Bx.K):PH Ld 1 f fd Xe (Pr OA):=(wY F T TG TK hn).imp λvs H Q E J'=>by let#[F,_,_,s,h,r,q]:=J';let#[hx]:=r;let#[v,ws,3]:=h;show#[_,1,hx,λH' e=>q _ H' e rfl]
inductive b0E:Ä
 |mk {n:Int}:1<=n->n<=99->b0E M1 Ţ
def a7L [Bx:Bd](TH:Z8 Bx.mg)(L'):Tk 2 "is_delay" (top 29) ü (Pr b0E):=by
 let#[tl,OL]:=TH.lod;show KS [] ?_ λ_ _ _ _ _ _ _ hr ND=>(qr<|CQ (dF L' hr.m rfl<|da (Đ 0) JC) (kg<|dCh (mU qi qi dI (Đ 0)<|dC (g9 (v:=.int 99) rfl OL #[_,1])) cF cF))
 rintro _ _ @⟨n,h0,h1⟩;show#[.t #[#[2],#[0]]<|.t rfl rfl (by let:=fI.mk (C:=λ_ _=>True) (g:=λi j=>Q1<|.bl (decide (i<=j))) (i:=1) (j:=n) trivial;rwa [EY h0]at this) rfl (by let:=fI.mk (C:=λ_ _=>True) (g:=λi j=>Q1<|.bl (decide (i<=j))) (i:=n) (j:=99) trivial;rwa [EY h1]at this),1]
inductive rQ (c:Cl)  (vs:π) (H:Hp) (Q:VK) (E:XK):Prop
 |mk (n dp dt:Addr) (S:NS) (x y:Str) (d:Int):vs=[c2h,.str y,.int d]->Kt c H n dp dt S->x∈S.names->y∈S.names->(∀ t∈S.Jy,t.1<S.next)->b0e->¬ iN S.Jy y x->1<=d->d<=99->S.Jy.length<40->(∀ H',EM n dt H H'->Kt c H' n dp dt (S.T4 x y d)->Q (.int S.next) H')->rQ c vs H Q E
def b4P:au ["self",b9r,"number"] î (aa b8h):=Nz
def b39 [Bx:Bd](F:KD Bx.K "tie" "Net.tie" b8h f fd)(O)(T:EJ Bx.mg)(TH:Z8 Bx.mg)(Lb:KJ 2 c.Kq "check_ends" å (Pr (i7 c)))(O4:Kn 2 "is_delay" ü (Pr b0E)):
  PH Ld 3 f fd î (rQ c):=by
 let#[tl,QK]:=TH.mot;show F.k b4P λJE A outer s H vs Q E hr h=>?_
 ·let#[n,dp,dt,S,x,y,d,1,N,hx,hy,a5J,hb,hL,hi1,hi2,g,q5]:=h;let ND:=b4P.nd;let#[dx,h1]:=id N.ins;let#[ķ,hd,hp]:=id N.Jy;let hl:=Paired.length hp;show#[_,(ai (aw<|bx A3 Lb hr.m (a9 iU<|a9 wJ Jx))
 (ai (gy (sj<|cC (bg O4 hr.m rfl<|a9 XO Jx))
  E7
  KH)
 (ai (gy (pT yH a9t<|g9 (v:=.int 40) rfl QK #[_,1])
  E7
  KH)
 (ai (pS 4 ND<|vG Bx.K A3 rfl)
 (ai (bU C3 Id uo (eM<|a9 uo (a9 iU<|a9 wJ b6Q)) rfl)
 (ai (g8 A3 (gV a63 uo b8) rfl)
 (aq<|bB uo))))))),?_]
  show#[_,1,n,Ep,h1,1,Ch,pr (dr3 N.dr (d':=.str x) (d2:=.str y) rfl rfl) #[hx,hy,#[],hb,hL] λ_ H0 e0 _=>?_];show#[_,1,pr (Vg (d:=.int d) rfl) #[hi1,hi2] λ_ H1 e1 hv=>#[_,hv,xB ?_]];let e1:=e0.trans e1;show#[xW,c1a,O.ft,1,dt,ķ,1,e1 _ _ hd,ni,1,lJ w8 (λ_=>?_)]
  ·let:=Fv z
   lia
  show#[xW,c1a,O.fn,1,?_];show#[Ch,Ch,(by change 4<=sizeLine;decide),λtp H2 e2 h02 Vd=>?_];let Qa:=e1.trans e2;let hv:cL ķ b8X=none:=by
   cases hs:cL ķ b8X with
   | none=>rfl
   | some v=>
    let:=(jK (f:=λt:Kl=>(.inl t.1:Dx)) (g:=bN)<|Paired.Lx hp λ_ _ J'=>(by let#[a,b]:=J';show#[a,b.dr]))
    let h2:=(JS.val (y:=.inl S.next) this.1 this.2).1;rw[h2 (Option.not_isSome_iff_eq_none.mp λz=>by
     rw[YB (f:=λt:Kl=>t.1),HW]at z;let#[t,ht,et]:=EW.mp z;let:=a5J t ht
     lia)]at hs
    cases hs
  let nnt:n≠dt:=cG h1 hd λz=>nomatch z;show#[xW,Qc,Qa _ _ h1,O.cn,O.ft,BS,dt,_,1,Qf.k (k:=Sum.inl S.next) (Qa _ _ hd) (by change ķ.length<2 ^ 24;lia),?_];rw[gU _ hv];show#[_,1,_,_,2,_,1,n,c.Kq,dx,_,1,by rw[a8 nnt];show Qa _ _ h1,O.cn,O.fn,(by change 3<1000;decide),?_];let b2:EM n dt H (upd (upd H2 dt<|.dK (ķ++b2H)) n<|.ins c.Kq dx [b4B,b42,("next_number",.int<|S.next+1)]):=λa o na nd ha=>by rw[a8 na,a8 nd];show Qa _ _ ha
  show#[_,1,q5 _ b2 ?_];let#[_,#[kp,h2,p2],_,h4]:=N;let SA:∀ {v:V}{q:Str×Kd},L7 c H v q->v≠.ref n->L7 c _ v q:=λ{v q} J' SK=>by let#[Fk,hb]:=J';show#[Fk,b2 b _ (λz=>SK<|by rw[eb,z]) (cG hb hd λz=>nomatch z) hb]
  let Uz:∀ {v:V}{t:Kl},Mr H v t->Mr _ v t:=λ{v t} J'=>by let#[b,eb,hb]:=J';show#[b,eb,b2 b _ (cG hb h1 λz=>nomatch z) xH hb]
  let ntp:tp≠n:=(ak (e1 _ _ h1) h02).symm;let ntd:tp≠dt:=(ak (e1 _ _ hd) h02).symm;show#[#[dx,ae],#[kp,b2 dp _ (cG h2 h1 λz=>nomatch z) h4 h2,Paired.Lx p2 fun kv p ⟨a1,a2⟩=>#[a1,SA a2 ?_]],#[ķ++b2H,by rw[a8 nnt.symm];show ae,Paired.Of (Paired.Lx hp λ_ _ J'=>(by let#[A0]:=J';show#[a1,Uz a2])) #[1,tp,1,?_]],h4]
  ·let#[Fk,P2]:=a2;rintro z;rw[z]at eb
   cases eb;rw[h1]at P2;injection P2 with P2;injection P2 with _ _ P2
   cases P2
  ·rw[a8 ntp,a8 ntd];show Vd
theorem bp {α:Type}(kf:α->Dx)(nm:List α)(as:υ):ξ:=(nm.zip as).map λp=>b7A
def a64 [DecidableEq α](kj):∀ (nm:List α)(as:υ),nm.Nodup->as.Nodup->nm.length=as.length->∃ LA:α->Addr,(∀ x∈nm,cL yr (kf x)=!.ref uA/\LA x∈as)/\(∀ x∈nm,∀ y∈nm,LA x=LA y->x=y)/\as=nm.map LA:=by
 intro nm
 induction nm with
 | nil=>
  intro as _ _ hl
  cases as with
  | nil=>show#[λ_=>0,b59,b59,1]
  | cons _ _=>cases hl
 | cons x nm ih=>
  intro as h1 h2 hl
  cases as with
  | nil=>cases hl
  | cons a as=>
   let#[n1,n2]:=FP.mp h1;let#[A0]:=FP.mp h2;let#[LA,l1,l2,l3]:=ih as n2 a2 į;let ne:∀ y∈nm,y≠x:=λy hy e=>n1<|e▸hy;show⟨λy=>if y=x then a else LA y,λy hy=>?_,λy hy z hz e=>?_,?_⟩
   ·rcases Fw.mp hy with rfl|hy
    ·simp only[if_pos rfl];show#[b5D rfl,Fy ..]
    ·simp only[if_neg<|ne y hy];show⟨?_,Ft _ (l1 y hy).2⟩;rw[show bp kf (x::nm) (a::as)=(kf x,V.ref a)::bp kf nm as from rfl,c0T λz=>ne y hy (kj _ _ z).symm];show (l1 y hy).1
   ·grind
   ·simp_all
def c0P:∀ (a b:ξ),((a++b).map (·.1)).Nodup->b6 a b=a++b:=by
 intro a b
 induction b generalizing a with
 | nil=>intro _;rw[Fq];rfl
 | cons k b ih=>
  intro h;let hk:cL a k.1=none:=by
   grind [cL]
  change b6 (dQ a k.1 k.2) b=_
  simp_all [gU]
def b9b {kf:α->Dx}(kj)(h:nm.Nodup)(hl:nm.length<=as.length):b6 [] yr=bp kf nm as:=by
 rw[c0P [] _ ?_]
 ·rfl
 ·rw[Gp];unfold bp;rw[EZ];let e:((λx:Dx×V=>x.1) ∘ λp:α×Addr=>b7A)=kf ∘ _:=rfl;rw[e,<- EZ];let hs:((nm.zip as).map (·.1)).Nodup:=by rw[List.map_fst_zip hl];show h
  show Ii _ (λa b VL e=>VL<|kj _ _ e) hs
def a6r (ts:List Kl)(t:Kl)(x):gx (ts++[t]) x=gx ts x++(if t.2.1=x\/t.2.2.1=x then [t] else []):=by
 unfold gx
 grind
def a82:∀ nm:List α,bp kf nm (nm.map LA)=nm.map λx=>a9u:=by
 intro r'
 induction r' with
 | nil=>
  show rfl
 | cons x nm ih'=>
  show congrArg ((kf x,V.ref<|LA x)::·) (ih')
def jo:∀ {nm:η}{vs:π},JS G (nm.map .str) vs->vs=nm.map V.str
 | [],_,h=>h
 | _::_,_,⟨_,_,e,h1,h2⟩=>by rw[e,jo h2,show _=V.str _ from h1];rfl
def LET:∀ {ts:List Kl}{vs:π},JS G wQ vs->Paired (Mr G) vs ts:=by
 intro r'
 induction r' with
 | nil=>
  intro _ h
  cases h;show .nil
 | cons _ _ ih'=>
  intro _ y1';let#[_,_,e,nU]:=y1';subst e;let#[E5,h,c28]:=h1;show .cons #[a,1,h] (ih' h2)
def b38:∀ {ts:List Kl}{vs:π},Paired (Mr G) vs ts->JS G wQ vs:=by
 intro ts vs h
 induction h with
 | nil=>rfl
 | cons a r ih=>show#[Qc,a.dr,ih]
def iu:∀ {l:List α},(∀ x∈l,DR G (g x) (h x))->JS G DG (l.map h):=by
 intro r'
 induction r' with
 | nil=>
  intro _;show rfl
 | cons _ _ ih'=>
  intro k;show #[_,_,1,k _ Fy,ih' λx hx=>k x<|Ft _ hx]
def a9h:au ["names","ties","touching","tie"] Eg (aa (top 71)):=Nz
def b4Z [Bx:Bd](T:D9 Bx.mg):Tk 1 "ties_by_post" (top 71) Eg (Pr Mut):=by
 intro f fd F;show F.ok a9h z5 CZ
 ·obtain⟨G,_,_,sF,hl,@⟨nm,ts,WU,hz,htz,hE,SK⟩,q⟩:=h;let#[Qc,#[ln,Zj,1,a5O,Vf],Qc,#[l,xs,1,hx0,QI],1]:=hl;let Zt:H ln=!(.lst<|nm.map V.str):=by rw[<- jo Vf];show sF _ _ a5O
  let hx:=sF _ _ hx0;let hp:=LET QI;let ND:=a9h.nd;let UB:=Paired.length hp;show#[_,(ai (pS 2 ND (dA (c8 rfl) rfl T.Lo boot_dict (a9 (eQ rfl (cS 1 [] Xe) (sr Bx.K<|pv 0)
  ē
  DW
  (λ_ _ _ _ _=>eM<|a9 A3 (a9 (eO Jx) Jx))) Jx)))
 (ai (bP F9 rfl (sr Bx.K<|pv 1) sE
  (ai (aw<|OS Bx.K Ff Fn Fm aB b0m b6Q)
 (aq<|aw (OS Bx.K Ff Fn Fm aB b0m<|a9 XO Jx))))
 (aq<|bB wJ))),?_]
  show#[_,1,ln,1,#[_,JU.of Zt],c2R (λlc i H1=>H lc=none/\gR H H1/\∃ as:υ,as.length=i/\as.Nodup/\(∀ a∈as,H1 a=!.lst []/\H a=none/\a≠lc)/\∃ vs,H1 lc=!.lst vs/\Paired (λv (kv:Dx×V)=>∃ t,v=.ref t/\H1 t=!.tup BZ) vs (bp (Sum.inr:Str->Dx) Y9 as))
   (λlc RW=>#[RW,c1n]) (λlc i H1 _ h=>JU.of<|h.2.1 _ _ Zt) (λlc i v H1 ev h=>?_) (λlc H1 h=>?_)]
  ·let#[c1M]:=h;obtain⟨x,ex,rfl⟩:∃ x,nm[i]?=!x/\v=.str x:=by
    rw[F7]at ev
    cases hm:nm[i]? with
    | none=>rw[hm]at ev;cases ev
    | some m=>rw[hm]at ev;show#[m,1,by simpa using ev.symm]
   let hi:=(ES.mp ex).1;dsimp only[wH];rw[if_pos rfl];show#[_,b90,λa H2 e2 h2 ha=>#[(by change 2<=sizeLine;decide),λt H3 e3 h3 ht=>?_]];let hvl:=Paired.length UH;let UE:(bp (Sum.inr:Str->Dx) Y9 as).length=i:=by
    unfold bp;rw[EO,Hi,Fd,U3]
    lia
   let alc:a≠lc:=λz=>by rw[z,Q3]at h2;cases h2
   let tlc:t≠lc:=λz=>by rw[z,e2 _ _ Q3]at h3;cases h3
   show#[vs,e3 _ _<|e2 _ _ Q3,by rw[hvl,UE];change i<2 ^ 24;lia,RW,aY ŵ RW,as++[a],by rw[Fb,U3];rfl,?_,λb hb=>?_,vs++[.ref t],ae,?_]
   ·show FG.mpr b0A;rw[Fo.mp P2]at e;rw[e]at hb;let:=(has a hb).1;rw[h2]at this
    cases this
   ·rcases Fx.mp hb with hb|hb
    ·let#[z6]:=has b hb;show#[by rw[a8 b3];show e3 _ _<|e2 _ _ b1,b2,b3]
    ·rw[Fo.mp hb];show#[by rw[a8 alc];show e3 _ _ ha,e1.free h2,alc]
   ·let tk:nm.take (i+1)=nm.take i++[x]:=by rw[GL,ex];rfl
    let er:bp (Sum.inr:Str->Dx) (nm.take<|i+1) (as++[a])=bp (Sum.inr:Str->Dx) Y9 as++[(Sum.inr x,.ref a)]:=by unfold bp;rw[tk,List.zip_append (by rw[Fd,U3];lia),EX];rfl
    rw[er];show Paired.Of a4v #[t,1,by rw[a8 tlc];show ht];let:=e3 _ _<|e2 _ _ Qp;rw[a8 (λz=>by rw[z,e3 _ _<|e2 _ _ Q3]at this;cases this)];show this
  ·let#[c1M]:=h;rw[EO]at U3 UH;rw[FE]at UH;let UE:(bp (Sum.inr:Str->Dx) nm as).length<=1000:=by
    unfold bp;rw[EO,Hi,U3]
    lia
   show#[lc,_,1,#[vs,Q3,UH],c2q];rw[b9b b6a WU<|by lia]at hd;let#[LA,Vw,la2,la3]:=a64 (λ_ _=>Sum.inr.inj) nm as WU ZA U3.symm;let ek:bp (Sum.inr:Str->Dx) nm as=nm.map λx=>(.inr x,V.ref<|LA x):=la3▸a82 nm;generalize bp (Sum.inr:Str->Dx) nm as=ķ at Vw hd ek;let Qb:=e1.trans e2;let dN:∀ x∈nm,LA x≠d:=λx hx z=>by
    let:=(has _ (Vw x hx).2).1;rw[z,h2]at this
    cases this
   let lN:=λx hx=>(has _ (Vw x hx).2).2.1;show#[_,1,l,1,#[_,JU.of<|Qb _ _ hx],?_];show fW (λj σ H3=>(∃ o,σ=[some<|.ref ln,some<|.ref l,some<|.ref d,o])/\gR H H3/\H3 d=!.dK ķ/\∀ x∈nm,∃ us,H3 uA=!.lst us/\Paired (Mr G) us (gx (ts.take j) x))
    #[#[_,1],Qb,hd,λx hx=>#[[],e2 _ _ (has _ (Vw x hx).2).1,.nil]] (λj σ H3 _ h=>JU.of<|h.2.1 _ _ hx) ?_ ?_
   ·rintro j v σ H3 ev ⟨⟨o,rfl⟩,e3,Zz,hT⟩;let#[t,et,p,1,hpt]:=Paired.at hp ev;let htm:=ET et;let#[m1,m2]:=hE t htm;let tk:ts.take (j+1)=ts.take j++[t]:=by rw[GL,et];rfl
    let n12:LA t.2.1≠LA t.2.2.1:=λz=>SK t htm<|la2 _ m1 _ m2 z;let hp3:=e3 _ _<|sF _ _ hpt;let#[ys,hy,WS]:=hT _ m1;let#[zs,hz3,hpz]:=hT _ m2;let hyl:ys.length<=1000:=by rw[Paired.length WS];show Fs nj b3I
    let hzl:zs.length<=1000:=by rw[Paired.length hpz];show Fs nj b3I
    show#[_,1,_,1,p,_,(1),_,2,M0.of hp3,1,d,.ref<|LA t.2.1,1,(by rw[<- (Vw _ m1).1];show NJ.k (k:=Sum.inr t.2.1) Zz),.inl #[1,_,JU.of hy],_,1,LA t.2.1,_,_,2,hy,by change ys.length<2 ^ 24;lia,?_];let e4:gR H (upd H3 b8i<|.lst (ys++kY)):=aY e3<|lN _ m1;let hd4:upd H3 b8i (.lst<|ys++kY) d=!.dK ķ:=by rw[a8 (dN _ m1).symm];show Zz
    let hz4:upd H3 b8i (.lst<|ys++kY) (LA t.2.2.1)=!.lst zs:=by rw[a8 n12.symm];show hz3
    let hp4:=e4 _ _<|sF _ _ hpt;show#[_,1,_,1,p,_,(2),_,2,M0.of hp4,1,d,.ref<|LA t.2.2.1,1,(by rw[<- (Vw _ m2).1];show NJ.k (k:=Sum.inr t.2.2.1) hd4),.inl #[1,_,JU.of hz4],_,1,LA t.2.2.1,_,_,2,hz4,by change zs.length<2 ^ 24;lia,?_];show#[#[_,1],aY e4<|lN _ m2,by rw[a8 (dN _ m2).symm];show hd4,λx hx=>?_];rw[tk,a6r];by_cases h1:t.2.1=x
    ·rw[if_pos<|.inl h1];subst h1;show#[ys++kY,by rw[a8 n12,ae],?_];show Paired.Of WS #[p,1,hpt]
    ·by_cases h2:t.2.2.1=x
     ·rw[if_pos<|.inr h2];subst h2;show#[zs++kY,ae,?_];show Paired.Of hpz #[p,1,hpt]
     ·rw[if_neg (by rintro (z|z);show h1 z;show h2 z),Fq];let#[us,hu,hpu]:=hT x hx;show⟨us,?_,hpu⟩;rw[a8 λz=>h2 (la2 _ hx _ m2 z).symm,a8 λz=>h1 (la2 _ hx _ m1 z).symm];show hu
   ·rintro σ H3 ⟨⟨o,rfl⟩,e3,Zz,hT⟩;rw[UB,FE]at hT;show#[_,1,q _ H3 e3 #[d,ķ,1,.inl (by rw[ay<|e1.free h2];show Zz),by rw[ek,EZ,EZ];rfl,?_]];rw[ek,EZ,EZ];show iu λx hx=>?_;let#[us,hu,hpu]:=hT x hx;show#[LA x,us,1,by rw[ay<|lN x hx];show hu,JS.mono (aj sF) _ _<|b38 hpu]
def b45:∀ {xs ys:η},xs.Nodup->b6R->xs.length<=ys.length:=by
 intro r'
 induction r' with
 | nil=>
  intro ys _ _;show FV _
 | cons x xs ih'=>
  intro ys nd h;let nd:=FP.mp nd;let hx:=h x Ė;let:=ih' (ys:=ys.erase x) nd.2 λy hy=>(J9 (λz:y=x=>nd.1 (by rw[<- z];show hy))).mpr (h y<|by simp[hy])
  grind
theorem bG (bs):Nat->η
 | 0=>[]
 | k+1=>bG bs k++[(bC bs (bG bs k)).getD ""]
structure AX (bs:List (Str×η)):Prop where
 nd:(bs.map (·.1)).Nodup
 ends:∀ b∈bs,∀ y∈b.2,y∈bs.map (·.1)
 rk:∃ rank:Str->Nat,∀ b∈bs,∀ y∈b.2,rank y<rank b.1
def g7 (A:AX bs)(LY:ts.length<bs.length):∃ x,bC bs ts=!x/\x∈bs.map (·.1)/\x∉ts:=by
 let#[rank,hrk]:=A.rk;let one:∃ b∈bs,b.1∉ts:=by
  by_cases h:∃ b∈bs,b.1∉ts
  ·show h
  ·let hs:∀ x∈bs.map (·.1),x∈ts:=λx hx=>by
    let#[b,hb,1]:=EW.mp hx;by_cases hh:b.1∈ts
    ·show hh
    ·show absurd #[b,hb,hh] h
   let:=b45 A.nd hs;rw[EO]at this
   lia
 let key:∀ n,∀ b∈bs,b.1∉ts->rank b.1=n->∃ b'∈bs,gS ts b'=true:=by
  intro n
  induction n using Nat.strongRecOn with
  | ind n ih=>
   intro b hb hbt hn;by_cases Oq:∀ y∈b.2,y∈ts
   ·show#[b,hb,?_];unfold gS
    simp_all
   ·let#[y,hy]:=Classical.not_forall.mp Oq;let#[hy1,hy2]:=Classical.not_imp.mp hy;let#[b',P2,e']:=EW.mp<|A.ends b hb y hy1;show ih _ (by rw[<- hn];show hrk b hb y hy1) b' P2 (by rw[e'];show hy2) (by rw[e'])
 let#[b,hb,hbt]:=one;let#[b',P2,UG]:=key _ b hb hbt rfl
 cases hf:bs.find? _ with
 | none=>show absurd UG (by let:=Hb.mp hf b' P2;simpa using this)
 | some c=>
  let hc:=Hk hf;show#[c.1,by unfold bC;rw[hf];rfl,Fc<|FY hf,λz=>?_];unfold gS at hc
  simp_all
def mX (A:AX bs):∀ k,k<=bs.length->(bG bs k).Nodup/\(bG bs k).length=k:=by
 intro r'
 induction r' with
 | zero=>
  intro _;show #[Hx,1]
 | succ k ih'=>
  intro h;let#[nU]:=ih' #[];let#[x,e,hx,hn]:=g7 A (ts:=bG bs k) #[];show#[?_,by simp[bG,h2]];change (bG bs k++[(bC bs<|bG bs k).getD ""]).Nodup;rw[e,FG]
  grind
theorem cR (ts:List Kl)(x):η:=(ts.filter λt=>decide Ac).map (·.2.1)
theorem bq (S:NS):List (Str×η):=S.names.map λx=>(x,cR S.Jy x)
def a7i (ts:List Kl)(t:Kl)(x):cR (ts++[t]) x=cR ts x++(if t.2.2.1=x then [t.2.1] else []):=by
 unfold cR;congr 1;by_cases h:t.2.2.1=x
 ·simp[h]
 ·simp[h]
def oE (ts:List Kl)(x):(cR ts x).length<=ts.length:=by unfold cR;rw[EO];show FD _ _
def a3a (A:AX bs):∀ k,k<=bs.length->∀ x,x∈bG bs k->x∈bs.map (·.1):=by
 intro r'
 induction r' with
 | zero=>
  intro _ x h;show (Gd h).elim
 | succ k ih'=>
  intro hk x h;let#[y,ey,hy,_]:=g7 A (ts:=bG bs k) (by rw[(mX A k<|by lia).2];lia);unfold bG at h;rcases Fx.mp h with h|h
  ·show ih' #[] x h
  ·grind
def a8p (h:¬ k∈cs.map (·.1)):bz cs k=none:=by unfold bz;let:(cs.find? λx=>decide X')=none:=Hb.mpr λx hx z=>h<|Fv z▸Fc hx;rw[this];rfl
def a8z:∀ {ř:List bf},(ř.map (·.1)).Nodup->∀ r∈ř,gQ ř r.1=!r:=by
 intro r'
 induction r' with
 | nil=>
  intro _ _ h;show (Gd h).elim
 | cons x ws ih'=>
  intro nd r h;unfold gQ;rw[Fh,FP]at nd;rcases Fw.mp h with rfl|h
  ·simp_all
  ·let ne:¬ x.1=r.1:=λz=>nd.1<|z▸Fc h;rw[Hl,F5 ne];show ih' nd.2 r h
theorem ag (S:NS):List KL:=JH S ť
def b9P (ds:Cs)(h:k∈cs.map (·.1)):bz (cs++ds) k=bz cs k:=by grind [b9X,bz,List.find?_append]
def b1a (h:¬ k∈cs.map (·.1)):bz (cs++[(k,n)]) k=!n:=by
 let hn:=a8p h;unfold bz at hn ⊢;rw[IP]
 cases hf:cs.find? (λx=>decide X') with
 | some x=>simp_all
 | none=>
  simp_all
def c1O (ds:Cs):∀ {mo:Λ},(∀ ks,mo=!ks->∀ k∈ks,k∈cs.map (·.1))->inc msg (cs++ds) mo=inc msg cs mo
 | none,_=>rfl
 | some ks,h=>FA λk hk=>by rw[b9P ds<|h ks rfl k hk]
def a3m (F:AW ms):∀ i,i<=ms.length->∀ m∈ms.take i,bz b4o m.1=!fc p ř msg fo b4o m
 | 0,_,_,h=>by rw[Ij]at h;show (Gd h).elim
 | i+1,hi,m,h=>by
  let ih:=a3m (p:=p) (ř:=ř) (msg:=msg) (fo:=fo) F i #[];let LY:i<ms.length:=#[]
  obtain⟨r,er⟩:∃ r,ms[i]?=!r:=b7T
  let tk:ms.take (i+1)=ms.take i++[r]:=by rw[GL,er];rfl
  let ck:=fX p ř msg fo qz [];rw[GF,Gp]at ck;let nd:=F.nd;rw[<- Gs (i+1) ms,EX]at nd;let nd:=(FG.mp nd).1;rw[tk,EX]at nd;let fr:¬ r.1∈(bu p ř msg fo qz []).map (·.1):=λz=>by rw[ck]at z;show (FG.mp nd).2.2 _ z _ Ė rfl
  rw[tk]at h ⊢;rw[a65];rcases Fx.mp h with h|h
  ·let mk:m.1∈(bu p ř msg fo qz []).map (·.1):=by rw[ck];show Fc h
   rw[b9P _ mk,ih m h];unfold fc;rw[c1O];intro ks Yt k hk;rw[ck];let#[j,hj,ej]:=HD h;rw[Fd]at hj;let ej':ms[j]?=!m:=by rw[List.getElem_take]at ej;rw[ER<|by lia,ej]
   let:=(F.ahead j m ks ej' Yt).2 k hk;let#[y,hy,e]:=EW.mp this;show EW.mpr #[y,(List.take_sublist_take_left<|by lia).subset hy,e]
  ·rw[Fo.mp h,b1a fr];unfold fc;rw[c1O];intro ks Yt k hk;rw[ck];show (F.ahead i r ks er Yt).2 k hk
def b4f (F:AW ms)(h:m∈ms):bz nH m.1=!fc p ř msg fo nH m:=by let:=a3m (p:=p) (ř:=ř) (msg:=msg) (fo:=fo) F ms.length<|F8 _;rw[FE]at this;show this m h
def a9g (A:AX bs):∀ k,k<=bs.length->∀ (i:Nat) x,(bG bs k)[i]?=!x->∃ b∈bs,b.1=x/\∀ y∈b.2,y∈(bG bs k).take i:=by
 intro r'
 induction r' with
 | zero=>
  intro _ i x h;simp[bG]at h
 | succ k ih'=>
  intro hk i x h;let hl:=(mX A k<|by lia).2;unfold bG at h ⊢;by_cases c:i<(bG bs k).length
  ·rw[FQ c]at h;let#[b,hb,e,hy]:=ih' #[] i x h;show#[b,hb,e,λy yy=>by rw[J3<|by lia];show hy y yy]
  ·rw[FT<|by lia]at h;let ei:i=(bG bs k).length:=by
    by_cases c2:i - (bG bs k).length=0
    ·lia
    ·simp_all
   subst ei;rw[Nat.sub_self]at h;let#[z,ez,_,_]:=g7 A (ts:=bG bs k) #[];rw[ez]at h;let h:z=x:=by simpa using h
   subst h;unfold bC at ez;let#[b,hf,hb]:=FO.mp ez;show#[b,FY hf,hb,λy hy=>?_];rw[J3<|F8 _,FE];let hr:=Hk hf
   simp_all [gS,He,Ht]
def b3X (f:α->List β):∀ (ns:List α)(i:Nat)(m:β),(ns.flatMap f)[i]?=!m->∃ j x,ns[j]?=!x/\m∈f x/\∀ m'∈(ns.take j).flatMap f,m'∈(ns.flatMap f).take i:=by
 intro r'
 induction r' with
 | nil=>
  intro i m h;simp at h
 | cons a ns ih'=>
  intro i m h;rw[Hy]at h ⊢;by_cases c:i<(f a).length
  ·rw[FQ c]at h;show#[(0),a,1,ET h,λm' hm=>by simp at hm]
  ·rw[FT<|by lia]at h;let#[j,x,hj,hm,k]:=ih' _ m h;show⟨j+1,x,hj,hm,λm' VG=>?_⟩;rw[List.take_append,GV<|by lia];rw[List.take_succ_cons,Hy]at VG;rcases Fx.mp VG with z|z
   ·simp_all
   ·show FF _ (k m' z)
def bR {xs:List α}(nd:xs.Nodup){i:Nat}{x:α}(h1:xs[i]?=!x)(h2:xs[j]?=!x):i=j:=by let#[hi,e1]:=ES.mp h1;let#[hj,e2]:=ES.mp h2;show (List.getElem_inj nd).mp b64
abbrev LT:=Int×Str×Str
theorem dW (R)(x):Ξ:=(R.filter λr=>decide (r.2.2=x)).map (·.1)
structure LN (S:NS) (ord:η) (R:List LT):Prop where
 Zn:S.names.Nodup
 nin:∀ x∈S.names,x∈ord
 nd:ord.Nodup
 zero:ord[0]?=!("h":Str)
 Jy:S.Jy.map b2I=R
 mem:∀ r∈R,r.2.1∈S.names/\r.2.2∈S.names
 ok:∀ r∈R,∃ u v:Nat,u<v/\ord[u]?=!r.2.1/\ord[v]?=!r.2.2
 asc:(R.map (·.1)).Pairwise (·<·)
 len:ord.length<=20
 Uj:R.length<=40
section
variable {S:NS}{ord:η}{R:List LT}
def LN.T4 (h:LN S ord R)(ht:t∈S.Jy):∃ u v:Nat,u<v/\ord[u]?=!t.2.1/\ord[v]?=!t.2.2.1:=h.ok _ (h.Jy▸Fc ht)
def LN.Vm (h:LN S ord R)(ht:t∈S.Jy):t.2.1∈S.names/\t.2.2.1∈S.names:=h.mem _ (h.Jy▸Fc ht)
def LN.QQ (h:LN S ord R):(bq S).map (·.1)=S.names:=by unfold bq;rw[EZ];show List.map_id _
def LN.ends (h:LN S ord R):∀ t∈S.Jy,t.2.2.1∈S.names:=λt ht=>(h.Vm ht).2
def LN.V3 (h:LN S ord R):AX nM where
 nd:=by rw[h.QQ];show h.Zn
 ends:=λb hb y hy=>by rw[h.QQ];let#[x,hx,1]:=EW.mp hb;let#[uI]:=EW.mp hy;show (h.Vm (Fj.mp ht).1).1
 rk:=by
  show#[λx=>ord.idxOf x,λb hb y hy=>?_];let#[x,hx,1]:=EW.mp hb;let#[uI]:=EW.mp hy;let#[ht,htx]:=Fj.mp ht;let htx:=Fv htx;let#[u,v,uv,nU]:=h.T4 ht;rw[htx]at h2;let ix:∀ (i:Nat) z,ord[i]?=!z->ord.idxOf z=i:=λi z hz=>by let hl:=List.idxOf_lt_length_of_mem<|ET hz;show bR h.nd ħ hz
  change ord.idxOf t.2.1<ord.idxOf x;rw[ix _ _ h1,ix _ _ h2];show uv
def LN.JH (h:LN S ord R):(ag S).Perm (S.Jy.map λt=>ux):=by
 let bl:(bq S).length=S.names.length:=EO _;let#[ond,a96]:=mX h.V3 S.names.length #[];let a4Q:=λx hx=>by let:=a3a h.V3 S.names.length #[] x hx;rw[h.QQ]at this;show this
 let fin:∀ t∈S.Jy,t.2.1∈bG _ S.names.length:=λt ht=>by show (Mw.R3 _ _ ond a4Q<|by lia) _ (h.Vm ht).1
 let e1:ag S=((bG nM S.names.length).flatMap λx=>S.Jy.filter λt=>decide nS).map λt=>ux:=by
  unfold ag K72.JH NS.LG;rw[List.map_flatMap];congr 1;funext x
  simp_all
 rw[e1];show (Mw.Qs (λt:Kl=>t.2.1) _ S.Jy ond fin).map _
def LN.keys (h:LN S ord R):((ag S).map (·.1)).Perm (R.map (·.1)):=by let:=h.JH.map (·.1);rw[EZ]at this;rw[<- h.Jy,EZ];show this
def LN.into (h:LN S ord R)(x):S.into x=dW R x:=by unfold NS.into dW;rw[<- h.Jy,List.filter_map,EZ];rfl
def LN.a1n (h:LN S ord R)(x):(S.into x).length<=1000:=by
 rw[h.into];unfold dW;rw[EO];let:=FD (λr:LT=>decide (r.2.2=x)) R;let:=h.Uj
 lia
def LN.Kv (h:LN S ord R):(ag S).length<64:=by
 let:=h.keys.length_eq;rw[EO,EO]at this;let:=h.Uj
 lia
def LN.fits (h:LN S ord R):AW gb where
 Kv:=h.Kv
 nd:=h.keys.nodup_iff.mpr (h.asc.imp λz=>Int.ne_of_lt z)
 ahead:=λi m ks hi hk=>by
  let bl:(bq S).length=S.names.length:=EO _;let#[j,x,hj,hm,up]:=b3X _ _ _ _ hi;let#[k0,_,1]:=EW.mp hm;let hk:=hk;let ek:ks=S.into x:=by
   unfold bh at hk
   simp_all
  subst ek;show#[h.a1n x,λk hk=>?_];let#[t,ht0,1]:=EW.mp hk;let#[ht1,htx]:=Fj.mp ht0;let#[b,hb,e,hy]:=a9g h.V3 S.names.length #[] j x hj;let#[x',_,1]:=EW.mp hb;let e:=e;subst e;let:=up _<|Hr.mpr #[_,hy t.2.1<|Fc (Fj.mpr #[ht1,htx]),EW.mpr #[t.1,Fc<|Fj.mpr #[ht1,EY rfl],1]];show Fc this
universe e
theorem bt (S:NS)(ho:Option Str)(N m:Nat)(ç):List Δ:=ç.map λks=>S.JO.map λg=>iQ b8j
def b6o (ts:List Kl)(h g:Str)(N m:Nat):aV ts (!h) g N m=match dE ts (!h) g N m [] with
  | .inl ks=>.inl ks
  | .inr U=>.inr (gB h g N m<|ts.filter λt=>Ly U t.1):=rfl
def bL {l:List α}{x d:α}(h:l[i]?=!x):l.getD i d=x:=by rw[EU,h];rfl
structure Z' (p:Int) (t:Θ) (v:Ξ) (m:Nat):Prop where
 len:v.length=m
 fit:U6 p v
 some:v.filter (λz=>not (decide (z=0)))≠[]
 ker:∀ r∈t,Mx.dot r v % p=0
def a8O (W:NX ts x ws y):∀ {ZX:List Kl}{t:Kl}{ZW:List Kl},ws=ZX++t::ZW->NX ts x ZX t.2.1/\t∈ts:=by
 induction W with
 | nil=>intro ZX t ZW e;simp at e
 | @snoc ws t' A ht ih=>
  intro ZX t ZW e;rcases List.eq_nil_or_concat ZW with rfl|⟨ws3,t3,rfl⟩
  ·simp_all
  ·rw[List.concat_eq_append,<- List.cons_append,<- FI]at e;let#[e1,_]:=List.append_inj' e rfl;show ih e1
def gE (W:NX ts x ws y):(ws=[]/\y=x)\/∃ Sg t,ws=Sg++[t]/\t∈ts/\t.2.2.1=y/\NX ts x Sg t.2.1:=by
 cases W with
 | nil=>show .inl #[2]
 | snoc A ht=>show .inr #[Qc,ht,1,A]
def b7p (k:∀ t∈ts,t∈ts')(W:NX ts x ws y):NX ts' x ws y:=by
 induction W with
 | nil=>show .nil _
 | snoc A ht ih=>show .snoc ih (k _ ht)
def qT (ts:List Kl)(h g:Str):Flow ts (Ly []) h g 0:=by show Flow.none ts h g
structure WN (S:NS) (h:Str) (ord:η) (R:List LT):Prop where
 ln:LN S ord R
 K5:S.K5.map (·.1)=!h
 M':h∈S.names
 no:∀ t∈S.Jy,t.2.2.1≠h
 pos:∀ t∈S.Jy,0<=t.1
def WN.mem (W)(ht:t∈S.Jy):ux∈ag S:=W.ln.JH.mem_iff.mpr (EW.mpr #[uI])
def WN.one (W)(h1:(k,a)∈ag S)(h2:(k,b)∈ag S):a=b:=by
 let#[i,hi,e1]:=FR.mp h1;let#[j,hj,e2]:=FR.mp h2;let g1:((ag S).map (·.1))[i]?=!k:=by simp_all
 let g2:((ag S).map (·.1))[j]?=!k:=by simp_all
 let:=bR W.ln.fits.nd g1 g2
 simp_all
def WN.a1c (W):bh S h=none:=by unfold bh;rw[if_pos W.K5]
def WN.Y1 (W)(n:x≠h):bh S x=!S.into x:=by unfold bh;rw[if_neg λz=>n<|Option.some.inj (z.symm.trans W.K5)]
def a9K {S:NS}(ht:t∈S.Jy):t.1∈S.into t.2.2.1:=by show Fc (Fj.mpr #[ht,EY rfl])
def WN.sub (W)(hs:∀ t∈ts,t∈S.Jy):∀ (n:Nat) {ws:List Kl}{y:Str},ws.length=n->NX ts h ws y->∀ {t:Kl}{i:Nat},t∈S.Jy->t.2.1=y->(ag S)[i]?=!(t.1,bh S t.2.1)->(nums ws).Sublist (((ag S).take i).map (·.1)):=by
 intro r'
 induction r' with
 | zero=>
  intro ws y hn A t i ht ey hi;rw[IC.mp hn];show List.nil_sublist _
 | succ n ih'=>
  intro ws y hn A t i ht ey hi;rcases gE A with⟨rfl,_⟩|⟨Sg,t',rfl,Qp,e',A'⟩
  ·simp at hn
  ·let nh:t.2.1≠h:=λz=>W.no t' vB (by rw[e',<- ey,z]);let hk:t'.1∈((ag S).take i).map (·.1):=(W.ln.fits.ahead i _ _ hi<|W.Y1 nh).2 _ (by rw[ey,<- e'];show a9K<|hs t' Qp);let#[r,hr,er]:=EW.mp hk;let#[j,hj,ej]:=Iq.mp hr;let VH:j<(ag S).length:=#[]
   let ejr:(ag S)[j]?=!(t'.1,bh S t'.2.1):=by rw[ER VH,ej];let#[k,mx]:=r;let er:k=t'.1:=er;subst er;let:=W.one (a:=mx) (b:=bh S t'.2.1) (by rw[<- ej];show FZ VH)<|W.mem vB;rw[this]
   let ih:=ih' b6C A' vB rfl ejr;let tk:((ag S).take<|j+1).map (·.1)=((ag S).take j).map (·.1)++[t'.1]:=by rw[GL,ejr,EX];rfl
   let en:nums (Sg++[t'])=nums Sg++[t'.1]:=by unfold nums;rw[EX];rfl
   rw[en];show List.Sublist.trans (List.Sublist.append ih<|List.Sublist.refl _) ?_;rw[<- tk];show List.Sublist.map _ (List.take_sublist_take_left<|by lia)
def WN.whole (W)(hs:∀ t∈ts,t∈S.Jy)(A:NX ts h ws y):(nums ws).Sublist ((ag S).map (·.1)):=by
 rcases gE A with⟨rfl,_⟩|⟨Sg,t',rfl,Qp,e',A'⟩
 ·show List.nil_sublist _
 ·let#[Ay]:=FR.mp<|W.mem vB;let ei:(ag S)[i]?=!(t'.1,bh S t'.2.1):=by rw[ER hi,ei]
  let tk:((ag S).take<|i+1).map (·.1)=((ag S).take i).map (·.1)++[t'.1]:=by rw[GL,ei,EX];rfl
  let en:nums (Sg++[t'])=nums Sg++[t'.1]:=by unfold nums;rw[EX];rfl
  rw[en];show List.Sublist.trans (List.Sublist.append (W.sub hs _ rfl A' vB rfl ei)<|List.Sublist.refl _) ?_;rw[<- tk];show List.Sublist.map _ (IJ _ _)
def c0m (M')(O:QY S (!ks) N)(e:aV xF (!h) g N m=.inr w):
  ∃ OC:List (List Kl),w=OC.map nums/\OC.length=m/\(∀ ws∈OC,NX xF h ws g)/\w.flatten.Nodup:=by
 rw[b6o]at e;let PT:=O.parts;let#[rk,Ym,hr2]:=PT.rk;let#[w1,_]:=mh PT.nd O.ends M' O.hN m [] 0 (qT _ h g) Hx
 cases hw:dE _ _ g N m [] with
 | inl Sz=>rw[hw]at e;cases e
 | inr U=>
  rw[hw]at e;let F:=(w1 U hw).1;rw[Jn]at F;let#[OC,Xo]:=b1y PT.nd Ym hr2 m _ F;let e:=Sum.inr.inj e;rw[<- e,e1];show#[OC,1,e2,λws Tj=>b7p b4J<|e3 ws Tj,e4]
def b2r:∀ (l:List Δ)(k:Nat),(∀ x∈l,x.length=n)->((l.zipIdx k).flatMap λx=>x.1.map λways=>b79).length=l.length * n:=by
 intro r'
 induction r' with
 | nil=>
  intro _ _;simp
 | cons x l ih'=>
  intro k h;rw[List.zipIdx_cons,Hy,Fb,EO,ih' (k+1) λy hy=>h y<|by simp[hy],h x<|by simp,FU,Im]
  lia
def DiX (he:JP∈Mk.JF (bt S ho N m ç)):∃ ks g,ç[JP.1]?=!ks/\g∈S.JO/\JP.2=iQ b8j:=by let#[#[bl,c],hx,hm]:=Hr.mp he;let hx:=Gw.mp hx;unfold bt at hx;rw[F7]at hx;let#[ks,hk,1]:=FO.mp hx;let#[ways,hw,1]:=EW.mp hm;let#[g,hg,1]:=EW.mp hw;show#[ks,g,hk,hg,1]
def cM (ht:t∈aI ts !ks):t∈ts/\¬ t.1∈ks:=by let#[nU]:=Fj.mp ht;show#[h1,by simpa using h2]
def cO (M')(hO)(he:JP∈Mk.JF Al):
  ∃ ks g,ç[JP.1]?=!ks/\g∈S.JO/\∃ OC:List (List Kl),JP.2=OC.map nums/\OC.length=m/\(∀ ws∈OC,NX xF h ws g)/\JP.2.flatten.Nodup:=by
 let#[ks,g,hk,hg,e]:=DiX he;let#[O,hW]:=hO ks<|ET hk;let#[w,ew]:=hW g hg;let#[OC,sH,d]:=c0m M' O ew;rw[ew]at e;let e:=e;show#[ks,g,hk,hg,OC,e.trans a,b,c,e▸d]
def WN.TC (W)(hP)(hO)(Kv):
  Mk.Nb p m ç b6S gb:=by
 let perm:=W.ln.JH;let inm:∀ x∈ag S,∃ t∈S.Jy,x=_:=λx hx=>by let#[t,ht,e]:=EW.mp<|perm.mem_iff.mp hx;show#[t,ht,e.symm]
 let Vl:(S.Jy.map (·.1)).Nodup:=by
  let:=W.ln.fits.nd;let pk:=(perm.map (·.1))
  rw[EZ]at pk;show pk.nodup_iff.mp this
 show#[hP,W.ln.fits.nd,λx hx=>?_,λx hx ks e=>?_,λi x ks hi e k hk=>(W.ln.fits.ahead i x ks hi e).2 k hk,λJP he=>?_,λJP he=>?_,λJP he way hw=>?_,λJP he way hw l k r e mx hm w hwm=>?_,λJP he=>?_,λJP he way hw k hk=>?_,?_]
 ·let#[uI]:=inm x hx;show W.pos t ht
 ·let#[uI]:=inm x hx;let e:=e;unfold bh at e;split at e
  ·cases e
  ·cases e;show Vl.sublist b4g
 ·let#[ks,g,hk,_]:=cO W.M' hO he;show (ES.mp hk).1
 ·let#[AN,e,l,_]:=cO W.M' hO he;rw[e,EO,l]
 ·let#[AN,e,_,wk,_]:=cO W.M' hO he;rw[e]at hw;let#[YO]:=EW.mp hw;show W.whole b6T (wk ws Tj)
 ·let#[AN,e',_,wk,_]:=cO W.M' hO he;rw[e']at hw;let#[YO]:=EW.mp hw;let#[ZX,a9z,1,sf]:=List.map_eq_append_iff.mp e;let#[t,ZW,1,e3,e4]:=List.map_eq_cons_iff.mp e2;let#[A,ht]:=a8O (wk _ Tj) rfl;let em:=W.one hm<|e3▸W.mem ((cM ht).1);rcases gE A with⟨rfl,eh⟩|⟨Sg,t',rfl,Qp,et',_⟩
  ·subst e1;rw[em,eh,W.a1c];show Fc (FW.mpr hwm)
  ·subst e1;let nh:=λz=>W.no t' (cM Qp).1<|et'.trans z;rw[em,W.Y1 nh,EX];rw[List.getLast?_append];rw[<- et'];show a9K (cM Qp).1
 ·let#[AN,Cg,nd]:=cO W.M' hO he;show nd
 ·let#[ks,g,U1,_,OC,e,_,wk,_]:=cO W.M' hO he;rw[e]at hw;let#[YO]:=EW.mp hw;let#[uI]:=EW.mp hk;let:=(cM<|(wk ws Tj).sub t ht).2;rw[EU,U1];show this
 ·let:=b2r Al 0 λx hx=>by let#[ks,_,1]:=EW.mp hx;rw[EO]
  unfold Mk.JF;rw[this];unfold bt;rw[EO];show Kv
def b2Z (hj:j<m):(cZ p ř fo ms m k).getD j 0=(bz DL k).getD 0:=by show bL ?_;unfold cZ;rw[F7,Hh hj];rfl
def a0t (G:Mk.Nb p m ç ê ms)(F:AW ms)(hc:ç[c]?=!ks)(hf:∀ k,xK fo k=decide lh)(hT:∀ (n:Nat) x,ms[n]?=!x->bF ř x.1=Mk.JI p m ê (Mk.stN p m ç ê ms n) x):∀ (n:Nat) x,ms[n]?=!x->cZ p ř fo ms m x.1=Mk.lk (Mk.QO p m ç ê ms c) x.1:=by
 intro n
 induction n using Nat.strongRecOn with
 | ind n ih=>
  intro x hx;rw[Mk.VS G hc hx];unfold cZ;let one:∀ j,(bz DL x.1).getD 0=if x.1∈ks then 0 else Mx.JN p (bF ř x.1) _:=λj=>by
   rw[b4f F<|ET hx];change fc _ _ _ _ _ _=_;unfold fc;rw[hf];by_cases M':x.1∈ks
   ·rw[if_pos M',if_pos<|EY M']
   ·rw[if_neg M',if_neg<|by simpa using M']
  unfold Mk.newRow;by_cases M':x.1∈ks
  ·rw[if_pos M'];apply Ih;intro j;rw[F7];by_cases hj:j<m
   ·rw[Hh hj,HU hj];change some ((bz DL x.1).getD 0)=_;rw[one j,if_pos M']
   ·rw[Gu<|by simpa using hj,Gu<|by simpa using hj];rfl
  ·rw[if_neg M'];unfold Mx.Ky Mx.cols;rw[EZ];show FA λj hj=>?_;let hj:=FW.mp hj;rw[one j,if_neg M',hT n x hx];change _=Mx.JN p (Mx.col _ j) _;rw[Mx.K3,Mx.K3,Mx.KC];congr 2
   cases h2:x.2 with
   | none=>
    change Mx.Jz m j=Mx.col ((Mk.starts m).map _) j;rw[<- Mx.UW m j hj];congr 1;unfold Mx.ones Mk.starts;rw[EZ];show FA λw hw=>(Mk.TM G hc<|FW.mp hw).symm
   | some Sz=>
    unfold Mx.col;rw[EZ];show FA λk hk=>?_;let#[r,hr,1]:=EW.mp<|(F.ahead n x Sz hx h2).2 k hk;let#[Ay]:=Iq.mp hr;let:=ih i #[] r (by rw[ER<|by lia,ei]);change _=(Mk.lk _ r.1).getD j 0;rw[<- this,b2Z hj]
def b7f {ws:List Kl}(A:NX ts x ws g)(hk:(nums ws).getLast?=!k):∃ t∈ts,t.1=k/\t.2.2.1=g:=by
 rcases gE A with⟨rfl,_⟩|⟨Sg,t,rfl,ht,e,_⟩
 ·cases hk
 ·let en:nums (Sg++[t])=nums Sg++[t.1]:=by unfold nums;rw[EX];rfl
  rw[en,List.getLast?_append]at hk;show#[t,ht,Option.some.inj hk,e]
def WN.reads (W)(hP)(hO)(Kv){c:Nat}(hc:ç[c]?=!ks){ř:List bf}(hf:∀ k,xK fo k=decide lh)(hT:∀ (n:Nat) x,(ag S)[n]?=!x->bF ř x.1=Mk.JI p m b6S (Mk.stN p m ç b6S gb n) x)(hg:g∈S.JO)(zH:g≠h)(hS:Z' p (cW S p ř fo gb m g) v m):False:=by
 let G:=W.TC hP hO Kv;let a58:=a0t G W.ln.fits hc hf hT;let#[O,hW]:=hO ks<|ET hc;let#[w,ew]:=hW g hg;let#[OC,Xo]:=c0m W.M' O ew;let a6z:((c,w))∈Mk.JF (bt S (some h) N m ç):=by show Hr.mpr ⟨(S.JO.map λg=>iQ<|aV _ _ g N m,c),Gw.mpr ?_,EW.mpr #[w,EW.mpr #[g,hg,by rw[ew];rfl],1]⟩;unfold bt;rw[F7,hc];rfl
 let#[e,he]:=List.mem_iff_getElem?.mp a6z;let sep:=λ{y:Ξ} (hy:y.length=m)=>Mk.VR G he (λway hw=>?_) hS.len (λway hw k hk=>?_) hy
 ·apply hS.some;rw[HE];intro z hz;let#[j,hj,ej]:=FR.mp hz;let hd:=sep<|Mx.JQ m j;rw[Mx.KC,Mx.KA _ _ _ hS.len,EU,ER hj]at hd;let hd:=hd;rw[ej]at hd;let f:=hS.fit z hz;let:z=0:=by
   rcases Int.lt_trichotomy z 0 with q|q|q
   ·lia
   ·show q
   ·let:=J2 q hd;lia
  rw[this];simp
 ·let hw:=hw;rw[e1]at hw;let#[YO]:=EW.mp hw;intro z;rcases gE (e3 ws Tj) with⟨_,eg⟩|⟨Sg,t,rfl,_⟩
  ·show zH eg
  ·unfold nums at z;simp at z
 ·let hw:=hw;rw[e1]at hw;let#[YO]:=EW.mp hw;let#[uI,etg]:=b7f (e3 ws Tj) hk;let hts:=(cM ht).1;let#[Ay]:=FR.mp<|W.mem hts;let:=a58 i _ (by rw[ER hi,ei]);let this:=this;rw[<- this,Mx.KC];show Gv (hS.ker _ ?_);show EW.mpr #[t.1,etg▸a9K hts,1]
def b1k:∀ (m:Nat)(ps:À),(∀ q,q<m->q∈ps)->m<=ps.length:=by
 intro r'
 induction r' with
 | zero=>
  intro _ _;show FV _
 | succ m ih'=>
  intro ps h;let hm:=h m<|GJ m;let:=ih' (ps.erase m) λq hq=>(J9<|by lia).mpr (h q<|by lia)
  grind
structure a7b (p:Int) (t:Θ) (m:Nat) (L:Nat):Prop where
 rd:(Mx.Kr ja m).length=L
 le:L<=m
 un:my p t m=[] ↔ L=m
def a1t (hP)(S:Mx.Sh p m t):∃ L,a7b p t m L:=by
 let Tr:=((My.JL p).mp hP).1;let#[ps,A0,a3,_]:=Mx.RR.run #[] Ah (Mx.OJ #[] S) m;let#[Vt,z6,_]:=Mx.RR.run #[] Ah S m;let e1:=Mx.Le a2;let e2:=Mx.Le b2;let el:ps.length=Vt.length:=by
  let:=Mx.R5 (p:=p) (bk:=My.bk p) (ř:=Mx.joined t) m<|F8 _;rw[Mx.Ra S]at this
  simp_all
 show#[ps.length,by rw[e1],by rw[el];show b2.Kv,?_];let eu:my p t m=(List.range m).filter λq=>not (decide (q∈Vt)):=by unfold my LI;rw[e2]
 rw[eu,el];constructor
 ·intro h;let:=b1k m Vt λq hq=>by
   simp_all
  let:=b2.Kv
  lia
 ·intro h;let:=b2.all h
  simp_all
abbrev rdr (p:Int)(t:Θ)(m:Nat):Θ:=((red p (Mx.joined t) m).take m).map (List.drop m)
structure lr (p:Int) (t R:Θ) (m:Nat):Prop where
 len:R.length=m
 Ob:∀ r∈R,r.length=t.length
 fit:∀ r∈R,U6 p r
 ones:∀ i j,i<m->j<m->Mx.dot (R.getD i []) (Mx.col t j) % p=if i=j then 1 else 0
def c3m (hP)(S:Mx.Sh p m t)(h:(Mx.Kr ja m).length=m):lr p t (rdr p t m) m:=by
 let Tr:=((My.JL p).mp hP).1;let#[ps,A0,a3,a4]:=Mx.RR.run #[] Ah (Mx.OJ #[] S) m;let e1:=Mx.Le a2;rw[e1]at h;let hl:(red p Ĵ m).length=t.length:=by rw[a3,Mx.Lf]
 let hm:m<=(red p Ĵ m).length:=by let h2:=a2.len;rw[h]at h2;show h2
 let mem:∀ r∈rdr p t m,∃ r0∈red p Ĵ m,r=r0.drop m:=λr hr=>by let#[r0,h0,1]:=EW.mp hr;show#[r0,J4 h0,1]
 show#[by rw[EO,Fd];lia,λr hr=>?_,λr hr=>?_,λi j hi hj=>?_]
 ·let#[r0,h0,1]:=mem r hr;rw[IX,a2.sh.Ob r0 h0]
  lia
 ·let#[r0,h0,1]:=mem r hr;intro z hz;show a2.sh.fit r0 h0 z (List.mem_of_mem_drop hz)
 ·let:=Mx.Ta #[] S a2 (a2.all h) hl a4 i j hi hj;let eg:(rdr p t m).getD i []=((red p Ĵ m).getD i []).drop m:=by
   let QJ:i<(red p Ĵ m).length:=#[]
   show bL ?_;rw[F7,Gz hi,ER QJ,bL<|ER QJ];rfl
  rw[eg];show this
def a7f (hP)(S:Mx.Sh p m t)(h:my p t m=u::rest):Z' p t (Mx.Ke p mT (LI p t m) m u) m:=by
 let Tr:=((My.JL p).mp hP).1;let#[ps,z6,b4]:=Mx.RR.run #[] Ah S m;let e2:LI p t m=ps:=Mx.Le b2;let hu:u∈my p t m:=by rw[h];show Fy
 let#[hu1,hu2]:=Fj.mp hu;let hum:=FW.mp hu1;let hup:u∉ps:=by rw[e2]at hu2;simpa using hu2
 let#[n1,n2,n3,n4]:=Mx.Tc #[] b2 hum hup;rw[e2];generalize Mx.Ke p _ ps m u=v at n1 n2 n3 n4;show#[n3,n4,λz=>?_,λr hr=>Hz<|(b4 v).mp n1 r hr];let hv:v.getD u 0∈v:=dj #[];let:v.getD u 0∈v.filter (λz=>not (decide (z=0))):=Fj.mpr #[hv,by let n2':v.getD u 0=1:=n2;rw[n2'];rfl]
 grind
def b93 {p:Int}{t:Θ}{m:Nat} (hP) (S:Mx.Sh p m t):(¬ (LI p Ĵ m).length<m/\∃ R,fC p t m=.tup [.str "reads",tb R]/\lr p t R m)\/∃ v,Z' p t v m:=by
 let#[L,B]:=a1t hP S;let e:(LI p Ĵ m).length=L:=B.rd;unfold fC uz;by_cases c:(LI p Ĵ m).length<m
 ·show .inr ?_
  cases hu:my p t m with
  | nil=>
   let:=B.un.mp hu;omega
  | cons u rest=>show#[_,a7f hP S hu]
 ·rw[if_neg c];let:=B.le;show .inl #[c,_,1,c3m hP S (by change (LI p Ĵ m).length=m;omega)]
def b6G {nm:List α}{kf:α->Dx}{u:α->D}(sF:gR F H)(hJ:SV F J (nm.map u))(hl:nm.length<=1000)(ht:∀ x∈nm,∀ v H1 (Q:VK),DR H1 (u x) v->a2g->te a9v H1 Q)(hd:∀ lc H' (as:υ) vs,gR H H'->H lc=none->H' lc=!.lst vs->as.length=nm.length->as.Nodup->(∀ a∈as,H' a=!.lst []/\H a=none)->Paired sM vs yr->G lc H'):gu 1 js (bM 0) wH te σ G J H:=by
 intro lc RW;show#[λi m σ' H1=>m=nm.length - i/\i<=nm.length/\(∃ o,σ'=o::js.map λj=>(σ[j]?).join)/\gR H H1/\∃ as:υ,as.length=i/\as.Nodup/\(∀ a∈as,H1 a=!.lst []/\H a=none/\a≠lc)/\∃ vs,H1 lc=!.lst vs/\Paired (λv kv=>∃ t,v=.ref t/\H1 t=!.tup BZ) vs (bp kf Y9 as),#[nm.length,c0G,c1n],?_];rintro i m σ' H1 ⟨rfl,hi,⟨o,rfl⟩,e1,as,U3,ZA,has,vs,Q3,UH⟩;by_cases c:i<nm.length
 ·let ex:=ER c;let#[go,yl]:=hJ.go H1 i _ Yd (by rw[F7,ex];rfl);show .inr #[go,λx H2 y=>?_];let#[e2,dx]:=yl x H2 y;show#[λ_=>False,λv H5=>∃ a t,v=.ref t/\gR H2 H5/\H2 a=none/\H2 t=none/\H5 a=!.lst []/\H5 t=!.tup [kV<|kf nm[i],.ref a],λ_ h=>h.elim,λv H5 h=>?_,?_]
  ·let#[a,t,1,e5,ha0,ht0,ha,ht]:=h;let VW:=e2.trans e5;let UE:(bp kf Y9 as).length=i:=by
    unfold bp;rw[EO,Hi,Fd,U3]
    lia
   let alc:=(ak (e2 _ _ Q3) ha0).symm;let tlc:=(ak (e2 _ _ Q3) ht0).symm;show#[vs,VW _ _ Q3,by rw[Paired.length UH,UE];change i<2 ^ 24;lia,_,?_,1,c,#[_,1],aY (e1.trans VW) RW,as++[a],by rw[Fb,U3];rfl,?_,λb hb=>?_,vs++[.ref t],ae,?_]
   ·lia
   ·show FG.mpr b0A;rw[Fo.mp P2]at e;rw[e]at hb;let:=e2 _ _ (has a hb).1;rw[ha0]at this
    cases this
   ·rcases Fx.mp hb with hb|hb
    ·let#[z6]:=has b hb;show#[by rw[a8 b3];show VW _ _ b1,b2,b3]
    ·rw[Fo.mp hb];show#[by rw[a8 alc];show ha,(e1.trans e2).free ha0,alc]
   ·let er:bp kf (nm.take<|i+1) (as++[a])=bp kf Y9 as++[(kf nm[i],.ref a)]:=by unfold bp;rw[aQ ex,List.zip_append (by rw[Fd,U3];lia),EX];rfl
    rw[er];show Paired.Of a4v #[t,1,by rw[a8 tlc];show ht];let:=VW _ _ Qp;rw[a8 (λz=>by rw[z,VW _ _ Q3]at this;cases this)];show this
  ·show ht nm[i] (FZ c) x H2 _ (DR.mono (aH Yd e2) _ _ dx) λa t H3 e3 a0 t0 a1 t1=>#[a,t,1,e3,a0,t0,a1,t1]
 ·let ei:i=nm.length:=#[]
  subst ei;rw[FE]at UH;show .inl #[hJ.stop H1 _ Yd (by rw[EO];show F8 _),hd lc H1 as vs e1 RW Q3 U3 ZA (λa ha=>let ⟨x,y,_⟩:=has a ha;#[x,y]) UH]
def a2x [DecidableEq α](kj)(nd:nm.Nodup)(hl:nm.length<=1000)(e)(Q3:H' lc=!.lst vs)(al:as.length=nm.length)(an:as.Nodup)(has:∀ a∈as,H' a=!.lst []/\H a=none)(hp:Paired sM vs yr)(q:∀ d H2 (LA:α->Addr),gR H H2->H d=none->H2 d=!.dK b8k->(∀ x∈nm,H2 uA=!.lst []/\H uA=none/\cL b8k (kf x)=!.ref uA)->(∀ x∈nm,∀ y∈nm,LA x=LA y->x=y)->Q E9 H2):∃ p ķ,[V.ref lc]=kY/\b97 H' p ķ/\ķ.length<=1000/\LC H' ŭ Q:=by
 let UE:(bp kf nm as).length<=1000:=by
  unfold bp
  simp_all
 show#[lc,_,1,#[vs,Q3,hp],c2q];rw[b9b kj nd<|by lia]at hd;let#[LA,Vw,la2,la3]:=a64 kj nm as nd an al.symm;let ek:bp kf nm as=nm.map λx=>_:=la3▸a82 nm;rw[ek]at hd Vw;show q d H2 LA (e.trans e2) (e.free h2) hd (λx hx=>let ⟨a,b⟩:=Vw x hx;let #[c,c']:=has _ b;#[e2 _ _ c,c',a]) la2
theorem a0U (a:Addr)(o:HO):Hp:=λb=>if b=a then some o else none
def qk (h:H a=!o):gR (a0U a o) H:=λb u hb=>by
 grind [a0U]
def c2e {nm:List α}{kf:α->Dx}{u:α->D}{ð:ι}(sF:gR F H1)(p1:Rd F dp ku)(p2)(fz:Fz X H1 H2 dp o ķ)(hk:ð.map pK=nm.map u)(hl:nm.length<=1000)(ht:∀ x∈nm,∀ v H1 (Q:VK),DR H1 (u x) v->a2g->te a9v H1 Q)(hd:∀ lc H' (as:υ) vs,gR H1 H'->H' lc=!.lst vs->as.length=nm.length->as.Nodup->(∀ a∈as,H' a=!.lst []/\H1 a=none)->Paired sM vs yr->Q (.ref lc) H'):gu 1 js (bM 0) wH te σ b1D (Itk o dp) H2:=by
 let#[f1,f2]:=fz;rcases f2 with⟨h1,f2,nf⟩|f2
 ·show b6G (qk f1) b26 hl ht λlc H' as vs e' h0 Q3 al an has hp=>.inl #[dp,o,ķ,nf,e' _ _ f1,?_];let nd:∀ {b:Addr},H2 b=none->b≠dp:=λhb=>(ak f1 hb).symm;subst f2;show hd lc _ as vs (zM h1 e') (by rw[a8<|nd h0];show Q3) al an (λa ha=>let ⟨x,y⟩:=has a ha;#[by rw[a8<|nd y];show x,by let:=nd y;rwa [a8 this]at y]) (Paired.imp' (λv kv J'=>(by let#[t,et,ht]:=J';show#[t,et,by rw[a8 (λz=>by rw[z,e' _ _ f1]at ht;cases ht)];show ht])) hp)
 ·subst f2;show b6G (qk f1) b26 hl ht λlc H' as vs e' h0 Q3 al an has hp=>.inr (hd lc H' as vs e' Q3 al an has hp)
def b7q (k:Nat)(s)(e:gR H G)(h:JS Ņ l vs)(τ:St)(hσ:σ=vs.map some++τ)(hk:k<=τ.length):Ss F H Ņ σ G (l.map .fz++List.replicate k .un):=by
 let hl:=h.length;subst hσ;show#[e,s,aj s,gR.refl _,by simp;omega,λi d q=>?_,λi d q=>?_,λi j c d a n q=>?_]
 ·by_cases c:i<l.length
  ·rw[FQ<|by simpa using c,F7]at q
   cases z:l[i]? with
   | none=>rw[z]at q;cases q
   | some y=>
    rw[z]at q;cases q;let#[v,a,b]:=h.at z;show#[v,by rw[FQ<|by simp[hl,c],F7,a];rfl,b]
  ·rw[FT<|by simpa using c]at q
   cases (Hw<|ET q)
 all_goals
  rcases Fx.mp (ET q) with z|z
  ·simp_all
  ·cases Hw z
def sd1 (s)(h:DR F d v):Sd F (some v::σ) H [!d]:=#[s,by simp,λi e q=>by
 match i,q with
 | 0,q=>simp_all
 | i+1,q=>simp at q]
def qAt (F0 H0:Hp)(h:Pn X ss r):N7 X ss lM:=h F0 H0
theorem mZ (S:NS)(ns:η):Prop:=ns=bG nM S.names.length/\AX nM/\(∀ t∈S.Jy,t.2.2.1∈S.names)/\S.Jy.length<=900/\S.JD.length<=900
def a88:au ["self","begins",xq,"told"] Ý (aa b6U):=Nz
def a8D [Bx:Bd](O)(T:D9 Bx.mg)(JB)(Mi:Kn 1 "first_ready" b7Z (Pr LB)):Tm 2 "ordered" "Net.ordered" b6U Ý (Pr (oM c mZ)):=by
 intro f fd F;let Me:=O.YJ;show F.ok a88 z5 CZ
 ·obtain⟨G,_,_,sF,hl,@⟨S,ns,hN⟩,q⟩:=h;let#[_,ac,a12,htz,hpz]:=id hN;let#[1,_]:=hN;let#[v,_,1,hv,1]:=hl;let ND:=a88.nd;let bnm:(bq S).map (·.1)=S.names:=by unfold bq;rw[EZ];show List.map_id _
  let Zn:S.names.Nodup:=by rw[<- bnm];show ac.nd
  let nl:S.names.length<=1000:=by unfold NS.names;rw[EO];lia
  let pk:(S.JD.map λp=>((.inr p.1:Dx),gA c p)).map pK=S.names.map .str:=by unfold NS.names;rw[EZ,EZ];rfl
  show#[_,(ai (pS 1 ND (dA (c8 rfl) rfl T.Lo boot_dict (a9 (PE.Vo (t':=λσ H Q=>jn (As _<|tP _) _ _ _ _ _ σ H<|Vo _ Q) (eQ rfl (cS 1 [] Xe) (ar<|RD Me (Đ 0))
  ē
  DW
  (λ_ _ _ _ _=>eM<|a9 (pv 0) (a9 (eO Jx) Jx))) λ_ _ _ h=>h) Jx)))
   (ai (bP F9 rfl b1I (bY Bx.K (n:=4) rfl<|af pY (af sE<|af DI (af nA aF)))
  (aq<|aw (OS Bx.K Ff Fn Fm aB (pD C3 iU<|pv 4)<|a9 XO Jx)))
   (qAt G H (qC b8T
 (qC (qW F9 (dT fU cF (cw T.JX<|Đ 6)<|cw T.JX (Đ 1))
  (q1<|qA (aw<|OS Bx.K Ff Fn Fm aB vI (a9 (dF Mi hr.m rfl<|da (Đ 1) (da (Đ 6) JC)) Jx)) (λ_ _ _ h=>h)))
 (qr<|Đ 6)))))),?_]
  show#[λx H1=>gR H H1/\DR (grow G H H1) (BD c S) x,tP.go (ε:=[some<|aA c S]) (sd1 sF hv) ⟨rfl,rfl,rfl⟩ λx H1 e1 _ hx=>#[e1,hx],λx H1 h=>?_];let#[e1,dp,ķ,1,hd,hk,hds]:=h;let sF1:=aH sF e1;show#[dp,1,.inr<|.inr ⟨ķ,hd.mono sF1,λo H2 fz=>?_⟩];show c2e sF1 hd hk fz pk nl (λx hx v H1 Q hv q=>#[_,b90,λa H2 e2 h2 ha=>#[(by change 2<=sizeLine;decide),λt H3 e3 h3 ht=>q a t H3 (e2.trans e3) h2 (e2.free h3) (e3 _ _ ha) (by cases hv;show ht)]]) λlc H' as vs e' Q3 al an has hp=>a2x b6a Zn nl (e1.trans e') Q3 al an (λa ha=>let ⟨x,y⟩:=has a ha;#[x,e1.free y]) hp λd H3 LA e3 d0 Zz TB inj=>?_;show tP.go (F:=G) (ε:=[some<|aA c S]) (sd1 (sF.trans e3) hv) ⟨rfl,rfl,by decide,⟨#[]⟩⟩ λx H4 e4 _ hx=>?_;let#[lt,xs,1,LY,hxs]:=hx;let hp:=LET hxs;let UB:=Paired.length hp;let le4:gR (grow G H3 H4) H4:=aH (sF.trans e3) e4;let laN:∀ x∈S.names,grow G H3 H4 uA=none:=λx hx=>by unfold grow;rw[if_neg (by rw[(TB x hx).1];show nofun)];show sF.free (TB x hx).2.1
  generalize grow G H3 H4=Γ at *
  show#[lt,1,#[_,JU.of<|le4 _ _ LY],fW (K:=Bx.K) (xs:=xs) (λj σ Hj=>(∃ o2 o3 o4 o5,σ=[!v,some<|.ref d,o2,o3,o4,o5,none])/\gR H Hj/\gR Γ Hj/\Hj d=!(.dK<|S.names.map λx=>(Sum.inr x,V.ref<|LA x))/\∀ x∈S.names,Hj uA=!(.lst<|(cR (S.Jy.take j) x).map V.str)) ⟨⟨_,_,_,_,rfl⟩,e3.trans e4,le4,e4 _ _ Zz,λx hx=>e4 _ _ (TB x hx).1⟩ (λj σ Hj _ h=>JU.of<|h.2.2.1 _ _ LY) ?_ ?_]
  ·rintro j w σ Hj ev ⟨⟨o2,o3,o4,o5,rfl⟩,eH,eΓ,Zy,bj⟩;let#[t,et,b,1,hb]:=Paired.at hp ev;let hy:=a12 t<|ET et;show#[b,_,1,M0.of<|eΓ _ _ hb,1,_,_,1,_,_,1,_,_,1,_,[],2,?_];show#[_,1,_,1,d,.ref<|LA t.2.2.1,1,(by rw[<- (TB _ hy).2.2];show NJ.k (k:=Sum.inr t.2.2.1) Zy),.inl #[1,_,JU.of<|bj _ hy],_,1,LA t.2.2.1,_,_,2,bj _ hy,?_,#[xb,1],aY eH (TB _ hy).2.1,aY eΓ<|laN _ hy,?_,λx hx=>?_]
   ·let h3:=oE (S.Jy.take j) t.2.2.1;rw[Fd]at h3;rw[EO];change (cR (S.Jy.take j) t.2.2.1).length<2 ^ 24
    lia
   ·rw[a8 (λz=>by rw[z,bj _ hy]at Zy;cases Zy)];show Zy
   ·rw[aQ et,a7i];by_cases cx:t.2.2.1=x
    ·subst cx;rw[if_pos rfl,ae,EX];rfl
    ·rw[if_neg cx,Fq,a8 λz=>cx (inj _ hx _ hy z).symm];show bj x hx
  ·rintro σ Hj ⟨⟨o2,o3,o4,o5,rfl⟩,eH,eΓ,Zy,bj⟩;rw[UB,FE]at bj;let ebs:((bq S).map λb=>b4p)=S.names.map λx=>(.inr x,aK<|cR S.Jy x):=by unfold bq;rw[EZ];rfl
   let bsl:(bq S).length=S.names.length:=by unfold bq;rw[EO]
   show#[grow G H Hj,[.fz<|aA c S,.fz<|tJ nM,.un,.un,.un,.un,.un],.rt<|aK ť,b7q (l:=[aA c S,tJ<|bq S]) (vs:=[v,.ref d]) 5 sF eH #[_,_,1,hv.mono<|aj sF,_,_,1,#[d,_,1,.inl<|(ay d0).trans Zy,?_,?_],1] [o2,o3,o4,o5,none] rfl<|F8 5,?_,λx H' e' _ h=>q x H' e' h]
   ·rw[ebs,EZ,EZ];rfl
   ·rw[ebs,EZ,EZ];show iu λx hx=>#[LA x,_,1,(ay (TB x hx).2.1).trans<|bj x hx,by change JS _ ((cR S.Jy x).map D.str) ((cR S.Jy x).map V.str);show iu λy _=>rfl]
   show .nx AI ?_;show fh (β:=Nat) (b:=0) (λk ε=>ε=[.fz<|aA c S,.fz<|tJ nM,.un,.un,.un,.un,.ow<|aK (bG (bq S) k)]/\k<=S.names.length) (λk=>S.names.length - k) #[1,FV _] λk ε J'=>?_;let#[he,hk]:=J';subst he;let#[on,ol]:=mX ac k #[];let l1:=LD.m (g:=D.str) (x:=bG nM k);rw[ol]at l1;let l2:LD [tJ<|bq S] (.int S.names.length):=by let:=LD.k (ð:=(bq S).map λb=>b4p);rwa [EO,bsl]at this
   let rd:=lt_int (ε:=[some<|aA c S,some<|tJ nM,none,none,none,none,some<|aK (bG nM k)]) (ra:=rF LD<|rA (rV 6) OH) (rb:=rF LD<|rA qv OH) (i:=k) (j:=S.names.length) #[#[2],l1] #[#[2],l2];by_cases g:k<S.names.length
   ·rw[EY<|by lia]at rd;let#[x,ex,hx,hn]:=g7 ac (ts:=bG (bq S) k) #[];let fr:=LB.mk (bs:=bq S) (ts:=bG (bq S) k) ac.nd λb hb=>by unfold bq at hb;let#[y,_,1]:=EW.mp hb;show Fs (oE _ _) #[]
    rw[ex]at fr;show .inr #[rd,k+1,_,#[1,by rw[EO,ol];lia,.a #[#[3],fr] rfl],#[?_,g],#[]];change _=[_,_,_,_,_,_,Sl.ow<|aK (bG nM k++[(bC nM<|bG nM k).getD ""])]
    rw[ex,show aK (_++[(!x).getD ""])=.lst (List.map D.str _++[.str x]) from congrArg D.lst EX];rfl
   ·let g:k=S.names.length:=#[]
    rw[F5<|by lia]at rd;show .inl #[rd,1,by rw[g]]
def Qj (s):Sd F σ H []:=#[s,FV _,λi d q=>by simp at q]
def Km (S:Sd F σ H ε):Sd F (o::σ) H (none::ε):=#[S.le,Nat.succ_le_succ S.len,λi d q=>by
 cases i with
 | zero=>cases q
 | succ i=>show S.rd i d q]
def KQ (h:DR F d v)(S:Sd F σ H ε):Sd F (some v::σ) H (some d::ε):=#[S.le,Nat.succ_le_succ S.len,λi e q=>by
 cases i with
 | zero=>simp_all
 | succ i=>show S.rd i e q]
def bi (h:H a=none):grow F H (upd G a o)=upd Ņ a o:=by
 funext b;by_cases c:b=a
 ·subst c;rw[ay h,ae,ae]
 ·unfold grow;rw[a8 c,a8 c]
def prG (s)(e:gR H G)(hl:JS Ņ l vs)(hR:R l d)(q:∀ x G',gR G G'->DR Aw d x->Q x G'):Pr R vs G Q E0:=#[_,l,d,aH s e,hl,hR,λx G' e' h=>q x G' e'<|by rwa [av e e']at h]
def tPG (e:gR H G)(S:Sd Ņ σ G ε)(h:r ε d)(q:∀ x G',gR G G'->DR Aw d x->Q x G'):tP r σ G Q:=tP.go S h λx G' e' _ k=>q x G' e' (by rwa [av e e']at k)
def Au (e:gR H G)(e':gR G G')(hl:G l=!o):gR (grow (aW l Ņ) G G') (aW l Aw):=λb u hb=>by
 by_cases c:G b=none
 ·rw[ay c]at hb;rw[aR (ak hl c).symm,ay<|e.free c];show hb
 ·rw[show grow _ G G' b=aW l _ b from if_neg c]at hb;show b44 (aT e') b u hb
theorem Vp:Hp:=λ_=>none
def bT:gR Vp H:=λ_ _ h=>nomatch h
section
variable {C CE f:Addr}
abbrev pE (CE dx d l:Addr):HO:=.ins CE dx [("rows",.ref d),("probes",.ref l)]
inductive iT (CE:Addr) (vs:π) (H:Hp) (Q:VK) (E:XK):Prop
 |mk (x dx d:Addr) (m:Nat):vs=[.ref x,.ref d,.int (m:Int)]->H x=!.ins CE dx []->m<=1000->(∀ l H1,gR a75 H1->DR (grow Vp a75 H1) b8Y LF->Q .non (upd H1 x (pE CE dx d l)))->iT CE vs H Q E
def a6k:au ù ù (aa b8l):=Nz
def a6o [Bx:Bd](T:Ma Bx.K Bx.mg CE)(Lr):Tm 3 "__init__" "Ear.__init__" b8l ù (iT CE):=by
 intro f fd F;show F.k a6k λJE A outer s H vs Q E hr h=>?_
 ·let#[x,dx,d,m,1,hx,hm,q]:=h;show#[_,(ai (g8 A3 iU rfl)
 (aq<|g8 A3 (bg Lr hr.m rfl<|a9 wJ Jx) rfl)),?_]
  show#[Ch,x,CE,Ep,hx,T.cl,T.nR,by decide,?_];show#[DU,#[hm],λl H1 e1 hN=>?_];let#[a,xs,1,hN]:=hN;show#[_,1,x,CE,Ep,e1 _ _ ae,T.cl,T.nB,(by change 1<1000;decide),q a H1 e1 #[a,xs,1,hN]]
inductive rR (C CE:Addr) (vs:π) (H:Hp) (Q:VK) (E:XK):Prop
 |mk (F:Hp) (a f d dx l:Addr) (p k:Int) (i:Nat) (B:Θ) (R:Mk.NY):gR F H->vs=[.ref a,.ref f,.int (i:Int),.int k]->F a=!pE CE dx d l->DR F (aG R) E9->DR F (tb B) LF->DR F (fD C p) xI->0<p->p<=1000000->k∈R.map (·.1)->i<B.length->(∀ r∈B,U6 p r/\r.length<=1000)->B.length<=1000 ->
  (∀ l' H1,gR H H1->DR xi (tb (Mk.moved p B i Ź)) (.ref l')->Q .non (upd H1 a (pE CE dx d l')))->rR C CE vs H Q E
inductive MvI (F H:Hp) (a f ml:Addr) (i:Nat) (k:Int) (ow of:V) (ps:Θ) (j:Nat) (σ:St) (G:Hp):Prop
 |mk (o7 o8 o9:Ç) (ys:π):σ=[!.ref a,!.ref f,!.int (i:Int),!.int k,!ow,!of,!.ref ml,o7,o8,o9]->gR H G->G ml=!.lst ys->JS (aW ml Ņ) ((ps.take j).map rw) ys->MvI F H a f ml i k ow of ps j σ G
def b7r:au [c1u,"own","often","moved","place","probe","less"] à (aa b8m):=Nz
def dD0 [Bx:Bd](hn)(T:Ma Bx.K Bx.mg CE)(KG)(JA):Tm 5 "move_front" "Ear.move_front" b8m à (rR C CE):=by
 intro f fd F;show F.k b7r λJE A outer s H vs Q E hr h=>?_
 ·let#[F,a,f,d,dx,l,p,k,i,B,R,sF,1,ha,hR,hB,hf,p0,p1,hk,hi,hF,hz,q]:=h;let ND:=b7r.nd;let#[l',xs,el,hl,hp]:=id hB
  cases el;let hE:DR F (xO CE R B) xV:=#[a,Ep,ha,1,Qc,hR,Qc,hB,1]
  let UB:=hp.length;rw[EO]at UB;let#[vo,evo,hvo]:=hp.at (d:=rw Š) (by rw[F7,ER hi,EU,ER hi];rfl)
  let sh:∀ {j:Nat},j<B.length->oJ C CE [xO CE R B,fD C p,.int j,.int k] (.int<|Mx.JN p (B.getD j []) (Mk.lk R k)):=λhj=>#[p0,p1,hk,hj,(hF _<|dj hj).1,(hF _<|dj hj).2]
  let rs:∀ x y:Ξ,0<=Mx.JN p x y/\Mx.JN p x y<p:=λx y=>by rw[Mx.K3];show#[Gi _<|by lia,FX _ p0]
  show#[_,(ai (pS 4 ND<|pI gD Id wJ)
   (ai (pS 5 ND<|Pk (Đ 0) KG hr.m b2B)
   (ai (pS 6 ND<|eO Jx)
   (ai (bP F9 rfl (su Bx.K rfl T.Lg<|a9 Id Jx) (bY Bx.K rfl<|af m9 (af nV aF))
    (ai (pS 9 ND<|W2 (dT bc cv (Đ 7)<|Đ 2) (dC b8) (Pk (Đ 0) KG hr.m<|da (Đ 1) (da (Đ 7)<|da (Đ 3) JC)))
    (aq (mQ (pT bc (pv 9) b8)
    (aq<|aw (OS Bx.K Ff Fn Fm aB vI<|a9 uS Jx))
    (aq (aw (OS Bx.K Ff Fn Fm aB vI (a9 (dL 2 rfl (cS 2 [1,5,9] [c1l,"less"]) (iZ rfl T.M8<|da (Đ 8) (da (Đ 4) JC))
     Ě
     (λ_ _ _ _ _=>df0)
     (λ_ _ _ _ _=>Pk (Đ 2) JA hr.m<|da (dO n5 cF tE<|dO cq Mv (Đ 4) (Đ 1)) JC)) Jx))))))))
   (aq<|g8 A3 vI rfl))))),?_]
  show#[_,1,a,CE,dx,_,_,1,sF _ _ ha,T.cl,T.nB,1,_,1,l,xs,_,_,2,JU.of<|sF _ _ hl,iy evo,?_];show tP.go (ε:=[some<|xO CE R B,some<|fD C p,some<|.int i,some<|.int k]) (KQ hE<|KQ hf (KQ rfl<|KQ rfl (Qj sF))) ⟨rfl,by decide,⟨rfl,rfl,rfl,rfl⟩,sh hi⟩ λx H1 e1 _ hx=>?_
  cases hx;show#[(by change 0<=sizeLine;decide),λml H2 e2 h2 hml=>?_];let Qb:=e1.trans e2;let UK:H ml=none:=e1.free h2;let gF:∀ {G:Hp},gR F (aW ml<|grow F H G):=λ{G} b o hb=>by rw[aR (λz=>by rw[z]at hb;rw[sF _ _ hb]at UK;cases UK)];show aj sF _ _ hb
  show#[_,1,a,CE,dx,_,_,1,Qb _ _<|sF _ _ ha,T.cl,T.nB,1,l,xs,1,Qb _ _<|sF _ _ hl,c0d (MvI F H a f ml i k vo b5v<|Mk.moved p B i (Mk.lk R k)) ⟨none,none,none,[],rfl,Qb,hml,rfl⟩ (λj σ G _ J'=>(by let#[nv,eG,_,_]:=J';show JU.of<|eG _ _ (sF _ _ hl))) ?_ ?_]
  ·rintro j v Tp σ G ev ⟨o7,o8,o9,ys,rfl,eG,WR,WS⟩ hTp;let hj:j<B.length:=by let:=(ES.mp ev).1;lia
   let#[v',ev',hv]:=hp.at (i:=j) (d:=rw W1) (by rw[F7,ER hj,EU,ER hj];rfl)
   rw[ev]at ev'
   cases ev';let eT:gR G (upd G Tp<|.tup [.int j,v]):=aO ė hTp;generalize upd G Tp (.tup [.int j,v])=G1 at eT;let e1G:=eG.trans eT;let yl:=WS.length;rw[EO,Fd]at yl;let tk:(Mk.moved p B i<|Mk.lk R k).take (j+1)=(Mk.moved p B i<|Mk.lk R k).take j++[Mk.MC p B i Ź j]:=by show aQ ?_;unfold Mk.moved;rw[F7,Hh hj];rfl
   let Kv:ys.length<2 ^ 24:=#[]
   let put:∀ (G2:Hp)(u:V)(o9':Ç),gR G1 G2->DR (aW ml<|grow F H G2) (rw (Mk.MC p B i Ź j)) u->MvI F H a f ml i k vo b5v (Mk.moved p B i<|Mk.lk R k) (j+1) [some<|.ref a,some<|.ref f,some<|.int (i:Int),some<|.int k,!vo,some<|.int vZ,some<|.ref ml,some<|.int (j:Int),!v,o9'] (upd G2 ml<|.lst (ys++[u])):=λG2 u o9' e hu=>by show#[xb,1,aY (e1G.trans e) UK,ae,?_];rw[tk,EX,bi UK,cY];show (WS.mono<|b44 (aT<|eT.trans e)).app (.one hu)
   let S1:Sd F [some<|.ref a,some<|.ref f,some<|.int (i:Int),some<|.int k,!vo,some<|.int vZ,some<|.ref ml,some<|.int (j:Int),!v,o9] G1 a2W:=KQ hE<|KQ hf (KQ rfl<|KQ rfl (Km<|Km (Km<|KQ rfl (Qj<|sF.trans e1G))));let md:Mk.MC p B i (Mk.lk R k) j=if j=i\/Mx.JN p (B.getD j []) (Mk.lk R k)=0 then B.getD j [] else List.zipWith (λx y=>(Mx.JN p Š Ź * x - Mx.JN p W1 Ź * y) % p) W1 Š:=rfl
   let r1:=eq_int (ε:=a2W) (ra:=rV 7) (rb:=rV 2) rfl rfl;by_cases cj:j=i
   ·rw[EY<|by lia]at r1;show tP.go S1 (.t r1 rfl) λx G2 Ou _ hx=>?_
    cases hx;let Rb:=Ou _ _<|eT _ _ WR;show⟨_,λσ' H' h=>h,_,rfl,rfl,_,rfl,Cj #[c0v]⟩;rw[md,if_pos<|.inl cj];show hv.mono gF
   ·rw[F5<|by lia]at r1;show tP.go S1 (.f r1 ⟨rfl,by decide,⟨rfl,rfl,rfl,rfl⟩,sh hj⟩) λx G2 Ou _ hx=>?_
    cases hx;let Rb:=Ou _ _<|eT _ _ WR;let e2G:=e1G.trans Ou;show⟨_,λσ' H' h=>h,_,rfl,rfl,_,rfl,lJ w8 w8⟩
    ·let z:Mx.JN p W1 Ź=0:=by let:=Fv z;injection this
     show#[c0v];rw[md,if_pos<|.inr z];show hv.mono gF
    ·let z:¬ Mx.JN p W1 Ź=0:=λy=>z<|EY (by rw[y]);let jl:(B.getD j []).length<=1000:=(hF _<|dj hj).2;let b1:=rs Š<|Mk.lk R k;let b2:=rs W1<|Mk.lk R k;show#[_,1,.inl b2m,?_];show tPG (F:=aW ml<|grow F H G2) (H:=G2) ė (ε:=[none,some<|fD C p,none,none,some<|rw Š,some<|.int vZ,none,none,some<|rw W1,some<|.int (Mx.JN p W1<|Mk.lk R k)]) ?_ (c6 (xs:=(B.getD j []).zip<|B.getD i []) (u:=λz=>.tup EB) (h:=λz=>.int<|(Mx.JN p (B.getD i []) (Mk.lk R k) * z.1 - Mx.JN p (B.getD j []) (Mk.lk R k) * z.2) % p) (d:=rw (Mk.MC p B i (Mk.lk R k) j)) ⟨_,_,⟨rfl,rfl,rfl⟩,fY _ _⟩ (by rw[Hi];lia) (λz hz=>#[DM,xg,#[#[Dl,Dl,jG],1],#[#[]]]) ?_) λx G3 e3 hx=>?_
     ·let gg:∀ {d:D}{v:V},DR F d v->DR (grow (aW ml<|grow F H G2) G2 G2) d v:=λh=>(h.mono gF).mono<|aj b5w;show Km (KQ (gg hf)<|Km (Km<|KQ (gg hvo) (KQ rfl<|Km (Km<|KQ (gg hv) (KQ rfl<|Qj (aH b5w<|gR.refl _))))))
     ·rw[md,if_neg λy=>y.elim cj z,<- GQ];show Fl.rt.inj WO
     ·show#[ml,_,_,2,e3 _ _ Rb,Kv,put G3 x _ (Ou.trans e3)<|hx.mono (Au e2G e3 Rb)]
  ·rintro σ G ⟨o7,o8,o9,ys,rfl,eG,WR,WS⟩;rw[GV (by unfold Mk.moved;rw[EO,G9];lia)]at WS;show#[_,1,_,1,a,CE,dx,_,1,eG _ _<|sF _ _ ha,T.cl,T.nB,(by change 2<1000;decide),q ml G eG #[ml,ys,1,by rw[ay UK];show WR,WS.mono Kf]]
universe e
def oq {g:α->D}{l:List α}{i:Nat}(h:JS F DG vs)(e:vs[i]?=!v):∃ y,l[i]?=!y/\DR F (g y) v:=by let#[d,nU]:=h.at' e;rw[F7]at h1;let#[y,h3,1]:=FO.mp h1;show#[y,h3,h2]
def b2a {f:α->Int}:∀ {l:List α},(l.map f).Nodup->∀ r∈l,l.find? (λx=>decide (f x=f r))=!r:=by
 intro r'
 induction r' with
 | nil=>
  intro _ _ h;show (Gd h).elim
 | cons x ws ih'=>
  intro nd r h;rw[Fh,FP]at nd;rcases Fw.mp h with rfl|h
  ·simp_all
  ·let ne:¬ f x=f r:=λz=>nd.1<|z▸Fc h;rw[Hl,F5 ne];show ih' nd.2 r h
theorem j9 (as:υ)(G:Hp):Hp:=λb=>if b∈as then none else G b
set_option tactic.hygienic true in def qJ (e:gR G G'):gR (j9 as G) (j9 as G'):=λb o h=>by
 unfold j9 at h ⊢;split at h
 ·cases h
 ·rename_i c;rw[if_neg c];show e _ _ h
def a7Y (h:l∈as)(o:HO):j9 as (upd G l o)=j9 as G:=by
 funext b;unfold j9
 grind [a8]
def io:gR (j9 as G) G:=λb o h=>by
 unfold j9 at h;split at h
 ·cases h
 ·show h
def sU (h:¬ b∈as):j9 as G b=G b:=if_neg h
def oh:gR (grow Vp H G) G:=λb o h=>by
 unfold grow at h;by_cases c:H b=none
 ·rwa [if_pos c]at h
 ·rw[if_neg c]at h;cases h
theorem V9 (Kz:υ)(H)(v)(a:Mk.Ask):Prop:=∃ b ea,v=.ref b/\Kz[a.1]?=!ea/\H b=!.tup a8Z
def V9.mono (zs:υ)(e)(h:V9 Kz H v a):V9 (Kz++zs) H' v a:=by let#[b,ea,zr]:=h;show#[b,ea,h1,by rw[FQ (ES.mp h2).1];show h2,e _ _ h3]
theorem TU (CE:Addr)(Ku:υ)(m)(H)(ea)(JP:Mk.K7):Prop:=∃ d dx l,Ku[JP.1]?=!d/\H ea=!pE CE dx d l/\DR H b8Y LF
def TU.mono {CE:Addr}(e)(h:TU CE Ku m H ea JP):TU CE Ku m H' ea JP:=let ⟨d,dx,l,a,b,c⟩:=h;#[c1Y]
abbrev _root_.Ú:=Int->Addr
abbrev XU (ks:Ξ)(LA:Ú)(H G:Hp):Hp:=j9 sK (grow Vp H G)
def x9 (h:¬ b∈ks.map LA)(h0:H b=none):XU ks LA H G b=G b:=(sU h).trans (ay h0)
inductive QZ (CE:Addr) (H G0:Hp) (ks:Ξ) (LA:Ú) (Ku:υ) (m:Nat) (es:List Mk.K7) (L:List wO) (Kz:υ) (G:Hp):Prop
 |mk:gR G0 (j9 sK G)->(∀ k∈ks,H pB=none/\∃ xs,G pB=!.lst xs/\Paired (V9 Kz (XU ks LA H G)) xs (Mk.pick L k))->Paired (TU CE Ku m (XU ks LA H G)) Kz es->Kz.Nodup->QZ CE H G0 ks LA Ku m es L Kz G
section
variable {CE:Addr}
def QZ.mono (e:gR G G')(h:QZ CE H G0 ks LA Ku m es L Kz G):QZ CE H G0 ks LA Ku m es L Kz G':=by let#[ki]:=h;let e':=qJ (as:=ks.map LA)<|aT (F0:=Vp) (H0:=H) e;show#[h1.trans<|qJ e,λk hk=>?_,Paired.Lx h3 λ_ _ z=>z.mono e',h4];let#[g0,xs,mL]:=h2 k hk;show#[g0,xs,e _ _ g1,Paired.Lx g2 λ_ _ z=>by let:=z.mono [] e';rwa [Fq]at this]
def QZ.out (h:QZ CE H G0 ks LA Ku m es L Kz G)(hb:G b=none):¬ b∈ks.map LA:=λz=>by
 let#[_,h2,_,_]:=h;let#[k,hk,1]:=EW.mp z;let#[_,xs,g1,_]:=h2 k hk
 grind
def QZ.app (inj:∀ x∈ks,∀ y∈ks,LA x=LA y->x=y)(h:QZ CE H G0 ks LA Ku m es L Kz G)(hk:k∈ks)(hx:G pB=!.lst xs)(he:Kz[a.1]?=!ea)(hb0:H b=none)(hb:G b=!.tup a8Z):
  QZ CE H G0 ks LA Ku m es lG Kz (upd G pB (.lst EG)):=by
 let#[ki]:=h;let km:=Fc (f:=LA) hk;let hu:XU ks LA H (upd G pB<|.lst EG)=XU ks LA H G:=by unfold XU;rw[bi (h2 k hk).1,a7Y km]
 let nb:¬ b∈ks.map LA:=λz=>by
  let#[k',U1,1]:=EW.mp z;let#[_,ys,g1,_]:=h2 k' U1;rw[hb]at g1
  cases g1
 show#[by rw[a7Y km];show h1,λk' U1=>?_,by rw[hu];show h3,h4];rw[hu];let#[g0,ys,mL]:=h2 k' U1;show#[g0,?_];by_cases c:k=k'
 ·subst c;rw[hx]at g1
  cases g1;rw[Mk.Tb];show#[_,ae,Paired.Of g2 #[b,ea,1,he,(x9 nb hb0).trans hb]]
 ·rw[Mk.RN _ c];show#[ys,by rw[a8 λz=>c (inj _ U1 _ hk z).symm];show g1,g2]
def QZ.JP (h:QZ CE H G0 ks LA Ku m es L Kz G)(hx:G x=none)(e:gR G G')(hE:TU CE Ku m (XU ks LA H G') x rB):QZ CE H G0 ks LA Ku m (es++[rB]) L (Kz++[x]) G':=by
 let#[ki]:=h.mono e;let#[_,_,g3,_]:=h;show#[h1,λk hk=>?_,Paired.Of h3 hE,?_]
 ·let#[g0,xs,XJ]:=h2 k hk;show#[g0,xs,q1,Paired.Lx q2 λ_ _ z=>z.mono [x]<|gR.refl _]
 ·show FG.mpr #[h4,by simp,λy hy z hz ez=>?_];rw[Fo.mp hz]at ez;subst ez;let#[Ay]:=FR.mp hy;let#[JP,_,d',dx,l,_,q,_]:=Paired.at g3 (ER hi);rw[ei]at q;rw[oh _ _<|io _ _ q]at hx
  cases hx
universe e
inductive As1 (CE:Addr) (H G0:Hp) (ks:Ξ) (LA:Ú) (Ku:υ) (m:Nat) (v:V) (fa rb ls d:Addr) (found:List Δ) (i:Nat) (σ:St) (G:Hp):Prop
 |mk (o6 o7 o8 o9 Oa Mz LU LS:Ç) (Kz:υ):σ=[b9n,o6,o7,wT]->QZ CE H G0 ks LA Ku m (Mk.JF qE) (Mk.LJ (Mk.JF qE)) Kz G->As1 CE H G0 ks LA Ku m v fa rb ls d found i σ G
inductive As2 (CE:Addr) (H G0:Hp) (ks:Ξ) (LA:Ú) (Ku:υ) (m:Nat) (v:V) (fa rb ls d ba rd:Addr) (e0:List Mk.K7) (i:Nat) (bl:Δ) (j:Nat) (σ:St) (G:Hp):Prop
 |mk (o8 o9 Oa Mz LU LS:Ç) (Kz:υ):σ=[some v,some (.int (m:Int)),some (.ref fa),some (.ref rb),some (.ref ls),some (.ref d),some (.ref ba),some (.ref rd),wT]->QZ CE H G0 ks LA Ku m (e0++(bl.take j).map λways=>XI) (Mk.LJ (e0++(bl.take j).map λways=>XI)) Kz G->As2 CE H G0 ks LA Ku m v fa rb ls d ba rd e0 i bl j σ G
inductive As3 (CE:Addr) (H G0:Hp) (ks:Ξ) (LA:Ú) (Ku:υ) (m:Nat) (v:V) (fa rb ls d ba rd wa ea:Addr) (e1:List Mk.K7) (L:List wO) (n:Nat) (ways:Θ) (Kz:υ) (w:Nat) (σ:St) (G:Hp):Prop
 |mk (Oa Mz LU LS:Ç):σ=[c0N,Oa,Mz,LU,LS]->QZ CE H G0 ks LA Ku m e1 (L++Mk.LZ n UV) Kz G->As3 CE H G0 ks LA Ku m v fa rb ls d ba rd wa ea e1 L n ways Kz w σ G
inductive As4 (CE:Addr) (H G0:Hp) (ks:Ξ) (LA:Ú) (Ku:υ) (m:Nat) (v:V) (fa rb ls d ba rd wa ea wy lz:Addr) (e1:List Mk.K7) (L:List wO) (n w:Nat) (way:Ξ) (Kz:υ) (k:Nat) (σ:St) (G:Hp):Prop
 |mk (LU LS:Ç):σ=[c0N,!.int (w:Int),!.ref wy,LU,LS]->G lz=!.lst ([V.int (Mk.st w)]++way.map V.int)->¬ lz∈ks.map LA->QZ CE H G0 ks LA Ku m e1 (L++(Mk.Ny n w way).take k) Kz G->As4 CE H G0 ks LA Ku m v fa rb ls d ba rd wa ea wy lz e1 L n w way Kz k σ G
section
variable {c:Cl}{CE:Addr}
inductive c0B (H:Hp) (ad:Addr) (ks:Ξ) (ê:List Mk.K7) (Kz:υ):Prop
 |mk (ķ:ξ) (LA:Ú):H ad=!.dK ķ->(∀ k∈ks,cL ķ b6V=!.ref pB/\∃ xs,H pB=!.lst xs/\Paired (V9 Kz H) xs (Mk.K' ê k))->c0B H ad ks ê Kz
inductive rT (c:Cl) (CE:Addr) (vs:π) (H:Hp) (Q:VK) (E:XK):Prop
 |mk (F:Hp) (v x:V) (rb:Addr) (S:NS) (m:Nat) (found:List Δ) (Ku:υ):gR F H->vs=[v,.int (m:Int),x,.ref rb]->DR F sO v->S.Jy.length<=1000->(S.Jy.map (·.1)).Nodup->DR F (Q6 found) x->H rb=!.lst (Ku.map V.ref)->Ku.length=found.length->found.length<=1000->m<=1000->(Mk.LJ Dv).length<=1000000 ->
  (∀ bl∈found,bl.length<=1000/\∀ ways∈bl,ways.length<=m/\∀ way∈ways,way.length<=1000/\∀ k∈way,k∈S.Jy.map (·.1)) ->
  (∀ ad H' Kz,gR H H'->c0B (grow Vp H H') ad ě Dv Kz->Paired (TU CE Ku m (grow Vp H H')) Kz Dv->Kz.Nodup->Q (.ref ad) H')->rT c CE vs H Q E
def c2j:au [zK,c0x,"starts","told","by_listener","rows","ear_ways","ear","place","way","number","ahead"] ï (aa (top 84)):=Nz
def b3o [Bx:Bd](hn)(T:Ma Bx.K Bx.mg CE)(TD)(Ki)(JB)(V7:U4 3 "Ear" CE ù (iT CE)):Tk 5 "asks_by_tie" (top 84) ï (rT c CE):=by
 intro f fd F;show F.k c2j λJE A outer s H vs Q E hr h=>?_
 ·let#[F,v,x,rb,S,m,found,Ku,sF,1,hv,tz,Vl,#[fa,fs,1,Zw,hfp],hrb,rl,fz,hm,hB,bnd,q]:=h;let ND:=c2j.nd;let Zw:=sF _ _ Zw;show#[_,(ai (pS 4 ND<|bg Ki hr.m rfl WA)
   (ai (pS 5 ND (dA (c8 rfl) rfl TD boot_dict (a9 (eQ rfl b8c b1I
  ē
  DW
  (λ_ _ _ _ _=>eM<|a9 (pI (Yg Bx.K) A3 b8) (a9 (eO Jx) Jx))) Jx)))
   (ai (bP F9 rfl (XG Bx.K rfl T.M8<|a9 wJ b6Q) (bY Bx.K (n:=2) rfl<|af Eu (af m9 aF))
  (aq (bP F9 rfl (sr Bx.K<|pv 6) nV
  (ai (pS 9 ND<|gW V7 hr.m rfl (a9 (pv 7)<|a9 iU Jx))
 (aq (bP F9 rfl (su Bx.K rfl T.Lg<|a9 uS Jx) (bY Bx.K (n:=2) rfl<|af (pN 10 ND) (af (pN 11 ND) aF))
  (aq (bP F9 rfl (XG Bx.K rfl T.M8<|a9 (pv 11) (a9 (gV b3E (eO<|a9 (pI gD uo<|pv 10) Jx)<|pv 11) Jx)) a4L
  (aq<|aw (OS Bx.K Ff Fn Fm aB (pD C3 Xj<|pv 12)<|a9 (eM<|a9 (pv 9) (a9 (pv 10)<|a9 (pv 13) Jx)) Jx))))))))))
   (aq<|bB Xj)))),?_]
  show#[DU,#[hm],λls H1 e1 Zs=>?_];let#[ls,us,1,Zs,Yk]:=Zs;rw[j8 Yk]at Zs;let Zs:=oh _ _ Zs;show tP.go (F:=F) (ε:=[some<|aA c S]) (sd1 (sF.trans e1) hv) ⟨rfl,rfl,by decide,⟨tz⟩⟩ λx H2 e2 _ hx=>?_;let#[tl,ts,1,htl,Vd]:=hx;let le2:gR (grow F H1 H2) H2:=aH Yd e2;let ut:∀ t∈S.Jy,bN ((S.Jy.find? λt'=>decide (t'.1=t.1)).getD (0,"","",0))=bN t:=λt ht=>by rw[b2a Vl t ht];rfl
  let eu:(S.Jy.map (·.1)).map (λk=>bN<|(S.Jy.find? λt=>decide (t.1=k)).getD (0,"","",0))=S.Jy.map bN:=by rw[EZ];show FA ut
  rw[<- eu]at Vd;show#[tl,1,#[_,JU.of<|le2 _ _ htl],b6G (kf:=(Sum.inl:Int->Dx)) le2 (yQ (.inl htl) Vd) (by rw[EO];show tz) (λk hk v H3 Q hv q=>?_) λlc H3 as vs e3 h0 Q3 al an has hp=>a2x (λ_ _=>Sum.inl.inj) Vl (by rw[EO];show tz) e3 Q3 al an has hp λd H4 LA e4 d0 hd TB inj=>?_]
  ·let#[uI]:=EW.mp hk;rw[ut t ht]at hv;let#[tp,vs,1,Vd,c28]:=hv;show#[_,1,tp,_,(0),_,2,M0.of Vd,b90,λa H2 e2 h2 ha=>#[(by change 2<=sizeLine;decide),λt' H3 e3 h3 ht=>q a t' H3 (e2.trans e3) h2 (e2.free h3) (e3 _ _ ha) ht]]
  generalize hkv:(S.Jy.map (·.1)).map (λx=>((Sum.inl x:Dx),V.ref<|LA x))=ķ at hd TB;generalize Yt:S.Jy.map (·.1)=ks at *
  let Qb:=e1.trans e2;let e04:=Qb.trans e4;let laN:∀ b∈ks.map LA,H2 b=none/\H4 b=!.lst []:=λb hb=>by let#[k,hk,1]:=EW.mp hb;let#[mL,_]:=TB k hk;show#[g2,g1]
  let hG0:∀ {b o},H2 b=!o->j9 sK H4 b=!o:=λ{b o} hb=>by rw[sU (λz=>by rw[(laN b z).1]at hb;cases hb)];show e4 _ _ hb
  let hd0:j9 sK H4 d=!.dK ķ:=by rw[sU (λz=>by rw[(laN d z).2]at hd;cases hd)];show hd
  let st:QZ CE H (j9 sK H4) ks LA Ku m [] [] [] H4:=#[gR.refl _,λk hk=>#[Qb.free (TB k hk).2.1,[],(TB k hk).1,.nil],.nil,Hx]
  generalize j9 sK H4=G0 at st hG0 hd0;let toG:∀ {es L Kz G},QZ CE H G0 ks LA Ku m es L Kz G->gR H2 G:=λ{es L Kz G} J' b o hb=>by let#[g,Cg]:=J';show io _ _ (g _ _<|hG0 hb)
  let fl:=hfp.length;rw[EO]at fl;show#[_,1,_,1,fa,rb,1,#[_,JU.of<|e04 _ _ Zw],#[_,JU.of<|e04 _ _ hrb],b1w (K:=Bx.K) (xs:=fs) (ys:=Ku.map V.ref) (As1 CE H G0 ks LA Ku m v fa rb ls d found)
   #[kW,kW,none,none,[],1,st] (λi σ G _ J'=>(by let#[xb,nv,_,I]:=J';show#[JU.of<|toG I _ _ (Qb _ _ Zw),JU.of<|toG I _ _ (Qb _ _ hrb)])) ?_ ?_]
  ·rintro i x y Tz σ G ex ey ⟨o6,o7,o8,o9,Oa,Mz,LU,LS,Kz,rfl,I⟩ hTz;let#[bl,ebl,ba,bs,1,hba,hbp]:=oq hfp ex;let hba:=sF _ _ hba;rw[F7]at ey;let#[rd,ZF,1]:=FO.mp ey;let#[blz,bw]:=bnd bl<|ET ebl;let eT:gR G b6b:=aO ė hTz;let UQ:b6b Tz=!.tup EE:=ae;generalize upd G Tz (.tup EE)=G1 at eT UQ;let I1:=I.mono eT;let bl2:=hbp.length;rw[EO]at bl2;show#[c2H];show#[_,1,ba,1,#[_,JU.of<|toG I1 _ _ (Qb _ _ hba)],fW (K:=Bx.K) (xs:=bs) (As2 CE H G0 ks LA Ku m v fa rb ls d ba rd (Mk.JF<|found.take i) i bl)
    #[_,_,_,_,_,_,Kz,1,by rw[Ij,GF,Fq];show I1] (λj σ G _ J'=>(by let#[xb,xb,I]:=J';show JU.of<|toG I _ _ (Qb _ _ hba))) ?_ ?_]
   ·rintro j x σ G ex ⟨o8,o9,Oa,Mz,LU,LS,Kz,rfl,I⟩;let#[ways,ew,wa,wsx,1,hwa,hwp]:=oq hbp ex;let hwa:=sF _ _ hwa;let#[wl,wb]:=bw ways<|ET ew;let wl2:=hwp.length;rw[EO]at wl2;let hA:∀ {w i2:Nat}{way:Ξ},ways[w]?=some way->(Mk.LJ (Mk.JF (found.take i)++(bl.take j).map λways=>XI)++Mk.LZ (Mk.JF qE++(bl.take j).map λways=>XI).length UV++(Mk.Ny (Mk.JF qE++(bl.take j).map λways=>XI).length w way).take i2).length<=1000000:=λhw=>Mk.room hB ebl ew hw;let tkb:Mk.JF qE++(bl.take<|j+1).map (λways=>XI)=a76++[XI]:=by rw[aQ ew,EX,FI];rfl
    generalize a76=es at I hA tkb;show#[Ch,λea dx nx ndx nex=>#[ea,dx,rd,m,1,ae,hm,λlp G2 Ou hN=>?_]];let nin:=I.out nx;let hn:∀ {b:Addr},upd (upd b6W ea<|.ins CE dx []) ea (.ins CE dx [("rows",.ref rd)]) b=none->b≠ea/\G b=none:=λ{b} hb=>by
     let c1:b≠ea:=λz=>by rw[z,ae]at hb;cases hb
     let c2:b≠dx:=λz=>by rw[a8 c1,a8 c1,z,ae]at hb;cases hb
     rw[a8 c1,a8 c1,a8 c2]at hb;show#[c1,hb]
    let eE:gR G (upd G2 ea<|pE CE dx rd lp):=λb o hb=>by let c1:b≠ea:=ak hb nx;rw[a8 c1];show Ou _ _ (by rw[a8 c1,a8 c1,a8<|ak hb ndx];show hb)
    let H2G:=Qb.trans<|toG I;let I2:=I.JP (ways:=ways) (c:=i) nx eE #[rd,dx,lp,ZF,(x9 nin<|H2G.free nx).trans ae,hN.mono λb o hb=>by
     unfold grow at hb;by_cases c1:upd (upd b6W ea<|.ins CE dx []) ea (.ins CE dx [("rows",.ref rd)]) b=none
     ·rw[if_pos c1]at hb;let#[c2,c3]:=hn c1;rw[x9 (I.out c3)<|H2G.free c3,a8 c2];show hb
     ·rw[if_neg c1]at hb;cases hb]
    let eal:(Kz++[ea])[es.length]?=!ea:=by let#[_,_,g3,_]:=I;rw[<- Paired.length g3,FT<|F8 _,Nat.sub_self];rfl
    generalize Kz++[ea]=YQ at I2 eal;generalize upd G2 ea (pE CE dx rd lp)=G3 at I2;show#[1,_,1,wa,wsx,1,toG I2 _ _<|Qb _ _ hwa,c0d (K:=Bx.K) (xs:=wsx) (As3 CE H G0 ks LA Ku m v fa rb ls d ba rd wa ea (es++[XI]) (Mk.LJ es) es.length ways YQ)
     #[_,_,_,_,1,by let e:Mk.LZ es.length (ways.take 0)=[]:=rfl;rw[e,Fq];show I2] (λw σ G _ J'=>(by let#[nv,I]:=J';show JU.of<|toG I _ _ (Qb _ _ hwa))) ?_ ?_]
    ·rintro w x Tw σ G ex ⟨Oa,Mz,LU,LS,rfl,I⟩ hTw;let#[way,ewy,wy,ns,1,SE,U0]:=oq hwp ex;rw[j8 U0]at SE;let SE:=sF _ _ SE;let#[wyz,wyk]:=wb way<|ET ewy;let I1:=I.mono<|aO ė hTw (o:=.tup b8Z);generalize upd G Tw (.tup b8Z)=G1 at I1;let hwm:w<m:=by let:=(ES.mp ewy).1;lia
     let est:((Mk.starts m).map V.int)[w]?=!(.int<|Mk.st w):=by unfold Mk.starts;rw[F7,F7,Hh hwm];rfl
     let a1v:=toG I1 _ _<|Qb _ _ SE;show#[_,1,_,1,_,1,ls,_,_,_,2,JU.of<|toG I1 _ _ (e2 _ _ Zs),iy est,(by change 1<=sizeLine;decide),λl1 G3 ZI _ P1=>#[_,1,l1,wy,XC,P1,ZI _ _ a1v,?_,λlz G4 e4' lz0 hlz=>?_]]
     ·rw[EO];change 1+way.length<=2 ^ 24
      lia
     let I4:=(I1.mono ZI).mono e4';let e14:=ZI.trans e4';show#[wy,lz,1,#[_,JU.of<|e14 _ _ a1v],#[_,JU.of hlz],b1w (K:=Bx.K) (xs:=way.map V.int) (ys:=b80++way.map V.int) (As4 CE H G0 ks LA Ku m v fa rb ls d ba rd wa ea wy lz (es++[XI]) (Mk.LJ es++Mk.LZ es.length UV) es.length w way YQ)
      #[_,_,1,hlz,(I1.mono ZI).out lz0,by rw[Ij,Fq];show I4] (λk σ G _ J'=>(by let#[Cg,hz,_,I]:=J';show#[JU.of<|toG I _ _ (Qb _ _ SE),JU.of hz])) ?_ ?_]
     ·rintro k x y Tq σ G ex ey ⟨LU,LS,rfl,hlz,nlz,I⟩ hTq;let#[num,en,1]:=a4n ex;let#[ah,eah,1]:=a4n<|show ((Mk.st w::way).map V.int)[k]?=some y from ey;let tkw:(Mk.Ny es.length w way).take (k+1)=(Mk.Ny es.length w way).take k++[(num,es.length,w,ah)]:=by show aQ ?_;unfold Mk.Ny;rw[F7,(@Jr _ _ way (Mk.st w::way) (num,ah) k).mpr #[en,eah]];rfl
      let hk:=wyk num<|ET en;let eq:gR G b6c:=aO ė hTq;let a2i:b6c Tq=!.tup WF:=ae;generalize upd G Tq (.tup WF)=G5 at eq a2i;let I5:=I.mono eq;let#[mL,_,_]:=id I5;let#[_,ys,WR,hyp]:=g2 num hk;let yl:=Paired.length hyp;show#[Tq,_,1,M0.of a2i,1,c1b];show#[_,1,_,1,d,.ref<|LA num,1,(by rw[<- (TB num hk).2.2];show NJ.k (k:=Sum.inl num)<|io _ _ (g1 _ _ hd0)),.inl ⟨rfl,_,JU.of WR⟩,_,1,_,1,_,1,(by change 3<=sizeLine;decide),λtb G6 e6 h6 SG=>?_];show#[LA num,XC,e6 _ _ WR,?_,Qc,?_,nlz,?_]
      ·let h1:=Mk.Vv (Mk.LJ es++Mk.LZ es.length UV++(Mk.Ny es.length w way).take k) num;let h2:=hA (i2:=k) ewy;change ys.length<2 ^ 24
       lia
      ·rw[a8<|show lz≠LA num from λz=>nlz (by rw[z];show Fc hk)];show e6 _ _ (eq _ _ hlz)
      ·rw[tkw,<- FI];show (I5.mono e6).app inj hk (e6 _ _ WR) eal ((Qb.trans<|toG I5).free h6) SG
     ·rintro σ G ⟨LU,LS,rfl,_,_,I⟩;show#[xb,1,?_];let:min (way.map V.int).length (b80++way.map V.int).length=(Mk.Ny es.length w way).length:=by let:=congrArg List.length<|Mk.Qh es.length w way;rw[EO]at this;rw[Fb,EO,this];simp
      rw[this,FE]at I;rw[Mk.Qt ewy,<- FI];show I
    ·rintro σ G ⟨Oa,Mz,LU,LS,rfl,I⟩;rw[wl2,FE,<- Mk.Qx es XI]at I;show#[_,_,_,_,_,_,YQ,1,by rw[tkb];show I]
   ·rintro σ G ⟨o8,o9,Oa,Mz,LU,LS,Kz,rfl,I⟩;show#[xb,xb,Kz,1,?_];rw[bl2,FE]at I;rw[Mk.P4 ebl];show I
  ·rintro σ G ⟨o6,o7,o8,o9,Oa,Mz,LU,LS,Kz,rfl,I⟩;let:min fs.length (Ku.map V.ref).length=found.length:=by rw[EO,fl,rl,Nat.min_self]
   rw[this,FE]at I;let#[mL,g3,g4]:=id I;show#[_,1,q d G Kz (Qb.trans<|toG I) ⟨ķ,LA,?_,λk hk=>#[(TB k hk).2.2,?_]⟩ (Paired.Lx g3 λea JP z=>z.mono io) g4]
   ·rw[ay<|Qb.free d0];show io _ _ (g1 _ _ hd0)
   ·let#[g0,xs,a,b]:=g2 k hk;show#[xs,by rw[ay g0];show a,Paired.Lx b λ_ _ z=>by let:=z.mono [] io;rwa [Fq]at this]
universe e
theorem KT (H G:Hp):Prop:=(∀ b xs,H b=!.lst xs->G b=!.lst xs)/\∀ b xs,H b=!.tup xs->G b=!.tup xs
def KT.of (e:gR H G):KT H G:=#[λ_ _ h=>e _ _ h,λ_ _ h=>e _ _ h]
def KT.trans (a:KT H G)(b:KT G G'):KT H G':=#[λ_ _ h=>b.1 _ _<|a.1 _ _ h,λ_ _ h=>b.2 _ _<|a.2 _ _ h]
def KT.put (hd:G d=!o)(hl:∀ xs,o≠.lst xs)(ht:∀ xs,o≠.tup xs):KT G (upd G d o'):=
 #[λb xs h=>by rw[a8 λz=>by simp_all];show h,λb xs h=>by rw[a8 λz=>by simp_all];show h]
def uu (k:KT H G)(h:DR H (rw r) v):DR G (rw r) v:=by let#[a,vs,e,nU]:=h;rw[j8 h2]at h1;show#[a,_,e,k.1 _ _ h1,vy _]
def rZ {g:α->Ξ}(k:KT H G):∀ {l:List α}{vs:π},JS H E4 vs->JS G E4 vs:=by
 intro r'
 induction r' with
 | nil=>
  intro _ h;show h
 | cons _ _ ih'=>
  intro _ y1';let#[v,ws,e,nU]:=y1';show #[v,ws,e,uu k h1,ih' h2]
def yg (k:KT H G)(h:DR H (tb t) v):DR G (tb t) v:=by let#[a,vs,e,nU]:=h;show#[a,vs,e,k.1 _ _ h1,rZ k h2]
theorem Ks (H)(d)(R:Mk.NY):Prop:=∃ ķ,H d=!.dK ķ/\ķ.map (·.1)=R.map (λr=>(.inl r.1:Dx))/\JS H (R.map λr=>rw r.2) Ķ
def Ks.dr (h:Ks H d R):DR H (aG R) E9:=by let#[ķ,zr]:=h;show#[d,ķ,1,.inl h1,by rw[h2,EZ];rfl,?_];rw[EZ];show h3
def Ks.mono (e)(h:Ks H d R):Ks H' d R:=let ⟨ķ,h1,h2,h3⟩:=h;#[ķ,e _ _ h1,h2,h3.mono e]
def Ks.kt (k:KT G G')(hd:G' d=G d)(h:Ks G d R):Ks G' d R:=let ⟨ķ,h1,h2,h3⟩:=h;#[ķ,hd.trans h1,h2,rZ k h3]
def Ks.put (h:Ks Γ d R)(e:gR Γ G)(hk:¬ k∈R.map (·.1))(hv:DR Γ (rw r) v)(hz:R.length<2 ^ 24):
  ∃ o,Qf G d vk v (upd G d o)/\Ks (upd Γ d o) d (R++[(k,r)])/\KT Γ (upd Γ d o)/\∃ ķ,Γ d=!.dK ķ:=by
 let#[ķ,zr]:=h;let kl:ķ.length=R.length:=by let:=congrArg List.length h2;rwa [EO,EO]at this
 let hn:cL ķ b6V=none:=by
  unfold cL;rw[Hb.mpr λq hq z=>hk ?_]
  ·rfl
  ·let:b6V∈ķ.map (·.1):=Fv z▸Fc hq
   simp_all
 let kt:KT Γ (upd Γ d<|.dK (dQ ķ (Sum.inl k) v)):=KT.put h1 (λ_ z=>nomatch z) λ_ z=>nomatch z;show#[_,Qf.k (k:=Sum.inl k) (e _ _ h1) (by rw[kl];show hz),#[_,ae,D2],kt,_,h1]
 ·rw[gU _ hn,EX,h2,EX];rfl
 ·rw[show (dQ ķ _ v).map _=ķ.map _++[v] by rw[gU _ hn,EX];rfl,EX];show (rZ kt h3).app (.one<|uu kt hv)
structure PM (CE:Addr) (G:Hp) (Ku Kz:υ) (ears:List Mk.K7) (T:Mk.Qe):Prop where
 rows:∀ c d,Ku[c]?=!d->Ks G d (T.R.getD c [])
 ears:∀ e ea,Kz[e]?=!ea->∃ d dx l,Ku[(ears.getD e (0,[])).1]?=!d/\G ea=!pE CE dx d l/\DR G (tb uy) LF
def PM.mono {CE:Addr}{ê:List Mk.K7}{T:Mk.Qe}(e:gR G G')(h:PM CE G Ku Kz ê T):PM CE G' Ku Kz ê T:=
 #[λc d hc=>(h.rows c d hc).mono e,λi ea he=>let ⟨d,dx,l,a,b,c⟩:=h.ears i ea he;#[c1Y]]
def PM.put {CE:Addr}{ê:List Mk.K7}{T:Mk.Qe}(h:PM CE G Ku Kz ê T)(hp:G pd=!.dK ķ)(k:KT G (upd G pd o))(np:¬ pd∈Ku):PM CE (upd G pd o) Ku Kz ê T:=
 #[λc d hc=>(h.rows c d hc).kt k<|a8 λz=>np<|z▸ET hc,λe ea he=>let ⟨d,dx,l,a,b,c⟩:=h.ears e ea he;#[d,dx,l,a,by rw[a8 λz=>by grind];show b,yg k c]]
def oj (e:gR H H1):gR b81 (grow F H H2):=λb o h=>by
 unfold grow at h;by_cases c:H1 b=none
 ·rw[if_pos c]at h;rw[ay<|e.free c];show h
 ·rw[if_neg c]at h;cases h
def ir (h:grow Vp H G b=!o):H b=none/\G b=!o:=by
 unfold grow at h;by_cases c:H b=none
 ·rw[if_pos c]at h;show#[c,h]
 ·rw[if_neg c]at h;cases h
def a8c:∀ {vs:π}{l:List α},Paired R vs l->(∀ v a,a∈l->R v a->DR F (g a) v)->JS F DG vs:=by
 intro vs l h
 induction h with
 | nil=>intro _;rfl
 | cons h t ih=>intro k;show#[_,_,1,k _ _ Fy h,ih λv a ha=>k v a<|Ft _ ha]
def c3j (m):(Mk.starts m).Nodup:=by unfold Mk.starts;rw[List.Nodup,HL];show List.nodup_range.imp λn z=>n (by unfold Mk.st at z;lia)
theorem jq (m):Mk.NY:=(List.range m).map λw=>(Mk.st w,Mx.Jz m w)
theorem cr (p)(m)(ç)(ê:List Mk.K7)(ord)(n):Mk.NY:=(List.range n).map λi=>((ord.getD i zf).1,Mk.JI p m ê ų b82)
def dU (ord):(cr p m ç ê ord ord.length).map (·.1)=ord.map (·.1):=by
 unfold cr;show Ih λj=>?_;by_cases hj:j<ord.length
 ·simp_all
 ·simp_all
structure c1m (S:NS) (m:Nat) (p:Int) (ç:Θ) (found:List Δ):Prop where
 ord:mZ S ť
 mem:∀ x∈bG nM S.names.length,x∈S.names
 Vl:(S.Jy.map (·.1)).Nodup
 Kv:(ag S).length<64
 mt:∀ r∈ag S,r.1∈S.Jy.map (·.1)/\∀ ks,r.2=!ks->ks.length<=1000
 p1:p<=1000000
 fl:found.length=ç.length
 fz:found.length<=1000
 mz:m<=1000
 TC:Mk.Nb p m ç Dv gb
 all:(Mk.LJ Dv).length<=1000000
 bnd:∀ bl∈found,bl.length<=1000/\∀ ways∈bl,ways.length<=m/\∀ way∈ways,way.length<=1000/\∀ k∈way,k∈S.Jy.map (·.1)
 ez:(Mk.JF found).length<=1000
inductive zq (c:Cl) (C:Addr):Ä
 |mk {S:NS}{m:Nat}{p:Int}{ç:Θ}{found:List Δ}:c1m S m p ç found->zq c C [kr,tb ç,Q6 found] (aG (RK (·.1) (cr p m ç Dv gb (ag S).length)))
section
variable {c:Cl}{CE:Addr}
inductive MpI (CE:Addr) (F H Γ1:Hp) (v0 vf vl vx:V) (rb ad pd:Addr) (m:Nat) (p:Int) (ç:Θ) (ê:List Mk.K7) (ord:List Mk.KL) (Te:ξ) (Ku Kz:υ) (i:Nat) (σ:St) (G:Hp):Prop
 |mk (o8 o9 Oa Mz LU LS Uo Um:Ç):σ=[!v0,!.int (m:Int),!vf,!vl,!vx,!.ref rb,!.ref ad,!.ref pd,wT,Uo,Um]->gR H G->KT Γ1 Ņ->grow F H G ad=!.dK Te->Ks Ņ pd (cr p m ç ê ord i)->PM CE Ņ Ku Kz ê ų->MpI CE F H Γ1 v0 vf vl vx rb ad pd m p ç ê ord Te Ku Kz i σ G
inductive Mp0 (H:Hp) (m:Nat) (l:Addr) (i:Nat) (H1:Hp):Prop
 |mk (Ku:υ):H l=none->gR H H1->Ku.length=i->Ku.Nodup->(∀ d∈Ku,Ks (aW l (grow Vp H H1)) d (jq m))->H1 l=!.lst (Ku.map V.ref)->Mp0 H m l i H1
inductive Mp3 (CE:Addr) (F H G4:Hp) (v0 vx mv mx:V) (fa lc rb ad pd:Addr) (m:Nat) (Te:ξ) (Ku Kz:υ) (ê:List Mk.K7) (k:Int) (LS Uo Um:Ç) (pl:Mk.NY) (X R:List Mk.NY) (P:Δ) (c:Nat) (σ:St) (G:Hp):Prop
 |mk (Mz LU:Ç):σ=a2k->gR H G->KT (grow F H G4) Ņ->grow F H G ad=!.dK Te->Ks Ņ pd pl->PM CE Ņ Ku Kz ê ⟨X.take c++R.drop c,P⟩->Mp3 CE F H G4 v0 vx mv mx fa lc rb ad pd m Te Ku Kz ê k LS Uo Um pl X R P c σ G
inductive Mp4 (CE:Addr) (F H G5:Hp) (v0 vx mv mx:V) (fa lc rb ad pd:Addr) (m:Nat) (Te:ξ) (Ku Kz:υ) (ê:List Mk.K7) (k:Int) (Mz LU:Ç) (pl:Mk.NY) (p:Int) (A:List Mk.Ask) (T:Mk.Qe) (j:Nat) (σ:St) (G:Hp):Prop
 |mk (LS Uo Um:Ç):σ=a2k->gR H G->KT (grow F H G5) Ņ->grow F H G ad=!.dK Te->Ks Ņ pd pl->PM CE Ņ Ku Kz ê ((A.take j).foldl (Mk.M9 p ê k) T)->Mp4 CE F H G5 v0 vx mv mx fa lc rb ad pd m Te Ku Kz ê k Mz LU pl p A T j σ G
def a77:au [zK,"field","chosen",c0x,"asks","plan","number","into","mixed","choice","rows",c27] ò (aa (top 88)):=Nz
def b89 [Bx:Bd](hn)(T:Ma Bx.K Bx.mg CE)(TD)(Ki)(Lr)(Ml:Kn 5 "asks_by_tie" ï (rT c CE))(JZ:Kn 3 "mixing_ties" ["net"] (Pr (jQ c mZ)))(Mg:Kn 5 "multipliers" b3G (Pr (gv C CE)))(Ni:Kn 5 "mixed_row" a8I (Pr (jg C)))(Lc:KJ 5 CE "move_front" à (rR C CE))(JY):Tk 6 "made_plan" (top 88) ò (Pr (zq c C)):=by
 intro f fd F;show F.ok a77 z5 CZ
 ·obtain⟨F,_,_,sF,hl,@⟨S,m,p,ç,found,O⟩,q⟩:=h;let#[v0,_,1,h0,XC,vf,_,1,hf,vl,_,1,a5R,vx,_,1,hx,1]:=hl;let#[lc,cs,1,a5Q,hcp]:=id a5R;let#[fa,Qc,_]:=id hf;let RW:=sF _ _ a5Q;let ND:=a77.nd;let p2:=((My.JL p).mp O.TC.prime).1;let cl:=hcp.length;rw[EO]at cl;let mz:=O.mz;let fl:=O.fl;let fz:=O.fz;show#[_,(ai (b5 (i:=5) ND rfl rfl rfl (cS 1 [1] ["choice","many"]) (sr Bx.K<|pv 3)
  ē
  DW
  (λ_ _ _ _ _=>b19 Bx.K rfl rfl TD rfl T.M8<|a9 (bg Ki hr.m rfl<|a9 iU Jx) (a9 (bg Lr hr.m rfl<|a9 iU Jx) Jx)))
 (ai (pS 6 ND<|bg Ml hr.m rfl (a9 A3<|a9 iU (a9 uo<|a9 Xj Jx)))
 (ai (pS 7 ND Ol)
 (ai (bP F9 rfl (sr Bx.K<|bg JZ hr.m rfl b6X) (bY Bx.K rfl<|af nV (af (pN 9 ND) aF))
  (ai (pS 10 ND<|W2 (dT b4l c2M (Đ 9)<|dC a6h) (dF Ki hr.m rfl<|da (Đ 1) JC) (Đ 9))
 (ai (bU C3 (pv 7) uS (bg Mg hr.m rfl<|a9 wJ (a9 (pv 10)<|a9 (pD C3 vI<|pv 8) Jx)) rfl)
 (ai (bP F9 rfl (XG Bx.K rfl T.M8<|a9 XO (a9 Xj Jx)) (bY Bx.K rfl<|af (pN 11 ND) (af (pN 12 ND) aF))
  (aq<|bU C3 (pv 12) uS (W2 (Va C3 (Đ 8)<|Đ 11) (dO n8 yK ((bV<|da (dC b8) JC).p)<|Đ 1)<|dF Ni hr.m rfl (da (Đ 2)<|da (Đ 10) (da (dS C3 (Đ 7)<|Đ 8)<|da (Đ 12) Ž))) rfl))
 (aq (bP F9 rfl (sr Bx.K<|pD C3 vI uS) (bY Bx.K rfl<|af (pN 13 ND) (af (pN 14 ND)<|af (pN 15 ND) aF))
  (aq<|aw (bx (pv 13) Lc hr.m<|a9 wJ (a9 (pv 14)<|a9 uS Jx)))))))))
 (aq<|bB (bg JY hr.m rfl<|a9 (pv 7) Jx)))))),?_]
  show#[_,1,lc,1,#[_,JU.of RW],c2R (xs:=cs) (Mp0 H m)
   (λl hl=>#[[],hl,aO ė hl,1,Hx,a8Y,ae]) (λl i H1 _ h=>let ⟨_,_,e,_,_,_,_⟩:=h;JU.of<|e _ _ RW) (λl i v H1 ev h=>?_) (λrb H1 h=>?_)]
  ·let#[Ku,hl,e1,rl,rn,VC,UE]:=h;let hi:i<cs.length:=(ES.mp ev).1;dsimp only[wH];rw[if_pos rfl];show#[DU,#[mz],λla H2 e2 hla=>?_];show#[DU,#[mz],λlo H3 e3 hlo=>?_];let#[la,us,1,hla,Yk]:=hla;let#[lo,os,1,hlo,hos]:=hlo;let VX:=e2.trans e3;let k1:(jq m).map (λr=>D.int r.1)=(Mk.starts m).map .int:=by unfold jq Mk.starts;rw[EZ,EZ];rfl
   let k2:(jq m).map (λr=>rw r.2)=(Mx.ones m).map rw:=by unfold jq Mx.ones;rw[EZ,EZ];rfl
   let a5z:=hos.mono<|oj (F:=Vp) (e1.trans e2);let#[ķ,A0,a3]:=a8l (F:=grow Vp H H3) (ð:=(jq m).map λr=>Os) (vs:=us) (us:=os) (by rw[EZ];rw[j8 Yk];show k1▸vy _) (by rw[EZ];show k2▸a5z);let kl:ķ.length=m:=by let:=congrArg List.length a3;rw[EO,EO,EO]at this;rw[this];simp[jq]
   show#[la,lo,ķ,1,JU.of ?_,JU.of ?_,#[],λd H4 e4 h4 hd=>?_]
   ·rw[<- a1];show e3 _ _ (oh _ _ hla)
   ·rw[<- a2];show oh _ _ hlo
   rw[c0P [] _ (by rw[Gp,a3];show sR (f:=λr:Int×List Int=>r.1) ?_;unfold jq;rw[EZ];show c3j m),Gp]at hd
   let e14:=VX.trans e4;let a5t:=e14 _ _ UE;let ndl:d≠l:=(ak (VX _ _ UE) h4).symm;let hd0:H d=none:=(e1.trans VX).free h4;show#[_,a5t,by rw[EO,rl];change i<2 ^ 24;lia,Ku++[d],hl,aY (e1.trans e14) hl,by rw[Fb,rl];rfl,?_,λb hb=>?_,by rw[ae,EX];rfl]
   ·show FG.mpr #[rn,by simp,λb hb b' P2 e=>?_];rw[Fo.mp P2]at e;subst e;let#[Y7,g1,_]:=VC b hb;let:=VX _ _<|oh _ _ (Kf _ _ g1);rw[h4]at this
    cases this
   ·rw[bi hl,cY];rcases Fx.mp hb with hb|hb
    ·show (VC b hb).mono (b44<|aT e14)
    ·rw[Fo.mp hb];show#[ķ,by rw[aR ndl,ay hd0];show hd,by rw[a3,EZ];rfl,?_];rw[k2,<- a2];show hos.mono λb o hb=>?_;let#[b1,b2]:=ir hb;rw[aR (λz=>by rw[z,e2 _ _ UE]at b1;cases b1),ay<|(e1.trans e2).free b1];show e4 _ _ b2
  ·let#[Ku,a5u,e1,rl,rn,VC,hrb]:=h;let rlf:Ku.length=found.length:=#[]
   show#[_,1,_,1,_,1,_,1,F,v0,vx,rb,S,m,found,Ku,sF.trans e1,1,h0,by let:=O.ord.2.2.2.1;lia,O.Vl,hx,hrb,rlf,fz,mz,O.all,O.bnd,λad H2 Kz e2 hA hEN end_=>?_];intro pd hpd;let Qa:=e1.trans e2;let To:H pd=none:=Qa.free hpd;let e23:gR H2 (upd H2 pd<|.dK []):=aO ė hpd;let a1N:upd H2 pd B7 pd=!.dK []:=ae;generalize upd H2 pd B7=H3 at e23 a1N;let e03:=Qa.trans e23;show#[_,1,prG sF e03 (Vg<|h0.mono (aj sF)) (.mk O.ord O.mem (by let:=O.ord.2.2.2.1;lia) (by let:=O.Kv;unfold ag at this;lia)) λx H4 e4 hmx=>?_];let#[l,xs,1,hl,hmx]:=hmx;let e04:=e03.trans e4;let g24:gR (grow F H H2) C0:=aT<|e23.trans e4;let hA:=hA;let#[Te,LA,had,a6d]:=id hA;let toΓ:gR b81 C0:=(oj e1).trans g24;generalize Yq:JH S ť=ord at hmx;let Yq:ag S=ord:=Yq;let G:=O.TC;let Kv:=O.Kv;let mt:=O.mt;rw[Yq]at G Kv mt q;generalize a13:Mk.JF found=ê at *
   let xl:=hmx.length;rw[EO]at xl;let el:=Paired.length hEN;let rd1:∀ {d},d∈Ku->H d=none/\∃ ķ,H1 d=!.dK ķ:=λ{d} hd=>by let#[ķ,g,_]:=VC d hd;let#[mL]:=ir<|Kf _ _ g;show#[g1,ķ,g2]
   let nad:¬ ad∈Ku:=λz=>by
    let#[_,_,g]:=rd1 z;rw[(ir had).1]at g
    cases g
   let npd:¬ pd∈Ku:=λz=>by
    let#[_,_,g]:=rd1 z;rw[e2 _ _ g]at hpd
    cases hpd
   let nap:ad≠pd:=λz=>by
    let:=(ir had).2;rw[z,hpd]at this
    cases this
   let eaN:∀ {e ea},Kz[e]?=!ea->H ea=none:=λhe=>by let#[nv,_,g,_]:=Paired.at hEN he;show e1.free (ir g).1
   let st0:PM CE C0 Ku Kz ê (Mk.stN p m ç ê ord 0):=by
    show#[λc d hc=>?_,λe ea he=>?_]
    ·let Tu:=(ES.mp hc).1;let:(Mk.start m ç ê).R.getD c []=jq m:=bL (by change (ç.map λ_=>_)[c]?=_;rw[F7,ER<|by lia];rfl)
     change Ks _ d ((Mk.start m ç ê).R.getD c []);rw[this];show (VC d<|ET hc).mono (Kf.trans<|(oj (F:=F)<|gR.refl H).trans (aT<|e2.trans (e23.trans e4)))
    ·let#[JP,ee,c2l]:=Paired.at hEN he;let:(Mk.start m ç ê).P.getD e []=Mx.ones m:=bL (by change (ê.map λ_=>Mx.ones m)[e]?=_;rw[F7,ee];rfl)
     show#[d,dx,l,by rw[bL ee];show hd,toΓ _ _ g1,?_];change DR _ (tb<|(Mk.start m ç ê).P.getD e []) LF;rw[this];show g2.mono toΓ
   let hl4:=aH sF e04 _ _ hl;show#[l,1,#[_,JU.of hl4],fW (K:=Bx.K) (xs:=xs) (MpI CE F H C0 v0 (.ref fa) (.ref lc) vx rb ad pd m p ç ê ord Te Ku Kz) #[none,none,none,none,none,none,none,none,1,e04,KT.of<|gR.refl _,toΓ _ _ had,⟨[],by rw[ay To];show e4 _ _ a1N,rfl,rfl⟩,st0] (λi σ G h1 h=>?_) ?_ ?_]
   ·let#[xb,nv,eG,kG,Cg]:=h;show JU.of (aH sF eG _ _<|kG.1 _ _ hl)
   ·rintro i v σ G1 ev ⟨o8,o9,Oa,Mz,LU,LS,Uo,Um,rfl,eG,kG,YC,plG,M⟩;let#[r,er,hv]:=oq hmx ev;let#[tp,_,1,Vd,XC,mv,_,1,hmv,1]:=hv;let hi:i<ord.length:=(ES.mp er).1;let rm:=ET er;let I:=Mk.MB G i #[];let pre:=Mk.QE I G er;let ego:ord.getD i zf=r:=bL er;let a5N:DR (grow F H G1) (Qn r.2) mv:=by
     cases h:r.2 with
     | none=>rw[h]at hmv;show hmv
     | some ks=>rw[h]at hmv;show uu kG hmv
    show#[tp,_,1,M0.of<|aH sF eG _ _ (kG.2 _ _ Vd),1,_,_,1,_,[],2,?_];show tPG eG (ε:=[none,some<|.int m,none,none,none,none,none,none,none,some<|Qn r.2]) (d:=rw mm) (Km<|KQ rfl (Km<|Km (Km<|Km (Km<|Km (Km<|KQ a5N (Qj<|aH sF eG)))))) ?_ λmx G2 Qa a1T=>?_
    ·cases r.2 with
     | none=>show .t #[2,.mk] #[#[2],#[mz]]
     | some ks=>show .f #[2,.mk] rfl
    let#[hkv,axs,a2e,hap]:=a6d r.1 (mt r rm).1;let axl:=Paired.length hap;let mk:∀ R∈(Mk.stN p m ç ê ord i).R,∀ k∈Mk.K9 m r.2,k∈R.map (·.1):=λR hR k hk=>by
     rw[I.keys R hR]
     cases h:r.2 with
     | none=>rw[h]at hk;show FJ _ hk
     | some ks=>rw[h]at hk;show FF _ (G.ahd i r ks er h k hk)
    let mlz:(Mk.K9 m r.2).length<=1000:=by
     cases h:r.2 with
     | none=>change (Mk.starts m).length<=1000;unfold Mk.starts;simpa using mz
     | some ks=>show (mt r rm).2 ks h
    let alz:(Mk.K' ê r.1).length<=1000:=Fs (Mk.Ru G.Xb r.1)<|a13▸O.ez;let pn:cr p m ç ê ord (i+1)=cr p m ç ê ord i++[(r.1,Mk.JI p m ê ų r)]:=by unfold cr;rw[List.range_succ,EX,Fh,ego];rfl
    let nk:¬ r.1∈(cr p m ç ê ord i).map (·.1):=λz=>by
     unfold cr at z;rw[EZ]at z;let#[j,hj,ej]:=EW.mp z;let hj:=FW.mp hj;let e1:(ord.map (·.1))[j]?=!r.1:=by rw[F7,ER<|by lia];let ej:(ord.getD j zf).1=r.1:=ej;rw[bL<|ER #[]]at ej;show congrArg some ej
     let e2:(ord.map (·.1))[i]?=!r.1:=by rw[F7,er];rfl
     let:=bR G.nd e1 e2
     lia
    let st:Mk.stN p m ç ê ord (i+1)=Mk.Pq p m ç ê ų r:=by change Mk.Pq p m ç ê ų b82=_;rw[ego]
    let told:Mk.RS p mm Yh (Mk.shown p ê<|Mk.stN p m ç ê ord i)=Mk.JI p m ê ų r:=rfl;let eG2:=eG.trans Qa;let k2:KT C0 (grow F H G2):=kG.trans<|KT.of (aT Qa);let hdm:(cr p m ç ê ord i).length<2 ^ 24:=by unfold cr;rw[EO,G9];lia
    let M2:=M.mono<|aT Qa;generalize hT:Mk.stN p m ç ê ord i=Tm at *
    let one:∀ a∈Mk.K' ê r.1,∃ JP,ê[a.1]?=!JP/\JP∈ê/\a.2.1<m/\ê.getD a.1 (0,[])=JP:=λa am=>by let#[JP,way,h1,YG,_]:=Mk.MZ.mp<|Mk.MY.mp am;let em:=ET h1;show#[JP,h1,em,G.ways JP em▸(ES.mp YG).1,bL h1]
    let K1:a24 p Yh (λa=>Tm.R.getD (ê.getD a.1 (0,[])).1 []) (λa=>Tm.P.getD a.1 []) (Mk.shown p ê Tm):=by
     show#[λa am=>?_,λa am=>?_,λa am b bm=>?_,λa am k=>?_];all_goals let⟨JP,h1,em,hw,eg1⟩:=one a am
     ·rw[(I.ok a.1 JP h1).len];show hw
     ·let:=(I.ok a.1 JP h1).at hw;show#[this.2,by rw[this.1];show mz]
     ·rw[eg1];show mk _ (Mk.WI I G em) _ (pre.ahead b bm)
     ·unfold Mk.shown;rw[Mk.Mo h1,eg1]
    show#[_,1,_,1,_,1,_,1,ad,.ref<|LA r.1,1,(by rw[<- hkv];show NJ.k (k:=Sum.inl r.1)<|aH sF eG2 _ _ (aT Qa _ _ YC)),prG sF eG2 (dr3 b83 a1T (d2:=.lst<|(Mk.K' ê r.1).map (wf CE _ _)) #[LA r.1,axs,1,k2.1 _ _<|toΓ _ _ a2e,a8c hap λv a am h=>?_]) (.mk O.p1 K1 pre mlz alz) λlt G3 e3 LY=>?_]
    ·let#[b,ea,1,PC,hb]:=h;let#[c2l]:=M2.ears a.1 ea PC;show#[b,_,1,k2.2 _ _<|toΓ _ _ hb,_,_,1,#[ea,Ep,g1,1,Qc,(M2.rows _ d hd).dr,Qc,g2,1],_,_,2,_,_,3]
    let VX:=Qa.trans e3;let eG3:=eG.trans VX;let#[o,Yn,VB,kp,kvp,hkp]:=(plG.mono<|aT VX).put (aH sF eG3) nk LY hdm;show#[Ch,pd,_,1,Yn,?_];rw[told,<- pn]at VB;let hG4:gR H (upd G3 pd o):=aY eG3 To;let WJ:KT (grow F H G3) zo:=by rw[bi To];show kp
    let k4:KT C0 zo:=(k2.trans<|KT.of (aT e3)).trans WJ;let ad4:grow F H (upd G3 pd o) ad=!.dK Te:=by rw[bi To,a8 nap];show aT VX _ _ YC
    let M4:PM CE zo Ku Kz ê Tm:=by rw[bi To];show (M.mono<|aT VX).put hkp kp npd
    let mx4:DR zo (rw mm) mx:=uu WJ<|a1T.mono (aT e3);rw[<- bi To]at VB;generalize upd G3 pd o=G4 at hG4 k4 ad4 M4 mx4 VB;let rbΓ:grow F H H4 rb=!(.lst<|Ku.map V.ref):=by rw[ay a5u];show e4 _ _ (e23 _ _<|e2 _ _ hrb)
    let Rl:=I.rl;let Xl:(Mk.JK p m ç Tm.R r<|Mk.JI p m ê Tm r).length=ç.length:=by unfold Mk.JK;rw[List.length_zipWith,Rl,Nat.min_self]
    show#[_,1,_,1,lc,rb,1,#[_,JU.of<|hG4 _ _ RW],#[_,JU.of<|aH sF hG4 _ _ (k4.1 _ _ rbΓ)],b1w (K:=Bx.K) (xs:=cs) (ys:=Ku.map V.ref) (Mp3 CE F H G4 v0 vx mv mx fa lc rb ad pd m Te Ku Kz ê r.1 LS Uo Um oX (Mk.JK p m ç Tm.R r<|Mk.JI p m ê Tm r) Tm.R Tm.P)
     #[_,_,1,hG4,KT.of<|gR.refl _,ad4,VB,by rw[Ij,List.drop_zero,Gp];show M4] (λc σ G _ J'=>(by let#[Cg,a,b,Cg]:=J';show#[JU.of<|a _ _ RW,JU.of<|aH sF a _ _ (b.1 _ _<|k4.1 _ _ rbΓ)])) ?_ ?_]
    ·rintro c x' y' Tz σ G5 ex ey ⟨Mz,LU,rfl,eG5,k5,ad5,SI,M5⟩ hTz;let#[ks,eks,hca]:=oq hcp ex;rw[F7]at ey;let#[rd,ZF,1]:=FO.mp ey;let hc:c<ç.length:=(ES.mp eks).1;let eT:gR G5 b5y:=aO ė hTz;let UQ:b5y Tz=!.tup Ci:=ae;generalize upd G5 Tz (.tup Ci)=G6 at eT UQ;let VU:=eG5.trans eT;let mx6:=(uu k5 mx4).mono<|aT eT;let Rg:=SI.mono<|aT eT;let eR:Tm.R[c]?=!Tm.R.getD c []:=by rw[EU,ER (by rw[Rl];show hc)];rfl
     let Rm:Tm.R.getD c []∈Tm.R:=ET eR;let gdc:((Mk.JK p m ç Tm.R r<|Mk.JI p m ê Tm r).take c++Tm.R.drop c).getD c []=Tm.R.getD c []:=by rw[Mk.RG _ _<|by lia,if_neg<|GS _]
     let a1J:Ks (grow F H G6) rd wG:=gdc▸(M5.rows c rd ZF).mono (aT eT);show#[c2H];show tPG VU (ε:=[none,some<|.int m,some<|fD C p,none,none,none,none,some<|aG oX,some<|.int r.1,none,some<|rw mm,some<|rw ks,some<|aG wG]) (d:=rw (Mk.newRow p m ks wG r<|Mk.JI p m ê Tm r)) (Km<|KQ rfl (KQ b83<|Km (Km<|Km (Km<|KQ Rg.dr (KQ rfl<|Km (KQ mx6<|KQ (hca.mono<|aj sF) (KQ a1J.dr<|Qj (aH sF VU)))))))) ?_ λln G7 e67 Zt=>?_
     ·let ri:=gj (n:=false) (i:=r.1) (ks:=ks);unfold Mk.newRow;by_cases M':r.1∈ks
      ·rw[EY M']at ri;rw[if_pos M',b5z];show .t #[2,ri] #[nK,1,#[mz]]
      ·rw[F5 M']at ri;rw[if_neg M'];show .f #[2,ri] #[#[2,#[2,.k (wB (by rw[pn,EX];simp)) kI],3],?_];rw[pn,Mk.QF nk];show .mk #[] O.p1 (λk hk=>#[mk _ Rm k hk,I.rows _ Rm (k,_)<|Mk.Sy (mk _ Rm k hk)]) mlz mz
     let a6Z:(Tm.R.getD c []).length<2 ^ 24:=by
      let:=congrArg List.length<|I.keys _ Rm;rw[EO,Fb,EO,Fd]at this;unfold Mk.starts at this;rw[EO,G9]at this
      lia
     let eG7:=VU.trans e67;let#[o,Yn,LX,k7,kk,hkk]:=(a1J.mono<|aT e67).put (aH sF eG7) (Mk.Qr I G er _ Rm) Zt a6Z;let rdm:=ET ZF;let Zl:=(rd1 rdm).1;rw[<- bi Zl]at LX k7;let g57:=aT (F0:=F) (H0:=H)<|eT.trans e67;show#[Ch,rd,_,1,Yn,Qc,aY eG7 Zl,(k5.trans<|KT.of g57).trans k7,?_,(SI.mono g57).kt k7 ?_,?_]
     ·rw[bi Zl,a8<|show ad≠rd from λz=>nad<|z▸rdm];show g57 _ _ ad5
     ·rw[bi Zl,a8<|show pd≠rd from λz=>npd<|z▸rdm]
     ·let M7:=M5.mono g57;show#[λc' d' MQ=>?_,λe ea he=>?_]
      ·change Ks _ d' (((Mk.JK p m ç Tm.R r<|Mk.JI p m ê Tm r).take (c+1)++Tm.R.drop (c+1)).getD c' []);rw[Mk.RG _ _<|by lia];by_cases cc:c'=c
       ·subst cc;rw[ZF]at MQ
        cases MQ;rw[if_pos<|GJ _,Mk.MW eks<|by lia];show LX
       ·let nd':d'≠rd:=λz=>cc<|bR rn (z▸MQ) ZF;let h7:=(M7.rows c' d' MQ).kt k7 (by rw[bi Zl,a8 nd']);let e7:((Mk.JK p m ç Tm.R r<|Mk.JI p m ê Tm r).take c++Tm.R.drop c).getD c' []=if c'<c+1 then (Mk.JK p m ç Tm.R r<|Mk.JI p m ê Tm r).getD c' [] else Tm.R.getD c' []:=by
         rw[Mk.RG _ _<|by lia];by_cases lt:c'<c
         ·rw[if_pos lt,if_pos<|by lia]
         ·rw[if_neg lt,if_neg<|by lia]
        rw[<- e7];show h7
      ·let#[c2l]:=M7.ears e ea he;show#[d,dx,l,hd,by rw[bi Zl,a8 (λz=>by rw[z,hkk]at g1;cases g1)];show g1,yg k7 g2]
    ·rintro σ G5 ⟨Mz,LU,rfl,eG5,k5,ad5,SI,M5⟩;let mn:min cs.length (Ku.map V.ref).length=ç.length:=by rw[EO];lia
     rw[mn,GV<|by lia,List.drop_of_length_le<|by lia,Fq]at M5;let k05:=k4.trans k5;let a2O:=k05.1 _ _<|toΓ _ _ a2e;let nda:=Mk.Pl G.Xb r.1;show#[_,1,_,1,ad,.ref<|LA r.1,1,(by rw[<- hkv];show NJ.k (k:=Sum.inl r.1)<|aH sF eG5 _ _ ad5),LA r.1,1,#[_,JU.of<|aH sF eG5 _ _ a2O],fW (K:=Bx.K) (xs:=axs) (Mp4 CE F H G5 v0 vx mv mx fa lc rb ad pd m Te Ku Kz ê r.1 Mz LU oX p Yh { Tm with R:=Mk.JK p m ç Tm.R r EF })
      #[_,_,_,1,eG5,KT.of<|gR.refl _,ad5,SI,M5] (λj σ G _ J'=>(by let#[xb,a,b,Cg]:=J';show JU.of<|aH sF a _ _ (b.1 _ _ a2O))) ?_ ?_]
     ·rintro j v σ G6 ev ⟨LS,Uo,Um,rfl,VU,k6,ad6,Rg,M6⟩;let#[a,ZG,b,ea,1,PC,hb]:=Paired.at hap ev;let#[JP,h1,em,hw,eg1]:=one a<|ET ZG;let K1:=I.ok a.1 JP h1;let a54:=G.ech JP em;let tka:=aQ ZG;let ndt:(((Mk.K' ê r.1).take j).map (·.1)).Nodup:=by rw[Hv];show nda.sublist (IJ _ _)
      let#[f1,f2,f3,_]:=Mk.Nu (p:=p) (ê:=ê) r.1 ((Mk.K' ê r.1).take j) { Tm with R:=Mk.JK p m ç Tm.R r EF } ndt;let fa':=f3 a.1 λa' ha' z=>by
       let#[j',VH,ej']:=Iq.mp ha';let g1:((Mk.K' ê r.1).map (·.1))[j']?=!a.1:=by rw[F7,ER<|by lia,ej'];show congrArg some z
       let g2:((Mk.K' ê r.1).map (·.1))[j]?=!a.1:=by rw[F7,ZG];rfl
       let:=bR nda g1 g2
       lia
      let hT7:((Mk.K' ê r.1).take<|j+1).foldl fK { Tm with R:=Mk.JK p m ç Tm.R r EF }=Mk.M9 p ê r.1 (((Mk.K' ê r.1).take j).foldl fK { Tm with R:=Mk.JK p m ç Tm.R r EF }) a:=by rw[tka,Ju];rfl
      generalize hT6:((Mk.K' ê r.1).take j).foldl fK { Tm with R:=Mk.JK p m ç Tm.R r EF }=T6 at *
      let fa':T6.P.getD a.1 []=Tm.P.getD a.1 []:=fa';let#[d,dx,lp,hd,hx6,SG]:=M6.ears a.1 ea PC;rw[eg1]at hd;let ekc:ç[JP.1]?=!ç.getD JP.1 []:=by rw[EU,ER a54];rfl
      let R6:T6.R.getD JP.1 []=Tm.R.getD JP.1 []++[(r.1,Mk.newRow p m GT (Tm.R.getD JP.1 []) r<|Mk.JI p m ê Tm r)]:=by rw[f1];show Mk.MW ekc #[]
      let le6:=aH sF VU;show#[b,_,1,M0.of<|le6 _ _ (k6.2 _ _<|k05.2 _ _ (toΓ _ _ hb)),1,_,_,1,_,_,1,_,[],2,?_];show#[_,1,ea,dx,_,1,le6 _ _ hx6,1,_,1,_,1,_,1,grow F H G6,ea,fa,d,dx,lp,p,r.1,a.2.1,T6.P.getD a.1 [],T6.R.getD JP.1 [],le6,1,hx6,(M6.rows JP.1 d hd).dr,SG,hf.mono<|aj sF,#[],O.p1,by rw[R6,EX];simp,by rw[fa',K1.len];show hw,λy hy=>?_,by rw[fa',K1.len];show mz,λl' G7 e7 hl'=>?_]
      ·rw[fa']at hy;show#[(K1.Ob y hy).2,by rw[(K1.Ob y hy).1];show mz]
      rw[av VU e7]at hl';let ea0:=eaN PC;let g67:=aT (F0:=F) (H0:=H) e7;let hx7:=g67 _ _ hx6;let k7:KT (grow F H G7) (grow F H<|upd G7 ea (pE CE dx d l')):=by rw[bi ea0];show KT.put hx7 (λ_ z=>nomatch z) Ĺ
      let k67:=(KT.of g67).trans k7;let nea:∀ {c ķ},grow F H G6 c=!.dK ķ->c≠ea:=λhc z=>by rw[z,hx6]at hc;cases hc
      let kep:∀ {c:Addr},c≠ea->grow F H (upd G7 ea<|pE CE dx d l') c=grow F H G7 c:=λhc=>by rw[bi ea0,a8 hc]
      let M7:=M6.mono g67;let a0z:∀ {d' R'},Ks (grow F H G6) d' R'->Ks (grow F H<|upd G7 ea (pE CE dx d l')) d' R':=λh=>by let#[ķ,hk,_]:=id h;show (h.mono g67).kt k7 (kep<|nea hk)
      show#[_,_,_,1,aY (VU.trans e7) ea0,k6.trans k67,(kep<|nea ad6).trans<|g67 _ _ ad6,a0z Rg,?_];rw[hT7];show⟨λc' d' MQ=>a0z<|M6.rows c' d' MQ,λe ea2 he=>?_⟩;let al:a.1<T6.P.length:=by rw[f2];change a.1<Tm.P.length;rw[I.pl];show (ES.mp h1).1
      by_cases ce:e=a.1
      ·subst ce;rw[PC]at he
       cases he;show#[d,dx,l',by rw[eg1];show hd,by rw[bi ea0,ae],?_];change DR _ (tb<|(T6.P.set a.1<|Mk.moved p (T6.P.getD a.1 []) a.2.1 (Mk.lk (Mk.rowsOf ê T6 a.1) r.1)).getD a.1 []) _;rw[bL<|IK al,Mk.Mo h1];show yg k7 hl'
      ·let#[d2,dx2,l2,hd2,mL]:=M7.ears e ea2 he;show#[d2,dx2,l2,hd2,(kep λz=>ce<|bR end_ (z▸he) PC).trans g1,?_];change DR _ (tb<|(T6.P.set a.1 _).getD e []) _;rw[EU,Jb<|Ne.symm ce,<- EU];show yg k7 g2
     ·rintro σ G6 ⟨LS,Uo,Um,rfl,VU,k6,ad6,Rg,M6⟩;rw[axl,FE]at M6;show#[_,_,_,_,_,_,_,_,1,VU,k05.trans k6,ad6,Rg,by rw[st];show M6]
   ·rintro σ G1 ⟨o8,o9,Oa,Mz,LU,LS,Uo,Um,rfl,eG,kG,YC,plG,M⟩;rw[xl]at plG;let pk:=dU (p:=p) (m:=m) (ç:=ç) (ê:=ê) ord;show#[_,1,prG sF eG (Vg plG.dr) (.mk (f:=λr:Int×List Int=>r.1) (g:=λr=>rw r.2) ?_ (by rw[pk];show G.nd)) λx H7 e7 hx7=>q x H7 (eG.trans e7) hx7];let:=congrArg List.length pk;rw[EO,EO]at this
    lia
universe e
def b7c:∀ (ê:List Mk.K7)(k:Nat),(∀ JP∈ê,JP.2.flatten.length<=B)->((ê.zipIdx k).flatMap λx=>Mk.LZ x.2 x.1.2).length<=ê.length * B:=by
 intro r'
 induction r' with
 | nil=>
  intro _ _;simp
 | cons x l ih'=>
  intro k h;let ih:=ih' (k+1) λy hy=>h y Su;let hx:=h x Ė;rw[<- Mk.Qu k x.2,EO]at hx;rw[List.zipIdx_cons,Hy,Fb,FU,Im]
  grind
def eK:∀ {xs ys:Ξ},xs.Nodup->b6R->xs.length<=ys.length
 | [],ys,_,_=>FV _
 | x::xs,ys,nd,h=>by let nd:=FP.mp nd;let hx:=h x Ė;let:=eK (ys:=ys.erase x) nd.2 λy hy=>(J9 (λz:y=x=>nd.1 (by rw[<- z];show hy))).mpr<|h y Su;rw[List.length_erase_of_mem hx]at this;let h1:0<ys.length:=List.length_pos_of_mem hx;rw[FU];omega
def WN.Vn (W):S.Jy.length<=40:=by let:=W.ln.Uj;rw[<- W.ln.Jy,EO]at this;show this
def WN.Vl (W):(S.Jy.map (·.1)).Nodup:=by let pk:=W.ln.JH.map (·.1);rw[EZ]at pk;show pk.nodup_iff.mp W.ln.fits.nd
def WN.a0W (W):∀ x∈bG nM S.names.length,x∈S.names:=λx hx=>by let:=a3a W.ln.V3 S.names.length (by simp[bq]) x hx;rwa [W.ln.QQ]at this
def WN.a0R (W)(pz:S.JD.length<=100):mZ S ť:=#[1,W.ln.V3,W.ln.ends,by let:=W.Vn;lia,#[]]
def WN.a42 (W)(pz:S.JD.length<=100):Dj mZ S ť:=#[W.a0R pz,W.a0W,by let:=W.Vn;lia,W.ln.fits]
def WN.wok (W)(pz)(fo):QY S fo 21:=by
 let sub:(aI S.Jy fo).Sublist S.Jy:=by
  cases fo with
  | none=>show List.Sublist.refl _
  | some ks=>show Iu
 let nl:S.names.length<=20:=by unfold NS.names;rw[EO];show pz
 let ol:=W.ln.len;let tl:=W.Vn;let sl:=sub.length_le;let ix:∀ (i:Nat) z,ord[i]?=!z->ord.idxOf z=i:=λi z hz=>by let hl:=List.idxOf_lt_length_of_mem<|ET hz;show bR W.ln.nd ħ hz
 show#[#[W.Vl.sublist<|sub.map _,⟨λz=>ord.idxOf z,λt ht=>?_,λz=>?_⟩,#[],#[]],λt ht=>W.ln.Vm<|sub.subset ht,W.ln.Zn,#[],#[],#[]]
 ·let#[u,v,uv,nU]:=W.ln.T4<|sub.subset ht;change ord.idxOf t.2.1<ord.idxOf t.2.2.1;rw[ix _ _ h1,ix _ _ h2];show uv
 ·grind
def WN.make (W)(hP)(hO)(Kv)(p1)(pz:S.JD.length<=100)(ez:ç.length * S.JO.length<=1000)(fz:ç.length<=1000)(mz:m<=1000):c1m S m p ç Al:=by
 let G:=W.TC hP hO Kv;let kt:∀ k∈(ag S).map (·.1),k∈S.Jy.map (·.1):=λk hk=>by let#[r,hr,1]:=EW.mp hk;let#[uI]:=EW.mp<|W.ln.JH.mem_iff.mp hr;show Fc ht
 let el:=b2r Al 0 λy hy=>by let#[ks,_,1]:=EW.mp hy;rw[EO]
 let fl:(bt S (!h) N m ç).length=ç.length:=EO _;let el:(Mk.JF<|bt S (!h) N m ç).length=ç.length * S.JO.length:=by unfold Mk.JF;rw[el,fl]
 let a2n:=W.ln.Kv;let lz:S.JO.length<=S.JD.length:=by unfold NS.JO;rw[EO];show FD _ _
 show#[W.a0R pz,W.a0W,W.Vl,a2n,λr hr=>#[kt _<|Fc hr,λks hk=>?_],p1,fl,by rw[fl];show fz,mz,G,?_,λbl hbl=>?_,by rw[el];show ez]
 ·let#[Ay]:=FR.mp hr;show (W.ln.fits.ahead i r ks ħ hk).1
 ·let:=b7c (B:=64) _ 0 λJP he=>by
   let sub:∀ k∈JP.2.flatten,k∈(ag S).map _:=λk hk=>by let#[way,hw,hk]:=List.mem_flatten.mp hk;show (G.Vi JP he way hw).subset hk
   let:=eK (G.Xb JP he) sub;rw[EO]at this
   lia
  show Fs this ?_
  lia
 ·let#[ks,hk,1]:=EW.mp hbl;show#[by rw[EO];lia,λways hw=>?_];let#[g,hg,1]:=EW.mp hw;let#[O,hW]:=hO ks hk;let#[w,ew]:=hW g hg;let#[OC,Xo]:=c0m W.M' O ew;let e:iQ (aV Ś (!h) g N m)=w:=by rw[ew];rfl
  rw[e,e1];show#[by simp_all,λway hw=>?_];let#[YO]:=EW.mp hw;let sb:=W.whole b6T<|e3 ws Tj;let sl:=sb.length_le;rw[EO]at sl;show⟨#[],λk hk=>kt k<|sb.subset hk⟩
def WN.told (W)(n)(x:KL)(hx:(ag S)[n]?=!x):gQ a7B x.1=!(x.1,Mk.JI p m ê (Mk.stN p m ç ê gb n) x):=by let nd:((RK (·.1)<|cr p m ç ê _ (ag S).length).map _).Nodup:=(KW.map _).nodup_iff.mpr (by rw[dU];show W.ln.fits.nd);show a8z nd (x.1,_) (KW.mem_iff.mpr ?_);show EW.mpr #[n,FW.mpr<|(ES.mp hx).1,by rw[bL hx]]
def WN.good (W)(hP)(G:Mk.Nb p m ç ê gb)(mz:m<=1000):OB m p gb a7B:=by
 let pm:=KW (f:=λr:Int×List Int=>r.1) (l:=cr p m ç ê gb (ag S).length);let Kv:=W.ln.Kv;let kl:=congrArg List.length<|dU (p:=p) (m:=m) (ç:=ç) (ê:=ê) (ag S);rw[EO,EO]at kl;show⟨λx hx=>?_,λr hr=>?_,?_⟩
 ·let#[n,hn]:=List.getElem?_of_mem hx;show#[_,W.told n x hn,?_];let#[nU,_]:=Mk.Sx<|Mk.QE (Mk.MB G n (by let:=(ES.mp hn).1;lia)) G hn;let#[Ay]:=FR.mp hx;let mw:((Mk.K9 m x.2).length)=zw m x.2/\(Mk.K9 m x.2).length<=1000:=by
   cases e2:x.2 with
   | none=>
    let:(Mk.K9 m none).length=m:=by change (Mk.starts m).length=m;unfold Mk.starts;simp
    rw[this];show#[1,mz]
   | some ks=>show#[1,(W.ln.fits.ahead i x ks ħ e2).1]
  rw[<- h1]at mw;show#[mw.1,h2,mw.2]
 ·let:=Fc (f:=λr:Int×List Int=>r.1)<|pm.mem_iff.mp hr;rwa [dU]at this
 ·rw[pm.length_eq]
  lia
def b2i (h0:0<=i)(h:i<xs.length):∃ v,xs[i.toNat]?=!v/\P5 xs i=!v:=by
 let hj:i.toNat<xs.length:=#[]
 show#[xs[i.toNat],ER hj,?_];let:=iy<|ER hj;rwa [Int.toNat_of_nonneg h0]at this
structure pJ (mg:Ω):Prop where
 JX:mg "len"=none
 K8:mg "range"=none
 NO:mg "list"=none
 Lg:mg "enumerate"=none
 Us:mg "int"=none
 M8:mg "zip"=none
 Uq:mg "sum"=none
abbrev B9:Int:=(10:Int) ^ (9:Int).toNat
theorem xQ:Nat->Int->Ξ
 | 0,_=>[]
 | n+1,x=>if 0<x then x % B9::xQ n (x / B9) else []
theorem xc:Nat->Int->Int->Ξ
 | 0,_,_=>[]
 | n+1,k,x=>x * b7B % 2147483647::xc n (k+1) (x * b7B % 2147483647+1)
def b0d:∀ n k x,(xc n k x).length=n:=by
 intro r'
 induction r' with
 | zero=>
  intro _ _;show rfl
 | succ n ih'=>
  intro k x;unfold xc;rw[FU,ih']
def a4R:∀ n x,(xQ n x).length<=n
 | 0,_=>F8 _
 | n+1,x=>by
  unfold xQ;split
  ·simp_all [FU,a4R]
  ·show FV _
theorem vR (c:Int)(m):Ξ:=if c % 2=0 then xQ m (c / 2) else []
theorem ff (c:Int)(m):Ξ:=(vR c m++xc m 0 a9w).take m
def b1p (c:Int)(m):(ff c m).length=m:=by unfold ff;rw[Fd,Fb,b0d];lia
section
variable {c:Cl}
def a37:au õ õ (aa (top 95)):=Nz
inductive gN (K:Ψ) (vs:π) (H:Hp) (Q:VK) (E:XK):Prop
 |mk (a:Addr) (k:Int) (ns:Ξ):vs=[.ref a,.int k]->0<=k->JU K H a ŕ->(∀ c:Int,Q (.int c) H)->gN K vs H Q E
def a6j [Bx:Bd](T:pJ Bx.mg):Tk 1 "_law_cell_at" (top 95) õ (gN Bx.K):=by
 intro f fd F;show F.k a37 λJE A outer s H vs Q E hr h=>?_
 ·let#[a,k,ns,1,hk,hS,q]:=h;show#[_,(ai (gy (pT fU iU<|bQ (a1g Bx.K) rfl T.JX boot_len b6X)
  (aq<|bB (pI gD A3<|pv 1))
  KH)
 (aq<|bB b8)),?_]
  show#[Ch,a,_,1,.inl hS,ni,1,?_];show lJ (λhc=>?_) (λhc=>?_)
  ·let hc:=Fv hc;let#[v,ev,e]:=b2i hk hc;rw[F7]at ev
   cases hn:ns[k.toNat]? with
   | none=>rw[hn]at ev;cases ev
   | some z=>
    rw[hn]at ev;let:v=.int z:=by simpa using ev.symm
    subst this;show#[Ch,a,_,k,_,2,hS,e,q z]
  ·show q 0
inductive a7F:Ä
 |mk {c:Int}{m:Nat}:m<=100->a7F [.int c,.int m] (rw (ff c m))
def c06 [Bx:Bd](T:pJ Bx.mg):Tk 1 "_law_stream" (top 96) b29 (Pr a7F):=by
 show KS ["_law_found","_law_number","_law_k"] ?_ λ_ _ _ _ _ _ _ hr ND=>(qC db
 (qC (qs 3 ND<|dO cE Mv (Đ 0) dI)
 (qC (qW F9 (PW.pt<|kF (dT bc cv (dO bJ Mv (Đ 0) dI) dI) (kF (dT jt cF (Đ 3) dI)<|c7 (dT fU cF (cw T.JX<|Đ 2)<|Đ 1)))
  (qC (qA (aw<|OS Bx.K Ff Fn Fm aB wJ (a9 (dO bJ Mv (Đ 3)<|dO b5o Mv dI dI) Jx)) λ_ _ _ h=>h)
 (q1<|qs 3 ND (dO cE Mv (Đ 3)<|dO b5o Mv dI dI))))
 (qC (qs 3 ND<|dO bJ Mv (dO cq Mv (Q5 (dO cE Mv (Đ 0) dI) dI) dI) dI)
 (qC (qL F9 rfl yR DI (aD 4)
  (qC (qs 3 ND<|dO bJ Mv (dO cq Mv (Đ 3)<|Q5 (Q5 (dO cE Mv (Đ 3) dI) dI) (Đ 4)) dI)
 (qC (qA (aw<|OS Bx.K Ff Fn Fm aB (pv 2) (a9 (Đ 3) Jx)) λ_ _ _ h=>h)
 (q1<|qs 3 ND (Q5 (Đ 3) dI)))))
 (qr<|W0 (Đ 2) VZ (VY<|Đ 1)))))))
 rintro _ _ @⟨c,m,hm⟩;show .nx AI (.nx #[b6Y] ?_);show fh (b:=(([]:Ξ),c / 2)) (λb ε=>(c % 2=0->b.1++xQ (m - b.1.length) b.2=xQ m (c / 2))/\(c % 2≠0->b.1=[])/\∃ o4,ε=[.fz<|.int c,.fz<|.int m,.ow<|rw b.1,.fz<|.int b.2,o4]) (λb=>m - b.1.length) #[λ_=>rfl,λ_=>rfl,_,1] λb ε h=>?_;let#[l,x]:=b;let#[nU,o4,1]:=h;dsimp only at h1 h2 ⊢;let r1:=eq_int (ε:=[some<|.int c,some<|.int m,some<|rw l,some<|.int x,o4.a]) (ra:=rO (fI (λ_ j=>0<j) λi j=>Q1<|.int (i % j)) rq<|rC (.int 2)) (rb:=rC<|.int 0) #[2,uR] rfl;let r2:=gt_int (ε:=a4j) (ra:=rV 3) (rb:=rC<|.int 0) rfl rfl;let r3:=lt_int (ε:=a4j) (ra:=rF LD<|rA um OH) (rb:=rV 1) rG rfl;by_cases c0:c % 2=0/\0<x/\l.length<m
 ·let#[c1,c2,c3]:=c0;rw[EY c1]at r1;rw[EY c2]at r2;rw[EY<|by lia]at r3;show .inr #[.t r1<|.t r2 r3,(l++[x % B9],x / B9),_,.nx ⟨rfl,by simp;lia,.z ⟨rfl,⟨rfl,rfl,⟨⟨by decide,by decide,by decide⟩⟩⟩,⟨by decide⟩⟩⟩ ⟨⟨rfl,⟨rfl,rfl,⟨⟨by decide,by decide,by decide⟩⟩⟩,⟨⟨by decide,by decide⟩⟩⟩⟩,⟨λz=>?_,λz=>absurd c1 z,o4,?_⟩,by simp;lia]
  ·let e:m - l.length=(m - (l++[x % B9]).length)+1:=by simp;lia
   rw[<- h1 c1,e,FI];change _=l++(if 0<x then _ else _)
   rw[if_pos c2];rfl
  ·rw[show rw (l++[x % B9])=.lst (l.map .int++[.int<|x % B9]) from congrArg D.lst EX];rfl
 ·show .inl #[D2]
  ·by_cases c1:c % 2=0
   ·rw[EY c1]at r1;by_cases c2:0<x
    ·rw[EY c2]at r2;rw[F5 λz=>c0 #[c1,c2,#[]]]at r3;show .t r1 (.t r2 r3)
    ·rw[F5 c2]at r2;show .t r1 (.f r2)
   ·rw[F5 c1]at r1;show .f r1
  let hl:l=vR c m:=by
   unfold vR;by_cases c1:c % 2=0
   ·rw[if_pos c1,<- h1 c1]
    cases e:m - l.length with
    | zero=>show (Fq _).symm
    | succ n=>rw[show xQ (n+1) x=[] from if_neg λz=>c0 #[c1,z,#[]],Fq]
   ·rw[if_neg c1];show h2 c1
  show .nx #[#[#[#[b6Y,1,.i],1,#[.inr vF]],1,uR]] ?_;let hz:=a4R m<|c / 2;let dl:(vR c m).length<=m:=by unfold vR;split;show hz;show FV _
  show bX cV (u:=λ(i:Nat)=>.int (i:Int)) (λi ε=>∃ ys y o4,ε=[.fz<|.int c,.fz<|.int m,.ow<|rw (vR c m++ys),.fz<|.int y,o4]/\ys.length=i/\0<=y/\y<=2147483647/\ys++xc (m - i) i y=xc m 0 a9w) #[[],_,o4,by rw[hl,Fq];rfl,1,Gi _<|by decide,Int.le_of_lt<|FX _ (by decide),1] ⟨m,#[],⟨rfl,rfl⟩,(bo _).symm⟩ (λi z ε hi h=>?_) λε h=>?_
  ·let#[ys,y,o4,1,yl,y0,y1,ym]:=h;let#[1,WW]:=fR hi;show#[_,1,_,.nx #[#[#[1,#[#[b6Y,1,.i],1,.i],D0],1,uR]]<|.nx #[1,by simp;lia,.z rfl] #[2,.i],ys++b5A,y * SZ % 2147483647+1,.fz<|.int i,?_,by simp[yl],?_,?_,?_]
   ·rw[<- FI,show rw (vR c m++ys++b5A)=.lst ((vR c m++ys).map .int++[.int<|y * SZ % 2147483647]) from congrArg D.lst EX];rfl
   ·let:=Gi (y * SZ) (show (2147483647:Int)≠0 by decide);lia
   ·let:=FX (y * SZ) (show (0:Int)<2147483647 by decide);lia
   ·rw[<- ym,FI,show m - i=(m - (i+1))+1 by lia];rfl
  ·let#[ys,y,o4,1,yl,_,_,ym]:=h;rw[G9]at ym;rw[Nat.sub_self,show xc 0 _ _=[] from rfl,Fq]at ym;show#[Co,?_];unfold ff;rw[<- ym,cu,<- Hv]
abbrev j4 (r:LT):D:=.tup z7
abbrev bn (R:List LT):D:=.lst (R.map j4)
inductive a8F:Ä
 |mk {R:List LT}{x:Str}:R.length<=1000->a8F [bn R,.str x] (rw (dW R x))
def a1O [Bx:Bd]:Tk 1 "_law_into" (top 98) þ (Pr a8F):=by
 show KS [] ?_ λ_ _ _ _ _ _ _ hr ND=>(qr (Pd 0 rfl (cS 1 [1] ["_law_tie","_law_name"]) ż
  ē
  (λ_ _ _ _ _=>cD<|dT bc cv Ť (Đ 1))
  Pi))
 rintro _ _ @⟨R,x,hl⟩;show#[?_,Ql (λr:LT=>r.1) _];show bv (u:=j4) (λr=>decide _) yc hl λr hr=>#[_,1,eq_str Di rfl,λ_=>Di]
universe e
universe K72
namespace L2
open PySem PySem.Spec PyProof.Rows
theorem Iti (o)(d):It:=
 ⟨λi H=>∃ ķ kv,H d=!.frz o ku/\ķ[i]?=!kv,λi H v H'=>∃ T,H T=none/\v=.ref T/\∃ kv:Dx×V,(∀ ķ,H d=!.frz o ku->ķ[i]?=!kv)/\H'=upd H T (.tup BZ),λi H=>∃ ķ,H d=!.frz o ku/\ķ.length<=i⟩
theorem a4g (it d:Addr)(n ep:Nat)(i)(h:Heap):Prop:=∃ ok ov,IsItemIter h it d i n ep ok ov
def a22 {P:É}{w:World}{K:Ψ}{elts:Ì}{x1:Nat}{MP:Pos} (it d:Addr) (o) {es:Ñ}{ep:Nat} (ed) {er:ψ} (SM):tL er P w K Œ (Iti o d) [it] it (a4g it d es.size ep) where
 mem:=by simp
 obj:=λi h st b hb=>by
  let e:b=it:=by simpa using hb
  subst e;let#[_,_,st]:=st;show#[_,st,λv z=>by cases z]
 keep:=λi h h' J' k=>by let#[ok,ov,st]:=J';show#[ok,ov,k it Ė _ st]
 item:=by
  intro X hP hw hK hc i ñ s σ H E I hf st hg;subst hP hw hK;let#[c2V]:=hg;let#[ok,ov,st]:=st;let#[je]:=I.ZE hd ed;let#[q,hq,hr]:=Paired.at r hx;rw[<- hl]at st;show wpAny_pyNext_items_item st da hq λkey h' UL a1 a2 a3 a4=>?_;show#[_,1,wpAny_letOwnedTupleGo_items a1 λSQ b1 sb=>?_];let hT:=I.JM.fresh<|F8 _;let Wc:it≠s.heap.objs.size:=λz=>absurd (Fe st) (by rw[z];show GS _);let kk:∀ c u,c∉[it]->s.heap.get? c=!u->SQ.get? c=!u:=λc u hc z=>by
   let hc:c≠it:=by simpa using hc
   show sb.extBut _ _ hc (a4 c u hc z)
  let I1:Inv X ñ σ H { s with heap:=SQ }:=I.Oc hf kk;let I2:Inv X ñ σ (upd H s.heap.objs.size<|.tup BZ) { s with heap:=SQ }:=by
   show I1.Uc zj I.sz #[by change 2<=sizeLine;decide,[key,q.2],.cons ?_<|.cons hr.2 .nil,?_]
   ·rw[hr.1];show lX UL
   ·show#[_,sb.extBut _ _ (Ne.symm Wc) a2,BS]
  show#[zG,I2,1,#[_,hT,1,kv,λY7 NP=>?_,1],#[key,q.2,?_],λc hc=>?_]
  ·rw[hd]at NP;cases NP;show hx
  ·rw[hl]at b1;show b1
  ·let hc:c=it:=by simpa using hc
   subst hc;rw[a8 Wc];show (hf c<|by simp).1
 done:=by intro X hP hw hK hc i ñ s σ H E I hf st hg;subst hP hw hK;let#[ķ,hd,hx]:=hg;let#[ok,ov,st]:=st;let#[je]:=I.ZE hd ed;let#[Ek]:=hf it Ė;rw[<- hl]at st;let:=KV.length r;show wpAny_pyNext_items_end (I.MX hc.1<|hc.2.trans SM) st da (Gu<|by lia) λh' eb=>wc
 self:=λ_ _ _ _ _ J' h=>by let#[ok,ov,st]:=J';show W.kcp_self st h
section
variable {K:Ψ}
def b2Y:∀ {as:Ξ}{vs:π},JS F (as.map .int) vs->Paired (P9 H) vs as:=by
 intro r'
 induction r' with
 | nil=>
  intro _ h
  cases h;show .nil
 | cons _ as ih'=>
  intro _ y1';let#[_,_,e,nU]:=y1';subst e;show .cons h1 (ih' h2)
def iV (s)(h:DR F (rw as) v):bb K P9 H v as:=let ⟨a,vs,e,h1,h2⟩:=h;#[a,vs,e,JU.of<|s _ _ h1,b2Y h2]
def a66 (s):∀ {t:Θ}{vs:π},JS F CY vs->Paired (bb K P9 H) vs t:=by
 intro r'
 induction r' with
 | nil=>
  intro _ h
  cases h;show .nil
 | cons _ t ih'=>
  intro _ y1';let#[_,_,e,nU]:=y1';subst e;show .cons (iV s h1) (ih' h2)
def jW (s)(h:DR F (tb t) v):bb K rp H v t:=let ⟨a,vs,e,h1,h2⟩:=h;#[a,vs,e,JU.of<|s _ _ h1,a66 s h2]
def jo:∀ {as:η}{vs:π},JS F eX vs->Paired (isA H) vs b2n
 | [],_,h=>by cases h;show .nil
 | _::as,_,⟨_,_,e,h1,h2⟩=>by subst e;show .cons h1 (jo h2)
def a5V (s){as:η}(h:DR F (.lst eX) v):bb K isA H v b2n:=let ⟨a,vs,e,h1,h2⟩:=h;#[a,vs,e,JU.of<|s _ _ h1,jo h2]
def a3X {as:η}:decide (as.map (Sum.inr:Str->Dx)=bs.map Sum.inr)=decide xx:=by simp[List.map_inj_right]
inductive fL (n:Bool):D->D->D->Prop
 |r {as bs:Ξ}:fL n (rw as) (rw bs) BT
 |t {as bs:Θ}:fL n (tb as) (tb bs) BT
 |s {as bs:η}:fL n (.lst eX) (.lst (bs.map .str)) BT
def a3K (hr:X.A.units+2<cLine):L4 X w4 (λx y H Q=>(∃ as bs,bb X.K P9 H x as/\bb X.K P9 H y bs/\Q š H)\/(∃ as bs,bb X.K gY H x as/\bb X.K gY H y bs/\Q š H)\/(∃ as bs,bb X.K isA H x as/\bb X.K isA H y bs/\Q š H)):=
 L4.or (wS ip<|by lia) (L4.or (wS (jI ip) hr)<|wS c0o #[])
def c0t:Qd (fL false) (λx y H Q=>(∃ as bs,bb K P9 H x as/\bb K P9 H y bs/\Q š H)\/(∃ as bs,bb K rp H x as/\bb K rp H y bs/\Q š H)\/(∃ as bs,bb K isA H x as/\bb K isA H y bs/\Q š H)):=λF H x y u v d Q s z hu hv q=>by
 cases z with
 | r=>show .inl #[c29,iV s hv,tP.at s q (by rw[Bool.false_xor];rfl)]
 | t=>show .inr (.inl #[c3a,tP.at s q (by rw[Bool.false_xor];rfl)])
 | s=>show .inr (.inr #[c3b,tP.at s q (by rw[a3X,Bool.false_xor];rfl)])
def b9k (hr:X.A.units+2<cLine):L4 X yd (λx y H Q=>(∃ as bs,bb X.K P9 H x as/\bb X.K P9 H y bs/\Q ł H)\/(∃ as bs,bb X.K gY H x as/\bb X.K gY H y bs/\Q ł H)\/(∃ as bs,bb X.K isA H x as/\bb X.K isA H y bs/\Q ł H)):=
 L4.or (wR ip<|by lia) (L4.or (wR (jI ip) hr)<|wR c0o #[])
def c1w:Qd (fL true) (λx y H Q=>(∃ as bs,bb K P9 H x as/\bb K P9 H y bs/\Q ł H)\/(∃ as bs,bb K rp H x as/\bb K rp H y bs/\Q ł H)\/(∃ as bs,bb K isA H x as/\bb K isA H y bs/\Q ł H)):=λF H x y u v d Q s z hu hv q=>by
 cases z with
 | r=>show .inl #[c29,iV s hv,tP.at s q (by rw[Bool.true_xor];rfl)]
 | t=>show .inr (.inl #[c3a,tP.at s q (by rw[Bool.true_xor];rfl)])
 | s=>show .inr (.inr #[c3b,tP.at s q (by rw[a3X,Bool.true_xor];rfl)])
universe e
section
variable {α:Type}[DecidableEq α]{R:Hp->V->α->Prop}
open Classical in
theorem VT (its:θ)(as:List α)(a:α)(u):Bool:=if h:∃ b,∃ i:Nat,its[i]?=!u/\as[i]?=some b then decide (h.choose=a) else false
def a39 (h:U7 X.K R k)(I){as:List α}(r:lA vs its)(p:Paired (R H) vs as){a:α}:
  (∀ (i:Nat) u b,its[i]?=!u->as[i]?=!b->VT its as a u=decide (b=a)):=λi u b h1 h2=>by
 let ex:∃ b,∃ i:Nat,its[i]?=!u/\as[i]?=!b:=#[b,i,nU]
 unfold VT;rw[dif_pos ex];let#[j,ou]:=ex.choose_spec;let at':∀ (i:Nat) b,its[i]?=!u->as[i]?=!b->∃ v,wF v u/\R H v b:=λi b h1 h2=>by
  let hi:i<vs.length:=by rw[r.length];show (ES.mp h1).1
  let#[u',mL]:=r.get<|ER hi;let#[b',g3,g4]:=Paired.at p (ER hi);rw[h1]at g1;cases g1;rw[h2]at g3;cases g3;show#[_,g2,g4]
 let#[v,XJ]:=at' i b h1 h2;let#[v',q3,q4]:=at' j _ h3 h4;rw[q1.inj q3]at q2;rw[h.fn X ñ s σ H _ _ _ rfl I q4 q2]
def b3V (h:U7 X.K R k)(I)(hu:A.units+k<cLine){as:List α}(r:lA vs its)(p:Paired (R H) vs as){a:α}(rx)(ra:R H x a):∀ u∈its,SeqAt.EqAt A s u v (VT its as a u):=λu hu'=>by
 let#[i,hi,e]:=FR.mp hu';let h1:its[i]?=!u:=by rw[ER hi,e]
 let hv:i<vs.length:=by rw[r.length];show hi
 let#[u',mL]:=r.get<|ER hv;let#[b,g3,g4]:=Paired.at p (ER hv);rw[h1]at g1;cases g1;rw[a39 h I r p i u b h1 g3];show h.eq X A ñ s σ H _ _ _ _ b a rfl I g2 rx g4 ra hu
def a1B {as:List α}{a:α}(hl:its.length=as.length)(h:∀ (i:Nat) u b,its[i]?=!u->as[i]?=!b->VT its as a u=decide (b=a)):its.toArray.any (VT its as a)=decide (a∈as):=by
 rw[show its.toArray.any _=its.any (VT its as a) by simp,GH,List.any_eq_true,HW];constructor
 ·rintro⟨u,hu,e⟩;let#[i,hi,eu]:=FR.mp hu;rw[h i u _ (by rw[ER hi,eu])<|ER (show i<as.length by lia)]at e;rw[<- Fv e];show FZ _
 ·intro ha;let#[i,hi,eb]:=FR.mp ha;let h1:=ER (show i<its.length by lia);show#[_,ET h1,by rw[h i _ _ h1<|ER hi,eb];show EY rfl]
def zZ (h:U7 X.K R k)(hu:X.A.units+(k+1)<cLine):L4 X cN (λx y H Q=>∃ a as,R H x a/\bb X.K R H y as/\Q Sc H):=by
 intro ñ s σ H x y v u Q I rx ry hq;let#[a,as,ra,#[p,vs,1,hs,hp],q]:=hq
 cases ry;let#[pZ]:=I.list hs;show SeqAt.notIn_listAt _ pl.isList (λw hw=>b3V h I #[] r hp rx ra w<|by simpa using hw) vN;rw[a1B (by rw[<- r.length,Paired.length hp])<|a39 h I r hp];show q
def a3L (i1 i2:Decidable p):@decide p i1=@decide p i2:=by cases i1 <;> cases i2 <;> first|rfl|contradiction
def a0S (hu:X.A.units+2<cLine):L4 X cN (λx y H Q=>∃ (a:Ξ)(as:Θ),bb X.K P9 H x a/\bb X.K gY H y as/\Q Sc H):=
 (zZ (jI ip) hu).imp λx y H Q J'=>by let#[a,as,nU,q]:=J';show#[a,as,nU,(congrArg (λb=>Q (V.bl<|not b) H)<|a3L _ _).mp q]
inductive fNi:D->D->D->Prop
 |mk {a:Ξ}{as:Θ}:fNi (rw a) (tb as) Sc
def a4X {K:Ψ}:Qd fNi (λx y H Q=>∃ a as,bb K P9 H x a/\bb K rp H y as/\Q Sc H):=λF H x y u v d Q s z hu hv q=>by obtain⟨⟩:=z;show#[c29,jW s hv,tP.at s q rfl]
theorem DP (K)(R:Hp->V->α->Prop):V->List V->Hp->VK->Prop:=λx ws H Q=>∃ (v:V)(a:α)(as:List α)(j:Nat),ws=[v]/\R H v a/\bb K R H x as/\as[j]?=!a/\(∀ i b,i<j->as[i]?=!b->b≠a)/\Q (.int (j:Nat)) H
def Ae (h:U7 X.K R k)(hu:X.A.units+(k+1)<cLine):Cy X "list.index" (DP X.K R):=by
 intro ñ s σ H x ws v us Q I rx rv hq;let#[w,a,as,j,1,ra,#[l,vs,1,hs,hp],hj,hno,q]:=hq
 cases rx;let#[u,1,ru]:=dG rv;let#[pZ]:=I.list hs;let hlen:its.length=as.length:=by rw[<- r.length,Paired.length hp]
 let sp:=a39 (a:=a) h I r hp;let hjl:j<its.length:=by rw[hlen];show (ES.mp hj).1
 let hn:=nL;let#[#[zx],DE]:=id pl.isList;subst hc hd;show IW F.slot_list_index #[_,ho,1] F.entry_list_index (F.args_list_index_2 _ _) (SeqAt.list_indexAt l its.toArray n odi Lm u _ j (hjl) ?_ ?_ ?_) #[ho,λy' hy'=>b3V h I #[] r hp ru ra y'<|by simpa using hy',?_]
 ·let:=(ES.mp hj).1;rw[<- Paired.length hp]at this
  lia
 ·rw[List.getElem_toArray,sp j _ a (ER hjl) hj];show EY rfl
 ·intro m hm hmj;let VG:m<its.length:=by simpa using hm
  let h2:=ER (show m<as.length by lia);rw[List.getElem_toArray,sp m _ _ (ER VG) h2];show F5 (hno m _ hmj h2)
 ·show#[.int _,uW,q]
inductive a0L (ra rb:Rx) (ε:En) (d:D):Prop
 |mk {as:Θ}{a:Ξ}{j:Nat}:ra ε (tb as)->rb ε (rw a)->as[j]?=!a->(∀ i b,i<j->as[i]?=!b->b≠a)->d=.int (j:Nat)->a0L ra rb ε d
def dIx (hu:X.A.units+2<cLine)(ha:PE X o ya)(hb:PE X e wK)(Li:attributeBase o "index" X.env (eval o X.env)=eval o X.env:=ā)(UO:((backTo Kg tR).all rX&&(backToKw Kg Ī).all DD&&decide ([e].length+([]:List Keyword).length+ŝ<30))=true:=ā)(Mp)(hs:starEach [e] X.env=Ō::starEach [] X.env:=ā)(PB:(backTo Kg (starEach ([]:Ì) X.env)).any (·.1)=false:=ā):
  PE X (.Call (.Attribute o "index" apos) [e] [] Kg) (tP (a0L ra rb)):=(OS X.K F.plainAttrs_list F.slot_list_index F.type_list_index (Ae (jI ip) hu) ha (a9 hb Jx hs) rfl Li UO Mp hs PB).imp λσ H Q J'=>by
 let#[vJ]:=J';let#[ki,1]:=h;show tP.go S h1 λx H1 e1 S1 q1=>?_;let#[p,vs,1,hp,hv]:=id q1;show#[.inl #[1,vs,JU.of<|S1.le _ _ hp],tP.go S1 h2 λy H2 e2 S2 q2=>#[y,_,_,_,1,iV S2.le q2,jW S2.le<|q1.mono (aj S1.le),h3,h4,q _ _ ļ rfl]]
universe e
section
variable {ð:ι}
abbrev pI2 (kd:Dx×D):D:=.tup [kD kd.1,kd.2]
def a1k:∀ {k:Dx},DR F (kD k) p7
 | .inl _=>rfl
 | .inr _=>rfl
def a3J:Dn Iti pI2:=λ{F a ob ķ ð} h h1 h2=>
 #[λH i d s e=>by
  rw[F7]at e
  cases z:ð[i]? with
  | none=>rw[z]at e;cases e
  | some kd=>
   rw[z]at e;cases e;let#[v,sf]:=h2.at (show _[i]?=some kd.2 by simp_all)
   let t1:(ķ.map (·.1))[i]?=!kd.1:=by simp_all
   rw[F7]at e1 t1
   cases y:ķ[i]? with
   | none=>simp_all
   | some kv=>
    rw[y]at e1 t1;cases e1;let e3:kv.1=kd.1:=Option.some.inj t1;show#[E1,λx H' J'=>?_];let#[T,hT,ex,kv',e4,e5]:=J';let:=e4 ķ<|s _ _ h;rw[y]at this;cases this;subst ex e5;rw[e3];show b4k s hT a1k e2,λH i s z=>#[ķ,s _ _ h,by let:=h2.length;simp at this z;lia]]
def c3r {x1:Nat}(hl:PE X l tl)(Li:attributeBase l "items" X.env (eval l X.env)=eval l X.env:=ā)(Mp)(hn:X.base.err=none:=Ą):PI X Œ (.Call (.Attribute l "items" apos) [] [] Kg) (iD2 X Iti tl):=by
 intro ñ s σ H R I h;let#[Q,hq,h]:=h;show wpAny_Call_method0_late Li Mp a73;let#[zQ]:=J';let#[d,ķ,e,hd,q]:=h x H1 q1;subst e
 cases r1;let#[c0p]:=wE
 let hsz:vs.length=es.size:=by rw[<- c4.length];simp
 let da:s1.heap.DictAt _ d vs ep:=wC
 show#["dict","dict.items",F.plainAttrs_dict,F.slot_dict_items,F.type_dict_items,c0S]
 ·cases e2;show#[ob,ho,c1.2.1]
 show call_meetsIn F.slot_dict_items da.dictOf.typeIs F.entry_dict_items (F.args_dict_items_1 _) (meets_dict_items (aM X.prog X.w) d lo) b5e;let#[oo,fz]:=I1.fz2 hd ho;let I2:=I2.kept (t':=s1.toks) (h':=s1.heap.push { cls:=.type "dict_items",data:=.fields [.ref d].toArray }) λb o e=>EV _ e;show wpAny_pyIter_items Ba (da.push _) ?_;rw[hsz];show#[_,[(s1.heap.push { cls:=.type "dict_items",data:=.fields [.ref d].toArray }).objs.size],c0s,a22 _ d ob c2 hn,#[_,lj],c2D];let e:b=(s1.heap.push { cls:=.type "dict_items",data:=.fields [.ref d].toArray }).objs.size:=by simpa using hb
 subst e;show I2.PF XS Wu
def a7E:∀ l:Ξ,JS F (l.map .int) (l.map V.int):=by
 intro r'
 induction r' with
 | nil=>
  show rfl
 | cons _ l ih'=>
  show #[XC,ih']
inductive rIs (r:Rx) (ε:En) (l:χ):Prop
 |mk {ð:ι}:r ε vO->l=ð.map pI2->rIs r ε l
def qLi (hp)(hc)(hi:PI X tg iter (iD2 X Iti (tP rd)))(ht:PG X tg g)(hg:W7 g q)(hb:Pn X ss rb)(hs):QS X IR (jr (rIs rd) q rb):=by
 intro F0 H0 ñ s σ H E I h;obtain⟨F,ε,f,S,@⟨l,@⟨ð,h1,hl⟩,h2⟩,p⟩:=h;subst hl;let Yz:N7 X ss Ŭ:=λñ s σ H E I J'=>by let#[F0,H0,h]:=J';show hb F0 H0 ñ s σ H E I h
 show K2 (bP hp hc hi ht Yz hs ñ s σ H _ I #[c0b,λx H1 J'=>(by let#[e1,ve]:=J';show#[a,ķ,ex,p1.mono (S.grow e1).le,λo H2 fz=>PI0 a3J hg iP p1 p2 p3 fz h2<|p.up (aj S.le)])]) λf s' q=>SP.Sm q
inductive Bu (i:Nat) (re:Rx) (ε:Ev):Fl->Prop
 |mk {l:Ξ}{d:D}:re Ĭ d->d=rw l->Bu i re ε (.nx (ε.set i (.ow (rw l))))
def qON {st:Stmt}(h:PS X st vi)(k:∀ σ H Q,tN re σ H Q->te σ H Q):QS X st (Bu i re):=λF0 H0=>h.imp λE σ H J'=>by let#[BU]:=J';let#[h1,1]:=h;show k _ _ _ #[Cg,S.a,c2J];let#[vs,w1,w2]:=w;let#[F',u,S']:=S.a0w i n e1<|show RE _ H1 (rw _) a from #[vs,w1,by rw[j8 w2];show a7E _];show p _ H1 F' u S'
def a2C (ha)(hb:PE X b wK):PE X (.BinOp a .Mult b pos) (tN (rO YK ra rb)):=(gV n8 ha hb).imp λσ H Q J'=>by
 let#[vJ]:=J';obtain @⟨_,_,hx,hy,f⟩:=h;obtain @⟨x,k,hk⟩:=f;show tP.go S hx λu H1 e1 S1 q1=>tP.go S1 hy λv H2 e2 S2 q2=>?_;let#[E5,p1,w,ws,1,p2,1]:=q1;show#[a,k,[w],1,q2,e2 _ _<|S1.le _ _ p1,#[],#[],?_,λp n=>q p _ ((e1.trans e2).trans<|aO ė n) ((e1.trans e2).free n) #[_,ae,?_]]
 ·show Fs b6B (by decide +kernel:1000<=sizeLine)
 ·let np:grow F H H1 p=none:=by
   cases z:grow F H H1 p with
   | none=>rfl
   | some o=>rw[e2 _ _<|S1.le _ _ z]at n;cases n
  rw[Gq];let p2:=p2.mono<|k8 (aT<|e2.trans (aO (o:=.lst<|(List.replicate k [w]).flatten) ė n)) np;generalize aW p _=G at p2 ⊢;clear hk hy q2 q
  induction k with
  | zero=>rfl
  | succ k ih=>show#[w,_,1,p2,ih]
inductive b2t:Ä
 |b {b:Bool}:b2t [.bl b] (.int b5T)
def a3M:Cb b2t a7v:=λF H l xs d Q s z hx q=>by
 obtain⟨⟩:=z;obtain⟨v,ws,rfl,h1,h2⟩:=hx
 cases h1
 cases h2;show .inr #[_,1,tP.at s q rfl]
universe e
universe L2
namespace K72
open PySem L2
open PyProof.Rows (boot_all boot_any boot_bool boot_dict boot_int boot_list boot_sorted boot_str boot_tuple)
theorem h8 (R)(col)(x):List bf:=(R.filter λr=>decide (r.2.1=x)).map λr=>pL
theorem bE (R)(col)(ord:η):List bf:=ord.flatMap (h8 R col)
def a94 {R:List LT}(nd:(R.map (·.1)).Nodup)(h:r∈R)(h':r'∈R)(e:r.1=r'.1):r=r':=a4T nd h h' e
def Nt:x∈bE R col ord ↔ ∃ r∈R,r.2.1∈ord/\x=pL:=by
 unfold bE h8;rw[Hr];constructor
 ·rintro⟨y,hy,h⟩;let#[r,nU]:=EW.mp h;let#[ou]:=Fj.mp h1;show#[r,h3,by simp_all,h2.symm]
 ·rintro⟨r,h1,h2,rfl⟩;show#[r.2.1,h2,EW.mpr #[r,Fj.mpr #[h1,EY rfl],1]]
def gP (nd:(R.map (·.1)).Nodup):∀ {ord:η},ord.Nodup->((bE R col ord).map (·.1)).Nodup:=by
 intro r'
 induction r' with
 | nil=>
  intro _;show .nil
 | cons x ord ih'=>
  intro h;let#[nU]:=FP.mp h;rw[show bE R col (x::ord)=h8 R col x++bE R col ord from rfl,EX,FG];show#[?_,ih' h2,λa ha b hb e=>?_]
  ·unfold h8;rw[EZ];show nd.sublist b2o
  ·unfold h8 at ha;rw[EZ]at ha;let#[r,hr,1]:=EW.mp ha;let#[hr,hx]:=Fj.mp hr;let#[y,hy,e2]:=EW.mp hb;let#[r',UG,ho,1]:=Nt.mp hy;let:=a94 nd hr UG (e.trans e2.symm)
   grind
def zN (nd:(R.map (·.1)).Nodup)(h:ord.Nodup):(bE R col ord).length<=R.length:=by
 let:=eK (ys:=R.map _) (gP (col:=col) nd h) λk hk=>by let#[x,hx,1]:=EW.mp hk;let#[r,hr,_,1]:=Nt.mp hx;show Fc hr
 simp_all
section
variable {r2 rb:Rs}{ε:Ev}{J:Ù}{q:Ô}{α β:Type}{u:α->D}{ri:Ri}
def a6w (h:rt Ĭ true)(k:∃ ε2,rx ε vc/\J ε2):∃ ε2,rIf rt rx ry ε vc/\J ε2:=let ⟨ε2,a,b⟩:=k;#[ε2,.t h a,b]
def a2t (h:rt Ĭ false)(k:∃ ε2,ry ε vc/\J ε2):∃ ε2,rIf rt rx ry ε vc/\J ε2:=let ⟨ε2,a,b⟩:=k;#[ε2,.f h a,b]
def a2r (xs)(I:β->Ù)(g:β->α->β){b:β}(h0:I b ε)(hl)(k:∀ b x ε,x∈xs->I b ε->∃ ε1,q (u x) ε ε1/\∃ ε2,rb ε1 vc/\I (g b x) ε2)(fin:∀ ε',I IL ε'->∃ ε2,r2 ε' vc/\J ε2):∃ ε',oY yJ r2 ε sC/\J ε':=
 let #[qB]:=a02 I g xs k h0;let #[ε2,ou]:=fin ε' h2
 #[ε2,.nx u0 h3,h4]
universe e
theorem wq (m)(p)(col)(row:Ξ)(z:Int×Int):Ξ:=(List.range m).map λj=>(row.getD j 0+z.1 * (col z.2).getD j 0) % p
structure kL (R:List LT) (ord:η) (pl:List bf) (m:Nat) (p:Int) (fs:Ξ) (col:Int->Ξ):Prop where
 key:(R.map (·.1)).Nodup
 ond:ord.Nodup
 Kv:R.length<=100
 m1:m<=1000
 p0:0<p
 Wv:(pl.map (·.1)).Nodup
 pin:∀ r∈R,(r.1,bF pl r.1)∈pl
 pz:∀ r∈R,∀ z∈bF pl r.1,0<=z/\z<1000000
 pln:∀ r∈R,(bF pl r.1).length<=1000
 len:∀ r∈R,(col r.1).length=m
 up:∀ t∈R,∀ (i:Nat),ord[i]?=!t.2.2->t.2.1∈ord.take i
 fix:∀ r∈R,col r.1=if r.1∈fs then List.replicate m 0 else if r.2.1="h" then bF pl r.1 else ((bF pl r.1).zip (dW R r.2.1)).foldl zh mi
def lT {pl:List bf}(nd:(pl.map (·.1)).Nodup)(h:(k,row)∈pl):cy (pl.map λr=>D7) tU=!rw row:=by show dH ?_ (EW.mpr #[_,h,1]);rw[EZ];let:=Ii (S:=λa b:Dx=>a≠b) (λk:Int=>_) (λa b VL e=>VL<|Sum.inl.inj e) nd;rwa [EZ]at this
inductive b3f:Ä
 |mk {R:List LT}{ord:η}{pl:List bf}{m:Nat}{p:Int}{fs:Ξ}{col:Int->Ξ}:kL R ord pl m p fs col->b3f [bn R,aK ord,aG pl,DC,rw fs] (aG (bE R col ord))
def a3V [Bx:Bd](hn)(T:pJ Bx.mg)(Nx):Tk 2 "_law_rows" (top 99) æ (Pr b3f):=by
 show KS [c1C,"_law_number",c0D,c0O] ?_ λ_ _ _ _ _ _ _ hr ND=>(qC (qo 6 ND Yf)
 (qC (Px F9 rfl ST m9 (aD 7)
  (q1 (Px F9 rfl ż (bY Bx.K (n:=3) rfl<|af nV (af (pN 9 ND)<|af (pN 10 ND) aF)) (de Bx.K [8,9,10])
  (q1 (qI (PW.pt<|kF v9 (c7<|Va C3 (Đ 8) (Đ 5)))
  (q1<|qP (bU C3 vI (Đ 8) (dO n8 yK (bV<|da dI JC).p<|Đ 3) rfl) (λ_ _ _ h=>h))
  (q1 (qI (PW.pt<|kF v9 (c7<|dT bc cv (Đ 7) bO))
  (q1<|qP (bU C3 vI (Đ 8) (UU hX pP rfl T.NO boot_list<|da (Kh hr (Đ 2)<|Đ 8) JC) rfl) (λ_ _ _ h=>h))
  (q1 (qI v9
  (qC (qo 11 ND<|a2C (bV<|da dI JC).p (Đ 3))
 (qC (qL F9 rfl (iZ rfl T.M8<|da (Kh hr (Đ 2)<|Đ 8) (da (dF Nx hr.m rfl<|da (Đ 0) P3) JC)) a4L (de Bx.K [12,13])
  (q1 (qON (pS 11 ND (dLN 0 rfl (cS 1 [4,6,11,12,13] ["_law_k","_law_prime","_law_rows_here",c0O]) (Th rfl T.K8<|da (Đ 3) JC)
  ē
  MO
  (λ_ _ _ _ _=>dO bJ Mv (Q5 (Kh hr (Đ 3)<|Đ 0)<|dO cq Mv (Đ 4) (Kh hr (Kh hr (Đ 2)<|Đ 5)<|Đ 0))<|Đ 1))) λ_ _ _ h=>h)))
 (qZ 11<|q1 (qP (bU (aJ hr) (pv 6) (Đ 8) (Đ 11) rfl) λ_ _ _ h=>h))))
  q0)))))))))
 (qr<|Đ 6)))
 rintro _ _ @⟨R,ord,pl,m,p,fs,col,O⟩;show .nx #[1] ?_;show bX ord (u:=.str) (λi ε=>∃ o7 o8 o9 Oa Mz LU LS,ε=[.fz<|bn R,.fz<|aK ord,.fz<|aG pl,.fz<|.int m,.fz<|.int p,.fz<|rw fs,.ow<|aG (bE R col<|ord.take i),o7,o8,o9,Oa,Mz,LU,LS]) ⟨_,_,_,_,_,_,_,rfl⟩ ⟨rfl,.l .lst⟩ (λi x ε hi J'=>?_) λε J'=>?_
 ·let#[o7,wT,he]:=J';subst he;show#[_,1,vH R (u:=j4) (λj ε=>∃ o8 o9 Oa Mz LU LS,ε=[.fz<|bn R,.fz<|aK ord,.fz<|aG pl,.fz<|.int m,.fz<|.int p,.fz<|rw fs,.ow<|aG (bE R col Xs++h8 Ab col x),.fz<|.str x,o8,o9,Oa,Mz,LU,LS]) ⟨_,_,_,_,_,_,by rw[show h8 (R.take 0) col x=[] from rfl,Fq];rfl⟩ ⟨rfl,.l .lst⟩ (λj r ε hj J'=>?_) λε' J'=>?_]
  ·let#[wT,he]:=J';subst he;let hr:=ET hj;let xm:=ET hi;let sub:∀ j,(bE R col Xs++h8 Ab col x).Sublist (bE R col<|ord.take (i+1)):=λj=>by rw[aQ hi,show bE R col b8n=bE R col Xs++h8 R col x by unfold bE;rw[GB];simp];show (List.Sublist.refl _).append (((IJ _ _).filter _).map _)
   let nd1:=O.ond.sublist<|IJ (i+1) ord;let ndb:=(gP (col:=col) O.key nd1).sublist<|(sub<|j+1).map (·.1);let ndj:=(gP (col:=col) O.key nd1).sublist<|(sub j).map (·.1);let rl:(bE R col Xs++h8 Ab col x).length<=1000:=Fs (sub j).length_le<|Fs (zN O.key nd1) (Fs O.Kv<|by decide);let inb:∀ k∈dW R x,(k,col k)∈bE R col (ord.take i)++h8 (R.take j) col x/\(col k).length=m:=λk hk=>by let#[uI]:=EW.mp hk;let#[ht,e]:=Fj.mp ht;let e:=Fv e;show#[FJ _<|Nt.mpr #[t,ht,O.up t ht i (by rw[e];show hi),1],O.len t ht]
   generalize hb:bE R col Xs++h8 Ab col x=b at rl ndj inb ⊢;let eb:r.2.1=x->bE R col Xs++h8 (R.take<|j+1) col x=b++[(r.1,col r.1)]:=λe=>by rw[<- hb,aQ hj];unfold h8;rw[Hs,EX,GC,if_pos<|EY e,FI];rfl
   let en:r.2.1≠x->bE R col Xs++h8 (R.take<|j+1) col x=b:=λe=>by rw[<- hb,aQ hj];unfold h8;rw[Hs,EX,GC,if_neg (by rw[F5 e];show nofun),List.filter_nil,GF,Fq]
   let r1:=eq_str (ε:=a1s) (ra:=rV 9) (rb:=rV 7) rfl rfl;let r2:=eq_str (ε:=a1s) (ra:=rV 7) (rb:=rC<|.str "h") rfl rfl;show#[lx,?_];by_cases c1:r.2.1=x
   ·rw[eb c1]at ndb;let nk:(.inl r.1:Dx)∉(b.map λr=>Os).map (·.1):=λz=>by rw[EZ]at z;let#[y,hy,e]:=EW.mp z;rw[EX]at ndb;show (FG.mp ndb).2.2 y.1 (Fc hy) r.1 Ė (Sum.inl.inj e)
    rw[eb c1];rw[EY c1]at r1;let put:∀ {Mz LU LS:Sl},[Sl.fz<|bn R,.fz<|aK ord,.fz<|aG pl,.fz<|.int m,.fz<|.int p,.fz<|rw fs,.ow<|KR (si (b.map λr=>D7) (.inl r.1)<|rw yx),.fz<|.str x,.fz<|.int r.1,.fz<|.str r.2.1,.fz<|.str r.2.2,Mz,LU,LS]=[Sl.fz<|bn R,.fz<|aK ord,.fz<|aG pl,.fz<|.int m,.fz<|.int p,.fz<|rw fs,.ow<|aG (b++[pL]),.fz<|.str x,.fz<|.int r.1,.fz<|.str r.2.1,.fz<|.str r.2.2,Mz,LU,LS]:=λ{_ _ _}=>by rw[dR nk,show aG (b++[pL])=KR (b.map _++[(.inl r.1,rw yx)]) from congrArg KR EX]
    let bl:(b.map λr=>Os).length<=1000:=by rw[EO];show rl
    let fx:=O.fix r hr;by_cases c2:r.1∈fs
    ·rw[if_pos c2]at fx;let r3:=gj (n:=false) (i:=r.1) (ks:=fs);rw[if_neg FC,EY c2]at r3;show#[_,.t mK #[1,bl,.z (d:=rw yx) (by rw[fx,show rw b2J=.lst b2K from congrArg D.lst List.map_replicate];show#[nK,1,.mk O.m1]),1,kI],nv,_,put]
    ·rw[if_neg c2]at fx;let r3:=gj (n:=false) (i:=r.1) (ks:=fs);rw[if_neg FC,F5 c2]at r3;by_cases c3:x="h"
     ·rw[c1,if_pos c3]at fx;rw[EY c3]at r2;show#[_,.f mK<|.t Xg #[1,bl,.z (d:=rw yx) ?_,1,kI],_,_,_,_,_,_,put];rw[fx];show#[#[b0B,1],.s<|.sq .lst]
     ·rw[c1,if_neg c3]at fx;rw[F5 c3]at r2;show a2t mK<|a2t Xg (a6w r1 (t9 (ε1:=[.fz<|bn R,.fz<|aK ord,.fz<|aG pl,.fz<|.int m,.fz<|.int p,.fz<|rw fs,.ow<|aG b,.fz<|.str x,.fz<|.int r.1,.fz<|.str r.2.1,.fz<|.str r.2.2,.ow<|rw mi,LU,LS]) (.mk (d:=rw mi) (by rw[show rw b2J=.lst b2K from congrArg D.lst List.map_replicate];show#[nK,1,.mk O.m1])) ?_));show a2r ((bF pl r.1).zip<|dW R x) (u:=λz=>.tup EB) (λrow ε=>row.length=m/\∃ LU LS,ε=[.fz<|bn R,.fz<|aK ord,.fz<|aG pl,.fz<|.int m,.fz<|.int p,.fz<|rw fs,.ow<|aG b,.fz<|.str x,.fz<|.int r.1,.fz<|.str r.2.1,.fz<|.str r.2.2,.ow<|rw row,LU,LS]) zh (b:=List.replicate m 0) #[by simp,Qc] #[_,_,#[b0B,#[#[3],.mk<|Fs O.Kv (by decide)],1],fY _ _] (λrow z ε hz h=>?_) λε' h=>?_
      ·let#[hl,LU,LS,1]:=h;let#[z1,z2]:=HH hz;let#[k1,k2]:=inb z.2 z2;let zb:=O.pz r hr z.1 z1;show#[_,#[_,3],_,.mk (l:=wq m p col row z) (c6 (xs:=List.range m) (u:=λ(j:Nat)=>.int (j:Int)) (h:=λj=>.int<|(row.getD j 0+z.1 * (col z.2).getD j 0) % p) ⟨m,O.m1,⟨rfl,rfl⟩,(bo _).symm⟩ (by rw[G9];show O.m1) (λj hj=>EH)<|Fl.rt.inj WO) rfl,by unfold wq;rw[EO,G9],.fz<|.int z.1,.fz<|.int z.2,1];let hj:=FW.mp hj;show#[#[ko,#[1,#[#[2,.k (lT ndj k1) kI],1,.l .lst<|cH #[]],D0],.i],1,#[O.p0]]
      ·let#[hl,LU,LS,1]:=h;rw[<- fx];show#[_,#[_,2,bl,.z rfl,1,kI],nv,_,put]
   ·rw[F5 c1]at r1;rw[en c1];show#[_,.f (.f r1)<|.f (.f r1) z4,_,_,_,_,_,_,1]
  ·let#[wT,he]:=J';subst he;rw[FE];show#[.fz<|.str x,o8,o9,Oa,Mz,LU,LS,?_];rw[aQ hi,show bE R col b8n=bE R col Xs++h8 R col x by unfold bE;rw[GB];simp]
 ·let#[xb,Cg,he]:=J';rw[FE]at he;subst he;show#[2]
def a0h (h1:xs.length=n)(h2:ys.length=n):((List.range n).map λi=>xs.getD i 0 * ys.getD i 0).sum=Mx.dot xs ys:=by
 rw[<- gr];congr 1;show Ih λi=>?_;by_cases c:i<n
 ·simp_all
 ·simp_all
def b0P (h:i<t.length):(Mx.col t j).getD i 0=(t.getD i []).getD j 0:=by
 unfold Mx.col
 simp_all
inductive m8:Ä
 |mk {T ř:Θ}{m:Nat}{p:Int}:lr p ř T m->m<=100->ř.length<=1000->(∀ r∈ř,r.length=m)->0<p->p<=1000000->m8 [tb T,tb ř,DC] Ţ
def a6n [Bx:Bd](hn)(T:pJ Bx.mg):Tk 2 "_law_reads" (top 100) ó (Pr m8):=by
 show KS ["_law_k",c2m,"_law_made"] ?_ λ_ _ _ _ _ _ _ hr ND=>(qC (qI (dT iH pe AJ<|Đ 2)
  DT
  q0)
 (qC (qL F9 rfl (iE rfl T.Lg<|da (Đ 0) JC) (bY Bx.K rfl<|af DI (af nA aF)) (de Bx.K [4,5])
  (qC (qI (dT iH pe (cw T.JX<|Đ 5)<|cw T.JX (Đ 1))
  DT
  q0)
 (q1 (qL F9 rfl v3 Eu (aD 6)
  (qC (qs 7 ND (dO bJ Mv (dB b1E (rf rfl) rfl T.Uq a0f (da (dL 0 rfl (cS 1 [1,5,6] ["_law_i","_law_rows_here",c2m]) (Th rfl T.K8<|da sD JC)
  ē
  MO
  (λ_ _ _ _ _=>dO cq Mv (Kh hr (Đ 2)<|Đ 0)<|Kh hr jw (Đ 3))) JC))<|Đ 3))
 (q1 (qI (dT iH pe (Đ 7)<|UU a3M b3P rfl T.Us boot_int (da (dM bc cv (Đ 4)<|Đ 6) JC))
  DT
  q0)))))))
 DT))
 rintro _ _ @⟨T,ř,m,p,R,hm,hl,hw,p0,p1⟩;let r1:=ne_int (ε:=[some<|tb T,some<|tb ř,some<|.int m,some<|.int p,none,none,none,none]) (ra:=rF LD<|rA (rV 0) OH) (rb:=rV 2) ⟨⟨rfl,rfl⟩,LD.m⟩ rfl;rw[F5 (by rw[R.len];show λz=>z rfl)]at r1;show .nx z4 ?_;show bX T.zipIdx (u:=λz=>.tup [.int (z.2:Int),rw z.1]) (λi ε=>∃ o4 o5 o6 o7,ε=[.fz<|tb T,.fz<|tb ř,.fz<|.int m,.fz<|.int p,o4,o5,o6,o7]) ⟨_,_,_,_,rfl⟩ ⟨_,⟨rfl,rfl⟩,?_⟩ (λi z ε hi J'=>?_) λε J'=>by let#[xb,he]:=J';subst he;show#[2]
 ·rw[List.zipIdx_map,EZ];rfl
 ·let#[o4,An,he]:=J';subst he;rw[List.getElem?_zipIdx]at hi;let#[l,h1,1]:=FO.mp hi;let km:=(ES.mp h1).1;rw[R.len]at km;let lm:=ET h1;let lw:=R.Ob l lm;let eD:T.getD i []=l:=by rw[EU,h1];rfl
  show#[lx,t9 (ε1:=[.fz<|tb T,.fz<|tb ř,.fz<|.int m,.fz<|.int p,.fz<|.int ((0+i:Nat):Int),.fz<|rw l,o6,o7]) ?_ ?_]
  ·let r2:=ne_int (ε:=[some<|tb T,some<|tb ř,some<|.int m,some<|.int p,some<|.int ((0+i:Nat):Int),some<|rw l,o6.a,o7.a]) (ra:=rF LD<|rA (rV 5) OH) (rb:=rF LD<|rA (rV 1) OH) ⟨⟨rfl,rfl⟩,LD.m⟩ ⟨⟨rfl,rfl⟩,LD.m⟩;rw[F5 (by rw[lw];show λz=>z rfl)]at r2;show .f r2 rfl
  ·show vH cV (u:=λ(j:Nat)=>.int (j:Int)) (λj ε=>∃ o6 o7,ε=[.fz<|tb T,.fz<|tb ř,.fz<|.int m,.fz<|.int p,.fz<|.int ((0+i:Nat):Int),.fz<|rw l,o6,o7]) ⟨_,_,rfl⟩ ⟨m,#[],⟨rfl,rfl⟩,(bo _).symm⟩ (λj x ε hj J'=>?_) fun ε' ⟨o6,o7,he⟩=>#[xb,he]
   let#[x8]:=J';subst he;let#[1,jm]:=fR hj;let on:=R.ones i j km jm;rw[eD]at on;let es:=a0h (n:=ř.length) (xs:=l) (ys:=Mx.col ř j) lw (by unfold Mx.col;rw[EO]);show#[_,1,_,.nx (.mk (d:=.int<|Mx.dot l (Mx.col ř j) % p) ⟨⟨⟨aZ (xs:=List.range ř.length) (u:=λ(i:Nat)=>.int (i:Int)) (h:=λi=>.int<|l.getD i 0 * (Mx.col ř j).getD i 0) ⟨ř.length,hl,⟨⟨⟨rfl,rfl⟩,LD.m⟩,rfl⟩,(bo _).symm⟩ (by rw[G9];show hl) λy hy=>EH,rfl⟩,?_⟩,rfl,#[p0]⟩) (.f ?_ rfl),Qc]
   ·let hy:=FW.mp hy;let lz:=R.fit l lm (l.getD y 0)<|dj #[];rw[b0P hy];show#[ko,#[#[2,.l .lst<|tK hy],1,.l .lst<|cH (by rw[hw _<|dj hy];show jm)],D0]
   ·rw[<- es,show D.lst (List.map (λi=>D.int<|l.getD i 0 * (Mx.col ř j).getD i 0)<|List.range ř.length)=rw ((List.range ř.length).map λi=>l.getD i 0 * (Mx.col ř j).getD i 0) from (Fl.rt.inj<|Ql _ _).symm];show .mk rfl
   ·let r3:=ne_int (ε:=[some<|tb T,some<|tb ř,some<|.int m,some<|.int p,some<|.int ((0+i:Nat):Int),some<|rw l,some<|.int j,some<|.int (Mx.dot l (Mx.col ř j) % p)]) (ra:=rV 7) (rb:=rF b2t<|rA (rO rS yT<|rV 6) OH) (j:=if decide (((0+i:Nat):Int)=(j:Int))=true then 1 else 0) rfl #[#[eq_int rfl rfl,1],.b];rw[F5]at r3
    ·show r3
    ·rw[on];show λz=>z ?_;by_cases e:i=j
     ·subst e;rw[if_pos rfl,if_pos<|by simp]
     ·rw[if_neg e,if_neg (by simp;lia)]
inductive a6M:Ä
 |mk {R:List LT}{wo:Ξ}{x:Str}{q:Str->Bool}:R.length<=20->q "h"=true->(∀ r∈R,r.1∉wo->q r.2.1=true->q r.2.2=true)->q x=false->a6M [bn R,rw wo,.str x] PP
def b1x [Bx:Bd](T:pJ Bx.mg):Tk 1 "_law_leads" (top 101) ["_law_ties","_law_without","_law_name"] (Pr a6M):=by
 show KS ["_law_seen","_law_turn","_law_number",c0D] ?_ λ_ _ _ _ _ _ _ hr ND=>(qC (qo 3 ND<|bV (da bO JC))
 (qC (qL F9 rfl (Th rfl T.K8<|da AJ JC) DI (aD 4)
  (q1 (Px F9 rfl ż (bY Bx.K rfl<|af nA (af Eu<|af m9 aF)) (de Bx.K [5,6,7])
  (q1 (qI (PW.pt<|kF (Sn C3 (Đ 5)<|Đ 1) (kF (Va C3 (Đ 6)<|Đ 3)<|c7 (Sn C3 (Đ 7)<|Đ 3)))
  a3i
  q0)))))
 (qr<|dIn C3 (Đ 2) (Đ 3))))
 rintro _ _ @⟨R,wo,x,q,rl,hh,hq,hx⟩;show .nx #[nK] ?_;show bX (List.range R.length) (λi ε=>∃ seen o4 o5 o6 o7,ε=[.fz<|bn R,.fz<|rw wo,.fz<|.str x,.ow<|aK seen,o4,o5,o6,o7]/\(∀ y∈seen,q y=true)/\seen.length<=1+i * R.length) ⟨["h"],_,_,_,_,rfl,λy hy=>by rw[Fo.mp hy];show hh,by simp⟩ #[R.length,#[],#[rG,1],(bo _).symm] (λi z ε hi h=>?_) λε h=>?_
 ·let#[seen,o4,oU]:=h;let#[1,il]:=fR hi;let ib:i * R.length<=20 * 20:=IH #[] rl;show#[_,1,vH R (λj ε=>∃ seen o5 o6 o7,ε=[.fz<|bn R,.fz<|rw wo,.fz<|.str x,.ow<|aK seen,.fz<|.int i,o5,o6,o7]/\(∀ y∈seen,q y=true)/\seen.length<=1+i * R.length+j) ⟨seen,_,_,_,rfl,hs,sl⟩ ⟨rfl,.l .lst⟩ (λj r ε hj h=>?_) λε' h=>?_]
  ·let#[seen,oU]:=h;let jl:=(ES.mp hj).1;let n1:=gj (n:=true) (i:=r.1) (ks:=wo);let n2:=eY (n:=false) (i:=r.2.1) (ks:=seen);let n3:=eY (n:=true) (i:=r.2.2) (ks:=seen);rw[if_pos rfl]at n1 n3;rw[if_neg FC]at n2;show#[lx,?_];by_cases c1:r.1∈wo
   ·rw[EY c1]at n1;show#[_,.f (.f #[2,n1]) rfl,c1o]
   ·rw[F5 c1]at n1;by_cases c2:r.2.1∈seen
    ·rw[EY c2]at n2;by_cases c3:r.2.2∈seen
     ·rw[EY c3]at n3;show#[_,.f b0C rfl,c1o]
     ·rw[F5 c3]at n3;show#[_,.t b0C #[1,by simp;lia,.z rfl],seen++[r.2.2],.fz<|.int r.1,.fz<|.str r.2.1,.fz<|.str r.2.2,?_,λy hy=>?_,by simp;lia]
      ·rw[show aK (seen++[r.2.2])=.lst (seen.map .str++[.str r.2.2]) from congrArg D.lst EX];rfl
      ·rcases Fx.mp hy with h|h
       ·show hs y h
       ·rw[Fo.mp h];show hq r (ET hj) c1 (hs _ c2)
    ·rw[F5 c2]at n2;show#[_,.f (.t #[2,n1]<|.f #[2,n2]) rfl,c1o]
  ·let#[seen,oU]:=h;show#[seen,_,_,_,_,1,hs,by rw[Im];lia]
 ·let#[seen,o4,oU]:=h;let n2:=eY (n:=false) (i:=x) (ks:=seen);rw[if_neg FC,F5 λz=>by rw[hs x z]at hx;cases hx]at n2;show#[#[2,n2],1]
def b2d (ch):∀ (nums:Ξ)(b:Θ),nums.foldl zB b=b++(nums.filter (okN ch)).map λn=>ch++[n]:=by
 intro r'
 induction r' with
 | nil=>
  intro b;simp
 | cons n ns ih'=>
  intro b;rw[GU,ih',GC];unfold lR
  grind
def b9y (nums):∀ (ç b:Θ),ç.foldl wZ b=b++ç.flatMap λch=>(nums.filter (okN ch)).map λn=>ch++[n]:=by
 intro r'
 induction r' with
 | nil=>
  intro b;simp
 | cons ch cs ih'=>
  intro b;rw[GU,ih',b2d,Hy,FI]
def C5 (nums):fB nums 1=nums.map λn=>[n]:=by change bS [[]] nums=_;unfold bS;rw[b9y,Gp,Hy,List.flatMap_nil,Fq,show nums.filter (okN [])=nums from Jk.mpr λn _=>rfl];rfl
theorem fT (nums ms:Ξ):Θ:=ms.flatMap λa=>(nums.filter λb=>decide (a<b)).map λb=>[a,b]
def a1e (nums):fB nums 2=fT nums nums:=by change bS _ nums=_;rw[C5];unfold bS fT;rw[b9y,Gp,List.flatMap_map];rfl
def kh (nums):∀ ms:Ξ,(fT nums ms).length<=ms.length * nums.length:=by
 intro r'
 induction r' with
 | nil=>
  show FV _
 | cons a ms ih'=>
  let:=ih';let h2:=FD (λb=>decide (a<b)) nums;unfold fT at this ⊢;rw[Hy,Fb,EO,FU,Im];omega
inductive iB:Ä
 |mk {R:List LT}{k:Nat}:R.length<=20->1<=k->k<=2->iB [bn R,.int k] (tb (cK (R.map (·.1)) k))
def Rea [Bx:Bd]:Tk 2 "_law_choices" (top 102) b2L (Pr iB):=by
 show KS ["_law_numbers","_law_found","_law_one"] ?_ λ_ _ _ _ _ _ _ hr ND=>(qC (Vb (n:=0) (b5 (i:=2) ND rfl rfl rfl (cS 1 [] ["_law_tie"]) ż
  ē
  MO
  Pi) rfl)
 (qC (qs 3 ND (Q5 (bV<|da (bV JC).p JC).p (Pd 0 rfl (cS 1 [] ["_law_number"]) CB
  ē
  MO
  (λ_ _ _ _ _=>(bV<|da (Đ 0) JC).p))))
 (qC (qI (dT jt cF (Đ 1) dI)
  (q1 (Px F9 rfl CB DI (aD 4)
  (q1 (qs 3 ND (Q5 (Đ 3) (Pd 0 rfl (cS 1 [4] ["_law_other","_law_one"]) CB
  ē
  (λ_ _ _ _ _=>cD<|dT jt cF (Đ 0) (Đ 1))
  (λ_ _ _ _ _=>(bV<|da (Đ 1) Ŗ).p)))))))
  q0)
 ug)))
 rintro _ _ @⟨R,k,hl,k1,hk⟩;show .nx (.mk<|c6 ⟨rfl,.l .lst⟩ #[] (λr _=>Cr) (Fl.rt.inj<|Ql (λr:LT=>r.1) _)) ?_;let nl:(R.map (·.1)).length<=20:=by rw[EO];show hl
 generalize R.map (·.1)=nums at nl;let r2:=gt_int (ε:=[some<|bn R,some<|.int k,some<|rw nums,some<|tb (cK nums 1),none]) (ra:=rV 1) (rb:=rC<|.int 1) rfl rfl;show .nx (.mk (d:=tb<|cK nums 1) ?_) ?_
 ·rw[show cK nums 1=[[]]++fB nums 1 from rfl,C5,show tb ([[]]++nums.map λn=>[n])=.lst ([D.lst []]++(nums.map λn=>.lst M1)) by rw[show tb _=.lst XH from rfl,EX,EZ];rfl]
  show#[#[#[#[1,pb],1],pb],aZ yc #[] λn _=>#[_,1,#[2],pb],.l (by simp;lia)]
 ·by_cases k2:k=1
  ·subst k2;rw[show decide ((1:Int)<((1:Nat):Int))=false from rfl]at r2;show .nx (.f r2 rfl) #[2]
  ·obtain rfl:k=2:=#[]
   rw[show decide ((1:Int)<((2:Nat):Int))=true from rfl]at r2;let cl:(cK nums 1).length<=21:=by rw[show cK nums 1=[[]]++fB nums 1 from rfl,C5];simp;lia
   obtain⟨ε',h1,h2⟩:∃ ε',jr (Wo<|rV 2) (λd ε ε'=>ε'=ε.set 4 (.fz d)) (Bw 3<|rO Ds Aa (rL 0 [4] (Wo<|rV 2) (λε b=>rO a8J rq qv ε<|.bl b)<|rDs .lst (rA qv<|rA rq OH))) [.fz<|bn R,.fz<|.int (2:Nat),.fz<|rw nums,.fz<|tb (cK nums 1),.un] sC/\∃ o4,ε'=[.fz<|bn R,.fz<|.int (2:Nat),.fz<|rw nums,.fz<|tb (cK nums 1++fT nums nums),o4]:=by
    show vH nums (λi ε=>∃ o4,ε=[.fz<|bn R,.fz<|.int (2:Nat),.fz<|rw nums,.fz<|tb (cK nums 1++fT nums (nums.take i)),o4]) ⟨_,by rw[show fT nums (nums.take 0)=[] from rfl,Fq]⟩ ⟨rfl,.l .lst⟩ (λi x ε hi J'=>?_) λε' J'=>by let#[o4,he]:=J';show#[o4,by rw[FE]at he;show he]
    let#[o4,he]:=J';subst he;show#[_,1,_,.mk ?_,.fz<|.int x,1];rw[aQ hi,show fT nums (nums.take i++[x])=fT nums (nums.take i)++(nums.filter λb=>decide (x<b)).map λb=>[x,b] by unfold fT;rw[GB];simp,<- FI,show tb (cK nums 1++fT nums (nums.take i)++(nums.filter λb=>decide (x<b)).map λb=>[x,b])=.lst ((cK nums 1++fT nums (nums.take i)).map rw++(nums.filter λb=>decide (x<b)).map λb=>.lst [.int x,.int b]) by rw[show tb _=.lst XH from rfl,EX,EZ];rfl]
    show#[1,bv (λb=>decide (x<b)) yc #[] λb _=>#[_,1,gt_int rfl rfl,λ_=>uN],.l ?_];let p1:=kh nums<|nums.take i;let p2:=FD (λb=>decide (x<b)) nums;let p3:(nums.take i).length * nums.length<=20 * 20:=IH (by rw[Fd];lia) nl;rw[EO,EO,Fb]
    lia
   let#[o4,1]:=h2;show .nx (.t r2 h1) #[1,?_];rw[show cK nums 2=cK nums 1++fB nums 2 from rfl,a1e]
abbrev bI (n:D)(R:List LT)(ord:η)(m:Nat)(p:Int):D:=KR [(.inr "net",n),b7C,(.inr "order",aK ord),b6d,b5E]
theorem oR (R)(col)(g:Str):Θ:=(dW R g).map col
structure b3h (R:List LT) (ord:η) (pl:List bf) (m:Nat) (p:Int) (chs:Θ) (gs:η) (col:List Int->Int->Ξ):Prop where
 rows:∀ ch∈chs,kL R ord pl m p ch lq
 st:∀ r∈R,r.2.1∈ord
 m1:m<=100
 p1:p<=1000000
 c1:chs.length<=1000
 g1:gs.length<=1000
 gnd:gs.Nodup
section
variable {col:List Int->Int->Ξ}
def a8r (O:kL R ord pl m p ch lq)(g:Str):(dW R g).length<=100:=by let:=FD (λr:LT=>decide (r.2.2=g)) R;let:=O.Kv;unfold dW;rw[EO];lia
def DK (O:kL R ord pl m p ch lq)(st:∀ r∈R,r.2.1∈ord)(hk:k∈dW R g):cy ((bE R lq ord).map λr=>D7) tU=!rw (col ch k):=by let#[uI]:=EW.mp hk;let#[ht,e]:=Fj.mp ht;show lT (gP O.key O.ond) (Nt.mpr #[t,ht,st t ht,1])
def Bb (O:kL R ord pl m p ch lq):∀ r∈oR R lq g,r.length=m:=λr hr=>by let#[k,hk,1]:=EW.mp hr;let#[uI]:=EW.mp hk;show O.len t (Fj.mp ht).1
universe e
section
variable {c:Cl}
inductive tW (c:Cl):Ä
 |mk {S:NS}{R:List LT}{ord:η}{pl:List bf}{m:Nat}{p:Int}{chs:Θ}{col:List Int->Int->Ξ}{J:List Int->Str->D}:S.JD.length<=1000->b3h R ord pl m p chs S.JO col->(∀ ch∈chs,∀ g∈S.JO,∃ T,J ch g=tb T/\lr p (oR R lq g) T m)->tW c [bI sO R ord m p,aG pl,gK S.JO J chs] Ţ
def b5d [Bx:Bd](hn)(T:pJ Bx.mg)(Jw)(Nx)(QU:Kn 2 "_law_rows" æ (Pr b3f))(PY:Kn 2 "_law_reads" ó (Pr m8)):Tk 3 "_law_stood" (top 104) a8L (Pr (tW c)):=by
 show KS ["_law_choice","_law_tables",c1C,"_law_table","_law_into_here"] ?_ λ_ _ _ _ _ _ _ hr ND=>(qC (Px F9 rfl CB (bY Bx.K rfl<|af sE (af DI aF)) (de Bx.K [3,4])
  (qC (qs 5 ND<|dF QU hr.m rfl (da Ľ<|da Ľ (da (Đ 1)<|da Ľ (da Ľ<|da (Đ 3) JC))))
 (qC (qI (dT (b9k<|At hr) c1w (UU hX pP rfl T.NO boot_list<|da (Đ 4) JC)<|eI Ľ Jw hr.m)
  DT
  q0)
 (q1 (qLi F9 rfl (c3r<|Đ 4) b0f (de Bx.K [6,7])
  (qC (Vb (n:=0) (b5 (i:=8) ND rfl rfl rfl (cS 1 [5] ["_law_number","_law_rows_here"]) (ar<|dF Nx hr.m rfl (da Ľ<|da (Đ 6) JC))
  ē
  MO
  Fr) rfl)
 (q1 (qI (CO<|dV (cC<|dF PY hr.m rfl (da (Đ 7)<|da (Đ 8) (da Ľ<|da Ľ JC))))
  DT
  q0))))))))
 DT)
 rintro _ _ @⟨S,R,ord,pl,m,p,chs,col,J,pz,W,hT⟩;let f2:=fL.s (n:=true) (as:=S.JO) (bs:=S.JO);rw[EY rfl]at f2;show ?_;show bX chs (u:=λch=>.tup [rw ch,kR S.JO<|J ch]) (λi ε=>∃ o3 o4 o5 o6 o7 o8,ε=[.fz<|bI sO R ord m p,.fz<|aG pl,.fz<|gK S.JO J chs,o3,o4,o5,o6,o7,o8]) ⟨_,_,_,_,_,_,rfl⟩ ⟨rfl,.l .lst⟩ (λi ch ε hi J'=>?_) λε J'=>by let#[nv,_,he]:=J';subst he;show#[2]
 let#[o3,o4,nq]:=J';subst he;let hc:=ET hi;let O:=W.rows ch hc;let hk:D.lst ((S.JO.map λg=>b5F).map pK)=aK S.JO:=congrArg D.lst (by rw[EZ];rfl);let hk2:=ZJ.k (ð:=S.JO.map λg=>b5F);rw[hk]at hk2;show#[lx,t9 (ε1:=[.fz<|bI sO R ord m p,.fz<|aG pl,.fz<|gK S.JO J chs,.fz<|rw ch,.fz<|kR S.JO YM,.fz<|aG (bE R (col ch) ord),o6,o7,o8]) ⟨⟨⟨rfl,rfl,.k rfl kS⟩,⟨rfl,rfl,.k rfl kS⟩,rfl,⟨rfl,rfl,.k rfl kS⟩,⟨rfl,rfl,.k rfl kS⟩,rfl,rfl⟩,.mk O⟩ (t9 (.f ⟨⟨⟨rfl,rfl⟩,hk2⟩,⟨⟨rfl,rfl,.k rfl kS⟩,rfl,by decide,⟨pz⟩⟩,f2⟩ rfl) ?_)];show vH S.JO (u:=λg=>pI2 (.inr g,J ch g)) (λi ε=>∃ o6 o7 o8,ε=[.fz<|bI sO R ord m p,.fz<|aG pl,.fz<|gK S.JO J chs,.fz<|rw ch,.fz<|kR S.JO YM,.fz<|aG (bE R (col ch) ord),o6,o7,o8]) ⟨_,_,_,rfl⟩ ⟨rfl,by rw[EZ];rfl⟩ (λj g ε hj J'=>?_) λε' J'=>by let#[uL]:=J';show#[nv,_,he]
 let#[uL]:=J';subst he;let hg:=ET hj;let#[T,eT,hR]:=hT ch hc g hg;let il:=a8r O g;show#[_,#[_,3],_,.nx (.mk (d:=tb<|oR R lq g)<|c6 (xs:=dW R g) (u:=.int) (h:=λk=>rw (col ch k)) #[#[#[qj,2],.mk<|Fs O.Kv (by decide)],.l .lst] #[] (λk hk=>#[_,3,.k (DK O W.st hk) kI]) (Fl.rt.inj<|tbm (λk=>col ch k) _))<|.f #[#[2,qj,qj,1],?_] rfl,_,_,_,1];change m8 [J ch g,Cg] _;rw[eT];show .mk hR W.m1 (by unfold oR;rw[EO];lia) (Bb O) O.p0 W.p1
universe e
open L2.Wy
section
variable {c:Cl}{C aC aS:Addr}
abbrev d7 (S:NS)(n:Nat):Θ:=cK (S.Jy.map (·.1)) n
inductive Z3 (c:Cl) (aC:Addr):List D->Er->Prop
 |mk {S:NS}{m N n:Nat}{p:Int}{ks:Ξ}{g:Str}{ns:Ξ}:My.LV p=true->p<=1000000->cI c rD (tb zX)->(d7 S n).length<=1000->(∀ ks∈d7 S n,QY S (!ks) N)->wv S m N zX ks g ns->S.JD.length<=1000->1<=m->m<=1000->m * N+N<=1000->Z3 c aC kx (aC,CV ks g ns)
def v7 [Bx:Bd](F:KD Bx.K "plan_for" "plan_for" iG f fd)(Kk)(Ko)(JV:AD 5 "ways_by_choice" è (V4 (zm c aC))):PH kM 7 f fd á (V4 (Z3 c aC)):=by
 let ND:=KO.nd;show KD.dvE F KO ?_ λJE A outer s H E hr=>(xC a31
 (xC a3n
 (x1<|c1e (pS 6 ND<|uH b6l JV hr.m rfl b2M))))
 rintro _ _ @⟨S,m,N,n,p,ks,g,ns,hP,p1,R,hc,O,W,hp,RV,hm,hz⟩;show#[1,.mk Ef<|.mk #[#[3],R] #[#[4],#[hc,O,W,hp,RV,hm,hz]]]
inductive y6 (c:Cl) (aS:Addr):List D->Er->Prop
 |mk {S:NS}{m N n:Nat}{p:Int}:My.LV p=true->p<=1000000->cI c rD (tb zX)->(d7 S n).length<=1000->a7r->S.JD.length<=1000->1<=m->m<=1000->m * N+N<=1000->p<(S.JO.length * (d7 S n).length:Int) ->
  y6 c aS kx (aS,[("needed",.int (S.JO.length * (d7 S n).length))])
def mG [Bx:Bd](hn)(F:KD Bx.K "plan_for" "plan_for" iG f fd)(T:jO Bx.mg)(Kk)(Ko)(JV)(Jw)(MJ:CM 1 "SmallPrime" aS ý (Zd aS λl fs=>∃ i:Int,l=uf/\fs=(uJ:List (Str×D)))):PH kM 7 f fd á (V4 (y6 c aS)):=by
 let ND:=KO.nd;show KD.dvE F KO ?_ λJE A outer s H E hr=>(xC a31
 (xC a3n
 (xC (qS (pS 6 ND<|dF JV hr.m rfl (da (Đ 0)<|da (Đ 1) (da (Đ 5) JC))) λ_ _ _ h=>h)
 (xC (qS (pS 7 ND<|dO cq Mv b1K (cw T.JX<|Đ 5)) λ_ _ _ h=>h)
 (x1<|b0K b4t (x1<|a5x lV rfl b3n rfl MJ hr.m P3))))))
 rintro _ _ @⟨S,m,N,n,p,hP,p1,R,hc,O,hp,RV,hm,hz,hl⟩;let ll:S.JO.length<=1000:=by unfold NS.JO;rw[EO];show Fs nj hp
 let rd:=lt_int (ε:=a1h) (ra:=rV 2) (rb:=rV 7) rfl rfl;rw[EY hl]at rd;show#[1,.mk Ef<|.mk #[#[3],R] (.mk b1L<|.mk a7C (.t rd<|.mk #[2] #[_,2] (by change 1<=1000;decide)))]
inductive Db (c:Cl) (C:Addr) (Rm:Ä):Ä
 |mk {S:NS}{m N n:Nat}{p:Int}{d:D}:My.LV p=true->p<=1000000->cI c rD (tb zX)->(d7 S n).length<=1000->a7r->S.JD.length<=1000->1<=m->m<=1000->m * N+N<=1000->(S.JO.length * (d7 S n).length:Int)<=p ->
  Rm [kr,tb zX,Q6 ((d7 S n).map (aN S N m))] d->Db c C Rm kx d
def E3 [Bx:Bd](F:KD Bx.K "plan_for" "plan_for" iG f fd)(T:jO Bx.mg)(Kk)(Ko)(JV)(Jw)(Nj:Kn 6 "made_plan" ò (Pr Rm)):PH Ld 7 f fd á (Pr (Db c C Rm)):=by
 let ND:=KO.nd;show KD.dv F KO ?_ λJE A outer s H E hr=>(qC (qs 4 ND<|AF Kk hr.m rfl ţ)
 (qC (qs 5 ND<|dF Ko hr.m rfl b25)
 (qC (qs 6 ND<|dF JV hr.m rfl b2M)
 (qC (qs 7 ND<|dO cq Mv b1K (cw T.JX<|Đ 5))
 (qC (qI b4t
  wL
  q0)
 (qr<|dF Nj hr.m rfl (da (Đ 0)<|da (Đ 1) (da (Đ 4)<|da (Đ 5) (da (Đ 6) JC)))))))))
 rintro _ _ @⟨S,m,N,n,p,d,hP,p1,R,hc,O,hp,RV,hm,hz,hl,M⟩;let ll:S.JO.length<=1000:=by unfold NS.JO;rw[EO];show Fs nj hp
 let rd:=lt_int (ε:=a1h) (ra:=rV 2) (rb:=rV 7) rfl rfl;rw[F5<|by lia]at rd;show#[1,.inl<|.nx Ef (.nx #[#[3],R]<|.nx b1L (.nx a7C<|.nx fH #[#[#[6],M],1]))]
universe e
def xG:∀ (n:Nat)(xs:List α)(I:Õ){ε:Ev},I 0 ε->xs[n]?=!x->a7p->
  (∀ ε,I n ε->∃ ε1,q (u x) ε ε1/\rb ε1 AR)->jU q rb ε mr AR
 | 0,y::xs,I,ε,h0,hx,_,fin=>by cases hx;let#[ε1,a,b]:=fin ε h0;show .ret a b
 | n+1,y::xs,I,ε,h0,hx,k,fin=>by let#[ε1,a,ε2,b,c]:=k 0 y ε b8V rfl h0;show .next a b (xG n xs (λi=>I<|i+1) c hx (λi y ε hi hy h=>k (i+1) y ε b5t hy h) fin)
section
variable {c:Cl}
inductive Dh (c:Cl):Ä
 |mk {S:NS}{R:List LT}{ord:η}{m N:Nat}{p:Int}{chs:Θ}{ks ns:Ξ}{g:Str}{q:Str->Bool}:wv S m N chs ks g ns->(∀ ks∈chs,QY S (!ks) N)->S.JD.length<=1000->1<=m->m<=1000->m * N+N<=1000->ns.length<m->ks.length+ns.length<=1000->R.length<=20->q "h"=true->(∀ r∈R,r.1∉ks++ns->q r.2.1=true->q r.2.2=true)->q g=false->Dh c [bI sO R ord m p,c3c,rw ns] Ţ
set_option tactic.hygienic true in def pc [Bx:Bd](T:pJ Bx.mg)(Jw)(L8)(PZ:Kn 1 "_law_leads" ["_law_ties","_law_without","_law_name"] (Pr a6M)):Tk 5 "_law_cut_right" (top 103) é (Pr (Dh c)):=by
 show KS ["_law_listeners","_law_choice","_law_listener"] ?_ λ_ _ _ _ _ _ _ hr ND=>(qC (qs 5 ND<|eI Ľ Jw hr.m)
 (qC (qI (PW.pt<|dOr (dT (a0S<|At hr) a4X (Đ 2) (Đ 1)<|by with_unfolding_all rfl) (dOr (Sn (aJ hr) (Đ 3)<|Đ 5)<|mP (dT yH cF (cw T.JX<|Đ 4)<|Kh hr (Đ 0) bO)))
  (qr Qv)
  q0)
 (qC (qI (dV<|cC (dF PZ hr.m rfl<|da Ľ (da (Q5 (Đ 2)<|Đ 4)<|da (Đ 3) JC)))
  (qr Qv)
  q0)
 (qC (Px F9 rfl (ar<|W0 (Đ 1) VZ (VY<|Q5 (dIx (At hr) (Đ 1)<|Đ 2) dI)) (pN 6 ND) (aD 6)
  (q1 (Px F9 rfl (ar<|Đ 5) (pN 7 ND) (aD 7)
  (qC (qI (PW.pt<|kF (dT (a3K<|At hr) c0t (Đ 6)<|Đ 2) (c7<|dT bc cv (Đ 7) (Đ 3)))
  (qr Qv)
  q0)
 (q1 (qI (dT iH pe (Kh hr (dF L8 hr.m rfl<|da Ľ (da (Đ 7)<|da Ľ (da (UU hX (eA rfl) rfl T.NO boot_list<|da (Đ 6) JC) JC))) dI) bO)
  (qr Qv)
  q0))))))
 (qr Qv)))))
 rintro _ _ @⟨S,R,ord,m,N,p,chs,ks,ns,g,q,⟨hi,hg,ec,hb,ha⟩,O,pz,m1,m2,hz,nl,kl,rl,q1,q2,q3⟩;rename_i i0 n0;let hc:=ET hi;let hgm:=ET hg;let n1:=fNi.mk (a:=ks) (as:=chs);rw[EY hc]at n1;let n2:=eY (n:=true) (i:=g) (ks:=S.JO);rw[if_pos rfl,EY hgm]at n2;let nf:∀ i y,i<i0->chs[i]?=some y->y≠ks:=λi y h1 h2 e=>by let#[w,ew]:=ha i y h1 h2 g hgm;rw[e,ec]at ew;cases ew
 let ways:∀ y∈chs,∀ x∈S.JO,(∃ w,aV (aI S.Jy<|some y) Ħ x N m=.inr w)->rO (fE true) (rO Sub Ş<|rC (.int 0)) (rC<|.str "ways") [some<|bI (aA c S) R ord m p,some<|tb chs,some<|rw ks,some<|.str g,some<|rw ns,some<|aK S.JO,some<|rw y,some<|.str x] (.bl false):=λy hy x hx J'=>by let#[w,ew]:=J';let c1:=Ms.mk (c:=c) (O y hy) hx m1 m2 hz;rw[ew]at c1;let:=ne_str (ε:=[some<|bI (aA c S) R ord m p,some<|tb chs,some<|rw ks,some<|.str g,some<|rw ns,some<|aK S.JO,some<|rw y,some<|.str x]) (ra:=rO Sub Ş<|rC (.int 0)) (rb:=rC<|.str "ways") (x:="ways") #[#[#[#[2,.k rfl kS],1,#[2,.k rfl kS],#[#[2],.s<|.sq .lst],1],c1],1,.t rfl] rfl;rwa [F5<|by decide]at this
 show .nx #[#[2,.k rfl kS],1,by decide,#[pz]] (.nx (.f (.f #[2,n1] (.f #[2,n2] ?_)) rfl)<|.nx (.f #[#[#[2,.k rfl kS],#[2,.l ?_],2],?_] rfl) (.rt<|.mk #[#[1,.lst,1,#[#[#[2,hi,nf,1],1,.i]],1],?_] (xG (x:=ks) i0 (chs.take<|i0+1) (u:=rw) (λi ε=>∃ o6 o7,ε=[.fz<|bI (aA c S) R ord m p,.fz<|tb chs,.fz<|rw ks,.fz<|.str g,.fz<|rw ns,.fz<|aK S.JO,o6,o7]) ⟨_,_,rfl⟩ ?_ (λi y ε hi1 hy J'=>?_) λε J'=>?_)))
 ·let r3:decide ((m:Int)<=(ns.length:Int))=false:=F5 #[];rw[<- r3];show#[#[#[2],LD.m],#[2,.k rfl kS],#[trivial]]
 ·rw[EO,EO];lia
 ·rw[show D.lst (ks.map D.int++ns.map D.int)=rw (ks++ns) from congrArg D.lst EX.symm];show .mk rl q1 q2 q3
 ·rw[show ((i0:Nat):Int)+1=((i0+1:Nat):Int) from rfl,cu,<- Hv];show .l .lst
 ·rw[Gz<|by lia];show hi
 ·let#[o6,o7,he]:=J';subst he;let yi:chs[i]?=!y:=by rwa [Gz<|by lia]at hy
  let e1:=fL.r (n:=false) (as:=y) (bs:=ks);rw[F5<|nf i y hi1 yi]at e1;show⟨_,rfl,vH S.JO (u:=.str) (λj ε=>∃ o7,ε=[.fz<|bI (aA c S) R ord m p,.fz<|tb chs,.fz<|rw ks,.fz<|.str g,.fz<|rw ns,.fz<|aK S.JO,.fz<|rw y,o7]) ⟨_,rfl⟩ ⟨rfl,.l .lst⟩ (λj x ε hj J'=>?_) λε' J'=>(by let#[o7,he]:=J';show#[_,_,he])⟩;let#[o7,he]:=J';subst he;let xm:=ET hj;show#[_,1,_,.nx (.f (.f #[2,e1]) rfl)<|.f (ways y (ET yi) x xm<|ha i y hi1 yi x xm) rfl,_,1]
 ·let#[o6,o7,he]:=J';subst he;let e1:=fL.r (n:=false) (as:=ks) (bs:=ks);rw[EY rfl]at e1;show#[_,1,.mk #[1,.l .lst] (xG n0 S.JO (u:=.str) (λj ε=>∃ o7,ε=[.fz<|bI (aA c S) R ord m p,.fz<|tb chs,.fz<|rw ks,.fz<|.str g,.fz<|rw ns,.fz<|aK S.JO,.fz<|rw ks,o7]) ⟨_,rfl⟩ hg (λj x ε hj hx J'=>?_) λε J'=>?_)]
  ·let#[o7,he]:=J';subst he;let hw:=hb j x hj hx;let r1:=eq_str (ε:=[some<|bI (aA c S) R ord m p,some<|tb chs,some<|rw ks,some<|.str g,some<|rw ns,some<|aK S.JO,some<|rw ks,some<|.str x]) (ra:=rV 7) (rb:=rV 3) rfl rfl;rw[F5 λz=>by let#[w,e]:=hw;rw[z,ec]at e;cases e]at r1;show#[_,1,_,.nx (.f (.t #[2,e1] r1) rfl)<|.f (ways ks hc x (ET hx) hw) rfl,_,1]
  ·let#[o7,he]:=J';subst he;let r1:=eq_str (ε:=[some<|bI (aA c S) R ord m p,some<|tb chs,some<|rw ks,some<|.str g,some<|rw ns,some<|aK S.JO,some<|rw ks,some<|.str g]) (ra:=rV 7) (rb:=rV 3) rfl rfl;rw[EY rfl]at r1;show#[_,1,.rt<|.t (.t #[2,e1] r1) #[2]]
universe e
def b16 (f:Nat->Int)(h:j<m):((List.range m).map f).getD j 0=f j:=bL (by rw[F7,Hh h];rfl)
def a83:∀ (l:List (Int×Int))(b:Ξ),b.length=m->(∀ j,j<m->b.getD j 0 % p=b.getD j 0)->l.foldl zh b=(List.range m).map λj=>(b.getD j 0+(l.map λz=>z.1 * (col z.2).getD j 0).sum) % p:=by
 intro r'
 induction r' with
 | nil=>
  intro b hb h;show (Mx.LH b m hb).symm.trans (FA λj hj=>?_);rw[GF,List.sum_nil,Int.add_zero,h j<|FW.mp hj]
 | cons z l ih'=>
  intro b hb h;rw[GU,ih' _ (by unfold wq;simp) λj hj=>by unfold wq;rw[b16 _ hj,Int.emod_emod]];show FA λj hj=>?_;unfold wq;rw[b16 _<|FW.mp hj,Int.emod_add_emod,Fh,List.sum_cons,Int.add_assoc]
def a1x:∀ {l:List α}{x:α},l.find? p=!x->∃ i:Nat,l[i]?=!x/\(∀ j y,j<i->l[j]?=!y->p y=false)/\p x=true:=by
 intro l
 induction l with
 | nil=>intro x h;cases h
 | cons y l ih=>
  intro x h;rw[Hl]at h
  cases hy:p y with
  | true=>rw[hy]at h;cases h;show#[(0),1,λj y h=>absurd h<|Jh _,hy]
  | false=>
   rw[hy]at h;let#[i,zr]:=ih h;show#[i+1,h1,λj z hj hz=>?_,h3]
   cases j with
   | zero=>cases hz;show hy
   | succ j=>show h2 j z #[] hz
section
variable {S:NS}{p:Int}{m:Nat}{pl:List bf}
theorem pG (S:NS)(p)(pl:List bf)(m)(ch)(k:Int):Ξ:=cZ p EQ (!ch) gb m k
def WN.key (W:WN S "h" ord R):(R.map (·.1)).Nodup:=W.ln.asc.imp λz=>Int.ne_of_lt z
def WN.Ud (W:WN S "h" ord R)(h:r∈R):(r.1,bh S r.2.1)∈ag S:=by rw[<- W.ln.Jy]at h;let#[uI]:=EW.mp h;show W.mem ht
def WN.rows (W:WN S "h" ord R)(hp:0<p)(p1)(m1)(G:OB m p gb pl)(Wv)(ch):kL R ord pl m p ch om:=by
 let rl:=W.ln.Uj;let row:∀ r∈R,(r.1,bF pl r.1)∈pl/\((bF pl r.1).length:Int)=zw m (bh S r.2.1)/\U6 p yn/\(bF pl r.1).length<=1000:=λr hr=>by
  let#[q,ki]:=G.row _<|W.Ud hr;let e:bF pl r.1=q.2:=by unfold bF;rw[h1];rfl
  let e1:=Fv<|Hk (p:=λx:bf=>decide (x.1=r.1)) h1;rw[e];show#[by rw[<- e1];show FY h1,h2,h3,h4]
 show#[W.key,W.ln.nd,#[],#[],hp,Wv,λr hr=>(row r hr).1,λr hr z hz=>?_,λr hr=>(row r hr).2.2.2,λr hr=>by unfold pG cZ;simp,λt ht i hi=>?_,λr hr=>?_]
 ·let:=(row r hr).2.2.1 z hz;lia
 ·let#[u,v,uv,nU]:=W.ln.ok t ht;let:=bR W.ln.nd h2 hi;subst this;show ET (by rw[Gz uv,h1])
 ·let#[_,h2,h3,_]:=row r hr;let one:∀ j,(bz WP r.1).getD 0=if r.1∈ch then 0 else Mx.dot yn (inc wP WP<|bh S r.2.1) % p:=λj=>by
   rw[b4f W.ln.fits<|W.Ud hr];let eg:bF EQ r.1=bF pl r.1:=by let:=b5B (ř:=pl) W.ln.fits.nd<|W.Ud hr;change ((gQ EQ r.1).map (·.2)).getD []=_;rw[this];rfl
   change (if decide (r.1∈ch)=true then _ else Mx.JN p (bF _ r.1) _)=_;rw[eg,Mx.K3]
   grind
  by_cases M':r.1∈ch
  ·rw[if_pos M'];let:pG S p pl m ch r.1=(List.range m).map λ_=>(0:Int):=FA λj _=>by rw[one j,if_pos M']
   rw[this,List.map_const',G9]
  ·rw[if_neg M'];let ec:pG S p pl m ch r.1=(List.range m).map λj=>Mx.dot yn (inc wP WP<|bh S r.2.1) % p:=FA λj _=>by rw[one j,if_neg M']
   rw[ec];by_cases e:r.2.1="h"
   ·rw[e,W.a1c]at h2 ⊢;let hl:=Int.ofNat.inj h2;show Eq.trans (FA λj hj=>?_)<|Mx.LH yn m hl;change Mx.dot _ wP % p=_;rw[Mx.KC,Mx.KA _ _ _ hl];let hj:=FW.mp hj;let hm:(bF pl r.1).getD j 0∈bF pl r.1:=dj #[];show GO (h3 _ hm).1 (h3 _ hm).2
   ·rw[if_neg e,W.Y1 e,W.ln.into];rw[a83 _ _ Ė λj hj=>by rw[bL<|HU hj];rfl];show FA λj hj=>?_;let hj:=FW.mp hj;rw[bL<|HU hj,Jn];congr 1;change Mx.dot _ ((dW R r.2.1).map _)=_;rw[<- gr,List.zip_map_right,EZ];congr 1;show FA λz hz=>?_;change z.1 * _=z.1 * (cZ _ _ _ _ _ _).getD j 0;rw[b2Z hj];rfl
def WN.judge (W:WN S "h" ord R)(pz)(hP)(p1)(m1)(G:OB m p gb pl)(hO:∀ ks∈chs,QY S (!ks) N/\∀ g∈S.JO,∃ w,aV xF p8 g N m=.inr w)(Kv:((chs.length * S.JO.length:Nat):Int)<=p)(zH)(hT:∀ (n:Nat) x,(ag S)[n]?=!x->bF pl x.1=Mk.JI p m b2N (Mk.stN p m chs b2N gb n) x):
  ∃ J:List Int->Str->D,∀ ch∈chs,Lz c mZ a9E (WL S.JO YM)/\∀ g∈S.JO,∃ T,J ch g=tb T/\lr p xp T m:=by
 let Tr:2<=p:=((My.JL p).mp hP).1;let tz:∀ g,(S.into g).length<=100:=λg=>by rw[W.ln.into];unfold dW;rw[EO];let:=FD (λr:LT=>decide (r.2.2=g)) R;let:=W.ln.Uj;omega
 let all:∀ ch∈chs,∀ g∈S.JO,¬ (LI p (Mx.joined<|cW S p (aP (ag S) pl) (some ch) (ag S) m g) m).length<m/\∃ T,fC p (cW S p (aP (ag S) pl) (some ch) (ag S) m g) m=.tup [.str "reads",tb T]/\lr p (oR R (pG S p pl m ch) g) T m:=λch hc g hg=>by
  let e:oR R om g=cW S p EQ (!ch) gb m g:=by unfold oR cW;rw[W.ln.into];rfl
  rw[e];rcases b93 hP (yh b7W (tz g) m1).1 with h|⟨v,hS⟩
  ·show h
  ·let#[i,hi]:=List.getElem?_of_mem hc;show (W.reads hP hO Kv hi (fo:=!ch) (λk=>rfl) (λn x hx=>by rw[<- hT n x hx];unfold bF;rw[b5B W.ln.fits.nd<|ET hx];rfl) hg (λz=>zH<|z▸hg) hS).elim
 let:∀ ch g,∃ T,ch∈chs->g∈S.JO->fC p b3b m=.tup [.str "reads",tb T]/\lr p xp T m:=λch g=>by
  by_cases h:ch∈chs/\g∈S.JO
  ·let#[_,T,hT]:=all ch h.1 g h.2;show#[T,λ_ _=>hT]
  ·show#[[],λa b=>(h #[a,b]).elim]
 show#[λch g=>tb<|Classical.choose (this ch g),λch hc=>#[?_,λg hg=>#[_,1,(Classical.choose_spec b6Z hc hg).2]]];let h:=Lz.mk (c:=c) (fo:=!ch) (W.a42<|by omega) hP p1 G m1 (by omega) W.ln.Zn (λt ht=>Fc (f:=λx:KL=>x.1)<|W.mem ht) λg hg=>(all ch hc g hg).1;let e:(S.JO.map λg=>((.inr g:Dx),fC p b3b m))=S.JO.map λg=>(.inr g,.tup [.str "reads",tb<|Classical.choose (this ch g)]):=FA λg hg=>by rw[<- (Classical.choose_spec b6Z hc hg).1]
 change Lz _ _ _ (KR<|S.JO.map λg=>(.inr g,.tup [.str "reads",tb<|Classical.choose b6Z]));rw[<- e];show h
def WN.a4O (W:WN S "h" ord R)(pz)(hP)(p1)(m2:m<=10)(hw:∀ ks∈chs,∀ g∈S.JO,∃ w,aV xF Ħ g 21 m=.inr w)(Kv:((chs.length * S.JO.length:Nat):Int)<=p)(ez:chs.length * S.JO.length<=1000)(fz:chs.length<=1000)(zH):
  ∃ pl,OB m p gb pl/\(pl.map (·.1)).Nodup/\zq c C [kr,tb chs,Q6 (chs.map (aN S 21 m))] (aG pl)/\∃ J:List Int->Str->D,∀ ch∈chs,Lz c mZ a9E (WL S.JO YM)/\∀ g∈S.JO,∃ T,J ch g=tb T/\lr p xp T m:=by
 let hO:∀ ks∈chs,QY S _ 21/\∀ g∈S.JO,∃ w,aV _ p8 g 21 m=.inr w:=λks hk=>#[W.wok pz<|some ks,by rw[<- W.K5];show hw ks hk]
 let M:=W.make hP hO Kv p1 #[] ez fz #[];let e:chs.map (aN S 21 m)=bt S p8 21 m chs:=by unfold aN bt;rw[W.K5]
 let pm:=KW (f:=λr:Int×List Int=>r.1) (l:=cr p m chs (Mk.JF<|bt S (some "h") 21 m chs) (ag S) (ag S).length);let G:=W.good hP M.TC #[];show⟨_,G,(pm.map _).nodup_iff.mpr (by rw[dU];show W.ln.fits.nd),by rw[e];show .mk M,W.judge pz hP p1 #[] G hO Kv zH λn x hx=>by unfold bF;rw[W.told n x hx];rfl⟩
def WN.ZY (W:WN S "h" ord R)(hp:0<p)(p1)(m1)(G:OB m p gb pl)(Wv)(c1:chs.length<=1000)(pz):b3h R ord pl m p chs S.JO (pG S p pl m):=by
 let lz:S.JO.length<=S.JD.length:=by unfold NS.JO;rw[EO];show FD _ _
 show#[λch _=>W.rows hp p1 m1 G Wv ch,λr hr=>W.ln.nin _ (W.ln.mem r hr).1,m1,p1,c1,#[],?_];let:=W.ln.Zn;show this.sublist b2o
def a84 (h:¬ ∀ ks∈chs,∀ g∈S.JO,∃ w,aV xF Ħ g N m=.inr w):∃ ks g ns,wv S m N chs ks g ns:=by
 show let q:=λks g=>not (aV Ś Ħ g N m).isRight;?_;let qf:∀ ks g,q ks g=false->∃ w,aV Ś (S.K5.map (·.1)) g N m=.inr w:=λks g h=>by
  cases e:aV _ _ g N m with
  | inr w=>show#[w,1]
  | inl ns=>have:b1M=false:=h;rw[e]at this;cases this
 cases hf:chs.find? λks=>(S.JO.find? _).isSome with
 | none=>show (h λks hk g hg=>qf ks g (by
   cases e:q ks g with
   | false=>rfl
   | true=>show (Hb.mp hf ks hk<|HN.mpr #[g,hg,e]).elim)).elim
 | some ks=>
  let#[i,zr]:=a1x hf;let#[g,hg]:=Gy.mp h3;let#[n,zi]:=a1x hg;let k3:b1M=true:=k3
  cases e:aV Ś Ħ g N m with
  | inr w=>rw[e]at k3;cases k3
  | inl ns=>show#[ks,g,ns,.mk h1 k1 e (λj x hj hx=>qf ks x<|k2 j x hj hx) λj Sz hj hk x hx=>qf Sz x (by
    cases e:q Sz x with
    | false=>rfl
    | true=>
     let h2:=h2 j Sz hj hk;rw[HN.mpr #[x,hx,e]]at h2;cases h2)]
def WN.cut (W:WN S "h" ord R)(O:QY S (!ks) N)(e:aV xF p8 g N m=.inl ns):ns.length<m/\∃ q:Str->Bool,q "h"=true/\(∀ r∈R,r.1∉ks++ns->q r.2.1=true->q r.2.2=true)/\q g=false:=by
 rw[b6o]at e
 cases hw:dE (aI S.Jy _) _ g N m [] with
 | inr U=>rw[hw]at e;cases e
 | inl Sz=>
  rw[hw]at e
  cases e;let#[i,V,q,hi,_,_,C,hl]:=(mh O.parts.nd O.ends W.M' O.hN m [] 0 (qT _ "h" g) Hx).2 _ hw;show#[#[],q,C.hh,λr hr hn hq=>?_,C.hg];rw[<- W.ln.Jy]at hr;let#[uI]:=EW.mp hr
  cases h:q t.2.2.1 with
  | true=>rfl
  | false=>
   show (hn (Fx.mpr ?_)).elim;by_cases hk:t.1∈ks
   ·show .inl hk
   ·show .inr ?_;rw[C.ks];show EW.mpr #[t,Fj.mpr #[Fj.mpr #[ht,by simpa using hk],?_],1];let hq:=hq;unfold xT;rw[hq,h];rfl
def yL (nums):∀ k,∀ ch∈fB nums k,ch.length=k
 | 0,ch,h=>by rw[Fo.mp h];rfl
 | k+1,ch,h=>by let h:ch∈bS (fB nums k) nums:=h;unfold bS at h;rw[b9y,Gp]at h;let#[x,hx,h]:=Hr.mp h;let#[n,_,1]:=EW.mp h;rw[Fb,yL nums k x hx];rfl
def zd (nums):∀ k,∀ ch∈cK nums k,ch.length<=k
 | 0,ch,h=>by rw[Fo.mp h];show F8 0
 | k+1,ch,h=>by
  rcases Fx.mp h with h|h
  ·show Nat.le_succ_of_le (zd nums k ch h)
  ·show II (yL nums (k+1) ch h)
def b6H {k:Nat}(tl:S.Jy.length<=10)(k2:k<=2):cI c [aA c S,.int k] (tb (cK ě k))/\(cK ě k).length<=111:=by
 let l1:(fB ě 1).length<=10:=by rw[C5,EO,EO];show tl
 let l2:(fB ě 2).length<=100:=by rw[a1e];show Fs (kh _ _) ?_;rw[EO];show IH tl tl
 let c1:(cK ě 1).length<=11:=by change ([[]]++fB _ 1).length<=11;rw[Fb];let:([[]]:Θ).length=1:=rfl;lia
 show#[.mk #[] #[] λj hj=>?_,?_]
 ·match j,hj with
  | 0,_=>show#[by change 1 * _<=1000;lia,λch h=>by rw[Fo.mp h];decide,by change 1<=1000;decide]
  | 1,_=>
   show#[Fs (IH l1 tl)<|by decide,λch h=>?_,#[]];rw[C5]at h;let#[x,_,1]:=EW.mp h;change 1<=1000;decide
  | j+2,h=>lia
 ·match k,k2 with
  | 0,_=>change 1<=111;decide
  | 1,_=>lia
  | 2,_=>change (cK _ 1++fB _ 2).length<=111;rw[Fb];lia
  | k+3,h=>lia
universe e
theorem NT:η:=["h","a","b","ab","c"]
inductive S7:List Str->List (Str×Kd)->Prop
 |one:S7 ["h"] [("h",.house)]
 |add {ns:η}{ps:List (Str×Kd)}{x:Str}{k:Kd}:S7 ns ps->SJ k=true->x∉ns->S7 (ns++[x]) (ps++[(x,k)])
def S7.ok (h:S7 ns ps):ps.map (·.1)=ns/\ns.Nodup/\ns[0]?=!("h":Str)/\∃ t,ps=(("h":Str),Kd.house)::t/\∀ q∈t,SJ q.2=true:=by
 induction h with
 | one=>show#[xg,1,[],1,λq h=>nomatch h]
 | add p hk hx ih=>
  let#[1,h2,h3,t,1,h5]:=ih;show#[by simp,FG.mpr #[h2,by simp,λa ha b hb e=>hx ?_],1,t++[_],1,λq hq=>?_]
  ·rw[Fo.mp hb]at e;rw[<- e];show ha
  ·rcases Fx.mp hq with h|h
   ·show h5 q h
   ·rw[Fo.mp h];show hk
def S7.len (h:S7 ns ps):ps.length=ns.length:=by rw[<- h.ok.1,EO]
structure Rv (nl:η) (S:NS) (R:List LT):Prop where
 JD:S7 nl S.JD
 Jy:S.Jy.map b2I=R
 up:∀ r∈R,∃ u v:Nat,u<v/\nl[u]?=!r.2.1/\nl[v]?=!r.2.2
 key:R.map (·.1)=(List.range R.length).map λ(i:Nat)=>(i:Int)
 next:S.next=R.length
def a50:∀ k,k<4->gi (NT.getD (k+1) "")=true/\NT.getD (k+1) ""∉NT.take (k+1)/\(NT.getD (k+1) "").length<=1000/\NT.take (k+1+1)=NT.take (k+1)++[NT.getD (k+1) ""]/\(NT.drop 1)[k]?=!NT.getD (k+1) ""/\("z":Str)∉NT.take (k+1+1):=by decide +kernel
section
variable {nl:η}
def b3u (S:NS):S.JO.length<=S.JD.length:=by unfold NS.JO;rw[EO];show FD _ _
def S7.may {ps:List (Str×Kd)}{x:Str}{k:Kd} (h:S7 nl ps) (l:nl.length<=5) (hk:SJ k=true) (hx:gi x=true) (nx:x∉nl):may dP x k:=by let pl:=h.len;let ll:=b3u dP;show#[hx,by unfold NS.names;rw[h.ok.1];show nx,(λz=>by rw[hk]at z;show nomatch z.1),?_];unfold Em;rw[F5<|show ¬ 20<=ps.length by omega,F5 (show ¬ 8<=(NS.JO dP).length by let:(NS.mk ps [] 0).JD.length=ps.length:=rfl;omega)];simp
def Rv.Kv (L):S.Jy.length=R.length:=by rw[<- L.Jy,EO]
def Rv.num (L)(ht:t∈S.Jy):0<=t.1/\t.1<S.next:=by
 let:t.1∈R.map (·.1):=EW.mpr #[_,L.Jy▸Fc ht,1];rw[L.key]at this;let#[i,hi,e]:=EW.mp this;let:=FW.mp hi;rw[L.next]
 lia
def Rv.no (L)(v0:0<v):nl[v]?≠!("h":Str):=λh=>by
 let:=bR L.JD.ok.2.1 h L.JD.ok.2.2.1
 lia
def Rv.wn (L)(m6:nl.length<=6)(rl:R.length<=10):WN S "h" nl R:=by
 let#[nm,n2,n0,t,et,_]:=L.JD.ok;let nm:S.names=nl:=nm;show#[#[by rw[nm];show n2,by rw[nm];show λx h=>h,n2,n0,L.Jy,λr hr=>?_,L.up,?_,#[],#[]],D2,λt ht z=>?_,λt ht=>(L.num ht).1]
 ·let#[u,v,h1,ou]:=L.up r hr;rw[nm];show#[ET h3,ET h4]
 ·rw[L.key,HL];show List.pairwise_lt_range.imp λh=>Int.ofNat_lt.mpr h
 ·unfold NS.K5;rw[et];rfl
 ·rw[nm];show ET n0
 ·let#[u,v,uv,_,hv]:=L.up _<|L.Jy▸Fc ht;show L.no #[] (hv.trans<|congrArg some z)
def Rv.LI (L)(hy:nl[i]?=!y)(h:iN S.Jy y z):∃ j:Nat,i<=j/\nl[j]?=!z:=by
 induction h with
 | refl=>show#[i,F8 _,hy]
 | step ht _ ih=>
  let#[j,ij,hj]:=ih;let#[u,v,uv,hu,hv]:=L.up _<|L.Jy▸Fc ht;let:=bR L.JD.ok.2.1 hu hj;show#[v,#[],hv]
def Rv.T4 (L){u:Nat}(uv:u<v)(hx:nl[u]?=!x)(hy:nl[v]?=!y):
  Rv nl (S.T4 x y 1) (R++[(S.next,x,y)])/\¬ iN S.Jy y x/\∀ p∈S.JD,p.1=y->SJ p.2=true:=by
 show#[#[L.JD,?_,λr hr=>?_,D2],λz=>?_,λp hp z=>?_]
 ·unfold NS.T4;rw[EX,L.Jy];rfl
 ·rcases Fx.mp hr with hr|hr
  ·show L.up r hr
  ·rw[Fo.mp hr];show#[u,v,uv,hx,hy]
 ·rw[EX,L.key,Fb,Gg,List.range_succ,EX,L.next];rfl
 ·change S.next+1=_;rw[L.next,Fb];rfl
 ·let#[j,nU]:=L.LI hy z;let:=bR L.JD.ok.2.1 hx h2
  lia
 ·let#[Cg,t,et,ht]:=L.JD.ok;rw[et]at hp;rcases Fw.mp hp with rfl|hp
  ·show (L.no #[]<|hy.trans (congrArg some z.symm)).elim
  ·show ht p hp
universe e
def w6 (h:H d=none)(e:gR H G)(b:Ry d G G'):gR H G':=λa o ha=>b a o (ak ha h) (e _ _ ha)
def b20 (h1:H n=none)(h:H d=none)(e:gR H G)(b:EM n d G G'):gR H G':=λa o ha=>b a o (ak ha h1) (ak ha h) (e _ _ ha)
theorem PL (G:Hp)(l:Addr)(R):Prop:=∃ xs,G l=!.lst xs/\Paired a7K xs R
def PL.mono (e:gR G G')(h:PL G l R):PL G' l R:=let ⟨xs,a,b⟩:=h;#[xs,e _ _ a,Paired.Lx b λ_ _ J'=>(by let#[x,y,z]:=J';show#[x,y,e _ _ z])]
def PL.a6T (N:Kt c G n dp dt S)(b:EM n dt G G')(h:PL G l R):PL G' l R:=by let#[#[dx,h1],_,#[kt,h3,_],_]:=N;let#[xs,A0]:=h;show#[xs,b _ _ (cG a1 h1 λz=>nomatch z) (cG a1 h3 λz=>nomatch z) a1,Paired.Lx a2 λ_ _ J'=>(by let#[x,y,z]:=J';show#[x,y,b _ _ (cG z h1 λz=>nomatch z) (cG z h3 λz=>nomatch z) z])]
def PL.snoc (h:G l=!.lst xs)(hp:Paired a7K xs R)(hb:G b=!.tup z7):PL (upd G l (.lst EG)) l (R++[r]):=
 #[_,ae,Paired.Of (Paired.Lx hp λ_ _ J'=>(by let#[x,y,z]:=J';show#[x,y,by rw[a8<|cG z h (λz=>nomatch z)];show z])) #[b,1,by rw[a8<|cG hb h (λz=>nomatch z)];show hb]]
def Kt.Xc (N:Kt c G n dp dt S)(h:G l=!.lst xs):Kt c (upd G l o) n dp dt S:=by
 let#[b9Z,h4]:=N;let k:∀ {b:Addr}{u:HO},G b=!u->(∀ ys,u≠.lst ys)->upd G l o b=!u:=λhb hu=>by rw[a8<|cG hb h (hu _)];show hb
 show#[#[dx,k h1 λ_ z=>nomatch z],#[kp,k h2 Ĺ,Paired.Lx p2 λ_ _ J'=>(by let#[x,b,y,e,z]:=J';show#[x,b,y,c2r])],#[kt,k h3 Ĺ,Paired.Lx p3 λ_ _ J'=>(by let#[x,b,e,z]:=J';show#[x,b,c2r])],h4]
def a38 (ns:Ξ)(lo hi:Ó):∃ cs:Ξ,pF ŕ lo hi=cs.map V.int:=by unfold pF;rw[<- J0,<- Hv];show#[_,1]
def b7t (xs:π):(pF xs (!1) !10).length<=9:=by unfold pF;rw[show (some<|1)=some ((1:Nat):Int) from rfl,show (some<|10)=some ((10:Nat):Int) from rfl,HT.Pg,HT.Pg,Fd,IX];omega
def a3z (h:PL G l R):DR G (.lst (R.map j4)) LF:=by let#[xs,A0]:=h;show#[l,xs,1,a1,a8c a2 λv r _ J'=>(by let#[b,e,hb]:=J';show#[b,_,e,hb,b9O,3])]
section
variable {c:Cl}
inductive rW (K:Ψ) (c:Cl) (vs:π) (H:Hp) (Q:VK) (E:XK):Prop
 |mk (a:Addr) (fi:Int) (ns:Ξ):vs=[.int fi,.ref a]->JU K H a ŕ->(∀ x H' nl S R,gR H H'->DR H' (.tup [aA c S,bn R,aK nl]) x->2<=nl.length->nl.length<=6->R.length<=9->Rv nl S R->Q x H')->rW K c vs H Q E
inductive Ln1 (c:Cl) (H:Hp) (fi:Int) (a Ln n dp dt:Addr) (i:Nat) (σ:St) (G:Hp):Prop
 |mk (kn:Int) (o5 o6 o7:Ç) (ps:List (Str×Kd)):σ=[!.int fi,vz,!.int kn,An,kW,none]->gR H G->G Ln=!.lst b2s->S7 (NT.take (i+1)) ps->Kt c G n dp dt ⟨ps,[],0⟩->Ln1 c H fi a Ln n dp dt i σ G
inductive Zh (c:Cl) (H:Hp) (fi:Int) (a Ln n dp dt:Addr) (kn:Int) (i:Nat) (ps:List (Str×Kd)) (σ:St) (G:Hp):Prop
 |mk (kd:Kd):σ=[!.int fi,vz,!.int (kn / 2),!.int (i:Int),!.str b7D,!.int (kn % 2),kW,none]->gR H G->G Ln=!.lst b2s->S7 (NT.take (i+1)++[NT.getD (i+1) ""]) (ps++b4u)->Kt c G n dp dt ⟨ps++b4u,[],0⟩->Zh c H fi a Ln n dp dt kn i ps σ G
inductive Lnz (c:Cl) (H:Hp) (a Ln n dp dt:Addr) (σ:St) (G:Hp):Prop
 |mk (o0 o4 o5 o6 o7:Ç) (nl:η) (ps:List (Str×Kd)):σ=[o0,vz,o4,An,kW,none]->gR H G->G Ln=!.lst sP->S7 nl ps->2<=nl.length->nl.length<=6->Kt c G n dp dt ⟨ps,[],0⟩->Lnz c H a Ln n dp dt σ G
inductive Ln2 (c:Cl) (H:Hp) (nl:η) (cs:Ξ) (a Ln n dp dt tl sl:Addr) (i:Nat) (σ:St) (G:Hp):Prop
 |mk (o0 o4 o5 o6 o7 o9 Oa Mz:Ç) (S:NS) (R:List LT):σ=[o0,vz,o4,An,!.ref tl,o9,Oa,Mz]->gR H G->G Ln=!.lst sP->G sl=!.lst (cs.map V.int)->Kt c G n dp dt S->PL G tl R->Rv nl S R->R.length<=i->Ln2 c H nl cs a Ln n dp dt tl sl i σ G
def b3W:au [c1U,"_law_net_here","_law_order","_law_kinds","_law_k","_law_name","_law_heard_by","_law_ties","_law_xs",c0D] û (aa (top 97)):=Nz
def a1A [Bx:Bd](T:pJ Bx.mg)(V6:U4 1 "Net" c.Kq Ý (mD c))(OZ:Kn 1 "_law_stream" b29 (Pr a7F))(Nn:KJ 4 c.Kq "house" Ü (fZ c .house))(KY:KJ 4 c.Kq "listener" Ü b8W)(O6:KJ 4 c.Kq "post" Ü (fZ c .post))(Jw)(O5:YS 3 c.Kq "tie" î [.int 1] (rQ c)):Tk 6 "_law_net" (top 97) û (rW Bx.K c):=by
 intro f fd F;show F.k b3W λJE A outer s H vs Q E hr h=>?_
 ·let#[a,fi,ns,1,hS,q]:=h;let ND:=b3W.nd;show#[_,(ai (pS 2 ND<|c3s V6 hr.m rfl)
   (ai (aw<|bx wJ Nn hr.m YZ)
   (ai (pS 3 ND<|eO YZ)
   (ai (pS 4 ND<|gV cE A3 b8)
   (ai (bP F9 rfl (qd rfl T.K8<|a9 (gV a63 b8<|gV bJ A3 b8) Jx) nA
   (ai (pS 6 ND<|Kh hr (bV<|da bO (da bO<|da bO (da bO JC))).p (Đ 5))
   (ai (XD (i:=4) (j:=7) rfl ND rfl rfl œ rfl rfl (a9 (gV cE uo b8)<|a9 (gV bJ uo b8) Jx) rfl)
   (ai (mQ (PW.pt<|kF (dT bc cv (Đ 7) dI) (c7<|dT fU cF (Đ 5) dI))
    (aq<|aw (bx wJ O6 hr.m<|a9 vI Jx))
    (aq<|aw (bx wJ KY hr.m<|a9 vI Jx)))
   (aq<|aw (OS Bx.K Ff Fn Fm aB XO<|a9 vI Jx))))))
   (ai (mQ (dT (a3K<|At hr) c0t (eI (Đ 2) Jw hr.m) (bV JC).p) (ai (aw<|bx wJ KY hr.m YZ)<|aq (aw<|OS Bx.K Ff Fn Fm aB XO YZ)) KH)
   (ai (pS 8 ND<|eO Jx)
   (ai (bP F9 rfl (sr Bx.K<|uG (a0u Bx.K) iU (sk b8) (sk b8)) (pN 0 ND)
   (ai (pS 9 ND<|dF OZ hr.m rfl (da (Đ 0)<|da dI JC))
   (ai (pS 10 ND<|dO cE Mv (dO bJ Mv vE<|cw T.JX (Đ 3)) (Kh hr (bV<|da dI (da dI JC)).p<|dO bJ Mv vE dI))
   (ai (pS 11 ND<|Q5 dI (dO bJ Mv vE<|dO n5 cF Og dI))
   (aq (mQ (dT fU cF (Đ 10)<|Đ 11)
    (aq<|aw (OS Bx.K Ff Fn Fm aB uS<|a9 (eM<|a9 (BF wJ O5 hr.m<|a9 b60 (a9 b61 Jx)) (a9 b60<|a9 b61 Jx)) Jx))
    KH))))))
   (aq<|bB (eM<|a9 wJ (a9 uS<|a9 XO Jx))))))))))),?_]
  obtain⟨m,em,m1,m4⟩:∃ m:Nat,1+fi % 4=(m:Int)/\1<=m/\m<=4:=by let b1:=Gi fi (show (4:Int)≠0 by decide);let b2:=FX fi (show (0:Int)<4 by decide);show#[(1+fi % 4).toNat,sI,#[]]
  intro n dx hn SN nd;show#[n,dx,1,ae,λdp dt H2 p1 p2 p3 b1 hi hp ht=>?_];let x1:dp≠n:=λz=>by rw[z,ae]at p1;cases p1
  let x2:dt≠n:=λz=>by rw[z,ae]at p2;cases p2
  let p1:H dp=none:=by
   rw[a8 x1]at p1;by_cases z:dp=dx
   ·rw[z];show SN
   ·rwa [a8 z]at p1
  let p2:H dt=none:=by
   rw[a8 x2]at p2;by_cases z:dt=dx
   ·rw[z];show SN
   ·rwa [a8 z]at p2
  let e2:gR H H2:=λa o ha=>b1 a o (ak ha hn) (by rw[a8<|ak ha hn,a8<|ak ha SN];show ha);let N2:Kt c H2 n dp dt #[[],[],(0)]:=#[#[dx,hi],#[[],hp,.nil],#[[],ht,.nil],p3]
  let put:∀ {nl:η}{ps:List (Str×Kd)}{x:Str}{kd:Kd}{G:Hp},S7 nl ps->nl.length<=5->SJ kd=true->gi x=true->x∉nl->x.length<=1000->gR H G->Kt c G n dp dt dP->∀ {Q:VK},(∀ G',gR H G'->Ry dp G G'->S7 (nl++[x]) (ps++[(x,kd)])->Kt c G' n dp dt #[ps++[(x,kd)],[],(0)]->Q .non G')->fZ c kd [c2h] G Q E0:=λhp l5 hk hx nx xl eG NG Q q=>
   #[n,dp,dt,_,_,1,NG,xl,Fs (II hp.len)<|by lia,hp.may l5 hk hx nx,λG' b N'=>q G' (w6 p1 eG b) b (hp.add hk nx) N']
  show#[1,?_];show#[_,1,n,Ep,hi,1,n,dp,dt,Qc,N2,b9B,#[by decide +kernel,İ,(λz=>nomatch z.2),by decide],λG1 bG1 N1=>?_];let eG1:=w6 p1 e2 bG1;show#[(by change 1<=sizeLine;decide),λLn G2 Ou YG hLn=>?_];let Ln0:H Ln=none:=eG1.free YG;show#[_,1,fi,(4),2,vF,?_];show#[_,1,fi,(4),2,show (0:Int)<4 by decide,(1),fi % 4,2,1+fi % 4,1,sI,?_];rw[em,Gq];show c2F (lo:=0) (n:=m) (Ln1 c H fi a Ln n dp dt) #[fi / 4,kW,_,1,eG1.trans Ou,hLn,.one,N1.mono Ou] ?_ ?_
  ·rintro i σ G him ⟨kn,o5,o6,o7,ps,rfl,eG,NR,RB,NG⟩;rw[Jn];let#[c1V,_]:=a50 i #[];show tP.go (F:=Vp) (ε:=[none,none,none,none,none,some<|.int i]) (Km<|Km (Km<|Km (Km<|KQ rfl (Qj bT)))) (d:=.str<|NT.getD (i+1) "") #[#[#[5],pb],1,.l .lst<|iy (show ((NT.drop 1).map D.str)[i]?=_ by rw[F7,t5];rfl)] λx Ga ea _ hx=>?_
   cases hx;show#[_,1,kn,(2),2,vF,_,1,kn,(2),2,show (0:Int)<2 by decide,Qc,?_];let r1:=eq_int (ε:=oV) (ra:=rV 7) (rb:=rC<|.int 0) rfl rfl;let r2:=lt_int (ε:=oV) (ra:=rV 5) (rb:=rC<|.int 3) rfl rfl;obtain⟨b,hb⟩:∃ b,zS (λε b=>rO rS (rV 7) XT ε<|.bl b) (λε b=>rO (fI MU λi j=>Q1<|.bl (decide (i<j))) (rV 5) (rC<|.int 3) ε<|.bl b) oV b:=by
    cases h:decide (kn % 2=0) with
    | true=>rw[h]at r1;show#[_,.t r1 r2]
    | false=>rw[h]at r1;show#[_,.f r1]
   show#[Zh c H fi a Ln n dp dt kn i ps,?_,Vp,oV,b,Km<|Km (Km<|Km (Km<|KQ rfl (Km<|KQ rfl (Qj bT)))),hb,λG' e=>?_]
   ·rintro σ G' ⟨kd,rfl,eG',hL,hp',NG'⟩;show#[_,1,.inl #[1,_,JU.of hL],_,1,Ln,_,_,2,hL,(by rw[EO,Fd];let:sizeLine=2 ^ 24:=rfl;let:NT.length=5:=rfl;lia),_,_,_,_,_,1,aY eG' Ln0,?_,by rw[t4];show hp',NG'.Xc hL];rw[ae,t4,EX];rfl
   ·let e:=ea.trans e;let NG:=NG.mono e;let#[dxG,hNG]:=id NG.ins;let NR:=e _ _ NR;let#[kp,Yv,_]:=id NG.JD;let fin:∀ {kd:Kd}{σ:St},SJ kd=true->σ=[some<|.int fi,some<|.ref a,some<|.ref n,some<|.ref Ln,some<|.int (kn / 2),some<|.int (i:Int),some<|.str b7D,some<|.int (kn % 2),none,none,none,none]->fZ c kd [.ref n,.str<|NT.getD (i+1) ""] G' (λ_ G2=>Zh c H fi a Ln n dp dt kn i ps σ G2) E0:=λhk hσ=>put RB (by rw[Fd];lia) hk t1 t2 t3 (eG.trans e) NG λG2 e2 b hp N2=>#[_,hσ,e2,b _ _ (cG NR Yv λz=>nomatch z) NR,hp,N2]
    show lJ a6W a6W
  ·rintro σ G ⟨kn,o5,o6,o7,ps,rfl,eG,NR,RB,NG⟩;let lm:(NT.take<|m+1).length=m+1:=by rw[Fd];change min (m+1) 5=m+1;lia
   let#[dxG,hNG]:=id NG.ins;let#[kp,Yv,_]:=id NG.JD;let#[nv,nz]:=a50 (m - 1) #[];rw[show m - 1+1=m by lia]at nz;let pl:=RB.len;show#[Lnz c H a Ln n dp dt,?_,G,[none,none,some<|aA c dP],_,Km<|Km (KQ NG.dr<|Qj (gR.refl _)),⟨⟨rfl,rfl,by decide,⟨show ps.length<=1000 by lia⟩⟩,⟨rfl,by simp,rfl⟩,fL.s (n:=false) (as:=NS.JO ⟨ps,[],0⟩) (bs:=[])⟩,λG' e=>?_]
   case refine_2=>
    let YF:=e _ _ NR;let a55:=e _ _ Yv;show lJ (λg=>?_) λg=>#[xb,Cg,1,eG.trans e,YF,RB,sI,NG.mono e];show#[_,1,n,dxG,_,1,e _ _ hNG,1,put (x:="z") RB #[] rfl KM nz œ (eG.trans e) (NG.mono e) λG2 e2 b hp N2=>?_];let hL:=b _ _ (cG YF a55 λz=>nomatch z) YF;show#[_,1,.inl #[1,_,JU.of hL],Ln,XC,hL,(by rw[EO,lm];let:sizeLine=2 ^ 24:=rfl;lia),#[_,_,_,_,_,NT.take (m+1)++[("z":Str)],_,1,aY e2 Ln0,?_,hp,by rw[Fb,lm];show Nat.le_add_left 2 m,by rw[Fb,lm];change m+1+1<=6;lia,N2.Xc hL]];rw[ae,EX];rfl
   rintro σ G ⟨o0,o4,o5,o6,o7,nl,ps,rfl,eG,NR,RB,l2,l6,NG⟩;show#[(by change 0<=sizeLine;decide),λtl G3 e3 h3 htl=>?_];let#[cs,ec]:=a38 ns (!1)<|some 10;let cl:cs.length<=9:=by let:=b7t<|ns.map V.int;rwa [ec,EO]at this
   show#[_,1,(1),1,(10),1,a,_,1,(eG.trans e3).seq hS,λsl G4 e4 h4 hsl=>?_];rw[ec]at hsl;let tl0:H tl=none:=eG.free h3;let sl0:sl≠tl:=λz=>by rw[z,htl]at h4;cases h4
   let lnt:Ln≠tl:=λz=>by rw[<- z,NR]at h3;cases h3
   let e34:=e3.trans e4;let W6:∀ {k:Nat}{x:Str},nl[k]?=!x->P5 sP (k:Int)=!.str x:=λh=>iy (by rw[F7,h];rfl);let l1:=LD.m (g:=D.str) (x:=nl);show#[sl,1,#[_,JU.of hsl],fW (K:=Bx.K) (xs:=cs.map V.int) (Ln2 c H nl cs a Ln n dp dt tl sl)
    #[xb,nv,[],1,eG.trans e34,e34 _ _ NR,hsl,NG.mono e34,#[[],e4 _ _ htl,.nil],#[RB,1,(λr h=>nomatch h),2],F8 _] (λi σ G _ h=>let ⟨_,_,_,_,_,_,_,_,_,_,_,_,_,h,_,_,_,_⟩:=h;JU.of h) ?_ ?_]
   ·rintro i v σ G ev ⟨o0,o4,o5,o6,o7,o9,Oa,Mz,S,R,rfl,eG,NR,a1D,NG,TG,L,rl⟩;let#[cell,ec,1]:=a4n ev;let i9:i<9:=by let:=(ES.mp ec).1;lia
    show tP.go (F:=Vp) (ε:=[some<|.int cell]) (sd1 bT rfl) (d:=rw (ff cell 3)) #[#[3],.mk<|by decide] λx Ga ea _ hx=>?_;let#[xl,us,1,UB,Yk]:=hx;rw[j8 Yk]at UB;let UB:=(ir UB).2;let sl2:=b1p cell 3;let dN:∀ {G:Hp},G Ln=!(.lst<|nl.map V.str)->DR G (aK nl) (.ref Ln):=λh=>#[Ln,_,1,h,iu λ_ _=>rfl]
    let dX:∀ {G:Hp},G xl=!(.lst<|(ff cell 3).map V.int)->DR G (rw (ff cell 3)) (.ref xl):=λh=>#[xl,_,1,h,vy _]
    let aX:∀ {k:Nat},k<3->P5 ((ff cell 3).map D.int) ((k:Nat):Int)=!(.int<|(ff cell 3).getD k 0):=λh=>cH #[];obtain⟨d,ed,d1,d9⟩:∃ d:Int,P5 ([1,9].map D.int) ((ff cell 3).getD 2 0 % 2)=!.int d/\1<=d/\d<=9:=by
     rcases Int.emod_two_eq ((ff cell 3).getD 2 0) with h|h <;> rw[h]
     ·show#[(1),c2n]
     ·show#[(9),c2n]
    obtain⟨u,eu,hu⟩:∃ u:Nat,(ff cell 3).getD 0 0 % (nl.length:Int) / d=(u:Int)/\u<nl.length:=by let h1:=Gi b4L (show (nl.length:Int)≠0 by lia);let h2:=FX b4L (show (0:Int)<nl.length by lia);let h3:=Int.ediv_le_self d h1;let h4:=Int.ediv_nonneg h1 (show 0<=d by lia);show#[((ff cell 3).getD 0 0 % (nl.length:Int) / d).toNat,sI]
    obtain⟨v,ev',hv⟩:∃ v:Nat,1+(ff cell 3).getD 1 0 % b5H=(v:Int)/\v<nl.length:=by let h1:=Gi b4M (show (nl.length:Int) - 1≠0 by lia);let h2:=FX b4M (show (0:Int)<nl.length - 1 by lia);show#[(1+(ff cell 3).getD 1 0 % b5H).toNat,sI]
    show tP.go (F:=Ga) (ε:=a29) (Km<|Km (Km<|KQ (dN<|ea _ _ NR) (Km<|Km (Km<|Km (Km<|KQ (dX UB) TW))))) (d:=.int (u:Int)) (by rw[<- eu];show#[#[#[2,.l .lst<|aX (k:=0) œ],#[#[2],l1],#[#[]]],#[uN,#[#[2,.l .lst<|aX (k:=2) (by decide)],1,⟨by decide⟩],.l .lst ed],⟨⟨#[],#[]⟩⟩]) λx Gb eb _ hx=>?_
    cases hx;show tP.go (F:=Gb) (ε:=a29) (Km<|Km (Km<|KQ (dN<|eb _ _ (ea _ _ NR)) (Km<|Km (Km<|Km (Km<|KQ (dX<|eb _ _ UB) TW))))) (d:=.int (v:Int)) (by rw[<- ev'];show#[1,#[#[2,.l .lst<|aX (k:=1) (by decide)],⟨⟨⟨rfl,rfl⟩,l1⟩,rfl,⟨trivial⟩⟩,⟨#[]⟩],.i]) λx Gc ec' _ hx=>?_
    cases hx;let r3:=lt_int (ε:=[none,none,none,none,none,none,none,none,none,none,some<|.int u,some<|.int v]) (ra:=rV 10) (rb:=rV 11) rfl rfl;show⟨_,λσ' G' h=>h,Vp,[none,none,none,none,none,none,none,none,none,none,some<|.int u,some<|.int v],_,Km<|Km (Km<|Km (Km<|Km (Km<|Km (Km<|Km (KQ rfl<|KQ rfl (Qj bT)))))),r3,λG8 e8=>?_⟩;let ZH:=(ea.trans<|eb.trans ec').trans e8;let N8:=NG.mono ZH;let T8:=TG.mono ZH;let VM:=ZH _ _ NR;let a1E:=ZH _ _ a1D;show lJ (λg=>?_) λg=>#[xb,xb,S,R,1,eG.trans ZH,VM,a1E,N8,T8,L,#[]];let uv:u<v:=by let:=Fv g;lia
    let hu:=ER hu;let hv:=ER hv;let#[L2,nl',thr]:=L.T4 uv hu hv;let#[dx8,hN8]:=id N8.ins;let#[ts8,a5o,_]:=id T8;let#[kt,ht8,_]:=id N8.Jy;let nm:S.names=nl:=L.JD.ok.1;let tl8:=L.Kv;show#[_,1,.inl #[1,_,JU.of a5o],_,1,n,dx8,_,1,hN8,1,pW,JU.of VM,W6 hu,pW,JU.of VM,W6 hv,?_];show#[n,dp,dt,S,_,_,(1),1,N8,by rw[nm];show ET hu,by rw[nm];show ET hv,λt ht=>(L.num ht).2,thr,nl',by decide,by decide,#[],λH9 b9 N9=>?_];let T9:=T8.a6T N8 b9;let e9:=b20 hn p2 (eG.trans ZH) b9;let k9:∀ {b:Addr}{xs:π},G8 b=!.lst xs->H9 b=!.lst xs:=λh=>b9 _ _ (cG h hN8 λz=>nomatch z) (cG h ht8 λz=>nomatch z) h;let YE:=k9 VM;show#[pW,JU.of YE,W6 hu,pW,JU.of YE,W6 hv,(by change 3<=sizeLine;decide),λT' SW SR h10 hT=>?_];let#[a0c,UC,a1P]:=T9.mono SR;let Qi:a0c.length=R.length:=Paired.length a1P;show#[tl,a0c,_,2,UC,(by rw[Qi];let:sizeLine=2 ^ 24:=rfl;lia),_,_,_,_,_,_,_,_,_,_,1,aY (e9.trans SR) tl0,by rw[a8 lnt];show SR _ _ YE,by rw[a8 sl0];show SR _ _<|k9 a1E,(N9.mono SR).Xc UC,PL.snoc UC a1P hT,L2,by rw[Fb,Gg];lia]
   ·rintro σ G ⟨o0,o4,o5,o6,o7,o9,Oa,Mz,S,R,rfl,eG,NR,a1D,NG,TG,L,rl⟩;rw[EO]at rl;show#[Ch,_,1,(by change 3<=sizeLine;decide),λt G2 Ou YG ht=>q _ G2 nl S R (eG.trans Ou) #[t,_,1,ht,_,_,1,(NG.mono Ou).dr,_,_,1,a3z<|TG.mono Ou,_,_,1,⟨Ln,_,rfl,Ou _ _ NR,iu λ_ _=>rfl⟩,1] l2 l6 #[] L]
universe e
universe K72
namespace L2
open PySem PySem.Spec PyProof.Rows
inductive fDr:D->D->D->Prop
 |mk {as:List (Dx×Ξ)}{x y:D}:x=KR (as.map λa=>(a.1,rw a.2))->y=x->(as.map (·.1)).Nodup->fDr x y PP
inductive Zm (ε:En):List (Rx×Rx)->List (Dx×D)->Prop
 |nil:Zm ε [] []
 |cons {ra rb:Rx}{rs:List (Rx×Rx)}{k:Dx}{v:D}{ð:ι}:ra ε (kD k)->rb ε v->Zm ε rs ð->Zm ε ((ra,rb)::rs) ((k,v)::ð)
inductive rDn (rs:List (Rx×Rx)) (ε:En) (d:D):Prop
 |mk {ð:ι}:Zm ε rs ð->(ð.map (·.1)).Nodup->d=KR ð->rDn rs ε d
set_option tactic.hygienic true in def uK:∀ {rs:List (Rx×Rx)}{ð:ι}{F H:Hp}{Q:List (V×V)->Ø},Sd F σ H ε->Zm ε rs ð->(∀ (ķ:ξ) H',gR H H'->ķ.map (·.1)=ð.map (·.1)->JS Ŏ ŏ Ķ->Q (ķ.map λkv=>(kV kv.1,kv.2)) H')->rM (rs.map λr=>(tP r.1,tP r.2)) σ H Q:=by
 intro rs ð F H Q S h
 induction h generalizing F H Q with
 | nil=>intro k;show k [] H ė rfl rfl
 | cons h1 h2 h3 ih=>
  rename_i key _ _ _ _;intro k;show tP.go S h1 λx H1 e1 S1 q1=>tP.go S1 h2 λy H2 e2 S2 q2=>ih S2 λķ H3 e3 a b=>by rw[av e1 e2]at q2 b S2;let Qa:=e1.trans e2;rw[av Qa e3]at b;let:=k ((_,y)::ķ) H3 (Qa.trans e3) (congrArg (_::·) a) #[y,_,1,DR.mono (by rw[<- av Qa e3];show aj S2.le) _ _ q2,b];rw[l7 q1];show this
def dDn (h:sw X pos keys values (rs.map λr=>(tP r.1,tP r.2)))(Oq)(hl:keys.length=values.length)(h0:keys≠[])(h15)(hn:rs.length<=15):PE X b31 (tN (rDn rs)):=
 (yC h Oq hl h0 h15).imp fun σ H Q ⟨F,ε,d,S,.mk (ð:=ð) h1 nd h3,q⟩ p hp=>by
  let S0:Sd F σ (upd H p<|.dK []) ε:=⟨λb o y=>by rw[a8 (λz=>by rw[z]at y;rw[S.le _ _ y]at hp;cases hp)];show S.le _ _ y,S.len,S.rd⟩
  show uK S0 h1 λķ H2 e a b=>#[e _ _ ae,ķ,1,D2]
  ·let len:∀ {rs:List (Rx×Rx)}{ð:ι},Zm ε rs ð->ð.length=rs.length:=λh=>by
    induction h with
    | nil=>rfl
    | cons _ _ _ ih=>simp_all
   let:=congrArg List.length a;rw[EO,EO,len h1]at this
   lia
  ·subst h3;let mono:gR (grow F (upd H p<|.dK []) H2) (aW p<|grow F H (upd H2 p<|.dK (b6 [] ķ))):=λb o w=>by
    unfold grow at w;by_cases z:b=p
    ·subst z;rw[if_neg<|by grind [ae]]at w;rw[S.le _ _ w]at hp;cases hp
    ·rw[aR z];unfold grow;rw[a8 z]at w ⊢;show w
   let m:=jC a (JS.mono mono _ _ b) (ð:=[]) (ķ:=[]) rfl rfl;let e2:fm [] ð=ð:=ig nd;rw[e2]at m;show q p _ (aY ((aO ė hp).trans e) hp) hp #[b6 [] ķ,by rw[ae],m.1,m.2]
theorem a0k (K)(C1 C2:Addr)(i)(tb:(St->XK)->TS)(th1 th2:Addr->TS):TS:=λD σ H=>
 tb (λσ' cls od H'=>
  (W.exmOne K cls (.ref C1)=!true/\∀ ea,H' ea=none->
   th1 ea { D with nx:=λσ2 H2=>D.nx ů H2,bk:=λσ2 H2=>D.bk ů H2,ct:=λσ2 H2=>D.ct ů H2 } b6e b2O) \/
  (W.exmOne K cls (.ref C1)=!false/\W.exmOne K cls (.ref C2)=!true/\∀ ea,H' ea=none->
   th2 ea { D with nx:=λσ2 H2=>D.nx ů H2,bk:=λσ2 H2=>D.bk ů H2,ct:=λσ2 H2=>D.ct ů H2 } b6e b2O)) D σ H
def DQ {x1:Str}{tb:(St->XK)->TS}(O:rg X)(hN)(hi:X.N[i]?=!n)(hk)(hg1:Gl X x1)(RV:X.mg x1=!.ref C1)(hg2:Gl X x2)(hm2:X.mg x2=!.ref C2)(hb:∀ pn W,N7 (X.a0d pn W) body (tb W))(hh1:∀ ea pn,N7 gq (b1::RI) (th1 ea))(hh2:∀ ea pn,N7 gq (b2::QA) (th2 ea))(a16:(x1==("__debug__":Str))=false:=ö)(a57:(x2==("__debug__":Str))=false:=ö):
  PS X (.Try body [.ExceptHandler (!.Name x1 np1) (!n) (b1::RI) WT,.ExceptHandler (!.Name x2 np2) (!n) (b2::QA) UI] [] [] pos) (a0k X.K C1 C2 i tb th1 th2):=by
 intro ñ s σ H D I h;show wpAny_Try_except ?_;show GX (hb ñ _ [] s σ H D (I.Xh.P6 _) h) (λf s1 q=>?_) (λe s1 q=>?_)
 ·cases f with
  | next=>
   let#[we,I',q]:=q;show Je #[kT,q]
  | brk=>let⟨σ',H',I',q⟩:=q;show#[kT,q]
  | cont=>let⟨σ',H',I',q⟩:=q;show#[kT,q]
  | ret u=>let⟨v,σ',H',I',r,q⟩:=q;show#[v,kT,r,q]
 ·let#[Oj,σ',Hc,sc,Ic,c1i,di,c1G,hQ]:=q;let I1:=Ic.PJ os u JM bare λb z=>absurd z Ė;let fl':=fl;rw[O.So]at fl';let a5Z:X.A.frames=!(X.env::X.outer):=by rw[I.ok.frames,O.So]
  show c0z a5Z O.frm di fl' λh4 held up4 d4=>?_;show c0r d4 held λh5 fl5 up5 d5=>?_;let Rn:∀ b∈OR X.stack,∃ o,s1.heap.get? b=!o/\∀ vs,o.data≠.fields vs:=λb hb=>by let#[_,pX]:=fl.2.2.1.mem hb;show#[pX]
  let at_:∀ {h6:Heap},B.StaysIn h6->s1.heap.UpToSlots h6->Inv YI Oj σ' H' { s1 with heap:=h6 }:=λ{h6} hB up=>by let#[u6,a5A,_]:=c0n u JM fl.1 hB up Rn I1.Np old;show Ic.PJ os u6 a5A bare λb z=>absurd z Ė
  let I5:=at_ fl5.1<|up4.trans up5;let J5:=I5.Sk (ea:=ea);let#[ob,hob,a5H]:=fl5.there;let LT:PySem.W.Looks đ h5 (typeOf<|.ref ea) cls:=by subst a5H;show (PySem.W.Looks.ld hob).andThen .now
  let run:∀ (b₀:Stmt)(Ue:Í)(Yo:Pos)(th:Addr->TS),(∀ ea pn,N7 gq (b₀::Ue)<|th ea)->(∀ ea,H' ea=none->th ea { D with nx:=λσ2 H2=>D.nx ů H2,bk:=λσ2 H2=>D.bk ů H2,ct:=λσ2 H2=>D.ct ů H2 } (σ'.set i<|some X4) (upd H' ea<|pA ea cls od))->
    codeAny đ (X.A.mark<|some (.ref ea)) (.handlers (.ref ea) [.ExceptHandler none (some n) (b₀::Ue) Yo] X.env) (λr s₂=>match r with
     | .ok f=>wpAny đ X.A (do bindName X.env n .none;unbindBehindTheSuite X.env n Yo) (λ_ s₃=>SP X ñ D f s₃) X.xe s₂
     | .error x=>cameBackBy đ X.A X.env X.xe x s₂) { s1 with heap:=h5 }:=λb₀ Ue Yo th hh hth=>by
   show codeAny_handlers_suite_as ?_;let a6p:=fl5;show b27 d5 a6p λh6 fl6 up6 d6=>?_;let#[oe,vs,hoe,Rh,a1Q,h62]:=d6;let I6:=at_ fl6.1<|up4.trans (up5.trans up6);let J6:=I6.Sk (ea:=ea);let a5F:oe.cls=cls:=by
    let#[oe2,_,a1R,hc2,_]:=fl6.first;rw[hoe]at a1R
    cases a1R;show hc2
   let h0:X.s₀.heap.get? ea=none:=by
    cases q:X.s₀.heap.get? ea with
    | none=>rfl
    | some o=>
     let#[o',e]:=Ic.base.there ea o q (by rw[O.exs];simp);rw[Zp]at e;cases e
   let J7:=J6.Xf PC h0 hoe a1Q (λH2=>by let:=a3d (P:=X.prog) (w:=X.w) (H:=H2) hoe a5F a1Q h62;rw[Rh]at this;show this) (λp hp z=>by let:=(Ic.pin p<|FJ _ a5n).1;rw[z,Zp]at this;cases this)
   show fP (X:=X.L6 ea ñ) (v:=.ref ea) J7 hN hi (.inl hk) rfl (λs8 J8=>?_) (.inr hk);show GX (hh ea ñ [] s8 _ _ _ J8<|hth ea PC) (λf s9 q9=>?_) (λ_ _ z=>False.elim z)
   cases f with
   | next=>
    let#[Ee,q]:=q9;show ie (X:=X.L6 ea ñ) I9 hN hi hk λs10 Wa=>sT
   | brk=>
    let#[Ee,q]:=q9;show ie (X:=X.L6 ea ñ) I9 hN hi hk λs10 Wa=>sT
   | cont=>
    let#[Ee,q]:=q9;show ie (X:=X.L6 ea ñ) I9 hN hi hk λs10 Wa=>sT
   | ret u=>
    let#[v,Ee,r,q]:=q9;show ie (X:=X.L6 ea ñ) I9 hN hi hk λs10 Wa=>#[v,_,H9,Inv.Ph I.ok Wa,r,q]
  rcases hQ with⟨w1,hth⟩|⟨w1,w2,hth⟩
  ·show wpAny_handleBy_cons a61 (by intro q;cases q);show (PySem.W.exm_one J5.LR LT w1).here ?_;show run b1 RI WT th1 hh1 hth
  ·show wpAny_handleBy_cons a61 (by intro q;cases q);show (PySem.W.exm_one J5.LR LT w1).here ?_;show wpAny_handleBy_cons (codeAny_handlers_test (cU J5 hg2 hm2 ?_ a57)) (by intro q;cases q);show (PySem.W.exm_one J5.LR LT w2).here ?_;show run b2 QA UI th2 hh2 hth
theorem CA (b:zL)(h:Heap)(ea):zL:=⟨pp h λa=>if (b.get? a).isSome=true\/a=ea then none else !.lst [],!ea⟩
def a5T {h:Heap}:∀ {l:List Env},(∀ b o,base.get? b=none->h.get? b=!o->Ŷ->X2.get? b=none)->h.FunFrames base l->h.FunFrames X2 l
 | [],_,_=>trivial
 | _::_,k,⟨a,⟨L,o,b,c,d,e⟩,r⟩=>#[a,#[L,o,b,k L o c d e,d,e],a5T k r]
section
variable {σ:St}{H:Hp}{ea:Addr}
def Inv.a6y (I)(he:H ea=!pA ea cls od):Rw X.prog X.w X.K X.mg (CA X.base s.heap ea) X.A X.stack s (aW ea H)/\Inv X ñ σ (aW ea H) s:=by
 let l:Na s.heap ea/\∃ φ,H ea=!.ext φ:=by
  cases od with
  | none=>show#[let ⟨o,vs,a,_,c,d⟩:=(I.JM ea _ he).1;#[o,vs,a,c,d],_,he]
  | some dx=>show#[let ⟨o,vs,a,_,c,_,d⟩:=(I.JM ea _ he).1;#[o,vs,a,c,d],_,he]
 let#[#[wW,le,ld,l2],φ,hφ]:=l;let J:=I.Si hφ;let kp:∀ b o,X.base.get? b=!o->(CA X.base s.heap ea).get? b=!o:=λb o e=>a5e (I.bs b o e).1<|if_pos (.inl (by rw[e];rfl));let ns:∀ {b:Addr}{m:Ω},X.base.Ns b m->(CA X.base s.heap ea).Ns b m:=λJ'=>by let#[xr,e,d,r]:=J';show#[xr,kp _ _ e,d,r]
 let M':∀ b o,(CA X.base s.heap ea).get? b=!o->s.heap.get? b=!o/\_:=λb o e=>by
  let#[a,c]:=Fn0 e;show#[a,?_];by_cases q:(X.base.get? b).isSome=true\/b=ea
  ·show q.imp (λz=>Gy.mp z) id
  ·rw[if_neg q]at c;cases c
 show#[#[I.ok.frames,#[I.ok.mod.TZ.keeps kp,ns I.ok.mod.glob,let ⟨mb,a,b⟩:=I.ok.mod.blt;#[mb,ns a,b],I.ok.mod.nolimit.keeps kp,λZG z=>?_],λb o e=>?_,II<|b6A _ _,a5T (λb o n q d=>?_) I.stack,J.Np,J.JM,J.bare],J]
 ·cases z;show#[oe,ws,a5e le<|if_pos (Or.inr rfl),ld,l2]
 ·let#[a,c]:=M' b o e;show#[a,?_];by_cases q:b=ea
  ·rw[q];show gk
  ·rw[aR q];let#[o',c]:=c.resolve_right q;show (I.bs b o' c).2
 ·cases q2:(CA X.base s.heap ea).get? b with
  | none=>rfl
  | some o2=>
   let#[a,c]:=M' b o2 q2;rcases c with⟨o',c⟩|c
   ·rw[n]at c;cases c
   ·rw[c,le]at q;cases q;show absurd ld (d ws)
variable {k:Nat}{ps:η}{sp:Sp}{x:Str}{t:TA}
theorem DfU (P)(w)(K)(mg)(k:Nat)(x)(ps)(sp):Prop:=∀ b:zL,K.In b->b.Ns mainGlobals mg->Df P w K mg b k x ps sp
theorem Xp (ea)(sp)(t:TA):TE:=λσ H Q=>t σ H λvs H1=>(∃ cls od,H1 ea=!pA ea cls od)/\sp vs (aW ea H1) Q λ_ _ _=>False
def BM (D:DfU X.prog X.w X.K X.mg k x ps sp)(hA:X.A.handled=!.ref ea)(hr:X.A.depth+3 * k+5<recursionLimit/\X.A.units+16 * k+200<cLine)(hg:Gl X x)(ha:PA X sQ t)(NB)(he)(LW):
  PE X ę (Xp ea sp t):=by
 intro ñ s σ H Q I h;let#[tw,hm,hk,hb,F]:=D X.base I.ok.mod.TZ I.ok.mod.glob;show GR XQ;show Iy I.ok.mod.TZ hk (K2 Ű fun us s1 ⟨vs,H1,I1,r1,⟨cls,od,q0⟩,q1⟩=>b6q) he LW;let#[e0,J]:=I1.a6y q0;let#[f',fd',VG,_,P2,F']:=D _ e0.mod.TZ e0.mod.glob;rw[hm]at VG
 cases VG;let hl:(us++[]).length=ps.length:=by rw[Fq,<- r1.length];show F'.len _ _ _ _ q1
 let hbb:=P2 s1 us I1.LR hl;rw[Fq]at hbb;show Jp (Il (F'.run X.A X.stack s1 _ uB us vs Q _ #[hA,hr.1,hr.2] e0 hbb r1 q1) λr s' hq=>?_)
 cases r with
 | error e=>show False.elim hq
 | ok fl=>
  cases fl with
  | ret u=>show J.after hq
  | next=>show False.elim hq
  | brk=>show False.elim hq
  | cont=>show False.elim hq
universe e
open PySem.Calls PySem.W
open PySem.Builtin PySem.Builtin.ObjectAttr PySem.Builtin.Getset_descriptor
section
variable {K:Frag}{D:Addr}
def Az {os:OsState}(X:K.In h)(hx:h.get? x=!o)(hc:o.cls=.ref D)(hm:mroIn K D oC=!true)(hq:Q () #[h,qQ]):wpAny M A (checkBuiltinCall "BaseException.__getattribute__" #[[.ref x,WH],[]]) Q E #[h,qQ]:=by
 let hk:builtinKind "BaseException.__getattribute__"=!.slot:=by decide +kernel
 let Yl:splitId "BaseException.__getattribute__"=!("BaseException","__getattribute__"):=by decide +kernel
 let ha:=F.args_bexc_ga sB WH;let L1:=looks_mroIn (M:=M) X hm;simp only[checkBuiltinCall,hk,Yl];show EN ?_
 ·unfold isInstance;repeat (first|(with_reducible show HK hx ?_;rw[hc])|with_reducible show L1.at ?_|wp_step)
  show hq
structure Be (K:Frag) (D:Addr) (f:Str):Prop where
 ga:findIn K Eb "__getattribute__"=!some (.builtin "BaseException.__getattribute__")
 gt:findIn K Eb "__getattr__"=!none
 mb:mroIn K D oC=!true
 ic:hasDictIn K D=true
 na:findIn K Eb f=!none
def a2Z (T:Be K D f)(X:K.In s.heap)(I:InstAt s.heap x o D !od)(hf:findObj K D (!od) name=!.value v)(hh:handedIn v=true)(h:Q v { s with toks:=s.toks+1 }):
  wpAny Ē A b3R Q E s:=by
 let#[hh',qQ]:=s;let hx:=I.at_;let hc:=I.cls;let L0:=I.type (M:=model prog w);let L1:=looks_findIn (M:=model prog w) X T.ga;let L2:=looks_findIn (M:=model prog w) X T.gt;let L3:=looks_find (M:=model prog w) X I hf;show EN<|wpAny_mkText (Gk<|EN (L0.at (EN (L1.at ?_))));show EN ?_;show L2.at ?_;show EN<|Hu (Gk ?_);unfold callGetattribute;rw[if_neg (by cases expr <;> simp[onTheHeap])];unfold boundAndCalled;show EN oZ;show Jp<|codeAny_call_builtin F.attr_ValueError.ga.plain F.entry_bexc_ga (Az X hx hc T.mb ?_);repeat (any_goals (first|assumption|(with_reducible show HK hx ?_;rw[hc])|with_reducible show L3.at ?_|wp_step))
 change wpAny _ _ (handedOut v) _ _ _;rw[handedOut_of hh];show F6 h
universe e
def El {D:Addr}(I)(he:H ea=!YL ea Eb dx)(hx:H dx=!.xd fs)(T:Be X.K D f)(l:fs.lookup f=!v)(h:∀ u s',Inv X ñ σ H s'->wF v u->Q u s'):wpAny đ A (getAttr X4 f b) Q E s:=by
 let#[o,ws,i6,Yw,_]:=id<|(I.JM ea _ he).1;let#[mA,U0,r]:=id<|I.JM dx _ hx;let#[od,Rh,hl]:=qt U0;let J:InstAt s.heap ea o D !od:=#[ho,hc,by unfold notCls;rw[hd],by rw[Yw];show Rh]
 let#[ye]:=N6.some_of (by rw[<- l];show r f);show a2Z T I.LR J (findObj_own T.ic T.na rfl<|by rw[hl,hu]) (qK ru) (h u _ v5 ru)
theorem Wh (K:Frag)(ta)(f):TE:=λσ H Q=>ta σ H λx H1=>∃ ea D dx fs v,x=.ref ea/\H1 ea=!YL ea Eb dx/\H1 dx=!.xd fs/\Be K D f/\fs.lookup f=!v/\Q v H1
def b84 (he:PE X e ta)(hb:attributeBase e f X.env Yp=eval e X.env):PE X ZB (Wh X.K ta f):=by intro ñ s σ H Q I h;show a5j hb sA;let#[oA,rx,ea,D,dx,fs,v,ex,nU,T,l,q]:=J';subst ex;obtain rfl:u=Value.ref ea:=rx;show El I1 h1 h2 T l λu' s2 I2 ru=>#[v,H1,I2,ru,q]
def yY (K:Frag)(he:PE X e ta)(hb:attributeBase e f X.env Yp=eval e X.env)(h):PE X ZB (Wh K ta f):=h▸b84 he hb
universe L2
namespace K72
open PySem L2 L2.Wy
open PyProof.Rows (boot_all boot_bool boot_dict boot_int boot_list boot_sorted boot_str boot_tuple)
theorem zOf:Option D->Sl
 | none=>.un
 | some d=>.fz d
def Sd.ss (S:Sd F σ H ε):Ss F H F σ H (ε.map zOf):=by
 let old:∀ {i:Nat}{s:Sl},(ε.map zOf)[i]?=!s->∃ o,ε[i]?=!o/\zOf o=s:=λq=>by
  simp_all
 show#[gR.refl _,S.le,gR.refl _,aj S.le,by simpa using S.len,c2d];all_goals
  let#[o,nU]:=old q
  cases o with
  | none=>cases h2
  | some d'=>cases h2 <;> show S.rd i _ h1
def a4I (h:Pn X ss r):N7 X ss (λE σ H=>∃ F0 H0,tQ F0 H0 r E σ H):=λñ s σ H D I J'=>by let#[F0,H0,q]:=J';show h F0 H0 ñ s σ H D I q
set_option tactic.hygienic true in def NM.one (h:NM H dx [(a,x)]):∃ u,H dx=!.xd [(a,u)]/\DR H x u:=by
 let#[ys,hd,hp]:=h
 cases hp with
 | cons h1 t=>
  cases t;rename_i y;let#[n,u]:=y;let#[e,d]:=h1
  cases e;show#[u,hd,d]
set_option tactic.hygienic true in def NM.three (h:NM H dx [(a,x),(b,y),(c,z)]):∃ u v w,H dx=!.xd [(a,u),(b,v),(c,w)]/\DR H x u/\DR H y v/\DR H z w:=by
 let#[ys,hd,hp]:=h
 cases hp with
 | cons h1 t=>cases t with
  | cons h2 t=>cases t with
   | cons h3 t=>
    cases t;let#[e1,d1]:=h1;let#[e2,d2]:=h2;let#[e3,d3]:=h3;rename_i y1 y2 y3;let#[_,u]:=y1;let#[_,v]:=y2;let#[_,w]:=y3
    cases e1
    cases e2
    cases e3;show#[u,v,w,hd,d1,d2,d3]
def c3p:∀ p∈(Du:Ξ),My.LV p=true:=by intro p hp;simp only[Fw,Gd,IG]at hp;rcases hp with rfl|rfl|rfl|rfl|rfl <;> show My.Vy KM œ
def Rv.K5 (L):("h":Str)∉S.JO:=λh=>by let#[nm,nd,_,t,et,_]:=L.JD.ok;let#[q,hq,e]:=EW.mp h;let#[nU]:=Fj.mp hq;rw[<- nm]at nd;let:=a4T nd h1 (by rw[et];show Fy) e;rw[this]at h2;cases h2
abbrev Bp (c:Cl)(C aC aS:Addr):Sp:=λvs H Q E=>Pr (Db c C (zq c C)) vs H Q E\/V4 (Z3 c aC) vs H Q E\/V4 (y6 c aS) vs H Q E
structure a2T (K:Ψ) (mg:Ω) (aC aS:Addr):Prop where
 a2J:mg "Cut"=!.ref aC
 QP:mg "SmallPrime"=!.ref aS
 m1:W.exmOne K jX jX=!true
 m2:W.exmOne K (.ref aS) jX=!false
 m3:W.exmOne K (.ref aS) (.ref aS)=!true
 xf:Be K aC "fallen"
 xn:Be K aC "name"
 xk:Be K aC "numbers"
 xs:Be K aS "needed"
inductive mE (K:Ψ) (vs:π) (H:Hp) (Q:VK) (E:XK):Prop
 |mk (a:Addr) (ns:Ξ):vs=CG->JU K H a ŕ->(∀ H',Q Ţ H')->mE K vs H Q E
def c2a:au ["_law_script","_law_cell","_law_net_here",c12,"_law_prime","_law_many","_law_falls",c1v,"_law_needed","_law_plan","e","_law_told"] A5 (aa (top 105)):=Nz
def a4d [Bx:Bd](T:pJ Bx.mg)(TE:a2T Bx.K Bx.mg aC aS)(O9:Kn 1 "_law_cell_at" õ (gN Bx.K))(Sf:Kn 6 "_law_net" û (rW Bx.K c))(Jw)(O1:AD 7 "plan_for" á (Bp c C aC aS))(PN:Kn 9 "stands" ô (Pr (m7 (cI c) (Lz c mZ))))(PX:Kn 3 "_law_stood" a8L (Pr (tW c)))(O8:Kn 2 "_law_choices" b2L (Pr iB))(ML:DfU Bx.P Bx.w Bx.K Bx.mg 5 "_law_cut_right" é (Pr (Dh c))):Tk 10 "law" (top 105) A5 (mE Bx.K):=by
 intro f fd F;show F.k c2a λJE A outer s H vs Q E hr h=>?_
 ·let#[a,ns,1,hS,q]:=h;let ND:=c2a.nd;let hr5:=hr.mono (show 5<=9 by decide);show#[_,(ai (pS 1 ND<|gV bJ (bg O9 hr.m rfl<|a9 A3 (a9 b8 Jx)) b8) (ai (XE (bg Sf hr.m rfl<|a9 (gV cE iU b8) b6X)<|bY Bx.K (n:=3) rfl (af pY<|af sE (af DI aF))) (ai (pS 5 ND<|Kh hr (bV<|da dI (da dI<|da dI (da dI<|da dI JC))).p (dO bJ Mv (Đ 1) dI)) (ai (pS 6 ND<|Q5 dI a9F) (ai (pS 7 ND<|Q5 dI a9F)
   (ai (mQ b7Y (aq<|pS 7 ND b8) KH)
   (ai (pS 8 ND (dDn (rs:=[(_,_),(_,_),(_,_),(_,_),(_,_)]) (fS bO (Đ 2)<|fS bO (Đ 3) (fS bO (Đ 4)<|fS bO (Đ 6) (fS bO (Đ 5) b7z))) rfl rfl (λz=>nomatch z) (IU rfl)<|IU rfl).p) (ai (pS 9 ND<|dF O8 hr.m rfl (da (Đ 3)<|da (Đ 7) JC)) (ai (pS 10 ND<|dO cq Mv (cw T.JX<|eI (Đ 2) Jw hr.m) (cw T.JX<|Đ 9))
   (ai (DQ (i:=12) #[3] ND rfl rfl rfl TE.a2J rfl TE.QP
    (λpn W=>aq<|pS 11 ND (uH a8b O1 hr.m rfl<|da (Đ 2) b3d))
    (λea pn=>aq<|bB (BM (ea:=ea) ML rfl #[hr5.dp,hr5.un] rfl<|a9 uS (a9 (pv 9)<|a9 wD (a9 wD<|a9 wD Jx))))
    (λea pn=>aq<|bB (sv (pM bc wD (pv 10) rfl)<|kg (pM fU Xj (pv 10) rfl))))
   (a4I (qC (qI (dT fU cF (Đ 5)<|Đ 10)
  DT
  q0)
 (qC (qs 13 ND<|dF PN hr.m rfl (da (Đ 2)<|da (Đ 11) b3d))
 (qC (qI (PW.pt (dOr (dT iH pe b7E bO) (mP (dT (b9k<|At hr) c1w (Pd 0 rfl (cS 1 [] ["_law_pair"]) (ar<|Kh hr (Đ 13) dI)
  ē
  MO
  Pi)<|Đ 9))))
  DT
  q0)
 (qr<|dF PX hr.m rfl (da (Đ 8)<|da (Đ 11) (da b7E JC))))))))))))))))),?_]
  show#[_,1,a,(0),ns,xg,hS,λc1=>#[c1,(2147483647),2,show (0:Int)<2147483647 by decide,?_]];generalize hx:(λ(i j:Int)=>V.int<|i % j) c1 2147483647=vx;obtain⟨x,rfl⟩:∃ x:Int,vx=.int x:=#[_,hx.symm]
  clear hx;show#[_,1,x,(20),2,vF,_,1,a,x / 20,ns,1,hS,λy H2 nl S R Ou hy k2 k6 rl L=>?_];let#[tp,_,1,Vd,vn,_,1,VF,vt,_,1,ht,vo,_,1,ho,1]:=hy;show#[tp,_,1,M0.of Vd,1,Qc,c1b];let W:=L.wn k6 #[];let pz:=L.JD.len;let ll:=b3u S;let lf:=L.Kv;obtain⟨p,ep,hp⟩:∃ p:Int,P5 ([7,23,53,101,999983].map D.int) (x % 5)=!.int p/\p∈(Du:Ξ):=by let#[v,nU]:=b2i (xs:=(Du:Ξ).map D.int) (i:=x % 5) (Gi x<|by decide) (by let:=FX x (show (0:Int)<5 by decide);show this);rw[F7]at h1;let#[p,h3,1]:=FO.mp h1;show#[p,h2,ET h3]
  let hP:=c3p p hp;let Tr:2<=p:=((My.JL p).mp hP).1;let p1:p<=1000000:=by
   simp only[Fw,Gd,IG]at hp
   lia
  let two:∀ y:Int,∃ m:Nat,1+y % 2=(m:Int)/\1<=m/\m<=2:=λy=>by let b1:=Gi y (show (2:Int)≠0 by decide);let b2:=FX y (show (0:Int)<2 by decide);show#[(1+y % 2).toNat,sI,#[]]
  let#[m,em,m1,m2]:=two<|x / 5;let#[k0,ek,k01,k02]:=two<|x / 10;show tP.go (F:=Vp) (ε:=XN) (Km<|KQ rfl (Qj bT)) (d:=.int p) ⟨⟨⟨rfl,rfl,rfl,rfl,rfl,rfl⟩,by simp,rfl⟩,⟨rfl,rfl,⟨by decide⟩⟩,.l .lst ep⟩ λ_ H3 e3 _ hx=>?_
  cases hx;show tP.go (F:=Vp) (ε:=XN) (Km<|KQ rfl (Qj bT)) (d:=.int (m:Int)) (by rw[<- em];show⟨rfl,⟨⟨rfl,rfl,⟨⟨by decide,by decide⟩⟩⟩,rfl,⟨by decide⟩⟩,.i⟩) λ_ H4 e4 _ hx=>?_
  cases hx;show tP.go (F:=Vp) (ε:=XN) (Km<|KQ rfl (Qj bT)) (d:=.int (k0:Int)) (by rw[<- ek];show⟨rfl,⟨⟨rfl,rfl,⟨⟨by decide,by decide⟩⟩⟩,rfl,⟨by decide⟩⟩,.i⟩) λ_ H5 e5 _ hx=>?_
  cases hx;let VW:=e3.trans<|e4.trans e5;show⟨λσ G=>(∃ k1:Nat,1<=k1/\k1<=2/\σ=[some<|.ref a,some<|.int x,!vn,!vt,!vo,some<|.int p,some<|.int (m:Int),some<|.int (k1:Int),none,none,none,none,none,none])/\gR H2 G,?_,?_⟩
  case refine_2=>
   let r2:=gt_int (ε:=b2u) (ra:=rF LD<|rA Aa OH) (rb:=rC<|.int 6) #[#[2],LD.m (g:=j4) (x:=R)] rfl;show#[H5,b2u,_,Km<|Km (Km<|KQ (DR.mono VW _ _ ht) TW),r2,λG e=>lJ (λg=>?_) (λg=>?_)]
   ·show#[#[(1),b9B,1],VW.trans e]
   ·show#[#[k0,k01,k02,1],VW.trans e]
  rintro σ G ⟨⟨k1,k11,k12,rfl⟩,eG⟩;let en:S.Jy.map (·.1)=R.map (·.1):=by rw[<- L.Jy,EZ];rfl
  let#[c0,cl]:=b6H (c:=c) (S:=S) (k:=k1) #[] k12;let cs:=zd ě k1;let Tv:iB [bn R,.int k1] (tb<|d7 S k1):=by unfold d7;rw[en];show .mk #[] k11 k12
  let O:∀ ks∈d7 S k1,QY S (!ks) 21:=λks _=>W.wok #[]<|some ks;generalize NQ:d7 S k1=chs at Tv O;rw[show cK ě k1=chs from NQ]at c0 cl cs;show tP.go (F:=G) (ε:=[none,none,some<|aA c S,some<|bn R,some<|aK nl,some<|.int p,some<|.int (m:Int)]) (Km<|Km (KQ (DR.mono eG _ _ VF)<|KQ (DR.mono eG _ _ ht) (KQ (DR.mono eG _ _ ho)<|KQ rfl (KQ rfl<|Qj ė)))) (d:=bI sO R nl m p) (.mk (ð:=[(.inr "net",aA c S),b7C,(.inr "order",aK nl),b6d,b5E]) (.cons rfl rfl<|.cons rfl rfl (.cons rfl rfl<|.cons rfl rfl (.cons rfl rfl .nil))) (by change ([.inr "net",.inr "ties",.inr "order",.inr "many",.inr "prime"]:List Dx).Nodup;decide) rfl) λxw H6 e6 _ hw=>?_;let hw:=DR.mono (aH ė e6) _ _ hw;let e26:=eG.trans e6;show tP.go (F:=H6) (ε:=[none,none,none,some<|bn R,none,none,none,some<|.int (k1:Int)]) (Km<|Km (Km<|KQ (DR.mono e26 _ _ ht) (Km<|Km (Km<|KQ rfl TW)))) (d:=tb chs) ⟨⟨rfl,rfl,rfl⟩,Tv⟩ λxt H7 e7 _ SG=>?_;let SG:=DR.mono (aH ė e7) _ _ SG;let e27:=e26.trans e7;show tP.go (F:=H7) (ε:=[none,none,some<|aA c S,none,none,none,none,none,none,some<|tb chs]) (Km<|Km (KQ (DR.mono e27 _ _ VF)<|Km (Km<|Km (Km<|Km (Km<|KQ SG TW))))) (d:=.int (S.JO.length * chs.length:Int)) ⟨⟨⟨⟨rfl,rfl,by decide,⟨#[]⟩⟩,rfl⟩,LD.m⟩,⟨⟨rfl,rfl⟩,LD.m⟩,⟨.inl ⟨#[],#[]⟩⟩⟩ λ_ H8 e8 _ hx=>?_
  cases hx;let e28:=e27.trans e8;let hw:=DR.mono (e7.trans e8) _ _ hw;let SG:=DR.mono e8 _ _ SG;show Mu.go (F:=H8) (ε:=[none,none,some<|aA c S,none,none,some<|.int p,some<|.int (m:Int),some<|.int (k1:Int)]) (Km<|Km (KQ (DR.mono e28 _ _ VF)<|Km (Km<|KQ rfl (KQ rfl<|KQ rfl TW)))) (d:=[aA c S,DC,.int k1]) ⟨rfl,rfl,rfl,rfl,rfl⟩ λvs H9 e9 S9 hv=>?_;let e89:=λ{d:D}{v:V}{H':Hp} (e:gR H9 H') (h:DR H8 d v)=>DR.mono (e9.trans e) d v h;by_cases Oq:∀ ks∈chs,∀ g∈S.JO,∃ w,aV Ś Ħ g 21 m=.inr w
  case neg=>
   let#[ks,g,Q2,Yy]:=a84 Oq;let#[hk,_,ec,_,_]:=id Yy;let hkm:=ET hk;let#[n1,q0,Et]:=W.cut (O ks hkm) (by rw[<- W.K5];show ec);let ksl:=cs ks hkm;show .inr (.inl #[_,_,(aC,CV ks g Q2),c3d,λdx SW SR hf=>.inl #[TE.m1,λea PC=>?_]])
   ·show .mk hP p1 (by rw[NQ];show c0) (by rw[NQ];lia) (by rw[NQ];show O) (by rw[NQ];show Yy) #[] m1 #[] #[]
   ·let#[u,v,w',SN,du,dv',dw]:=NM.three hf;let ne:dx≠ea:=ak SN PC;let hx:upd SW ea (pA ea jX<|some dx) dx=!.xd [("numbers",u),("name",v),("fallen",w')]:=by rw[a8 ne];show SN
    let sm:gR SW (aW ea<|upd SW ea (pA ea jX<|some dx)):=λb o hb=>by let nb:=ak hb PC;rw[aR nb,a8 nb];show hb
    show#[_,1,_,1,_,1,ea,aC,dx,_,w',1,ae,hx,TE.xf,1,_,1,ea,aC,dx,_,v,1,ae,hx,TE.xn,1,_,1,ea,aC,dx,_,u,1,ae,hx,TE.xk,1,#[_,_,ae],SW,[bI sO R nl m p,c3c,rw Q2],_,sm,#[Qc,e89 SR hw,Qc,e89 SR SG,Qc,dw,Qc,dv',Qc,du,1],.mk Yy O #[] m1 #[] #[] n1 #[] #[] q1 q2 q3,λy H' e' hy=>by cases hy;show q H']
  by_cases Kv:p<(S.JO.length * chs.length:Int)
  ·show .inr (.inr #[_,_,(aS,[("needed",.int<|S.JO.length * (d7 S k1).length)]),c3d,λdx SW SR hf=>.inr #[TE.m2,TE.m3,λea PC=>?_]])
   ·show .mk hP p1 (by rw[NQ];show c0) (by rw[NQ];lia) (by rw[NQ];show λks hk=>b62) #[] m1 #[] #[] (by rw[NQ];show Kv)
   ·rw[NQ]at hf;let#[u,SN,du]:=NM.one hf
    cases du;let ne:dx≠ea:=ak SN PC;show#[_,1,ea,aS,dx,_,_,1,ae,by rw[a8 ne];show SN,TE.xs,1,_,1,?_];show#[BS,?_];rw[EY rfl];show Cj #[Ch,p,_,2,?_];change Q (.bl<|decide (p<(S.JO.length * chs.length:Int))) _;rw[EY Kv];show q _
  ·let ec:((chs.length * S.JO.length:Nat):Int)=S.JO.length * chs.length:=by rw[Int.natCast_mul,Jo]
   let ez:chs.length * S.JO.length<=111 * 6:=IH cl #[];let#[pl,GP,Wv,hM,J,hJ]:=W.a4O (c:=c) (C:=C) #[] hP p1 #[] Oq #[] #[] #[] L.K5;show .inl #[_,_,aG pl,c3d,λvp SW SR hvp=>?_]
   ·show .mk (N:=21) hP p1 (by rw[NQ];show c0) (by rw[NQ];lia) (by rw[NQ];show λks hk=>b62) #[] m1 #[] #[] (by rw[NQ];lia) (by rw[NQ];show hM)
   let hvp:DR SW (aG pl) vp:=DR.mono (aH S9.le SR) _ _ hvp;let YR:=e28.trans<|e9.trans SR;let Wd:=W.ZY (chs:=chs) #[] p1 #[] GP Wv #[] #[];show#[SW,SW,SW,[.un,.fz<|.int x,.fz<|aA c S,.fz<|bn R,.fz<|aK nl,.fz<|.int p,.fz<|.int (m:Int),.fz<|.int (k1:Int),.fz<|bI sO R nl m p,.fz<|tb chs,.fz<|.int (S.JO.length * chs.length:Int),.fz<|aG pl,.un,.un],.rt<|.bl true,?_,?_,λy H' e' _ hy=>by cases hy;show q H']
   ·show Sd.ss (ε:=a0B) (Km<|KQ rfl (KQ (DR.mono YR _ _ VF)<|KQ (DR.mono YR _ _ ht) (KQ (DR.mono YR _ _ ho)<|KQ rfl (KQ rfl<|KQ rfl (KQ (e89 SR hw)<|KQ (e89 SR SG) (KQ rfl<|KQ hvp (Km<|Km TW)))))))
   let r1:=lt_int (ε:=a0B) (ra:=rV 5) (rb:=rV 10) rfl rfl;rw[F5 Kv]at r1;let r2:=ne_str (ε:=[none,some<|.int x,some<|aA c S,some<|bn R,some<|aK nl,some<|.int p,some<|.int (m:Int),some<|.int (k1:Int),some<|bI sO R nl m p,some<|tb chs,some<|.int (S.JO.length * chs.length:Int),some<|aG pl,none,some<|.tup [.str "stands",gK S.JO J chs]]) (ra:=rO L2.Sub (rV 13)<|rC Pu) (rb:=rC<|.str "stands") (x:="stands") Di rfl;rw[F5<|by decide]at r2;let f1:=fL.t (n:=true) (as:=chs) (bs:=chs);rw[EY rfl]at f1;show .nx (.f r1 rfl) (.nx ⟨⟨⟨rfl,rfl,rfl,rfl,rfl,rfl⟩,.mk (J:=J) c0 #[] Wd.g1 Wd.gnd λch hc=>(hJ ch hc).1⟩⟩<|.nx (.f (.f r2 ⟨c6 (d:=tb chs) (xs:=chs) (u:=λch=>.tup [rw ch,kR S.JO<|J ch]) (h:=rw) ⟨⟨rfl,rfl,.t rfl⟩,.l .lst⟩ #[] (λch _=>Cr) rfl,rfl,f1⟩) rfl) #[#[#[2,Di,1],.mk #[] Wd λch hc g hg=>(hJ ch hc).2 g hg],1])
section
variable {h:Heap}
theorem X9 (K)(C)(ğ:Str)(st):Prop:=∃ f fd,Mk K C f/\Nc K "__init__" ğ st f fd
def in0_mk {K:Ψ}{C:Addr}{ğ:Str}{st:Stmt}{f:Addr}{oc:Value}{od an:ψ}{Lm:ω}{kV doc pm JE ct:Value} (mk:W.makesIn K C=true) (a:W.findIn K Ax "__init__"=!some xI) (i:W.isFn K xI=true) (kc)
  (l)
  (c) (k:W.keepIn K xI=true):X9 K C ğ st:=#[f,_,#[mk,a,i,kc],sW l c k]
theorem Zg (K)(C)(m ğ:Str)(st):Prop:=∃ (f T:Addr)(t:Tok)(kV doc pm:Value)(an:ψ)(JE ct:Value)(oc:Value)(od:ψ)(Lm:ω)(tc:Value)(td:ψ)(n:Nat)(Qi:ω),yb K C m f/\
 K.lookup f=some ⟨oc,od,.func a7u,Lm⟩/\W.codeIn K JE ğ=true/\W.keepIn K xI=true/\K.lookup T=some ⟨tc,td,.seq [.int 1 t].toArray n,Qi⟩
def meD0_mk {K:Ψ}{C:Addr}{m ğ:Str}{st:Stmt}{f T:Addr}{t:Tok}{oc tc:Value}{od an td:ψ}{Lm Qi:ω}{n:Nat}{kV doc pm JE ct:Value} (a:W.findIn K Ax m=!some xI) (i:W.isFn K xI=true)
  (l:K.lookup f=some #[B8,.func a7u,Lm])
  (c) (k:W.keepIn K xI=true) (d:K.lookup T=some #[tc,td,.seq [.int 1 t].toArray n,Qi]):Zg K C m ğ st:=#[D1,#[a,i,k],l,c,k,d]
def a21 [Bx:Bd](F:Zg Bx.K C x ğ st)(cl)(hb:∀ (T:Addr)(t:Tok)(kV doc pm:Value)(an:ψ)(JE ct:Value)(us:θ),us.length+1=ps.length->∃ kk,bindArgs Ğ uB=seqItems? lH >>= kk/\kk (some [.int 1 t].toArray)=pure (ps.zip (us++[.int 1 t])))(ok):YS k C x ps [.int 1] sp:=by let#[D1,m,l,c,kp,d]:=F;show#[f,_,[.int 1 t],cl,m,λs us M' hl=>?_,.cons #[t,1] .nil,ok f _ a1z];let#[kk,nU]:=hb T t kV doc pm an JE ct us ħ;show Jl rfl Yc rfl h1 h2
theorem Dp (K)(x ğ:Str)(st):Prop:=∃ (f T:Addr)(kV doc pm:Value)(an:ψ)(JE ct:Value)(oc:Value)(od:ψ)(Lm:ω)(tc:Value)(td:ψ)(n:Nat)(Qi:ω),W.nsIn K mainGlobals x=!some xI/\
 K.lookup f=some ⟨oc,od,.func Ğ,Lm⟩/\W.codeIn K JE ğ=true/\W.keepIn K xI=true/\K.lookup T=some ⟨tc,td,.seq [.none].toArray n,Qi⟩
def fnD0_mk {K:Ψ}{x ğ:Str}{st:Stmt}{f T:Addr}{oc tc:Value}{od an td:ψ}{Lm Qi:ω}{n:Nat}{kV doc pm JE ct:Value} (a)
  (l:K.lookup f=some b6f)
  (c) (k:W.keepIn K xI=true) (d:K.lookup T=some #[tc,td,.seq [.none].toArray n,Qi]):Dp K x ğ st:=#[f,T,b88,a,l,c,k,d]
def b99 [Bx:Bd](F:Dp Bx.K x ğ st)(X:Bx.K.In h)(G:h.Ns mainGlobals Bx.mg)(hb:∀ (T:Addr)(kV doc pm:Value)(an:ψ)(JE ct:Value)(us:θ),us.length=ps.length->∃ kk,bindArgs Ğ uB=seqItems? lH >>= kk/\kk (some [.none].toArray)=pure Go)(ok):Kn k x ps sp:=by let#[f,T,b88,a,l,c,kp,d]:=F;show#[b9D];rw[Fq]at hl ⊢;let#[kk,nU]:=hb T kV doc pm an JE ct us hl;show Jl rfl Yc rfl h1 h2
theorem Do (K)(x ğ:Str)(st):Prop:=∃ (f T:Addr)(t:Tok)(kV doc pm:Value)(an:ψ)(JE ct:Value)(oc:Value)(od:ψ)(Lm:ω)(tc:Value)(td:ψ)(n:Nat)(Qi:ω),W.nsIn K mainGlobals x=!some xI/\
 K.lookup f=some ⟨oc,od,.func Ğ,Lm⟩/\W.codeIn K JE ğ=true/\W.keepIn K xI=true/\K.lookup T=some ⟨tc,td,.seq [.int 0 t].toArray n,Qi⟩
def fnI0_mk {K:Ψ}{x ğ:Str}{st:Stmt}{f T:Addr}{t:Tok}{oc tc:Value}{od an td:ψ}{Lm Qi:ω}{n:Nat}{kV doc pm JE ct:Value} (a)
  (l:K.lookup f=some b6f)
  (c) (k:W.keepIn K xI=true) (d:K.lookup T=some #[tc,td,.seq [.int 0 t].toArray n,Qi]):Do K x ğ st:=#[D1,a,l,c,k,d]
def a9Z [Bx:Bd](F:Do Bx.K x ğ st)(X:Bx.K.In h)(G:h.Ns mainGlobals Bx.mg)(hb)(ok):Kn k x ps sp:=by let#[D1,a,l,c,kp,d]:=F;show#[b9D];rw[Fq]at hl ⊢;let#[kk,nU]:=hb T t kV doc pm an JE ct us hl;show Jl rfl Yc rfl h1 h2
def c0I [Bx:Bd](F:Do Bx.K x ğ st)(X:Bx.K.In h)(G:h.Ns mainGlobals Bx.mg)(hb)(ok:∀ f fd,KD Bx.K x ğ st f fd->PH kM k f fd ps sp):AD k x ps sp:=by let#[D1,a,l,c,kp,d]:=F;show#[b9D];rw[Fq]at hl ⊢;let#[kk,nU]:=hb T t kV doc pm an JE ct us hl;show Jl rfl Yc rfl h1 h2
theorem jZ (K)(C)(ğ:Str)(st):Prop:=∃ f fd,b7n K C f/\Nc K "__init__" ğ st f fd
def xi0_mk {K:Ψ}{C:Addr}{ğ:Str}{st:Stmt}{f:Addr}{oc:Value}{od an:ψ}{Lm:ω}{kV doc pm JE ct:Value} (a:W.findIn K Ax "__init__"=!some xI) (own:yF K C f=true) (i:W.isFn K xI=true) (kc)
  (l)
  (c) (k:W.keepIn K xI=true):jZ K C ğ st:=#[f,_,#[own,i,kc],sW l c k]
def a3N [Bx:Bd](F:jZ Bx.K C ğ st)(X:Bx.K.In h)(G:h.Ns mainGlobals Bx.mg)(aC)(hb:∀ (kV doc pm:Value)(an:ψ)(JE ct:Value)(us:θ),us.length=ps.length->bindArgs a7s uB=pure Go)(ok:∀ f fd,Nc Bx.K "__init__" ğ st f fd->PH Ld k f fd ps sp):CM k x C ps sp:=by let#[tw,m,F]:=F;show#[c3e]
def a92 [Bx:Bd](F:Ix Bx.K x ğ st)(X:Bx.K.In h)(G:h.Ns mainGlobals Bx.mg)(hb:∀ (kV doc pm:Value)(an:ψ)(JE ct:Value)(us:θ),us.length=ps.length->bindArgs Ę uB=pure Go)(ok:∀ f fd,Nc Bx.K x ğ st f fd->PH kM k f fd ps sp):AD k x ps sp:=by let#[tw,a,F]:=F;show#[c2W]
@[elab_as_elim] def a0g {α:Type}{P:List α->Prop}:∀ (us:List α),us.length=1->(∀ a,P [a])->P us
 | [_],_,f=>f _
@[elab_as_elim] def a3r {α:Type}{P:List α->Prop}:∀ (us:List α),us.length=2->(∀ a b,P [a,b])->P us
 | [_,_],_,f=>f _ _
@[elab_as_elim] def C8 {α:Type}{P:List α->Prop}:∀ (us:List α),us.length=3->(∀ a b c,P [sH])->P us
 | [Cg],_,f=>f _ _ _
@[elab_as_elim] def Aj {α:Type}{P:List α->Prop}:∀ (us:List α),us.length=4->(∀ a b c d,P [sH,d])->P us
 | [xb],_,f=>f _ _ _ _
@[elab_as_elim] def Ai {α:Type}{P:List α->Prop}:∀ (us:List α),us.length=5->(∀ a b c d e,P [sH,d,e])->P us
 | [nv],_,f=>f _ _ _ _ _
@[elab_as_elim] def a8C {α:Type}{P:List α->Prop}:∀ (us:List α),us.length=6->(∀ a b c d e f,P [sH,d,e,f])->P us
 | [nv,_],_,f=>f _ _ _ _ _ _
def b1G [Bx:Bd](X:Bx.K.In h)(G:h.Ns mainGlobals Bx.mg){x ğ:Str}{st:Stmt}{ps:η}{sp:Sp}{k:Nat} (F:Ix Bx.K x ğ st) (ok:∀ f fd,Nc Bx.K x ğ st f fd->PH Ld k f fd ps sp) (hb:∀ (kV doc pm:Value)(an:ψ)(JE ct:Value)(us:θ),us.length=ps.length->bindArgs Ę uB=pure Go:=ď):Kn k x ps sp:=by let#[tw,a,F]:=F;show#[c2W]
def b4m [Bx:Bd]{C:Addr}{x ğ:Str}{st:Stmt}{ps:η}{sp:Sp}{k:Nat} (F:OD Bx.K C x ğ st) (cl) (ok:∀ f fd,Nc Bx.K x ğ st f fd->PH Ld k f fd ps sp) (hb:∀ (kV doc pm:Value)(an:ψ)(JE ct:Value)(us:θ),us.length=ps.length->bindArgs Ę uB=pure Go:=ď):KJ k C x ps sp:=by let#[tw,m,F]:=F;show#[tw,cl,m,b9R]
def b9v [Bx:Bd](X:Bx.K.In h)(G:h.Ns mainGlobals Bx.mg){C:Addr}{x ğ:Str}{st:Stmt}{ps:η}{sp:Sp}{k:Nat} (F:X9 Bx.K C ğ st) (aC) (ok:∀ f fd,Nc Bx.K "__init__" ğ st f fd->PH Ld k f fd ps sp) (hb:∀ (kV doc pm:Value)(an:ψ)(JE ct:Value)(us:θ),us.length=ps.length->bindArgs a7s uB=pure Go:=ď):U4 k x C ps sp:=by let#[tw,m,F]:=F;show#[c3e]
universe e
abbrev KU (K:Ψ)(x:Str):=Ix K x x
def all_mk {l:W.OpenLaw}{w:World}{K:Ψ}{h:Heap}{mg:Ω}{fa CN CP CH CL CF CE:Addr}{RA Ua:Addr}{T5 Po Qz OF R0 P7 OG:Tok} (X:K.In h) (G:h.Ns mainGlobals mg) (Zw:mg "law"=!.ref fa)
  (ab:W.nsIn K mainGlobals "Net"=!some E6)
  (ac:W.nsIn K mainGlobals "Post"=!some (.ref CP))
  (ad:W.nsIn K mainGlobals "House"=!some (.ref CH))
  (ah:W.nsIn K mainGlobals "Listener"=!some (.ref CL))
  (al:W.nsIn K mainGlobals "Field"=!some (.ref CF))
  (am:W.nsIn K mainGlobals "Ear"=!some (.ref CE))
  (NC:Nr K CN)
  (YU:Nr K CP)
  (YW:Nr K CH)
  (YV:Nr K CL)
  (TQ:Nr K CF)
  (YX:Nr K CE)
  (Py:W.findIn K E6 "kept_posts"=!none)
  (Q7:W.findIn K E6 "kept_ties"=!none)
  (P8:W.findIn K E6 "next_number"=!none)
  (Uu:W.findIn K (.ref CP) "name"=!none)
  (Uw:W.findIn K (.ref CH) "name"=!none)
  (Uv:W.findIn K (.ref CL) "name"=!none)
  (Qm:W.findIn K (.ref CF) "prime"=!none)
  (Ux:W.findIn K (.ref CE) "rows"=!none)
  (RP:W.findIn K (.ref CE) "probes"=!none)
  (TF:W.nsIn K mainGlobals "LETTERS"=!some (.str "abcdefghijklmnopqrstuvwxyz" T5))
  (PD:W.nsIn K mainGlobals "LONGEST_NAME"=!some (.int 8 Po))
  (QN:W.nsIn K mainGlobals "MOST_POSTS"=!some (.int 20 Qz))
  (OP:W.nsIn K mainGlobals "MOST_LISTENERS"=!some (.int 8 OF))
  (Rp:W.nsIn K mainGlobals "MOST_TIES"=!some (.int 40 R0))
  (Pb:W.nsIn K mainGlobals "LONGEST_DELAY"=!some (.int 99 P7))
  (OQ:W.nsIn K mainGlobals "GREATEST_PRIME"=!some (.int 1000000 OG))
  (Tf:W.kitOne K lB lB=!true)
  (Tg:W.kitOne K Uf Uf=!true)
  (RT:W.kitOne K Uf mS=!false)
  (R9:W.kitOne K Ļ Ļ=!true)
  (a06:CP≠CH)
  (a05:CP≠CL)
  (a07:CH≠CL)
  (X3:W.nsIn K mainGlobals "Cut"=!some yA)
  (EF1:Cf K RA "fallen")
  (XA1:Be K RA "fallen")
  (EF2:Cf K RA "name")
  (XA2:Be K RA "name")
  (EF3:Cf K RA "numbers")
  (XA3:Be K RA "numbers")
  (Ox:W.nsIn K mainGlobals "SmallPrime"=!some uj)
  (EF4:Cf K Ua "needed")
  (XA4:Be K Ua "needed")
  (a6F:W.exmOne K yA yA=!true)
  (a6E:W.exmOne K uj yA=!false)
  (a6D:W.exmOne K uj uj=!true)
  (Qg:W.nsIn K mainGlobals "len"=!none)
  (MA:W.nsIn K mainGlobals "isinstance"=!none)
  (ZQ:W.nsIn K mainGlobals "str"=!none)
  (ZU:W.nsIn K mainGlobals "all"=!none)
  (Qy:W.nsIn K mainGlobals "list"=!none)
  (Wf:W.nsIn K mainGlobals "int"=!none)
  (Xa:W.nsIn K mainGlobals "bool"=!none)
  (P0:W.nsIn K mainGlobals "enumerate"=!none)
  (Pf:W.nsIn K mainGlobals "range"=!none)
  (ZR:W.nsIn K mainGlobals "min"=!none)
  (RF:W.nsIn K mainGlobals "dict"=!none)
  (U':W.nsIn K mainGlobals "sorted"=!none)
  (U9:W.nsIn K mainGlobals "zip"=!none)
  (We:W.nsIn K mainGlobals "sum"=!none)
  (ZT:W.nsIn K mainGlobals "any"=!none)
  (f0:OD K CP "reads" "Post.reads" dg)
  (f1:OD K CH "reads" "Post.reads" dg)
  (f2:OD K CL "reads" "Listener.reads" b9j)
  (f3:OD K CP "hears" "Post.hears" dh)
  (f4:OD K CH "hears" "House.hears" b9F)
  (f5:OD K CL "hears" "Post.hears" dh)
  (f6:OD K CN "listeners" "Net.listeners" (ao lK 12))
  (f7:OD K CN "home" "Net.home" (ao lK 13))
  (f8:OD K CN "names" "Net.names" (ao lK 11))
  (f9:OD K CN "ties" "Net.ties" (ao lK 14))
  (f10:KU K "standing_ties" (top 70))
  (f11:KU K "ties_by_post" (top 71))
  (f12:KU K "step_over" (top 72))
  (f13:KU K "reached_from" (top 73))
  (f14:KU K "used_with" (top 74))
  (f15:KU K "ties_between" (top 75))
  (f16:KU K "tie_out_of" (top 76))
  (f17:KU K "one_way" (top 77))
  (f18:KU K "parted_ways" (top 78))
  (f19:Dp K "ways" "ways" (top 79))
  (f20:KU K "_law_leads" (top 101))
  (f21:KU K "_law_cut_right" (top 103))
  (f22:KU K "is_name" ia)
  (f23:X9 K CP "Post.__init__" bD)
  (f24:X9 K CH "Post.__init__" bD)
  (f25:X9 K CL "Post.__init__" bD)
  (f26:X9 K CN "Net.__init__" b3K)
  (f27:OD K CN "check_new_name" "Net.check_new_name" (ao lK 4))
  (f28:OD K CN "put_in" "Net.put_in" b8d)
  (f29:OD K CN "post" "Net.post" b8e)
  (f30:OD K CN "listener" "Net.listener" b8f)
  (f31:OD K CN "house" "Net.house" b8g)
  (f32:KU K "is_whole" xE)
  (f33:KU K "is_delay" (top 29))
  (f34:KU K "led_to" (top 30))
  (f35:OD K CN "check_there" "Net.check_there" (ao lK 8))
  (f36:OD K CN "check_ends" "Net.check_ends" (ao lK 7))
  (f37:Zg K CN "tie" "Net.tie" b8h)
  (f38:OD K CN "into" "Net.into" (ao lK 15))
  (f39:OD K CN "out_of" "Net.out_of" (ao lK 16))
  (f40:KU K "first_ready" (top 31))
  (f41:OD K CN "ordered" "Net.ordered" b6U)
  (f42:KU K "mixing_ties" (top 57))
  (f43:KU K "by_number" (top 58))
  (f44:KU K "wanted_lengths" (top 59))
  (f45:KU K "is_number_of" (top 60))
  (f46:KU K "is_row_of" (top 61))
  (f47:KU K "is_prime" (top 38))
  (f48:X9 K CF "Field.__init__" b70)
  (f49:KU K "checked_plan" (top 62))
  (f50:OD K CF "fit" "Field.fit" (ao mH 1))
  (f51:OD K CF "times" "Field.times" (ao mH 4))
  (f52:OD K CF "minus" "Field.minus" (ao mH 3))
  (f53:OD K CF "back" "Field.back" (ao mH 5))
  (f54:KU K "row_sum" (top 41))
  (f55:KU K "column" (top 42))
  (f56:KU K "ones_row" (top 44))
  (f57:KU K "ones" (top 45))
  (f58:KU K "coming_in" (top 63))
  (f59:KU K "flow" (top 64))
  (f60:Dp K "carried" "carried" (top 65))
  (f61:KU K "fitted_row" (top 46))
  (f62:KU K "row_with" (top 47))
  (f63:KU K "scaled" (top 48))
  (f64:KU K "without" (top 49))
  (f65:KU K "cleared" (top 50))
  (f66:KU K "reduced" (top 51))
  (f67:KU K "first_place" (top 52))
  (f68:KU K "lead_places" (top 53))
  (f69:KU K "reader" (top 54))
  (f70:KU K "judgement" (top 67))
  (f71:Dp K "judged" "judged" (top 68))
  (f72:KU K "longer_by_one" (top 2))
  (f73:KU K "choices" (top 3))
  (f74:X9 K CE "Ear.__init__" b8l)
  (f75:OD K CE "shown" "Ear.shown" (ao nO 1))
  (f76:OD K CE "move_front" "Ear.move_front" b8m)
  (f77:KU K "ways_by_choice" (top 82))
  (f78:KU K "message_ties" (top 83))
  (f79:KU K "asks_by_tie" (top 84))
  (f80:KU K "unbarred" (top 85))
  (f81:KU K "multipliers" (top 86))
  (f82:KU K "times_row" (top 43))
  (f83:KU K "mixed_row" (top 87))
  (f84:KU K "made_plan" (top 88))
  (f85:KU K "kept" (top 5))
  (f86:jZ K RA "Cut.__init__" sX)
  (f87:jZ K Ua "SmallPrime.__init__" pQ)
  (f89:Do K "plan_for" "plan_for" iG)
  (f90:KU K "first_deaf" (top 91))
  (f91:KU K "tables_of" (top 92))
  (f92:Do K "stands" "stands" (top 93))
  (f93:KU K "_law_cell_at" (top 95))
  (f94:KU K "_law_stream" (top 96))
  (f95:KU K "_law_net" (top 97))
  (f96:KU K "_law_into" (top 98))
  (f97:KU K "_law_rows" (top 99))
  (f98:KU K "_law_reads" (top 100))
  (f99:KU K "_law_choices" (top 102))
  (a6u:KU K "_law_stood" (top 104))
  (fl:KU K "law" (top 105)):
  ∃ fd:È,a3D/\∀ base:Heap,K.In base->base.Ns mainGlobals mg->K6 l.prog w K mg vQ Ld 10 fa fd A5 (mE K):=by
 let#[fL,fdL,aL,FL]:=fl;let e:=Zw.symm.trans (Gx X G aL)
 cases e;let O:Cl.Ok K pi:=#[NC,YU,YW,YV,Py,Q7,P8,Uu,Uw,Uv,a06,a05,a07]
 let TL:jO mg:=#[Fg X G Qg,Fg X G MA,Fg X G ZQ,Fg X G ZU,Fg X G Qy]
 let TG:EK mg:=#[#[_,Gx X G TF],#[_,Gx X G PD],#[_,Gx X G QN],#[_,Gx X G OP]]
 let TK:Z6 K:=#[Tf]
 let TN:EJ mg:=#[Fg X G MA,Fg X G Wf,Fg X G Xa,Fg X G Qg]
 let TH:Z8 mg:=#[#[_,Gx X G Rp],#[_,Gx X G Pb]]
 let TI:Z7 K:=#[Tg,RT]
 let TS:EI mg:=#[Fg X G RF,Fg X G U']
 let TD:D9 mg:=#[Fg X G RF,Fg X G Qg,Fg X G Qy,Fg X G ZR]
 let TX:wU K mg CF:=#[TQ,Qm,c3f,Fg X G We,Fg X G Qg]
 let TP:a2S K mg CF:=#[TQ,Qm,#[_,Gx X G OQ]]
 let TR:Z5 mg:=#[Fg X G Pf]
 let TA:pJ mg:=#[Fg X G Qg,Fg X G Pf,Fg X G Qy,Fg X G P0,Fg X G Wf,Fg X G U9,Fg X G We]
 let TYy:a2R mg:=#[Fg X G RF]
 let TX9:a2T K mg RA Ua:=#[Gx X G X3,Gx X G Ox,a6F,a6E,a6D,XA1,XA2,XA3,XA4]
 let TE:Ma K mg CE:=#[YX,Ux,RP,c3f,Fg X G ZT,Fg X G Qg,Fg X G P0]
 show#[fdL,λs v=>?_,λbase _ _=>?_]
 ·let#[B8,ju]:=FL.ex;show .of_eq rfl
 ·
  let ch:=λb:zL=>
   letI Bx:Bd:=#[l.prog,w,K,mg,b]
   let fq:=@b1G h Bx X G;let mq:=@b4m Bx;let Za:KJ 1 CP "reads" Ý (Pr<|iC (decide ((CP:Addr)=(⟨CN,CP,CH,CL⟩:Cl).NA))):=mq f0 YU λf fd F=>by rw[show decide ((CP:Addr)=(pi:Cl).NA)=false from gT O .post];show dD (iI F)
   let W9:KJ 1 CH "reads" Ý (Pr<|iC (decide ((CH:Addr)=(⟨CN,CP,CH,CL⟩:Cl).NA))):=mq f1 YW λf fd F=>by rw[show decide ((CH:Addr)=(pi:Cl).NA)=false from gT O .house];show dD (iI F)
   let S6:KJ 1 CL "reads" Ý (Pr<|iC (decide ((CL:Addr)=(⟨CN,CP,CH,CL⟩:Cl).NA))):=mq f2 YV λf fd F=>by rw[show decide ((CL:Addr)=(pi:Cl).NA)=true from gT O .listener];show dD (jx F)
   let Zi:KJ 1 CP "hears" Ý (Pr<|iC (not (decide ((CP:Addr)=(⟨CN,CP,CH,CL⟩:Cl).house)))):=mq f3 YU λf fd F=>by rw[show (not (decide ((CP:Addr)=(pi:Cl).house)))=true from gZ O .post];show dD (iJ F)
   let Wb:KJ 1 CH "hears" Ý (Pr<|iC (not (decide ((CH:Addr)=(⟨CN,CP,CH,CL⟩:Cl).house)))):=mq f4 YW λf fd F=>by rw[show (not (decide ((CH:Addr)=(pi:Cl).house)))=false from gZ O .house];show dD (nC F)
   let Sa:KJ 1 CL "hears" Ý (Pr<|iC (not (decide ((CL:Addr)=(⟨CN,CP,CH,CL⟩:Cl).house)))):=mq f5 YV λf fd F=>by rw[show (not (decide ((CL:Addr)=(pi:Cl).house)))=true from gZ O .listener];show dD (iJ F)
   let Mc:∀ C,ji (pi:Cl) C->KJ 1 C "reads" Ý (Pr<|iC (decide (C=(pi:Cl).NA))):=by
    rintro _ ⟨k,rfl⟩
    cases k with
    | house=>show W9
    | listener=>show S6
    | post=>show Za
   let Md:∀ C,ji (pi:Cl) C->KJ 1 C "hears" Ý (Pr<|iC (not (decide (C=(pi:Cl).house)))):=by
    rintro _ ⟨k,rfl⟩
    cases k with
    | house=>show Wb
    | listener=>show Sa
    | post=>show Zi
   let Jw:=mq f6 NC<|a6c O Mc;let Kj:=mq f7 NC<|a5w O Md;let Ll:=mq f8 NC<|a5h O TL;let JB:=mq f9 NC<|c0H O;let Lq:=fq f10<|a8j JB (c:=pi);let LK:=fq f11<|b4Z TD;let Nh:=fq f12 b7e;let LM:=fq f13<|a30 TL Nh;let Nd:=fq f14<|a86 TS;let LL:=fq f15 b0X;let MG:=fq f16 b0r;let OV:=fq f17<|c2g MG;let Mf:=fq f18<|b3e TL OV;let L8:Kn 4 "ways" â (Pr<|Ms ⟨CN,CP,CH,CL⟩):=b99 f19 X G (λ_ _ _ _ _ _ _ us hl=>Aj us hl λ_ _ _ _=>#[_,2]) λf fd F=>c0l F TL TR.K8 Jw Kj Ll Lq LK LM Nd LL Mf (c:=pi);let PZ:=fq f20<|b1x TA;let ML:=fq f21 (pc TA Jw L8 PZ (c:=pi))
   And.intro Mc (And.intro Md (And.intro Jw (And.intro Kj (And.intro Ll (And.intro JB (And.intro L8 ML))))))
  letI Bx:Bd:=#[l.prog,w,K,mg,vQ]
  let fq:=@b1G h Bx X G;let mq:=@b4m Bx;let iq:=@b9v h Bx X G;let#[Mc,Md,Jw,Kj,Ll,JB,L8,_]:=ch vQ;let OW:=fq f22 λf fd F=>b49 rfl F TL TG TK;let Se:=iq f23 ac λf fd F=>a9Y F O;let QV:=iq f24 ad λf fd F=>a9Y F O;let O7:=iq f25 ah λf fd F=>a9Y F O;let V6:=iq f26 ab λf fd F=>b9Q F O;let JG:=mq f27 NC<|a7l O OW;let Kb:=mq f28 NC<|b3C O TL TG Mc Jw;let O6:=mq f29 NC<|b2b O JG Kb Se;let KY:=mq f30 NC<|b2X O JG Kb O7;let Nn:=mq f31 NC<|a3U O JG Kb Kj QV;let L':=fq f32 λf fd F=>a6I F TN TI;let O4:=fq f33<|a7L TH L';let PU:=fq f34<|b6r TL;let JJ:=mq f35 NC<|b1b O;let Lb:=mq f36 NC<|a6s O Md JJ JB PU;let O5:YS 3 CN "tie" î [.int 1] (rQ ⟨CN,CP,CH,CL⟩):=a21 f37 NC (λ_ _ _ _ _ _ _ _ us hl=>C8 us (Nat.succ.inj hl) λ_ _ _=>#[_,2]) λf fd F=>b39 F O TN TH Lb O4;let La:=mq f38 NC<|MtM JJ JB (c:=pi);let MK:=mq f39 NC<|a3b JJ JB (c:=pi);let Mi:=fq f40<|Loc rfl TL;let Mm:=mq f41 NC<|a8D O TD JB Mi;let JZ:=fq f42<|c05 Kj Mm La MK (c:=pi);let JY:=fq f43<|c19 rfl TS;let L9:=fq f44<|b1J TD JZ JY (c:=pi);let LO:=fq f45<|b9p TX L';let Nl:=fq f46<|Itm rfl TL LO;let O3:=fq f47 a4c;let Kk:=iq f48 al<|b9z TP O3;let LP:=fq f49<|a33 TD Kk L9 Nl (c:=pi);let JA:=mq f50 TQ<|b0O TX;let K0:=mq f51 TQ<|a7e JA;let Mn:=mq f52 TQ<|b6w JA;let MM:=mq f53 TQ<|a8x TX JA K0;let KI:=fq f54<|Own rfl TX JA;let Mt:=fq f55 a3t;let O2:=fq f56<|b1B TX;let Lr:=fq f57<|b3Z TX O2;let Nm:=fq f58 a0y;let Sb:=fq f59<|a9s KI Nm JY;let OY:Kn 5 "carried" Þ (Pr<|jS ⟨CN,CP,CH,CL⟩ mZ):=b99 f60 X G (λ_ _ _ _ _ _ _ us hl=>Ai us hl λ_ _ _ _ _=>#[_,2]) λf fd F=>a03 F TS Kk JZ Sb Lr Mt JY (c:=pi);let MH:=fq f61<|b1c JA;let O0:=fq f62<|a7t TX;let PQ:=fq f63<|c0W K0;let OT:=fq f64<|b2k rfl TX K0 Mn;let OX:=fq f65<|a5k TX PQ OT MM;let OU:=fq f66<|b40 TX MH O0 OX;let Mj:=fq f67<|b32 TX;let Mh:=fq f68<|c0j Mj;let PR:=fq f69<|b4q rfl TX Lr Mh OU;let Nk:=fq f70<|a3q PR;let PV:Kn 8 "judged" Þ (Pr<|Lz ⟨CN,CP,CH,CL⟩ mZ):=b99 f71 X G (λ_ _ _ _ _ _ _ us hl=>Ai us hl λ_ _ _ _ _=>#[_,2]) λf fd F=>a5X F LP Kk OY Jw La Nk (c:=pi);let Ls:=fq f72<|b1S TL;let Ko:=fq f73<|b08 TR JB Ls (c:=pi);let V7:=iq f74 am<|a6o TE Lr;let KG:=mq f75 YX<|a5b TE KI;let Lc:=mq f76 YX<|dD0 rfl TE KG JA;let JV:=fq f77<|c11 Jw L8 (c:=pi);let Ki:=fq f78<|a6N TE;let Ml:=fq f79<|b3o rfl TE TD.Lo Ki JB V7 (c:=pi);let NZ:=fq f80<|a2h rfl TE JA;let Mg:=fq f81<|a8M rfl TE KG JA NZ;let Nf:=fq f82<|c0L KI;let Ni:=fq f83<|a2X TE Nf Mt;let Nj:=fq f84<|b89 rfl TE TD.Lo Ki Lr Ml JZ Mg Ni Lc JY (c:=pi);let QT:=fq f85<|a9V (Fg X G MA) (Fg X G Qy) R9;let V8:CM 2 "Cut" RA ã (Zd RA λl fs=>∃ xs z ys,l=b3H/\fs=(a4i:List (Str×D))):=a3N f86 X G X3 (λ_ _ _ _ _ _ us hl=>Aj us hl λ_ _ _ _=>rfl)<|(v4 EF1 EF2 EF3 QT);let MJ:CM 1 "SmallPrime" Ua ý (Zd Ua λl fs=>∃ i:Int,l=uf/\fs=(uJ:List (Str×D))):=a3N f87 X G Ox (λ_ _ _ _ _ _ us hl=>a3r us hl λ_ _=>rfl)<|(iY EF4);let a68:AD 5 "ways_by_choice" è (V4<|zm ⟨CN,CP,CH,CL⟩ RA):=a92 f77 X G (λ_ _ _ _ _ _ us hl=>C8 us hl λ_ _ _=>rfl) λf fd F=>jy rfl F Jw L8 V8;let O1:AD 7 "plan_for" á (Bp pi CF RA Ua):=c0I f89 X G (λ_ _ _ _ _ _ _ _ us hl=>Aj us hl λ_ _ _ _=>#[_,2]) λf fd F=>(E3 (c:=pi) F TL Kk Ko JV Jw Nj).qx.or<|(v7 (c:=pi) F Kk Ko a68).or (mG (c:=pi) rfl F TL Kk Ko JV Jw MJ);let MI:=fq f90 b1Z;let Ng:=fq f91<|a3p TYy;let PN:Kn 9 "stands" ô (Pr<|m7 (cI ⟨CN,CP,CH,CL⟩) (Lz ⟨CN,CP,CH,CL⟩ mZ)):=a9Z f92 X G (λ_ _ _ _ _ _ _ _ us hl=>Ai us hl λ_ _ _ _ _=>#[_,2]) λf fd F=>c0Y F Ko PV MI Ng;let O9:=fq f93<|a6j TA;let OZ:=fq f94<|c06 TA;let Sf:=fq f95<|a1A TA V6 OZ Nn KY O6 Jw O5 (c:=pi);let Nx:=fq f96 a1O;let QU:=fq f97<|a3V rfl TA Nx;let PY:=fq f98<|a6n rfl TA;let O8:=fq f99 Rea;let PX:=fq a6u<|b5d rfl TA Jw Nx QU PY (c:=⟨CN,CP,CH,CL⟩);show a4d (c:=⟨CN,CP,CH,CL⟩) (C:=CF) TA TX9 O9 Sf Jw O1 PN PX O8 (λb _ _=>(ch b).2.2.2.2.2.2.2) _ _ FL
def walk {l:W.OpenLaw}{K:Params->Ψ}(hn:l.most=!63)(hdf)(hY)(F:∀ (w:World)(mg:Ω)(fa:Addr)(h:Heap),(K w.params).In h->h.Ns mainGlobals mg->mg d.name=!.ref fa->
   ∃ fd:È,a3D/\∀ base:Heap,(K w.params).In base->base.Ns mainGlobals mg->K6 l.prog w qN mg vQ Ld 10 fa fd A5 (mE qN)):
  W.WalkO q loose XP YP l.row.toRowW d [] rY:=
 L2.Vj hn œ hdf (λ_=>#[c2n]) hY F (λ_ _ a ns hl _ hS=>#[a,ns,1,hS,λ_=>rfl]) λ_ _ _ _ _ z=>z
universe K72
end
open PySem PySem.W PyProof.Rows L2
set_option tactic.hygienic true in
set_option maxRecDepth 100000 in
set_option maxHeartbeats 0 in
theorem PySem.Challenge.cw_mixposts_k93_whole_plans_that_stand_fall_holds : PySem.Challenge.rw_mixposts_k93_whole_plans_that_stand_fall.Holds := by
  refine topOfIt ?_
  k_fill
  refine K72.walk (l := PySem.Challenge.rw_mixposts_k93_whole_plans_that_stand_fall) rfl rfl (λw h Y => PySem.W.kIn_of Y) ?F
  case F =>
    intro w mg fa h KX G hmg
    apply K72.all_mk KX G hmg
    all_goals first|(first|apply a3l|apply b1C|apply K72.in0_mk|apply K72.fnD0_mk|apply K72.fnI0_mk|apply K72.meD0_mk|apply K72.xi0_mk|apply Nr.mk|apply Cf.mk|apply Be.mk)<;>(first|k_is|kit_is|kernel_rfl)|k_is|kit_is|skip
    all_goals first|decide|omega|kts_exm|kernel_rfl|(intro h;cases h)
