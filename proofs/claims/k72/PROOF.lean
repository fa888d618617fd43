import PyProof.Rows.All
import Wide.All
import KE.KItem
import KE.RegKTryMore
import KE.RegKIsAll
import KE.KNestM
import KE.KTopLam
import Wide.FinOn
import Lean
import PyProof.EqAt
import PyProof.EqKinds
import PyProof.TupleCall
import PyProof.ZipIter
import PyProof.NeKinds
import PySem.Challenge.RW_mixposts_k72_a_plan_judged_by_its_falls
import PyProof.ExcBaseAll.ValueError
import PyProof.ExcInit
import PyProof.ExcClass2
import PyProof.InstStoreFacts
import KE.KDictList
import PyProof.StrWalks
import PyProof.ConsumeWalk
import PyProof.EnumFor
import PyProof.EnumStmt
import PyProof.StrLawsIdx
import PyProof.SliceStr2
import PyProof.MeetsStr
import PyProof.FactsAll.str_5
import PyProof.StrBlockL
import PyProof.StrLawsTight
import PyProof.FitsReplace
import PyProof.Rows.StrItems
import KE.KIntText
import KE.KDictOf
import PyProof.AttrMissHeap
import KE.KDictSum
import PyProof.Rows.SortWalk
import PyProof.FactsAll.zip
import PyProof.SetKind
import PyProof.SetNew
import PyProof.SetRoads
import PyProof.CollectWalk
import PyProof.Rows.TupIn
import PyProof.DictStraight
import PyProof.Rows.SetFrom
import PyProof.WalkLemmas
import KE.KListMore
import PyProof.SeqI3
import KE.KTryMore
import KE.KEqDict
import PyProof.DictItems
import KE.KPairComp
set_option Elab.async false
set_option linter.all false
set_option maxRecDepth 100000
set_option maxHeartbeats 0
set_option autoImplicit true
set_option compiler.extract_closed false
set_option genSizeOf false
section
open Lean in
local macro_rules|`(command|lay_quick x)=>do
 let t:=`topOfIt
 let ns:=(List.range 1110).map (λi=>t.str s!"o_{i+43}")++[49,90,105,120,135,150,165,180,195,210,225,247,269,291,332,346,404,440,476,698,707,772,848,925,983,1035,1111].map (λi:Nat=>t.str s!"sts_{i}")++[t.str "heap_39",t.str "heap_46",t.str "heap_1153",t.str "view_39",`PySem.Challenge.pw_mixposts_k72_a_plan_judged_by_its_falls]
 return mkNullNode (←ns.toArray.mapM λn=>do return (←`(command|theorem $(mkIdent (.str `PySem.W.Fast s!"tw{n.hash}")):ident:True:=trivial)).raw)
lay_quick x
open PySem PySem.W PyProof.Rows
set_option maxHeartbeats 0
open_top topOfIt for PySem.Challenge.rw_mixposts_k72_a_plan_judged_by_its_falls
end
theorem ß.x (h:True:=by first|exact .inl rfl|exact .inr rfl|assumption):True:=h
abbrev ß:=ß.x._auto_1
theorem ö.x (h:True:=by decide):True:=h
abbrev ö:=ö.x._auto_1
theorem ă.x (h:True:=by intro _;rfl):True:=h
abbrev ă:=ă.x._auto_1
theorem Ą.x (h:True:=by rfl):True:=h
abbrev Ą:=Ą.x._auto_1
theorem ą.x (h:True:=by with_unfolding_all rfl):True:=h
abbrev ą:=ą.x._auto_1
theorem Ć.x (h:True:=by first|exact Or.inl rfl|exact Or.inr (Or.inl rfl)|exact Or.inr (Or.inr rfl)):True:=h
abbrev Ć:=Ć.x._auto_1
theorem ć.x (h:True:=by decide +kernel):True:=h
abbrev ć:=ć.x._auto_1
theorem Ĉ.x (h:True:=by first|exact Or.inl rfl|exact Or.inr rfl):True:=h
abbrev Ĉ:=Ĉ.x._auto_1
theorem ĉ.x (h:True:=by kernel_rfl):True:=h
abbrev ĉ:=ĉ.x._auto_1
theorem Ċ.x (h:True:=by exact λ_ _=>rfl):True:=h
abbrev Ċ:=Ċ.x._auto_1
theorem ċ.x (h:True:=by exact sT _):True:=h
abbrev ċ:=ċ.x._auto_1
theorem Č.x (h:True:=by intro _ _ _ _ h;first|(cases h;subst_vars;rfl;done)|repeat first|(obtain⟨rfl,_⟩:=h;rfl;done)|obtain⟨_,h⟩:=h):True:=h
abbrev Č:=Č.x._auto_1
theorem č.x (h:True:=by intro _ _;rfl):True:=h
abbrev č:=č.x._auto_1
theorem Ď.x (h:True:=by size_fits):True:=h
abbrev Ď:=Ď.x._auto_1
theorem ď.x (h:True:=by exact Nd):True:=h
abbrev ď:=ď.x._auto_1
theorem đ.x (h:True:=by intro _ _ h;cases h <;> rfl):True:=h
abbrev đ:=đ.x._auto_1
theorem ē.x (h:True:=by intro _ _ _ _ _ _ us hl;first|exact len1 us hl λ_=>rfl|exact Em us hl λ_ _=>rfl|exact Ax us hl λ_ _ _=>rfl|exact Aw us hl λ_ _ _ _=>rfl|exact Av us hl λ_ _ _ _ _=>rfl|exact len6 us hl λ_ _ _ _ _ _=>rfl):True:=h
abbrev ē:=ē.x._auto_1
open Lean Parser Tactic in
local macro_rules|`(mutual $cs* end)=>do
 let R:=[Syntax.rewriteBottomUp].getLast!
 let C:=(R (·.setInfo .none) (mkNullNode cs)).getArgs
 let f:=C[0]![1]
 if !f.isOfKind ``Command.example then Macro.throwUnsupported
 let N:=Syntax.node .none
 let J:=λ(a:Array Syntax)=>N `null (mkSepArray a (mkAtom ","))
 let M:=f[1][0].getArgs.foldl (λM s=>let n:=s[1][0].getId;if s.isOfKind ``Term.explicitBinder then M.insert (.str n "b") s else M.insert n s[2][1]) ({}:NameMap Syntax)
 let T:=f[2][1][1][0][0].getSepArgs
 let p:=λu:Syntax=>if u.isIdent then N ``rcasesPat.one #[u] else if u.isOfKind ``Term.hole then u.setKind ``rcasesPat.ignore else if u.isOfKind ``Term.anonymousCtor then N ``rcasesPat.tuple #[u[0],J (u[1].getSepArgs.map λv=>N ``rcasesPatLo #[N ``rcasesPatMed #[mkNullNode #[v]],mkNullNode]),u[2]] else u
 let O:=λq e=>N ``obtain #[mkAtom "let",mkNullNode #[N ``rcasesPatMed #[mkNullNode #[R p q]]],mkNullNode,mkNullNode #[mkAtom ":=",mkNullNode #[e]]]
 let B:=λ(t:Array Syntax) b=>N ``Term.byTactic #[mkAtom "by",N ``tacticSeq #[N ``tacticSeq1Indented #[mkNullNode (mkSepArray (T.extract 0 1++t++(T.extract 1).push (N ``refine #[mkAtom "refine",b])) mkNullNode)]]]
 let F:=λs:Syntax=>
  let k:=s.getKind
  if s.isIdent then(M.find? s.getId).getD s else
  if k==``Term.explicitBinder then
   if s[2].isNone&&s[3].isNone then(M.find? (.str s[1][0].getId "b")).getD s else
   if s[3][0].isOfKind ``Term.binderDefault then(s.setArg 3 mkNullNode).setArg 2 (mkNullNode #[s[2][0],N ``Term.app #[mkIdent `autoParam,mkNullNode #[s[2][1],s[3][0][1]]]]) else s else
  if k==`term!_ then N ``Term.app #[mkIdent `some,mkNullNode #[s[1]]] else
  if k==``Parser.Tactic.show&&!s[1].isOfKind ``Term.paren then
   let s:=s.setKind ``refine
   let a:=s[1]
   match a[0].isNatLit? with
   |some j=>
    let c:=a[1][0]
    let e:=c[1].getSepArgs
    let r:=e.extract j
    s.setArg 1 (N ``Term.app #[mkIdent (.str `El s!"i{j}"),mkNullNode ((e.extract 0 j).push (if r.size==1 then r[0]! else c.setArg 1 (J r)))])
   |_=>s
  else
  if k==`«term#[_,]» then
   let e:=s[1].getSepArgs
   if e.isEmpty then f[1][1][0][1] else N ``Term.anonymousCtor #[s[0],J (e.flatMap λx=>match x.isNatLit? with|some n=>.replicate n (mkIdent `rfl)|_=>#[x]),s[2]] else
  if k==``tacticLet__ then
   let q:=s[2][0]
   if q[0].isOfKind ``Term.anonymousCtor then O q[0] q[4] else s.setKind ``tacticHave__ else
  if k==``Term.let&&s[2][0][0].isOfKind ``Term.anonymousCtor then B #[O s[2][0][0] s[2][0][4]] s[4] else
  if k==``Term.fun&&s[0].isToken "λ" then
   let b:=s[1]
   let(x,t):=b[0].getArgs.foldl (λ(x,t) a=>if a.isOfKind ``Term.anonymousCtor then let z:=mkIdent (.mkSimple s!"ĥ{x.size}");(x.push z,t.push (O a z)) else(x.push (if a.isOfKind ``Term.hole then mkIdent `ĥ else a),t)) (#[],#[])
   s.setArg 1 ((b.setArg 0 (mkNullNode x)).setArg 3 (if t.isEmpty then b[3] else B t b[3])) else
  if k==``tacticSeq1Indented then
   let(o,_):=(s[0].getSepArgs.push .missing).foldl (λ(o,r,n,w) t=>
    if t.isOfKind ``obtain&&t[0].isToken "let" then(o,r.push t,r.size+1,w+t[1][0][0][0][1].getNumArgs)
    else if n>0&&(t.isOfKind ``tacticHave__||(t.getArgs.back?.getD t)[0].isOfKind ``location&&!t.isOfKind ``generalize) then(o,r.push t,n,w)
    else((o++if w<4 then r else T[0:1].toArray++r[0:n].toArray++T[1:].toArray++r[n:].toArray).push t,#[],0,0)) (#[],#[],0,0)
   s.setArg 0 (mkNullNode (mkSepArray o.pop mkNullNode)) else
  if k==``Command.universe then N ``Command.end #[s[0],if s[1][0].getId==`e then mkNullNode else mkNullNode #[s[1][0],mkNullNode]] else
  if k==``Command.declaration then
   let x:=s[1];let t:=x[2]
   if x.isOfKind ``Command.definition then s.setArg 1 (N ``Command.theorem #[x[0],x[1],N ``Command.declSig #[t[0],t[1][0]],x[3]]) else
   let b:=x.isOfKind ``Command.theorem
   let s:=if b then s.setArg 1 (N ``Command.definition #[x[0],x[1],N ``Command.optDeclSig #[t[0],mkNullNode #[t[1]]],x[3],mkNullNode]) else s
   if b||x.isOfKind ``Command.abbrev then s.setArg 0 (s[0].setArg 4 (mkNullNode #[N ``Command.noncomputable #[mkAtom "noncomputable"]])) else s
  else s
 return R F (mkNullNode (C.extract 1))
set_option tactic.hygienic false
mutual
example(w:World)(i:Nat)(t:Tells (ps++N).length ps.length r R)(x:Str)(a:W.nsIn K mainGlobals x=some (some (.ref f)))(b:∀ (f:Addr)(J7:Value)(A:Ë)(outer:List Env)(s:Ê)(H:Hp)(E:XK),Jn k (A.deeper (envOfC ğ (aa st) s.heap.objs.size f J7))->(ps++N).Nodup->OL (dU Ky B.P B.w B.K B.mg B.base (ps++N) ğ (aa st) f J7 A outer s H E).QL (ay st) r)(r:V->List V->Hp->VK->Prop)(H:Hp)(o:Obj)(h:autoParam (X.K=K) Ą)(h':DR H d' v')(d:Addr)(f:Str)(k:∀ i x ε,xs[i]?=some x->I i ε->∃ ε1,q (u x) ε ε1/\∃ ε2,rb ε1 (.nx ε2)/\I (i+1) ε2)(ho:Kz X (compareOp op) r)(ht:∀ cells C s H fp,Nk (aE X scope N' cells C s H fp) ifs tt)(e:f' H H')(hp:PassesOwn X.Ę X.A X.env X.xe)(u:Value)(ok:∀ f fd,Kb Bx.K x ğ st f fd->O7 Ky k f fd ps sp)(mu:Mut (H x))(he:∀ cells C s H fp,PE (aE X scope N' cells C s H fp) elt te)(XZ:∃ u,h'.get? e=some u)(q:∀ x H',f' H H'->DR (grow F H H') d x->Q x H')(n:Nat)(hx:Loc X.env.scope x)(hn:autoParam (x≠"__name__") ö)(l:K.lookup f=some ⟨oc,od,.func (W.fnOf "__init__" ğ (aP st) (ay st) (aa st) .none kV doc pm an J7 ct),KR⟩)(sc:Scope)(m:Nat)(I:Inv X ñ σ H s)(RX:∀ b∈ch,(b∈X.ex\/X.s₀.heap.objs.size<=b)/\b≠X.env.locals/\(∀ x c,X.env.cells.lookup x=some c->c≠b)/\∀ p∈X.pn++ñ,p.1≠b)(slot:Slot T name id)(Jk:MD X.prog X.w H' h')(hg:∀ cells C s H fp,PG (aE X scope N' cells C s H fp) tg g)(h1:s.heap.IsListIter i1 l1 k1)(h2:∀ xs,u≠.tup xs)(hN:X.N.Nodup)(ha:PE X a (tP ra))(hs:autoParam (ĕ X iter) ă)(hi:PI X tg iter (tI ri))(hf:autoParam (Ě X x) ß)(X:Cx)(ñ:ζ)(σ:St)(Q:VK)(s':Ê)(us:θ)(D:ZipApart z TI TO i1 i2 l1 l2)(st:Stmt)(v:V)(hv:PE X value tv)(hd:Vals dvs ds)(Qe:autoParam ((x==("__classdict__":Str))=false) ö)(hm:autoParam (behindInMarks op b=false) ċ)(hb:∀ (T:Addr)(t:Tok)(kV doc pm:Value)(an:ψ)(J7 ct:Value)(us:θ),us.length+1=ps.length->∃ kk,bindArgs (W.fnOf x ğ (aP st) (ay st) (aa st) (.ref T) kV doc pm an J7 ct) ⟨us,[]⟩=seqItems? (.ref T) >>= kk/\kk (some #[.int 0 t])=pure (ps.zip (us++[.int 0 t])))(ta:TE)(hc:X.calm=true)(K:Ψ)(xs:List α)(E:d9 ts nm)(te:TE)(c:W.codeIn K J7 ğ=true)(ts:List (T ν))(Pm:autoParam (Ĕ X e es) Ą)(g:β->α->β)(R:List LT)(lo:(d==sysModules)=false)(hl:ri (ε.map Sl.z) (xs.map u))(PZ:autoParam (ĝ X e2) Ą)(Pv:Nat->Υ)(h0:Pv 0 σ H)(C:Addr)(hh:A.handled=none)(ry:RelV y u)(rx:RelV x v)(hr:Jn k X.A)(outer:List Env)(P:É)(s:f' F H)(F:Jy X.prog X.w X.K X.mg X.base CX k f fd ps sp)(sp:Sp)(dvs:π)(ps:η)(Mm:autoParam (Ė x) ö)(LM:autoParam (Ē X pos es) Ą)(M:Mk X.K C f)(N:JS c H n dp dt S)(mg:Ω)(base:Heap)(scope:Scope)(A:List Ask)(S:Ss F0 H0 F σ H ε)(len:∀ vs H Q E,sp vs H Q E->vs.length=ps.length)(hu:X.A.units+1<cLine)(hz:l9 s.heap z TI TO T b)(fx:dR x=true)(T:Txt Bx.K Bx.mg C)(pa:PlainAttrs T)(Uw:typeOf (.builtin id)=pure (.type "method_descriptor"))(Lu:autoParam (attributeBase o name X.env (eval o X.env)=eval o X.env) Ą)(Md:autoParam ((apos.endLine==JI.line)=true) Ą)(OY:autoParam ((backTo JI (starEach es X.env)).any (·.1)=false) Ą)(hdf:d.params.defaults=[])(hY:∀ (w:World)(h:Heap),YP w h->(K w.params).In h)(j:Nat)(nT:Nat)(js:À)(fin:∀ ε,I xs.length ε->r2 ε f)(hsw:autoParam (swapsWith (.ListComp elt [⟨tg,iter,ifs,0⟩] scope pos) (some (.Name x pos')) SE.line X.env=pure true) Ą)(hK:autoParam (X.K=K) Ą)(p1:p<=1000000)(p2:ķ.map (·.1)=ð.map (·.1))(hB2:B.StaysIn h2)(O:Cl.Ok Bx.K c)(W:WN S h ord R)(hC:s.heap.get? C=some (excClassObj nm q C N bs tl hd sn sub ab col dd k0 k1 k2 k3 k5 newId))(hI:mN "__init__"=some (.ref fI))(hfc:oI.cls=.type "function")(RW:ox.cls=.ref C)(Oi:ox.data=.fields vs)(G:h.Ns mainGlobals Bx.mg)(ķ:List (κ×V))(U':List (TE×TE))(QT:keys.all (·.isSome)=true)(h15:keys.length<=15)(ed:o.data=.dict es ep)(p:Int)(ř:List b5)(bk:Int->Int)(Vp:ps.length<=1000)(hP:My.LL p=true)(Dd:Dm X.prog X.w X.K X.mg X.base k C m ps (Pr R))(hJ:RC F1 J l)(hT:s.heap.get? T=some oT)(hA:A.handled=none)(knd:KeyKind prog w κ)(k':Sv o' ķ)(J:Obj->Addr->It)(p3:Jj F1 (ð.map (·.2)) (ķ.map (·.2)))(fz:Fz X H1 H2 a o ķ)(QU:IsPair s.heap TI (.ref i1) (.ref i2))(OB:s.heap.IsList l1 xs)(Q2:s.heap.IsList l2 ys)(Z:ZS s.heap z TI TO i1 i2 l1 l2 d k)(nd:Nums ts)(bs:List (Str×η))(kt:∀ σ H Q,tP re σ H Q->te σ H Q)(J2:Kj 1 C "fit" é (Pr (OJ C)))(KI:JB 1 "ones_row" Ă (UY iD))(Jw:Kj 2 C "times" ã (Pr (oS C)))(JY:Kj 2 C "minus" ã (Pr (tW C)))(Lc:JB 2 "ones" ["many"] (Pr rD))(JX:JB 2 "lead_places" ["rows","many"] (Pr cN))(Ll:JB 5 "reduced" â (Pr (jV C)))(N7:∀ C,jn c C->Kj 1 C "reads" Ý (Pr (iI (decide (C=c.Nf)))))(Na:∀ C,jn c C->Kj 1 C "hears" Ý (Pr (iI (!decide (C=c.house)))))(Jc:Kj 1 c.JQ "check_there" Ü (Pr (cO c)))(J8:Kj 1 c.JQ "ties" Ý (Pr (jU c)))(JV:Kj 2 c.JQ "home" Ý (Pr (wJ c)))(KL:Kj 2 c.JQ "into" Ü (Pr (rE c NS.into)))(KJ:JB 1 "is_whole" ÿ (Pr iF))(msg:Ξ)(fo:Λ)(Ki:JB 3 "row_sum" û (Pr (i6 C)))(Jr:JB 1 "by_number" ["told"] (Pr cZ))(ms:List Kw)(JK:Sm 2 "Field" C ï (dg C))(Jv:JB 3 "mixing_ties" ["net"] (Pr (jW c ord)))(Mh:JB 1 "column" ["table","place"] (Pr jX))(J1:Kj 2 c.JQ "listeners" Ý (Pr (bA c)))(U:Int->Bool)(L:List (Int×Ask))(way:Ξ)(ê:List JL)(ç:Θ)(ord:List Mk.Kw)(Kf:Kj 4 CE "shown" å (Pr (oU C CE)))(Nu:JB 4 "ways" î (Pr (OE c)))(JT:JB 2 "choices" ù (Pr (i8 c)))(Jp:JB 5 "ways_by_choice" ë (Pr (cw c)))(m1:m<=100)(m2:X.mg x2=some (.ref C2))(d1:autoParam ((x1==("__debug__":Str))=false) ö)(d2:autoParam ((x2==("__debug__":Str))=false) ö)(ch:Ξ)(nums:Ξ)(Lz:JB 8 "judged" à (Pr Rj))(J9:Kj 2 c.JQ "check_new_name" Ü (Pr (bN c)))(JF:Kj 3 c.JQ "put_in" ý (dq c))(kj:∀ a b,kf a=kf b->a=b)(Ng:h∈S.names)(hO:∀ ks∈ç,Su S (some ks) N/\∀ g∈S.Jt,∃ w,bp (aW S.J0 (some ks)) (some h) g N m=.inr w)(Ka:((ç.length * S.Jt.length:Nat):Int)<=p)(TD:Bx.mg "dict"=none)(JJ:JB 1 "message_ties" ["many"] (Pr d6))(pz:S.J'.length<=20)(col:Int->Ξ)(Kq:JB 1 "_law_into" ò (Pr l8))(Nb:JB 2 "_law_rows" á (Pr u0))(Lm:JB 1 "_law_stream" ā (Pr jZ))(TY:(pl.map (·.1)).Nodup)(rl:R.length<=10)(kc:W.keepIn K (.ref C)=true)(cl:MZ Bx.K C)(aC:W.nsIn Bx.K mainGlobals x=some (some (.ref C))){ė:(λx x x x x=>pC 0)}{ę:(A.deeper (envOfC ğ (aa st) s.heap.objs.size f J7))}{Ğ:(by simp)}{Ġ:(model prog w)}{ġ:(by omega)}{Ģ:(.Call (.Name x p) (e::es) [] pos)}{ģ:(aE X scope N' cells C s H fp)}{Ĥ:(model X.prog X.w)}{Ħ:(by simp_all)}{ħ:(W.fnOf x ğ (aP st) (ay st) (aa st) (.ref T) kV doc pm an J7 ct)}{Ĩ:(f'.refl _)}{ĩ:(W.fnOf x ğ (aP st) (ay st) (aa st) .none kV doc pm an J7 ct)}{Ī:(.builtin "object.__setattr__")}{ī:(.Call (.Attribute o m apos) [] [] pos)}{Ĭ:(.Attribute o m apos)}{ĭ:(S.J0.map (·.1))}{Į:(∀ σ' H',N σ' H'->∃ m',m'<m/\W (i+1) m' σ' H')}{į:(λx x x x x=>bX Bx.K rfl<|ae (pC 0) (ae (pC 1) aB))}{İ:(Js hr (Đ 1) bi)}{Ĵ:(backToKw pos (keywordEach [] X.env))}{ĵ:(ts.filter λt=>U t.1)}{Ķ:(ř.getD a [])}{ĸ:(ε.map Sl.a)}{Ĺ:(keywordEach [] X.env)}{ĺ:(aE X scope N' cells C s3 (upd H2 l<|.lst []) fp)}{Ļ:(S.JR.map (·.1))}{ļ:(λx x x x x=>bX Bx.K rfl<|ae (pC 0) (ae (pC 1)<|ae (pC 2) (ae (pC 3) aB)))}{Ľ:(by simpa using hl)}{ľ:(λ(kv:Key×V) (a:Key×α)=>kv.1=a.1/\R H kv.2 a.2)}{Ł:(ķ.map (·.2))}{ł:(λx x x x x=>Đ 0)}{Ń:(.inl rfl)}{ń:(λz=>nomatch z)}{Ņ:(NT.take k)}{ņ:(λ_ z=>nomatch z)}{Ň:(e1.trans e2)}{ň:(dU (Oa P w) P w K mg base N ğ (aa st) f J7 A outer s H E)}{Ŋ:(I.ok.hd hc)}{ŋ:(upd H2 l<|.lst [])}{Ō:(he ñ s σ H _ I h)}{ō:(s.heap.objs.size+1)}{Ŏ:(EP X ñ σ Q)}{ŏ:(.bl (not (decide (as=bs))))}{Ő:(ř.getD i [])}{ő:(Mx.joined t)}{Œ:(grow F H G)}{œ:(λxs H Q=>(∃ p ķ,xs=[.ref p]/\Rd H p (.dK ķ)/\Lj H (.dK (b6 [] ķ)) Q)\/∃ p ķ,xs=[.ref p]/\u9 H p ķ/\ķ.length<=1000/\Lj H (.dK (b6 [] ķ)) Q)}{Ŕ:((.inl r.1:Key),rw r.2)}{ŕ:(ha ñ s σ H _ I h)}{Ŗ:(.bl true)}{ŗ:(grow F H H')}{Ř:(ð.map (·.2))}{Ś:(ķ.map λkv=>kV kv.1)}{ś:(Uh (sk (λε b=>rO (fL false) (rV 10) (rV 4) ε<|.bl b) λε b=>rO (fE false) (rV 12) (rV 5) ε<|.bl b) (wZ<|rC (.bl true)) λε f=>f=.nx ε)}{Ŝ:(getMethod ov m pl)}{ŝ:(.Tuple elts x1 LH)}{Ş:(.type "list")}{ş:(ns.map V.int)}{Š:(da (Đ 2) J4)}{š:(da (Đ 0) J4)}{Ţ:(P.getD i [])}{ţ:(P.getD w [])}{Ť:(.inr "order",aI<|NT.take k)}{ť:(bX Bx.K rfl<|ae (pN 6 ND) (ae (pN 7 ND) aB))}{Ŧ:(λw hw=>gX rx fx r fs w<|by simpa using hw)}{ŧ:(if ([]:List Keyword).isEmpty then 0 else 1)}{Ũ:(λb o hb e=>(sb.2 b hb).trans e)}{ũ:(λx x x x x=>Js hr (Đ 1)<|Đ 0)}{Ū:(λx x=>True)}{ū:(B.getD i [])}{Ŭ:(.bl (decide (as=bs)))}{ŭ:(Js hr (Đ 0) dI)}{Ů:(bJ (bx S) S.names.length)}{ů:(Ja S ns)}{Ű:(bh R (col ch) ord)}{ű:(λb o hb e=>eb b o hb e)}{Ų:(.Compare a [op] [b] pos)}{ų:(s3.heap.push { cls:=.type "dict",data:=.dict [].toArray })}{Ŵ:(λE σ H=>∃ F0 H0,tQ F0 H0 rb E σ H)}{ŵ:(.dK (b6 [] ķ))}{Ŷ:(eB ts (Lh U) N h)}{ŷ:(ha pos ñ s σ H _ I h)}{Ÿ:(starEach (e::es) X.env)}{Ź:((.inl k:Key),D.bl true)}{ź:(Mk.stN p m ç ê ord i)}{Ż:(model P w)}{ż:(by decide)}{Ž:(e1.trans<|e2.trans e3)}{ž:(eY R (col ch) g)}{A0:(.Name x pos)}{A2:(ps.zip us)}{A3:(Mk.lk R k)}{A4:(dU CX P w K mg base N ğ scope f J7 A outer s H E)}{A5:(List.zipWith (λm t=>(m - c * t % p) % p) r lead)}{A6:(da (Đ 1) J4)}{A7:(d7 (ts.filter λt=>Ui t.1) g N h)}{A8:(aW S.J0<|some [])}{A9:(λxs H Q=>(∃ i,xs=[.int i]/\Q (.int i) H)\/∃ k,xs=[.bl k]/\Q (.int (if k then 1 else 0)) H)}{C0:((ord.take n).map (·.1))}{C3:(da (Đ 0)<|da (Đ 7) (da (Đ 1)<|da (Đ 5) J4))}{C4:(a * u - b * v)}{C5:(Jg p m ê T x)}{C6:(start N vs)}{C7:(List.replicate m 0)}{C8:(ç.getD Jm.1 [])}{C9:(vX Bx.K (pv 0) rfl)}{Id:(λr s'=>r=.ok (.ret (.bool true))/\OldK s₁.heap s'.heap/\s'.os=s₁.os/\AllBare s'.gens)}{IO:(λxs H Q=>∃ (p:Addr)(bs:Ð),xs=[.ref p]/\Jq K H p (bs.map V.bl)/\Q (.bl (bs.all id)) H)}{K0:(.For tg iter ss [] pos)}{K2:(fE false)}{K3:(λxs H Q=>∃ (p:Addr)(bs:Ð),xs=[.ref p]/\Jq K H p (bs.map V.bl)/\Q (.bl (bs.any id)) H)}{K4:(aw<|Đ 0)}{K5:(.BoolOp .And (a::b::rest) pos)}{K6:(rO Sub (rO Sub (rV 11)<|rV 12)<|rC (.int 0))}{K7:(λz=>decide (z=x))}{K8:(.inr "net",aD c S)}{K9:(.Assign [.Name x pos'] e pos)}{KB:(.ref s.heap.objs.size)}{KF:(.type "dict")}{KK:(.builtin "len")}{KM:(da (Đ 7) J4)}{L0:(Oa Bx.P Bx.w)}{L1:(λx x x x x=>Js hr (Đ 0) dI)}{L4:(λH' b' N'=>q2 H' ((Qx.of e1).trans b') N')}{L5:(.bl false)}{L6:(k _ _ _ q)}{L7:(.bl (not (decide (a∈as))))}{L8:(λb o hb e=>kk b o (by simpa using hb) e)}{L9:(λxs H Q=>∃ p ys,xs=[.ref p]/\(Jq K H p ys\/LQ K H p ys)/\Q (.int ys.length) H)}{M8:(by simpa using h)}{M9:(ε.set i (.fz d))}{No:(aw<|Đ 1)}{NE:(q1<|qA (aF<|P2 Bx.K Fs FA Fy aH (pv 6) (a9 (Js hr (Đ 8) dI) IZ)) (λ_ _ _ h=>h))}{On:(y / 1009+69621+i)}{Op:(.inr "ties",aJ R)}{Os:(.BoolOp .And (b::rest) pos)}{P3:(.Assign [.Attribute o f pos'] value pos)}{Pi:(o * a+if k=h then 1 else 0)}{Ps:(.type "int")}{PP:(List.take m)}{Re:(ways.take w)}{Sc:(B.getD j [])}{SB:(Xs ha hb I h λv u s2 x y H2 I2 rx ry q=>ho ñ s2 σ H2 x y v u Q I2 rx ry q)}{SC:(λxs H Q=>∃ p ys,xs=[.ref p]/\(Jq K H p ys\/LQ K H p ys)/\Lj H (.lst ys) Q)}{SL:(λq=>decide (q.1=y))}{ST:(λx x x x x=>bF<|PW.pt (UN (dT fO cg (Đ 0) dI)<|fX (dT uQ cg (Đ 0)<|Đ 1)))}{SZ:(QP rfl T.Ju<|da (Đ 2) J4)}{T0:(envOfC ğ scope s.heap.objs.size f cd)}{Tl:(.Subscript a b pos)}{Ty:(.Call (.Name "zip" p) [e1,e2] [] pos)}{TW:(false,eval e X.env)}{Uf:(qr<|Đ 3)}{UF:(da (Đ 3) J4)}{UV:(Js hr (Đ 1)<|Đ 0)}{W1:(aF<|bI (pv 0) J9 hr.m (a9 (pv 1) IZ))}{Wp:(found.take i)}{WF:((R.zipIdx.take i).map<|uF R m p cell)}{WP:(bd (ag S) pl)}{XL:(.ref it)}{XV:(pN 5 ND)}{ZB:(pN 7 ND)}:by lia:=by
 refine Classical.byContradiction fun ĥ=>?_
 refine ĥ ?_
 try clear ĥ
abbrev EV:=@List.length_map
abbrev EW:=@List.getElem?_eq_getElem
abbrev EX:=@PySem.wpAny_bind
abbrev EY:=@List.getElem?_eq_some_iff
abbrev EZ:=@decide_eq_true
abbrev F5:=@decide_eq_false
abbrev F6:=@List.mem_of_getElem?
abbrev F7:=@List.getD_eq_getElem?_getD
abbrev F8:=@List.mem_map
abbrev F9:=@List.map_map
abbrev Fa:=@List.map_append
abbrev Fb:=@List.getElem?_map
abbrev Fc:=@PySem.Heap.get?_push_of_some
abbrev Fd:=@List.mem_map_of_mem
abbrev Fe:=@PySem.PassesOwn.never
abbrev Ff:=@PySem.wpAny_pure
abbrev Fg:=@Nat.le_refl
abbrev Fh:=@List.length_take
abbrev Fj:=@List.length_append
abbrev Fk:=@List.map_cons
abbrev Fm:=@PySem.W.mg_none_of
abbrev Fn:=@List.mem_filter
abbrev Fo:=@Nat.le_trans
abbrev Fp:=@List.mem_cons_of_mem
abbrev Fq:=@of_decide_eq_true
abbrev Fr:=@List.mem_singleton
abbrev Fs:=@PySem.F.plainAttrs_list
abbrev Ft:=@List.append_nil
abbrev Fv:=@List.mem_cons
abbrev Fw:=@List.mem_cons_self
abbrev Fx:=@PySem.Heap.get?_push_size
abbrev Fy:=@PySem.F.type_list_append
abbrev FA:=@PySem.F.slot_list_append
abbrev FB:=@List.length_filter_le
abbrev FC:=@List.mem_append
abbrev FD:=@PySem.Heap.lt_size
abbrev FE:=@List.nodup_append
abbrev FF:=@List.take_length
abbrev FG:=@List.map_congr_left
abbrev FH:=@List.mem_append_right
abbrev FI:=@Option.map_eq_some_iff
abbrev FJ:=@Bool.false_ne_true
abbrev FK:=@List.append_assoc
abbrev FM:=@List.nodup_cons
abbrev FN:=@List.mem_iff_getElem
abbrev FO:=@List.length_range
abbrev FP:=@List.getElem?_append_left
abbrev FQ:=@List.getElem?_append_right
abbrev FR:=@Nat.zero_le
abbrev FS:=@List.mem_range
abbrev FT:=@List.mem_of_find?_eq_some
abbrev FU:=@Int.emod_lt_of_pos
abbrev FV:=@List.mem_append_left
abbrev FW:=@List.length_cons
abbrev FX:=@List.getElem?_take_of_lt
abbrev FY:=@Nat.lt_of_lt_of_le
abbrev FZ:=@List.not_mem_nil
abbrev G9:=@Int.emod_nonneg
abbrev Gd:=@Int.fmod_eq_emod_of_nonneg
abbrev Ge:=@List.take_append_drop
abbrev Gf:=@List.length_singleton
abbrev Gg:=@Nat.ne_of_lt
abbrev Gh:=@Int.dvd_mul_of_dvd_right
abbrev Gi:=@List.getElem_mem
abbrev Gj:=@Int.dvd_of_emod_eq_zero
abbrev Gk:=@PySem.W.mg_of
abbrev Gm:=@List.nil_append
abbrev Gn:=@List.flatMap_append
abbrev Go:=@Bool.eq_iff_iff
abbrev Gp:=@List.filter_cons
abbrev Gq:=@List.find?_eq_none
abbrev Gr:=@List.mem_zipIdx_iff_getElem?
abbrev Gs:=@List.find?_cons
abbrev Gu:=@Option.isSome_iff_exists
abbrev Gv:=@Nat.lt_succ_self
abbrev Gw:=@List.getElem?_eq_none
abbrev Gx:=@PyProof.Rows.callWith_type1
abbrev Gy:=@List.take_add_one
abbrev Gz:=@Int.emod_eq_of_lt
abbrev GA:=@List.map_uncurry_zip_eq_zipWith
abbrev GB:=@PySem.wpAny_Call_Name_kw
abbrev GC:=@PySem.wpAny_holding
abbrev GD:=@List.foldl_cons
abbrev GE:=@List.map_nil
abbrev GF:=@PySem.wpAny_mono
abbrev GG:=@PySem.W.kia_one
abbrev GH:=@List.find?_some
abbrev GI:=@List.all_eq_true
abbrev GJ:=@Int.emod_eq_zero_of_dvd
abbrev GK:=@Bool.and_eq_true
abbrev GL:=@List.take_of_length_le
abbrev GM:=@Int.toNat_natCast
abbrev GN:=@List.of_mem_zip
abbrev GO:=@List.length_zip
abbrev GQ:=@List.drop_eq_getElem_cons
abbrev GR:=@Int.emod_add_mul_ediv
abbrev GS:=@List.filter_append
abbrev GT:=@Nat.ne_of_gt
abbrev GU:=@List.map_take
abbrev GV:=@List.eq_of_mem_replicate
abbrev GW:=@List.size_toArray
abbrev GX:=@List.flatMap_cons
abbrev GY:=@List.replicate_succ
abbrev GZ:=@List.getElem_of_mem
abbrev Ha:=@List.getElem?_range
abbrev Hb:=@List.filter_eq_nil_iff
abbrev Hd:=@Int.dvd_add
abbrev He:=@decide_eq_true_iff
abbrev Hf:=@True.intro
abbrev Hg:=@List.nodup_nil
abbrev Hh:=@List.getElem?_drop
abbrev Hi:=@PySem.wpAny_truthy_bool
abbrev Hk:=@List.pairwise_map
abbrev Hl:=@List.getElem?_set
abbrev Hm:=@List.find?_isSome
abbrev Hn:=@Int.dvd_sub
abbrev Ho:=@Nat.lt_irrefl
abbrev Hq:=@PySem.wpAny_callSpecial?_slot
abbrev Hr:=@decide_eq_decide
abbrev Hs:=@List.mem_flatMap
abbrev Ht:=@PySem.wpAny_typeNameOfWhole_keyiter
abbrev Hu:=@Int.mul_le_mul_of_nonneg_left
abbrev Hv:=@List.zipIdx_append
abbrev Hw:=@PySem.Code.quiet_builtin
abbrev Hx:=@PySem.Calls.callWith_builtin
abbrev Hy:=@Bool.false_eq_true
abbrev Hz:=@PySem.wpAny_passesOwn
abbrev HA:=@Nat.not_lt_zero
abbrev HB:=@List.length_nil
abbrev HD:=@PySem.F.slot_dict_keyiterator_next
abbrev HE:=@List.getElem?_zipWith
abbrev HF:=@List.ext_getElem?
abbrev HG:=@List.Pairwise.map
abbrev HH:=@List.take_zero
abbrev HI:=@List.getElem?_zipIdx
abbrev HJ:=@PySem.wpAny_call_entry
abbrev HK:=@PySem.codeAny_mono
abbrev HL:=@List.lookup_cons
abbrev HM:=@Int.emod_eq_emod_iff_emod_sub_eq_zero
abbrev HN:=@Array.getElem?_eq_getElem
abbrev HP:=@PySem.mem_of_lookup
abbrev HQ:=@List.filter_sublist
abbrev HR:=@List.filterMap_cons
abbrev HS:=@PySem.BindsTo.of_defaults
abbrev HU:=@beq_iff_eq
abbrev HV:=@PySem.W.callWith_K
abbrev HW:=@Nat.lt_of_le_of_lt
abbrev HX:=@List.length_eq_zero_iff
abbrev HY:=@Int.dvd_mul_of_dvd_left
abbrev HZ:=@PySem.wpAny_pyIter_list
abbrev I0:=@PySem.wpAny_loadPart_at
abbrev Ia:=@Nat.succ_mul
abbrev Ib:=@List.take_sublist
abbrev Ie:=@List.forIn_nil
abbrev Ig:=@List.flatten_cons
abbrev Ih:=@List.find?_append
abbrev Ii:=@List.filter_congr
abbrev Ij:=@PySem.Heap.size_push
abbrev Ik:=@PySem.plainObj_wpAny_Assign_Attribute
abbrev Il:=@PySem.wpAny_notOrdered_dict
abbrev Im:=@Nat.le_of_ble_eq_true
abbrev Io:=@List.length_replicate
abbrev Ip:=@PySem.call_meets
abbrev Iq:=@List.length_drop
abbrev Ir:=@List.map_drop
abbrev Iu:=@List.any_cons
abbrev Iv:=@or_false
abbrev Iw:=@if_false
abbrev Ix:=@List.take_append_of_le_length
abbrev Iy:=@List.mem_of_mem_take
abbrev Iz:=@List.mem_erase_of_ne
abbrev IB:=@List.getElem_zipWith
abbrev IC:=@List.getElem?_replicate_of_lt
abbrev ID:=@List.eq_nil_of_length_eq_zero
abbrev IE:=@PySem.wpAny_execs_nil
abbrev IF:=@List.range_succ
abbrev IG:=@List.forIn_cons
abbrev IH:=@beq_eq_false_iff_ne
abbrev II:=@PySem.wpAny_typeOf
abbrev IJ:=@Nat.le_of_lt
abbrev IK:=@Int.zero_add
abbrev IL:=@List.zip_cons_cons
abbrev IM:=@List.map_replicate
abbrev IN:=@List.mem_take_iff_getElem
abbrev IP:=@List.getElem?_zip_eq_some
abbrev IQ:=@PySem.wpAny_newObj_type
abbrev IR:=@PySem.wpAny_field
abbrev IS:=@PySem.wpAny_dictEntries
abbrev IT:=@PySem.sizeLine_eq
abbrev IU:=@Nat.lt_succ_of_lt
abbrev IV:=@List.getElem_take
abbrev IW:=@List.foldl_append
abbrev IX:=@PySem.wpAny_standAt
abbrev IY:=@Int.le_of_dvd
namespace L2
open PySem PySem.Spec PyProof.Rows
abbrev Key:=Sum Int Str
theorem qz:Key->Value->Bool
 | .inl k,v=>Value.isInt k v
 | .inr x,v=>Value.isStrOf x v
theorem a3f (w):Key->Int
 | .inl k=>hashInt k
 | .inr x=>hashStr w x
def bo:∀ {k:Key}{v:Value},qz k v=true->(∃ i t,k=Sum.inl i/\v=Value.int i t)\/(∃ x t,k=Sum.inr x/\v=Value.str x t)
 | .inl i,v,h=>by let#[t,e]:=Value.isInt_shape h;show .inl #[i,t,1,e]
 | .inr x,v,h=>by let#[t,e]:=Value.isStrOf_shape h;show .inr #[x,t,1,e]
def AA (i:Int)(t:Tok):qz (.inl i) (.int i t)=true:=by simp[qz,Value.isInt]
def Az (x)(t:Tok):qz (.inr x) (.str x t)=true:=by simp[qz,Value.isStrOf]
def WH (a b:Int):decide ((Sum.inl a:Key)=Sum.inl b)=(a==b):=by grind
def WC (a b:Str):decide ((Sum.inr a:Key)=Sum.inr b)=decide (a=b):=by grind
def WG (a:Int)(b:Str):decide ((Sum.inl a:Key)=Sum.inr b)=false:=F5 (λq=>nomatch q)
def WD (a:Str)(b:Int):decide ((Sum.inr a:Key)=Sum.inl b)=false:=F5 (λq=>nomatch q)
abbrev _root_.É:=Program
theorem aN (prog:É)(w):PySem.KeyKind prog w Key where
 is:=qz
 hash:=a3f w
 inj:=λv a b ha hb=>by
  rcases bo ha with⟨i,t,rfl,rfl⟩|⟨x,t,rfl,rfl⟩
  ·rcases bo hb with⟨j,u,rfl,e⟩|⟨y,u,rfl,e⟩
   ·injection e with e1 _;rw[e1]
   ·show nomatch e
  ·rcases bo hb with⟨j,u,rfl,e⟩|⟨y,u,rfl,e⟩
   ·show nomatch e
   ·injection e with e1 _;rw[e1]
 byValue:=λk v h=>by
  rcases bo h with⟨i,t,rfl,rfl⟩|⟨x,t,rfl,rfl⟩ <;> rfl
 pyHash:=λhv h=>by
  rcases bo hv with⟨i,t,rfl,rfl⟩|⟨x,t,rfl,rfl⟩
  ·show wpAny_pyHash_int h
  ·show wpAny_pyHash_str h
 eqBool:=λhu hv h=>by
  rcases bo hu with⟨i,t,rfl,rfl⟩|⟨x,t,rfl,rfl⟩
  ·rcases bo hv with⟨j,u,rfl,rfl⟩|⟨y,u,rfl,rfl⟩
   ·rw[WH]at h;show wpAny_eqBool_int h
   ·rw[WG]at h;show SeqAt.EqAt.int_str i t y u _ _ _ _ h
  ·rcases bo hv with⟨j,u,rfl,rfl⟩|⟨y,u,rfl,rfl⟩
   ·rw[WD]at h;show SeqAt.EqAt.str_int x t j u _ _ _ _ h
   ·rw[WC]at h;show wpAny_eqBool_str h
 «strs»:=λk x t v h=>by
  rcases bo h with⟨i,u,rfl,e⟩|⟨y,u,rfl,e⟩
  ·show nomatch e
  ·injection e with e1 _
   subst e1
   cases v <;> rfl
def vC (prog:É)(w)(i:Int)(t:Tok):(aN prog w).is (.inl i) (.int i t)=true:=AA i t
def vB (prog:É)(w)(x)(t:Tok):(aN prog w).is (.inr x) (.str x t)=true:=Az x t
inductive V where
 |non|bl (b:Bool)|int (i:Int)|str (x:Str)|byt (b:Array UInt8)|flt (b:UInt64)|ref (a:Addr)|ty (n:String)
 deriving DecidableEq
theorem RelV:V->Value->Prop
 | .non,u=>u=Value.none
 | .bl b,u=>u=Value.bool b
 | .int i,u=>∃ t,u=Value.int i t
 | .str x,u=>∃ t,u=Value.str x t
 | .byt b,u=>∃ t,u=Value.bytes b t
 | .flt b,u=>∃ t,u=Value.float b t
 | .ref a,u=>u=Value.ref a
 | .ty n,u=>u=Value.type n
abbrev Vals:List V->List Value->Prop:=Paired RelV
def Vals.length (r:Vals xs us):xs.length=us.length:=Paired.length r
abbrev _root_.π:=List V
abbrev _root_.θ:=List Value
def Vals.get:∀ {xs:π}{us:θ}{i:Nat}{x:V},Vals xs us->xs[i]?=!x->∃ u,us[i]?=!u/\RelV x u:=by
 intro xs us i x h
 induction h generalizing i with
 | nil=>intro e;simp at e
 | cons r t ih=>
  intro e
  cases i with
  | zero=>simp_all
  | succ i=>show ih (by simpa using e)
def Vals.set (r:RelV x u):∀ {xs:π}{us:θ} (i:Nat),Vals xs us->Vals (xs.set i x) (us.set i u)
 | _,_,_,.nil=>.nil
 | _,_,0,.cons _ t=>.cons r t
 | _,_,i+1,.cons q t=>.cons q (Vals.set r i t)
def Vals.append:∀ {xs ys:π}{us ws:θ},Vals xs us->Vals ys ws->Vals (xs++ys) (us++ws):=by
 intro xs ys us ws h s
 induction h with
 | nil=>show s
 | cons r _ ih=>show .cons r ih
def Vals.take:∀ {xs:π}{us:θ} (n:Nat),Vals xs us->Vals (xs.take n) (us.take n)
 | _,_,0,_=>.nil
 | _,_,_+1,.nil=>.nil
 | _,_,n+1,.cons r t=>.cons r (Vals.take n t)
def Vals.drop:∀ {xs:π}{us:θ} (n:Nat),Vals xs us->Vals (xs.drop n) (us.drop n)
 | _,_,0,r=>r
 | _,_,_+1,.nil=>.nil
 | _,_,n+1,.cons _ t=>Vals.drop n t
theorem Nt:Option V->Option Value->Prop
 | some v,some u=>RelV v u
 | none,none=>True
 | _,_=>False
theorem KV {κ:Type}:List (κ×V)->List (κ×Value)->Prop:=Paired λ(p:κ×V) (q:κ×Value)=>p.1=q.1/\RelV p.2 q.2
theorem kV:Key->V
 | .inl i=>.int i
 | .inr x=>.str x
abbrev _root_.Ò:=Array Value
abbrev _root_.Î:=List (Str×V)
abbrev _root_.ξ:=List (Key×V)
inductive HO where
 |lst (xs:π)
 |tup (xs:π)
 |dK (ķ:ξ)|dT (ķ:List (List Key×V))
 |set (S:Int->Bool) (n:Nat)
 |ins (C dx:Addr) (fs:Î)
 |own (x:Addr)
 |xd (fs:Î)
 |met (f x:Addr)
 |rng (lo hi:Int)
 |frz (o:Obj) (u:HO)
 |tbl (ps:Ò)
 |ext (φ:Heap->Prop)
abbrev Hp:=Addr->Option HO
theorem upd (H)(a:Addr)(o:HO):Hp:=λb=>if b=a then some o else H b
def af:upd H a o a=!o:=by unfold upd;rw[if_pos rfl]
def a8 (h:b≠a):upd H a o b=H b:=by unfold upd;rw[if_neg h]
def cP {H:Hp}(h:H a=!o)(h':H b=!u)(d:o≠u):a≠b:=by intro e;subst e;rw[h]at h';show d (Option.some.inj h')
def ao {H:Hp}(h:H a=!o)(h':H b=none):a≠b:=by intro e;subst e;rw[h]at h';cases h'
section
variable (P:É)(w:World)
theorem Jl (H)(h:Heap)(a:Addr):HO->Prop
 | .lst xs=>xs.length<=sizeLine/\∃ (its:θ)(n:Nat),Vals xs its/\h.get? a=!{ cls:=.type "list",data:=.seq its.toArray n }
 | .tup xs=>xs.length<=sizeLine/\∃ its:θ,Vals xs its/\IsTup h a its.toArray
 | .dK ķ=>ķ.length<=sizeLine/\(a==sysModules)=false/\∃ vs,KV ķ vs/\h.DictOf (aN P w) a vs
 | .dT ķ=>ķ.length<=sizeLine/\(a==sysModules)=false/\∃ xs:List (List Key×Addr×Value),
   Paired (λ(p:List Key×V) (q:List Key×Addr×Value)=>p.1=q.1/\H q.2.1=!.tup (p.1.map kV)/\RelV p.2 q.2.2) ķ xs/\
   ∃ o es ep,h.get? a=!o/\o.ExactDict/\o.data=.dict es ep/\es.toList=xs.map (entryOfKey (tupleKind (aN P w)))/\(xs.map (·.1)).Nodup
 | .set S n=>h.SetOf (intKind P w) a S n
 | .ins C dx fs=>H dx=!.own a/\fs.length<=1000/\dx≠a/\h.get? a=!W.instObj C dx/\
   ∃ mA,h.Ns1 dx mA/\(∀ f,Nt (fs.lookup f) (mA f))/\PySem.Within mA (fs.map (·.1))
 | .own _=>∃ o,h.get? a=!o
 | .xd fs=>∃ mA,h.Ns1 a mA/\∀ f,Nt (fs.lookup f) (mA f)
 | .rng lo hi=>∃ t u v,h.get? a=!{ cls:=.type "range",data:=.fields [.int lo t,.int hi u,.int 1 v].toArray }
 | .frz o u=>h.get? a=!o/\Jl H h a u
 | .tbl ps=>h.get? a=!{ cls:=.none,data:=.fields ps }
 | .met f x=>h.get? a=!W.methodObj (.ref f) (.ref x)
 | .ext φ=>φ h/\(∃ o,h.get? a=!o)/\∀ h1 h2:Heap,φ h1->(∀ o,h1.get? a=!o->h2.get? a=!o)->φ h2
theorem MD (H)(h:Heap):Prop:=∀ a o,H a=!o->Jl P w H h a o
universe e
def eQ (x:Jl P w H h a o):∃ ob,h.get? a=!ob:=by
 cases o with
 | lst xs=>let⟨_,_,_,_,e⟩:=x;show#[_,e]
 | tup xs=>let⟨_,_,_,ob,e,_⟩:=x;show#[_,e]
 | dK ķ=>let⟨_,_,_,_,o,_,_,e,_⟩:=x;show#[_,e]
 | dT ķ=>let⟨_,_,_,_,o,_,_,e,_⟩:=x;show#[_,e]
 | set S n=>let⟨o,_,_,_,e,_⟩:=x;show#[_,e]
 | ins C dx fs=>let⟨_,_,_,e,_⟩:=x;show#[_,e]
 | own y=>let⟨_,e⟩:=x;show#[_,e]
 | xd fs=>let⟨_,⟨_,_,_,e,_⟩,_⟩:=x;show#[_,e]
 | rng lo hi=>let⟨_,_,_,e⟩:=x;show#[_,e]
 | frz ob u=>let⟨e,_⟩:=x;show#[_,e]
 | tbl ps=>show#[_,x]
 | met f y=>show#[_,x]
 | ext φ=>let⟨_,⟨_,e⟩,_⟩:=x;show#[_,e]
def Jl.lt (x:Jl P w H h a o):a<h.objs.size:=let ⟨_,e⟩:=eQ x;FD e
def Paired.Lg:∀ {l₁:List α}{l₂:List β},Paired F l₁ l₂->(∀ a b,F a b->G a b)->Paired G l₁ l₂:=by
 intro l m h f
 induction h with
 | nil=>show .nil
 | cons r _ ih=>show .cons (f _ _ r) ih
def Paired.imp' (f:∀ a b,F a b->G a b)(r:Paired F l₁ l₂):Paired G l₁ l₂:=Paired.Lg r f
def Jl.Kr (x:Jl P w H h a o)(k:∀ b u,(b=a\/H b=!.own a)->h.get? b=!u->h'.get? b=!u)(ho:∀ b,H b=!.own a->H' b=!.own a)(ht:∀ b xs,H b=!.tup xs->H' b=!.tup xs):Jl P w H' h' a o:=by
 induction o with
 | lst xs=>let⟨z,its,n,r,e⟩:=x;show#[z,its,n,r,k _ _ Ń e]
 | tup xs=>let⟨z,its,r,ob,e,c⟩:=x;show#[z,its,r,ob,k _ _ Ń e,c]
 | dK ķ=>let⟨z,y,vs,r,ob,es,ep,e,c⟩:=x;show#[z,y,vs,r,ob,es,ep,k _ _ Ń e,c]
 | dT ķ=>
  let#[z,y,xs,r,ob,es,ep,e,c]:=x;show#[z,y,xs,Paired.Lg r λp q z=>#[z.1,ht _ _ z.2.1,z.2.2],ob,es,ep,k _ _ Ń e,c]
 | set S n=>let⟨ob,es,ep,t,e,c⟩:=x;show#[ob,es,ep,t,k _ _ Ń e,c]
 | ins C dx fs=>
  let#[d,z,ne,e,mA,#[od,es,ep,e2,c],r]:=x;show#[ho _ d,z,ne,k _ _ Ń e,mA,#[od,es,ep,k _ _ (.inr d) e2,c],r]
 | own y=>let⟨ob,e⟩:=x;show#[ob,k _ _ Ń e]
 | xd fs=>let⟨mA,⟨od,es,ep,e,c⟩,r⟩:=x;show#[mA,#[od,es,ep,k _ _ Ń e,c],r]
 | rng lo hi=>let⟨t,u,v,e⟩:=x;show#[t,u,v,k _ _ Ń e]
 | frz ob u ih=>let⟨e,q⟩:=x;show#[k _ _ Ń e,ih q]
 | tbl ps=>
  let e:=x;show k a _ Ń e
 | met f y=>
  let e:=x;show k a _ Ń e
 | ext φ=>let⟨p,⟨o,e⟩,st⟩:=x;show#[st _ _ p λo q=>k _ _ Ń q,#[o,k _ _ Ń e],st]
def MD.lt (x:MD P w H h)(e:H a=!o):a<h.objs.size:=(x a o e).lt
def MD.fresh (x:MD P w H h)(e:h.objs.size<=a):H a=none:=by
 cases q:H a with
 | none=>rfl
 | some u=>show absurd (FY (x.lt q) e) (Ho _)
def MD.kept (x:MD P w H h)(k:∀ b u,h.get? b=!u->h'.get? b=!u):MD P w H h':=λa o e=>
 (x a o e).Kr (λb u _ q=>k b u q) (λ_ q=>q) λ_ _ q=>q
def MD.laid (x:MD P w H h)(k:∀ b u,h.get? b=!u->h'.get? b=!u)(hp:h.objs.size<=a)(new:Jl P w (upd H a o) h' a o):MD P w (upd H a o) h':=λb u e=>by
 let hn:=x.fresh hp;by_cases hb:b=a
 ·grind [af]
 ·rw[a8 hb]at e;show (x b u e).Kr (λc v _ q=>k c v q) (λc q=>by rw[a8<|ao q hn];show q) λc xs q=>by rw[a8<|ao q hn];show q
theorem Rd (H)(a:Addr)(u:HO):Prop:=H a=!u\/∃ o,H a=!.frz o u
def Rd.ok (r:Rd H a u)(x:MD P w H h):Jl P w H h a u:=by
 rcases r with r|⟨o,r⟩
 ·show x a u r
 ·let#[_,q]:=x a _ r;show q
theorem Mut:Option HO->Prop
 | some (.lst _)=>True
 | some (.dK _)=>True
 | some (.dT _)=>True
 | some (.set _ _)=>True
 | some (.ins _ _ _)=>True
 | some (.ext _)=>True
 | _=>False
def MD.write (ok:MD P w H h)(mu)(he:e=x\/H e=!.own x)(k:∀ b u,b≠e->h.get? b=!u->h'.get? b=!u)(XZ)(new:Jl P w (upd H x o') h' x o'):MD P w (upd H x o') h':=λb u q=>by
 let a25:∀ c y,H c=!.own y->c≠x:=λc y r z=>by subst z;rw[r]at mu;show mu
 let a24:∀ c xs,H c=!.tup xs->c≠x:=λc xs r z=>by subst z;rw[r]at mu;show mu
 by_cases hb:b=x
 ·grind [af]
 ·rw[a8 hb]at q;by_cases Uz:b=e
  ·let q':H b=!.own x:=by
    simp_all
   rw[q]at q';cases q';let#[v,hv]:=XZ;show#[v,by rw[Uz];show hv]
  ·show (ok b u q).Kr (λc v hc r=>k c v ?_ r) (λc r=>by rw[a8<|a25 c b r];show r) λc xs r=>by rw[a8<|a24 c xs r];show r
   grind
abbrev _root_.υ:=List Addr
structure Un (fs ex:υ) (H H':Hp) (h h':Heap):Prop where
 keep:∀ b o,h.get? b=!o->H b=none->b∉fs->b∉ex->h'.get? b=!o
 slot:∀ b o,h.get? b=!o->H b=none->b∈fs->b∉ex->∃ sl,h'.get? b=!{ o with slots:=sl }
 free:∀ b o,h.get? b=!o->H b=none->b∉ex->H' b=none
 there:∀ b o,h.get? b=!o->b∉ex->∃ o',h'.get? b=!o'
 OS:∀ b xs,H b=!.tup xs->H' b=!.tup xs
 Om:∀ b o u,H b=!.frz o u->H' b=!.frz o u
section
variable {fs ex:υ}{H:Hp}{h h':Heap}{a:Addr}{o:HO}
def Un.any (u:Un fs ex H H1 h h1)(q:h.get? b=!ob)(n:H b=none)(hx:b∉ex):∃ sl,h1.get? b=!{ ob with slots:=sl }:=by
 by_cases hb:b∈fs
 ·show u.slot b ob q n hb hx
 ·show#[ob.slots,u.keep b ob q n hb hx]
def Un.kept (k:∀ b u,h.get? b=!u->h'.get? b=!u):Un fs ex H H h h':=
 #[λb ob q _ _ _=>k b ob q,λb ob q _ _ _=>#[ob.slots,k b ob q],λ_ _ _ n _=>n,λb ob q _=>#[ob,k b ob q],λ_ _ q=>q,λ_ _ _ q=>q]
def Un.refl:Un fs ex H H h h:=Un.kept λ_ _ q=>q
def Un.laid (k:∀ b u,h.get? b=!u->h'.get? b=!u)(hp:h.objs.size<=a)(hn:H a=none):Un fs ex H (upd H a o) h h' where
 keep:=λb u q _ _ _=>k b u q
 slot:=λb u q _ _ _=>#[u.slots,k b u q]
 free:=λb u q n _=>by rw[a8<|Gg (FY (FD q) hp)];show n
 there:=λb u q _=>#[u,k b u q]
 OS:=λb xs q=>by rw[a8<|ao q hn];show q
 Om:=λb u xs q=>by rw[a8<|ao q hn];show q
def Un.write (mu)(he:e=x\/H e=!.own x)(k:∀ b u,b≠e->h.get? b=!u->h'.get? b=!u)(XZ):Un fs ex H (upd H x o) h h':=by
 let hx:∀ b,H b=none->b≠x:=λb n z=>by subst z;rw[n]at mu;show mu
 let hb:∀ b,H b=none->b≠e:=λb n z=>by
  simp_all
 let hm:∀ b u,H b=!u->¬ Mut !u->b≠x:=λb u q nm z=>by simp_all
 show#[λb u q n _ _=>k b u (hb b n) q,λb u q n _ _=>#[u.slots,k b u (hb b n) q],λb u q n _=>by rw[a8<|hx b n];show n,λb u q _=>?_,
  λb xs q=>by rw[a8<|hm b _ q λz=>z];show q,λb u xs q=>by rw[a8<|hm b _ q λz=>z];show q]
 by_cases Uz:b=e
 ·subst Uz;show XZ
 ·show#[u,k b u Uz q]
universe e
theorem trk (h:Heap)(H):υ:=(List.range h.objs.size).filter λa=>(H a).isSome
theorem sW (h:Heap)(H):Heap:=W.hideAll h (trk h H)
def AG (h:Heap)(H):(sW h H).objs.size=h.objs.size:=W.hideAll_size _ _
def CK (e:h.get? b=!o)(n:H b=none):(sW h H).get? b=!o:=
 W.hideAll_get _ e λhm=>by
  let q:=(Fn.mp hm).2
  simp_all
def Ei (e:(sW h H).get? b=!o):h.get? b=!o/\H b=none:=by
 let e':=W.of_hideAll _ e;show#[e',?_]
 cases q:H b with
 | none=>rfl
 | some x=>
  let hm:b∈trk h H:=Fn.mpr #[FS.mpr<|FD e',by simp[q]];let z:(sW h H).get? b=none:=W.hideAll_none _ hm;rw[z]at e;cases e
abbrev _root_.Ω:=Str->Option Value
abbrev _root_.Ψ:=W.Frag
structure Mod (K:Ψ) (mg:Ω) (base:Heap):Prop where
 Ur:K.In base
 glob:base.Ns mainGlobals mg
 blt:∃ mb,base.Ns builtinsNs mb/\∀ x:Str,x≠"__name__"->mb x=bootBuiltins x
 nolimit:base.NoLimit
abbrev _root_.Ë:=Around
abbrev _root_.Ê:=Shared
abbrev _root_.ρ:=Value->Shared->Prop
abbrev _root_.η:=List Str
abbrev _root_.ζ:=List (Addr×Obj)
structure Cx where
 prog:É
 w:World
 K:Ψ
 mg:Ω
 base:Heap
 A:Ë
 N:η
 s₀:Ê
 H₀:Hp
 env:Env
 outer:List Env
 stack:List Env
 ex:υ
 fn:Str->Bool
 calm:Bool
 pn:ζ
 xe:ρ
theorem Oo (l:List Env):υ:=l.filterMap (·.frame)
abbrev Cx.fs (X:Cx):υ:=Oo X.outer
theorem Y' (sc)(x):Prop:=sc.names.lookup x=!.local\/sc.names.lookup x=!.cell\/sc.names.lookup x=!.free
theorem Loc (sc)(x):Prop:=sc.names.lookup x=!.local\/sc.names.lookup x=!.cell
theorem Look (env:Env)(h:Heap)(m:Ω)(x)(u):Prop:=
 (env.kindOf x=!.local/\m x=!u)\/((env.kindOf x=!.cell\/env.kindOf x=!.free)/\∃ c,env.cells.lookup x=!c/\h.IsCell c !u)
structure Cx.Ok (X:Cx):Prop where
 mod:Mod X.K X.mg X.base
 kind:X.env.scope.kind=.function
 glob:X.env.globals=mainGlobals
 blt:X.env.builtins=builtinsNs
 above:X.s₀.heap.objs.size<=X.env.locals
 inj:∀ x y c,X.env.cells.lookup x=!c->X.env.cells.lookup y=!c->x=y
 has:∀ x,(X.env.kindOf x=some .cell \/ X.env.kindOf x=!.free)->∃ c,X.env.cells.lookup x=!c
 cab:∀ x c,X.fn x=true->X.env.cells.lookup x=!c->X.s₀.heap.objs.size<=c
 hd:X.calm=true->X.A.handled=none
 frames:X.A.frames=!X.stack
 R9:X.stack=X.outer \/ (X.stack=X.env::X.outer/\X.env.frame=!X.env.locals)
 exf:∀ b∈X.ex,b≠X.env.locals/\∀ x c,X.env.cells.lookup x=!c->c≠b
 bs:∀ b o,X.base.get? b=!o->X.s₀.heap.get? b=!o/\X.H₀ b=none
 So:X.base.objs.size<=X.s₀.heap.objs.size
 Qn:∀ b o,X.base.get? b=!o->b∉X.ex
 S7:∀ b∈X.ex,b∉X.fs
 Nr:X.s₀.heap.FunFrames X.base X.outer
 Tg:∀ b∈X.fs,X.H₀ b=none
abbrev _root_.Ç:=Option V
structure Inv (X:Cx) (ñ:ζ) (σ:List Ç) (H:Hp) (s:Ê):Prop where
 ok:X.Ok
 os:s.os=X.s₀.os
 bare:AllBare s.gens
 base:Un X.fs X.ex X.H₀ H X.s₀.heap s.heap
 loc:∃ m,s.heap.Ns X.env.locals m/\∀ (i:Nat)(x:Str)(v:V),X.N[i]?=!x->σ[i]?=!some v->Y' X.env.scope x->∃ u,RelV v u/\Look X.env s.heap m x u
 cell:∀ x c,X.env.cells.lookup x=!c->∃ v,s.heap.IsCell c v
 free:H X.env.locals=none
 KC:∀ x c,X.env.cells.lookup x=!c->H c=none
 pin:∀ p∈X.pn++ñ,s.heap.get? p.1=!p.2/\H p.1=none/\p.1≠X.env.locals/\p.1∉X.fs/\∀ v,p.2.data≠.cell v
 Jk:MD X.prog X.w H s.heap
 len:σ.length=X.N.length
def Cx.Ok.SN {X:Cx}(ok:X.Ok)(e:X.base.get? b=!o):b∉X.fs:=λhb=>by
 let:=(ok.Nr.mem hb).1
 grind
def Inv.bs (I):∀ b o,X.base.get? b=!o->s.heap.get? b=!o/\H b=none:=λb o e=>
 #[I.base.keep b o (I.ok.bs b o e).1 (I.ok.bs b o e).2 (I.ok.SN e)<|I.ok.Qn b o e,I.base.free b o (I.ok.bs b o e).1 (I.ok.bs b o e).2<|I.ok.Qn b o e]
def Inv.bk (I):∀ b o,X.base.get? b=!o->s.heap.get? b=!o:=λb o e=>(I.bs b o e).1
def Inv.mod (I):Mod X.K X.mg X.base:=I.ok.mod
def Inv.LY (I):X.K.In s.heap:=I.ok.mod.Ur.keeps I.bk
def Inv.lt (I):X.env.locals<s.heap.objs.size:=let ⟨_,hn,_⟩:=I.loc;hn.lt
def Inv.sz (I):X.s₀.heap.objs.size<=s.heap.objs.size:=Fo I.ok.above (IJ I.lt)
def Inv.Za (I)(h:s.heap.objs.size<=a):a∉X.fs:=λhb=>by let#[_,o,ho,_]:=I.ok.Nr.mem hb;show absurd (FY (FD ho)<|Fo I.sz h) (Ho _)
def Inv.Xi (I):∀ x c,X.env.cells.lookup x=!c->c≠X.env.locals:=λx c e z=>by
 let#[v,o,ho,hd]:=I.cell x c e;let#[m,#[o',es,ep,Q1,Po,_],_]:=I.loc
 grind
def Inv.Nr (I):s.heap.FunFrames X.base X.outer:=by
 let all:∀ (l:List Env),(∀ b∈Oo l,b∈X.fs)->X.s₀.heap.FunFrames X.base l->s.heap.FunFrames X.base l:=by
  intro l
  induction l with
  | nil=>intro _ _;trivial
  | cons env r ih=>
   intro hs hl;let#[hk,#[L,o,hf,hn,ho,hd],hr]:=hl;let hL:=hs L (by unfold Oo;rw[HR,hf];show Fw);let#[sl,e]:=I.base.slot L o ho (I.ok.Tg L hL) hL λz=>I.ok.S7 L z hL;show#[hk,#[L,_,hf,hn,e,hd],ih (λb hb=>hs b (by unfold Oo;rw[HR,hf];show Fp _ hb)) hr]
 show all X.outer (λ_ hb=>hb) I.ok.Nr
def Inv.stack (I):s.heap.FunFrames X.base X.stack:=by
 rcases I.ok.R9 with e|⟨e,hf⟩
 ·rw[e];show I.Nr
 ·rw[e];let#[m,hn,_]:=I.loc;show .cons (by rw[I.ok.kind];decide) hf hn ?_ I.Nr;show Heap.get?_none_of_le (Fo I.ok.So I.ok.above)
def Inv.QF (I):∀ b∈Oo X.stack,b∈X.env.locals::X.fs:=λb hb=>by
 rcases I.ok.R9 with e|⟨e,hf⟩
 ·simp_all
 ·rw[e]at hb;unfold Oo at hb;rw[HR,hf]at hb;show hb
def Inv.NN (I):∀ b∈Oo X.stack,H b=none:=λb hb=>by
 rcases Fv.mp (I.QF b hb) with e|hb
 ·rw[e];show I.free
 ·let#[_,o,ho,_]:=I.ok.Nr.mem hb;show I.base.free b o ho (I.ok.Tg b hb) λz=>I.ok.S7 b z hb
def Inv.step {ch:υ}(I)(RX)(keep:∀ b o,b≠X.env.locals->b∉X.fs->b∉ch->s.heap.get? b=!o->H b=none->h'.get? b=!o)(slot:∀ b o,b≠X.env.locals->b∈X.fs->b∉ch->s.heap.get? b=!o->H b=none->∃ sl,h'.get? b=!{ o with slots:=sl })(free:∀ b o,b∉ch->s.heap.get? b=!o->H b=none->H' b=none)(there:∀ b o,b∉ch->s.heap.get? b=!o->∃ o',h'.get? b=!o')(OS:∀ b xs,H b=!.tup xs->H' b=!.tup xs)(Om:∀ b o u,H b=!.frz o u->H' b=!.frz o u)(ns:∀ m,s.heap.Ns X.env.locals m->h'.Ns X.env.locals m)(Jk)(hg:AllBare g'):
  Inv X ñ σ H' { s with heap:=h',gens:=g',drawn:=d',toks:=t' }:=by
 let XN:∀ b o,X.s₀.heap.get? b=!o->b≠X.env.locals:=λb o e=>Gg<|FY (FD e) I.ok.above;let neC:∀ b o,X.s₀.heap.get? b=some o->b∉X.ex->b∉ch:=λb o e hx hb=>by
  rcases (RX b hb).1 with z|z
  ·show hx z
  ·show absurd (FY (FD e) z) (Ho _)
 let cellK:∀ x c,X.env.cells.lookup x=!c->∀ v,s.heap.IsCell c v->h'.IsCell c v:=λx c e v gR=>by
  let#[o,ho,hd]:=gR;let Zd:=λz=>(RX c z).2.2.1 x c e rfl;by_cases hc:c∈X.fs
  ·let#[sl,q]:=slot c o (I.Xi x c e) hc Zd ho<|I.KC x c e;show#[_,q,hd]
  ·show#[o,keep c o (I.Xi x c e) hc Zd ho<|I.KC x c e,hd]
 show#[I.ok,I.os,hg,#[λb o e n hb hx=>?_,λb o e n hb hx=>?_,λb o e n hx=>?_,λb o e hx=>?_,λb xs e=>OS b xs<|I.base.OS b xs e,λb o xs e=>Om b o xs<|I.base.Om b o xs e],?_,λx c e=>?_,?_,λx c e=>?_,λp hp=>?_,Jk,I.len]
 ·show keep b o (XN b o e) hb (neC b o e hx) (I.base.keep b o e n hb hx) (I.base.free b o e n hx)
 ·let#[sl,e1]:=I.base.slot b o e n hb hx;let#[YC,e2]:=slot b _ (XN b o e) hb (neC b o e hx) e1<|I.base.free b o e n hx;show#[YC,e2]
 ·let#[o',e1]:=I.base.there b o e hx;show free b o' (neC b o e hx) e1 (I.base.free b o e n hx)
 ·let#[o',e1]:=I.base.there b o e hx;show there b o' (neC b o e hx) e1
 ·let#[m,hn,hl]:=I.loc;show#[m,ns m hn,λi x v e1 e2 e3=>?_];let#[u,r,l]:=hl i x v e1 e2 e3;show#[u,r,?_];rcases l with l|⟨k,c,e,z⟩
  ·show .inl l
  ·show .inr #[k,c,e,cellK x c e _ z]
 ·let#[v,z]:=I.cell x c e;show#[v,cellK x c e v z]
 ·let#[m,#[o,_,_,ho,_],_]:=I.loc;show free _ o (λz=>(RX _ z).2.1 rfl) ho I.free
 ·let#[v,o,ho,hd]:=I.cell x c e;show free c o (λz=>(RX c z).2.2.1 x c e rfl) ho (I.KC x c e)
 ·let#[e,n,ne,nf,d]:=I.pin p hp;let Zd:=λz=>(RX p.1 z).2.2.2 p hp rfl;show#[keep p.1 p.2 ne nf Zd e n,free p.1 p.2 Zd e n,ne,nf,d]
def Inv.un (I)(u:Un X.fs [] H H' s.heap h')(Jk):Inv X ñ σ H' { s with heap:=h',toks:=t' }:=by
 let#[m,#[o,es,ep,ho,r],_]:=id I.loc;let#[sl,hL]:=u.any ho I.free Ğ;show I.step (ch:=[]) ņ (λb o _ hb _ e n=>u.keep b o e n hb<|by simp) (λb o _ hb _ e n=>u.slot b o e n hb<|by simp) (λb o _ e n=>u.free b o e n<|by simp) (λb o _ e=>u.there b o e<|by simp) u.OS u.Om (λm' hm=>by let#[o',es',ep',Q1,r']:=hm;rw[ho]at Q1;cases Q1;show#[_,es',ep',hL,r']) Jk I.bare
def Inv.call (I)(u:Un (Oo X.stack) ch H H' s.heap h')(Jk)(hg:AllBare g')(RX):
  Inv X ñ σ H' { s with heap:=h',gens:=g',drawn:=d',toks:=t' }:=by
 let#[m,#[o,es,ep,ho,r],_]:=id I.loc;let#[sl,hL]:=u.any ho I.free λz=>(RX _ z).2.1 rfl;show I.step RX (λb o hL hb hc e n=>u.keep b o e n (λz=>(Fv.mp<|I.QF b z).elim hL hb) hc) (λb o _ _ hc e n=>u.any e n hc) (λb o hc e n=>u.free b o e n hc) (λb o hc e=>u.there b o e hc) u.OS u.Om (λm' hm=>by let#[o',es',ep',Q1,r']:=hm;rw[ho]at Q1;cases Q1;show#[_,es',ep',hL,r']) Jk hg
def Inv.turned (I)(k:∀ b o,b≠it->s.heap.get? b=!o->h'.get? b=!o)(hn:H it=none)(hL:it≠X.env.locals)(h1:it∈X.ex\/X.s₀.heap.objs.size<=it)(h2:∀ x c,X.env.cells.lookup x=!c->c≠it)(h3:∀ p∈X.pn++ñ,p.1≠it):Inv X ñ σ H { s with heap:=h',toks:=t' }:=by
 let nit:∀ b u,H b=!u->b≠it:=λb u e z=>by grind
 show I.step (ch:=[it]) (λb hb=>?_) (λb o _ _ hc e _=>k b o (λz=>hc<|by simp[z]) e) (λb o _ _ hc e _=>#[o.slots,k b o (λz=>hc<|by simp[z]) e]) (λ_ _ _ _ n=>n)
  (λb o hc e=>#[o,k b o (λz=>hc<|by simp[z]) e]) (λ_ _ e=>e) (λ_ _ _ e=>e) (λm hm=>?_) (λb u e=>?_) I.bare
 ·let e:b=it:=by simpa using hb
  subst e;show#[h1,hL,h2,h3]
 ·let#[o,es,ep,ho,r]:=hm;show#[o,es,ep,k _ o (Ne.symm hL) ho,r]
 ·show (I.Jk b u e).Kr (λc v hc q=>k c v ?_ q) (λ_ q=>q) λ_ _ q=>q;rcases hc with z|z
  ·rw[z];show nit b u e
  ·show nit c _ z
def Inv.tok (I)(t:Nat):Inv X ñ σ H { s with toks:=t }:=I.un (h':=s.heap) (t':=t) Un.refl I.Jk
def Inv.kept (I)(k:∀ b u,s.heap.get? b=!u->h'.get? b=!u):Inv X ñ σ H { s with heap:=h',toks:=t' }:=I.un (Un.kept k) (I.Jk.kept k)
def Inv.laid (I)(k:∀ b u,s.heap.get? b=!u->h'.get? b=!u)(hp:s.heap.objs.size<=a)(new:Jl X.prog X.w (upd H a o) h' a o):
  Inv X ñ σ (upd H a o) { s with heap:=h',toks:=t' }:=I.un (Un.laid k hp<|I.Jk.fresh hp) (I.Jk.laid k hp new)
def Inv.write (I)(mu)(he:e=x\/H e=!.own x)(k:∀ b u,b≠e->s.heap.get? b=!u->h'.get? b=!u)(XZ)(new:Jl X.prog X.w (upd H x o) h' x o):Inv X ñ σ (upd H x o) { s with heap:=h',toks:=t' }:=I.un (Un.write mu he k XZ) (I.Jk.write mu he k XZ new)
def Inv.Rf (I)(h:∀ p∈NU,s.heap.get? p.1=!p.2/\H p.1=none/\p.1≠X.env.locals/\p.1∉X.fs/\∀ v,p.2.data≠.cell v):Inv X NU σ H s:=
 #[I.ok,I.os,I.bare,I.base,I.loc,I.cell,I.free,I.KC,λp hp=>(FC.mp hp).elim (λz=>I.pin p<|FV _ z)<|h p,I.Jk,I.len]
def vj {N:η}(hN:N.Nodup){i:Nat}(a:N[i]?=!x)(b:N[j]?=!x):i=j:=by let#[h1,e1]:=EY.mp a;let#[h2,e2]:=EY.mp b;show (List.getElem_inj hN).mp (e1.trans e2.symm)
def Inv.unS (I)(ha:∀ b o,X.s₀.heap.get? b=!o->b≠a)(hs:Heap.SameBut a s.heap h'):Un X.fs X.ex X.H₀ H X.s₀.heap h':=
 #[λb o e n hb hx=>(hs.2 b<|ha b o e).trans<|I.base.keep b o e n hb hx,λb o e n hb hx=>let ⟨sl,e1⟩:=I.base.slot b o e n hb hx;#[sl,(hs.2 b<|ha b o e).trans e1],I.base.free,λb o e hx=>let ⟨o',e1⟩:=I.base.there b o e hx;#[o',(hs.2 b<|ha b o e).trans e1],I.base.OS,I.base.Om]
abbrev _root_.Ě (X:L2.Cx)(x:PySem.Str):Prop:=X.fn x=true\/X.env.scope.names.lookup x=!.local
def pW (I)(hN)(hi:X.N[i]?=!x)(hx)(r:RelV v u)(h:∀ s',Inv X ñ (σ.set i !v) H s'->(∃ a,Heap.SameBut a s.heap s'.heap/\(a=X.env.locals\/X.env.cells.lookup x=!a))->Q () s')(hf):wpAny M A (storeName X.env x u) Q E s:=by
 let#[m,hn,hl]:=id I.loc;let a4a:(X.env.scope.kind==.class || (X.env.scope.kind==.module&&X.env.locals != X.env.globals))=false:=by rw[I.ok.kind];rfl
 let hiσ:i<σ.length:=by rw[I.len];show (EY.mp hi).1
 let Xi:=I.Xi;let tracked:∀ {a:Addr}{h':Heap},(∃ o,s.heap.get? a=!o/\H a=none)->Heap.SameBut a s.heap h'->MD X.prog X.w H h':=λ{a h'} ha hs b ob e=>by
  let#[_,_,a6e]:=ha;show (I.Jk b ob e).Kr (λc w' hc q=>(hs.2 c ?_).trans q) (λ_ q=>q) λ_ _ q=>q
  grind
 rcases hx with hk|hk
 ·show wpAny_storeName_local hk hn (λh' Ru hs=>?_) a4a;let#[oL,_,_,ZU,_]:=id hn;show h _ #[I.ok,I.os,I.bare,I.unS (λb o e=>Gg<|FY (FD e) I.ok.above) hs,⟨_,Ru,λj y v' e1 e2 e3=>?_⟩,λy c e=>?_,I.free,I.KC,λp hp=>?_,tracked #[oL,ZU,I.free] hs,by simpa using I.len] #[_,hs,.inl rfl]
  ·by_cases hj:j=i
   ·subst hj;rw[hi]at e1;cases e1;rw[List.getElem?_set_self hiσ]at e2
    cases e2;show#[u,r,.inl #[hk,by simp]]
   ·rw[List.getElem?_set_ne<|Ne.symm hj]at e2;let#[u',r',q]:=hl j y v' e1 e2 e3;show#[u',r',?_];rcases q with⟨k,e⟩|⟨k,c,e,z⟩
    ·show .inl #[k,?_];let:y≠x:=λe=>hj<|vj hN e1 (e▸hi);simp[this,e]
    ·show .inr #[k,c,e,z.sameBut hs<|Xi y c e]
  ·let#[w',z]:=I.cell y c e;show#[w',z.sameBut hs<|Xi y c e]
  ·let#[e,n,ne,nf,d]:=I.pin p hp;show#[(hs.2 p.1 ne).trans e,n,ne,nf,d]
 ·let hfn:X.fn x=true:=by
   grind
  let#[c,hc]:=I.ok.has x<|.inl hk;let#[w',z]:=I.cell x c hc;show wpAny_storeName_cell I.ok.kind hk hc z (λh' Nh hs=>?_);let#[oc,hoc,a8L]:=id z;show h { s with heap:=h' } #[I.ok,I.os,I.bare,I.unS (λb o e=>Gg<|FY (FD e) (I.ok.cab x c hfn hc)) hs,#[m,hn.sameBut hs<|Ne.symm (Xi x c hc),λj y v' e1 e2 e3=>?_],λy c' e=>?_,I.free,I.KC,λp hp=>?_,tracked #[oc,hoc,I.KC x c hc] hs,by simpa using I.len] #[c,hs,.inr hc]
  ·by_cases hj:j=i
   ·subst hj;rw[hi]at e1;cases e1;rw[List.getElem?_set_self hiσ]at e2
    cases e2;show#[u,r,.inr #[.inl hk,c,hc,Nh]]
   ·rw[List.getElem?_set_ne<|Ne.symm hj]at e2;let#[u',r',q]:=hl j y v' e1 e2 e3;show#[u',r',?_];rcases q with q|⟨k,c',e,z'⟩
    ·show .inl q
    ·show .inr #[k,c',e,z'.sameBut hs ?_];rintro rfl;show hj (vj hN e1<|I.ok.inj _ _ _ e hc▸hi)
  ·by_cases hcc:c'=c
   ·subst hcc;show#[_,Nh]
   ·let#[w2,z2]:=I.cell y c' e;show#[w2,z2.sameBut hs hcc]
  ·let#[e,n,ne,nf,d]:=I.pin p hp;show#[(hs.2 p.1 ?_).trans e,n,ne,nf,d];intro q
   simp_all
def mP (I)(hN)(hi:X.N[i]?=!x)(hx)(r:RelV v u)(h:∀ s',Inv X ñ (σ.set i !v) H s'->Q () s')(hf):wpAny M A (storeName X.env x u) Q E s:=
 pW I hN hi hx r (λs' I' _=>h s' I') hf
def Inv.P1 (I)(ho:s'.os=s.os)(u:Un (Oo X.stack) ch H H' s.heap s'.heap)(Jk:MD X.prog X.w H' s'.heap)(hg:AllBare s'.gens)(RX):Inv X ñ σ H' s':=by let#[h',g',d',t',o']:=s';let e:=ho;subst e;show I.call u Jk hg RX
abbrev _root_.Ø:=Hp->Prop
abbrev XK:=Value->Option Addr->Ø
abbrev St:=List Ç
abbrev VK:=V->Ø
abbrev TE:=St->Hp->VK->Prop
abbrev _root_.Ö:=Bool->Ø
abbrev TT:=St->Hp->Ö->Prop
abbrev TA:=St->Hp->(List V->Ø)->Prop
abbrev _root_.Υ:=St->Ø
structure d9 where
 nx:Υ
 rt:VK
 bk:Υ:=λ_ _=>False
 ct:Υ:=λ_ _=>False
abbrev TS:=d9->Υ
theorem EP (X)(ñ)(σ)(Q)(u)(s'):Prop:=∃ v H',Inv X ñ σ H' s'/\RelV v u/\Q v H'
theorem TP (X)(ñ)(σ)(Q:Ö)(b:Bool)(s'):Prop:=∃ H',Inv X ñ σ H' s'/\Q b H'
theorem AP (X)(ñ)(σ)(Q:List V->Ø)(us)(s'):Prop:=∃ vs H',Inv X ñ σ H' s'/\Vals vs us/\Q vs H'
theorem SP (X)(ñ)(D:d9)(f:Flow)(s'):Prop:=
 match f with
 | .next=>∃ σ' H',Inv X ñ σ' H' s'/\D.nx σ' H'
 | .brk=>∃ σ' H',Inv X ñ σ' H' s'/\D.bk σ' H'
 | .cont=>∃ σ' H',Inv X ñ σ' H' s'/\D.ct σ' H'
 | .ret u=>∃ v σ' H',Inv X ñ σ' H' s'/\RelV v u/\D.rt v H'
theorem PE (X)(e:Expr)(t:TE):Prop:=
 ∀ (ñ:ζ)(s:Ê)(σ:St)(H:Hp)(Q:VK),Inv X ñ σ H s->t σ H Q->wpAny Ĥ X.A (eval e X.env) Ŏ X.xe s
theorem PT (X)(e:Expr)(t:TT):Prop:=
 ∀ (ñ:ζ)(s:Ê)(σ:St)(H:Hp)(Q:Ö),Inv X ñ σ H s->t σ H Q->wpAny Ĥ X.A (isTrue e X.env (eval e X.env)) (TP X ñ σ Q) X.xe s
theorem PW (X)(e:Expr)(t:TT):Prop:=
 ∀ (whole:Sem Value)(ñ:ζ)(s:Ê)(σ:St)(H:Hp)(Q:Ö),Inv X ñ σ H s->t σ H Q->wpAny Ĥ X.A (isTrue e X.env whole) (TP X ñ σ Q) X.xe s
def PW.pt (h:PW X e t):PT X e t:=h _
abbrev _root_.Ì:=List Expr
theorem PA (X)(es:Ì)(t:TA):Prop:=
 ∀ (pos:Pos)(ñ:ζ)(s:Ê)(σ:St)(H:Hp)(Q:List V->Ø),Inv X ñ σ H s->t σ H Q->wpAny Ĥ X.A (spliced (backTo pos (starEach es X.env))) (AP X ñ σ Q) X.xe s
theorem PS (X)(st)(t:TS):Prop:=
 ∀ (ñ:ζ)(s:Ê)(σ:St)(H:Hp)(D:d9),Inv X ñ σ H s->t D σ H->wpAny Ĥ X.A (exec st X.env) (SP X ñ D) X.xe s
abbrev _root_.Í:=List Stmt
theorem Nj (X)(st:Í)(t:TS):Prop:=
 ∀ (ñ:ζ)(s:Ê)(σ:St)(H:Hp)(D:d9),Inv X ñ σ H s->t D σ H->wpAny Ĥ X.A (execs st X.env) (SP X ñ D) X.xe s
def Jx (h:wpAny M A t Q E s)(hQ:∀ a s,Q a s->Q' a s):wpAny M A t Q' E s:=GF h hQ λ_ _ x=>x
section
variable {X:Cx}
theorem rM (i):TE:=λσ H Q=>∃ v,σ[i]?=!some v/\Q v H
theorem tC (v):TE:=λ_ H Q=>Q v H
abbrev _root_.Ė (x:PySem.Str):Prop:=(x==("__debug__":PySem.Str))=false
def W8 (hN:X.N[i]?=!x)(hv:Y' X.env.scope x)(hd:Ė x:=ö)(Qe):PE X A0 (rM i):=by
 intro ñ s σ H Q I h;let#[v,e,h]:=h;let#[m,hn,hl]:=I.loc;let#[u,r,l]:=hl i x v hN e hv;let fin:EP X ñ σ Q u s:=#[v,H,I,r,h]
 rcases l with⟨hk,hm⟩|⟨hk,c,hc,Rw⟩
 ·show wpAny_Name (wpAny_loadName_local I.ok.kind hk hn hm fin) hd
 ·rcases hk with hk|hk
  ·show wpAny_Name (wpAny_loadName_cell I.ok.kind hk hc Rw fin) hd
  ·show wpAny_Name (wpAny_loadName_free I.ok.kind hk hc Rw fin Qe) hd
def bf {i j pos}:PE X (.Constant (.int i) j pos) (tC (.int i)):=λ_ _ _ H _ I h=>wpAny_Constant_int #[.int i,H,I.tok _,#[_,1],h]
def qh {b j pos}:PE X (.Constant (.bool b) j pos) (tC (.bl b)):=λ_ _ _ H _ I h=>Constant_bool #[.bl b,H,I,1,h]
def xa {j pos}:PE X (.Constant .none j pos) (tC .non):=λ_ _ _ H _ I h=>Constant_none #[.non,H,I,1,h]
def x9 {x j pos}:PE X (.Constant (.str x) j pos) (tC (.str x)):=λ_ _ _ H _ I h=>Calls.Constant_str #[.str x,H,I.tok _,#[_,1],h]
theorem Gl (X)(x):Prop:=X.env.kindOf x=!.globalImplicit
abbrev _root_.L2.Cx.Ę (X:L2.Cx):=model X.prog X.w
def dj (I)(hg:Gl X x)(hm:X.mg x=!u)(h:Q u s)(hd:Ė x:=ö):wpAny X.Ę X.A (eval A0 X.env) Q E s:=
 Calls.Name_function_global I.ok.kind hg (Calls.loadGlobal_global (by rw[I.ok.glob];show I.mod.glob.keeps I.bk) hm h) hd
def ga (I)(hg:Gl X x)(hm:X.mg x=none)(hv:bootBuiltins x=!u)(h:Q u s)(hn)(hd:Ė x:=ö):wpAny X.Ę X.A (eval A0 X.env) Q E s:=by let#[mb,h1,h2]:=I.mod.blt;show Calls.Name_function_global I.ok.kind hg (Calls.loadGlobal_builtin (by rw[I.ok.glob];show I.mod.glob.keeps I.bk) hm (by rw[I.ok.blt];show h1.keeps I.bk) ((h2 x hn).trans hv) h) hd
def fZ (hg:Gl X x)(hm:X.mg x=!u)(r:RelV v u)(hd:Ė x:=ö):PE X A0 (tC v):=
 λ_ _ _ H _ I h=>dj I hg hm #[v,H,I,r,h] hd
def mh (hg:Gl X x)(hm:X.mg x=none)(hv:bootBuiltins x=!u)(r:RelV v u)(hn)(hd:Ė x:=ö):PE X A0 (tC v):=
 λ_ _ _ H _ I h=>ga I hg hm hv #[v,H,I,r,h] hn hd
variable {ta tb:TE}
theorem tB (t:TE):TT:=λσ H Q=>t σ H λx H1=>∃ c,x=.bl c/\Q c H1
def cL (h:PE X e t)(he:∀ whole,isTrue e X.env whole=(do let v <- whole;standAt e.pos;holding [v] (truthy v)):=ă):PT X e (tB t):=by
 intro ñ s σ H Q I hw;show isTrue_plain (Jx (h ñ s σ H _ I hw) λv s1 gR=>?_)<|he _;let#[x,H1,I1,r1,q1]:=gR;let#[d,1,q]:=q1
 cases r1;show Hi #[H1,I1,q]
theorem a2z (t u:TT):TT:=λσ H Q=>t σ H λc H1=>if c=true then u σ H1 Q else Q false H1
theorem tOr (t u:TT):TT:=λσ H Q=>t σ H λc H1=>if c=true then Q true H1 else u σ H1 Q
theorem a2u (t:TT):TT:=λσ H Q=>t σ H λc H1=>Q (not c) H1
def bS (ha:PT X a tA):PW X (.BoolOp .And [a] pos) tA:=by
 intro wh ñ s σ H Q I h;show isTrue_and (Jx (ha ñ s σ H Q I h) λc s1 e=>?_)
 cases c with
 | true=>show isTrue_and_nil e
 | false=>show e
def fX (ha:PT X a tA):PW X (.BoolOp .Or [a] pos) tA:=by
 intro wh ñ s σ H Q I h;show isTrue_or (Jx (ha ñ s σ H Q I h) λc s1 e=>?_)
 cases c with
 | false=>show isTrue_or_nil e
 | true=>show e
def BM (ha:PT X a tA)(hb:PW X Os tB'):PW X K5 (a2z tA tB'):=by
 intro wh ñ s σ H Q I h;show isTrue_and (Jx ŕ λc s1 gR=>?_);let#[H1,I1,q1]:=gR
 cases c with
 | true=>show hb wh ñ s1 σ H1 Q I1 q1
 | false=>show#[H1,I1,q1]
def Va (ha:PT X a tA)(hb:PW X (.BoolOp .Or (b::rest) pos) tB'):PW X (.BoolOp .Or (a::b::rest) pos) (tOr tA tB'):=by
 intro wh ñ s σ H Q I h;show isTrue_or (Jx ŕ λc s1 gR=>?_);let#[H1,I1,q1]:=gR
 cases c with
 | true=>show#[H1,I1,q1]
 | false=>show hb wh ñ s1 σ H1 Q I1 q1
def sr (ha:PT X a tA):PT X (.UnaryOp .Not a pos) (a2u tA):=by intro ñ s σ H Q I h;show isTrue_not (ha ñ s σ H (λc H1=>Q (not c) H1) I h)
theorem Yz (ta tb:TE):TE:=λσ H Q=>ta σ H λx H1=>∃ c,x=.bl c/\if c=true then tb σ H1 Q else Q L5 H1
theorem Yt (ta):TE:=λσ H Q=>ta σ H λx H1=>∃ c,x=.bl c/\Q (.bl (not c)) H1
def kz {op}(h:PE X a t):PE X (.BoolOp op [a] pos) t:=λñ s σ H Q I hw=>BoolOp_one (h ñ s σ H Q I hw)
def xc (ha:PE X a ta)(hb:PE X Os tb):PE X K5 (Yz ta tb):=by
 intro ñ s σ H Q I h;show BoolOp_and (Jx ŕ λv s1 gR=>?_);let#[x,H1,I1,r1,q1]:=gR;let#[c,1,q1]:=q1
 cases r1;show Hi ?_
 cases c with
 | true=>show hb ñ s1 σ H1 Q I1 q1
 | false=>show#[.bl false,H1,I1,1,q1]
def W9 (ha:PE X a ta):PE X (.UnaryOp .Not a pos) (Yt ta):=by
 intro ñ s σ H Q I h;show UnaryOp_ (Jx ŕ λv s1 gR=>?_);let#[x,H1,I1,r1,q1]:=gR;let#[c,1,q1]:=q1
 cases r1;show not_of (Hi #[.bl<|not c,H1,I1,1,q1])
theorem tIf (t:TT)(ta tb:TE):TE:=λσ H Q=>t σ H λc H1=>if c=true then ta σ H1 Q else tb σ H1 Q
def BT (hc:PT X c tA)(ha:PE X a ta)(hb:PE X b tb):PE X (.IfExp c a b pos) (tIf tA ta tb):=by
 intro ñ s σ H Q I h;show wpAny_IfExp (Jx (hc ñ s σ H _ I h) λd s1 gR=>?_);let#[H1,I1,q1]:=gR
 cases d with
 | true=>show ha ñ s1 σ H1 Q I1 q1
 | false=>show hb ñ s1 σ H1 Q I1 q1
universe e
theorem Jq (K)(H)(a:Addr)(xs:π):Prop:=
 Rd H a (.lst xs) \/
  ∃ (o:Obj)(its:Ò)(n:Nat),K.lookup a=!o/\o.cls=.type "list"/\o.dict=none/\o.data=.seq its n/\its.size<=sizeLine/\Vals xs its.toList
theorem LQ (K)(H)(a:Addr)(xs:π):Prop:=
 Rd H a (.tup xs) \/
  ∃ (o:Obj)(its:Ò)(n:Nat),K.lookup a=!o/\o.cls=.type "tuple"/\o.data=.seq its n/\its.size<=sizeLine/\Vals xs its.toList
theorem a4X:Value->Ç
 | .none=>!.non
 | .bool b=>!.bl b
 | .int i _=>!.int i
 | .str x _=>!.str x
 | .bytes b _=>!.byt b
 | .float b _=>!.flt b
 | .ref a=>!.ref a
 | .type n=>!.ty n
 | _=>none
def RelV.abs (r:RelV x u):a4X u=!x:=by
 cases x with
 | non=>cases r;rfl
 | bl _=>cases r;rfl
 | int _=>let⟨t,rfl⟩:=r;rfl
 | str _=>let⟨t,rfl⟩:=r;rfl
 | byt _=>let⟨t,rfl⟩:=r;rfl
 | flt _=>let⟨t,rfl⟩:=r;rfl
 | ref _=>cases r;rfl
 | ty _=>cases r;rfl
def RelV.inj (r:RelV x u)(q:RelV y u):x=y:=Option.some.inj (r.abs.symm.trans q.abs)
def Vals.inj:∀ {xs ys:π}{us:θ},Vals xs us->Vals ys us->xs=ys:=by
 intro xs ys us h
 induction h generalizing ys with
 | nil=>intro h;cases h;rfl
 | cons r t ih=>intro h;cases h with|cons r' t'=>rw[r'.inj r,ih t']
def Jq.of {K:Ψ}(h:H a=!.lst xs):Jq K H a xs:=.inl (.inl h)
def LQ.of {K:Ψ}(h:H a=!.tup xs):LQ K H a xs:=.inl (.inl h)
def Inv.list (I)(h:Jq X.K H a xs):∃ its:θ,Vals xs its/\PlainL s.heap a its.toArray/\xs.length<=sizeLine:=by
 rcases h with h|⟨o,its,n,hk,hc,hd,hs,hz,r⟩
 ·let#[z,its,n,r,e]:=h.ok I.Jk;show#[its,r,#[_,n,e,3],z]
 ·show#[its.toList,r,#[o,n,I.LY a o hk,hc,hd,by simpa using hs],?_];let e:=r.length
  simp_all
def Inv.tuple (I)(h:LQ X.K H a xs):∃ its:θ,Vals xs its/\IsTup s.heap a its.toArray/\xs.length<=sizeLine:=by
 rcases h with h|⟨o,its,n,hk,hc,hs,hz,r⟩
 ·let#[z,its,r,p]:=h.ok I.Jk;show#[its,r,p,z]
 ·show#[its.toList,r,#[o,I.LY a o hk,hc,n,by simpa using hs],?_];let e:=r.length
  simp_all
def Inv.MK (I)(h:Jq X.K H a xs)(h':Jq X.K H a ys):xs=ys:=by
 let#[its,r,#[o,n,e,_,_,d],_]:=I.list h;let#[its',r',#[o',n',e',_,_,d'],_]:=I.list h';rw[e]at e';cases e';rw[d]at d';injection d' with d1 _;let:its=its':=by simp_all
 subst this;show r.inj r'
def Inv.RF (I)(h:LQ X.K H a xs)(h':LQ X.K H a ys):xs=ys:=by
 let#[its,r,#[o,e,_,n,d],_]:=I.tuple h;let#[its',r',#[o',e',_,n',d'],_]:=I.tuple h';rw[e]at e';cases e';rw[d]at d';injection d' with d1 _;let:its=its':=by simp_all
 subst this;show r.inj r'
abbrev Cx.OF (X:Cx)(E:ρ):Cx:={ X with xe:=E }
abbrev Cx.QL (X:Cx):Cx:=X.OF λ_ _=>False
def Cx.Ok.OF {X:Cx}(ok:X.Ok)(E:ρ):(X.OF E).Ok:=
 #[ok.mod,ok.kind,ok.glob,ok.blt,ok.above,ok.inj,ok.has,ok.cab,ok.hd,ok.frames,ok.R9,ok.exf,ok.bs,ok.So,ok.Qn,ok.S7,ok.Nr,ok.Tg]
def Cx.Ok.KD {X:Cx}(ok:(X.OF E).Ok):X.Ok:=
 #[ok.mod,ok.kind,ok.glob,ok.blt,ok.above,ok.inj,ok.has,ok.cab,ok.hd,ok.frames,ok.R9,ok.exf,ok.bs,ok.So,ok.Qn,ok.S7,ok.Nr,ok.Tg]
def Inv.OF (I)(E:ρ):Inv (X.OF E) ñ σ H s:=#[I.ok.OF E,I.os,I.bare,I.base,I.loc,I.cell,I.free,I.KC,I.pin,I.Jk,I.len]
def Inv.KD (I:Inv (X.OF E) ñ σ H s):Inv X ñ σ H s:=#[I.ok.KD,I.os,I.bare,I.base,I.loc,I.cell,I.free,I.KC,I.pin,I.Jk,I.len]
def SP.KD {D:d9}(h:SP (X.OF E) ñ D f s'):SP X ñ D f s':=by
 cases f with
 | next=>let⟨σ',H',I,q⟩:=h;show#[σ',H',I.KD,q]
 | brk=>let⟨σ',H',I,q⟩:=h;show#[σ',H',I.KD,q]
 | cont=>let⟨σ',H',I,q⟩:=h;show#[σ',H',I.KD,q]
 | ret u=>let⟨v,σ',H',I,r,q⟩:=h;show#[v,σ',H',I.KD,r,q]
def Nj.QL {st:Í}(h:Nj X.QL st t):Nj X st t:=λñ s σ H D I hw=>
 GF (h ñ s σ H D (I.OF _) hw) (λ_ _ q=>q.KD) λ_ _ z=>False.elim z
section
variable {st:Stmt}{t u:TS}{te:TE}
theorem Yu:TS:=λD σ H=>D.nx σ H
theorem a2r (t u:TS):TS:=λD σ H=>t { D with nx:=u D } σ H
def Kp:Nj X [] Yu:=λ_ _ σ H _ I h=>IE #[σ,H,I,h]
def ai (h1:PS X st t)(h2:Nj X rest u):Nj X (st::rest) (a2r t u):=by
 intro ñ s σ H D I h;show wpAny_execs_cons (Jx (h1 ñ s σ H { D with nx:=u D } I h) λf s1 q=>?_)
 cases f with
 | next=>
  let#[σ',H',I',q]:=q;show h2 ñ s1 σ' H' D I' q
 | ret v=>show q
 | brk=>show q
 | cont=>show q
def aq (h1:PS X st t):Nj X [st] t:=by
 intro ñ s σ H D I h;show wpAny_execs_cons (Jx (h1 ñ s σ H D I h) λf s1 q=>?_)
 cases f with
 | next=>show IE q
 | ret v=>show q
 | brk=>show q
 | cont=>show q
def Inv.quiet (I):interactive X.env=false:=by simp[interactive,I.ok.kind]
theorem Bt (te):TS:=λD σ H=>te σ H λ_ H1=>D.nx σ H1
def aF (he:PE X e te)(hs:swapsWith e none pos.line X.env=pure false:=Ą):PS X (.Expr e pos) (Bt te):=by intro ñ s σ H D I h;show wpAny_Expr_any (Jx Ō λv s1 gR=>(by let#[x,H1,I1,r1,q1]:=gR;show#[σ,H1,I1,q1])) I.quiet hs
theorem a2s (te):TS:=λD σ H=>te σ H D.rt
def bO (he:PE X e te):PS X (.Return (!e) pos) (a2s te):=by intro ñ s σ H D I h;show wpAny_Return_some (Jx Ō λv s1 gR=>(by let#[x,H1,I1,r1,q1]:=gR;show#[x,σ,H1,I1,r1,q1]))
theorem a2v (c:TT)(t u:TS):TS:=λD σ H=>c σ H λb H1=>if b=true then t D σ H1 else u D σ H1
def gw (hc:PT X c tc)(ha:Nj X a t)(hb:Nj X b u):PS X (.If c a b pos) (a2v tc t u):=by
 intro ñ s σ H D I h;show wpAny_If (Jx (hc ñ s σ H _ I h) λd s1 gR=>?_);let#[H1,I1,q1]:=gR
 cases d with
 | true=>show ha ñ s1 σ H1 D I1 q1
 | false=>show hb ñ s1 σ H1 D I1 q1
theorem Bs:TS:=λ_ _ _=>False
def Lo:PS X st Bs:=λ_ _ _ _ _ _ h=>h.elim
def N0:Nj X sts Bs:=λ_ _ _ _ _ _ h=>h.elim
universe e
abbrev TG:=V->St->Hp->Υ->Prop
abbrev UT:=List V->St->Hp->Υ->Prop
theorem PG (X)(target:Expr)(t:TG):Prop:=
 ∀ (ñ:ζ)(s:Ê)(σ:St)(H:Hp)(v:V)(u:Value)(Q:Υ),Inv X ñ σ H s->RelV v u->t v σ H Q->
  wpAny Ĥ X.A (assign target X.env u) (λ_ s'=>∃ σ' H',Inv X ñ σ' H' s'/\Q σ' H') X.xe s
theorem PGs (X)(ts:Ì)(t:UT):Prop:=
 ∀ (ñ:ζ)(s:Ê)(σ:St)(H:Hp)(vs:π)(us:θ)(Q:Υ),Inv X ñ σ H s->Vals vs us->t vs σ H Q->
  wpAny Ĥ X.A (assignInOrder ((assignEach ts X.env).map (·.2)) us) (λ_ s'=>∃ σ' H',Inv X ñ σ' H' s'/\Q σ' H') X.xe s
abbrev Xy:=V->V->V->Hp->Ø->Prop
theorem a03 (X)(t:Xy):Prop:=
 ∀ (ñ:ζ)(s:Ê)(σ:St)(H:Hp)(o i v:V)(ov iv u:Value)(Q:Ø),Inv X ñ σ H s->RelV o ov->RelV i iv->RelV v u->t o i v H Q->
  wpAny Ĥ X.A (setItem ov iv u) (λ_ s'=>∃ H',Inv X ñ σ H' s'/\Q H') X.xe s
abbrev TIp:=V->V->Hp->VK->Prop
theorem PIp (X)(op:Operator)(t:TIp):Prop:=
 ∀ (ñ:ζ)(s:Ê)(σ:St)(H:Hp)(x y:V)(v u:Value)(Q:VK),Inv X ñ σ H s->RelV x v->RelV y u->t x y H Q->
  wpAny Ĥ X.A (inplaceOp op v u) Ŏ X.xe s
theorem bU (i):TG:=λv σ H Q=>Q (σ.set i !v) H
def yF (hN)(hi:X.N[i]?=!x)(hx)(hf):PG X A0 (bU i):=by intro ñ s σ H v u Q I r h;show wpAny_assign_Name (mP I hN hi hx r (λs' I'=>#[_,H,I',h]) hf)
theorem X6:UT:=λvs σ H Q=>vs=[]/\Q σ H
theorem z5 (t:TG)(u:UT):UT:=λvs σ H Q=>∃ v r,vs=v::r/\t v σ H λσ' H'=>u r σ' H' Q
def aB:PGs X [] X6:=by
 intro ñ s σ H vs us Q I r h;let#[e,h]:=h;subst e
 cases r;show assignInOrder_nil #[σ,H,I,h]
def ae (h1:PG X e t)(h2:PGs X es u)(hs:(assignEach (e::es) X.env).map (·.2)=assign e X.env::(assignEach es X.env).map (·.2):=Ą):PGs X (e::es) (z5 t u):=by
 intro ñ s σ H vs us Q I r h;let#[v,vr,e1,h]:=h;subst e1
 cases r with
 | cons r rr=>
  rw[hs];show assignInOrder_cons (Jx (h1 ñ s σ H _ _ _ I r h) λ_ s1 gR=>?_);let#[σ1,H1,I1,q1]:=gR;show h2 ñ s1 σ1 H1 _ _ Q I1 rr q1
theorem AI (K)(n)(t:UT):TG:=λv σ H Q=>∃ a xs,v=.ref a/\LQ K H a xs/\xs.length=n/\t xs σ H Q
def W6 (hc)(h:PGs X es t)(hn:(assignEach es X.env).length=n:=Ą)(Pm:(assignEach es X.env).findIdx? (·.1)=none:=Ą):PG X (.Tuple es k pos) (AI X.K n t):=by
 intro ñ s σ H v u Q I r hw;let#[a,xs,e1,hq,hl,hw]:=hw;subst e1
 cases r;let#[its,rv,ht,hz]:=I.tuple hq;show assign_Tuple_tuple Ŋ ht (by simp[hn,<- hl,rv.length]) Pm λh' hx=>?_;let I1:Inv X ñ σ H { s with heap:=h' }:=I.kept λb o e=>hx b o (Gg<|FD e) e;show h ñ _ σ H xs _ Q I1 (rv) hw
theorem a0x (to ti:TE)(t:Xy):TG:=λv σ H Q=>to σ H λo H1=>ti σ H1 λi H2=>t o i v H2 λH3=>Q σ H3
def W7 (ho:PE X o to)(hi:PE X i ti)(hs:a03 X t)(ha:∀ v,assign (.Subscript o i pos) X.env v=(do
   let ov <- holding [v] (eval o X.env);let iv <- holding [v,ov] (eval i X.env)
   standAt pos
   holding [v,ov,iv] (setItem ov iv v)
   release [v,ov,iv] []):=ă):PG X (.Subscript o i pos) (a0x to ti t):=by
 intro ñ s σ H v u Q I r h;show EX<|GC (Jx (ho ñ s σ H _ I h) λov s1 gR=>?_);let#[x,H1,I1,r1,q1]:=gR;show EX<|GC (Jx (hi ñ s1 σ H1 _ I1 q1) λiv s2 gR=>?_);let#[y,H2,I2,r2,q2]:=gR;show EX<|IX (EX<|GC (Jx (hs ñ s2 σ H2 x y v ov iv u _ I2 r1 r2 r q2) λ_ s3 gR=>?_));let#[H3,I3,q3]:=gR;show wpAny_release #[σ,H3,I3,q3]
theorem jt (te)(g:TG):TS:=λD σ H=>te σ H λx H1=>g x σ H1 D.nx
def x6 (he:PE X e te)(hg:PG X tg g)(hs:swapsWithSole [tg] e pos.line X.env=pure false:=Ą)(hw:swappedStores [tg] e X.env=pure none:=Ą)(h1:(assignEach [tg] X.env).map (·.2)=[assign tg X.env]:=Ą):PS X (.Assign [tg] e pos) (jt te g):=by intro ñ s σ H D I h;show wpAny_Assign_stores (Jx Ō λv s1 gR=>?_) hs hw;let#[x,H1,I1,r1,q1]:=gR;rw[h1];show Jx (hg ñ s1 σ H1 x v _ I1 r1 q1) λ_ s2 q=>q
def W2 (hN)(hi:X.N[i]?=!x)(hx)(he:PE X e te)(hs:swapsWith e (!.Name x pos') pos.line X.env=pure false:=Ą)(hf):
  PS X K9 (jt te (bU i)):=by
 intro ñ s σ H D I h;show wpAny_Assign_Name (Jx Ō λv s1 gR=>?_) hs;let#[y,H1,I1,r1,q1]:=gR;show mP I1 hN hi hx r1 (λs2 I2=>#[_,H1,I2,q1]) hf
theorem Yy (i)(te)(ti:TIp):TS:=λD σ H=>∃ x,σ[i]?=!some x/\te σ H λy H1=>ti x y H1 λz H2=>D.nx (σ.set i !z) H2
def x0 (hN)(hi:X.N[i]?=!x)(hx)(he:PE X e te)(ho:PIp X op ti)(hf):
  PS X (.AugAssign (.Name x pos') op e pos) (Yy i te ti):=by
 intro ñ s σ H D I h;let#[v,e1,h]:=h;let#[m,hn,hl]:=I.loc;let vis:Y' X.env.scope x:=by rcases hx with k|k;show .inl k;show .inr (.inl k)
 let#[u,r,l]:=hl i x v hi e1 vis;show wpAny_AugAssign_Name ?_;let go:wpAny X.Ę X.A (eval e X.env) (λw s₂=>wpAny X.Ę X.A (inplaceOp op u w) (λr s₃=>wpAny X.Ę X.A (storeName X.env x r) (λ_=>SP X ñ D .next) X.xe s₃) X.xe s₂) X.xe s:=by show Jx Ō λw s1 gR=>?_;let#[y,H1,I1,r1,q1]:=gR;show Jx (ho ñ s1 σ H1 v y u w _ I1 r r1 q1) λz s2 gR=>?_;let#[zv,H2,I2,r2,q2]:=gR;show mP I2 hN hi hx r2 (λs3 I3=>#[_,H2,I3,q2]) hf
 rcases l with⟨hk,hm⟩|⟨hk,c,hc,Rw⟩
 ·show wpAny_loadName_local I.ok.kind hk hn hm go
 ·rcases hk with hk|hk
  ·show wpAny_loadName_cell I.ok.kind hk hc Rw go
  ·rcases hx with k|k
   ·let:X.env.scope.names.lookup x=!.free:=hk
    simp_all
   ·let:X.env.scope.names.lookup x=!.free:=hk
    simp_all
theorem ipI (f:Int->Int->Int):TIp:=λx y H Q=>∃ i j,x=.int i/\y=.int j/\Q (.int (f i j)) H
def xT:PIp X .Add (ipI λi j=>i+j):=by intro ñ s σ H x y v u Q I r1 r2 h;let#[i,j,e1,e2,q]:=h;subst e1;subst e2;let#[t,1]:=r1;let#[t',1]:=r2;show iadd_int #[.int _,H,I.tok _,#[_,1],q]
theorem VL (c:TT)(tb:TS):TS:=λD σ H=>∃ W:Nat->Υ,(∃ m,W m σ H)/\∀ m σ H,W m σ H->
 c σ H λb H1=>if b=true then ∃ N:Υ,(∀ σ' H',N σ' H'->∃ m',m'<m/\W m' σ' H')/\tb { D with nx:=N,ct:=N,bk:=D.nx } σ H1 else D.nx σ H1
def BN {tb:TS}(hp)(hc:PT X c tc)(hb:Nj X body tb):PS X (.While c body [] pos) (VL tc tb):=by
 intro ñ s σ H D I h;let#[W,#[m0,w0],turn]:=h;show wpAny_While (codeAny_whileLoop (λn s'=>∃ σ' H',Inv X ñ σ' H' s'/\W n σ' H') ?_ m0 #[σ,H,I,w0]);rintro n s1 ⟨σ1,H1,I1,w1⟩;show Hz hp (Jx (hc ñ s1 σ1 H1 _ I1<|turn n σ1 H1 w1) λb s2 gR=>?_);let#[H2,I2,q2]:=gR
 cases b with
 | true=>
  let#[N,hN,q2]:=q2;show Hz hp (Jx (hb ñ s2 σ1 H2 _ I2 q2) λf s3 q3=>?_)
  cases f with
  | next=>
   let#[σ3,H3,I3,n3]:=q3;let#[m',hm,w3]:=hN σ3 H3 n3;show#[m',hm,σ3,H3,I3,w3]
  | cont=>
   let#[σ3,H3,I3,n3]:=q3;let#[m',hm,w3]:=hN σ3 H3 n3;show#[m',hm,σ3,H3,I3,w3]
  | brk=>show q3
  | ret v=>show q3
 | false=>
  show IE #[σ1,H2,I2,q2]
structure It where
 go:Nat->Ø
 TQ:Nat->Hp->V->Ø
 stop:Nat->Ø
theorem lf (X)(ñ)(H)(b:Addr):Prop:=
 H b=none/\b≠X.env.locals/\b∉X.fs/\(b∈X.ex\/X.s₀.heap.objs.size<=b)/\(∀ x c,X.env.cells.lookup x=!c->c≠b)/\∀ p∈X.pn++ñ,p.1≠b
def Inv.OZ (I)(hb:s.heap.objs.size<=b)(hn:H' b=none):lf X ñ H' b:=by
 show#[hn,GT<|FY I.lt hb,I.Za hb,.inr<|Fo I.sz hb,λx c e z=>?_,λp hp z=>?_]
 ·let#[v,q]:=I.cell x c e;show absurd (FY q.lt (by rw[z];show hb)) (Ho _)
 ·show absurd (FY (FD (I.pin p hp).1) (by rw[z];show hb)) (Ho _)
structure Vv (Cc:Cx->Prop) (P:É) (w:World) (K:Ψ) (tg:Expr) (J:It) (fp:υ) (it:Addr) (tn:Nat->Heap->Prop):Prop where
 mem:it∈fp
 obj:∀ i h,tn i h->∀ b∈fp,∃ o,h.get? b=!o/\∀ v,o.data≠.cell v
 keep:∀ i h h',tn i h->(∀ b∈fp,∀ o,h.get? b=!o->h'.get? b=!o)->tn i h'
 item:∀ (X:Cx),X.prog=P->X.w=w->X.K=K->Cc X->∀ (i:Nat)(ñ:ζ)(s:Ê)(σ:St)(H:Hp)(E:ρ),Inv X ñ σ H s->(∀ b∈fp,lf X ñ H b)->tn i s.heap->J.go i H ->
  wpAny Ż X.A (pyNext XL) (λr s1=>∃ u,r=some u /\
   wpAny Ż X.A (letOwnedTupleGo tg XL u) (λ_ s2=>∃ x H',Inv X ñ σ H' s2/\RelV x u/\J.TQ i H x H'/\tn (i+1) s2.heap/\∀ b∈fp,H' b=none) E s1) E s
 done:∀ (X:Cx),X.prog=P->X.w=w->X.K=K->Cc X->∀ (i:Nat)(ñ:ζ)(s:Ê)(σ:St)(H:Hp)(E:ρ),Inv X ñ σ H s->(∀ b∈fp,lf X ñ H b)->tn i s.heap->J.stop i H ->
  wpAny Ż X.A (pyNext XL) (λr s1=>r=none/\Inv X ñ σ H s1) E s
 self:∀ (A:Ë)(i:Nat)(s:Ê)(Q:ρ)(E:ρ),tn i s.heap->Q XL s->wpAny Ż A (pyIter XL) Q E s
abbrev tM:=Vv λX=>X.calm=true
abbrev TI:=St->Hp->(It->Ø)->Prop
theorem a05 (Cc:Cx->Prop)(X)(ñ)(σ)(tg:Expr)(R:It->Ø)(itv:Value)(s2:Ê):Prop:=
 ∃ (it:Addr)(fp:υ)(tn:Nat->Heap->Prop)(J:It)(H':Hp),itv=.ref it/\Inv X ñ σ H' s2/\Vv Cc X.prog X.w X.K tg J fp it tn/\tn 0 s2.heap/\(∀ b∈fp,lf X ñ H' b)/\R J H'
theorem PI0 (Cc:Cx->Prop)(X)(tg iter:Expr)(wi:TI):Prop:=
 ∀ (ñ:ζ)(s:Ê)(σ:St)(H:Hp)(R:It->Ø),Inv X ñ σ H s->wi σ H R->
  wpAny Ĥ X.A (eval iter X.env) (λv s1=>wpAny Ĥ X.A (pyIter v) (a05 Cc X ñ σ tg R) X.xe s1) X.xe s
abbrev PIE:=a05 λX=>X.calm=true
abbrev PI:=PI0 λX=>X.calm=true
def qK (ho : s.heap.get? it = !o)(hc : o.cls = .type n)(hd : o.data = .fields vs)(hn : ["enumerate", "zip", "dict_itemiterator", "dict_reverseitemiterator", "odict_iterator", "itertools.zip_longest", "itertools.pairwise"].contains n = false)(hQ : Q () s): wpAny M A (letOwnedTupleGo tg XL u) Q E s := by
  cases tg <;> first
    | show Ff hQ
    | (cases u <;> first
        | show Ff hQ
        | (show EX (wpAny_load ho ?_)
           rw [hc, hd];change wpAny M A (if _ = true then _ else _) Q E s;rw [if_neg (by intro h; rw [hn, Bool.false_and] at h; cases h)];show Ff hQ))
theorem Vy (K)(a:Addr):It:=
 ⟨λi H=>∃ xs x,Jq K H a xs/\xs[i]?=!x,λi H x H'=>H'=H/\∀ xs,Jq K H a xs->xs[i]?=!x,λi H=>∃ xs,Jq K H a xs/\xs.length<=i⟩
theorem Itt (K)(a:Addr):It:=
 ⟨λi H=>∃ xs x,LQ K H a xs/\xs[i]?=!x,λi H x H'=>H'=H/\∀ xs,LQ K H a xs->xs[i]?=!x,λi H=>∃ xs,LQ K H a xs/\xs.length<=i⟩
theorem Vx (lo:Int)(n):It:=⟨λi _=>i<n,λi H x H'=>H'=H/\x=.int (lo+i),λi _=>n<=i⟩
def pP {P:É}{w:World}{K:Ψ}{tg:Expr} (a it:Addr):tM P w K tg (Vy K a) [it] it (λi h=>h.IsListIter it a i) where
 mem:=by simp
 obj:=λi h st b hb=>by
  let e:b=it:=by simpa using hb
  let#[o,e,c,d]:=st
  simp_all
 keep:=λi h h' st k=>st.at λo e=>k it Ğ o e
 item:=by intro X hP hw hK hc i ñ s σ H E I hf st hg;subst hP hw hK;let#[xs,x,hq,hx]:=hg;let#[its,rv,p,hz]:=I.list hq;let#[u,hu,ru]:=rv.get hx;let#[f0,f1,f2,f3,f4,f5]:=hf it Ğ;show wpAny_pyNext_list_item st p.isList (by simpa using hu) λh' PR sb=>?_;let I1:Inv X ñ σ H { s with heap:=h' }:=I.turned Ũ f0 f1 f3 f4 f5;let#[o,e,c,d]:=id PR;show#[u,1,qK e c d ż #[x,H,I1,ru,#[1,λys hy=>by rw[I.MK hy hq];show hx],PR,λb hb=>(hf b hb).1]]
 done:=by intro X hP hw hK hc i ñ s σ H E I hf st hg;subst hP hw hK;let#[xs,hq,hx]:=hg;let#[its,rv,p,hz]:=I.list hq;let#[f0,f1,f2,f3,f4,f5]:=hf it Ğ;let hl:=rv.length;show wpAny_pyNext_list_end Ŋ st p.isList (by simp;lia) λh' eb=>#[1,I.turned ű f0 f1 f3 f4 f5]
 self:=λ_ _ _ _ _ st h=>wpAny_pyIter_listiter st h
def wR {P:É}{w:World}{K:Ψ}{tg:Expr} (a it:Addr):tM P w K tg (Itt K a) [it] it (λi h=>h.IsTupleIter it a i) where
 mem:=by simp
 obj:=λi h st b hb=>by
  let e:b=it:=by simpa using hb
  let#[o,e,c,d]:=st
  simp_all
 keep:=λi h h' st k=>st.at λo e=>k it Ğ o e
 item:=by intro X hP hw hK hc i ñ s σ H E I hf st hg;subst hP hw hK;let#[xs,x,hq,hx]:=hg;let#[its,rv,p,hz]:=I.tuple hq;let#[u,hu,ru]:=rv.get hx;let#[f0,f1,f2,f3,f4,f5]:=hf it Ğ;show wpAny_pyNext_tuple_item st (p) (by simpa using hu) λh' PR sb=>?_;let I1:Inv X ñ σ H { s with heap:=h' }:=I.turned Ũ f0 f1 f3 f4 f5;let#[o,e,c,d]:=id PR;show#[u,1,qK e c d ż #[x,H,I1,ru,#[1,λys hy=>by rw[I.RF hy hq];show hx],PR,λb hb=>(hf b hb).1]]
 done:=by intro X hP hw hK hc i ñ s σ H E I hf st hg;subst hP hw hK;let#[xs,hq,hx]:=hg;let#[its,rv,p,hz]:=I.tuple hq;let#[f0,f1,f2,f3,f4,f5]:=hf it Ğ;let hl:=rv.length;show wpAny_pyNext_tuple_end Ŋ st (p) (by simp;lia) λh' eb=>#[1,I.turned ű f0 f1 f3 f4 f5]
 self:=λ_ _ _ _ _ st h=>wpAny_pyIter_tupleiter st h
def wS {P:É}{w:World}{K:Ψ}{tg:Expr} (it:Addr) (lo:Int) (n):tM P w K tg (Vx lo n) [it] it (λi h=>IsRangeIter h it (lo+(i:Nat) * 1) ((n:Int) - (i:Nat)) 1) where
 mem:=by simp
 obj:=λi h st b hb=>by
  simp_all
 keep:=λi h h' st k=>k it Ğ _ st
 item:=by intro X hP hw hK hc i ñ s σ H E I hf st hg;let#[f0,f1,f2,f3,f4,f5]:=hf it Ğ;show (Walks.range Ŋ it lo 1 n).item i s _ _ hg st λv h' tk hv PR kk=>?_;let#[t,1]:=hv;let I1:Inv X ñ σ H { s with heap:=h',toks:=tk }:=I.turned L8 f0 f1 f3 f4 f5;show#[_,1,qK PR rfl rfl ż #[.int _,H,I1,#[t,?_],#[2],PR,λb hb=>(hf b hb).1]];rw[Int.mul_one]
 done:=by intro X hP hw hK hc i ñ s σ H E I hf st hg;let#[f0,f1,f2,f3,f4,f5]:=hf it Ğ;show wpAny_pyNext_range_end Ŋ st (by let:n<=i:=hg;lia) λh' eb=>#[1,I.turned ű f0 f1 f3 f4 f5]
 self:=λ_ _ _ _ _ st h=>wpAny_pyIter_rangeiter st h
theorem Vm (K)(tl:TE):TI:=λσ H R=>tl σ H λx H1=>∃ a,x=.ref a/\(∃ xs,Jq K H1 a xs)/\R (Vy K a) H1
def yE (hl:PE X l tl):PI X tg l (Vm X.K tl):=by
 intro ñ s σ H R I h;show Jx (hl ñ s σ H _ I h) λv s1 gR=>?_;let#[x,H1,I1,r1,q1]:=gR;let#[a,e,#[xs,hq],q]:=q1;subst e
 cases r1;let#[its,rv,p,hz]:=I1.list hq;show HZ p.isList ?_;show#[s1.heap.objs.size,[s1.heap.objs.size],_,_,H1,1,I1.kept λb o e=>Fc _ e,pP a _,#[_,Fx _ rfl,2],λb hb=>?_,q];let e:b=s1.heap.objs.size:=by simpa using hb
 subst e;show I1.OZ (Fg _) (I1.Jk.fresh<|Fg _)
def uI {lo:Int}(I)(h1:-(2 ^ 62)<=lo)(h2:lo<2 ^ 62)(h3:-(2 ^ 62)<=hi)(h4:hi<2 ^ 62)(q:R (Vx lo (hi - lo).toNat) H):wpAny X.Ę X.A (pyIter KB) (PIE X ñ σ tg R) E { s with heap:=s.heap.push { cls:=.type "range",data:=.fields [.int lo t,.int hi u,.int 1 v].toArray },toks:=tk }:=by
 show wpAny_pyIter_range (IsRange.new ..) (small_one h1 h2 h3 h4) ?_;let I1:Inv X ñ σ H { s with heap:=s.heap.push { cls:=.type "range",data:=.fields [.int lo t,.int hi u,.int 1 v].toArray },toks:=tk }:=I.kept λb o e=>Fc _ e;show#[(s.heap.push { cls:=.type "range",data:=.fields [.int lo t,.int hi u,.int 1 v].toArray }).objs.size,[(s.heap.push { cls:=.type "range",data:=.fields [.int lo t,.int hi u,.int 1 v].toArray }).objs.size],_,_,H,1,
  I1.kept λb o e=>Fc _ e,wS _ lo (hi - lo).toNat,?_,λb hb=>?_,q]
 ·let e1:lo+((0:Nat)) * 1=lo:=by simp
  let e2:((hi - lo).toNat) - ((0:Nat))=Builtin.Range.rangeSize lo hi 1:=by rw[rangeSize_one];split <;> lia
  rw[e1,e2];show Fx _ rfl
 ·let e:b=(s.heap.push { cls:=.type "range",data:=.fields [.int lo t,.int hi u,.int 1 v].toArray }).objs.size:=by simpa using hb
  subst e;show I1.OZ (Fg _) (I1.Jk.fresh<|Fg _)
theorem Zu (ta:TA):TI:=λσ H R=>ta σ H λvs H1=>∃ j:Int,vs=[.int j]/\-(2 ^ 62)<=j/\j<2 ^ 62/\R (Vx 0 j.toNat) H1
theorem Zt (ta:TA):TI:=λσ H R=>ta σ H λvs H1=>∃ i j:Int,vs=[.int i,.int j]/\(-(2 ^ 62)<=i/\i<2 ^ 62/\-(2 ^ 62)<=j/\j<2 ^ 62)/\R (Vx i (j - i).toNat) H1
def qd (hg:Gl X "range")(hm:X.mg "range"=none)(ha:PA X [a] ta)(hs:starEach [a] X.env=[(false,eval a X.env)]:=Ą):PI X tg (.Call (.Name "range" p) [a] [] pos) (Zu ta):=by
 intro ñ s σ H R I h;show Call_<|ga I hg hm boot_range (Gx (Jx (ha pos ñ s σ H _ I h) λus s1 gR=>?_) hs rfl);let#[vs,H1,I1,r1,q1]:=gR;let#[j,e,q1,q2,q]:=q1;subst e
 cases r1 with
 | cons r rr=>
  cases rr;let#[t,1]:=r;show call_range_1 (uI I1 #[] #[] q1 q2<|by simpa using q)
def zZ (hg:Gl X "range")(hm:X.mg "range"=none)(ha:PA X [a,b] ta)(hs:starEach [a,b] X.env=[(false,eval a X.env),(false,eval b X.env)]:=Ą)(PZ:starEach [b] X.env=[(false,eval b X.env)]:=Ą):
  PI X tg (.Call (.Name "range" p) [a,b] [] pos) (Zt ta):=by
 intro ñ s σ H R I h;show Call_<|ga I hg hm boot_range (Gx (Jx (ha pos ñ s σ H _ I h) λus s1 gR=>?_) (by rw[hs,PZ]) (by rw[PZ];rfl));let#[vs,H1,I1,r1,q1]:=gR;let#[i,j,e,#[q1,q2,q3,q4],q]:=q1;subst e
 cases r1 with
 | cons r rr=>
  cases rr with
  | cons r' rr=>
   cases rr;let#[t,1]:=r;let#[t',1]:=r';show call_range_2 (uI I1 q1 q2 q3 q4 q)
theorem a2x (wi:TI)(g:TG)(tb:TS):TS:=λD σ H=>wi σ H λJ H1=>∃ W:Nat->Nat->Υ,(∃ m,W 0 m σ H1)/\∀ i m σ H,W i m σ H->
 (J.stop i H/\D.nx σ H)\/(J.go i H/\∃ N:Υ,Į/\∀ x H',J.TQ i H x H'->g x σ H' λσ2 H2=>tb { D with nx:=N,ct:=N,bk:=D.nx } σ2 H2)
theorem ni (fp:υ)(h:Heap):ζ:=fp.filterMap λb=>(h.get? b).map λo=>(b,o)
def g7 (hb:b∈fp)(e:h.get? b=!o):(b,o)∈ni fp h:=List.mem_filterMap.mpr #[b,hb,by rw[e];rfl]
def Ap (hp:p∈ni fp h):p.1∈fp/\h.get? p.1=!p.2:=by
 let#[b,hb,e]:=List.mem_filterMap.mp hp
 cases q:h.get? b with
 | none=>rw[q]at e;cases e
 | some o=>
  rw[q]at e;let e':=Option.some.inj e;subst e';show#[hb,q]
def Inv.pinned (I)(hf:∀ b∈fp,lf X ñ H b)(ho:∀ b∈fp,∃ o,s.heap.get? b=!o/\∀ v,o.data≠.cell v):Inv X (ñ++ni fp s.heap) σ H s:=
 I.Rf λp hp=>(FC.mp hp).elim (λz=>I.pin p<|FH _ z) λz=>by
  let#[hb,e]:=Ap z;let#[f0,f1,f2,_]:=hf p.1 hb;let#[o,e',d]:=ho p.1 hb
  simp_all
def Inv.ME (I:Inv X (ñ++pl) σ H s):Inv X ñ σ H s:=I.Rf λp hp=>I.pin p (FH _<|FV _ hp)
abbrev _root_.ĕ (X:L2.Cx)(iter:PySem.Expr):Prop:=∀ x,foldedSetIterable iter X.env x=pure x
def bW {tb:TS}(hp)(hc)(hi:PI X tg iter wi)(hg:PG X tg g)(hb:Nj X body tb)(hs):PS X (.For tg iter body [] pos) (a2x wi g tb):=by
 intro ñ s σ H D I h;show wpAny_For (Jx (hi ñ s σ H _ I h) λv s1 h1=>Jx h1 λitv s2 h2=>?_) hs;let#[it,fp,tn,J,H2,e,I2,T,st2,f2,W,#[m0,w0],turn]:=h2;subst e;let stat:∀ {H':Hp},(∀ b∈fp,H' b=none)->∀ b∈fp,lf X ñ H' b:=λhn b hb=>#[hn b hb,(f2 b hb).2]
 show codeAny_forLoop_any (λn s'=>∃ i σ' H',Inv X ñ σ' H' s'/\tn i s'.heap/\(∀ b∈fp,H' b=none)/\W i n σ' H') ?_ m0 #[(0),σ,H2,I2,st2,λb hb=>(f2 b hb).1,w0];rintro n s3 ⟨i,σ3,H3,I3,st3,fr3,w3⟩;rcases turn i n σ3 H3 w3 with⟨stop,qn⟩|⟨go,N,hN,step⟩
 ·show Hz hp (Jx (T.done X rfl rfl rfl hc i ñ s3 σ3 H3 X.xe I3 (stat fr3) st3 stop) λr s4 gR=>?_);let#[hr,I4]:=gR;subst hr;show IE #[σ3,H3,I4,qn]
 ·show Hz hp (Jx (T.item X rfl rfl rfl hc i ñ s3 σ3 H3 X.xe I3 (stat fr3) st3 go) λr s4 gR=>?_);let#[u,hr,h4]:=gR;subst hr;show Hz hp (Jx h4 λ_ s5 gR=>?_);let#[x,H5,I5,r5,y5,XI,fr5]:=gR;show Hz hp (Jx (hg _ s5 σ3 H5 x u _ (I5.pinned (stat fr5)<|T.obj _ _ XI) r5<|step x H5 y5) λ_ s6 gR=>?_);let#[σ6,H6,I6,q6]:=gR;show Hz hp (Jx (hb _ s6 σ6 H6 _ I6 q6) λf s7 q7=>?_);let again:∀ {σ7:St}{H7:Hp},Inv X _ σ7 H7 s7->N σ7 H7->∃ m,m<n/\∃ i σ' H',Inv X ñ σ' H' s7/\tn i s7.heap/\(∀ b∈fp,H' b=none)/\W i m σ' H':=λ{σ7 H7} I7 n7=>by let#[m',hm,w7]:=hN σ7 H7 n7;show#[m',hm,i+1,σ7,H7,I7.ME,T.keep _ _ _ XI λb hb o e=>(I7.pin (b,o)<|FH _ (FH _<|g7 hb e)).1,λb hb=>?_,w7];let#[o,e,d]:=T.obj _ _ XI b hb;show (I7.pin (b,o)<|FH _ (FH _<|g7 hb e)).2.1
  cases f with
  | next=>let⟨σ7,H7,I7,n7⟩:=q7;show again I7 n7
  | cont=>let⟨σ7,H7,I7,n7⟩:=q7;show again I7 n7
  | brk=>let⟨σ7,H7,I7,q7⟩:=q7;show#[σ7,H7,I7.ME,q7]
  | ret v=>let⟨x7,σ7,H7,I7,r7,q7⟩:=q7;show#[x7,σ7,H7,I7.ME,r7,q7]
abbrev _root_.Φ:=PySem.W.Frag
def fQ {K:Φ}{g:TG}{tb:TS}{D:d9}(Pv)(h0)(hl:∀ i σ H,i<=xs.length->Pv i σ H->Jq K H a xs)(hs:∀ i x σ H,xs[i]?=!x->Pv i σ H->g x σ H λσ2 H2=>tb { D with nx:=Pv (i+1),ct:=Pv (i+1),bk:=D.nx } σ2 H2)(hd:∀ σ H,Pv xs.length σ H->D.nx σ H):
  ∃ W:Nat->Nat->Υ,(∃ m,W 0 m σ H)/\∀ i m σ H,W i m σ H->
   ((Vy K a).stop i H/\D.nx σ H)\/((Vy K a).go i H/\∃ N:Υ,Į/\∀ x H',(Vy K a).TQ i H x H'->g x σ H' λσ2 H2=>tb { D with nx:=N,ct:=N,bk:=D.nx } σ2 H2):=by
 show#[λi m σ H=>m=xs.length - i/\i<=xs.length/\Pv i σ H,#[xs.length,by simp,FR _,h0],?_];rintro i m σ H ⟨rfl,hi,p⟩;let q:=hl i σ H hi p;by_cases Ml:i<xs.length
 ·show .inr #[#[xs,xs[i],q,by simp],Pv<|i+1,λσ' H' p'=>#[xs.length - (i+1),#[],1,Ml,p'],λx H' y=>?_];let#[e,y]:=y;subst e;show hs i x σ _ (y xs q) p
 ·let e:i=xs.length:=#[]
  subst e;show .inl #[#[xs,q,Fg _],hd σ H p]
def AJ {lo:Int}{g:TG}{tb:TS}{D:d9}(Pv)(h0)(hs:∀ i σ H,i<n->Pv i σ H->g (.int (lo+i)) σ H λσ2 H2=>tb { D with nx:=Pv (i+1),ct:=Pv (i+1),bk:=D.nx } σ2 H2)(hd:∀ σ H,Pv n σ H->D.nx σ H):
  ∃ W:Nat->Nat->Υ,(∃ m,W 0 m σ H)/\∀ i m σ H,W i m σ H->
   ((Vx lo n).stop i H/\D.nx σ H)\/((Vx lo n).go i H/\∃ N:Υ,Į/\∀ x H',(Vx lo n).TQ i H x H'->g x σ H' λσ2 H2=>tb { D with nx:=N,ct:=N,bk:=D.nx } σ2 H2):=by
 show#[λi m σ H=>m=n - i/\i<=n/\Pv i σ H,#[n,by simp,FR _,h0],?_];rintro i m σ H ⟨rfl,hi,p⟩;by_cases Ml:i<n
 ·show .inr #[Ml,Pv<|i+1,λσ' H' p'=>#[n - (i+1),#[],1,Ml,p'],λx H' y=>?_];let#[e,y]:=y;subst e y;show hs i σ _ Ml p
 ·let e:i=n:=#[]
  subst e;show .inl #[Fg _,hd σ H p]
abbrev R2:=V->V->Hp->VK->Prop
theorem Kz (X)(f:Value->Value->Sem Value)(r:R2):Prop:=
 ∀ (ñ:ζ)(s:Ê)(σ:St)(H:Hp)(x y:V)(v u:Value)(Q:VK),Inv X ñ σ H s->RelV x v->RelV y u->r x y H Q->
  wpAny Ĥ X.A (f v u) Ŏ X.xe s
theorem UnR (X)(f:Value->Sem Value)(r:V->Hp->VK->Prop):Prop:=
 ∀ (ñ:ζ)(s:Ê)(σ:St)(H:Hp)(x:V)(v:Value)(Q:VK),Inv X ñ σ H s->RelV x v->r x H Q->
  wpAny Ĥ X.A (f v) Ŏ X.xe s
theorem JG (X)(f:Value)(r:List V->Hp->VK->Prop):Prop:=
 ∀ (ñ:ζ)(s:Ê)(σ:St)(H:Hp)(xs:π)(us:θ)(Q:VK),Inv X ñ σ H s->Vals xs us->r xs H Q->
  wpAny Ĥ X.A (call f us) Ŏ X.xe s
theorem V1 (r:R2)(ta tb:TE):TE:=λσ H Q=>ta σ H λx H1=>tb σ H1 λy H2=>r x y H2 Q
theorem tUn (r:V->Hp->VK->Prop)(ta):TE:=λσ H Q=>ta σ H λx H1=>r x H1 Q
theorem rI (C:Int->Int->Prop)(g:Int->Int->V):R2:=λx y H Q=>∃ i j,x=.int i/\y=.int j/\C i j/\Q (g i j) H
theorem Uj (g:Int->Int->V):R2:=λx y H Q=>∃ i j,x=.int i/\y=.int j/\Q (g i j) H
theorem rU (g:Int->V):V->Hp->VK->Prop:=λx H Q=>∃ i,x=.int i/\Q (g i) H
section
variable {tb:TE}
def Xs (ha:PE X a ta)(hb:PE X b tb){R:V->V->Ø}(I)(h:ta σ H λx H1=>tb σ H1 λy H2=>R x y H2){f:Value->Value->Sem Value}(hf:∀ v u s2 x y H2,Inv X ñ σ H2 s2->RelV x v->RelV y u->R x y H2->wpAny X.Ę X.A (f v u) Q X.xe s2):
  wpAny X.Ę X.A (eval a X.env) (λv s₁=>wpAny X.Ę X.A (eval b X.env) (λu s₂=>wpAny X.Ę X.A (f v u) Q X.xe s₂) X.xe s₁) X.xe s:=by
 show Jx ŕ λv s1 gR=>?_;let#[x,H1,I1,r1,q1]:=gR;show Jx (hb ñ s1 σ H1 _ I1 q1) λu s2 gR=>?_;let#[y,H2,I2,r2,q2]:=gR;show hf v u s2 x y H2 I2 r1 r2 q2
def jx (ho:Kz X (binaryOp op) r)(ha:PE X a ta)(hb:PE X b tb):PE X (.BinOp a op b pos) (V1 r ta tb):=by intro ñ s σ H Q I h;show wpAny_BinOp SB
def YY (ho:UnR X (unaryOp op) r)(ha:PE X a ta):PE X (.UnaryOp op a pos) (tUn r ta):=by intro ñ s σ H Q I h;show UnaryOp_ (Jx ŕ λv s1 gR=>(by let#[x,H1,I1,r1,q1]:=gR;show ho ñ s1 σ H1 x v Q I1 r1 q1))
def opI {g:Int->Int->Int}(rule:∀ (i j:Int)(t u:Tok)(s:Ê)(Q:ρ)(E:ρ),C i j->Q (.int (g i j) s.toks) { s with toks:=s.toks+1 }->wpAny X.Ę X.A (f (.int i t) (.int j u)) Q E s):
  Kz X f (rI C λi j=>.int (g i j)):=by
 intro ñ s σ H x y v u Q I rx ry h;let#[i,j,2,hc,q]:=h;let#[t,1]:=rx;let#[t',1]:=ry;show rule i j t t' s _ _ hc #[.int _,H,I.tok _,#[_,1],q]
def Z3 {g:Int->Int->Int}(rule:∀ (i j:Int)(t u:Tok)(s:Ê)(Q:ρ)(E:ρ),Q (.int (g i j) s.toks) { s with toks:=s.toks+1 }->wpAny X.Ę X.A (f (.int i t) (.int j u)) Q E s):
  Kz X f (Uj λi j=>.int (g i j)):=by
 intro ñ s σ H x y v u Q I rx ry h;let#[i,j,2,q]:=h;let#[t,1]:=rx;let#[t',1]:=ry;show rule i j t t' s _ _ #[.int _,H,I.tok _,#[_,1],q]
def Ea {g:Int->Int->Bool}(rule:∀ (i j:Int)(t u:Tok)(s:Ê)(Q:ρ)(E:ρ),Q (.bool (g i j)) s->wpAny X.Ę X.A (f (.int i t) (.int j u)) Q E s):
  Kz X f (Uj λi j=>.bl (g i j)):=by
 intro ñ s σ H x y v u Q I rx ry h;let#[i,j,2,q]:=h;let#[t,1]:=rx;let#[t',1]:=ry;show rule i j t t' s _ _ #[.bl _,H,I,1,q]
theorem ET (i j:Int):Prop:=0<j/\j<1073741824
theorem a49 (i j:Int):Prop:=0<=j/\j<=1000000/\i.natAbs<2 ^ 64
theorem R7 (i j:Int):Prop:=(-(2 ^ 64)<i/\i<2 ^ 64)\/(-(2 ^ 64)<j/\j<2 ^ 64)
def R7.ok (h:R7 i j):IntMulOk i j:=by
 rcases h with⟨h1,h2⟩|⟨h1,h2⟩
 ·show .of_left (intBits_le_64 h1 h2)
 ·show .of_right (intBits_le_64 h1 h2)
def xi:Kz X (binaryOp .Add) (Uj λi j=>.int (i+j)):=Z3 λ_ _ _ _ _ _ _ q=>add_int q
def nC:Kz X (binaryOp .Sub) (Uj λi j=>.int (i - j)):=Z3 λ_ _ _ _ _ _ _ q=>sub_int q
def cA:Kz X (binaryOp .Mult) (rI R7 λi j=>.int (i * j)):=opI λ_ _ _ _ _ _ _ hc q=>mul_int q hc.ok
def d3:Kz X (binaryOp .FloorDiv) (rI ET λi j=>.int (i / j)):=opI λi j _ _ _ _ _ hc q=>by let h1:=hc.1;let h2:=hc.2;show floordiv_int #[] (by rw[Int.fdiv_eq_ediv_of_nonneg i<|by lia];show q) (.inl<|PyProof.noPylong_small #[])
def bt:Kz X (binaryOp .Mod) (rI (λ_ j=>0<j) λi j=>.int (i % j)):=opI λi j _ _ _ _ _ hc q=>by show mod_int' #[] (by rw[Gd i<|by lia];show q)
def Cd:Kz X (binaryOp .Pow) (rI a49 λi j=>.int (i ^ j.toNat)):=opI λ_ _ _ _ _ _ _ hc q=>pow_int_small hc.1 hc.2.1 hc.2.2 q
def unI {g:Int->Int}(rule:∀ (i:Int)(t:Tok)(s:Ê)(Q:ρ)(E:ρ),Q (.int (g i) s.toks) { s with toks:=s.toks+1 }->wpAny X.Ę X.A (f (.int i t)) Q E s):
  UnR X f (rU λi=>.int (g i)):=by
 intro ñ s σ H x v Q I rx h;let#[i,1,q]:=h;let#[t,1]:=rx;show rule i t s _ _ #[.int<|g i,H,I.tok _,#[_,1],q]
def VC:UnR X (unaryOp .USub) (rU λi=>.int (-i)):=unI λ_ _ _ _ _ q=>neg_int q
universe e
theorem VQ:V->V->Bool
 | .int _,.int _=>true
 | .str _,.str _=>true
 | .str _,.non=>true
 | _,_=>false
theorem rEq:R2:=λx y H Q=>VQ x y=true/\Q (.bl (decide (x=y))) H
theorem rNe:R2:=λx y H Q=>VQ x y=true/\Q (.bl (not (decide (x=y)))) H
def zj:decide (V.int i=V.int j)=(i==j):=by rw[Go];simp
def zi:decide (V.str i=V.str j)=(i==j):=by rw[Go];simp
section
variable {X:Cx}{ta tb tc:TE}
def gc (I)(q:Q (.bl k) H)(e:k=k'):EP X ñ σ Q (.bool k') s:=by subst e;show#[.bl k,H,I,1,q]
def aV:Kz X (compareOp .Eq) rEq:=by
 intro ñ s σ H x y v u Q I rx ry ⟨hs,q⟩
 cases x with
 | int i=>
  cases y with
  | int j=>let⟨_,rfl⟩:=rx;let#[_,1]:=ry;show eq_int (gc I q zj)
  | _=>show absurd (show false=true from hs) FJ
 | str i=>
  cases y with
  | str j=>let⟨_,rfl⟩:=rx;let#[_,1]:=ry;show eq_str (gc I q zi)
  | non=>let⟨_,rfl⟩:=rx;cases ry;show PySem.EqNone.eq_str_none (gc I q<|by simp)
  | _=>show absurd (show false=true from hs) FJ
 | _=>cases y <;> show absurd (show false=true from hs) FJ
def fM:Kz X (compareOp .NotEq) rNe:=by
 intro ñ s σ H x y v u Q I rx ry ⟨hs,q⟩
 cases x with
 | int i=>
  cases y with
  | int j=>let⟨_,rfl⟩:=rx;let#[_,1]:=ry;show ne_int (gc I q<|congrArg not zj)
  | _=>show absurd (show false=true from hs) FJ
 | str i=>
  cases y with
  | str j=>let⟨_,rfl⟩:=rx;let#[_,1]:=ry;show ne_str (gc I q<|congrArg not zi)
  | non=>let⟨_,rfl⟩:=rx;cases ry;show PySem.EqNone.ne_str_none (gc I q<|by simp)
  | _=>show absurd (show false=true from hs) FJ
 | _=>cases y <;> show absurd (show false=true from hs) FJ
def fO:Kz X (compareOp .Lt) (Uj λi j=>.bl (decide (i<j))):=Ea λ_ _ _ _ _ _ _ q=>lt_int q
def qi:Kz X (compareOp .LtE) (Uj λi j=>.bl (decide (i<=j))):=Ea λ_ _ _ _ _ _ _ q=>le_int q
def iM:Kz X (compareOp .Gt) (Uj λi j=>.bl (decide (j<i))):=Ea λ_ _ _ _ _ _ _ q=>gt_int q
def uQ:Kz X (compareOp .GtE) (Uj λi j=>.bl (decide (j<=i))):=Ea λ_ _ _ _ _ _ _ q=>ge_int q
def Ad:Kz X (compareOp .In) (λx y H Q=>∃ i j,x=.str i/\y=.str j/\Q (.bl (not (Builtin.Str.occurrences j i 0 j.length 1).isEmpty)) H):=by intro ñ s σ H x y v u Q I rx ry h;let#[i,j,2,q]:=h;let#[t,1]:=rx;let#[t',1]:=ry;show in_str (gc I q rfl)
def nE:Kz X (compareOp .Is) (λx y H Q=>y=.non/\Q (.bl (decide (x=.non))) H):=by
 intro ñ s σ H x y v u Q I rx ry h;let#[1,q]:=h
 cases ry;show is_none_gen (gc I q ?_)
 cases x <;> first
  | (cases rx;rfl)
  | (let#[t,1]:=rx;rfl)
def eM:Kz X (compareOp .IsNot) (λx y H Q=>y=.non/\Q (.bl (not (decide (x=.non)))) H):=by
 intro ñ s σ H x y v u Q I rx ry h;let#[1,q]:=h
 cases ry;show isnot_none_gen (gc I q ?_)
 cases x <;> first
  | (cases rx;rfl)
  | (let#[t,1]:=rx;rfl)
def Kz.or (h:Kz X f r)(h':Kz X f r'):Kz X f (λx y H Q=>r x y H Q\/r' x y H Q):=by
 intro ñ s σ H x y v u Q I rx ry q;rcases q with q|q
 ·show h ñ s σ H x y v u Q I rx ry q
 ·show h' ñ s σ H x y v u Q I rx ry q
def sT (b:Expr)(h:op≠.In:=ö)(h2:op≠.NotIn:=ö):behindInMarks op b=false:=by
 let e1:(op==CmpOp.In)=false:=by grind
 let e2:(op==CmpOp.NotIn)=false:=by grind
 cases b <;> simp[behindInMarks,e1,e2]
def yI (ho)(ha:PE X a ta)(hb:PE X b tb)(hm:behindInMarks op b=false):PE X Ų (V1 r ta tb):=by intro ñ s σ H Q I h;show wpAny_Compare1 SB hm
theorem Br (t:TE):TT:=λσ H Q=>t σ H λx H'=>∃ k,x=.bl k/\Q k H'
def yB (ho)(ha:PE X a ta)(hb:PE X b tb)(hm:behindInMarks op b=false):PT X Ų (Br (V1 r ta tb)):=by
 intro ñ s σ H Q I h;show wpAny_isTrue_Compare1 (Jx ŕ fun v s1 ⟨x,H1,I1,r1,q1⟩=>Jx (hb ñ s1 σ H1 _ I1 q1) fun u s2 ⟨y,H2,I2,r2,q2⟩=>
  Jx (ho ñ s2 σ H2 x y v u _ I2 r1 r2 q2) fun c s3 ⟨z,H3,I3,r3,k,e,q3⟩=>?_) hm
 subst e
 cases r3;show Hi #[H3,I3,q3]
theorem Bw (r r':R2)(ta tb tc:TE):TE:=λσ H Q=>ta σ H λx H1=>tb σ H1 λy H2=>r x y H2 λz H3=>∃ k,z=.bl k/\
 (if k=true then tc σ H3 λw' H4=>r' y w' H4 Q else Q L5 H3)
def nq (ho)(Q1:Kz X (compareOp op') r')(ha:PE X a ta)(hb:PE X b tb)(hc:PE X c tc)(hm:lastMarks [op,op'] [b,c]=false:=ą):PE X (.Compare a [op,op'] [b,c] pos) (Bw r r' ta tb tc):=by
 intro ñ s σ H Q I h;show Compare_chain (Jx ŕ fun v s1 ⟨x,H1,I1,r1,q1⟩=>chain_link (Jx (hb ñ s1 σ H1 _ I1 q1) fun u s2 ⟨y,H2,I2,r2,q2⟩=>
  Jx (ho ñ s2 σ H2 x y v u _ I2 r1 r2 q2) fun d s3 ⟨z,H3,I3,r3,k,e,q3⟩=>?_)) hm
 subst e
 cases r3;show Hi ?_
 cases k with
 | false=>show ite_ff #[.bl false,H3,I3,1,q3]
 | true=>show ite_tt (chain_last<|Jx (hc ñ s3 σ H3 _ I3 q3) λw' s4 gR=>(by let#[z',H4,I4,r4,q4]:=gR;show Q1 ñ s4 σ H4 y z' u w' Q I4 r2 r4 q4))
def kM:(sizeLine:Nat)<2 ^ 63:=by rw[IT];decide
def dD (r:Vals [x] us):∃ u,us=[u]/\RelV x u:=by
 cases r with
 | cons r1 r2=>cases r2;show#[_,1,r1]
def Bm (r:Vals [x,y] us):∃ u w',us=[u,w']/\RelV x u/\RelV y w':=by
 cases r with
 | cons r1 r2=>
  cases r2 with
  | cons r3 r4=>cases r4;show#[_,_,1,r1,r3]
def B4:JG X Ps A9:=by
 intro ñ s σ H xs us Q I r h;rcases h with⟨i,rfl,q⟩|⟨k,rfl,q⟩
 ·let#[u,1,t,1]:=dD r;show call_int_int #[.int i,H,I,#[_,1],q]
 ·let#[u,1,r1]:=dD r
  cases r1;show call_int_bool #[.int _,H,I.tok _,#[_,1],q]
universe e
structure QZ (h:Heap) (x dx C:Addr) (mA:Ω):Prop where
 obj:h.get? x=!W.instObj C dx
 ns:h.Ns1 dx mA
 ne:dx≠x
set_option tactic.hygienic true in def Au {h:Heap}(n:h.Ns1 dx mA):∃ od,h.get? dx=!od/\∀ name,W.lookIn name od=!mA name:=by
 let#[o,es,ep,ho,hd,hk,_,hm]:=n;show#[o,ho,λname=>?_];let e:=hm name;unfold nsFind findBy at e;rw[<- Array.find?_toList]at e;unfold W.lookIn;rw[hd];dsimp only;split
 ·simp_all
 ·rename_i q;let a:es.toList.any (·.refKey)=false:=by rw[List.any_eq_false];intro y hy;let#[z,t,Tc]:=hk y<|Array.mem_toList_iff.mp hy;simp[DictEntry.refKey,Tc]
  grind
def QZ.look (I:QZ h x dx C mA):∃ od,W.InstAt h x (W.instObj C dx) C !od/\∀ name,W.lookIn name od=!mA name:=
 let #[od,ho,hl]:=Au I.ns
 #[od,#[I.obj,2,ho],hl]
section
variable {K:Ψ}
def Ex (X:K.In s.heap)(I:QZ s.heap x dx C mA)(hg:W.plainGet K C name=true)(hh:W.hasDictIn K C=true)(ha:W.findIn K (.ref C) name=!none)(hv:mA name=!v)(hv':W.handedIn v=true)(h:Q v { s with toks:=s.toks+1 }):
  wpAny Ġ A (getAttr (.ref x) name expr) Q E s:=by
 let#[od,J,hl]:=I.look;show W.get_value X J (W.plainGet_of hg).1 (W.findObj_own hh ha rfl<|by rw[hl,hv]) hv' h
def CM (X:K.In s.heap)(I:QZ s.heap x dx C mA)(hg:W.plainGet K C name=true)(hf:W.findIn K (.ref C) name=!some (.ref f))(ht:W.isFn K (.ref f)=true)(hv:mA name=none)(h:Q (.ref f,[.ref x]) s):
  wpAny Ġ A (getMethod (.ref x) name pl) Q E s:=by
 let#[od,J,hl]:=I.look;show W.method_fn X J (W.plainGet_of hg).1 (W.plainGet_of hg).2 hf (HU.mp ht) (by change (W.lookIn name od).map _=!false;rw[hl,hv];rfl) h
def DN (X:K.In s.heap)(I:QZ s.heap x dx C mA)(hs:W.findIn K (.ref C) "__setattr__"=!some Ī)(hp:W.plainOver K C=true)(ht:W.takerIn K C name=!none)(hh:W.hasDictIn K C=true)(hw:PySem.Within mA ns)(hsz:ns.length<=sizeLine)(h:∀ h',QZ h' x dx C (λy=>if y=name then some v else mA y)->Heap.SameBut dx s.heap h'->Q () { s with heap:=h',toks:=s.toks+2 }):
  wpAny Ġ A (setAttr (.ref x) name v) Q E s:=by
 let#[od,J,hl]:=I.look;show W.set_plain X J hs (W.osa_open X J hp ht λb=>?_);let#[cd,hc,Po]:=W.any_some hh;let hx:=I.obj;show EX<|Ff (EX<|EX (wpAny_loadPart hx<|EX (W.Looks.here (W.looks_clsIn X hc) ?_)));rw[Po];show Ff<|EX (Ff (EX ?_));show wpAny_nsSet1 I.ns λh' hn2 PZ=>?_;let#[oD,esD,epD,ZV,hdD,hcD]:=hn2.count<|PySem.Within.cons name v hw;show EX (wpAny_lookBehind ZV (by rw[hdD];show pastItsLine_dict<|Fo hcD Ħ) ?_);show Ff (h _ #[(PZ.2 _<|Ne.symm I.ne).trans I.obj,hn2,I.ne] PZ)
def Cu (X:K.In s.heap)(hm:W.makesIn K C=true)(hi:W.findIn K (.ref C) "__init__"=!some (.ref f))(hf:W.typeIn K (.ref f)=!.type "function")(h:codeAny Ġ (A.under (.builtin "type.__call__" #[.ref C::vs,kw])) (.call (.ref f) #[.ref ō::vs,kw]) (W.InitBack ō R)
   { s with heap:=(s.heap.push W.emptyDict).push (W.instObj C s.heap.objs.size) }):
  codeAny Ġ A (.call (.ref C) #[vs,kw]) R s:=by
 let#[hh,g,d,t,os]:=s;show W.make_core (W.makes_of X hm) (W.looks_findIn X hi) (λself=>W.bind_fn X self hf) Ń h
universe e
theorem kx (f)(v):List (Str×V)->Î
 | []=>[(f,v)]
 | (g,x)::r=>if g=f then (g,v)::r else (g,x)::kx f v r
def ly (f g:Str)(v):∀ fs:Î,(kx f v fs).lookup g=if g=f then some v else fs.lookup g:=by
 intro r'
 induction r' with
 | nil=>
  change List.lookup g [(f,v)]=_
  grind
 | cons hd' r ih'=>
  let#[k,x]:=hd';let ih:=ih'
  grind [kx,List.lookup]
def kO (f)(v):∀ fs:Î,f∈(kx f v fs).map (·.1)/\∀ g,g∈fs.map (·.1)->g∈(kx f v fs).map (·.1):=by
 intro r'
 induction r' with
 | nil=>
  show #[by simp[kx],λg h=>by simp at h]
 | cons hd' r ih'=>
  let#[k,x]:=hd';let#[i1,i2]:=ih'
  grind [kx,List.map_cons,List.mem_cons_of_mem,List.mem_cons]
def lB (f)(v):∀ fs:Î,(kx f v fs).length<=fs.length+1:=by
 intro r'
 induction r' with
 | nil=>
  simp[kx]
 | cons hd' r ih'=>
  let#[k,x]:=hd';let ih:=ih'
  grind [kx,List.length_cons]
def Nt.some_of (r:Nt (!v) o):∃ u,o=!u/\RelV v u:=by
 cases o with
 | none=>show (r).elim
 | some u=>show#[u,1,r]
def Nt.none_of (r:Nt none o):o=none:=by
 cases o with
 | none=>rfl
 | some u=>show (r).elim
def AH (r:RelV v u):W.handedIn u=true:=by
 cases v with
 | non=>cases (r);rfl
 | bl b=>cases (r);rfl
 | int i=>let⟨t,e⟩:=r;cases e;rfl
 | str x=>let⟨t,e⟩:=r;cases e;rfl
 | byt b=>let⟨t,e⟩:=r;cases e;rfl
 | flt b=>let⟨t,e⟩:=r;cases e;rfl
 | ref a=>cases (r);rfl
 | ty n=>cases (r);rfl
def mB (Jk:MD P w H h)(e:H a=!.ins C dx fs):∃ mA,QZ h a dx C mA/\(∀ f,Nt (fs.lookup f) (mA f))/\PySem.Within mA (fs.map (·.1))/\fs.length<=1000/\H dx=!.own a:=by
 let#[d,z,ne,ob,mA,n,r,q]:=(Jk a _ e)
 show#[mA,#[ob,n,ne],r,q,z,d]
structure MZ (K:Ψ) (C:Addr):Prop where
 pg:W.plainGet K C Str.empty=true
 hd:W.hasDictIn K C=true
 po:W.plainOver K C=true
 sa:W.findIn K (.ref C) "__setattr__"=!some Ī
def MZ.get {K:Ψ}(c:MZ K C)(f):W.plainGet K C f=true:=c.pg
theorem JE (K)(C)(f):Prop:=W.findIn K (.ref C) f=!none
def JE.Yp {K:Ψ}(n:JE K C f):W.takerIn K C f=!none:=by unfold W.takerIn;rw[n];rfl
structure ye (K:Ψ) (C:Addr) (m:Str) (f:Addr):Prop where
 at_:W.findIn K (.ref C) m=!some (.ref f)
 fn:W.isFn K (.ref f)=true
 kp:W.keepIn K (.ref f)=true
def xV (I)(e:H a=!.ins C dx fs)(c:MZ X.K C)(n:JE X.K C f)(l:fs.lookup f=!v)(h:∀ u s',Inv X ñ σ H s'->RelV v u->Q u s'):wpAny X.Ę A (getAttr (.ref a) f b) Q E s:=by let#[mA,O,r,_,_,_]:=mB I.Jk e;let#[u,hu,ru]:=Nt.some_of (by rw[<- l];show r f);show Ex I.LY O (c.get f) c.hd n hu (AH ru) (h u _ (I.tok _) ru)
def jc (I)(e:H a=!.ins C dx fs)(c:MZ X.K C)(k:ye X.K C m g)(l:fs.lookup m=none)(h:Q (.ref g,[.ref a]) s):wpAny X.Ę A (getMethod (.ref a) m pl) Q E s:=by let#[mA,O,r,_,_,_]:=mB I.Jk e;let hn:=Nt.none_of (by rw[<- l];show r m);show CM I.LY O (c.get m) k.at_ k.fn hn h
def wX (I)(e:H a=!.ins C dx fs)(c:MZ X.K C)(n:JE X.K C f)(hl:fs.length<1000)(ry)(h:∀ s',Inv X ñ σ (upd H a (.ins C dx (kx f y fs))) s'->Q () s'):wpAny X.Ę A (setAttr (.ref a) f u) Q E s:=by
 let#[mA,O,r,wi,_,ho]:=mB I.Jk e;let hz:(fs.map (·.1)).length<=sizeLine:=by rw[EV,IT];lia
 show DN I.LY O c.sa c.po n.Yp c.hd wi hz λh' O' sb=>h _ ?_;let hd:∃ o,h'.get? dx=!o:=let ⟨o,_,_,e',_⟩:=O'.ns;#[o,e'];show I.write (by rw[e];show Hf) (.inr ho) (λb q hb z=>(sb.2 b hb).trans z) hd ?_;show#[by rw[a8 O.ne];show ho,?_,O.ne,O'.obj,_,O'.ns,λg=>?_,λg hg=>?_]
 ·let:=lB f y fs;lia
 ·rw[ly];by_cases q:g=f
  ·rw[if_pos q,if_pos q];show ry
  ·simp_all
 ·by_cases q:g=f
  ·rw[q];show (kO f y fs).1
  ·show (kO f y fs).2 g (wi g λz=>hg ?_)
   simp_all
def Inv.made (I):Inv X ñ σ (upd (upd H s.heap.objs.size (.own ō)) ō (.ins C s.heap.objs.size []))
  { s with heap:=(s.heap.push W.emptyDict).push (W.instObj C s.heap.objs.size) }:=by
 let e1:(s.heap.push W.emptyDict).get? s.heap.objs.size=!W.emptyDict:=Fx s.heap rfl;let e2:((s.heap.push W.emptyDict).push<|W.instObj C s.heap.objs.size).get? ō=!W.instObj C s.heap.objs.size:=by
  let:=Fx (s.heap.push W.emptyDict) (o:=W.instObj C s.heap.objs.size) rfl
  simp_all
 let e3:(s.heap.push W.emptyDict).Ns s.heap.objs.size (λ_=>none):=#[W.emptyDict,[].toArray,_,e1,1,λe he=>absurd he<|by simp,λ_=>rfl]
 show (I.laid (o:=.own _) (t':=s.toks) (λb u q=>Fc _ q) (Fg _) #[_,e1]).laid (λb u q=>Fc _ q) (Nat.le_of_eq<|Ij _ _) ?_;let ne:s.heap.objs.size≠s.heap.objs.size+1:=Gg<|Gv _;show⟨by rw[a8 ne,af],FR _,ne,e2,λ_=>none,(Heap.Ns1.of_empty e3).at λo q=>Fc _ q,λ_=>Hf,λy hy=>absurd rfl hy⟩
def EK (hb:attributeBase e f env (eval e env)=eval e env)(h:wpAny Ġ A (eval e env) (λo s₁=>wpAny Ġ A (getAttr o f true) Q E s₁) E s):wpAny Ġ A (eval (.Attribute e f pos) env) Q E s:=
 Attribute_any_ h (by rw[arm_eval_Attribute,hb])
theorem Yw (K)(ta)(f):TE:=λσ H Q=>ta σ H λx H1=>∃ a C dx fs v,x=.ref a/\H1 a=!.ins C dx fs/\MZ K C/\JE K C f/\fs.lookup f=!v/\Q v H1
theorem a2C (K)(ta tv:TE)(f):TS:=λD σ H=>tv σ H λy H1=>ta σ H1 λx H2=>∃ a C dx fs,x=.ref a/\H2 a=!.ins C dx fs/\MZ K C/\JE K C f/\fs.length<1000/\
 D.nx σ (upd H2 a (.ins C dx (kx f y fs)))
def BU (he:PE X e ta)(hb:attributeBase e f X.env (eval e X.env)=eval e X.env):PE X (.Attribute e f pos) (Yw X.K ta f):=by intro ñ s σ H Q I h;show EK hb (Jx Ō λu s1 gR=>?_);let#[x,H1,I1,rx,a,C,dx,fs,v,ex,ea,c,n,l,q]:=gR;subst ex;obtain rfl:u=Value.ref a:=rx;show xV I1 ea c n l λu' s2 I2 ru=>#[v,H1,I2,ru,q]
def fY (ha:PE X o ta)(hv)(hs:swapsWith value (!.Attribute o f pos') pos.line X.env=pure false):PS X P3 (a2C X.K ta tv f):=by intro ñ s σ H D I h;show Ik (Jx (hv ñ s σ H _ I h) fun u s1 ⟨y,H1,I1,ry,q⟩=>Jx (ha ñ s1 σ H1 _ I1 q) λov s2 gR=>?_) hs;let#[x,H2,I2,rx,a,C,dx,fs,ex,ea,c,n,l,q2]:=gR;subst ex;obtain rfl:ov=Value.ref a:=rx;show wX I2 ea c n l ry λs3 I3=>#[σ,_,I3,q2]
section
variable {H:Hp}
inductive jS (K:Ψ) (H:Hp):V->Value->Prop where
 |non:jS K H .non (.type "NoneType")
 |bl (x:Bool):jS K H (.bl x) (.type "bool")
 |int (i:Int):jS K H (.int i) Ps
 |str (x:Str):jS K H (.str x) (.type "str")
 |flt (x:UInt64):jS K H (.flt x) (.type "float")
 |lst {a:Addr}{xs:π} (e:H a=!.lst xs):jS K H (.ref a) Ş
 |frz {a:Addr}{o:Obj}{xs:π} (e:H a=!.frz o (.lst xs)):jS K H (.ref a) Ş
 |tup {a:Addr}{xs:π} (e:H a=!.tup xs):jS K H (.ref a) (.type "tuple")
 |dK {a:Addr}{ķ:ξ} (e:H a=!.dK ķ):jS K H (.ref a) KF
 |dT {a:Addr}{ķ:List (List Key×V)} (e:H a=!.dT ķ):jS K H (.ref a) KF
 |ins {a C dx:Addr}{fs:Î} (e:H a=!.ins C dx fs) (cl:MZ K C) (ha:W.findIn K (.ref C) "__class__"=!some (.builtin "object.__class__"))
   (hn:W.specialIn K (.builtin "object.__class__") "__get__"=!some (.builtin "getset_descriptor.__get__")) (ZE:W.takesIn K (.builtin "object.__class__")=!true)
   (hm:W.mroIn K C (.type "object")=!true):jS K H (.ref a) (.ref C)
def AC (I)(rx:RelV x u)(ty:jS X.K H x t)(e:W.kitOne X.K t c=!b)(h:∀ tk,Q (.bool b) { s with toks:=tk }):
  wpAny X.Ę A (call (.builtin "isinstance") [u,c]) Q E s:=by
 cases ty with
 | non=>cases (rx);show GG W.kitx_none I.LY Hf e ń h
 | bl y=>cases (rx);show GG W.kitx_bool I.LY Hf e ń h
 | int i=>let⟨t,q⟩:=rx;cases q;show GG W.kitx_int I.LY Hf e ń h
 | str y=>let⟨t,q⟩:=rx;cases q;show GG W.kitx_str I.LY Hf e ń h
 | flt y=>let⟨t,q⟩:=rx;cases q;show GG W.kitx_float I.LY Hf e ń h
 | @lst a xs ea=>
  cases (rx);let#[_,_,n,_,h1]:=(I.Jk a _ ea)
  show GG W.kitx_list I.LY #[_,h1,1] e ń h
 | @frz a ob xs ea=>
  cases (rx);let#[_,_,_,n,_,h1]:=(I.Jk a _ ea)
  show GG W.kitx_list I.LY #[_,h1,1] e ń h
 | @tup a xs ea=>
  cases (rx);let#[_,_,_,p]:=(I.Jk a _ ea)
  let#[o,h1,h2,_]:=p;show GG W.kitx_tuple I.LY #[o,h1,h2] e ń h
 | @dK a ķ ea=>
  cases (rx);let#[_,_,vs,_,p]:=(I.Jk a _ ea)
  let#[o,es,ep,h1,h2,_]:=p;show GG W.kitx_dict I.LY #[o,h1,h2.1] e ń h
 | @dT a ķ ea=>
  cases (rx);let#[_,_,xs,_,o,es,ep,h1,h2,_]:=(I.Jk a _ ea)
  show GG W.kitx_dict I.LY #[o,h1,h2.1] e ń h
 | @ins a C dx fs ea cl ha hn ZE hm=>
  cases (rx);let#[mA,O,_]:=mB I.Jk ea;let#[od,J,_]:=O.look;show GG (W.kitx_own (cl.get _) cl.hd ha hn ZE hm) I.LY J e ń h
universe e
structure Jn (k:Nat) (A:Ë):Prop where
 hd:A.handled=none
 dp:A.depth+3 * k+5<recursionLimit
 un:A.units+16 * k+200<cLine
def Jn.mono (r:Jn k A)(h:j<=k):Jn j A:=#[r.hd,by let:=r.dp;omega,by let:=r.un;omega]
def Jn.deeper (r:Jn (k+1) A)(env:Env):Jn k (A.deeper env):=
 #[r.hd,by let:=r.dp;change A.depth+1+3 * k+5<_;lia,by let:=r.un;change A.units+3+16 * k+200<_;lia]
def xF {A:Ë}:(A.under (.builtin "type.__call__" #[.ref C::us,kw])).depth=A.depth+1:=by first|rfl|simp
def xE {A:Ë}:(A.under (.builtin "type.__call__" #[.ref C::us,kw])).units=A.units+1:=by first|rfl|simp
abbrev _root_.Û:=List (Str×Value)
def Jn.make (r:Jn (k+1) A)(C)(us)(kw:Û):Jn k (A.under (.builtin "type.__call__" #[.ref C::us,kw])):=
 #[r.hd,by let:=r.dp;rw[xF];lia,by let:=r.un;rw[xE];lia]
def Jn.depth (r:Jn k A):A.depth<recursionLimit:=by let:=r.dp;omega
def Jn.units (r:Jn k A):A.units+64<cLine:=by let:=r.un;omega
theorem wW:TA:=λ_ H Q=>Q [] H
theorem Bv (ta)(tr:TA):TA:=λσ H Q=>ta σ H λx H1=>tr σ H1 λxs H2=>Q (x::xs) H2
def IZ:PA X [] wW:=λ_ _ _ _ H Q I h=>Calls.spliced_nil #[[],H,I,.nil,h]
abbrev _root_.Ĕ (X:L2.Cx)(e:PySem.Expr)(es:List PySem.Expr):Prop:=starEach (e::es) X.env=(false,eval e X.env)::starEach es X.env
def a9 (ha:PE X e te)(hr:PA X es t)(hs:Ĕ X e es:=Ą):PA X (e::es) (Bv te t):=by intro pos ñ s σ H Q I h;rw[hs];show Calls.spliced_cons (Jx ŕ λu s1 gR=>?_);let#[x,H1,I1,r1,q1]:=gR;show Jx (hr pos ñ s1 σ H1 _ I1 q1) λus s2 gR=>by let#[xs,H2,I2,r2,q2]:=gR;show#[x::xs,H2,I2,.cons r1 r2,q2]
abbrev Sp:=List V->Hp->VK->XK->Prop
abbrev RD:=List Env->Hp->Shared->XK->ρ
structure R1 (P:É) (w:World) (K:Ψ) (mg:Ω) (base:Heap) (A:Ë) (outer:List Env) (s:Ê) (H:Hp):Prop where
 frames:A.frames=!outer
 mod:Mod K mg base
 bs:∀ b o,base.get? b=!o->s.heap.get? b=!o/\H b=none
 So:base.objs.size<=s.heap.objs.size
 Nr:s.heap.FunFrames base outer
 Tg:∀ b∈Oo outer,H b=none
 Jk:MD P w H s.heap
 bare:AllBare s.gens
theorem CE (outer)(P)(w)(H)(s:Ê)(Q)(u)(s'):Prop:=
 ∃ v H',s'.os=s.os/\AllBare s'.gens/\Un (Oo outer) [] H H' s.heap s'.heap/\MD P w H' s'.heap/\RelV v u/\Q v H'
theorem CR (CX:RD)(outer)(P)(w)(H)(s:Ê)(Q)(E:XK)(r:Result)(s'):Prop:=
 match r with
 | .ok (.ret u)=>CE outer P w H s Q u s'
 | .ok _=>False
 | .error e=>CX outer H s E e s'
abbrev _root_.È:=FuncData
structure Jy (P:É) (w:World) (K:Ψ) (mg:Ω) (base:Heap) (CX:RD) (k:Nat) (f:Addr) (fd:È) (ps:η) (sp:Sp):Prop where
 len:∀ vs H Q E,sp vs H Q E->vs.length=ps.length
 run:∀ (A:Ë)(outer:List Env)(s:Ê)(H:Hp)(args:Args)(us:θ)(vs:π)(Q:VK)(E:XK),Jn k A->R1 P w K mg base A outer s H->BindsTo s fd args A2->Vals vs us->sp vs H Q E ->
  codeAny Ż A (.call (.ref f) args) (CR CX outer P w H s Q E) s
def Jy.imp {K:Ψ}(F:Jy P w K mg base CX k f fd ps sp)(h:∀ vs H Q E,YA vs H Q E->sp vs H Q E):Jy P w K mg base CX k f fd ps YA:=
 #[λvs H Q E q=>F.len vs H Q E<|h _ _ _ _ q,λA outer s H args us vs Q E hr he hb hv hs=>F.run A outer s H args us vs Q E hr he hb hv<|h _ _ _ _ hs]
def R1.make {K:Ψ}(e:R1 P w K mg base A outer s H)(C)(us)(kw:Û):
  R1 P w K mg base (A.under (.builtin "type.__call__" #[.ref C::us,kw])) outer s H:=#[by first|show e.frames|(simpa [Around.under,Code.envs,Code.isFrame,pushEnvs] using e.frames),e.mod,e.bs,e.So,e.Nr,e.Tg,e.Jk,e.bare]
def Inv.Tj (I):R1 X.prog X.w X.K X.mg X.base X.A X.stack s H:=
 #[I.ok.frames,I.ok.mod,I.bs,Fo I.ok.So I.sz,I.stack,I.NN,I.Jk,I.bare]
def Inv.after (I)(h:CE X.stack X.prog X.w H s Q u s'):EP X ñ σ Q u s':=by let#[v,H',os,bare,un,Jk,r,q]:=h;let#[hh,g,d,t,os']:=s';obtain rfl:os'=s.os:=os;show#[v,H',I.call un Jk bare λb z=>absurd z<|by simp,r,q]
theorem yq (sp)(dvs)(E:XK)(t:TA):TE:=λσ H Q=>t σ H λvs H1=>sp (vs++dvs) H1 Q E
theorem pU (C)(m:Str)(sp)(dvs)(E:XK)(ta)(t:TA):TE:=λσ H Q=>ta σ H λx H1=>∃ a dx fs,x=.ref a/\H1 a=!.ins C dx fs/\fs.lookup m=none/\
 t σ H1 λvs H2=>sp (x::(vs++dvs)) H2 Q E
theorem yo (C)(sp)(dvs)(E:XK)(t:TA):TE:=λσ H Q=>t σ H λvs H1=>∀ x dx,H1 x=none->H1 dx=none->dx≠x->
 sp (.ref x::(vs++dvs)) (upd (upd H1 dx (.own x)) x (.ins C dx [])) (λv H2=>v=.non/\Q (.ref x) H2) E
theorem Binds (K)(fd:È)(ps)(ds:θ):Prop:=
 ∀ (s:Ê)(us:θ),K.In s.heap->(us++ds).length=ps.length->BindsTo s fd ⟨us,[]⟩ (ps.zip (us++ds))
def Binds.all {K:Ψ}(h:∀ us:θ,us.length=ps.length->bindArgs fd #[us,[]]=pure A2):Binds K fd ps []:=λs us _ hl=>by rw[Ft]at hl ⊢;show .of_eq (h us hl)
theorem ic (CX:RD)(X)(E:XK):Prop:=∀ (ñ:ζ)(σ:St)(H:Hp)(s:Ê)(e:Value)(s':Ê),Inv X ñ σ H s->CX X.stack H s E e s'->X.xe e s'
section
variable {f C:Addr}
def se (F)(hr)(hb:Binds X.K fd ps ds)(hd)(hx:ic CX X E)(I)(r:Vals vs us)(h:sp (vs++dvs) H Q E):wpAny X.Ę X.A (call (.ref f) us) Ŏ X.xe s:=by
 let r2:=r.append hd;let hl:(us++ds).length=ps.length:=by rw[<- r2.length];show F.len _ _ _ _ h
 show wpAny_call (HK (F.run X.A X.stack s H #[us,[]] _ _ Q E hr I.Tj (hb s us I.LY hl) r2 h) λr s' hq=>?_)
 cases r with
 | error e=>show hx ñ σ H s e s' I hq
 | ok fl=>
  cases fl with
  | ret u=>show I.after hq
  | next=>show False.elim hq
  | brk=>show False.elim hq
  | cont=>show False.elim hq
abbrev _root_.Ē (X:L2.Cx)(pos:PySem.Pos)(es:List PySem.Expr):Prop:=(backTo pos (starEach es X.env)).any (·.1)=false
def yJ (F)(hr)(hg:Gl X x)(hm:X.mg x=!.ref f)(hk:W.keepIn X.K (.ref f)=true)(hb:Binds X.K fd ps ds)(hd)(hx:ic CX X E)(ha:PA X (e::es) t)(Mm)(he:Ĕ X e es:=Ą)(LM):
  PE X Ģ (yq sp dvs E t):=by
 intro ñ s σ H Q I h;show GB (dj I hg hm ?_ Mm);show HV I.ok.mod.Ur hk (Jx ŷ fun us s1 ⟨vs,H1,I1,r,q⟩=>#[I1.LY,?_]) he LM;show se F hr hb hd hx I1 r q
def yG (he:PE X o ta)(c:MZ X.K C)(hm:ye X.K C m f)(F)(hr)(hb:Binds X.K fd ps ds)(hd)(hx:ic CX X E)(ha:PA X (e::es) t)(Pm)(LM)(ht:eval (.Call Ĭ (e::es) [] pos) X.env=(do
   let ov <- eval o X.env
   standAt apos.atName
   let (f,first) <- holding [ov] Ŝ
   callWith pos f first (backTo pos Ÿ) Ĵ):=Ą):
  PE X (.Call Ĭ (e::es) [] pos) (pU C m sp dvs E ta t):=by
 intro ñ s σ H Q I h;show W.methodCall_KW (Jx Ō λu s1 gR=>?_) ht;let#[x,H1,I1,rx,a,dx,fs,ex,ea,l,q]:=gR;subst ex;obtain rfl:u=Value.ref a:=rx;show jc I1 ea c hm l ?_;show HV I.ok.mod.Ur hm.kp (Jx (ha pos ñ s1 σ H1 _ I1 q) fun us s2 ⟨vs,H2,I2,r,q2⟩=>#[I2.LY,?_]) Pm LM;show se (vs:=.ref a::vs) F hr hb hd hx I2 (.cons rfl r) q2
def BR (he:PE X o ta)(c:MZ X.K C)(hm:ye X.K C m f)(F)(hr)(hb:Binds X.K fd ps ds)(hd)(hx:ic CX X E)(ht:eval ī X.env=(do
   let ov <- eval o X.env
   standAt apos.atName
   let (f,first) <- holding [ov] Ŝ
   callWith pos f first (backTo pos (starEach [] X.env)) Ĵ):=Ą):
  PE X ī (pU C m sp dvs E ta wW):=by
 intro ñ s σ H Q I h;show W.methodCall_KW (Jx Ō λu s1 gR=>?_) ht;let#[x,H1,I1,rx,a,dx,fs,ex,ea,l,q]:=gR;subst ex;obtain rfl:u=Value.ref a:=rx;show jc I1 ea c hm l ?_;show W.callWith_K0 I1.LY hm.kp (se (vs:=[.ref a]) F hr hb hd hx I1 (.cons rfl .nil) q)
structure Mk (K:Ψ) (C f:Addr):Prop where
 makes:W.makesIn K C=true
 init:W.findIn K (.ref C) "__init__"=!some (.ref f)
 fn:W.isFn K (.ref f)=true
 kp:W.keepIn K (.ref C)=true
def uD (M)(F)(hr:Jn (k+1) X.A)(hb:Binds X.K fd ps ds)(hd)(hx:ic CX X E)(I)(r:Vals vs us)(h:∀ x dx,H x=none->H dx=none->dx≠x->sp (.ref x::(vs++dvs)) (upd (upd H dx (.own x)) x (.ins C dx [])) (λv H2=>v=.non/\Q (.ref x) H2) E):
  wpAny X.Ę X.A (call (.ref C) us) Ŏ X.xe s:=by
 let hq:=h _ s.heap.objs.size (I.Jk.fresh<|Nat.le_succ _) (I.Jk.fresh<|Fg _)<|Gg (Gv _);let I2:=Inv.made (C:=C) I;let r2:Vals (V.ref ō::_) _:=.cons rfl<|r.append hd;let hl:(Value.ref ō::us++ds).length=ps.length:=by let e:=r2.length;rw[F.len _ _ _ _ hq]at e;show e.symm
 show wpAny_call (Cu I.LY M.makes M.init (HU.mp M.fn) (HK (F.run _ X.stack _ _ #[Value.ref _::us,[]] _ _ _ E (hr.make C us [])
  (I2.Tj.make C us []) (hb _ _ I2.LY hl) r2 hq) λr s' OO=>?_))
 cases r with
 | error e=>show hx ñ σ _ _ e s' I2 OO
 | ok fl=>
  cases fl with
  | ret u=>
   let#[v,H',I3,rv,ev,q3]:=I2.after OO;subst ev;show#[rv,#[V.ref _,H',I3,1,q3]]
  | next=>show False.elim OO
  | brk=>show False.elim OO
  | cont=>show False.elim OO
def E6 (M)(F)(hr:Jn (k+1) X.A)(hg:Gl X x)(hm:X.mg x=!.ref C)(hb:Binds X.K fd ps ds)(hd)(hx:ic CX X E)(ha:PA X (e::es) t)(Mm)(he:Ĕ X e es:=Ą)(LM):
  PE X Ģ (yo C sp dvs E t):=by
 intro ñ s σ H Q I h;show GB (dj I hg hm ?_ Mm);show HV I.ok.mod.Ur M.kp (Jx ŷ fun us s1 ⟨vs,H1,I1,r,q⟩=>#[I1.LY,?_]) he LM;show uD M F hr hb hd hx I1 r q
def BS (M)(F)(hr:Jn (k+1) X.A)(hg:Gl X x)(hm:X.mg x=!.ref C)(hb:Binds X.K fd ps ds)(hd)(hx:ic CX X E)(Mm):PE X (.Call (.Name x p) [] [] pos) (yo C sp dvs E wW):=by intro ñ s σ H Q I h;show GB (dj I hg hm ?_ Mm);show W.callWith_K0 I.LY M.kp (uD M F hr hb hd hx I .nil h)
universe e
structure ax (N P:η) (sc:Scope):Prop where
 kind:sc.kind=.function
 co:sc.isCoroutine=false
 gen:sc.isGenerator=false
 nd:N.Nodup
 pre:N.take P.length=P
 par:∀ x∈P,sc.names.lookup x=some .local \/ sc.names.lookup x=!.cell
 Wi:∀ y∈sc.names,y.2≠.free
def r9 {kindOf:Str->Option NameKind}:∀ {binds:Û}{m:Ω},(∀ v,(x,v)∉binds)->bindL kindOf binds m x=m x:=by
 intro r'
 induction r' with
 | nil=>
  intro _ _;show rfl
 | cons hd' r ih'=>
  let#[n,v]:=hd';intro m h;unfold bindL;rw[ih' λw hw=>h w<|Fp _ hw];split
  ·grind
  ·rfl
def rg {kindOf:Str->Option NameKind}:∀ {binds:Û}{m:Ω},(∀ v,(x,v)∉binds)->bindC kindOf binds m x=m x:=by
 intro r'
 induction r' with
 | nil=>
  intro _ _;show rfl
 | cons hd' r ih'=>
  let#[n,v]:=hd';intro m h;unfold bindC;rw[ih' λw hw=>h w<|Fp _ hw];split
  ·rfl
  ·grind
def rf {kindOf:Str->Option NameKind}:∀ {P:η}{vs:θ}{i:Nat}{m:Ω},P.Nodup->P[i]?=!x->vs[i]?=!v->kindOf x=!.local->
  bindL kindOf (P.zip vs) m x=!v
 | [],_,_,_,_,h,_,_=>by simp at h
 | _::_,[],_,_,_,_,h,_=>by simp at h
 | p::P,w::vs,0,m,nd,h1,h2,hk=>by simp at h1 h2;subst h1;subst h2;change bindL kindOf ((p,w)::P.zip vs) m p=_;unfold bindL;rw[r9 λv hv=>(FM.mp nd).1 (GN hv).1,if_pos hk];simp
 | p::P,w::vs,i+1,m,nd,h1,h2,hk=>by change bindL kindOf ((p,w)::P.zip vs) m x=_;unfold bindL;show rf (i:=i) (FM.mp nd).2 (by simpa using h1) (by simpa using h2) hk
def rj {kindOf:Str->Option NameKind}:∀ {P:η}{vs:θ}{i:Nat}{m:Ω},P.Nodup->P[i]?=!x->vs[i]?=!v->kindOf x≠!.local->
  bindC kindOf (P.zip vs) m x=!v
 | [],_,_,_,_,h,_,_=>by simp at h
 | _::_,[],_,_,_,_,h,_=>by simp at h
 | p::P,w::vs,0,m,nd,h1,h2,hk=>by simp at h1 h2;subst h1;subst h2;change bindC kindOf ((p,w)::P.zip vs) m p=_;unfold bindC;rw[rg λv hv=>(FM.mp nd).1 (GN hv).1,if_neg hk];simp
 | p::P,w::vs,i+1,m,nd,h1,h2,hk=>by change bindC kindOf ((p,w)::P.zip vs) m x=_;unfold bindC;show rj (i:=i) (FM.mp nd).2 (by simpa using h1) (by simpa using h2) hk
theorem start (N:η)(vs:π):St:=vs.map some++List.replicate (N.length - vs.length) none
theorem dU (CX:RD)(P)(w)(K)(mg)(base)(N:η)(ğ:Str)(scope)(f:Addr)(cd:Value)(A:Ë)(outer)(s:Ê)(H)(E:XK):Cx where
 prog:=P
 w:=w
 K:=K
 mg:=mg
 base:=base
 A:=A.deeper T0
 N:=N
 s₀:=s
 H₀:=H
 env:=envOfC ğ scope s.heap.objs.size f cd
 outer:=outer
 stack:=envOfC ğ scope s.heap.objs.size f cd::outer
 ex:=[]
 calm:=true
 fn:=λ_=>true
 pn:=[]
 xe:=λe s'=>wpAny Ż (A.deeper T0) (leaving T0 e) (λ_ Ug=>CX outer H s E e Ug) (λe' Ug=>CX outer H s E e' Ug) s'
def wA {sc:Scope}(h:sc.names.lookup x=!.cell):∃ c,(cellsFrom n sc.names []).lookup x=!c:=by show Gu.mp (W.cellsFrom_some sc.names n []<|.inl h)
def AD {K:Ψ}(S:ax N ps scope)(hd:A.handled=none)(e0:R1 P w K mg base A outer s H)(hl:vs.length=ps.length)(r:Vals vs us)(x:InCallC s s.heap.objs.size (bindL (envOfC ğ scope s.heap.objs.size f cd).kindOf A2 λ_=>none) (cellsFrom ō scope.names []) (bindC (envOfC ğ scope s.heap.objs.size f cd).kindOf A2 λ_=>none) s1):
  Inv (dU CX P w K mg base N ğ scope f cd A outer s H E) [] C6 H s1:=by
 let LM:ps.length<=N.length:=by let:=congrArg List.length S.pre;rw[Fh]at this;omega
 let#[h1,tk,1,hk]:=x.done;let Zc:∀ b:Addr,b∉(dU CX P w K mg base N ğ scope f cd A outer s H E).ex:=λb z=>absurd (show b∈([]) from z) Ğ;show#[#[e0.mod,S.kind,2,Fg _,λy z c h1 h2=>?_,λy hy=>?_,λy c _ h=>?_,λ_=>hd,Around.frames_deeper e0.frames,.inr #[2],λb z=>absurd z<|Zc b,e0.bs,e0.So,λb _ _=>Zc b,λb z=>absurd z<|Zc b,e0.Nr,e0.Tg],1,e0.bare,Un.kept hk,#[_,x.toInCall.ns,λi y v h1 h2 h3=>?_],λy c h=>#[_,x.cell y c h],e0.Jk.fresh<|Fg _,λy c h=>?_,λp hp=>absurd (show p∈([]) from hp)<|by simp,e0.Jk.kept hk,?_]
 ·show name_of_addr x.apart (HP h1) (HP h2)
 ·let hy:=hy;rcases hy with hy|hy
  ·show wA hy
  ·show absurd rfl (S.Wi _<|HP hy)
 ·show IJ (x.above y c<|HP h)
 ·let ha:vs[i]?=!v:=by unfold start at h2;grind
  let hi:=(EY.mp ha).1;let#[u,hu,rv]:=r.get ha;let hp:ps[i]?=!y:=by rw[<- S.pre,FX<|by omega];show h1
  let ndP:ps.Nodup:=by rw[<- S.pre];show S.nd.sublist (Ib _ _)
  show#[u,rv,?_];rcases S.par y (F6 hp) with k|k
  ·show .inl #[k,rf ndP hp hu k]
  ·let#[c,e]:=wA k;show .inr #[.inl k,c,e,?_];let q:=x.cell y c e;rw[rj ndP hp hu (by change scope.names.lookup y≠_;rw[k];decide)]at q;show q
 ·show e0.Jk.fresh (IJ<|x.above y c (HP h))
 ·unfold start;change _=N.length;rw[Fj,EV,Io];omega
def z8 {K:Ψ}{dV kV:Value}(lk:K.lookup f=some #[oc,od,.func (W.fnOf name ğ params body scope dV kV doc pm an J7 ct),KR])(Qe:W.codeIn K J7 ğ=true)(S:ax N ps scope)(len)(Me:∀ (A:Ë)(outer:List Env)(s:Ê)(H:Hp)(vs:π)(Q:VK)(E:XK),Jn k (A.deeper (envOfC ğ scope s.heap.objs.size f J7))->sp vs H Q E->
   ∃ t,Nj A4 body t/\t { nx:=λ_ H'=>Q .non H',rt:=Q } C6 H):
  Jy P w K mg base CX (k+1) f (W.fnOf name ğ params body scope dV kV doc pm an J7 ct) ps sp:=by
 show#[len,λA outer s H args us vs Q E hr e0 hb r Rq=>?_];let KX:=e0.mod.Ur.keeps λb o e=>(e0.bs b o e).1;let lim:=e0.mod.nolimit.keeps λb o e=>(e0.bs b o e).1;let a0c:∀ y∈ps.zip us,scope.names.lookup y.1=!.local\/(scope.names.lookup y.1=!.cell/\((cellsFrom ō scope.names []).lookup y.1).isSome=true):=λgR hy=>by
  let#[n,v]:=gR;rcases S.par n (GN hy).1 with q|q
  ·show .inl q
  ·show .inr #[q,W.cellsFrom_some _ _ _<|.inl q]
 show codeAny_call_function hr.depth (KX _ _ lk) rfl S.co S.gen rfl (W.codeRec_of KX Qe) (hb _ _ _ _ ?_);show wpAny_newFunctionEnv_cells S.kind a0c λenv he s1 x=>?_;subst he;show#[lim.keeps x.toInCall.keep,codeAny_func ?_];let#[t,ht,hq]:=Me A outer s H vs Q E (hr.deeper _) Rq;let I:Inv A4 [] _ H s1:=AD S hr.hd e0 (len _ _ _ _ Rq) r x;show GF (ht [] s1 _ H _ I hq) (λfl s' hs=>?_) λe s' hs=>hs;let fin:∀ {σ':St}{H':Hp}{v:V}{u:Value},Inv A4 [] σ' H' s'->RelV v u->Q v H'->CE outer P w H s Q u s':=
  λ{σ' H' v u} J rv q=>#[v,H',J.os,J.bare,J.base,J.Jk,rv,q]
 cases fl with
 | ret u=>
  let#[v,σ',H',J,rv,q]:=hs;show fin J rv q
 | next=>
  let#[σ',H',J,q]:=hs;show fin (v:=V.non) J rfl q
 | brk=>
  let#[_,_,_,q]:=hs;show False.elim q
 | cont=>
  let#[_,_,_,q]:=hs;show False.elim q
section
variable {t:TA}{r:List V->Hp->VK->Prop}
theorem tCB (r:List V->Hp->VK->Prop)(t:TA):TE:=λσ H Q=>t σ H λvs H1=>r vs H1 Q
def bY {id:String}(hc:JG X (.builtin id) r)(hg:Gl X x)(hm:X.mg x=none)(hv:bootBuiltins x=!.builtin id)(ha:PA X (e::es) t)(hn)(Mm)(he:Ĕ X e es:=Ą)(LM):PE X Ģ (tCB r t):=by intro ñ s σ H Q I h;show GB (ga I hg hm hv ?_ hn Mm);show PyProof.Rows.callWith_builtin1 (Jx ŷ λus s1 gR=>(by let#[vs,H1,I1,r1,q1]:=gR;show hc ñ s1 σ H1 vs us Q I1 r1 q1)) he LM
def du (hc:JG X (.type T) r)(hg:Gl X x)(hm:X.mg x=none)(hv:bootBuiltins x=!.type T)(ha:PA X (e::es) t)(hn)(Mm)(he:Ĕ X e es:=Ą)(LM):PE X Ģ (tCB r t):=by intro ñ s σ H Q I h;show GB (ga I hg hm hv ?_ hn Mm);show Gx (Jx ŷ λus s1 gR=>(by let#[vs,H1,I1,r1,q1]:=gR;show hc ñ s1 σ H1 vs us Q I1 r1 q1)) he LM
universe e
universe L2
namespace HT
open PySem PyProof.Rows
def Ti (A:Ë)(s:Ê)(a:Int)(t:Tok)(c:Int)(u:Tok):∃ e,SeqAt.EqAt A s (.int a t) (.int c u) e/\(e=true ↔ a=c):=
 #[_,SeqAt.EqAt.int_int a t c u,by simp]
theorem PB (n d:Nat):Option Int->Nat
 | none=>d
 | some v=>if v<0 then (v+(n:Int)).toNat else min v.toNat n
def Qk (n d:Nat):PB n d none=d:=rfl
def OM (n d k:Nat):PB n d (!(k:Int))=min k n:=by change (if (k)<0 then ((k)+(n:Int)).toNat else min (k:Int).toNat n)=min k n;rw[if_neg<|by lia,GM]
universe HT
namespace L2
open PySem PySem.Spec PyProof.Rows
abbrev TO:=St->Hp->(Option Int->Ø)->Prop
theorem PO (X)(e:Option Expr)(t:TO):Prop:=
 ∀ (ñ:ζ)(s:Ê)(σ:St)(H:Hp)(Q:Option Int->Ø),Inv X ñ σ H s->t σ H Q->
  wpAny Ĥ X.A (evalPart e X.env) (λu s'=>∃ o H',Inv X ñ σ H' s'/\IsPart u o/\Q o H') X.xe s
theorem DK:TO:=λ_ H Q=>Q none H
theorem Ys (t:TE):TO:=λσ H Q=>t σ H λx H1=>∃ i,x=.int i/\Q (!i) H1
def xU:∀ {us:θ},Vals ş us->IntsAre us ns:=by
 induction ns with
 | nil=>intro us r;cases r;show .nil
 | cons n ns ih=>
  intro us r
  cases r with
  | cons r1 r2=>
   let#[t,e]:=r1;subst e;show .cons n t (ih r2)
section
variable {X:Cx}{te:TE}{lo hi:Option Expr}{tl th:TO}
def Um:PO X none DK:=by intro ñ s σ H Q I h;rw[evalPart_none];show Ff #[none,H,I,.none,h]
def sv (h:PE X e te):PO X (!e) (Ys te):=by intro ñ s σ H Q I hw;show Jx (h ñ s σ H _ I hw) λu s1 gR=>?_;let#[x,H1,I1,r1,q1]:=gR;let#[i,1,q]:=q1;let#[t,1]:=r1;show#[!i,H1,I1,.int i t,q]
abbrev _root_.Ó:=Option Int
theorem Yb (X)(r:V->Option Int->Option Int->Hp->VK->Prop):Prop:=
 ∀ (ñ:ζ)(s:Ê)(σ:St)(H:Hp)(x:V)(v vl vu:Value)(lo hi:Ó)(sl:Addr)(Q:VK),Inv X ñ σ H s->RelV x v->s.heap.IsSliceOf sl vl vu .none->IsPart vl lo->IsPart vu hi->r x lo hi H Q->
  ∃ T id,typeLookup (.type T) "__getitem__"=pure !.builtin id/\s.TypeIs v T/\wpAny Ĥ X.A (getItem v (.ref sl)) Ŏ X.xe s
theorem tSl (r:V->Option Int->Option Int->Hp->VK->Prop)(te)(tl th:TO):TE:=λσ H Q=>te σ H λx H1=>tl σ H1 λl H2=>th σ H2 λu H3=>r x l u H3 Q
def uM (hr:Yb X r)(he:PE X e te)(hl:PO X lo tl)(hu:PO X hi th):PE X (.Subscript e (.Slice lo hi none p2) pos) (tSl r te tl th):=by intro ñ s σ H Q I h;show Subscript_ (Jx Ō λv s1 gR=>?_);let#[x,H1,I1,r1,q1]:=gR;show wpAny_Slice (Jx (hl ñ s1 σ H1 _ I1 q1) fun vl s2 ⟨l,H2,I2,pl,q2⟩=>Jx (hu ñ s2 σ H2 _ I2 q2) λvu s3 gR=>?_);let#[u,H3,I3,pu,q3]:=gR;show Ff ?_;let I4:Inv X ñ σ H3 { s3 with heap:=s3.heap.push { cls:=.type "slice",data:=.fields [vl,vu,.none].toArray } }:=I3.kept λb ob q=>Fc _ q;let#[T,id,hT,ht,hg]:=hr ñ { s3 with heap:=s3.heap.push { cls:=.type "slice",data:=.fields [vl,vu,.none].toArray } } σ H3 x v vl vu l u s3.heap.objs.size Q I4 r1 (Heap.IsSliceOf.new ..) pl pu q3;show tail_any ht hT hg (by with_unfolding_all rfl)
theorem pH (xs:π)(lo hi:Ó):π:=(xs.drop (HT.PB xs.length 0 lo)).take (HT.PB xs.length xs.length hi - HT.PB xs.length 0 lo)
def wu (xs:π)(lo hi:Ó):(pH xs lo hi).length<=xs.length:=by
 unfold pH;rw[Fh,Iq]
 lia
universe e
theorem Sf (n)(i:Int):Option Nat:=if 0<=i then (if i<n then some i.toNat else none) else if -(n:Int)<=i then some (i+n).toNat else none
theorem OD {α:Type}(xs)(i:Int):Option α:=(Sf xs.length i).bind λj=>xs[j]?
def yU (h:Sf n i=!j):seqIndex? i n=!j/\j<n/\-(n:Int)<=i/\i<n:=by
 unfold Sf at h;by_cases h0:0<=i
 ·rw[if_pos h0]at h;by_cases h1:i<n
  ·rw[if_pos h1]at h;let e:=Option.some.inj h;show#[by rw[seqIndex_of h0 h1,e],#[],#[],h1]
  ·simp_all
 ·rw[if_neg h0]at h;by_cases h1:-(n)<=i
  ·rw[if_pos h1]at h;let e:=Option.some.inj h;show#[by rw[seqIndex_neg #[] h1,e],#[],h1,#[]]
  ·simp_all
def zt (h:OD xs i=!v):∃ j,seqIndex? i xs.length=!j/\xs[j]?=!v/\j<xs.length/\-(xs.length:Int)<=i/\i<xs.length:=by
 unfold OD at h
 cases e:Sf xs.length i with
 | none=>rw[e]at h;cases h
 | some j=>
  rw[e]at h;let#[h1,h2,h3,h4]:=yU e;show#[j,h1,h,h2,h3,h4]
def iC {xs:List α}{j:Nat}{v:α}(h:xs[j]?=!v):OD xs (j:Int)=!v:=by
 let hj:=(EY.mp h).1;let e:Sf xs.length (j)=!j:=by
  unfold Sf
  simp_all
 unfold OD;rw[e];show h
theorem k8 (b:Expr):Prop:=∀ o i,subscripted b false o i=operate [o,i] (getItem o i)
theorem RB (X)(r:R2):Prop:=
 ∀ (value slice:Expr)(ñ:ζ)(s:Ê)(σ:St)(H:Hp)(x y:V)(v u:Value)(Q:VK),Inv X ñ σ H s->RelV x v->RelV y u->r x y H Q->
  subscripted slice false v u=operate [v,u] (getItem v u)->wpAny Ĥ X.A (subscriptTail value slice v u) Ŏ X.xe s
theorem MtR (X)(id:String)(r):Prop:=
 ∀ (ñ:ζ)(s:Ê)(σ:St)(H:Hp)(x:V)(xs:π)(v:Value)(us:θ)(Q:VK),Inv X ñ σ H s->RelV x v->Vals xs us->r x xs H Q->
  wpAny Ĥ X.A (call (.builtin id) (v::us)) Ŏ X.xe s
section
variable {a b:Expr}
def RB.or (h:RB X r)(h':RB X r'):RB X (λx y H Q=>r x y H Q\/r' x y H Q):=by
 intro value slice ñ s σ H x y v u Q I rx ry q hs;rcases q with q|q
 ·show h value slice ñ s σ H x y v u Q I rx ry q hs
 ·show h' value slice ñ s σ H x y v u Q I rx ry q hs
def Ve {tb:TE}(hr:RB X r)(ha:PE X a ta)(hb:PE X b tb)(hs:k8 b):PE X Tl (V1 r ta tb):=by intro ñ s σ H Q I h;show Subscript_ (Xs ha hb I h λv u s2 x y H2 I2 rx ry q=>hr a b ñ s2 σ H2 x y v u Q I2 rx ry q<|hs _ _)
theorem DZ (K):R2:=λx y H Q=>∃ p xs i v,x=.ref p/\y=.int i/\Jq K H p xs/\OD xs i=!v/\Q v H
theorem DY (K):R2:=λx y H Q=>∃ p xs i v,x=.ref p/\y=.int i/\LQ K H p xs/\OD xs i=!v/\Q v H
def yT:RB X (DZ X.K):=by
 intro value slice ñ s σ H x y v u Q I rx ry h hs;let#[p,xs,i,z,2,hq,he,q]:=h
 cases rx;let#[t,1]:=ry;let#[its,r,pl,hz]:=I.list hq;let#[j,h1,h2,h3,h4,h5]:=zt he;let#[w,ew,Ql]:=r.get h2;let hl:=r.length;let hn:=kM;let fin:EP X ñ σ Q w s:=#[z,H,I,Ql,q]
 by_cases h0:0<=i
 ·let hj:i.toNat=j:=by
   rw[seqIndex_of h0 h5]at h1
   simp_all
  show item_listR pl.isList h0 #[] (by rw[hj];simpa using ew) fin hs
 ·let hj:(i+(its.toArray.size)).toNat=j:=by
   rw[seqIndex_neg #[] h4]at h1
   simp_all
  show subscriptTail_builtinR pl.isList.typeIs slot_list_getitem.lookup
   (wpAny_getItem_list_neg pl.isList #[] Ħ #[] (by rw[hj];simpa using ew) #[1,fin]) hs
def CB:RB X (DY X.K):=by
 intro value slice ñ s σ H x y v u Q I rx ry h hs;let#[p,xs,i,z,2,hq,he,q]:=h
 cases rx;let#[t,1]:=ry;let#[its,r,pl,hz]:=I.tuple hq;let#[j,h1,h2,h3,h4,h5]:=zt he;let#[w,ew,Ql]:=r.get h2;let hl:=r.length;let hn:=kM;let fin:EP X ñ σ Q w s:=#[z,H,I,Ql,q]
 show subscriptTail_builtinR pl.typeIs slot_tuple_getitem.lookup
  (getItem_tuple (j:=j) pl #[] #[] Ħ (by simpa using ew) #[1,fin]) hs
def xD (its:θ)(n j:Nat)(u):Obj.mapSeq (·.setIfInBounds j u) { cls:=.type "list",data:=.seq its.toArray n }={ cls:=.type "list",data:=.seq (its.set j u).toArray n }:=by simp[Obj.mapSeq]
def Inv.lst (I)(h:H p=!.lst xs):
  ∃ (its:θ)(n:Nat),Vals xs its/\s.heap.get? p=!{ cls:=.type "list",data:=.seq its.toArray n }/\xs.length<=sizeLine:=by
 let#[z,its,n,r,e]:=I.Jk p _ h;show#[its,n,r,e,z]
def Inv.Wt {its:θ}(I)(h:H p=!.lst xs)(ho:s.heap.get? p=!{ cls:=.type "list",data:=.seq its.toArray n })(hf:f { cls:=.type "list",data:=.seq its.toArray n }={ cls:=.type "list",data:=.seq its'.toArray n' })(r:Vals ys its')(hz:ys.length<=sizeLine)(t:Nat):
  Inv X ñ σ (upd H p (.lst ys)) { s with heap:=s.heap.update p f,toks:=t }:=by
 let e:(s.heap.update p f).get? p=!{ cls:=.type "list",data:=.seq its'.toArray n' }:=by rw[Heap.get?_update_self f ho (by rw[hf] <;> rfl),hf]
 show I.write (by rw[h];trivial) Ń (λb u hb q=>(Heap.get?_update_other _ _<|Ne.symm hb).trans q) #[_,e] ?_;show#[hz,its',n',r,e]
theorem V6:V->V->V->Hp->Ø->Prop:=λo i v H Q=>∃ p xs k j,o=.ref p/\i=.int k/\H p=!.lst xs/\Sf xs.length k=!j/\Q (upd H p (.lst (xs.set j v)))
def Bz:a03 X V6:=by
 intro ñ s σ H o i v ov iv u Q I ro ri rv h;let#[p,xs,k,j,2,hp,hj,q]:=h
 cases ro;let#[t,1]:=ri;let#[its,n,r,ho,hz]:=I.lst hp;let#[h1,h2,h3,h4]:=yU hj;let hl:=r.length;let hn:=kM;let I':=
  I.Wt hp ho (xD its n j u) (r.set rv j) Ħ s.toks
 by_cases h0:0<=k
 ·let hk:k.toNat=j:=by
   rw[seqIndex_of h0 h4]at h1
   simp_all
  show W.ki_setAt ho h0 #[] Ħ (by rw[hk];show#[_,I',q])
 ·let hk:(k+(its.toArray.size)).toNat=j:=by
   rw[seqIndex_neg #[] h3]at h1
   simp_all
  show W.ki_setBack ho #[] Ħ #[] (by rw[hk];show#[_,I',q])
def rY (lo hi:Ó)(n):(sliceBounds lo hi none n).1=((HT.PB n 0 lo:Nat):Int)/\(sliceBounds lo hi none n).2.1=((HT.PB n n hi:Nat):Int)/\(sliceBounds lo hi none n).2.2=1:=by
 show#[?_,?_,1]
 ·cases lo with
  | none=>simp[sliceBounds,HT.PB]
  | some i=>
   simp only[sliceBounds,HT.PB,Option.getD_none];by_cases h:i<0
   ·simp only[h] <;> lia
   ·simp only[h] <;> lia
 ·cases hi with
  | none=>simp[sliceBounds,HT.PB]
  | some i=>
   simp only[sliceBounds,HT.PB,Option.getD_none];by_cases h:i<0
   ·simp only[h,if_true] <;> lia
   ·simp only[h,Iw] <;> lia
def pc (its:θ)(lo hi:Ó):slicePick its.toArray lo hi none=((its.drop (HT.PB its.length 0 lo)).take (HT.PB its.length its.length hi - HT.PB its.length 0 lo)).toArray:=by let#[h1,h2,h3]:=rY lo hi its.toArray.size;unfold slicePick;rw[h1,h2,h3];simp only[sliceRange_one,pick_run] <;> rfl
theorem a2I (K):V->Option Int->Option Int->Hp->VK->Prop:=λx lo hi H Q=>∃ a xs,x=.ref a/\Jq K H a xs/\∀ p,H p=none->Q (.ref p) (upd H p (.lst (pH xs lo hi)))
def Ue:Yb X (a2I X.K):=by
 intro ñ s σ H x v vl vu lo hi sl Q I rx hs pl pu h;let#[a,xs,1,hx,q]:=h
 cases rx;let#[its,r,ht,hz]:=I.list hx;let hlen:=r.length;show#["list",_,slot_list_getitem.lookup,ht.isList.typeIs,?_];show wpAny_getItem_list_slice ht.isList hs pl pu .none Ğ ?_ Ħ;rw[pc,<- hlen];show#[.ref s.heap.objs.size,_,I.laid (λb ob q=>Fc _ q) (Fg _) ?_,1,q _<|I.Jk.fresh (Fg _)];show#[Fo (wu xs lo hi) hz,_,(0),(r.drop _).take _,Fx _ rfl]
theorem dR:V->Bool
 | .non=>true
 | .bl _=>true
 | .int _=>true
 | .str _=>true
 | _=>false
theorem UE:V->V->Bool
 | .non,.non=>true
 | .bl a,.bl b=>a==b
 | .bl a,.int b=>(if a then 1 else 0)==b
 | .int a,.bl b=>a==(if b then 1 else 0)
 | .int a,.int b=>a==b
 | .str a,.str b=>a==b
 | _,_=>false
def D0 (ry)(rx)(fy:dR y=true)(fx):SeqAt.EqAt A s u v (UE y x):=by
 cases y with
 | non=>
  cases ry
  cases x with
  | non=>cases rx;show SeqAt.EqAt.same _
  | bl b=>cases rx;show SeqAt.EqAt.none_bool b
  | int b=>let⟨t,rfl⟩:=rx;show SeqAt.EqAt.none_int b t
  | str b=>let⟨t,rfl⟩:=rx;show SeqAt.EqAt.none_str b t
  | _=>show absurd (fx) FJ
 | bl a=>
  cases ry
  cases x with
  | non=>cases rx;show SeqAt.EqAt.bool_none a
  | bl b=>cases rx;show SeqAt.EqAt.bool_bool a b
  | int b=>let⟨t,rfl⟩:=rx;show SeqAt.EqAt.bool_int a b t
  | str b=>let⟨t,rfl⟩:=rx;show SeqAt.EqAt.bool_str a b t
  | _=>show absurd (fx) FJ
 | int a=>
  let#[t',1]:=ry
  cases x with
  | non=>cases rx;show SeqAt.EqAt.int_none a t'
  | bl b=>cases rx;show SeqAt.EqAt.int_bool a t' b
  | int b=>let⟨t,rfl⟩:=rx;show SeqAt.EqAt.int_int a t' b t
  | str b=>let⟨t,rfl⟩:=rx;show SeqAt.EqAt.int_str a t' b t
  | _=>show absurd (fx) FJ
 | str a=>
  let#[t',1]:=ry
  cases x with
  | non=>cases rx;show SeqAt.EqAt.str_none a t'
  | bl b=>cases rx;show SeqAt.EqAt.str_bool a t' b
  | int b=>let⟨t,rfl⟩:=rx;show SeqAt.EqAt.str_int a t' b t
  | str b=>let⟨t,rfl⟩:=rx;show SeqAt.EqAt.str_str a t' b t
  | _=>show absurd (fx) FJ
 | _=>show absurd (fy) FJ
theorem QV (x:V)(u):Bool:=match u with
 | .none=>UE .non x
 | .bool b=>UE (.bl b) x
 | .int i _=>UE (.int i) x
 | .str z _=>UE (.str z) x
 | _=>false
def CZ (r:RelV y u)(f:dR y=true):QV x u=UE y x:=by
 cases y with
 | non=>cases r;rfl
 | bl b=>cases r;rfl
 | int i=>let⟨t,rfl⟩:=r;rfl
 | str z=>let⟨t,rfl⟩:=r;rfl
 | _=>show absurd (f) FJ
def jR:∀ {xs:π}{us:θ},Vals xs us->xs.all dR=true->us.any (QV x)=xs.any λy=>UE y x:=by
 intro xs us h
 induction h with
 | nil=>intro _;rfl
 | cons r t ih=>
  intro f;rw[List.all_cons,GK]at f;rw[Iu,Iu,CZ r f.1,ih f.2]
def gX (rx)(fx):∀ {xs:π}{us:θ},Vals xs us->xs.all dR=true->∀ u∈us,SeqAt.EqAt A s u v (QV x u):=by
 intro xs us h
 induction h with
 | nil=>intro _ u hu;cases hu
 | cons r t ih=>
  intro f u' hu;rw[List.all_cons,GK]at f;rcases Fv.mp hu with rfl|hu
  ·rw[CZ r f.1];show D0 r rx f.1 fx
  ·show ih f.2 u' hu
theorem TZ (x:V)(xs:π):Bool:=xs.any λy=>UE y x
theorem rIn (K)(neg:Bool):R2:=λx y H Q=>∃ p xs,y=.ref p/\(Jq K H p xs\/LQ K H p xs)/\dR x=true/\xs.all dR=true/\Q (.bl (if neg then not (TZ x xs) else TZ x xs)) H
def qj:Kz X (compareOp .In) (rIn X.K false):=by
 intro ñ s σ H x y v u Q I rx ry h;let#[p,xs,1,hq,fx,fs,q]:=h
 cases ry;rcases hq with hq|hq
 ·let#[its,r,pl,hz]:=I.list hq;show SeqAt.in_listAt _ pl.isList Ŧ #[.bl _,H,I,1,?_];rw[show its.toArray.any _=its.any (QV x) by simp,jR r fs];show q
 ·let#[its,r,pl,hz]:=I.tuple hq;show SeqAt.in_tupleAt _ pl Ŧ #[.bl _,H,I,1,?_];rw[show its.toArray.any (QV x)=its.any (QV x) by simp,jR r fs];show q
def sA:Kz X (compareOp .NotIn) (rIn X.K true):=by
 intro ñ s σ H x y v u Q I rx ry h;let#[p,xs,1,hq,fx,fs,q]:=h
 cases ry;rcases hq with hq|hq
 ·let#[its,r,pl,hz]:=I.list hq;show SeqAt.notIn_listAt _ pl.isList Ŧ #[.bl _,H,I,1,?_];rw[show its.toArray.any _=its.any (QV x) by simp,jR r fs];show q
 ·let#[its,r,pl,hz]:=I.tuple hq;show SeqAt.notIn_tupleAt _ pl Ŧ #[.bl _,H,I,1,?_];rw[show its.toArray.any (QV x)=its.any (QV x) by simp,jR r fs];show q
def O2:JG X KK (λxs H Q=>∃ p ys,xs=[.ref p]/\(Jq X.K H p ys\/LQ X.K H p ys)/\Q (.int ys.length) H):=by
 intro ñ s σ H xs us Q I r h;let#[p,ys,1,hq,q]:=h;let#[u,1,rx]:=dD r
 cases rx;let hn:=kM;rcases hq with hq|hq
 ·let#[its,r',pl,hz]:=I.list hq;let hlen:=r'.length;show Calls.call_len_list pl.isList (by simp only[GW] <;> lia) #[.int ys.length,H,I.tok _,#[s.toks+1,by rw[GW,hlen]],q]
 ·let#[its,r',pl,hz]:=I.tuple hq;let hlen:=r'.length;show len_tuple pl (by simp only[GW] <;> lia) #[.int ys.length,H,I.tok _,#[s.toks+1,by rw[GW,hlen]],q]
def tG:JG X KK (λxs H Q=>∃ z,xs=[.str z]/\z.length<=sizeLine/\Q (.int z.length) H):=by intro ñ s σ H xs us Q I r h;let#[z,1,hz,q]:=h;let#[u,1,t,1]:=dD r;let hn:=kM;show len_str #[] #[.int z.length,H,I.tok _,#[_,1],q]
def JG.or (h:JG X f r)(h':JG X f r'):JG X f (λxs H Q=>r xs H Q\/r' xs H Q):=by
 intro ñ s σ H xs us Q I rs q;rcases q with q|q
 ·show h ñ s σ H xs us Q I rs q
 ·show h' ñ s σ H xs us Q I rs q
def tF:JG X Ş (λxs H Q=>∃ p ys,xs=[.ref p]/\(Jq X.K H p ys\/LQ X.K H p ys)/\∀ l,H l=none->Q (.ref l) (upd H l (.lst ys))):=by
 intro ñ s σ H xs us Q I r h;let#[p,ys,1,hq,q]:=h;let#[u,1,rx]:=dD r
 cases rx;let fin:∀ (its:θ),Vals ys its->ys.length<=sizeLine->∀ (h':Heap)(c':Nat),_->
   h'.get? s.heap.objs.size=!{ cls:=.type "list",dict:=none,data:=.seq its.toArray c',slots:=[].toArray }->EP X ñ σ Q _ { s with heap:=h' }:=λits r' hz h' c' kp e=>
  #[.ref s.heap.objs.size,_,I.laid kp (Fg _)<|show Jl X.prog X.w _ h' _ (.lst ys) from #[hz,its,c',r',e],1,q _<|I.Jk.fresh (Fg _)]
 rcases hq with hq|hq
 ·let#[its,r',pl,hz]:=I.list hq;let hlen:=r'.length;let#[o,ho,hc,n,hd]:=pl.isList;show call_list_seq p Ń ho hc hd (λh' c' kp e=>fin its r' hz h' c' kp e) Ħ
 ·let#[its,r',pl,hz]:=I.tuple hq;let hlen:=r'.length;let#[o,ho,hc,n,hd]:=pl;show call_list_seq p (.inr rfl) ho hc hd (λh' c' kp e=>fin its r' hz h' c' kp e) Ħ
theorem tyV (K)(T:String)(x:V)(H):Prop:=match x with
 | .str _=>T="str"
 | .int _=>T="int"
 | .ref p=>(T="list"/\∃ xs,Jq K H p xs)\/(T="tuple"/\∃ o,K.lookup p=!o/\o.cls=.type "tuple"/\o.dict=none) \/
   (T="dict"/\((∃ ķ,H p=!.dK ķ)\/∃ ķ,H p=!.dT ķ))\/(T="set"/\∃ S n,H p=!.set S n)
 | _=>False
def Bp (I)(r:RelV x v)(ty:tyV X.K T x H):
  s.TypeIs v T/\∀ a,v=.ref a->∃ ob,s.heap.get? a=!ob/\ob.dict=none:=by
 cases x with
 | str z=>
  let#[t,1]:=r
  cases (ty);show#[typeIs_str s z t,λ_ e=>nomatch e]
 | int i=>
  let#[t,1]:=r
  cases (ty);show#[typeIs_int s i t,λ_ e=>nomatch e]
 | ref p=>
  cases r;rcases ty with⟨rfl,xs,hq⟩|⟨rfl,o,hk,hc,hd⟩|⟨rfl,hk⟩|⟨rfl,S,n,hk⟩
  ·let#[its,_,pl,_]:=I.list hq;show#[pl.isList.typeIs,λa e=>?_]
   cases e;let#[o,n,e,c,hd,_]:=pl;show#[o,e,hd]
  ·show#[#[o,I.LY p o hk,hc],λa e=>?_]
   cases e;show#[o,I.LY _ o hk,hd]
  ·let z:∃ o,s.heap.get? p=!o/\o.ExactDict:=by
    rcases hk with⟨ķ,hk⟩|⟨ķ,hk⟩
    ·let#[_,_,_,_,o,_,_,e,ex,_]:=I.Jk p _ hk;show#[o,e,ex]
    ·let#[_,_,_,_,o,_,_,e,ex,_]:=I.Jk p _ hk;show#[o,e,ex]
   let#[o,e,ex]:=z;show#[#[o,e,ex.1],λa e2=>?_]
   cases e2;show#[o,e,ex.2.1]
  ·let#[o,_,_,_,e,ex,_]:=I.Jk p _ hk;show#[#[o,e,ex.1],λa e2=>?_]
   cases e2;show#[o,e,ex.2.1]
 | _=>show False.elim ty
theorem VO (K)(T:String)(r)(to:TE):TE:=λσ H Q=>to σ H λx H1=>tyV K T x H1/\r x [] H1 Q
theorem tBM (K)(T:String)(r)(to:TE)(t:TA):TE:=λσ H Q=>to σ H λx H1=>tyV K T x H1/\t σ H1 λxs H2=>r x xs H2 Q
variable {id:String}
def W' (pa)(slot)(Uw)(hm:MtR X id r)(ho:PE X o to)(Lu)(Md):PE X (.Call (.Attribute o name apos) [] [] JI) (VO X.K T r to):=by intro ñ s σ H Q I h;show wpAny_Call_method0_late Lu Md (Jx (ho ñ s σ H _ I h) λv s1 gR=>?_);let#[x,H1,I1,r1,ty,q1]:=gR;let#[h1,h2]:=Bp I1 r1 ty;show#[T,id,pa,slot,Uw,h1,h2,Hx rfl<|PySem.evalArgs_none (hm ñ s1 σ H1 x [] v [] Q I1 r1 .nil q1)]
def YZ (pa)(slot)(Uw)(hm:MtR X id r)(ho:PE X o to)(ha:PA X (e::es) t)(Lu)(Td:((backTo JI Ÿ).all (λx=>not x.1)&&(backToKw JI Ĺ).all (λx=>x.1.isSome)
   && decide ((e::es).length+([]:List Keyword).length+ŧ<30))=true:=Ą)(Md)(hs:Ĕ X e es:=Ą)(OY):
  PE X (.Call (.Attribute o name apos) (e::es) [] JI) (tBM X.K T r to t):=by
 intro ñ s σ H Q I h;show wpAny_Call_method_late Lu Td Md rfl (Jx (ho ñ s σ H _ I h) λv s1 gR=>?_);let#[x,H1,I1,r1,ty,q1]:=gR;let#[h1,h2]:=Bp I1 r1 ty;show#[T,id,pa,slot,Uw,h1,h2,?_];let hA:=ha JI ñ s1 σ H1 _ I1 q1;rw[hs]at hA ⊢;show Hx (by change (false || (backTo JI _).any _)=false;rw[OY] <;> rfl) (Calls.evalArgs_plain ?_);show Jx hA λus s2 gR=>by let#[vs,H2,I2,r2,q2]:=gR;show hm ñ s2 σ H2 x vs v us Q I2 r1 r2 q2
universe e
theorem MtM (X)(id:String)(r):Prop:=
 ∀ (ñ:ζ)(s:Ê)(σ:St)(H:Hp)(x:V)(xs:π)(v:Value)(us:θ)(Q:VK),Inv X ñ σ H s->RelV x v->Vals xs us->r x xs H Q->
  wpAny Ĥ X.A (call (.builtin id) (v::us)) Ŏ X.xe s
def Vals.one:∀ {x:V}{us:θ},Vals [x] us->∃ u,us=[u]/\RelV x u:=by
 intro x us h
 cases h with|cons r t=>cases t;show#[_,1,r]
def Vals.zero:∀ {us:θ},Vals [] us->us=[]
 | _,.nil=>rfl
def Vals.dropLast (h:Vals xs us):Vals xs.dropLast us.dropLast:=by
 induction h with
 | nil=>show .nil
 | cons r t ih=>
  cases t with
  | nil=>show .nil
  | cons q t'=>show .cons r ih
def Vals.eraseIdx:∀ {xs:π}{us:θ} (i:Nat),Vals xs us->Vals (xs.eraseIdx i) (us.eraseIdx i)
 | _,_,_,.nil=>.nil
 | _,_,0,.cons _ t=>t
 | _,_,i+1,.cons r t=>.cons r (Vals.eraseIdx i t)
def Vals.rep (h:Vals xs us):∀ k:Nat,Vals (List.replicate k xs).flatten (List.replicate k us).flatten:=by
 intro r'
 induction r' with
 | zero=>
  show .nil
 | succ k ih'=>
  rw[GY,GY,Ig,Ig];show Vals.append h (ih')
def Xa (l:List α):l.eraseIdx (l.length - 1)=l.dropLast:=by grind
def qu:∀ (l:List α)(i:Nat),(l.eraseIdx i).length<=l.length
 | [],_=>Fg _
 | _::_,0=>Nat.le_succ _
 | _::r,i+1=>Nat.succ_le_succ (qu r i)
def qM (its:θ):∀ (k:Nat)(acc:θ),
  List.foldl (λx1 x2=>x1++x2) acc.toArray (List.replicate k its.toArray)=(acc++(List.replicate k its).flatten).toArray
 | 0,acc=>by simp
 | k+1,acc=>by simp[List.replicate,qM,GY,GD]
def Inv.Wu {its:θ}(I)(hH:H l=!.lst xs)(e:s.heap.get? l=!{ cls:=.type "list",data:=.seq its.toArray n })(hf:f its.toArray=its'.toArray)(hv:Vals ys its')(hz:ys.length<=sizeLine):
  Inv X ñ σ (upd H l (.lst ys)) { s with heap:=s.heap.update l (Obj.mapSeq f),toks:=t' }:=by
 let q:=PySem.IsL.update e f;rw[hf]at q;show I.write (by rw[hH];show trivial) Ń (λb' u hb hu=>(Heap.get?_update_other s.heap _<|Ne.symm hb).trans hu) #[_,q] ?_;show#[hz,its',_,hv,q]
def Inv.Wv (I)(hv:Vals ys its)(hz:ys.length<=sizeLine):
  Inv X ñ σ (upd H s.heap.objs.size (.lst ys)) { s with heap:=s.heap.push { cls:=.type "list",data:=.seq its.toArray },toks:=t' }:=
 I.laid (λ_ _ q=>Fc _ q) (Fg _) #[hz,its,(0),hv,Fx _ rfl]
def Inv.fresh (I):H s.heap.objs.size=none:=I.Jk.fresh (Fg _)
def Inv.RO (I)(hH:H l=!.lst xs):xs.length<=sizeLine/\∃ (its:θ)(n:Nat),Vals xs its/\xs.length=its.length/\s.heap.get? l=!{ cls:=.type "list",data:=.seq its.toArray n }:=by let#[z,its,n,r,e]:=I.Jk l _ hH;show#[z,its,n,r,r.length,e]
def Cp (h:n<=sizeLine):Builtin.List.listTooLong n=false:=by show F5 ġ
theorem yA:V->List V->Hp->VK->Prop:=λx vs H Q=>∃ l xs y,x=.ref l/\vs=[y]/\H l=!.lst xs/\xs.length<sizeLine/\Q .non (upd H l (.lst (xs++[y])))
def aH:MtM X "list.append" yA:=by
 intro ñ s σ H x vs v us Q I rx rv h;let#[l,xs,y,2,hH,hz,q]:=h
 cases rx;let#[u,1,ru]:=rv.one;let#[z,its,n,r,hl,e]:=I.RO hH;show Ip F.slot_list_append #[_,e,1] F.entry_list_append (F.args_list_append_2 _ _) (PySem.list_append l its.toArray n u<|by simp_all) #[e,?_];show#[.non,_,I.Wu hH e Ğ (r.append<|.cons ru .nil) ?_,1,q];rw[Fj,Gf]
 lia
theorem YO:V->List V->Hp->VK->Prop:=λx vs H Q=>∃ l xs y,x=.ref l/\vs=[]/\H l=!.lst xs/\xs[xs.length - 1]?=!y/\Q y (upd H l (.lst xs.dropLast))
def Wo:MtM X "list.pop" YO:=by
 intro ñ s σ H x vs v us Q I rx rv h;let#[l,xs,y,2,hH,hy,q]:=h
 cases rx;let WQ:=rv.zero;subst WQ;let#[z,its,n,r,hl,e]:=I.RO hH;let#[u,hu,ru]:=r.get hy;let Zx:its.toArray[its.toArray.size - 1]?=!u:=by
  simp_all
 show Ip F.slot_list_pop #[_,e,1] F.entry_list_pop (F.args_list_pop_1 _) (MeetsSeq.list_pop_last l its.toArray n u Zx<|by simp_all) #[e,?_];show#[y,_,I.Wu hH e ?_ r.dropLast ?_,ru,q]
 ·simp_all
 ·rw[List.length_dropLast]
  lia
theorem BJ:V->List V->Hp->VK->Prop:=λx vs H Q=>∃ l xs i k y,x=.ref l/\vs=[.int i]/\H l=!.lst xs/\-(2 ^ 63)<=i/\i<2 ^ 63/\seqIndex? i xs.length=!k/\xs[k]?=!y/\Q y (upd H l (.lst (xs.eraseIdx k)))
def Cr:MtM X "list.pop" BJ:=by
 intro ñ s σ H x vs v us Q I rx rv h;let#[l,xs,i,k,y,2,hH,h1,h2,hk,hy,q]:=h
 cases rx;let#[u,1,ru]:=rv.one;let#[t,1]:=ru;let#[z,its,n,r,hl,e]:=I.RO hH;let#[w,hw,Ql]:=r.get hy;show Ip F.slot_list_pop #[_,e,1] F.entry_list_pop (F.args_list_pop_2 _ _)
  (MeetsSeq.list_pop_at l its.toArray n i t k w (fitsIndex_both h1 h2) Ħ Ħ<|by simp_all) #[e,?_]
 show#[y,_,I.Wu hH e ?_ (r.eraseIdx k) ?_,Ql,q]
 ·simp_all
 ·let:=qu xs k
  lia
theorem a2M:R2:=λx y H Q=>∃ l b xs zs,x=.ref l/\y=.ref b/\H l=!.lst xs/\H b=!.lst zs/\xs.length+zs.length<=sizeLine/\∀ p,H p=none->Q (.ref p) (upd H p (.lst (xs++zs)))
def Wb:Kz X (binaryOp .Add) a2M:=by
 intro ñ s σ H x y v u Q I rx ry h;let#[l,b,xs,zs,2,hH,hB,hz,q]:=h
 cases rx
 cases ry;let#[z,its,n,r,hl,e]:=I.RO hH;let#[z2,Mj,n2,r2,Q2,e2]:=I.RO hB;show PySem.P.add_list e e2 ?_ (by grind);let ea:its.toArray++Mj.toArray=(its++Mj).toArray:=by simp
 rw[ea];show#[.ref _,_,I.Wv (r.append r2)<|by simp_all,1,q _ I.fresh]
theorem YN:R2:=λx y H Q=>∃ l k xs,x=.ref l/\y=.int k/\H l=!.lst xs/\-(2 ^ 63)<=k/\k<2 ^ 63/\xs.length * k.toNat<=sizeLine/\
 ∀ p,H p=none->Q (.ref p) (upd H p (.lst (List.replicate k.toNat xs).flatten))
def El (xs)(k:Nat):(List.replicate k xs).flatten.length=k * xs.length:=by simp_all
def kB:Kz X (binaryOp .Mult) YN:=by
 intro ñ s σ H x y v u Q I rx ry h;let#[l,k,xs,2,hH,h1,h2,hz,q]:=h
 cases rx;let#[t,1]:=ry;let#[z,its,n,r,hl,e]:=I.RO hH;let hlen:its.toArray.size * k.toNat<=sizeLine:=by simp_all
 let a4d:¬ its.toArray.size * k.toNat > (2 ^ 63 - 1) / 8:=by
  let:(sizeLine:Nat)<=(2 ^ 63 - 1) / 8:=by decide
  lia
 let a33:¬ (not (Builtin.List.listFitsIndex k))=true:=by rw[fitsIndex_both h1 h2];show FJ
 let a0a:¬ Builtin.List.listTooLong (its.toArray.size * k.toNat)=true:=by
  rw[Cp hlen]
  simp_all
 let LO:List.foldl (λx1 x2=>x1++x2) [].toArray (List.replicate (if its.toArray.isEmpty=true then 0 else k.toNat) its.toArray)=(List.replicate k.toNat its).flatten.toArray:=by
  let f0:∀ m:Nat,List.foldl (λx1 x2=>x1++x2) [].toArray (List.replicate m its.toArray)=(List.replicate m its).flatten.toArray:=λm=>by simp[qM,Gm]
  rw[f0]
  cases its with
  | nil=>simp
  | cons a r'=>rw[if_neg<|by simp]
 show wpAny_binaryOp_repeat_ref ż #[_,e,1] (λs'=>typeIs_int s' k t) noFill_list_mul F.fills_int_mul F.slot_int_rmul repeat_list F.slot_int_index.lookup
  (Ip F.slot_int_rmul (typeIs_int s k t) F.entry_int_rmul (F.args_int_rmul_2 _ _) (int___rmul___int_list k t l its.toArray n)
   #[e,1,#[_,e,1],Ip F.slot_list_mul #[_,e,1] F.entry_list_mul (F.args_list_mul_2 _ _) (AutoListH.list___mul___list_int_3 l its.toArray n k t a33 a4d a0a) #[e,?_]])
 rw[LO];show#[.ref _,_,I.Wv (r.rep k.toNat) (by rw[El,Nat.mul_comm];show hz),1,q _ I.fresh]
universe L2
namespace Att
open PySem PySem.W PySem.Calls PyProof.Rows
abbrev _root_.Ξ:=List Int
def lW:∀ (ns:Ξ)(vs:θ),WellAll P h vs (ns.map WData.int)->IntsAre vs ns:=by
 intro ns
 induction ns with
 | nil=>
  intro vs w
  cases w;show .nil
 | cons n ns ih=>
  intro vs w
  cases w with
  | cons a b=>
   cases a;show .cons _ _ (ih _ b)
def zO {l:OpenLaw}(hn:l.most=!n)(Uy:l.row.toRowW.claim.pre args=true)(hwl:WellAll P h vals args):
  ∃ a vs ns,vals=[Value.ref a]/\args=[WData.list (ns.map WData.int)]/\h.get? a=!{ cls:=.type "list",data:=.seq vs.toArray }/\IntsAre vs ns/\ns.length<=n:=by
 let hsh:=(pre_splitW Uy).1;let hc:l.pre.holds [] { args:=args }=true:=(pre_splitW Uy).2;let#[d,r,1,h1,h2]:=hasAllW_cons hsh;obtain rfl:=hasAllW_nil h2;let#[xs,1,h3]:=hasW_list h1;let#[ns,1]:=items_int h3;let hlen:ns.length<=n:=by
  let h4:(WTm.not<|.lt (.lit<|.int (n)) (.len<|.arg 0)).holds [] { args:=[.list<|ns.map .int] }=true:=by let h4:=(holds_andW hc).1;rw[hn]at h4;show h4
  let h5:=condW_of h4 (w_not<|w_lt w_lit (w_len_list<|w_arg rfl))
  simp_all
 cases hwl with
 | cons w1 w2=>
  cases w2
  cases w1 with
  | list ho QT=>show#[_,_,ns,2,ho,lW ns _ QT,hlen]
def zY (l:OpenLaw)(args:List WData):l.row.toRowW.claim.post args (.bool true) args=true:=
 postW_of
  (show WShape.has [] _ .bool=true by first|rfl|decide|simp)
  (w_eq_bool (w_res rfl) w_lit) rfl
def Qv {l:OpenLaw}(hn:l.most=!n)(hdf)(call:∀ (w:World)(s₀ s₁:Ê)(mg mb:Ω)(fa:Addr)(o:Obj)(pm cd doc:Value)(a:Addr)(vs:θ)(ns:Ξ),
   Ground q loose [] XP w s₀ mg mb s₁.heap->YP w s₁.heap->
   s₁.heap.get? fa=!o->o.data=.func (docDef d.name d.params d.body d.scope pm cd doc)->s₁.heap.CodeRec cd d.name->mg d.name=!.ref fa->
   s₁.heap.get? a=!{ cls:=.type "list",data:=.seq vs.toArray }->IntsAre vs ns->ns.length<=n->s₁.gens=[].toArray->
   codeAny (model l.prog w) callerA (.call (.ref fa) #[[.ref a],[]]) Id s₁):
  WalkO q loose XP YP l.row.toRowW d [] (λf vs=>PySem.call f vs):=by
 intro w s₀ s₁ mg mb G Y fa o pm cd doc dV kV ho hd Qe hD hmg hg args vals as Uy a8U XQ hwl hlo;obtain rfl:dV=.none:=Dflts.none hD hdf;obtain rfl:kV=.none:=Dflts.noKw hD;let#[a,vs,ns,2,WV,hints,hlen]:=zO hn Uy hwl;show enter_call (HK (call w s₀ s₁ mg mb fa o pm cd doc a vs ns G Y ho (fd_plain hd) Qe hmg WV hints hlen hg) λr s' hq=>?_);let#[1,h2,h3,h4]:=hq;show#[.inl #[.bool true,.bool true,[],1,λ_=>rfl,.bool true,zY l _,λ_=>#[List.Pairwise.nil,λ_ hm=>nomatch hm]],h2,h3,h4]
universe Att
namespace L2
open PySem PySem.Spec PyProof.Rows
def pL:∀ {vs:θ}{ns:Ξ},IntsAre vs ns->Vals ş vs:=by
 intro vs ns h
 induction h with
 | nil=>show .nil
 | cons n t _ ih=>show .cons #[t,1] ih
theorem XD (H):Prop:=∀ b,H b=none\/∃ o xs,H b=!.frz o (.lst xs)
abbrev _root_.Ñ:=Array DictEntry
def Cz {K:Ψ}(KX:K.In s₁.heap)(U2:s₁.heap.Ns mainGlobals mg)(hb:s₁.heap.Ns builtinsNs mb)(hbb:∀ x:Str,x≠"__name__"->mb x=bootBuiltins x)(a3U:s₁.heap.NoLimit)(hg:s₁.gens=[].toArray)(ha:s₁.heap.get? a=!{ cls:=.type "list",data:=.seq vs.toArray })(hi:IntsAre vs ns)(hl:ns.length<=sizeLine)(hr:Jn k callerA)(F:∀ base:Heap,K.In base->base.Ns mainGlobals mg->Jy P w K mg base CX k fa fd [x] sp)(a0p:∀ (s:Ê)(u:Value),BindsTo s fd #[[u],[]] [(x,u)])(Rq:∀ H:Hp,XD H->Jq K H a ş->sp [.ref a] H (λv _=>v=.bl true) λ_ _ _=>False)(hCX:∀ H e s',CX [] H s₁ (λ_ _ _=>False) e s'->False):
  codeAny Ż callerA (.call (.ref fa) #[[.ref a],[]]) Id s₁:=by
 let rv:=pL hi;let a3b:=hi.length;let core:∀ H:Hp,XD H->Jq K H a ş->MD P w H s₁.heap->(∀ b,H b≠none->b=a)->(H a≠none->K.lookup a=none)->
   codeAny Ż callerA (.call (.ref fa) #[[.ref a],[]]) (λr s'=>r=.ok (.ret<|.bool true)/\OldK s₁.heap s'.heap/\s'.os=s₁.os/\AllBare s'.gens) s₁:=by
  intro H hO hS Jk hA hK;let RA:∀ {b:Addr}{o:Obj},s₁.heap.get? b=!o->H b=none->(sW s₁.heap H).get? b=!o:=λe n=>CK e n;let Zc:∀ {b:Addr}{o:Obj}{es:Ñ}{ep:Nat},s₁.heap.get? b=!o->o.data=.dict es ep->H b=none:=λ{b o es ep} e d=>by
   cases q:H b with
   | none=>rfl
   | some u=>
    let e':=hA b (by rw[q];simp);subst e';rw[ha]at e;cases e;let d':=d
    cases d'
  let nsK:∀ {b:Addr}{m:Ω},s₁.heap.Ns b m->(sW s₁.heap H).Ns b m:=λ{b m} gR=>by let#[o,es,ep,e,d,r]:=gR;show#[o,es,ep,RA e<|Zc e d,d,r]
  let hKb:=λb o e=>RA (KX b o e) (by
   cases q:H b with
   | none=>rfl
   | some u=>
    let e':=hA b (by rw[q];simp);subst e';rw[hK (by rw[q];simp)]at e;cases e)
  let hM:Mod K mg _:=#[hKb,nsK U2,#[mb,nsK hb,hbb],let ⟨mc,h1,h2⟩:=a3U;#[mc,nsK h1,h2]]
  let e0:R1 P w K mg _ callerA [] s₁ H:=#[1,hM,λb o e=>Ei e,Nat.le_of_eq<|AG _ _,trivial,λb hb=>absurd (show b∈([]) from hb)<|by simp,Jk,.of_eq hg]
  show HK ((F _ hKb<|nsK U2).run callerA [] s₁ H #[[.ref a],[]] [.ref a] [.ref a] _ _ hr e0 (a0p s₁ _) (.cons rfl .nil)<|Rq H hO hS) λr s' h=>?_
  cases r with
  | error e=>show (hCX H e s' h).elim
  | ok fl=>
   cases fl with
   | next=>show False.elim h
   | brk=>show False.elim h
   | cont=>show False.elim h
   | ret u=>
    let#[v,H',os,bare,un,a3I,r',q]:=h;let q':=q;subst q';obtain rfl:u=Value.bool true:=r';show#[1,OldK.of_keep λb o e=>?_,os,bare]
    cases q:H b with
    | none=>show un.keep b o e q (by intro z;show absurd (show b∈([]:υ) from z)<|by simp) Ğ
    | some u=>
     rcases hO b with z|⟨ob,xs,z⟩
     ·rw[q]at z;cases z
     ·let z2:=un.Om b ob _ z;let#[e1,_]:=Jk b _ z;let#[e2,_]:=a3I b _ z2;rw[e]at e1;cases e1;show e2
 cases hk:K.lookup a with
 | some o=>
  let e:=KX a o hk;rw[ha]at e
  cases e;show core (λ_=>none) (λ_=>.inl rfl) (.inr #[_,vs.toArray,_,hk,3,by rw[GW,a3b];show hl,by simpa using rv]) (λb u z=>by let z':=z;cases z') (λb z=>absurd rfl z) λz=>absurd rfl z
 | none=>
  show core (λb=>if b=a then some _ else none) (λb=>?_) (.inl<|.inr ⟨{ cls:=.type "list",data:=.seq vs.toArray },if_pos rfl⟩) (λb u z=>?_) (λb z=>?_) λ_=>hk
  ·by_cases hb:b=a
   ·show .inr #[_,_,if_pos hb]
   ·show .inl (if_neg hb)
  ·by_cases hb:b=a
   ·let z':=(if_pos hb).symm.trans z
    cases z';subst hb;show#[ha,by rw[EV];show hl,vs,_,rv,ha]
   ·let z':=(if_neg hb).symm.trans z
    cases z'
  ·by_cases hb:b=a
   ·show hb
   ·show absurd (if_neg hb) z
def U8 {l:W.OpenLaw}{K:Params->Ψ}{CX:World->RD}{sp:World->Sp}(hn:l.most=!n)(hn2:n<=sizeLine)(hdf)(hr:Jn k callerA)(hY)(F:∀ (w:World)(mg:Ω)(fa:Addr)(h:Heap),(K w.params).In h->h.Ns mainGlobals mg->mg d.name=!.ref fa->
   ∃ fd:È,(∀ (s:Ê)(u:Value),BindsTo s fd #[[u],[]] [(x,u)])/\
    ∀ base:Heap,(K w.params).In base->base.Ns mainGlobals mg->Jy l.prog w (K w.params) mg base (CX w) k fa fd [x] (sp w))(Rq:∀ (w:World)(H:Hp)(a:Addr)(ns:Ξ),ns.length<=n->XD H->Jq (K w.params) H a ş->sp w [.ref a] H (λv _=>v=.bl true) λ_ _ _=>False)(hCX:∀ (w:World)(H:Hp)(s:Ê)(e:Value)(s':Ê),CX w [] H s (λ_ _ _=>False) e s'->False):
  W.WalkO q loose XP YP l.row.toRowW d [] (λf vs=>PySem.call f vs):=by
 show Att.Qv hn hdf λw s₀ s₁ mg mb fa o pm cd doc a vs ns G Y ho hd Qe hmg WV hints hlen hg=>?_;let KX:=hY w _ Y;let#[fd,hb,hF]:=F w mg fa _ KX G.T.g hmg;show Cz KX G.T.g G.T.b G.T.builtins G.T.nolimit hg WV hints (Fo hlen hn2) hr hF hb (λH hO hS=>Rq w H a ns hlen hO hS) λH e s'=>hCX w H s₁ e s'
theorem ak (s:Stmt)(j):Stmt:=match s with
 | .ClassDef _ _ _ body _ _ _ _ _ _ _=>body.getD j (.Pass ⟨0,0,0,0⟩)
 | _=>.Pass ⟨0,0,0,0⟩
theorem aP (s:Stmt):Arguments:=match s with
 | .FunctionDef _ a _ _ _ _ _ _ _ _=>a
 | _=>{ posonlyargs:=[],args:=[],vararg:=none,kwonlyargs:=[],kw_defaults:=[],kwarg:=none,defaults:=[] }
theorem ay (s:Stmt):Í:=match s with
 | .FunctionDef _ _ b _ _ _ _ _ _ _=>b
 | _=>[]
theorem aa (s:Stmt):Scope:=match s with
 | .FunctionDef _ _ _ _ _ _ sc _ _ _=>sc
 | _=>{ kind:=.function,names:=[],isGenerator:=false,isCoroutine:=false }
abbrev Ky:RD:=λ_ _ _ _ _ _=>False
abbrev E0:XK:=λ_ _ _=>False
def lv:ic Ky X E0:=λ_ _ _ _ _ _ _ h=>h.elim
abbrev _root_.ω:=Array (Option Value)
abbrev _root_.ψ:=Option Addr
structure MN (K:Ψ) (x ğ:Str) (st:Stmt) (f:Addr) (fd:È):Prop where
 ex:∃ (oc:Value)(od:ψ)(kV doc pm:Value)(an:ψ)(J7 ct:Value)(KR:ω),
  fd=W.fnOf x ğ (aP st) (ay st) (aa st) .none kV doc pm an J7 ct/\K.lookup f=some ⟨oc,od,.func fd,KR⟩/\W.codeIn K J7 ğ=true
 kp:W.keepIn K (.ref f)=true
section
variable {K:Ψ}
def MN.ok {st:Stmt}{k:Nat}(F:MN K x ğ st f fd)(S:ax N ps (aa st))(len)(Me:∀ (J7:Value)(A:Ë)(outer:List Env)(s:Ê)(H:Hp)(vs:π)(Q:VK)(E:XK),Jn k ę->sp vs H Q E->
   ∃ t,Nj (dU Ky P w K mg base N ğ (aa st) f J7 A outer s H E).QL (ay st) t/\t { nx:=λ_ H'=>Q .non H',rt:=Q } C6 H):Jy P w K mg base Ky (k+1) f fd ps sp:=by
 let#[oc,od,kV,doc,pm,an,J7,ct,KR,1,lk,Qe]:=F.ex;show z8 lk Qe S len λA outer s H vs Q E hr Rq=>?_;let#[t,h,q]:=Me J7 A outer s H vs Q E hr Rq;show#[t,h.QL,q]
def MN.binds {st:Stmt}(F:MN K x ğ st f fd)(h:∀ (kV doc pm:Value)(an:ψ)(J7 ct:Value)(us:θ),us.length=ps.length->bindArgs ĩ #[us,[]]=pure A2):Binds K fd ps []:=by let#[oc,od,kV,doc,pm,an,J7,ct,KR,1,lk,Qe]:=F.ex;show .all (h kV doc pm an J7 ct)
def sZ {st:Stmt}{kV:Value}(l:K.lookup f=some #[oc,od,.func ĩ,KR])(c)(k:W.keepIn K (.ref f)=true):MN K x ğ st f ĩ:=#[#[oc,od,kV,doc,pm,an,J7,ct,KR,1,l,c],k]
universe e
def aK (hr:Jn k A):A.units+1<cLine:=HW (Nat.add_le_add_left (by decide:1<=64) _) hr.units
def pv (i)(hN:X.N[i]?=!x:=Ą)(hv:Y' X.env.scope x:=Ć)(hd:Ė x:=ö)(Qe):PE X A0 (rM i):=W8 hN hv hd Qe
def xQ {A:Prop}(h:B):if false=true then A else B:=by rw[if_neg FJ];show h
def Et {A:Prop}(h:A):if true=true then A else B:=by rw[if_pos rfl];show h
def og {A:Prop}[Decidable c](h1:c->A)(h2:¬ c->B):if c then A else B:=by simp_all
def Zq {A:Prop}[Decidable c](hc:c)(h:B):if (not (decide c))=true then A else B:=by rw[EZ hc];show xQ h
theorem f' (H H':Hp):Prop:=∀ b o,H b=!o->H' b=!o
def f'.refl (H):f' H H:=λ_ _ h=>h
def f'.trans (a:f' H H1)(b:f' H1 H2):f' H H2:=λc o h=>b c o (a c o h)
def f'.free (e)(h:H' l=Option.none):H l=Option.none:=by
 cases q:H l with
 | none=>rfl
 | some o=>
  rw[e l o q]at h
  cases h
def f'.seq {K:Ψ}(e)(h:Jq K H a xs):Jq K H' a xs:=by
 rcases h with (h|⟨o,h⟩)|h
 ·show .inl (.inl<|e _ _ h)
 ·show .inl (.inr #[o,e _ _ h])
 ·show .inr h
theorem Itz (K)(a b:Addr):It:=
 ⟨λi H=>∃ xs ys x y,Jq K H a xs/\Jq K H b ys/\xs[i]?=!x/\ys[i]?=!y,
  λi H v H'=>∃ T,H T=none/\v=.ref T/\∃ x y,(∀ xs,Jq K H a xs->xs[i]?=!x)/\(∀ ys,Jq K H b ys->ys[i]?=!y)/\H'=upd H T (.tup [x,y]),
  λi H=>∃ xs ys,Jq K H a xs/\Jq K H b ys/\(xs.length<=i\/ys.length<=i)⟩
def Inv.NK {ch:υ}(I)(hf:∀ b∈ch,lf X ñ H b)(k:∀ b o,b∉ch->s.heap.get? b=!o->h'.get? b=!o):Inv X ñ σ H { s with heap:=h',toks:=t' }:=by
 show I.step (λb hb=>#[(hf b hb).2.2.2.1,(hf b hb).2.1,(hf b hb).2.2.2.2.1,(hf b hb).2.2.2.2.2]) (λb o _ _ hc e _=>k b o hc e) (λb o _ _ hc e _=>#[o.slots,k b o hc e]) (λ_ _ _ _ n=>n)
  (λb o hc e=>#[o,k b o hc e]) (λ_ _ e=>e) (λ_ _ _ e=>e) (λm hm=>?_) (λb u e=>?_) I.bare
 ·let#[o,es,ep,ho,r]:=hm;show#[o,es,ep,k _ o (λz=>(hf _ z).2.1 rfl) ho,r]
 ·show (I.Jk b u e).Kr (λc v hc q=>k c v (λz=>?_) q) (λ_ q=>q) λ_ _ q=>q;let n:=(hf c z).1
  grind
def Inv.Sx (I)(hf:lf X ñ H T)(hs:X.s₀.heap.objs.size<=T)(new:Jl X.prog X.w (upd H T o) s.heap T o):Inv X ñ σ (upd H T o) s:=by
 let hn:=hf.1;let:=I.step (H':=upd H T o) (d':=s.drawn) (t':=s.toks) (ch:=[T]) (λb hb=>by
   let e:b=T:=by simpa using hb
   subst e;show#[.inr hs,hf.2.1,hf.2.2.2.2.1,hf.2.2.2.2.2]) (λb o _ _ _ e _=>e) (λb o _ _ _ e _=>#[o.slots,e]) (λb o hb _ n=>by rw[a8<|by simpa using hb];show n)
  (λb o _ e=>#[o,e]) (λb xs e=>by rw[a8<|ao e hn];show e) (λb ob xs e=>by rw[a8<|ao e hn];show e) (λm hm=>hm)
  (λb u e=>by
   by_cases hb:b=T
   ·grind [af]
   ·rw[a8 hb]at e;show (I.Jk b u e).Kr (λc v _ q=>q) (λc q=>by rw[a8<|ao q hn];show q) λc xs q=>by rw[a8<|ao q hn];show q) I.bare
 show this
def df (I)(h:Jq X.K H a xs)(hf:lf X ñ H b):a≠b:=by
 rintro rfl;rcases h with (h|⟨o,h⟩)|⟨o,its,n,hk,_⟩
 ·rw[hf.1]at h;cases h
 ·rw[hf.1]at h;cases h
 ·let e:=I.ok.mod.Ur a o hk;rcases hf.2.2.2.1 with z|z
  ·show I.ok.Qn a o e z
  ·show absurd (FY (FD e)<|Fo I.ok.So z) (Ho _)
theorem Yn (z TI TO i1 i2 a b:Addr)(i)(h:Heap):Prop:=IsZip h z TI TO .none/\IsPair h TI (.ref i1) (.ref i2)/\(∃ u v,IsPair h TO u v)/\h.IsListIter i1 a i/\h.IsListIter i2 b i
structure a0Z (z TI TO i1 i2:Addr):Prop where
 TIz:TI≠z
 TOz:TO≠z
 i1z:i1≠z
 i2z:i2≠z
 TITO:TI≠TO
 TIi1:TI≠i1
 TIi2:TI≠i2
 TOi1:TO≠i1
 TOi2:TO≠i2
 i12:i1≠i2
def Bq {P:É}{w:World}{K:Ψ}{elts:Ì}{x1:Nat}{LH:Pos} (a b z TI TO i1 i2:Addr) (D:a0Z z TI TO i1 i2):
  tM P w K ŝ (Itz K a b) [z,TI,TO,i1,i2] z (Yn z TI TO i1 i2 a b) where
 mem:=by simp
 obj:=λi h st c hc=>by
  let#[h1,h2,#[u,v,h3],#[o4,e4,c4,d4],#[o5,e5,c5,d5]]:=st
  grind
 keep:=λi h h' st k=>by let#[h1,h2,#[u,v,h3],h4,h5]:=st;show#[k z Ğ _ h1,k TI Ğ _ h2,#[u,v,k TO Ğ _ h3],h4.at λo e=>k i1 Ğ o e,h5.at λo e=>k i2 Ğ o e]
 item:=by
  intro X hP hw hK hc i ñ s σ H E I hf st hg;subst hP hw hK;let#[xs,ys,x,y,hx,hy,ex,ey]:=hg;let#[h1,h2,#[u,v,h3],h4,h5]:=st;let#[its,rv,p,hz]:=I.list hx;let#[Mj,V4,p2,RQ]:=I.list hy;let#[w1,ew1,r1]:=rv.get ex;let#[w2,ew2,r2]:=V4.get ey;let ap:ZipApart z TI TO i1 i2 a b:=#[D.TIz,D.TOz,D.i1z,D.i2z,D.TITO,D.TIi1,D.TIi2,D.TOi1,D.TOi2,D.i12,
   df I hx (hf z<|by simp),df I hx<|hf TO Ğ,df I hx<|hf i1 Ğ,df I hx<|hf i2 Ğ,df I hy<|hf z Ğ,df I hy<|hf TO Ğ,df I hy<|hf i1 Ğ,df I hy<|hf i2 Ğ]
  show wpAny_pyNext_zip_item ap h1 h2 h3 h4 h5 p.isList p2.isList (by simpa using ew1) (by simpa using ew2) λh' a1 a2 a3 a4 a5 a6 a7=>?_;show#[_,1,wpAny_letOwnedTupleGo_zip a1 λRy b1 sb=>?_];let hT:=I.Jk.fresh<|Fg _;let V0:∀ c∈[z,TI,TO,i1,i2],c≠s.heap.objs.size:=λc hc e=>by
   let:∃ o,s.heap.get? c=!o:=by
    simp only[Fv,FZ,Iv]at hc;let#[o4,e4,_]:=h4;let#[o5,e5,_]:=h5;rcases hc with rfl|rfl|rfl|rfl|rfl
    ·show#[_,h1]
    ·show#[_,h2]
    ·show#[_,h3]
    ·show#[_,e4]
    ·show#[_,e5]
   let#[o,q]:=this;show absurd (FD q) Ħ
  let kk:∀ c o,c∉[z,TI,TO,i1,i2]->s.heap.get? c=!o->Ry.get? c=!o:=λc o hc e=>by simp only[Fv,FZ,Iv,not_or]at hc;show sb.extBut _ _ hc.1 (a7 c o hc.1 hc.2.2.1 hc.2.2.2.1 hc.2.2.2.2 e)
  let I1:Inv X ñ σ H { s with heap:=Ry }:=I.NK hf kk;let I2:Inv X ñ σ (upd H s.heap.objs.size<|.tup [x,y]) { s with heap:=Ry }:=by show I1.Sx (I.OZ (Fg _) hT) I.sz #[by change 2<=sizeLine;decide,[w1,w2],.cons r1<|.cons r2 .nil,?_];show#[_,sb.extBut _ _ (Ne.symm<|V0 z Ğ) a5,1,_,1]
  show#[.ref s.heap.objs.size,_,I2,1,#[_,hT,1,x,y,λxs' Ro=>by rw[I.MK Ro hx];show ex,λys' Zx=>by rw[I.MK Zx hy];show ey,1],?_,λc hc=>?_]
  ·show#[b1,sb.extBut _ _ D.TIz<|a7 TI _ D.TIz D.TITO D.TIi1 D.TIi2 h2,#[_,_,sb.extBut _ _ D.TOz a2],a3.extBut sb.extBut D.i1z,a4.extBut sb.extBut D.i2z]
  ·rw[a8<|V0 c hc];show (hf c hc).1
 done:=by
  intro X hP hw hK hc i ñ s σ H E I hf st hg;subst hP hw hK;let#[xs,ys,hx,hy,hl]:=hg;let#[h1,h2,#[u,v,h3],h4,h5]:=st;let#[its,rv,p,hz]:=I.list hx;let#[Mj,V4,p2,RQ]:=I.list hy;let l1:=rv.length;let l2:=V4.length;let ap:ZipApart z TI TO i1 i2 a b:=#[D.TIz,D.TOz,D.i1z,D.i2z,D.TITO,D.TIi1,D.TIi2,D.TOi1,D.TOi2,D.i12,
   df I hx (hf z<|by simp),df I hx<|hf TO Ğ,df I hx<|hf i1 Ğ,df I hx<|hf i2 Ğ,df I hy<|hf z Ğ,df I hy<|hf TO Ğ,df I hy<|hf i1 Ğ,df I hy<|hf i2 Ğ]
  show wpAny_pyNext_zip_end Ŋ ap h1 h2 h3 h4 h5 p.isList p2.isList ?_ λh' kk=>#[1,I.NK hf λc o hc e=>?_]
  ·simp_all
  ·simp_all
 self:=λ_ _ _ _ _ st h=>wpAny_pyIter_zip st.1 h
def wC:bootBuiltins "zip"=!.type "zip":=by decide +kernel
theorem Zs (K)(ta:TA):TI:=λσ H R=>ta σ H λvs H1=>∃ a b,vs=[.ref a,.ref b]/\(∃ xs,Jq K H1 a xs)/\(∃ ys,Jq K H1 b ys)/\R (Itz K a b) H1
abbrev _root_.ě (X:L2.Cx)(e1 e2:PySem.Expr):Prop:=starEach [e1,e2] X.env=[(false,eval e1 X.env),(false,eval e2 X.env)]
abbrev _root_.ĝ (X:L2.Cx)(e2:PySem.Expr):Prop:=starEach [e2] X.env=[(false,eval e2 X.env)]
def BP {x1:Nat}(hg:Gl X "zip")(hm:X.mg "zip"=none)(ha:PA X [e1,e2] ta)(hs:ě X e1 e2:=Ą)(PZ):
  PI X ŝ Ty (Zs X.K ta):=by
 intro ñ s σ H R I h;show Call_<|ga I hg hm wC (Gx (Jx (ha pos ñ s σ H _ I h) λus s1 gR=>?_) (by rw[hs,PZ]) (by rw[PZ];rfl));let#[vs,H1,I1,r1,q1]:=gR;let#[a,b,e,#[xs,hx],#[ys,hy],q]:=q1;subst e
 cases r1 with
 | cons r rr=>
  cases rr with
  | cons r' rr=>
   cases rr
   cases r
   cases r';let#[its,rv,p1,hz]:=I1.list hx;let#[Mj,V4,p2,RQ]:=I1.list hy;show call_zip_2 p1.isList p2.isList λh' a1 a2 a3 a4 a5 a6 a7=>?_;show wpAny_pyIter_zip a1 ?_;let I2:Inv X ñ σ H1 { s1 with heap:=h' }:=I1.kept a7;show#[_,[s1.heap.objs.size+4,s1.heap.objs.size+2,s1.heap.objs.size+3,s1.heap.objs.size,s1.heap.objs.size+1],_,_,H1,1,I2,Bq a b _ _ _ _ _ #[?_,?_,?_,?_,?_,?_,?_,?_,?_,?_],#[a1,a2,#[_,_,a3],a4,a5],λc hc=>?_,q];all_goals try (intro z;let z':=z;lia)
   let le:@LE.le Nat _ s1.heap.objs.size c:=by simp only[Fv,FZ,Iv]at hc;rcases hc with rfl|rfl|rfl|rfl|rfl <;> lia
   let:=I1.OZ le<|I1.Jk.fresh le;show this
def t6 {K:Φ}{g:TG}{tb:TS}{D:d9}(Pv)(h0)(hl:∀ i σ H,i<=min xs.length ys.length->Pv i σ H->Jq K H a xs/\Jq K H b ys)(hs:∀ i x y T σ H,xs[i]?=!x->ys[i]?=!y->Pv i σ H->H T=none->g (.ref T) σ (upd H T (.tup [x,y])) λσ2 H2=>tb { D with nx:=Pv (i+1),ct:=Pv (i+1),bk:=D.nx } σ2 H2)(hd:∀ σ H,Pv (min xs.length ys.length) σ H->D.nx σ H):
  ∃ W:Nat->Nat->Υ,(∃ m,W 0 m σ H)/\∀ i m σ H,W i m σ H->
   ((Itz K a b).stop i H/\D.nx σ H)\/((Itz K a b).go i H/\∃ N:Υ,Į/\∀ x H',(Itz K a b).TQ i H x H'->g x σ H' λσ2 H2=>tb { D with nx:=N,ct:=N,bk:=D.nx } σ2 H2):=by
 show#[λi m σ H=>m=min xs.length ys.length - i/\i<=min xs.length ys.length/\Pv i σ H,#[_,1,FR _,h0],?_];rintro i m σ H ⟨rfl,hi,p⟩;let#[q1,q2]:=hl i σ H hi p;by_cases Ml:i<min xs.length ys.length
 ·show .inr #[#[xs,ys,xs[i],ys[i],q1,q2,by simp,by simp],Pv<|i+1,λσ' H' p'=>#[_,?_,1,Ml,p'],λx H' yl=>?_]
  ·lia
  ·let#[T,hT,1,x,y,ex,ey,1]:=yl;show hs i x y T σ H (ex xs q1) (ey ys q2) p hT
 ·let e:i=min xs.length ys.length:=#[]
  subst e;show .inl #[#[xs,ys,q1,q2,#[]],hd σ H p]
abbrev Vh:ρ:=λ_ _=>False
def tD (I:Nat->Shared->Prop)(turn:∀ n s,I n s->wpAny Ġ A (pyNext it) (λr s₁=>match r with
   | none=>R (.ok .next) s₁
   | some v=>wpAny Ġ A (letOwnedTupleGo target it v) (λ_ s₂=>wpAny Ġ A (assign target env v) (λ_ s₃=>
     wpAny Ġ A (forIn ifs true λc r=>if r=true then do let ok <- isTrue c env (eval c env);pure (ForInStep.yield ok) else pure (ForInStep.yield r)) (λok s₄=>
      if ok=true then wpAny Ġ A (eval elt env) (λx s₅=>wpAny Ġ A (call (.builtin "list.append") [acc,x]) (λ_ s₆=>∃ m,m<n/\I m s₆) Vh s₅) Vh s₄
      else ∃ m,m<n/\I m s₄) Vh s₃) Vh s₂) Vh s₁) Vh s)(n)(h:I n s):codeAny Ġ A (.compLoop (.ListComp elt [#[target,iter,ifs,(0)]] scope pos) 0 it acc env) R s:=by
 show codeAny_loop rfl I (λn s hI=>?_) n h;show wpAny_noted ?_;show EX (IX<|EX (GF (turn n s hI) (λr s₁ h₁=>?_) λ_ _ h'=>h'.elim))
 cases r with
 | none=>show Ff h₁
 | some v=>
  show EX (GF h₁ (λ_ s₂ h₂=>?_) λ_ _ h'=>h'.elim);show EX (GF h₂ (λ_ s₃ h₃=>EX<|GF h₃ (λok s₄ h₄=>?_) λ_ _ h'=>h'.elim) λ_ _ h'=>h'.elim)
  cases ok with
  | false=>show Ff #[1,h₄]
  | true=>
   show EX (EX<|GF h₄ (λx s₅ h₅=>EX<|GF h₅ (λ_ s₆ h₆=>Ff<|Ff ⟨rfl,h₆⟩) λ_ _ h'=>h'.elim) λ_ _ h'=>h'.elim)
abbrev _root_.Ĝ:PySem.Obj:={ cls:=.type "dict",data:=.dict [].toArray }
def vq (h:Q (newEnv scope s.heap.objs.size globals (cellsFrom ō scope.names cl) ğ none .none (!env) builtinsNs) { s with heap:=pushCells (s.heap.push Ĝ) scope.names }):
  wpAny M A (newFunctionEnv scope globals cl [] ğ none .none !env) Q E s:=by
 show EX (wpAny_alloc ?_);show EX (wpAny_layCells _ (λname kind cells=>by simp_all) _ _ _ _ ?_);rw[Ij ..];show EX ?_;show Ff (Ff h)
abbrev _root_.Ã:=List (Str×Addr)
abbrev _root_.Â:=List (Str×NameKind)
def jg (f:Str×NameKind->List (Str×Addr)->Sem (ForInStep Ã))(hf:∀ name kind cs,f (name,kind) cs=if kind==.free then (do let a <- cellOf env name;pure (.yield ((name,a)::cs))) else pure (.yield cs)):
  ∀ (names:Â)(cs:Ã),(∀ x∈names,x.2=.free->∃ c,env.cells.lookup x.1=!c)->
   ∃ cl,forIn names cs f=pure cl/\(∀ p∈cl,p∈cs\/env.cells.lookup p.1=!p.2)/\(∀ p∈cs,p∈cl)/\∀ x∈names,x.2=.free->∃ c,(x.1,c)∈cl:=by
 intro r'
 induction r' with
 | nil=>
  intro cs _;show #[cs,by rw[Ie],λ_ h=>.inl h,λ_ h=>h,λ_ h=>nomatch h]
 | cons hd' r ih'=>
  let#[name,kind]:=hd';intro cs hc;let hr:∀ x∈r,x.2=.free->∃ c,env.cells.lookup x.1=!c:=λx hx=>hc x<|Fp _ hx;by_cases hk:kind=.free
  ·subst hk;let#[c,e]:=hc (name,.free) Fw rfl;let#[cl,h1,h2,h3,h4]:=ih' ((name,c)::cs) hr;show#[cl,?_,λp hp=>?_,λp hp=>h3 p<|Fp _ hp,λx hx hf'=>?_]
   ·rw[IG,hf];change ((if (NameKind.free==NameKind.free)=true then _ else _) >>= _)=_;rw[if_pos<|by decide];unfold cellOf;rw[e];show h1
   ·grind
   ·rcases Fv.mp hx with z|z
    ·subst z;show#[c,h3 _ Fw]
    ·show h4 x z hf'
  ·let#[cl,h1,h2,h3,h4]:=ih' cs hr;show#[cl,?_,h2,h3,λx hx hf'=>?_]
   ·rw[IG,hf,if_neg<|by simpa using hk];show h1
   ·rcases Fv.mp hx with z|z
    ·simp_all
    ·show h4 x z hf'
def y6 (hc:∀ x∈scope.names,x.2=.free->∃ c,env.cells.lookup x.1=!c):
  ∃ cl,closureFor scope env=pure cl/\(∀ p∈cl,env.cells.lookup p.1=!p.2)/\∀ x∈scope.names,x.2=.free->∃ c,(x.1,c)∈cl:=by
 let#[cl,h1,h2,_,h4]:=jg (λx cs=>if x.2==.free then (do let a <- cellOf env x.1;pure<|.yield ((x.1,a)::cs)) else pure (.yield cs)) (λ_ _ _=>rfl) scope.names [] hc;show#[cl,?_,λp hp=>(h2 p hp).elim ń id,h4];unfold closureFor
 simp_all
def fg:∀ {l:List (Str×α)}{x:Str}{c:α},(x,c)∈l->∃ d,l.lookup x=!d:=by
 intro l
 induction l with
 | nil=>intro x c h;cases h
 | cons p r ih=>
  intro x c h;let#[k,v]:=p;rw[HL]
  cases hb:x==k with
  | true=>show#[v,1]
  | false=>
   rcases Fv.mp h with e|h
   ·cases e;simp at hb
   ·show ih h
set_option tactic.hygienic true in def fm:∀ (names:Â)(n:Nat)(acc:Ã)(p:Str×Addr),p∈cellsFrom n names acc->p∈acc\/(n<=p.2/\(p.1,NameKind.cell)∈names):=by
 intro r'
 induction r' with
 | nil=>
  intro _ _ _ h;show .inl h
 | cons hd' r ih'=>
  let#[y,k]:=hd';intro n acc p h;unfold cellsFrom at h;split at h
  ·rename_i hk;let ek:k=.cell:=by simpa using hk
   rcases ih' (n+1) _ p h with z|⟨z1,z2⟩
   ·rcases Fv.mp z with z|z
    ·simp_all
    ·show .inl z
   ·show .inr #[#[],Fp _ z2]
  ·rcases ih' n acc p h with z|⟨z1,z2⟩
   ·show .inl z
   ·simp_all
def fu:∀ (names:Â)(n:Nat)(acc:Ã),(∀ p∈acc,p.2<n)->(∀ x y c,(x,c)∈acc->(y,c)∈acc->x=y)->
  ∀ x y c,(x,c)∈cellsFrom n names acc->(y,c)∈cellsFrom n names acc->x=y:=by
 intro r'
 induction r' with
 | nil=>
  intro _ _ _ h;show h
 | cons hd' r ih'=>
  let#[z,k]:=hd';intro n acc Ml h;unfold cellsFrom;split
  ·show ih' (n+1) _ (λp hp=>?_) (λx y c h1 h2=>?_)
   ·rcases Fv.mp hp with e|hp
    ·simp_all
    ·show IU (Ml p hp)
   ·grind
  ·show ih' n acc Ml h
set_option tactic.hygienic true in def fj:∀ (names:Â)(n:Nat)(acc:Ã){x:Str},(∀ y∈names,y.2=.cell->y.1≠x)->(cellsFrom n names acc).lookup x=acc.lookup x:=by
 intro r'
 induction r' with
 | nil=>
  intro _ _ _ _;show rfl
 | cons hd' r ih'=>
  let#[z,k]:=hd';intro n acc x h;unfold cellsFrom;let hr:∀ y∈r,y.2=.cell->y.1≠x:=λy hy=>h y<|Fp _ hy;split
  ·rename_i hk;rw[ih' (n+1) _ hr,HL];let:(x==z)=false:=by let:=h (z,k) Fw (by simpa using hk);simpa using Ne.symm this
   rw[this]
  ·show ih' n acc hr
def dc:∀ (names:Â)(h:Heap)(acc:Ã),(∀ p∈acc,∃ v,h.IsCell p.2 v)->∀ p∈cellsFrom h.objs.size names acc,∃ v,(pushCells h names).IsCell p.2 v:=by
 intro r'
 induction r' with
 | nil=>
  intro _ _ hc;show hc
 | cons hd' r ih'=>
  let#[z,k]:=hd';intro h acc hc;unfold cellsFrom pushCells;split
  ·let:=ih' (h.push { cls:=.type "cell",data:=.cell none }) ((z,h.objs.size)::acc) (λp hp=>by
    rcases Fv.mp hp with e|hp
    ·subst e;show#[none,_,Fx _ rfl,1]
    ·let#[v,q]:=hc p hp;show#[v,q.keeps λb o e=>Fc _ e])
   rwa [Ij]at this
  ·show ih' h acc hc
theorem aE (X)(scope)(N':η)(cells:Ã)(C)(s:Ê)(H)(fp:υ):Cx where
 prog:=X.prog
 w:=X.w
 K:=X.K
 mg:=X.mg
 base:=X.base
 A:=X.A
 N:=N'
 s₀:=s
 H₀:=H
 env:=compEnvC scope cells C X.env
 outer:=X.stack
 stack:=X.stack
 ex:=fp
 fn:=λx=>decide (scope.names.lookup x=!.cell)
 calm:=X.calm
 pn:=[]
 xe:=λ_ _=>False
theorem vL (scope)(x):Bool:=scope.names.any λy=>y.1==x&&y.2==.free
theorem vM (scope)(x):Bool:=scope.names.any λy=>y.1==x&&y.2==.cell
abbrev _root_.À:=List Nat
theorem kU (sc)(N:η)(scope)(nT)(js)(N':η):Bool:=
 scope.kind==.function&&decide (N'.length=nT+js.length) &&
 scope.names.all (λx=>(x.2 != .local || scope.names.lookup x.1==!.local)&&(x.2 != .free || ((sc.names.lookup x.1==some .cell || sc.names.lookup x.1==!.free)&&scope.names.lookup x.1==!.free))) &&
 (js.zipIdx.all λ(j,i)=>match N'[nT+i]?,N[j]? with
  | some x,some y=>x==y&&vL scope x&&not (vM scope x)
  | _,_=>false)
structure bE (X:Cx) (scope:Scope) (nT:Nat) (js:À) (N':η):Prop where
 kind:scope.kind=.function
 len:N'.length=nT+js.length
 loc:∀ x∈scope.names,x.2=.local->scope.names.lookup x.1=!.local
 free:∀ x∈scope.names,x.2=.free->(X.env.kindOf x.1=some .cell \/ X.env.kindOf x.1=!.free)
 frl:∀ x∈scope.names,x.2=.free->scope.names.lookup x.1=!.free
 cap:∀ (i j:Nat),js[i]?=!j->∃ x,N'[nT+i]?=!x/\X.N[j]?=!x/\(x,NameKind.free)∈scope.names/\∀ y∈scope.names,y.2=.cell->y.1≠x
def tw (hsc:X.env.scope=sc)(hN:X.N=N)(h:kU sc N scope nT js N'=true):bE X scope nT js N':=by
 unfold kU at h;simp only[GK,decide_eq_true_eq,GI,HU]at h;let#[#[#[h1,h2],h3],h4]:=h;show#[h1,h2,λx hx hl=>?_,λx hx hf=>?_,λx hx hf=>?_,λi j e=>?_]
 ·let:=(h3 x hx).1
  simp_all
 ·let:=(h3 x hx).2;simp only[hf,bne_self_eq_false,Bool.false_or,Bool.or_eq_true,GK,HU]at this;change X.env.scope.names.lookup x.1=_\/X.env.scope.names.lookup x.1=_;rw[hsc];show this.1
 ·let:=(h3 x hx).2
  simp_all
 ·let m:(j,i)∈js.zipIdx:=by rw[Gr];show e
  let q:=h4 (j,i) m;rw[hN];revert q
  cases e1:N'[nT+i]? with
  | none=>intro q;cases q
  | some x=>
   cases e2:N[j]? with
   | none=>intro q;cases q
   | some y=>
    intro q;simp only[GK,HU,Bool.not_eq_true']at q;let#[#[q1,q2],q3]:=q;subst q1;show#[x,2,?_,λy hy hc hxy=>?_]
    ·unfold vL at q2
     simp_all
    ·let:vM scope x=true:=List.any_eq_true.mpr #[y,hy,by simp[hxy,hc]];rw[q3]at this;cases this
theorem oK (nT)(js)(σ):St:=List.replicate nT none++js.map λj=>(σ[j]?).join
theorem Nk (X)(ifs:Ì)(t:TT):Prop:=
 ∀ (ñ:ζ)(s:Ê)(σ:St)(H:Hp)(Q:Ö),Inv X ñ σ H s->t σ H Q->
  wpAny Ĥ X.A (forIn ifs true λc r=>if r=true then do let ok <- isTrue c X.env (eval c X.env);pure (ForInStep.yield ok) else pure (ForInStep.yield r)) (TP X ñ σ Q) X.xe s
theorem wV:TT:=λ_ H Q=>Q true H
def N3:Nk X [] wV:=λñ s σ H Q I h=>by rw[Ie];show Ff #[H,I,h]
def bF (hc:PT X c t):Nk X [c] t:=λñ s σ H Q I h=>by show EX (EX (Jx (hc ñ s σ H Q I h) λb s1 q=>Ff ?_));show Ff q
theorem gn (nT)(js)(g:TG)(tt:TT)(te)(σ)(F:Addr->Ø):It->Ø:=λJ H1=>∀ l,H1 l=none->
 ∃ W:Nat->Nat->Υ,(∃ m,W 0 m (oK nT js σ) (upd H1 l (.lst [])))/\∀ i m σ' H',W i m σ' H'->
  (J.stop i H'/\F l H')\/(J.go i H'/\∀ x H2,J.TQ i H' x H2->g x σ' H2 λσ3 H3=>∃ (N:Ø)(NV:V->Ø),
   (∀ H4,N H4->∃ m',m'<m/\W (i+1) m' σ3 H4)/\(∀ v H5,NV v H5->∃ ys,H5 l=!.lst ys/\ys.length<sizeLine/\∃ m',m'<m/\W (i+1) m' σ3 (upd H5 l (.lst (ys++[v]))))/\
   tt σ3 H3 λb H4=>if b=true then te σ3 H4 NV else N H4)
section
variable {X:Cx}{ñ:ζ}{H:Hp}{s:Ê}
theorem a40 (X)(ñ)(H)(C)(s:Ê):Prop:=lf X ñ H C/\X.s₀.heap.objs.size<=C/\∃ m,s.heap.Ns C m
def tH:∀ (names:Â)(n:Nat)(acc:Ã),p∈acc->p∈cellsFrom n names acc:=by
 intro r'
 induction r' with
 | nil=>
  intro _ _ h;show h
 | cons _ r ih'=>
  intro n acc h;unfold cellsFrom;split <;> show ih' _ _ (by simp[h])
def Dl:∀ (names:Â)(n:Nat)(acc:Ã),(x,NameKind.cell)∈names->∃ c,(x,c)∈cellsFrom n names acc:=by
 intro names
 induction names with
 | nil=>intro n acc h;cases h
 | cons p r ih=>
  intro n acc h;let#[y,k]:=p;unfold cellsFrom;rcases Fv.mp h with e|h
  ·grind [tH,List.mem_cons_self]
  ·split <;> show ih _ _ h
def Dn:∀ (names:Â)(n:Nat)(acc:Ã),C<=n->(names.lookup x=!.cell\/∀ d,acc.lookup x=!d->C<=d)->∀ c,(cellsFrom n names acc).lookup x=!c->C<=c:=by
 intro r'
 induction r' with
 | nil=>
  intro n acc hn h c e;show h.elim (λh=>nomatch h) λh=>h c e
 | cons hd' r ih'=>
  let#[y,k]:=hd';intro n acc hn h c e;unfold cellsFrom at e;rw[HL]at h;split at e
  ·show ih' (n+1) _ #[] ?_ c e
   grind
  ·show ih' n acc hn ?_ c e
   grind
set_option tactic.hygienic true in def ww (hc:∀ cells C s H fp,Cc ģ)(S:bE X scope nT js N')(hi:PI0 Cc X tg iter wi)(hg)(ht)(he)(I)(h:wi σ H (gn nT js g tt te σ F))(fin:∀ (l C:Addr)(s':Ê)(H':Hp),Inv X ñ σ H' s'->a40 X ñ H' C s'->F l H'->compPost Ĥ X.A X.xe use Q (.ref l) C (.ok .next) s')(hs:∀ x,foldedSetIterable iter X.env x=pure x:=ă):
  wpAny Ĥ X.A (comprehension (.ListComp elt [#[tg,iter,ifs,(0)]] scope pos) scope X.env JI (newList []) false (eval iter X.env) use) Q X.xe s:=by
 let a4i:=λx hx hf=>I.ok.has x.1<|S.free x hx hf;let#[cl,RW,RV,a0m]:=y6 a4i;show wpAny_comprehension_free rfl hs RW S.kind S.loc (Jx (hi ñ s σ H _ I h) λv s1 h1=>Jx h1 λitv s2 h2=>?_);let#[it,fp,tn,J,H2,e,I2,T,st2,f2,rd]:=h2;subst e;let I3:Inv X ñ σ (upd H2 s2.heap.objs.size<|.lst []) { s2 with heap:=s2.heap.push { cls:=.type "list",data:=.seq ([]:θ).toArray } }:=I2.Wv .nil<|FR _;show IQ ?_ (by show FR _);let#[W,#[m0,w0],turn]:=rd s2.heap.objs.size<|I2.Jk.fresh (Fg _);let Q2:=I2.Jk.fresh<|Fg _;generalize hl:s2.heap.objs.size=l at I3 w0 turn Q2 ⊢;generalize hs3:({ s2 with heap:=s2.heap.push { cls:=.type "list",data:=.seq ([]:θ).toArray } }:Ê)=s3 at I3 ⊢;let z3:s3.heap.objs.size=l+1:=by rw[<- hs3,<- hl];show Ij ..
 let k23:∀ b o,s2.heap.get? b=!o->s3.heap.get? b=!o:=λb o e=>by rw[<- hs3];show Fc _ e
 show vq ?_;generalize hC:s3.heap.objs.size=C;generalize Oj:cellsFrom (C+1) scope.names cl=cells;let hz4:(s3.heap.push { cls:=.type "dict",data:=.dict [].toArray }).objs.size=C+1:=by rw[Ij,hC]
 let Vj:∀ b o,s3.heap.get? b=!o->(pushCells ų scope.names).get? b=!o:=λb o e=>pushCells_keeps _ _ b o<|Fc _ e;let nsC:(pushCells (s3.heap.push { cls:=.type "dict",data:=.dict [].toArray }) scope.names).Ns C (λ_=>none):=by let:=(Heap.Ns.new s3.heap<|.type "dict").keeps<|pushCells_keeps scope.names _;rwa [hC]at this
 generalize hh4:pushCells ų scope.names=h4 at Vj nsC;let memC:∀ x c,cells.lookup x=!c->(X.env.cells.lookup x=!c/\@LT.lt Nat _ c C)\/(@LE.le Nat _ (C+1) c/\(x,NameKind.cell)∈scope.names):=λx c e=>by
  let m:=mem_of_lookup e;rw[<- Oj]at m;rcases fm _ _ _ _ m with z|z
  ·let q:=RV _ z;let#[v,iz]:=I3.cell x c q;show .inl #[q,by let:=iz.lt;rw[hC]at this;show this]
  ·show .inr z
 let UQ:∀ x c,cells.lookup x=!c->∃ v,h4.IsCell c v:=λx c e=>by
  let m:=mem_of_lookup e;let:=dc scope.names ų cl (λp hp=>by let#[v,iz]:=I3.cell p.1 p.2<|RV p hp;show⟨v,iz.keeps λb o e=>Fc _ e⟩)
  rw[hz4,Oj,hh4]at this;show this _ m
 let Th:∀ b∈fp,@LT.lt Nat _ b l:=λb hb=>by let#[o,e,_]:=T.obj _ _ st2 b hb;rw[<- hl];show FD e
 let Vs:=λb hb z=>(Fv.mp<|I2.QF b z).elim (f2 b hb).2.1 (f2 b hb).2.2.1;let okC:(aE X scope N' cells C s3 ŋ fp).Ok:=by
  show#[I3.ok.mod,S.kind,I3.ok.glob,I3.ok.blt,Nat.le_of_eq hC,λx y c e1 e2=>?_,λx hx=>?_,λx c hf e=>?_,I3.ok.hd,I3.ok.frames,.inl rfl,λb hb=>#[?_,λx c e z=>?_],I3.bs,Fo I3.ok.So I3.sz,λb o e hb=>?_,Vs,I3.stack,I3.NN]
  ·let e1':=mem_of_lookup<|e1;let NH:=mem_of_lookup<|e2;rw[<- Oj]at e1' NH;show fu scope.names (C+1) cl (λp hp=>?_) (λx y c h1 h2=>I3.ok.inj x y c (RV _ h1)<|RV _ h2) x y c e1' NH;let#[v,iz]:=I3.cell p.1 p.2<|RV p hp;let h1:@LT.lt Nat _ p.2 s3.heap.objs.size:=iz.lt;rw[hC]at h1;change @LT.lt Nat _ p.2 (C+1);omega
  ·let Ro:=hx;let:∃ k,(x,k)∈scope.names/\(k=.cell\/k=.free):=by
    let m:∃ k,(x,k)∈(relabel scope X.env).names/\(k=.cell\/k=.free):=by
     rcases Ro with z|z
     ·show#[_,mem_of_lookup z,.inl rfl]
     ·show#[_,mem_of_lookup z,.inr rfl]
    let#[k,m,hk]:=m;unfold relabel at m;let#[#[n,k'],m',e]:=F8.mp m;dsimp only at e;split at e
    ·rename_i Vr
     cases e;simp only[GK,HU]at Vr;show⟨k',m',.inr Vr.1.1⟩
    ·cases e;show⟨k,m',hk⟩
   let#[k,m,hk]:=this;change ∃ c,cells.lookup x=some c;rw[<- Oj];let key:∃ c,(x,c)∈cellsFrom (C+1) scope.names cl:=by
    rcases hk with rfl|rfl
    ·show Dl _ _ _ m
    ·show let ⟨c,h⟩:=a0m _ m rfl;⟨c,tH _ _ _ h⟩
   let#[c,m]:=key;show fg m
  ·let h1:=Dn scope.names (C+1) cl (Fg _) (.inl<|Fq (hf)) c (by rw[Oj];show e);change @LE.le Nat _ s3.heap.objs.size c;omega
  ·let:=Th b hb;change @Ne Nat b C;omega
  ·subst z;rcases memC x c e with⟨q,_⟩|⟨q,_⟩
   ·show (f2 c hb).2.2.2.2.1 x c q rfl
   ·let:=Th c hb;omega
  ·rcases (f2 b hb).2.2.2.1 with z|z
   ·show I3.ok.Qn b o e z
   ·show absurd (FY (FD e)<|Fo I3.ok.So z) (Ho _)
 let HC:∀ c:Addr,@LE.le Nat _ C c->upd H2 l (.lst []) c=none:=λc hcc=>I3.Jk.fresh (show @LE.le Nat _ s3.heap.objs.size c by omega);let I4:Inv ĺ [] (oK nT js σ) ŋ { s3 with heap:=h4 }:=by
  show#[okC,1,I3.bare,Un.kept Vj,#[_,nsC,λi x v e1 e2 e3=>?_],UQ,HC C<|Fg _,λx c e=>?_,(λp hp=>nomatch hp),I3.Jk.kept Vj,?_]
  ·
   unfold oK at e2;by_cases Q3:i<nT
   ·rw[FP<|by simpa using Q3,List.getElem?_replicate]at e2;split at e2 <;> cases e2
   ·rw[FQ<|by simpa using Q3,Io,Fb]at e2
    cases ej:js[i - nT]? with
    | none=>rw[ej]at e2;cases e2
    | some j=>
     rw[ej]at e2;let NH:(σ[j]?).join=!v:=by simpa using e2
     let a4K:σ[j]?=!some v:=by
      cases eσ:σ[j]? with
      | none=>rw[eσ]at NH;cases NH
      | some o=>rw[eσ]at NH;show congrArg some NH
     let#[y,n1,n2,n3,n4]:=S.cap _ _ ej;let:nT+(i - nT)=i:=by omega
     rw[this]at n1;let exy:x=y:=by let e1':N'[i]?=!x:=e1;rw[n1]at e1';show (Option.some.inj e1').symm
     subst exy;let#[m,hn,hlk]:=I3.loc;let kinds:=S.free _ n3 rfl;let vis:Y' X.env.scope x:=by
      rcases kinds with k|k
      ·show .inr (.inl k)
      ·show .inr (.inr k)
     let#[u,r,lk]:=hlk j x v n2 a4K vis;show#[u,r,?_];rcases lk with⟨k,_⟩|⟨k,c,ec,iz⟩
     ·rcases kinds with k'|k'
      ·rw[k]at k';cases k'
      ·rw[k]at k';cases k'
     ·show .inr #[?_,c,?_,iz.keeps Vj]
      ·change (relabel scope X.env).names.lookup x=!.cell\/(relabel scope X.env).names.lookup x=!.free;let Y8:=e3;rcases Y8 with z|z|z
       ·
        exfalso;let m:=mem_of_lookup z;unfold relabel at m;let#[#[n,k'],m',e]:=F8.mp m;dsimp only at e;split at e
        ·cases e
        ·cases e;let q:=S.loc _ m' rfl;rw[S.frl _ n3 rfl]at q
         cases q
       ·show .inl z
       ·show .inr z
      ·change cells.lookup x=!c;rw[<- Oj,fj _ _ _ n4];let#[d,hd]:=a0m _ n3 rfl;let#[d',Po]:=fg hd;let:=RV _<|mem_of_lookup Po;rw[ec]at this;rw[Po,Option.some.inj this]
  ·rcases memC x c e with⟨q,_⟩|⟨q,_⟩
   ·show I3.KC x c q
   ·show HC c ġ
  ·unfold oK;change _=N'.length;rw[S.len,Fj,Io,EV]
 let stat:∀ {H':Hp},(∀ b∈fp,H' b=none)->∀ b∈fp,lf ĺ [] H' b:=λhn b hb=>by
  show#[hn b hb,?_,Vs b hb,.inl hb,λx c e z=>?_,λp hp=>nomatch hp]
  ·let:=Th b hb;change @Ne Nat b C;omega
  ·subst z;rcases memC x c e with⟨q,_⟩|⟨q,_⟩
   ·show (f2 c hb).2.2.2.2.1 x c q rfl
   ·let:=Th c hb;omega
 let fr0:∀ b∈fp,upd H2 l (.lst []) b=none:=λb hb=>by rw[a8<|Gg (Th b hb)];show (f2 b hb).1
 let tn4:=T.keep _ _ _ st2 λb _ o e=>Vj b o<|k23 b o e;let loop:codeAny Ĥ X.A (.compLoop (.ListComp elt [#[tg,iter,ifs,(0)]] scope pos) 0 XL (.ref l)<|compEnvC scope cells C X.env) (compPost Ĥ X.A X.xe use Q (.ref l) C) { s3 with heap:=h4 }:=by
  show tD (λn s'=>∃ i σ' H',Inv ĺ [] σ' H' s'/\tn i s'.heap/\(∀ b∈fp,H' b=none)/\W i n σ' H') ?_ m0 #[(0),_,_,I4,tn4,fr0,w0];rintro n s5 ⟨i,σ5,H5,I5,XI,fr5,w5⟩;rcases turn i n σ5 H5 w5 with⟨stop,qn⟩|⟨go,step⟩
  ·show Jx (T.done ĺ rfl rfl rfl (hc _ _ _ _ _) i [] s5 σ5 H5 Vh I5 (stat fr5) XI stop) λr s6 gR=>?_;let#[hr,I6]:=gR;subst hr;let un:=I6.base;let J6:=I3.P1 I6.os un I6.Jk I6.bare λb hb=>#[(f2 b hb).2.2.2.1,(f2 b hb).2.1,(f2 b hb).2.2.2.2.1,(f2 b hb).2.2.2.2.2]
   let#[m6,n6,_]:=I6.loc;let hCX:@Ne Nat C X.env.locals:=by let h1:@LT.lt Nat _ X.env.locals s3.heap.objs.size:=I3.lt;omega
   let hCs:@LE.le Nat _ X.s₀.heap.objs.size C:=by let:=I3.sz;omega
   show fin l C s6 H5 J6 #[#[I6.free,hCX,λz=>?_,.inr hCs,λx c e z=>?_,λp hp z=>?_],hCs,m6,n6] qn
   ·let:=I3.Za<|Nat.le_of_eq hC;show this z
   ·let#[v,iz]:=I3.cell x c e;let h1:@LT.lt Nat _ c s3.heap.objs.size:=iz.lt;let h2:@Eq Nat c C:=z;omega
   ·let h1:@LT.lt Nat _ p.1 s3.heap.objs.size:=FD (I3.pin p hp).1;let h2:@Eq Nat p.1 C:=z;omega
  ·show Jx (T.item ĺ rfl rfl rfl (hc _ _ _ _ _) i [] s5 σ5 H5 Vh I5 (stat fr5) XI go) λr s6 gR=>?_;let#[u,hr,h6]:=gR;subst hr;show Jx h6 λ_ s7 gR=>?_;let#[x,H7,I7,r7,y7,st7,fr7]:=gR;show Jx (hg cells C s3 ŋ fp _ s7 σ5 H7 x u _ (I7.pinned (stat fr7)<|T.obj _ _ st7) r7<|step x H7 y7) λ_ s8 gR=>?_;let#[σ8,H8,I8,q8]:=gR;let again:∀ {H9:Hp}{s9:Ê},Inv ĺ ([]++ni fp s7.heap) σ8 H9 s9->tn (i+1) s9.heap/\∀ b∈fp,H9 b=none:=λ{H9 s9} I9=>by show#[T.keep _ _ _ st7 λb hb o e=>(I9.pin (b,o)<|FH _ (FH _<|g7 hb e)).1,λb hb=>?_];let#[o,e,d]:=T.obj _ _ st7 b hb;show (I9.pin (b,o)<|FH _ (FH _<|g7 hb e)).2.1
   let#[N,NV,hN,hNV,q8]:=q8;show Jx (ht cells C s3 ŋ fp _ s8 σ8 H8 _ I8 q8) λb s9 gR=>?_;let#[H9,I9,q9]:=gR
   cases b with
   | false=>
    rw[if_neg FJ]at q9 ⊢;let#[m',hm,w9]:=hN _ q9;show#[m',hm,i+1,σ8,H9,I9.ME,(again I9).1,(again I9).2,w9]
   | true=>
    rw[if_pos rfl]at q9 ⊢;show Jx (he cells C s3 ŋ fp _ s9 σ8 H9 _ I9 q9) λy s10 gR=>?_;let#[v,H10,I10,r10,q10]:=gR;let#[ys,el,hz,m',hm,w10]:=hNV _ _ q10;show Jx (aH _ s10 σ8 H10 (.ref l) [v] (.ref l) [y] (λz H11=>z=.non/\H11=upd H10 l (.lst<|ys++[v])) I10 rfl (.cons r10 .nil) ⟨l,ys,v,rfl,rfl,el,hz,rfl,rfl⟩) λ_ s11 gR=>?_;let#[_,H11,I11,_,_,e11]:=gR;subst e11;show#[m',hm,i+1,σ8,_,I11.ME,(again I11).1,(again I11).2,w10]
 show codeAny_compStart_list loop (T.self _ 0 _ _ _ tn4 loop)
universe e
section
variable {wi:TI}{nT:Nat}{js:À}{g:TG}{tt:TT}{te:TE}
theorem jr (wi:TI)(nT)(js)(g:TG)(tt:TT)(te):TE:=λσ H Q=>wi σ H (gn nT js g tt te σ λl H'=>Q (.ref l) H')
def BW (hc:∀ cells C s H fp,Cc ģ)(S:bE X scope nT js N')(hi:PI0 Cc X tg iter wi)(hg)(ht)(he)(hs):PE X (.ListComp elt [#[tg,iter,ifs,(0)]] scope pos) (jr wi nT js g tt te):=by intro ñ s σ H Q I h;show ww hc S hi hg ht he I h (λl C s' H' I' gR q=>?_) hs;let#[f,_,m,n]:=gR;show#[m,n,λh' sb=>#[.ref l,H',?_,1,q]];show I'.turned Ũ f.1 f.2.1 f.2.2.2.1 f.2.2.2.2.1 f.2.2.2.2.2
def eL (hc)(S:bE X scope nT js N')(hi:PI X tg iter wi)(hg)(ht)(he)(hs):PE X (.ListComp elt [#[tg,iter,ifs,(0)]] scope pos) (jr wi nT js g tt te):=BW (λ_ _ _ _ _=>hc) S hi hg ht he hs
def uK (hN)(Q3:X.N[i]?=!x)(hx:X.env.scope.names.lookup x=!.local)(hc:∀ cells C s H fp,Cc ģ)(S:bE X scope nT js N')(hi:PI0 Cc X tg iter wi)(hg)(ht)(he)(hsw)(hs):PS X (.Assign [.Name x pos'] (.ListComp elt [#[tg,iter,ifs,(0)]] scope pos) SE) (jt (jr wi nT js g tt te) (bU i)):=by
 intro ñ s σ H D I h;rw[exec_Assign_Name_used _ _ _ _ hsw];show EX<|IX (EX ?_);show EX<|GF (ww hc S hi hg ht he I h (λl C s' H' I' gR q=>?_) hs) (λ_ s' hq=>Ff<|Ff hq) λ_ _ e=>e;let#[f,sz,m,n]:=gR;show wpAny_assign_Name<|pW I' hN Q3 (.inl hx) (v:=.ref l) rfl (λUg I'' gR=>?_) (.inr hx);let#[a,sb,ha]:=gR;let hCa:C≠a:=by
  rcases ha with rfl|ha
  ·show f.2.1
  ·show λz=>f.2.2.2.2.1 x a ha z.symm
 show#[m,n.sameBut sb hCa,λh' sb'=>#[_,H',?_,q]];show I''.turned (λb o hb e=>(sb'.2 b hb).trans e) f.1 f.2.1 f.2.2.2.1 f.2.2.2.2.1 f.2.2.2.2.2
def aO (hN)(Q3:X.N[i]?=!x)(hx:X.env.scope.names.lookup x=!.local)(hc)(S:bE X scope nT js N')(hi:PI X tg iter wi)(hg)(ht)(he)(hsw)(hs):PS X (.Assign [.Name x pos'] (.ListComp elt [#[tg,iter,ifs,(0)]] scope pos) SE) (jt (jr wi nT js g tt te) (bU i)):=uK hN Q3 hx (λ_ _ _ _ _=>hc) S hi hg ht he hsw hs
universe e
def r8 {K:Ψ}(Pv:Addr->Nat->Ø)(h0:∀ l,H1 l=none->Pv l 0 (upd H1 l (.lst [])))(hl:∀ l i H,i<=xs.length->Pv l i H->Jq K H a xs)(hs:∀ l i x H,xs[i]?=!x->Pv l i H->tt (some x::js.map λj=>(σ[j]?).join) H λb H4=>
   if b=true then te (some x::js.map λj=>(σ[j]?).join) H4 λv H5=>∃ ys,H5 l=!.lst ys/\ys.length<sizeLine/\Pv l (i+1) (upd H5 l (.lst (ys++[v]))) else Pv l (i+1) H4)(hd:∀ l H,Pv l xs.length H->F l H):gn 1 js (bU 0) tt te σ F (Vy K a) H1:=by
 intro l XT;show#[λi m σ' H=>m=xs.length - i/\i<=xs.length/\(∃ o,σ'=o::js.map λj=>(σ[j]?).join)/\Pv l i H,#[xs.length,by simp,FR _,#[none,1],h0 l XT],?_];rintro i m σ' H ⟨rfl,hi,⟨o,rfl⟩,p⟩;let q:=hl l i H hi p;by_cases Ml:i<xs.length
 ·show .inr #[#[xs,xs[i],q,by simp],λx H2 y=>?_];let#[e,y]:=y;subst e;show#[Pv l<|i+1,λv H5=>∃ ys,H5 l=!.lst ys/\ys.length<sizeLine/\Pv l (i+1) _,λH4 p4=>#[xs.length - (i+1),#[],1,Ml,#[!x,1],p4],
   λv H5 gR=>(by let#[ys,e1,e2,p5]:=gR;show#[ys,e1,e2,xs.length - (i+1),#[],1,Ml,#[!x,1],p5]),hs l i x _ (y xs q) p]
 ·let e:i=xs.length:=#[]
  subst e;show .inl #[#[xs,q,Fg _],hd l H p]
section
variable {X:Cx}
def Dj:JG X (.builtin "isinstance") (λxs H Q=>∃ x t T b,xs=[x,.ty T]/\jS X.K H x t/\W.kitOne X.K t (.type T)=!b/\Q (.bl b) H):=by
 intro ñ s σ H xs us Q I r h;let#[x,t,T,b,1,ty,e,q]:=h;let#[u,w',1,r1,r2]:=Bm r
 cases r2;show AC I r1 ty e λtk=>#[.bl b,H,I.tok tk,1,q]
def cv:bootBuiltins "isinstance"=!.builtin "isinstance":=by decide +kernel
def oM:bootBuiltins "sum"=!.builtin "sum":=by decide +kernel
def kW (hc):JG X (.builtin "sum") (λxs H Q=>∃ (p:Addr)(ns:Ξ),xs=[.ref p]/\Jq X.K H p ş/\Q (.int ns.sum) H):=by
 intro ñ s σ H xs us Q I r h;let#[p,ns,1,hq,q]:=h;let#[u,1,r1]:=dD r
 cases r1;let#[its,rv,pl,hz]:=I.list hq;let hi:=xU rv;let#[xs,hx]:=hi.allInts.items;let hl':=hx▸pl.isList;show sum_intListG Ŋ hl' λh' tk t' hk=>?_;let e1:ns=xs.toList.map (·.1):=by rw[<- nums_intItems,<- hx];show (hi.numsOf).symm
 let e2:preSum (numAt xs) xs.size=ns.sum:=by rw[preSum_eq,GL<|by simp,e1]
 rw[e2];show#[.int ns.sum,H,I.kept hk,#[_,1],q]
structure S9 (K:Ψ) {α:Type} [DecidableEq α] (R:Hp->V->α->Prop) (k:Nat):Prop where
 eq:∀ (X:Cx)(A:Ë)(ñ:ζ)(s:Ê)(σ:St)(H:Hp)(x y:V)(v u:Value)(a b:α),X.K=K->Inv X ñ σ H s->RelV x v->RelV y u->R H x a->R H y b->A.units+k<cLine->SeqAt.EqAt A s v u (decide (a=b))
 fn:∀ (X:Cx)(ñ:ζ)(s:Ê)(σ:St)(H:Hp)(x:V)(a b:α),X.K=K->Inv X ñ σ H s->R H x a->R H x b->a=b
theorem Og:Hp->V->Int->Prop:=λ_ x n=>x=.int n
def gf {K:Ψ}:S9 K Og 0 where
 eq:=by
  intro X A ñ s σ H x y v u a b _ I rx ry ha hb _
  cases ha
  cases hb;let#[t,1]:=rx;let#[t',1]:=ry;let#[e,h1,h2]:=HT.Ti A s a t b t';let:e=decide (a=b):=by rw[Go,h2,He]
  simp_all
 fn:=by
  intro X ñ s σ H x a b _ I ha hb
  cases ha
  cases hb;rfl
theorem b7 (K){α:Type}(R:Hp->V->α->Prop):Hp->V->List α->Prop:=λH x as=>∃ p vs,x=.ref p/\Jq K H p vs/\Paired (R H) vs as
def Paired.at:∀ {l₁:List α}{l₂:List β}{i:Nat}{a:α},Paired F l₁ l₂->l₁[i]?=!a->∃ b,l₂[i]?=!b/\F a b:=by
 intro l m i a h
 induction h generalizing i with
 | nil=>intro e;simp at e
 | cons r t ih=>
  intro e
  cases i with
  | zero=>simp_all
  | succ i=>show ih (by simpa using e)
def Vals.at' {i:Nat}(r:Vals xs us)(h:us[i]?=!u):∃ x,xs[i]?=!x/\RelV x u:=by
 let hl:=r.length;let hi:=(EY.mp h).1;let e:xs[i]?=some xs[i]:=by simp
 let#[u',h1,h2]:=r.get e
 simp_all
def lx {F:α->β->Prop}(f:∀ a b c,F a b->F a c->b=c):∀ {l:List α}{m n:List β},Paired F l m->Paired F l n->m=n:=by
 intro l m n h
 induction h generalizing n with
 | nil=>intro h;cases h;rfl
 | cons r t ih=>intro h;cases h with|cons r' t'=>rw[f _ _ _ r r',ih t']
section
variable {K:Ψ}{α:Type}[DecidableEq α]{R:Hp->V->α->Prop}{k:Nat}
def yW (h:S9 K R k){X:Cx}{as bs:List α}(hK:X.K=K)(I)(ha:b7 K R H x as)(hb:b7 K R H x bs):as=bs:=by
 let#[p,vs,1,h1,h2]:=ha;let#[q,ws,e,h3,h4]:=hb
 cases e;subst hK;let:=I.MK h1 h3;subst this;show lx (λa b c=>h.fn X ñ s σ H a b c rfl I) h2 h4
def j8 (h:S9 K R k){X:Cx}{as bs:List α}(hK:X.K=K)(I)(r1:Vals vs its)(r2:Vals ws Mj)(p1:Paired (R H) vs as)(p2:Paired (R H) ws bs)(hl:its.length=Mj.length)(hu:A.units+k<cLine):
  (∀ j (h1:j<its.toArray.size) (h2:j<Mj.toArray.size),SeqAt.EqAt A s its.toArray[j] Mj.toArray[j] (decide (as[j]?=bs[j]?)))/\(List.range its.toArray.size).all (λj=>decide (as[j]?=bs[j]?))=decide (as=bs):=by
 let l1:=r1.length;let l2:=r2.length;let l3:=Paired.length p1;let l4:=Paired.length p2;show#[λj h1 h2=>?_,?_]
 ·let#[x,ex,rx]:=r1.at' (i:=j) (u:=its[j]) Ğ;let#[y,ey,ry]:=r2.at' (i:=j) (u:=Mj[j]) Ğ;let#[a,ea,ra]:=Paired.at p1 ex;let#[b,eb,rb]:=Paired.at p2 ey;let:=h.eq X A ñ s σ H x y _ _ a b hK I rx ry ra rb hu
  simp_all
 ·rw[GW,Go,GI,He];constructor
  ·intro hh;apply HF
   grind
  ·rintro rfl i _;show EZ rfl
def h8 (h:S9 K R k):S9 K (b7 K R) (k+1) where
 eq:=by
  intro X A ñ s σ H x y v u as bs hK I rx ry ha hb hu;by_cases hxy:x=y
  ·subst hxy;let e:=yW h hK I ha hb;subst e;let#[p,vs,1,h1,h2]:=ha
   cases rx
   cases ry;rw[EZ rfl];show SeqAt.EqAt.same _
  ·let#[p,vs,1,h1,h2]:=ha;let#[q,ws,1,h3,h4]:=hb
   cases rx
   cases ry;let Sg:p≠q:=λe=>hxy (by rw[e]);subst hK;let#[its,r1,pl,hz]:=I.list h1;let#[Mj,r2,Vd,RQ]:=I.list h3;show SeqAt.EqAt.of_refs Sg ?_;let l1:=r1.length;let l2:=r2.length;let l3:=Paired.length h2;let l4:=Paired.length h4;by_cases hl:its.length=Mj.length
   ·let#[e1,e2]:=j8 (A:=A.in1) h rfl I r1 r2 h2 h4 hl #[];rw[<- e2];show SeqAt.RcAt.lists pl.isList Vd.isList (hl) #[] e1
   ·let:decide (as=bs)=false:=by
     grind
    rw[this];show SeqAt.RcAt.lists_lengths pl.isList Vd.isList Ľ #[]
 fn:=λX ñ s σ H x as bs hK I ha hb=>yW h hK I ha hb
universe e
def xh [DecidableEq α]{R:Hp->V->α->Prop}(h:S9 X.K R k)(hu:X.A.units+(k+1)<cLine):Kz X (compareOp .Eq) (λx y H Q=>∃ as bs,b7 X.K R H x as/\b7 X.K R H y bs/\Q Ŭ H):=by
 intro ñ s σ H x y v u Q I rx ry hw;let#[as,bs,ha,hb,q]:=hw;let#[p,vs,1,h1,h2]:=ha;let#[p',ws,1,h3,h4]:=hb
 cases rx
 cases ry;let#[its,r1,pl,hz]:=I.list h1;let#[Mj,r2,Vd,RQ]:=I.list h3;let l1:=r1.length;let l2:=r2.length;let l3:=Paired.length h2;let l4:=Paired.length h4;by_cases hl:its.length=Mj.length
 ·let#[e1,e2]:=j8 (A:=X.A.in1) h rfl I r1 r2 h2 h4 hl #[];show SeqAt.eq_listAt pl.isList Vd.isList (hl) #[] e1 ?_;rw[e2];show#[.bl _,H,I,1,q]
 ·let:decide (as=bs)=false:=by
   grind
  rw[this]at q;show SeqAt.eq_list_lengthsAt pl.isList Vd.isList Ľ #[] #[.bl _,H,I,1,q]
def xg [DecidableEq α]{R:Hp->V->α->Prop}(h:S9 X.K R k)(hu:X.A.units+(k+1)<cLine):Kz X (compareOp .NotEq) (λx y H Q=>∃ as bs,b7 X.K R H x as/\b7 X.K R H y bs/\Q ŏ H):=by
 intro ñ s σ H x y v u Q I rx ry hw;let#[as,bs,ha,hb,q]:=hw;let#[p,vs,1,h1,h2]:=ha;let#[p',ws,1,h3,h4]:=hb
 cases rx
 cases ry;let#[its,r1,pl,hz]:=I.list h1;let#[Mj,r2,Vd,RQ]:=I.list h3;let l1:=r1.length;let l2:=r2.length;let l3:=Paired.length h2;let l4:=Paired.length h4;by_cases hl:its.length=Mj.length
 ·let#[e1,e2]:=j8 (A:=X.A.in1) h rfl I r1 r2 h2 h4 hl #[];show SeqAt.RcNeAt.lists pl.isList Vd.isList (hl) #[] e1 X.prog X.w X.xe _ ?_;rw[e2];show#[.bl _,H,I,1,q]
 ·let:decide (as=bs)=false:=by
   grind
  rw[this]at q;show SeqAt.RcNeAt.lists_lengths pl.isList Vd.isList Ľ #[] X.prog X.w X.xe _ #[.bl _,H,I,1,q]
universe e
theorem Df (P)(w)(K)(mg)(base)(k:Nat)(x)(ps)(sp):Prop:=
 ∃ f fd,mg x=!.ref f/\W.keepIn K (.ref f)=true/\Binds K fd ps []/\Jy P w K mg base Ky k f fd ps sp
theorem Dm (P)(w)(K)(mg)(base)(k:Nat)(C)(m:Str)(ps)(sp):Prop:=
 ∃ f fd,MZ K C/\ye K C m f/\Binds K fd ps []/\Jy P w K mg base Ky k f fd ps sp
theorem Dk (P)(w)(K)(mg)(base)(k:Nat)(x)(C)(ps)(sp):Prop:=
 ∃ f fd,mg x=!.ref C/\Mk K C f/\Binds K fd ps []/\Jy P w K mg base Ky k f fd ps sp
def aZ (D:Df X.prog X.w X.K X.mg X.base k x ps sp)(hr)(hg:Gl X x)(ha:PA X (e::es) t)(Mm)(he:Ĕ X e es:=Ą)(LM):
  PE X Ģ (yq sp [] E0 t):=by
 let#[f,fd,hm,kp,b,F]:=D;show yJ F hr hg hm kp b .nil lv ha Mm he LM
def bI (he:PE X o ta)(D:Dm X.prog X.w X.K X.mg X.base k C m ps sp)(hr)(ha:PA X (e::es) t)(Pm)(LM)(ht:eval (.Call Ĭ (e::es) [] pos) X.env=(do
   let ov <- eval o X.env
   standAt apos.atName
   let (f,first) <- holding [ov] Ŝ
   callWith pos f first (backTo pos Ÿ) Ĵ):=Ą):
  PE X (.Call Ĭ (e::es) [] pos) (pU C m sp [] E0 ta t):=by
 let#[f,fd,cl,hm,b,F]:=D;show yG he cl hm F hr b .nil lv ha Pm LM ht
def gV (D:Dk X.prog X.w X.K X.mg X.base k x C ps sp)(hr:Jn (k+1) X.A)(hg:Gl X x)(ha:PA X (e::es) t)(Mm)(he:Ĕ X e es:=Ą)(LM):
  PE X Ģ (yo C sp [] E0 t):=by
 let#[f,fd,hm,M,b,F]:=D;show E6 M F hr hg hm b .nil lv ha Mm he LM
theorem Kk (K)(x ğ:Str)(st):Prop:=∃ f fd,W.nsIn K mainGlobals x=!some (.ref f)/\MN K x ğ st f fd
def au {K:Ψ}{st:Stmt}{kV:Value}(a)(l:K.lookup f=some #[oc,od,.func ĩ,KR])(c)(k:W.keepIn K (.ref f)=true):Kk K x ğ st:=#[f,_,a,sZ l c k]
theorem O9 (K)(C)(m ğ:Str)(st):Prop:=∃ f fd,ye K C m f/\MN K m ğ st f fd
def bb {K:Ψ}{st:Stmt}{kV:Value}(a:W.findIn K (.ref C) m=!some (.ref f))(i:W.isFn K (.ref f)=true)(l:K.lookup f=some #[oc,od,.func (W.fnOf m ğ (aP st) (ay st) (aa st) .none kV doc pm an J7 ct),KR])(c)(k:W.keepIn K (.ref f)=true):O9 K C m ğ st:=#[f,_,#[a,i,k],sZ l c k]
def aQ (e:f' H H2)(h:H2 T=Option.none):f' H (upd H2 T o):=λb u hb=>by rw[a8<|ao (e b u hb) h];show e b u hb
def aY (e:f' H H2)(h:H T=Option.none):f' H (upd H2 T o):=λb u hb=>by rw[a8<|ao hb h];show e b u hb
def Paired.NO (r:Paired F l₁ l₂)(h:F a b):Paired F (l₁++[a]) (l₂++[b]):=Paired.snoc r h
def xB {xs:Ξ}{i:Nat}(h:(xs.map V.int)[i]?=!x):∃ a,xs[i]?=!a/\x=.int a:=by
 rw[Fb]at h
 cases e:xs[i]? with
 | none=>rw[e]at h;cases h
 | some z=>simp_all
section
variable {js:À}{σ:St}
abbrev a0R (σ:St)(js:À):St:=js.map λj=>(σ[j]?).join
universe e
section
variable (K:Ψ)
def xP (h):RB X (DZ K):=h▸yT
def WK (h):RB X (DY K):=h▸CB
def sw (hl:PE X l tl)(h):PI X tg l (Vm K tl):=h▸yE hl
def W4 {x1:Nat}(hg:Gl X "zip")(hm:X.mg "zip"=none)(ha:PA X [e1,e2] ta)(h)(hs:ě X e1 e2:=Ą)(PZ):
  PI X ŝ Ty (Zs K ta):=h▸BP hg hm ha hs PZ
def bX (hc)(hh:PGs X es t)(h)(hn:(assignEach es X.env).length=n:=Ą)(Pm:(assignEach es X.env).findIdx? (·.1)=none:=Ą):PG X (.Tuple es k pos) (AI K n t):=h▸W6 hc hh hn Pm
def Zj (h):JG X KK L9:=h▸O2
def Eu (h):JG X (.builtin "isinstance") (λxs H Q=>∃ x t T b,xs=[x,.ty T]/\jS K H x t/\W.kitOne K t (.type T)=!b/\Q (.bl b) H):=h▸Dj
def vX (he:PE X e ta)(hb:attributeBase e f X.env (eval e X.env)=eval e X.env)(h):PE X (.Attribute e f pos) (Yw K ta f):=h▸BU he hb
def Zi (h):JG X Ş (λxs H Q=>∃ p ys,xs=[.ref p]/\(Jq K H p ys\/LQ K H p ys)/\∀ l,H l=none->Q (.ref l) (upd H l (.lst ys))):=h▸tF
def a4W {id:String}(pa)(slot)(Uw)(hm:MtR X id r)(ho:PE X o to)(h)(Lu)(Md):PE X (.Call (.Attribute o name apos) [] [] JI) (VO K T r to):=h▸W' pa slot Uw hm ho Lu Md
def P2 {id:String}(pa)(slot)(Uw)(hm:MtR X id r)(ho:PE X o to)(ha:PA X (e::es) t)(h)(Lu)(Td:((backTo JI Ÿ).all (λx=>not x.1)&&(backToKw JI Ĺ).all (λx=>x.1.isSome)
   && decide ((e::es).length+([]:List Keyword).length+ŧ<30))=true:=Ą)(Md)(hs:Ĕ X e es:=Ą)(OY):
  PE X (.Call (.Attribute o name apos) (e::es) [] JI) (tBM K T r to t):=h▸YZ pa slot Uw hm ho ha Lu Td Md hs OY
universe e
theorem a2w (c:TT)(t u:TS):TS:=λD σ H=>∃ J:Υ,(∀ σ' H',J σ' H'->D.nx σ' H')/\c σ H λb H1=>if b=true then t { D with nx:=J } σ H1 else u { D with nx:=J } σ H1
def su (hc:PT X c tc)(ha:Nj X a t)(hb:Nj X b u):PS X (.If c a b pos) (a2w tc t u):=by
 intro ñ s σ H D I h;let#[J,hJ,h]:=h;show Jx (gw hc ha hb ñ s σ H { D with nx:=J } I h) λf s1 q=>?_
 cases f with
 | next=>let⟨σ',H',I',q⟩:=q;show#[σ',H',I',hJ _ _ q]
 | brk=>show q
 | cont=>show q
 | ret v=>show q
section
variable {t:TA}
theorem Lj (H)(o:HO)(Q):Prop:=∀ p H2,f' H H2->H p=none->H2 p=!o->Q (.ref p) H2
def Lj.at (h:Lj H o Q)(hp:H p=none):Q (.ref p) (upd H p o):=h p _ (aQ Ĩ hp) hp af
theorem Yq (t:TA):TE:=λσ H Q=>t σ H λxs H1=>xs.length<=sizeLine/\Lj H1 (.tup xs) Q
theorem Yv (t:TA):TE:=λσ H Q=>t σ H λxs H1=>xs.length<=sizeLine/\Lj H1 (.lst xs) Q
def eJ {x1}(h:PA X es t):PE X (.Tuple es x1 pos) (Yq t):=by intro ñ s σ H Q I hq;show wpAny_Tuple_spliced<|Jx (h pos ñ s σ H _ I hq) fun us s1 ⟨xs,H1,I1,r,z,q⟩=>#[by rw[<- r.length];show z,?_];let hf:=I1.Jk.fresh<|Fg _;show⟨.ref s1.heap.objs.size,upd H1 s1.heap.objs.size _,I1.laid (λb u e=>Fc _ e) (Fg _) ?_,rfl,q.at hf⟩;show#[z,us,r,#[_,Fx _ rfl,1,_,1]]
def eK (h:PA X es t):PE X (.List es pos) (Yv t):=by intro ñ s σ H Q I hq;show wpAny_List_spliced<|Jx (h pos ñ s σ H _ I hq) fun us s1 ⟨xs,H1,I1,r,z,q⟩=>#[by rw[<- r.length];show z,?_];let hf:=I1.Jk.fresh<|Fg _;show⟨.ref s1.heap.objs.size,upd H1 s1.heap.objs.size _,I1.laid (λb u e=>Fc _ e) (Fg _) ?_,rfl,q.at hf⟩;show#[z,us,(0),r,Fx _ rfl]
def Kz.imp (h:Kz X f r)(k:∀ x y H Q,r' x y H Q->r x y H Q):Kz X f r':=λñ s σ H x y v u Q I rx ry q=>h ñ s σ H x y v u Q I rx ry (k _ _ _ _ q)
def Yb.imp (h:Yb X r)(k:∀ x l u H Q,r' x l u H Q->r x l u H Q):Yb X r':=λñ s σ H x v vl vu lo hi sl Q I rx hs pl pu q=>h ñ s σ H x v vl vu lo hi sl Q I rx hs pl pu (k _ _ _ _ _ q)
def JG.imp (h:JG X f r)(k:∀ xs H Q,r' xs H Q->r xs H Q):JG X f r':=λñ s σ H xs us Q I rx q=>h ñ s σ H xs us Q I rx L6
theorem V9:R2:=λx y H Q=>∃ l b xs zs,x=.ref l/\y=.ref b/\H l=!.lst xs/\H b=!.lst zs/\xs.length+zs.length<=sizeLine/\Lj H (.lst (xs++zs)) Q
def yN:Kz X (binaryOp .Add) V9:=Wb.imp λ_ _ _ _ gR=>by let#[l,b,xs,zs,h1,h2,h3,h4,h5,q]:=gR;show#[l,b,xs,zs,h1,h2,h3,h4,h5,λ_ hp=>q.at hp]
theorem YL (K):V->Option Int->Option Int->Hp->VK->Prop:=λx lo hi H Q=>∃ a xs,x=.ref a/\Jq K H a xs/\Lj H (.lst (pH xs lo hi)) Q
def YB (K)(h):Yb X (YL K):=by subst h;show Ue.imp λ_ _ _ _ _ gR=>by let#[a,xs,h1,h2,q]:=gR;show#[a,xs,h1,h2,λ_ hp=>q.at hp]
def listS (K)(h):JG X Ş SC:=
 (Zi K h).imp λ_ _ _ gR=>by let#[p,ys,h1,h2,q]:=gR;show#[p,ys,h1,h2,λ_ hp=>q.at hp]
universe e
def sV (hr:Jn k A)(h:n<=64:=ö):A.units+n<cLine:=HW (Nat.add_le_add_left h _) hr.units
theorem bc (l:Addr)(H):Hp:=λb=>if b=l then none else H b
def bv (h:b≠l):bc l H b=H b:=if_neg h
def JH:f' (bc l H) H:=λb o h=>by
 grind [bc,bv]
def kP (e):f' (bc l H) (bc l H'):=λb o h=>by
 by_cases q:b=l
 ·grind [bc]
 ·rw[bv q]at h ⊢;show e _ _ h
def d8:bc l (upd H l o)=bc l H:=by
 funext b;by_cases q:b=l
 ·rw[bc,bc,if_pos q,if_pos q]
 ·rw[bv q,bv q,a8 q]
def kq (e)(h:H l=none):f' H (bc l H'):=λb o hb=>by rw[bv<|ao hb h];show e _ _ hb
theorem Oa (P)(w):RD:=λouter H s E e s'=>∃ (ea:Addr)(cls a0:Value)(B:Heap)(H':Hp)(od:ψ),e=.ref ea/\s'.os=s.os/\AllBare s'.gens/\Un (Oo outer) [] H H' s.heap s'.heap/\MD P w H' s'.heap/\H' ea=none/\s.heap.get? ea=none/\
 Heap.FlyingW B outer ea cls a0 s'.heap/\(∀ b o,s'.heap.get? b=!o->b∉Oo outer->B.get? b=none->s.heap.get? b=none/\H' b=none)/\E cls od H'
def MD.gone (x:MD P w H h)(n:h.get? a=none):H a=none:=by
 cases q:H a with
 | none=>rfl
 | some v=>
  let#[o,e]:=eQ<|x a v q;rw[n]at e;cases e
def Inv.was (I)(nx:b∉X.ex)(n:s.heap.get? b=none):X.s₀.heap.get? b=none:=by
 cases q:X.s₀.heap.get? b with
 | none=>rfl
 | some o=>
  let#[o',e]:=I.base.there b o q nx;rw[n]at e;cases e
def VD {B:Heap}(u:Un fs [] H H' h h1)(Jk:MD P w H' h1)(Y3:B.StaysIn h1)(hB2)(up:h1.UpToSlots h2)(hfr:∀ b∈fs,∃ o,h1.get? b=!o/\∀ vs,o.data≠.fields vs)(Tg:∀ b∈fs,H' b=none)(old:∀ b o,h1.get? b=!o->b∉fs->B.get? b=none->h.get? b=none/\H' b=none):
  Un fs [] H H' h h2/\MD P w H' h2/\∀ b o,h2.get? b=!o->b∉fs->B.get? b=none->h.get? b=none/\H' b=none:=by
 let in1:∀ b o,h1.get? b=!o->b∉fs->(h.get? b≠none\/H' b≠none)->h2.get? b=!o:=λb o e hb hn=>by
  cases q:B.get? b with
  | none=>
   let z:=old b o e hb q;rcases hn with hn|hn
   ·show absurd z.1 hn
   ·show absurd z.2 hn
  | some o2=>
   let:=Y3 b o2 q;rw[e]at this
   cases this;show hB2 b _ q
 let slots:∀ b o,h1.get? b=!o->b∈fs->∃ sl,h2.get? b=!{ o with slots:=sl }:=λb o e hb=>by
  let#[o',e',hd]:=hfr b hb;rw[e]at e'
  cases e';show up b o e hd
 show#[#[λb o e n hb hx=>?_,λb o e n hb hx=>?_,u.free,λb o e hx=>?_,u.OS,u.Om],λa v e=>?_,λb o e hb hB=>#[?_,?_]]
 ·show in1 b o (u.keep b o e n hb hx) hb (.inl (by rw[e];show λz=>nomatch z))
 ·let#[sl,e1]:=u.slot b o e n hb hx;let#[YC,e2]:=slots b _ e1 hb;show#[YC,e2]
 ·let#[o',e1]:=u.there b o e hx;by_cases hb:b∈fs
  ·let#[sl,e2]:=slots b o' e1 hb;show#[_,e2]
  ·show#[o',in1 b o' e1 hb (.inl (by rw[e];show λz=>nomatch z))]
 ·show (Jk a v e).Kr (λc v' hc q=>in1 c v' q (λz=>?_) (.inr ?_)) (λ_ q=>q) λ_ _ q=>q
  ·let:=Tg c z;rcases hc with rfl|hc
   ·rw[e]at this;cases this
   ·rw[hc]at this;cases this
  ·rcases hc with rfl|hc
   ·rw[e];show λz=>nomatch z
   ·rw[hc];show λz=>nomatch z
 ·cases q:h.get? b with
  | none=>rfl
  | some o'=>
   let#[o2,e2]:=u.there b o' q Ğ;let:=(old b o2 e2 hb hB).1;rw[q]at this;cases this
 ·cases q:H' b with
  | none=>rfl
  | some v=>
   let#[o2,e2]:=eQ<|Jk b v q;let:=(old b o2 e2 hb hB).2;rw[q]at this;cases this
structure Own (X:Cx):Prop where
 R9:X.stack=X.env::X.outer
 frm:X.env.frame=!X.env.locals
 exs:X.ex=[]
def Own.Oo (O:Own X):L2.Oo X.stack=X.env.locals::X.fs:=by rw[O.R9];unfold L2.Oo;rw[HR,O.frm];rfl
def uj {B:Heap}(O:Own X)(I)(Y3:B.StaysIn s.heap)(hB2)(up:s.heap.UpToSlots h2)(old:∀ b o,s.heap.get? b=!o->b∉Oo X.stack->B.get? b=none->X.s₀.heap.get? b=none/\H b=none):
  Un X.fs [] X.H₀ H X.s₀.heap h2/\MD X.prog X.w H h2/\∀ b o,h2.get? b=!o->b∉X.fs->B.get? b=none->X.s₀.heap.get? b=none/\H b=none:=by
 let XN:∀ b o,X.s₀.heap.get? b=!o->b≠X.env.locals:=λb o e=>Gg<|FY (FD e) I.ok.above;let SN:∀ b,b≠X.env.locals->b∉X.fs->b∉Oo X.stack:=λb h1 h2 z=>by
  rw[O.Oo]at z;rcases Fv.mp z with z|z
  ·show h1 z
  ·show h2 z
 let in1:∀ b o,s.heap.get? b=!o->b∉Oo X.stack->(X.s₀.heap.get? b≠none\/H b≠none)->h2.get? b=!o:=λb o e hb hn=>by
  cases q:B.get? b with
  | none=>
   let z:=old b o e hb q;rcases hn with hn|hn
   ·show absurd z.1 hn
   ·show absurd z.2 hn
  | some o2=>
   let:=Y3 b o2 q;rw[e]at this
   cases this;show hB2 b _ q
 let slots:∀ b o,s.heap.get? b=!o->b∈X.fs->∃ sl,h2.get? b=!{ o with slots:=sl }:=λb o e hb=>by
  let#[_,o',e',hd]:=I.Nr.mem hb;rw[e]at e'
  cases e';show up b o e hd
 let nx:∀ b,b∉X.ex:=λb=>by rw[O.exs];simp
 show#[#[λb o e n hb hx=>?_,λb o e n hb hx=>?_,λb o e n hx=>I.base.free b o e n<|nx b,λb o e hx=>?_,I.base.OS,I.base.Om],λa v e=>?_,λb o e hb hB=>#[?_,?_]]
 ·show in1 b o (I.base.keep b o e n hb<|nx b) (SN b (XN b o e) hb) (.inl (by rw[e];show λz=>nomatch z))
 ·let#[sl,e1]:=I.base.slot b o e n hb<|nx b;let#[YC,e2]:=slots b _ e1 hb;show#[YC,e2]
 ·let#[o',e1]:=I.base.there b o e<|nx b;by_cases hb:b∈X.fs
  ·let#[sl,e2]:=slots b o' e1 hb;show#[_,e2]
  ·show#[o',in1 b o' e1 (SN b (XN b o e) hb) (.inl (by rw[e];show λz=>nomatch z))]
 ·show (I.Jk a v e).Kr (λc v' hc q=>in1 c v' q (λz=>?_) (.inr ?_)) (λ_ q=>q) λ_ _ q=>q
  ·let:=I.NN c z;rcases hc with rfl|hc
   ·rw[e]at this;cases this
   ·rw[hc]at this;cases this
  ·rcases hc with rfl|hc
   ·rw[e];show λz=>nomatch z
   ·rw[hc];show λz=>nomatch z
 ·cases q:X.s₀.heap.get? b with
  | none=>rfl
  | some o'=>
   let#[o2,e2]:=I.base.there b o' q<|nx b;let:=(old b o2 e2 (SN b (XN b o' q) hb) hB).1;rw[q]at this;cases this
 ·cases q:H b with
  | none=>rfl
  | some v=>
   let#[o2,e2]:=eQ<|I.Jk b v q;let nf:b∉Oo X.stack:=λz=>by rw[I.NN b z]at q;cases q
   let:=(old b o2 e2 nf hB).2;rw[q]at this;cases this
def xK (O:Own X)(I)(he:s.heap.get? ea=!oe)(hd:oe.data=.fields vs)(h0:vs[0]?=!a0)(h1:vs[1]?=!.none)(hH:H ea=none)(hs0:X.s₀.heap.get? ea=none)(h:E oe.cls oe.dict H):
  wpAny X.Ę X.A (leaving X.env (.ref ea)) (λ_ Ug=>Oa X.prog X.w X.outer X.H₀ X.s₀ E (.ref ea) Ug) E2 s:=by
 let hl:s.heap.FunFrames (W.hideAll s.heap<|ea::Oo X.stack) X.stack:=W.funFrames_hide I.stack λenv he b hb=>Fp _<|List.mem_filterMap.mpr #[env,he,hb];let Y3:(W.hideAll s.heap<|ea::Oo X.stack).StaysIn s.heap:=λb o q=>W.of_hideAll _ q;let hB:(W.hideAll s.heap<|ea::Oo X.stack).get? ea=none:=W.hideAll_none _<|Fw ..;show wpAny_leaving_firstW (by rw[I.ok.frames,O.R9]) (by rw[O.R9]at hl ⊢;show hl) O.frm he Y3 hB hd h1 h0 λRy gR=>?_;let#[k1,#[_,_,k2],k3,k4]:=gR;let#[u,Jk,old]:=uj O I Y3 k1 k4 (λb o e hb hBb=>by
  by_cases Uz:b=ea
  ·rw[Uz];show#[hs0,hH]
  ·rw[W.hideAll_get _ e λz=>(Fv.mp z).elim Uz hb]at hBb;cases hBb)
 show#[ea,_,a0,_,H,_,1,I.os,I.bare,u,Jk,hH,hs0,#[k1,hB,k2,k3],old,h]
def Cy (O:Own X)(I:Inv X ñ σ Hc s)(h:Oa X.prog X.w X.stack Hc s E e s'):
  wpAny X.Ę X.A (leaving X.env e) (λ_ Ug=>Oa X.prog X.w X.outer X.H₀ X.s₀ E e Ug) E2 s':=by
 let#[ea,cls,a0,B,H',od,1,os,bare,u,Jk,Rv,hsc,fl,old,hE]:=h;let I1:=I.P1 os u Jk bare λb z=>absurd z Ğ;let none_of:∀ b,s.heap.get? b=none->X.s₀.heap.get? b=none:=λb=>I.was (by rw[O.exs];simp);show wpAny_leaves_onW (by rw[I.ok.frames,O.R9]) O.frm (O.R9▸fl) λRy fl2 up=>?_;let#[u2,a3H,a2X]:=uj O I1 fl.1 fl2.1 up (λb o e hb hB=>let ⟨z1,z2⟩:=old b o e hb hB;#[none_of b z1,z2]);show#[ea,cls,a0,B,H',od,1,I1.os,I1.bare,u2,a3H,Rv,none_of ea hsc,fl2,a2X,hE]
theorem rB (X)(W:St->XK):Prop:=∀ (ñ:ζ)(σ:St)(H:Hp)(s:Ê)(e:Value)(s':Ê),Inv X ñ σ H s->Oa X.prog X.w X.stack H s (W σ) e s'->X.xe e s'
theorem tO (X)(W:St->XK):Prop:=∀ (ñ:ζ)(σ:St)(H:Hp)(s:Ê)(ea:Addr)(oe:Obj)(vs:Ò)(a0:Value),Inv X ñ σ H s->s.heap.get? ea=!oe->oe.data=.fields vs->vs[0]?=!a0->vs[1]?=!.none->H ea=none->X.s₀.heap.get? ea=none->W σ oe.cls oe.dict H->X.xe (.ref ea) s
section
variable {K:Ψ}
def mi:Own (dU CX P w K mg base N ğ scope f cd A outer s H E):=#[3]
def We:rB (dU (Oa P w) P w K mg base N ğ scope f cd A outer s H E) (λ_=>E):=λñ σ Hc sc e s' I h=>Cy mi I h
def wr:tO (dU (Oa P w) P w K mg base N ğ scope f cd A outer s H E) (λ_=>E):=λñ σ Hc sc ea oe vs a0 I he hd h0 h1 hH hs h=>xK mi I he hd h0 h1 hH hs h
def MN.okX {st:Stmt}{k:Nat}(F:MN K x ğ st f fd)(S:ax N ps (aa st))(len)(Me:∀ (J7:Value)(A:Ë)(outer:List Env)(s:Ê)(H:Hp)(vs:π)(Q:VK)(E:XK),Jn k ę->sp vs H Q E->
   ∃ t,Nj ň (ay st) t/\t { nx:=λ_ H'=>Q .non H',rt:=Q } C6 H):Jy P w K mg base (Oa P w) (k+1) f fd ps sp:=by
 let#[oc,od,kV,doc,pm,an,J7,ct,KR,1,lk,Qe]:=F.ex;show z8 lk Qe S len λA outer s H vs Q E hr Rq=>Me J7 A outer s H vs Q E hr Rq
universe e
theorem DfX (P)(w)(K)(mg)(base)(k:Nat)(x)(ps)(sp):Prop:=
 ∃ f fd,mg x=!.ref f/\W.keepIn K (.ref f)=true/\Binds K fd ps []/\Jy P w K mg base (Oa P w) k f fd ps sp
section
variable {sp:Sp}{t:TA}{W:St->XK}
theorem OU (sp)(W:St->XK)(t:TA):TE:=λσ H Q=>t σ H λvs H1=>sp vs H1 Q (W σ)
def DU (F:Jy X.prog X.w X.K X.mg X.base (Oa X.prog X.w) k f fd ps sp)(hr)(hb:Binds X.K fd ps [])(hx:rB X W)(I)(r:Vals vs us)(h:sp vs H Q (W σ)):wpAny X.Ę X.A (call (.ref f) us) Ŏ X.xe s:=by
 let hl:(us++[]).length=ps.length:=by rw[Ft,<- r.length];show F.len _ _ _ _ h
 let OP:=hb s us I.LY hl;rw[Ft]at OP;show wpAny_call (HK (F.run X.A X.stack s H #[us,[]] us vs Q _ hr I.Tj OP r h) λr s' hq=>?_)
 cases r with
 | error e=>show hx ñ σ H s e s' I hq
 | ok fl=>
  cases fl with
  | ret u=>show I.after hq
  | next=>show False.elim hq
  | brk=>show False.elim hq
  | cont=>show False.elim hq
def BY (hx:rB X W)(D:DfX X.prog X.w X.K X.mg X.base k x ps sp)(hr)(hg:Gl X x)(ha:PA X (e::es) t)(Mm)(he:Ĕ X e es:=Ą)(LM):
  PE X Ģ (OU sp W t):=by
 let#[f,fd,hm,hk,hb,F]:=D;intro ñ s σ H Q I h;show GB (dj I hg hm ?_ Mm);show HV I.ok.mod.Ur hk (Jx ŷ fun us s1 ⟨vs,H1,I1,r,q⟩=>#[I1.LY,?_]) he LM;show DU F hr hb hx I1 r q
universe e
abbrev vy:θ:=[.type "ValueError",.type "Exception",.type "BaseException",.type "object"]
theorem Yk (us):Obj:={ cls:=.type "tuple",data:=.seq us.toArray }
theorem EC (C t:Addr):Obj:={ cls:=.ref C,data:=.fields [.ref t,.none,.none,.none,.bool false,.none].toArray }
theorem qy (h:Heap)(C)(us):Heap:=(h.push (Yk us)).push (EC C h.objs.size)
def fP:∀ b o,h.get? b=!o->(qy h C us).get? b=!o:=λ_ _ e=>Fc _ (Fc _ e)
def qw:(qy h C us).get? (h.objs.size+1)=!EC C h.objs.size:=by
 unfold qy EC Yk
 heap_get
def xN:Heap.MadeExcOf h (qy h C us) (h.objs.size+1) (.ref C) us:=
 #[fP,Heap.get?_none_of_le<|Nat.le_succ _,h.objs.size,qw,Heap.get?_none_of_le<|Fg _,Fc _ (Heap.get?_push_at rfl rfl)]
section
variable {fI:Addr}
def p9 (F:ExcBaseFacts B newId SW bm)(T:OwnTail s.heap bm tl)(hC)(hN:s.heap.Ns N mN)(hI)(hf:s.heap.get? fI=!oI)(hfc)(hz:us.length<=sizeLine)(k:∀ h' e,Heap.MadeExcOf s.heap h' e (.ref C) us->wpAny Ż A (call (.ref fI) (.ref e::us)) (λr s'=>r=.none/\Q (.done (.ret (.ref e))) s') E { s with heap:=h' }):
  wpAny Ż A (Builtin.«type.__call__» #[.ref C::us,[]]) Q E s:=by
 let#[h,g,d,t,os]:=s;repeat (first|with_reducible show wpAny_madeBy_exc hC ?_|with_reducible show I0 hC ?_|wp_step)
 show codeAny_call_builtin_code (Hw _ F.quiet) (wpAny_check_new_subT F T hC (codeAny_exc_new_subT F T hC ?_ hz));change wpAny _ _ _ _ _ #[qy h C us,g,d,t,os];let hC':=fP (C:=C) (us:=us) C _ hC;let hme:(Value.ref C::tl).contains (.ref C)=true:=by simp
 let hN':(qy h C us).Ns N mN:=by let#[o,es,ep,e,r]:=hN;show#[o,es,ep,fP _ _ e,r]
 let hx:=qw (h:=h) (C:=C) (us:=us);unfold EC at hx;repeat (first|(with_reducible show wpAny_isSubtype_exc hC' ?_;rw[hme])|with_reducible show I0 hx ?_|wp_step)
 show wpAny_typeLookup_tail hC' hN' (T.keeps fP) F.mroIs F.init.lookup ?_;rw[hI];show GC (EX ?_);show EX (II #[_,fP _ _ hf,hfc] ?_);show Ff<|EX (GF (k _ _ xN) (λr s' hr=>?_) λ_ _ x=>x);let#[1,hQ]:=hr
 wp_walk
 show hQ
def Di (F:ExcBaseFacts B newId SW bm)(T:OwnTail s.heap bm tl)(hC)(hN:s.heap.Ns N mN)(hI)(hf:s.heap.get? fI=!oI)(hfc)(hz:us.length<=sizeLine)(k:∀ h' e,Heap.MadeExcOf s.heap h' e (.ref C) us->wpAny Ż (A.under (.builtin "type.__call__" #[.ref C::us,[]])) (call (.ref fI) (.ref e::us)) (λr s'=>r=.none/\Q (.ref e) s') E { s with heap:=h' }):
  wpAny Ż A (call (.ref C) us) Q E s:=by
 let f1:=tc_lookup;let f2:=tc_bind<|.ref C;let#[h,g,d,t,os]:=s;show wpAny_call (codeAny_of_tree ?_);repeat (any_goals (first|with_reducible show I0 hC ?_|assumption|wp_step))
 show#[1,codeAny_call_builtin_at (Hw _<|by decide +kernel) entry_typeCall<|wpAny_check_type_call_sub hC (p9 F T hC hN hI hf hfc hz λh' e mk=>k h' e mk)]
universe e
open PySem.Calls PySem.W
open PySem.Builtin PySem.Builtin.ObjectAttr
theorem sB:List Value->Bool
 | []=>false
 | .ref _::r=>sB r
 | v::r=>(v::r)==vy
def Bl (h:(l==vy)=true):l=vy:=HU.mp h
set_option tactic.hygienic true in def kr (self:Value):∀ (l:θ),sB l=true->refuseLoop self "__setattr__" l=pure ():=by
 intro r'
 induction r' with
 | nil=>
  intro e
  cases e
 | cons v r ih'=>
  intro e
  cases v
  case ref c=>rw[refuseLoop_ref];show ih' e
  all_goals
   let e':=Bl e;rw[e'];show F.store_ValueError.passes self
set_option tactic.hygienic true in def wP:∀ (l:θ),sB l=true->l.contains (.type "object")=true:=by
 intro r'
 induction r' with
 | nil=>
  intro e
  cases e
 | cons v r ih'=>
  intro e
  cases v
  case ref c=>rw[List.contains_cons,ih' e,Bool.or_true]
  all_goals
   let e':=Bl e;rw[e'];decide
theorem jN (K:Frag)(C):Bool:=(clsIn K C).any λcd=>sB cd.mro
def E9 {K:Frag}(X:K.In s.heap)(hx:s.heap.get? x=!ox)(RW)(Oi)(RU:ox.dict=none)(hp:jN K C=true)(ht:takerIn K C name=!none)(hh:hasDictIn K C=true)(h:∀ h' Sy,h'.get? x=!{ ox with dict:=some s.heap.objs.size }->h'.Ns1 s.heap.objs.size (λy=>if y=name then some v else none)->(∀ b o,b≠x->s.heap.get? b=!o->h'.get? b=!o)->R (.ok (.ret .none)) { s with heap:=h',toks:=Sy }):
  codeAny Ġ A (.call Ī #[[.ref x,.str name tk,v],[]]) R s:=by
 let SF:=PySem.F.store_object;let I:InstAt s.heap x ox C none:=#[hx,RW,by unfold notCls;rw[Oi],by rw[RU];trivial]
 let#[cd,hc,ho]:=any_some hp;let ne:cd.mro.isEmpty=false:=by cases q:cd.mro with|nil=>rw[q]at ho;cases ho|cons _ _=>rfl
 let sub:Looks Ġ s.heap (isInstance _ _) true:=I.type.andThen<|looks_mroIn X (by unfold mroIn;rw[hc,Option.bind_some,if_neg (by rw[ne];decide),wP _ ho]);show codeAny_call_builtin SF.slot.plain SF.entry (@check_slot _ _ _ s "object.__setattr__" "object" "__setattr__" _ [.str name tk,v] [] _ SF.kind SF.split sub (SF.args _ _ v) ?_);let#[attr,ha,hr]:=Option.bind_eq_some_iff.mp ht;let hm:Looks Ġ s.heap (mroOf<|.ref C) cd.mro:=(looks_clsIn X hc).andThen .now;let L3:Looks Ġ s.heap (storeTaker? attr) none:=by
  cases attr with
  | none=>show .now
  | some a=>
   let#[b,hb,e]:=FI.mp hr;show (looks_takesIn X hb).andThen ?_
   cases b with
   | true=>cases e
   | false=>show .now
 rw[osa_eq,refuse_eq];show EX<|EX (I.type.here<|EX (hm.here ?_));rw[kr _ _ ho];show Ff<|EX (I.type.here<|EX ((looks_findIn X ha).here<|EX (L3.here ?_)));let#[cd2,hc2,Po]:=any_some hh;let#[Q0,g,d,t,os]:=s;let#[oc,odi,oda,KR]:=ox;subst RW Oi RU;show EX<|Ff (EX<|EX (wpAny_loadPart hx<|EX ((looks_clsIn X hc2).here ?_)));rw[Po];let hx₁:(Q0.push Ĝ).get? x=!{ cls:=.ref C,data:=.fields vs,slots:=KR }:=Fc _ hx;let Zy:x≠Q0.objs.size:=Gg<|FD hx;show EX (wpAny_alloc' ?_);show EX (wpAny_update' hx₁ ?_);show Ff ?_;let hgd:((Q0.push Ĝ).update x λo=>{ cls:=o.cls,dict:=!Q0.objs.size,data:=o.data,slots:=o.slots }).get? Q0.objs.size
   = some Ĝ:=
  (Heap.get?_update_ne _ _ _ _ Zy.symm).trans (Heap.get?_push_at rfl rfl)
 let Vq:((Q0.push Ĝ).update x λo=>{ cls:=o.cls,dict:=!Q0.objs.size,data:=o.data,slots:=o.slots }).Ns Q0.objs.size (λ_=>none):=
  #[_,[].toArray,_,hgd,1,λe he=>absurd he<|by simp,λ_=>rfl]
 show EX (Ff<|EX (wpAny_nsSet1 (Heap.Ns1.of_empty Vq) λh' Ru hs=>?_));let#[oD,esD,epD,ZV,hdD,hcD]:=Ru.count<|Within.cons name v Within.nil;show EX (wpAny_lookBehind ZV (by rw[hdD];show pastItsLine_dict<|Fo hcD (by simp_all)) ?_);show Ff (h h' _ ?_ Ru λb ob U4 hb=>?_)
 ·show (hs.2 x Zy).trans (Heap.get?_update_self _ hx₁ rfl)
 ·show (hs.2 b<|Gg (FD hb)).trans ((Heap.get?_update_ne _ _ _ _ U4).trans<|Fc _ hb)
theorem oo (ea C:Addr)(od:ψ)(h:Heap):Prop:=∃ o vs a0,h.get? ea=!o/\o.cls=.ref C/\o.data=.fields vs/\vs[0]?=!a0/\vs[1]?=!.none/\o.dict=od
theorem AO (ea C:Addr):HO:=.ext (oo ea C none)
theorem vY (ea C dx:Addr):HO:=.ext (oo ea C !dx)
def CY (x:oo ea C od h):Jl P w H h ea (.ext (oo ea C od)):=by let#[o,vs,a0,ho,r]:=id x;show#[x,#[o,ho],λh1 h2 gR k=>(by let#[o1,vs1,a1,q1,q2]:=gR;show#[o1,vs1,a1,k o1 q1,q2])]
def iu:bc l H l=none:=if_pos rfl
structure m8 (K:Frag) (C:Addr) (f:Str):Prop where
 sa:findIn K (.ref C) "__setattr__"=!some Ī
 ov:jN K C=true
 tk:takerIn K C f=!none
 hd:hasDictIn K C=true
section
variable {σ:St}{H:Hp}
def DO (I)(e:H ea=!AO ea C)(T:m8 X.K C f)(ry)(h:∀ dx s',H dx=none->dx≠ea->Inv X ñ σ (upd (upd H dx (.xd [(f,y)])) ea (vY ea C dx)) s'->Q () s'):wpAny X.Ę A (setAttr (.ref ea) f u) Q E s:=by
 let#[ox,vs,a0,hx,hc,hd,h0,h1,RU]:=id<|(I.Jk ea _ e).1;let IA:InstAt s.heap ea ox C none:=#[hx,hc,by unfold notCls;rw[hd],by rw[RU];trivial]
 show set_plain I.LY IA T.sa (E9 I.LY hx hc hd RU T.ov T.tk T.hd λh' Sy Ro Ru hk=>?_);let dn:=I.Jk.fresh<|Fg _;let ne:=GT<|FD hx;show h s.heap.objs.size _ dn ne (I.P1 (ch:=[]) rfl ?_ ?_ I.bare λb z=>absurd z<|by simp)
 ·let old:∀ b,H b≠none->b≠ea->upd (upd H s.heap.objs.size<|.xd [(f,y)]) ea (vY ea C s.heap.objs.size) b=H b:=λb hb Uz=>by rw[a8 Uz,a8 λz=>hb (by rw[z];show dn)]
  show#[λb o q n hb hx=>?_,λb o q n hb hx=>?_,λb o q n hx=>?_,λb o q hx=>?_,λb xs q=>?_,λb o u q=>?_]
  ·show hk b o (λz=>by rw[z,e]at n;cases n) q
  ·show#[o.slots,hk b o (λz=>by rw[z,e]at n;cases n) q]
  ·rw[a8 (λz=>by rw[z,e]at n;cases n),a8<|Gg (FD q)];show n
  ·by_cases hb:b=ea
   ·rw[hb];show#[_,Ro]
   ·show#[o,hk b o hb q]
  ·rw[old b (by rw[q];show λz=>nomatch z) (λz=>by rw[z,e]at q;cases q)];show q
  ·rw[old b (by rw[q];show λz=>nomatch z) (λz=>by rw[z,e]at q;cases q)];show q
 ·intro a v q;by_cases ha:a=ea
  ·rw[ha,af]at q
   cases q;rw[ha];show CY #[_,vs,a0,Ro,hc,hd,h0,h1,1]
  ·rw[a8 ha]at q;by_cases hb:a=s.heap.objs.size
   ·rw[hb,af]at q
    cases q;rw[hb];show#[_,Ru,λg=>?_];by_cases hg:g=f
    ·rw[if_pos hg,hg];simp only[List.lookup,beq_self_eq_true];show ry
    ·rw[if_neg hg];let:(g==f)=false:=by simpa using hg
     simp only[List.lookup,this];show Hf
   ·rw[a8 hb]at q;show (I.Jk a v q).Kr (λc w' Nh z=>hk c w' (λz2=>?_) z) (λc Nh=>?_) λc xs Nh=>?_
    ·rcases Nh with Nh|Nh
     ·show ha (Nh▸z2)
     ·rw[z2,e]at Nh;cases Nh
    ·rw[a8 (λz=>by rw[z,e]at Nh;cases Nh),a8 (λz=>by rw[z,dn]at Nh;cases Nh)];show Nh
    ·rw[a8 (λz=>by rw[z,e]at Nh;cases Nh),a8 (λz=>by rw[z,dn]at Nh;cases Nh)];show Nh
theorem YE (C)(ta tv:TE)(f):TS:=λD σ H=>tv σ H λy H1=>ta σ H1 λx H2=>∃ ea,x=.ref ea/\H2 ea=!AO ea C/\∀ dx,H2 dx=none->dx≠ea->D.nx σ (upd (upd H2 dx (.xd [(f,y)])) ea (vY ea C dx))
def yC (T:m8 X.K C f)(ha:PE X o ta)(hv)(hs:swapsWith value (!.Attribute o f pos') pos.line X.env=pure false):PS X P3 (YE C ta tv f):=by intro ñ s σ H D I h;show Ik (Jx (hv ñ s σ H _ I h) fun u s1 ⟨y,H1,I1,ry,q⟩=>Jx (ha ñ s1 σ H1 _ I1 q) λov s2 gR=>?_) hs;let#[x,H2,I2,rx,ea,ex,he,q2]:=gR;subst ex;obtain rfl:ov=Value.ref ea:=rx;show DO I2 he T ry λdx s3 h1 h2 I3=>#[σ,_,I3,q2 dx h1 h2]
def Inv.U9 (I)(e:H ea=!.ext φ):Inv X ñ σ (bc ea H) s:=by
 let hd:∀ b,b≠ea->bc ea H b=H b:=λb hb=>bv hb;show#[I.ok,I.os,I.bare,#[I.base.keep,I.base.slot,λb o q n hx=>?_,I.base.there,λb xs q=>?_,λb o u q=>?_],I.loc,I.cell,?_,λx c q=>?_,λp hp=>?_,λa v q=>?_,I.len]
 ·by_cases hb:b=ea
  ·rw[hb];show iu
  ·rw[hd b hb];show I.base.free b o q n hx
 ·let:=I.base.OS b xs q;rw[hd b (λz=>by rw[z,e]at this;cases this)];show this
 ·let:=I.base.Om b o u q;rw[hd b (λz=>by rw[z,e]at this;cases this)];show this
 ·by_cases hb:X.env.locals=ea
  ·rw[hb];show iu
  ·rw[hd _ hb];show I.free
 ·by_cases hb:c=ea
  ·rw[hb];show iu
  ·rw[hd _ hb];show I.KC x c q
 ·let#[q1,q2,q3]:=I.pin p hp;show#[q1,?_,q3];by_cases hb:p.1=ea
  ·rw[hb];show iu
  ·rw[hd _ hb];show q2
 ·let ha:a≠ea:=λz=>by rw[z,iu]at q;cases q
  rw[hd a ha]at q;show (I.Jk a v q).Kr (λc v' _ z=>z) (λc hc=>?_) λc xs hc=>?_
  ·rw[hd c (λz=>by rw[z,e]at hc;cases hc)];show hc
  ·rw[hd c (λz=>by rw[z,e]at hc;cases hc)];show hc
universe e
theorem yL (K:Frag)(C f:Addr):Bool:=match K.lookup C with
 | some ⟨.type "type",_,.cls cd,sl⟩=>(match cd.mro,sl.toList with
  | .ref C'::bm,[_,_,_,_,some (.builtin n),_]=>C'==C&&n=="ValueError.__new__"&&not cd.hasDel&&tailIn K vy bm&&nsOkIn K cd.ns&&nsIn K cd.ns "__init__"==!some (.ref f)
  | _,_=>false)
 | _=>false
set_option tactic.hygienic true in def xx {K:Frag}(X:K.In h)(G:h.Ns N mg)(e:nsIn K N n=!some v):mg n=!v:=by
 let#[o,es,ep,ho,hd,_,hf]:=G;unfold nsIn at e;split at e
 ·rename_i q;let:=X _ _ q;rw[this]at ho
  cases ho
  cases hd;split at e
  ·rename_i he
   cases e;rw[<- hf];unfold nsFind findBy
   simp_all
  ·simp_all
 ·cases e
set_option tactic.hygienic true in def yK {K:Frag}(X:K.In h)(q:yL K C f=true):
  ∃ bm N nm q bs hdct sn sub ab col dd k0 k1 k2 k3 k5 mN,K.lookup C=!excClassObj nm q C N bs bm hdct sn sub ab col dd k0 k1 k2 k3 k5 "ValueError.__new__"/\h.Ns N mN/\mN "__init__"=!.ref f/\OwnTail h vy bm:=by
 unfold yL at q;split at q
 ·rename_i dd cd sl ho;split at q
  ·rename_i C' bm k0 k1 k2 k3 n k5 hm hs;simp only[GK,HU,Bool.not_eq_true']at q;let#[#[#[#[#[2],a0j],ht],Jk],hni]:=q;let#[nm,bs,mro,ns,qn,hd,sn,sub,ab,col,del]:=cd;subst hm a0j;let ZH:sl=[k0,k1,k2,k3,some<|.builtin "ValueError.__new__",k5].toArray:=by
    let#[l]:=sl
    simp_all
   subst ZH;show#[bm,ns,nm,qn,bs,hd,sn,sub,ab,col,dd,k0,k1,k2,k3,k5,_,ho,.of_isNs<|isNs_of_in X Jk,xx X (.of_isNs<|isNs_of_in X Jk) hni,tail_of_in X ht]
  ·cases q
 ·cases q
structure VA (K:Frag) (C f:Addr):Prop where
 own:yL K C f=true
 fn:isFn K (.ref f)=true
 kp:keepIn K (.ref C)=true
theorem DiX (P)(w)(K:Frag)(mg)(base)(k:Nat)(x)(C)(ps)(sp):Prop:=
 ∃ f fd,mg x=!.ref C/\VA K C f/\Binds K fd ps []/\Jy P w K mg base Ky k f fd ps sp
def pp {sub:θ}(Lu:bm.contains (.type "BaseException")=true)(hh)(h:wpAny M A x (λv s₁=>∃ e oe vs,v=.ref e/\s₁.heap.get? C=!excClassObj nm q C N bs bm hdct sn sub ab col dd k0 k1 k2 k3 k5 newId/\s₁.heap.get? e=!oe/\oe.cls=.ref C/\oe.data=.fields vs/\vs[1]?=!.none/\E (.ref e) s₁) E s):
  wpAny M A (raiseStmt env (!x) none) Q E s:=by
 let hcB:(Value.ref C::bm).contains (.type "BaseException")=true:=by rw[List.contains_cons,Lu,Bool.or_true]
 show EX (GF h (λv s₁ h₁=>?_) λ_ _ x=>x);let#[e,oe,vs,1,hC,he,hc,hd,h1,hE]:=h₁;let#[hp,g,d,tk,os]:=s₁;let#[oc,odi,oda,KR]:=oe;subst hc hd;repeat (first|with_reducible show I0 he ?_|with_reducible show I0 hC ?_|(with_reducible show wpAny_isSubtype_exc hC ?_;rw[hcB])|wp_step)
 rw[h1];show Ff ?_;show Ff (wpAny_raiseNew_none hh hE)
section
variable {C:Addr}{sp:Sp}{t:TA}{W:St->XK}
def Inv.Zg (I)(mk:Heap.MadeExcOf s.heap h' ea (.ref C) us):Inv X ñ σ (upd H ea (AO ea C)) { s with heap:=h' }:=by
 let hH:=I.Jk.gone mk.new;let#[t,he,htn,ht]:=mk.there;let up:∀ b o,H b=!o->upd H ea (AO ea C) b=!o:=λb o q=>by rw[a8<|ao q hH];show q
 show I.P1 (ch:=[]) rfl #[λb o q n hb hx=>mk.keeps b o q,λb o q n hb hx=>#[o.slots,mk.keeps b o q],λb o q n hx=>?_,λb o q hx=>#[o,mk.keeps b o q],λb xs q=>up b _ q,λb o u q=>up b _ q] (λa v q=>?_) I.bare λb z=>absurd z Ğ
 ·rw[a8 (λz=>by rw[z,mk.new]at q;cases q)];show n
 ·by_cases ha:a=ea
  ·rw[ha,af]at q
   cases q;rw[ha];show CY #[_,_,_,he,5]
  ·rw[a8 ha]at q;show (I.Jk a v q).Kr (λc w' _ z=>mk.keeps c w' z) (λc hc=>up c _ hc) λc xs hc=>up c _ hc
theorem DJ (W:St->XK)(C)(sp)(t:TA):TS:=λ_ σ H=>t σ H λvs H1=>vs.length<=sizeLine/\∀ ea,H1 ea=none->
 sp (.ref ea::vs) (upd H1 ea (AO ea C)) (λv H2=>v=.non/\∃ dx,H2 ea=!vY ea C dx/\W σ (.ref C) (!dx) (bc ea H2)) E0
def zV (O:Own X)(hc)(hw:tO X W)(hg:Gl X x)(D:DiX X.prog X.w X.K X.mg X.base k x C ps sp)(hr:Jn (k+1) X.A)(ha:PA X (e::es) t)(Mm)(Pm)(LM:(backTo JI (starEach es X.env)).any (·.1)=false:=Ą):
  PS X (.Raise (!.Call (.Name x np) (e::es) [] JI) none pos) (DJ W C sp t):=by
 let#[f,fd,hm,M,hb,F]:=D;intro ñ s σ H D' I h;let#[tl,N,nm,qn,bs,hdct,sn,sub,ab,col,dd,k0,k1,k2,k3,k5,mN,hC,hN,hni,T]:=yK I.LY M.own;let a0n:wpAny X.Ę X.A (eval (.Call (.Name x np) (e::es) [] JI) X.env) (λv s₃=>∃ e oe vs,v=.ref e/\s₃.heap.get? C=!excClassObj nm qn C N bs tl hdct sn sub ab col dd k0 k1 k2 k3 k5 "ValueError.__new__"/\s₃.heap.get? e=!oe/\oe.cls=.ref C/\oe.data=.fields vs/\vs[1]?=!.none/\X.xe (.ref e) s₃) X.xe s:=by
  show GB (dj I hg hm ?_ Mm);show callWith_K (h₀:=X.base) I.ok.mod.Ur M.kp (Jx (ha JI ñ s σ H _ I h) fun us s1 ⟨vs,H1,I1,r,hz,q⟩=>#[I1.LY,?_]) Pm LM;let#[tl1,N1,nm1,qn1,bs1,a6g,sn1,a7I,ab1,b1I,dd1,l0,l1,l2,l3,l5,mN1,hC1,hN1,a3P,T1]:=yK I1.LY M.own;let#[of,hof,a3K]:=FI.mp<|show typeIn X.K (.ref f)=some (.type "function") from HU.mp M.fn;show Di PySem.F.excBase_ValueError T1 (I1.LY _ _ hC1) hN1 a3P (I1.LY _ _ hof) a3K (by change us.length<=sizeLine;rw[<- r.length];show hz) λh' ea mk=>?_;let Rv:=I1.Jk.gone mk.new;let hs0:=I1.was (by rw[O.exs];simp) mk.new;let I2:=I1.Zg mk;let hq:=q ea Rv;let r2:Vals (V.ref ea::vs) (Value.ref ea::us):=.cons rfl r;let hl:((Value.ref ea::us)++[]).length=ps.length:=by rw[Ft];let e:=r2.length;rw[F.len _ _ _ _ hq]at e;show e.symm
  let OP:=hb _ (Value.ref ea::us) I2.LY hl;rw[Ft]at OP;show wpAny_call (HK (F.run _ X.stack _ _ #[Value.ref ea::us,[]] (Value.ref ea::us) _ _ E0 (hr.make C us []) (I2.Tj.make C us []) OP r2 hq) λr s' OO=>?_)
  cases r with
  | error e=>show False.elim OO
  | ok fl=>
   cases fl with
   | ret u=>
    let#[v,H',I3,rv,ev,dx,hM,hW]:=I2.after OO;subst ev;show#[rv,?_];let#[oe,ws,a0,he,RW,hda,h0,h1,hdi]:=id<|show oo ea C (!dx) s'.heap from (I3.Jk ea _ hM).1;show#[ea,oe,ws,1,I3.LY _ _ hC,he,RW,hda,h1,hw ñ σ _ s' ea oe ws a0 (I3.U9 hM) he hda h0 h1 iu hs0 ?_];rw[RW,hdi];show hW
   | next=>show False.elim OO
   | brk=>show False.elim OO
   | cont=>show False.elim OO
 rw[arm_exec_Raise];show EX (IX<|pp (C:=C) (nm:=nm) (q:=qn) (N:=N) (bs:=bs) (bm:=tl) (hdct:=hdct) (sn:=sn) (sub:=sub) (ab:=ab) (col:=col) (dd:=dd) (k0:=k0) (k1:=k1) (k2:=k2) (k3:=k3) (k5:=k5) (T.hasType PySem.F.excBase_ValueError.hasBase) Ŋ (EX<|GF a0n (λv s₃ h₃=>EX<|IX (Ff h₃)) λ_ _ x=>x))
universe e
abbrev Cx.more (X:Cx)(pn:ζ):Cx:={ X with pn:=X.pn++pn }
theorem Cx.VE (X)(pn:ζ)(W:St->XK):Cx:=(X.more pn).OF λe s'=>∃ ñ σ Hc sc,Inv (X.more pn) ñ σ Hc sc/\Oa X.prog X.w X.stack Hc sc (W σ) e s'
theorem Cx.Ot (X)(ea:Addr)(pn:ζ):Cx:={ X with A:=X.A.mark !.ref ea,calm:=false,pn:=X.pn++pn,xe:=λ_ _=>False }
def Wc {X:Cx}:rB (X.VE pn W) W:=λñ σ H s e s' I h=>#[ñ,σ,H,s,I.KD,h]
def Inv.VG (I):Inv (X.more ñ) [] σ H s:=
 #[#[I.ok.mod,I.ok.kind,I.ok.glob,I.ok.blt,I.ok.above,I.ok.inj,I.ok.has,I.ok.cab,I.ok.hd,I.ok.frames,I.ok.R9,I.ok.exf,I.ok.bs,I.ok.So,I.ok.Qn,I.ok.S7,I.ok.Nr,I.ok.Tg],I.os,I.bare,I.base,I.loc,I.cell,I.free,I.KC,λp hp=>I.pin p<|by simpa using hp,I.Jk,I.len]
def Inv.PV (ok:X.Ok)(I:Inv (X.more ñ) NU σ H s):Inv X ñ σ H s:=
 #[ok,I.os,I.bare,I.base,I.loc,I.cell,I.free,I.KC,λp hp=>I.pin p<|FV _ hp,I.Jk,I.len]
def Inv.PN {X:Cx}(I:Inv (X.more ñ) NU σ H s):Inv (X.Ot ea ñ) [] σ H s:=
 #[#[I.ok.mod,I.ok.kind,I.ok.glob,I.ok.blt,I.ok.above,I.ok.inj,I.ok.has,I.ok.cab,ń,I.ok.frames,I.ok.R9,I.ok.exf,I.ok.bs,I.ok.So,I.ok.Qn,I.ok.S7,I.ok.Nr,I.ok.Tg],I.os,I.bare,I.base,I.loc,I.cell,I.free,I.KC,
  λp hp=>I.pin p<|FV _ (by simpa using (show p∈(X.pn++ñ)++[] from hp)),I.Jk,I.len]
def Inv.ON (ok:X.Ok)(I:Inv (X.Ot ea ñ) [] σ H s):Inv X ñ σ H s:=
 #[ok,I.os,I.bare,I.base,I.loc,I.cell,I.free,I.KC,λp hp=>I.pin p<|FV _ hp,I.Jk,I.len]
section
variable {κ:Type}[DecidableEq κ]
theorem cQ (ķ)(k:κ):Ç:=(ķ.find? λkv=>decide (kv.1=k)).map (·.2)
theorem dH (ķ)(k:κ)(v):List (κ×V):=
 if (ķ.any λkv=>decide (kv.1=k))=true then ķ.map (λkv=>if kv.1=k then (kv.1,v) else kv) else ķ++[(k,v)]
theorem lE (ķ)(k:κ):List (κ×V):=ķ.filter λkv=>decide (kv.1≠k)
def mL {p:κ×V}{r:List (κ×V)}{k:κ}(e:p.1=k):cQ (p::r) k=!p.2:=by simp[cQ,Gs,e]
def mM {p:κ×V}{r:List (κ×V)}{k:κ}(e:¬ p.1=k):cQ (p::r) k=cQ r k:=by simp[cQ,Gs,e]
def uh (k:κ):∀ ķ:List (κ×V),(ķ.any λkv=>decide (kv.1=k))=(cQ ķ k).isSome
 | []=>rfl
 | p::r=>by
  rw[Iu];by_cases e:p.1=k
  ·simp_all [mL,Bool.true_or,Option.isSome_some]
  ·simp_all [mM,Bool.false_or,uh]
def lA (ķ)(k:κ)(v):(dH ķ k v).length<=ķ.length+1:=by
 unfold dH;split
 ·simp_all
 ·simp_all
def gU {ķ:List (κ×V)}{k:κ}(v)(h:cQ ķ k=none):dH ķ k v=ķ++[(k,v)]:=by
 unfold dH;rw[uh,h]
 simp_all
def Nt.PD (r:Nt o u):o.isSome=u.isSome:=by
 cases o with
 | none=>cases u with
  | none=>rfl
  | some _=>show (r).elim
 | some _=>cases u with
  | none=>show (r).elim
  | some _=>rfl
def KV.val (r:KV ķ vs)(k:κ):Nt (cQ ķ k) (valueAt vs k):=by
 induction r with
 | nil=>show Hf
 | @cons p q ps qs h t ih=>
  let#[h1,h2]:=h;by_cases e:p.1=k
  ·let e':=h1.symm.trans e;let b:valueAt (q::qs) k=!q.2:=by simp[valueAt,e']
   rw[mL e,b];show h2
  ·let e':¬ q.1=k:=λz=>e<|h1.trans z;let b:valueAt (q::qs) k=valueAt qs k:=by simp[valueAt,Gs,e']
   rw[mM e,b];show ih
def KV.any (r:KV ķ vs)(k:κ):(ķ.any λkv=>decide (kv.1=k))=vs.any λkv=>decide (kv.1=k):=by
 induction r with
 | nil=>rfl
 | cons h t ih=>simp_all
def KV.a2D (r:KV ķ vs)(k:κ)(ry):
  KV (ķ.map λkv=>if kv.1=k then (kv.1,y) else kv) (vs.map λkv=>if kv.1=k then (kv.1,u) else kv):=by
 induction r with
 | nil=>show .nil
 | @cons p q ps qs h t ih=>
  show .cons ?_ ih;let#[h1,h2]:=h;by_cases e:p.1=k
  ·simp_all
  ·simp_all
def KV.put (r:KV ķ vs)(k:κ)(ry):KV (dH ķ k y) (stored vs k u):=by
 unfold dH stored;rw[r.any k];by_cases e:(vs.any λkv=>decide (kv.1=k))=true
 ·rw[if_pos e,if_pos e];show r.a2D k ry
 ·rw[if_neg e,if_neg e];show Paired.snoc r #[1,ry]
def KV.drop (r:KV ķ vs)(k:κ):KV (lE ķ k) (without vs k):=by
 unfold lE without
 induction r with
 | nil=>show .nil
 | @cons p q ps qs h t ih=>
  let#[h1,h2]:=h;rw[Gp,Gp];by_cases e:p.1=k
  ·simp_all
  ·let e':¬ q.1=k:=λz=>e<|h1.trans z;let a:decide (p.1≠k)=true:=by simp[e]
   let b:decide (q.1≠k)=true:=by simp[e']
   rw[if_pos a,if_pos b];show .cons #[h1,h2] ih
def KV.length (r:KV ķ vs):ķ.length=vs.length:=Paired.length r
def D4 (ķ)(k:κ):(lE ķ k).length<=ķ.length:=FB _ _
universe e
def jI (r:RelV (kV k) u):(aN P w).is k u=true:=by
 cases k with
 | inl i=>let⟨t,e⟩:=r;subst e;show vC P w i t
 | inr x=>let⟨t,e⟩:=r;subst e;show vB P w x t
def WJ (e:kV a=kV b):a=b:=by
 cases a with
 | inl i=>cases b with
  | inl j=>have e':=e;injection e' with e';rw[e']
  | inr y=>show nomatch (e)
 | inr x=>cases b with
  | inl j=>show nomatch (e)
  | inr y=>have e':=e;injection e' with e';rw[e']
def qD:∀ {ks:List Key}{us:θ},Vals (ks.map kV) us->ItemsAre (aN P w) ks us:=by
 intro r'
 induction r' with
 | nil=>
  intro _ r;rw[GE]at r;cases r;show .nil
 | cons k ks ih'=>
  intro _ r;rw[Fk]at r
  cases r with
  | cons h t=>show .cons (jI h) (ih' t)
abbrev KT (H:Hp):List (List Key×V)->List (List Key×Addr×Value)->Prop:=Paired λp q=>p.1=q.1/\H q.2.1=!.tup (p.1.map kV)/\RelV p.2 q.2.2
def V5 (ok:MD P w H h)(e:Rd H a u):Jl P w H h a u:=e.ok ok
def qX (ok:MD P w H h)(e:Rd H a (.dK ķ)):ķ.length<=sizeLine/\(a==sysModules)=false/\∃ vs,KV ķ vs/\h.DictOf (aN P w) a vs:=
 V5 ok e
def D5 (ok:MD P w H h)(e:H a=!.dK ķ):ķ.length<=sizeLine/\(a==sysModules)=false/\∃ vs,KV ķ vs/\h.DictOf (aN P w) a vs:=qX ok (.inl e)
def WE (ok:MD P w H h)(e:H a=!.tup (ks.map kV)):(tupleKind (aN P w)).is h ks a:=by
 let#[_,its,r,o,h1,h2,n,h3]:=(ok a _ e)
 show#[o,its.toArray,n,h1,h2,h3,by simpa using qD r]
def a0O (ok:MD P w H h)(e:Rd H a (.dT ķ)):ķ.length<=sizeLine/\(a==sysModules)=false/\
  ∃ xs,KT H ķ xs/\h.DictOfH (tupleKind (aN P w)) a xs:=by
 let#[z,y,xs,r,o,es,ep,h1,h2,h3,h4,h5]:=(V5 ok e)
 show#[z,y,xs,r,o,es,ep,h1,h2,h3,h4,λx hx=>?_,h5];let all:∀ {l:List (List Key×V)}{m:List (List Key×Addr×Value)},KT H l m->∀ x∈m,(tupleKind<|aN P w).is h x.1 x.2.1:=by
  intro l m q
  induction q with
  | nil=>simp_all
  | @cons p q ps qs hq t ih=>
   intro x hx;rcases Fv.mp hx with e|hx
   ·show WE ok Ħ
   ·show ih x hx
 show all r x hx
theorem Nl (H)(a:Addr)(y:V)(r:Ç):Prop:=∃ ķ k,Rd H a (.dK ķ)/\y=kV k/\r=cQ ķ k
theorem Py (H)(a:Addr)(y v:V)(H':Hp):Prop:=∃ ķ k,H a=!.dK ķ/\y=kV k/\ķ.length<sizeLine/\H'=upd H a (.dK (dH ķ k v))
def Nl.k {k:Key}(e:H a=!.dK ķ):Nl H a (kV k) (cQ ķ k):=#[ķ,k,.inl e,2]
def Py.k {k:Key}(e:H a=!.dK ķ)(hl:ķ.length<sizeLine):Py H a (kV k) v (upd H a (.dK (dH ķ k v))):=#[ķ,k,e,1,hl,1]
def Inv.big (I):sysModules<s.heap.objs.size:=by let h:=(I.mod.glob.keeps I.bk).lt;show Nat.lt_trans ż h
def qY (hu:A.units+1<cLine)(I)(g:Nl H a y !v)(ry)(h:∀ w' s',Inv X ñ σ H s'->RelV v w'->Q w' s'):
  wpAny X.Ę A (getItem (.ref a) u) Q E s:=by
 let#[ķ,k,e,1,l]:=g;let#[z,hd,vs,rel,dd]:=qX I.Jk e;let#[w',hw,Ql]:=Nt.some_of (by rw[l];show rel.val k);show wpAny_getItem_of (jI ry) dd.mapOf hw (h w' _ (I.tok _) Ql)
def a4P (hu:A.units+1<cLine)(I)(g:Nl H a y o)(ry)(h:∀ s',Inv X ñ σ H s'->Q (.bool o.isSome) s'):
  wpAny X.Ę A (compareOp .In u (.ref a)) Q E s:=by
 let#[ķ,k,e,1,l]:=g;let#[z,hd,vs,rel,dd]:=qX I.Jk e;show wpAny_in_of (jI ry) hd dd.mapOf ?_;rw[<- (rel.val k).PD,<- l];show h _ (I.tok _)
def EF (hu:A.units+1<cLine)(I)(g:Nl H a y o)(ry)(h:∀ s',Inv X ñ σ H s'->Q (.bool (not o.isSome)) s'):
  wpAny X.Ę A (compareOp .NotIn u (.ref a)) Q E s:=by
 let#[ķ,k,e,1,l]:=g;let#[z,hd,vs,rel,dd]:=qX I.Jk e;show wpAny_notIn_of (jI ry) hd dd.mapOf ?_;rw[<- (rel.val k).PD,<- l];show h _ (I.tok _)
def tu (I)(mu:Mut (H a))(hs:Heap.SameBut a s.heap h')(he:∃ q,h'.get? a=!q)(new:Jl X.prog X.w (upd H a ob) h' a ob):
  Inv X ñ σ (upd H a ob) { s with heap:=h',toks:=t' }:=
 I.write mu Ń (λb q hb z=>(hs.2 b hb).trans z) he new
def xY (z:ķ.length<=sizeLine)(hd:(a==sysModules)=false)(rel:KV ķ vs)(dd:h'.DictOf (aN P w) a vs):
  Jl P w H' h' a (.dK ķ):=#[z,hd,vs,rel,dd]
def AS (hu:A.units+1<cLine)(I)(g:Py H a y v H')(ry)(rv:RelV v r)(h:∀ s',Inv X ñ σ H' s'->Q () s'):
  wpAny X.Ę A (setItem (.ref a) u r) Q E s:=by
 let#[ķ,k,e,1,l,1]:=g;let#[z,hd,vs,rel,dd]:=D5 I.Jk e;let hl:(dH ķ k v).length<=sizeLine:=by grind [lA]
 show wpAny_setItem_pairs (hsz:=by rw[<- rel.length];show z) (jI ry) dd λh' Vu hs=>h _ ?_;let he:∃ q,h'.get? a=!q:=let ⟨q,_,_,hq,_⟩:=Vu;#[q,hq];show tu I (by rw[e];show Hf) hs he (xY hl hd (rel.put k rv) Vu)
def a0P (I)(e:H a=!.dK ķ)(ry:RelV (kV k) u)(l:cQ ķ k=!v)(hm:more=[]\/∃ x,more=[x])(h:∀ w' s',Inv X ñ σ (upd H a (.dK (lE ķ k))) s'->RelV v w'->Q w' s'):wpAny X.Ę A (call (.builtin "dict.pop") (.ref a::u::more)) Q E s:=by
 let#[z,hd,vs,rel,dd]:=D5 I.Jk e;let#[w',hw,Ql]:=Nt.some_of (by rw[<- l];show rel.val k);let hp:(keyPart u).isSome=true:=by
  cases k with
  | inl i=>let⟨t,q⟩:=ry;subst q;rfl
  | inr x=>let⟨t,q⟩:=ry;subst q;rfl
 let ha:argsOk "dict.pop" #[.ref a::u::more,[]]:=by
  rcases hm with q|⟨x,q⟩
  ·subst q;show PySem.F.args_dict_pop_2 _ _
  ·subst q;show PySem.F.args_dict_pop_3 _ _ _
 show call_meetsIn PySem.F.slot_dict_pop dd.typeIs PySem.F.entry_dict_pop ha (meets_dict_pop_there _ a (jI ry) more hm hp)
  #[vs,w',dd,by rw[<- rel.length];show z,hw,λh' Vu hs=>h w' _ ?_ Ql]
 let he:∃ q,h'.get? a=!q:=let ⟨q,_,_,hq,_⟩:=Vu;#[q,hq];show tu I (by rw[e];show Hf) hs he (xY (Fo (D4 ķ k) z) hd (rel.drop k) Vu)
theorem XE (i:Expr):Prop:=∀ ov iv,subscripted i false ov iv=operate [ov,iv] (getItem ov iv)
def DL {id:String}(hl:typeLookup (.type T) "__getitem__"=pure !.builtin id)(hs:XE slice)(h:wpAny Ġ A (eval value env) (λo s₁=>wpAny Ġ A (eval slice env) (λi s₂=>s₂.TypeIs o T/\wpAny Ġ A (getItem o i) Q E s₂) E s₁) E s):
  wpAny Ġ A (eval (.Subscript value slice pos) env) Q E s:=by
 show Subscript_ (GF h (λo s₁ h₁=>GF h₁ (λi s₂ h₂=>?_) λ_ _ x=>x) λ_ _ x=>x);let#[hT,h₂]:=h₂;show EX ?_;show EX (wpAny_specialOf hT hl ?_);let fin:wpAny Ġ A (subscripted slice false o i) (λr s₃=>wpAny Ġ A (letTemporaryGo value o r >>= λ_=>pure r) Q E s₃) E s₂:=by rw[hs o i];show wpAny_operating (GF h₂ (λr s₃ h₃=>EX<|wpAny_letTemporaryGo (Ff h₃)) λ_ _ x=>x)
 first
  | show Ff (EX fin)
  | show EX _
  | show EX fin
def lH (I)(g:Nl H a y o):s.TypeIs (.ref a) "dict":=by let#[ķ,k,e,_,_]:=g;let#[_,_,vs,_,dd]:=qX I.Jk e;show dd.typeIs
theorem V2 (td ty:TE):TE:=λσ H Q=>td σ H λx H1=>ty σ H1 λy H2=>∃ a v,x=.ref a/\Nl H2 a y !v/\Q v H2
theorem V3 (td ty tv:TE):TS:=λD σ H=>tv σ H λv H1=>td σ H1 λx H2=>ty σ H2 λy H3=>∃ a H4,x=.ref a/\Py H3 a y v H4/\D.nx σ H4
def E7 (hu)(ho:PE X o td)(hi:PE X i ty)(hs:XE i):PE X (.Subscript o i pos) (V2 td ty):=by intro ñ s σ H Q I h;show DL PySem.F.slot_dict_getitem.lookup hs (Jx (ho ñ s σ H _ I h) fun u s1 ⟨x,H1,I1,rx,q1⟩=>Jx (hi ñ s1 σ H1 _ I1 q1) λiv s2 gR=>?_);let#[y,H2,I2,ry,a,v,ex,g,q2]:=gR;subst ex;obtain rfl:u=Value.ref a:=rx;show#[lH I2 g,qY hu I2 g ry λw' s3 I3 Ql=>#[v,H2,I3,Ql,q2]]
def bB (hu)(ho:PE X o td)(hi:PE X i ty)(hv)(hs:swapsWith value (!.Subscript o i pos') pos.line X.env=pure false):
  PS X (.Assign [.Subscript o i pos'] value pos) (V3 td ty tv):=by
 intro ñ s σ H D I h;show wpAny_Assign_Subscript (Jx (hv ñ s σ H _ I h) fun r s1 ⟨v,H1,I1,rv,q1⟩=>Jx (ho ñ s1 σ H1 _ I1 q1) fun u s2 ⟨x,H2,I2,rx,q2⟩=>Jx (hi ñ s2 σ H2 _ I2 q2) λiv s3 gR=>?_) hs;let#[y,H3,I3,ry,a,H4,ex,g,q3]:=gR;subst ex;obtain rfl:u=Value.ref a:=rx;show AS hu I3 g ry rv λs4 I4=>#[σ,H4,I4,q3]
def wg (h:Heap)(hb:sysModules<h.objs.size):Jl P w H (h.push Ĝ) h.objs.size (.dK []):=
 #[FR _,IH.mpr<|Ne.symm (Gg hb),[],.nil,Heap.DictOf.new h]
theorem VN:TE:=λ_ H Q=>∀ p,H p=none->Q (.ref p) (upd H p (.dK []))
def NW:PE X (.Dict [] [] pos) VN:=λñ s σ H Q I h=>
 wpAny_Dict_empty #[.ref s.heap.objs.size,_,I.laid (λ_ _ q=>Fc _ q) (Fg _)<|wg s.heap I.big,1,h _<|I.Jk.fresh (Fg _)]
theorem rP:List (TE×TE)->St->Hp->(List (V×V)->Ø)->Prop
 | [],_,H,Q=>Q [] H
 | (tk,tv)::r,σ,H,Q=>tk σ H λx H1=>tv σ H1 λy H2=>rP r σ H2 λps H3=>Q ((x,y)::ps) H3
abbrev VV:List (V×V)->List (Value×Value)->Prop:=Paired λp q=>RelV p.1 q.1/\RelV p.2 q.2
theorem PPs (X)(pos:Pos)(keys:List (Option Expr))(values:Ì)(U'):Prop:=
 ∀ (ñ:ζ)(s:Ê)(σ:St)(H:Hp)(Q:List (V×V)->Ø),Inv X ñ σ H s->rP U' σ H Q->
  wpAny Ĥ X.A (evalPairs (pairTrees keys values X.env pos)) (λvs s'=>∃ ps H',Inv X ñ σ H' s'/\VV ps vs/\Q ps H') X.xe s
def yD:PPs X pos [] [] []:=λñ s σ H Q I h=>pairTrees_nil_walk #[[],H,I,.nil,h]
def dJ (hk:PE X k tk)(hv:PE X v tv)(hr:PPs X pos ks vs U'):
  PPs X pos (some k::ks) (v::vs) ((tk,tv)::U'):=λñ s σ H Q I h=>
 pairTrees_cons_walk (Jx (hk ñ s σ H _ I h) λu s1 ⟨x,H1,I1,rx,q1⟩=>Jx (hv ñ s1 σ H1 _ I1 q1) λw2 s2 ⟨y,H2,I2,ry,q2⟩=>
  Jx (hr ñ s2 σ H2 _ I2 q2) λws s3 gR=>(by let#[ps,H3,I3,rel,q3]:=gR;show#[(x,y)::ps,H3,I3,.cons #[rx,ry] rel,q3]))
theorem b6 (ķ more:ξ):ξ:=more.foldl (λacc kv=>dH acc kv.1 kv.2) ķ
def KV.merge:∀ {more:ξ}{rs:List (Key×Value)}{ķ:ξ}{vs:List (Key×Value)},KV more rs->KV ķ vs->KV (b6 ķ more) (merged vs rs):=by
 intro more rs ķ vs r
 induction r generalizing ķ vs with
 | nil=>intro q;show q
 | @cons p q ps qs h t ih=>
  intro r0;let e:KV (dH ķ p.1 p.2) (stored vs q.1 q.2):=by let:=r0.put p.1 h.2;rw[<- h.1];show this
  show ih e
def cq:∀ (more ķ:ξ),(b6 ķ more).length<=ķ.length+more.length:=by
 intro r'
 induction r' with
 | nil=>
  intro ķ;change ķ.length<=ķ.length+0;lia
 | cons p r ih'=>
  intro ķ;let h1:=ih'<|dH ķ p.1 p.2;let h2:=lA ķ p.1 p.2;change (b6 (dH ķ p.1 p.2) r).length<=_
  grind
def oJ:∀ {ķ:ξ}{ws:List (Value×Value)},VV (ķ.map λkv=>(kV kv.1,kv.2)) ws->∃ rs,Carries (aN P w) ws rs/\KV ķ rs:=by
 intro ķ
 induction ķ with
 | nil=>intro ws r;rw[GE]at r;cases r;show#[[],Hf,.nil]
 | cons p ķ ih=>
  intro ws r;rw[Fk]at r
  cases r with
  | @cons a b as bs h t=>
   let#[rs,c,q]:=ih t;let#[b1,b2]:=b;show#[(p.1,b2)::rs,#[jI h.1,1,c],.cons #[1,h.2] q]
theorem Yx (U'):TE:=λσ H Q=>∀ p,H p=none->rP U' σ (upd H p (.dK [])) λps H2=>H2 p=!.dK []/\∃ ķ:ξ,ps=ķ.map (λkv=>(kV kv.1,kv.2))/\ķ.length<=15/\Q (.ref p) (upd H2 p ŵ)
def yH (h:PPs X pos keys values U')(QT)(hl:keys.length=values.length)(h0:keys≠[])(h15):PE X (.Dict keys values pos) (Yx U'):=by
 intro ñ s σ H Q I q;show wpAny_Dict_walk (knd:=aN X.prog X.w) QT hl h0 h15 (Jx (h ñ _ σ _ _ (I.laid (λ_ _ q=>Fc _ q) (Fg _)<|wg s.heap I.big)<|q _ (I.Jk.fresh<|Fg s.heap.objs.size)) fun ws s2 ⟨ps,H2,I2,rel,e,ķ,ep,lk,q2⟩=>?_);subst ep;let#[rs,c,rk]:=oJ rel;let#[z,hd,vs0,r0,dd]:=D5 I2.Jk e
 cases r0;show#[rs,c,dd,λh' Vu hs=>#[.ref s.heap.objs.size,_,?_,1,q2]];let hz:(b6 [] ķ).length<=sizeLine:=by let h1:=cq ķ [];rw[HB]at h1;rw[IT];lia
 let he:∃ q,h'.get? s.heap.objs.size=!q:=let ⟨q,_,_,hq,_⟩:=Vu;#[q,hq];show tu I2 (by rw[e];show Hf) hs he (xY hz hd (rk.merge .nil) Vu)
structure M1 (X:Cx) (o:Expr) (m:Str) (apos:Pos) (e:Expr) (JI:Pos):Prop where
 base:attributeBase o m X.env (eval o X.env)=eval o X.env
 Ka:((backTo JI (starEach [e] X.env)).all (λx=>not x.1)&&(backToKw JI Ĺ).all (λx=>x.1.isSome)
  && decide (([e]:Ì).length+([]:List Keyword).length+ŧ<30))=true
 line:(apos.endLine==JI.line)=true
 trees:backTo JI (starEach [e] X.env)=[TW]
theorem IsD (H)(a:Addr):Prop:=(∃ ķ,Rd H a (.dK ķ))\/∃ ķ,Rd H a (.dT ķ)
def WL (I)(d:IsD H a):
  s.TypeIs (.ref a) "dict"/\(∀ b,Value.ref a=.ref b->∃ ob,s.heap.get? b=!ob/\ob.dict=none)/\(a==sysModules)=false:=by
 rcases d with⟨ķ,e⟩|⟨ķ,e⟩
 ·let#[_,hd,vs,_,dd]:=qX I.Jk e;show#[dd.typeIs,λb q=>?_,hd]
  cases q;let#[ob,_,_,h1,h2,_]:=dd;show#[ob,h1,h2.2.1]
 ·let#[_,hd,xs,_,dd]:=a0O I.Jk e;show#[dd.typeIs,λb q=>?_,hd]
  cases q;let#[ob,_,_,h1,h2,_]:=dd;show#[ob,h1,h2.2.1]
theorem Bu (td ty:TE):TE:=λσ H Q=>td σ H λx H1=>∃ a,x=.ref a/\IsD H1 a/\ty σ H1 λy H2=>∃ ķ k v,H2 a=!.dK ķ/\y=kV k/\cQ ķ k=!v/\Q v (upd H2 a (.dK (lE ķ k)))
def BV (ho:PE X o td)(he:PE X e ty)(m:M1 X o "pop" apos e JI):PE X (.Call (.Attribute o "pop" apos) [e] [] JI) (Bu td ty):=by intro ñ s σ H Q I h;show wpAny_Call_method m.base m.Ka m.line PySem.F.plainAttrs_dict PySem.F.slot_dict_pop PySem.F.type_dict_pop (Jx (ho ñ s σ H _ I h) λu s1 gR=>?_);let#[x,H1,I1,rx,a,ex,d,q1]:=gR;subst ex;obtain rfl:u=Value.ref a:=rx;let#[t1,t2,_]:=WL I1 d;show#[t1,t2,?_];rw[m.trees];show Hx rfl<|Calls.evalArgs_plain (Calls.spliced_cons (Jx (he ñ s1 σ H1 _ I1 q1) fun iv s2 ⟨y,H2,I2,ry,ķ,k,v,ea,ey,l,q2⟩=>Calls.spliced_nil ?_));subst ey;show a0P I2 ea ry l Ń λw' s3 I3 Ql=>#[v,_,I3,Ql,q2]
theorem OK (h:Heap)(d)(es:Ñ)(ep:Nat):Prop:=∃ o,h.get? d=!o/\o.ExactDict/\o.data=.dict es ep
def OK.to (x:OK h d es ep)(k:∀ o,h.get? d=!o->h'.get? d=!o):OK h' d es ep:=let ⟨o,a,r⟩:=x;#[o,k o a,r]
section
variable {prog:É}{w:World}{A:Ë}{d:Addr}{es:Ñ}{i ep:Nat}
def OK.ty {s:Ê}(x:OK s.heap d es ep):s.TypeIs (.ref d) "dict":=let ⟨o,a,c,_⟩:=x;#[o,a,c.1]
def BE (hd:(d==sysModules)=false)(x:OK s.heap d es ep)(hQ:Q KB { s with heap:=s.heap.push { cls:=.type "dict_keyiterator",data:=.fields [.ref d,.int 0 0,.int es.size 0,.int ep 0].toArray } }):
  wpAny Ġ A (pyIter (.ref d)) Q E s:=by
 let T:=x.ty;let#[o,a,_,b]:=x;show wpAny_pyIter_slot T F.slot_dict_iter (HJ F.slot_dict_iter T F.entry_dict_iter ?_<|F.args_dict_iter_1 _);unfold Builtin.«dict.__iter__» Builtin.Dict.dictSlotNone Builtin.Dict.showsAll;show EX<|EX (Il T (Ff ?_));show EX (Ff ?_);rw[if_neg<|by simp_all];show EX<|Ff (EX<|IS a b (EX<|wpAny_dictEpoch a b (EX<|IQ (Ff #[_,1,"dict_keyiterator",_,#[_,Fx _ rfl,1],F.slot_dict_keyiterator_next.lookup,?_]))));show hQ
def BF (I:s.heap.IsKeyIter it d i es.size ep)(x:OK s.heap d es ep)(hi:i<es.size)(hQ:∀ h',h'.IsKeyIter it d (i+1) es.size ep->Heap.SameBut it s.heap h'->Q (some es[i].key) { s with heap:=h' }):wpAny Ġ A (pyNext XL) Q E s:=by
 let T:=I.typeIs;let#[u,u1,u2,u3]:=id I;let#[o,a,_,b]:=x;show EX<|wpAny_attempt (Hq T HD (HJ HD T F.entry_dict_keyiterator_next ?_<|F.args_dict_keyiterator_next_1 _));show EX<|Ff (EX (EX ?_));show EX<|Ht T (Ff<|EX (wpAny_fieldsOf u1 u3 ?_));show EX<|Ff (EX (IS a b ?_));rw[if_neg<|by simp];show EX<|Ff (EX (wpAny_dictEpoch a b ?_));rw[if_neg<|by simp];show Ff ?_;simp only[GM,HN hi];show EX<|EX (Ht T<|Ff (EX (wpAny_isOneOf_keyiter T ?_)));change wpAny _ _ (setField _ 1 _ >>= _) _ _ s;show EX (wpAny_setField u1 u3 Ğ ?_);let J:(s.heap.update it<|Obj.mapFields (·.setIfInBounds 1 (rawInt<|(i)+1))).IsKeyIter it d (i+1) es.size ep:=#[_,Heap.get?_update_self _ u1<|Obj.isFreed_of_fields (Obj.data_mapFields u3 _),(Obj.cls_mapFields ..).trans u2,by rw[Obj.data_mapFields u3];simp[rawInt]]
 show EX (GC<|EX (wpAny_isOneOf_keyiter J.typeIs ?_));show Ff (Ff #[_,1,Ff<|hQ _ J (Heap.SameBut.update ..)])
def DW (hh)(I:s.heap.IsKeyIter it d i es.size ep)(x:OK s.heap d es ep)(hi:es.size<=i)(hQ:∀ h',Heap.ExtBut it s.heap h'->Q none { s with heap:=h' }):wpAny Ġ A (pyNext XL) Q E s:=by let T:=I.typeIs;let#[u,u1,u2,u3]:=id I;let#[o,a,_,b]:=x;show EX<|wpAny_attempt (Hq T HD (HJ HD T F.entry_dict_keyiterator_next ?_<|F.args_dict_keyiterator_next_1 _));show EX<|Ff (EX (EX ?_));show EX<|Ht T (Ff<|EX (wpAny_fieldsOf u1 u3 ?_));show EX<|Ff (EX (IS a b ?_));rw[if_neg<|by simp];show EX<|Ff (EX (wpAny_dictEpoch a b ?_));rw[if_neg<|by simp];show Ff ?_;simp only[GM,Array.getElem?_eq_none hi];show EX<|EX (Ht T (Ff ?_));change wpAny _ _ (setField _ 0 .none >>= _) _ _ s;show EX (wpAny_setField u1 u3 Ğ ?_);show EX ?_;show EX (IQ ?_<|by size_fits);show EX<|wpAny_of_eq (by first|rfl|(rfl)) (IQ ?_<|by size_fits);show EX (wpAny_handled ?_);rw[hh];show EX<|Ff (wpAny_throw ?_);show EX<|wpAny_isInstance #[_,Fx _ rfl,1] isSubtype_stop (Ff ?_);show hQ _ (((Heap.SameBut.update ..).extBut.push _).push _)
def zU (hh)(I:Addr)(Sg:d≠I):Walks prog w A I [I,d] [I] es.size (λi v=>(es[i]?).map (·.key)=!v) (λi h=>h.IsKeyIter I d i es.size ep/\OK h d es ep) where
 sub:=λb hb=>by simp at hb;simp[hb]
 frame:=λ_ _ _ st hk=>#[st.1.at λo e=>hk I Ğ o e,st.2.to λo e=>hk d Ğ o e]
 item:=λi s Q E hi st hQ=>BF st.1 st.2 hi λh' J hs=>hQ _ h' s.toks Ħ #[J,st.2.to λo e=>hs.extBut d o Sg e] λb o hb e=>hs.extBut b o (λh=>hb<|by simp[h]) e
 done:=λs Q E st hQ=>DW hh st.1 st.2 (Fg _) λh' he=>hQ h' s.toks λb o hb e=>he b o (λh=>hb<|by simp[h]) e
 self:=λ_ _ _ _ st hQ=>wpAny_pyIter_keyiter st.1 hQ
def yw (lo):W.KdlSrc prog w "dict" d d es.size (λi v=>(es[i]?).map (·.key)=!v) (λh=>OK h d es ep) where
 type:=λ_ x=>x.ty
 there:=λ_ gR=>by let#[_,a,_]:=gR;show#[FD a,FD a]
 keep:=λ_ _ x hk=>x.to λo e=>hk d Ń o e
 notList:=by decide
 notTuple:=by decide
 hint:=λ_ _ _ _ x hq=>W.kdl_hint_dict x.ty hq
 iter:=λ_ s hh x=>#[_,_,λ_ _ hq=>BE lo x hq,zU hh _ (let #[_,a,_]:=x;Gg<|FD a),⟨⟨_,Fx _ rfl,rfl,rfl⟩,x.to λ_ e=>Fc _ e⟩]
universe e
def pi (lo):MeetsIn prog w (Builtin.«dict.__len__» #[[.ref d],[]]) (λ_ R s=>∃ es ep,OK s.heap d es ep/\R (.ok (.ret (.int es.size s.toks))) { s with toks:=s.toks+1 }):=
 .of_wp λA R s gR=>by
  let#[es,ep,#[o,a,_,b],h]:=gR;change wpAny _ _ (dictSize d >>= _) _ _ s;show EX<|EX (IS a b (Ff ?_));show EX (wpAny_pendingCount_other lo (wpAny_ret_mkInt ?_))
  simp_all
def DV (lo)(x:OK s.heap d es ep)(fit:(es.size:Int)<2 ^ 63)(h:Q (.int es.size (s.toks+1)) { s with toks:=s.toks+1+1 }):wpAny Ġ A (call KK [.ref d]) Q E s:=by show Calls.call_function_entry kind_len plain_len entry_len (args_len1 _) ?_;show EX (Ff ?_);show EX<|Hq x.ty F.slot_dict_len (call_meetsIn F.slot_dict_len x.ty F.entry_dict_len (F.args_dict_len_1 _) (pi lo) #[es,ep,x,?_]);show EX<|GC (Ff<|EX (wpAny_letGo ?_));change wpAny _ _ (if _ ≥ 2 ^ 63 then _ else _) _ _ _;rw[if_neg<|by lia];show EX (wpAny_mkInt<|Ff #[_,1,h])
section
variable {X:Cx}{ñ:ζ}{σ:St}{H:Hp}{s:Ê}{d:Addr}{o:Obj}
theorem NF (X)(d):Prop:=∀ o u,X.H₀ d≠!.frz o u
def Inv.nf (I)(hd:H d=!.dK ķ):NF X d:=λo u z=>by let:=I.base.Om d o u z;rw[hd]at this;cases this
def mQ {o:HO}{H:Hp}(x:Jl P w H h a o)(hd:H d=!u)(h1:∀ b,u≠.own b)(h2):Jl P w (upd H d v) h a o:=
 x.Kr (λ_ _ _ q=>q) (λb q=>by rw[a8 λz=>by simp_all];show q) λb xs q=>by rw[a8 λz=>by simp_all];show q
def Inv.Rb {u v:HO}(I)(hd:H d=!u)(h1:∀ b,u≠.own b)(h2)(h3:∀ ps,u≠.tbl ps)(h4:∀ o' u',X.H₀ d=!.frz o' u'->False)(new:Jl X.prog X.w (upd H d v) s.heap d v):Inv X ñ σ (upd H d v) s where
 ok:=I.ok
 os:=I.os
 bare:=I.bare
 base:=#[I.base.keep,I.base.slot,λb ob q n hx=>by rw[a8 (λz=>by let:=I.base.free b ob q n hx;rw[z,hd]at this;cases this)];show I.base.free b ob q n hx,I.base.there,
  λb xs q=>by let:=I.base.OS b xs q;rw[a8 (λz=>by rw[z,hd]at this;show h2 _<|Option.some.inj this)];show this,
  λb ob w q=>(a8 (λz:b=d=>h4 ob w (show X.H₀ d=some _ by rw[<- z];show q))).trans<|I.base.Om b ob w q]
 loc:=I.loc
 cell:=I.cell
 free:=by rw[a8 (λz=>by let:=I.free;rw[z,hd]at this;cases this)];show I.free
 KC:=λx c e=>by rw[a8 (λz=>by let:=I.KC x c e;rw[z,hd]at this;cases this)];show I.KC x c e
 pin:=λp hp=>by let#[a1,a2,a3]:=I.pin p hp;show#[a1,by rw[a8 (λz=>by rw[z,hd]at a2;cases a2)];show a2,a3]
 Jk:=λa ob e=>by
  by_cases ha:a=d
  ·subst ha;rw[af]at e;cases e;show new
  ·rw[a8 ha]at e;show mQ (I.Jk a ob e) hd h1 h2
 len:=I.len
def Inv.freeze (I)(hd:H d=!.dK ķ)(ho:s.heap.get? d=!o):Inv X ñ σ (upd H d (.frz o (.dK ķ))) s:=
 I.Rb hd ņ ņ ņ (λo u z=>I.nf hd o u z) #[ho,mQ (I.Jk d _ hd) hd ņ λ_ z=>nomatch z]
def Inv.VH (I)(hd:H d=!.frz o (.dK ķ))(nf:NF X d):Inv X ñ σ (upd H d (.dK ķ)) s:=
 I.Rb hd ņ ņ ņ (λo u z=>nf o u z) (mQ (I.Jk d _ hd).2 hd ņ λ_ z=>nomatch z)
universe e
theorem Itk (o)(d):It:=
 ⟨λi H=>∃ ķ kv,H d=!.frz o (.dK ķ)/\ķ[i]?=!kv,λi H x H'=>H'=H/\∀ ķ,H d=!.frz o (.dK ķ)->∃ kv,ķ[i]?=!kv/\x=kV kv.1,λi H=>∃ ķ,H d=!.frz o (.dK ķ)/\ķ.length<=i⟩
theorem Yc (o)(d):It:=
 ⟨λi H=>∃ ķ kv,H d=!.frz o (.dK ķ)/\ķ[i]?=!kv,λi H x H'=>H'=H/\∀ ķ,H d=!.frz o (.dK ķ)->∃ kv,ķ[i]?=!kv/\x=kv.2,λi H=>∃ ķ,H d=!.frz o (.dK ķ)/\ķ.length<=i⟩
def mr (h:(aN P w).is k u=true):RelV (kV k) u:=by
 rcases bo h with⟨i,t,rfl,rfl⟩|⟨x,t,rfl,rfl⟩
 ·show#[t,1]
 ·show#[t,1]
section
variable {d:Addr}{o:Obj}{es:Ñ}{ep:Nat}
def Inv.Y5 (I)(hd:H d=!.frz o (.dK ķ))(ed):∃ vs,KV ķ vs/\s.heap.DictAt (aN X.prog X.w) d vs ep/\vs.length=es.size:=by let#[ho,z,lo,vs,r,ob,es',ep',e1,c1,c2,c3,c4,c5]:=I.Jk d _ hd;rw[ho]at e1;cases e1;rw[ed]at c2;cases c2;show#[vs,r,#[o,es,ho,c1,ed,c3,c4,c5],?_];let:=c4.length;rw[<- this];simp
def zG {tg:Expr}{P:É}{w:World}{K:Ψ} (it d:Addr) (o) {es:Ñ}{ep:Nat} (ed):tM P w K tg (Itk o d) [it] it (λi h=>h.IsKeyIter it d i es.size ep) where
 mem:=by simp
 obj:=λi h st b hb=>by
  let e:b=it:=by simpa using hb
  let#[o,e,c,d]:=st
  simp_all
 keep:=λi h h' st k=>st.at λo e=>k it Ğ o e
 item:=by
  intro X hP hw hK hc i ñ s σ H E I hf st hg;subst hP hw hK;let#[ķ,kv,hd,hx]:=hg;let#[vs,r,da,hl]:=I.Y5 hd ed;let#[f0,f1,f2,f3,f4,f5]:=hf it Ğ;let#[q,hq,hr]:=Paired.at r hx;rw[<- hl]at st;show wpAny_pyNext_dict_item st da hq λkey h' Tc PR sb=>?_;let I1:Inv X ñ σ H { s with heap:=h' }:=I.turned Ũ f0 f1 f3 f4 f5;let#[o',e',c',d']:=id PR;rw[hl]at PR;show#[key,1,qK e' c' d' ż #[kV kv.1,H,I1,?_,#[1,λWA Po=>?_],PR,λb hb=>(hf b hb).1]]
  ·rw[hr.1];show mr Tc
  ·simp_all
 done:=by intro X hP hw hK hc i ñ s σ H E I hf st hg;subst hP hw hK;let#[ķ,hd,hx]:=hg;let#[vs,r,da,hl]:=I.Y5 hd ed;let#[f0,f1,f2,f3,f4,f5]:=hf it Ğ;rw[<- hl]at st;let:=KV.length r;show wpAny_pyNext_dict_end Ŋ st da (Gw<|by lia) λh' eb=>#[1,I.turned ű f0 f1 f3 f4 f5]
 self:=λ_ _ _ _ _ st h=>wpAny_pyIter_keyiter st h
def zF {tg:Expr}{P:É}{w:World}{K:Ψ} (it d:Addr) (o) {es:Ñ}{ep:Nat} (ed):tM P w K tg (Yc o d) [it] it (λi h=>h.IsValIter it d i es.size ep) where
 mem:=by simp
 obj:=λi h st b hb=>by
  let e:b=it:=by simpa using hb
  let#[o,e,c,d]:=st
  simp_all
 keep:=λi h h' st k=>st.at λo e=>k it Ğ o e
 item:=by
  intro X hP hw hK hc i ñ s σ H E I hf st hg;subst hP hw hK;let#[ķ,kv,hd,hx]:=hg;let#[vs,r,da,hl]:=I.Y5 hd ed;let#[f0,f1,f2,f3,f4,f5]:=hf it Ğ;let#[q,hq,hr]:=Paired.at r hx;rw[<- hl]at st;show wpAny_pyNext_values_item st da hq λh' PR sb=>?_;let I1:Inv X ñ σ H { s with heap:=h' }:=I.turned Ũ f0 f1 f3 f4 f5;let#[o',e',c',d']:=id PR;rw[hl]at PR;show#[q.2,1,qK e' c' d' ż #[kv.2,H,I1,hr.2,#[1,λWA Po=>?_],PR,λb hb=>(hf b hb).1]]
  simp_all
 done:=by intro X hP hw hK hc i ñ s σ H E I hf st hg;subst hP hw hK;let#[ķ,hd,hx]:=hg;let#[vs,r,da,hl]:=I.Y5 hd ed;let#[f0,f1,f2,f3,f4,f5]:=hf it Ğ;rw[<- hl]at st;let:=KV.length r;show wpAny_pyNext_values_end Ŋ st da (Gw<|by lia) λh' eb=>#[1,I.turned ű f0 f1 f3 f4 f5]
 self:=λ_ _ _ _ _ st h=>wpAny_pyIter_valiter st h
universe e
def DF:∀ {us:θ},xs.length=us.length->(∀ (j:Nat)(x:V)(u:Value),xs[j]?=!x->us[j]?=!u->RelV x u)->Vals xs us:=by
 induction xs with
 | nil=>intro us hl h;cases us with
  | nil=>show .nil
  | cons u us=>cases hl
 | cons x xs ih=>intro us hl h;cases us with
  | nil=>cases hl
  | cons u us=>show .cons (h 0 x u rfl rfl) (ih Ľ λj y v hy hv=>h (j+1) y v (hy)<|hv)
theorem sgn (x)(i):Str:=⟨[x.cps.getD i 0].toArray⟩
theorem Its (x):It:=⟨λi _=>i<x.cps.size,λi H v H'=>H'=H/\v=.str (sgn x i),λi _=>i=x.cps.size⟩
def uk {tg:Expr}{P:É}{w:World}{K:Φ} (it:Addr) (x) (t:Tok) (ty:String) (Uw:["enumerate","zip","dict_itemiterator","dict_reverseitemiterator","odict_iterator","itertools.zip_longest","itertools.pairwise"].contains ty=false)
  (W:∀ A:Ë,A.handled=none->Walks P w A it [it] [it] x.cps.size (SignAt x) (λi h=>h.IsStrIter it ty x t i))
  (ZI:∀ (A:Ë)(i:Nat)(s:Ê)(Q:ρ)(E:ρ),s.heap.IsStrIter it ty x t i->Q XL s->wpAny Ż A (pyIter XL) Q E s):tM P w K tg (Its x) [it] it (λi h=>h.IsStrIter it ty x t i) where
 mem:=by simp
 obj:=λi h st b hb=>by
  let e:b=it:=by simpa using hb
  let#[o,e,c,d]:=st
  simp_all
 keep:=λi h h' st k=>by let#[o,e,r]:=st;show#[o,k it Ğ o e,r]
 item:=by
  intro X hP hw hK hc i ñ s σ H E I hf st hg;let#[f0,f1,f2,f3,f4,f5]:=hf it Ğ;show (W X.A<|I.ok.hd hc).item i s _ _ hg st λv h' tk hv PR kk=>?_;let#[c,u,hcx,1]:=hv;let I1:Inv X ñ σ H { s with heap:=h',toks:=tk }:=I.turned L8 f0 f1 f3 f4 f5;let#[o',e',c',d']:=id PR;show#[_,1,qK e' c' d' Uw #[.str _,H,I1,#[u,?_],#[2],PR,λb hb=>(hf b hb).1]];unfold sgn
  simp_all
 done:=by intro X hP hw hK hc i ñ s σ H E I hf st hg;let#[f0,f1,f2,f3,f4,f5]:=hf it Ğ;let hi:=hg;subst hi;show (W X.A<|I.ok.hd hc).done s _ _ st λh' tk kk=>#[1,I.turned L8 f0 f1 f3 f4 f5]
 self:=λA i s Q E st h=>ZI A i s Q E st h
section
theorem a3k (tl:TE):TI:=λσ H R=>tl σ H λv H1=>∃ x,v=.str x/\R (Its x) H1
def W5 (hl:PE X l tl):PI X tg l (a3k tl):=by
 intro ñ s σ H R I h;show Jx (hl ñ s σ H _ I h) λv s1 gR=>?_;let#[z,H1,I1,r1,q1]:=gR;let#[x,1,q]:=q1;let#[t,1]:=r1;let fp:∀ (b:Addr),b∈[s1.heap.objs.size]->lf X ñ H1 b:=λb hb=>by
  let e:b=s1.heap.objs.size:=by simpa using hb
  subst e;show I1.OZ (Fg _) (I1.Jk.fresh<|Fg _)
 cases ha:x.cps.all _
 ·show wpAny_pyIter_wide ha ?_;show#[s1.heap.objs.size,[s1.heap.objs.size],_,_,H1,1,I1.kept λb o e=>Fc _ e,uk _ x t "str_iterator" ż (λA' hA=>Walks.strWide hA _ x t) λA i s Q E st h=>wpAny_pyIter_striter_wide st h,#[_,Fx _ rfl,2],fp,q]
 ·show wpAny_pyIter_ascii ha ?_;show#[s1.heap.objs.size,[s1.heap.objs.size],_,_,H1,1,I1.kept λb o e=>Fc _ e,uk _ x t "str_ascii_iterator" ż (λA' hA=>Walks.strAscii hA _ x t) λA i s Q E st h=>wpAny_pyIter_striter_ascii st h,#[_,Fx _ rfl,2],fp,q]
abbrev _root_.Ð:=List Bool
def B8 {bs:Ð}:(List.range bs.length).all (λi=>bs.getD i true)=bs.all id:=by
 rw[Go];simp only[GI,FS];constructor
 ·intro h b hb;let#[i,hi,1]:=GZ hb
  simp_all
 ·intro h i hi;rw[F7,EW hi];show h _ (Gi hi)
def kX (K)(hc)(hK):JG X (.builtin "all") IO:=by
 subst hK;intro ñ s σ H xs us Q I r h;let#[p,bs,1,hq,q]:=h;let#[u,1,r1]:=dD r
 cases r1;let#[its,rv,pl,hz]:=I.list hq;let hlen:its.length=bs.length:=by let:=rv.length;rw[EV]at this;lia
 let hpn:p≠s.heap.objs.size:=by let#[_,_,e,_]:=pl;show Gg (FD e)
 show call_all_walk ?_;show HZ pl.isList ?_;show#[s.heap.objs.size,[s.heap.objs.size,p],[s.heap.objs.size],its.toArray.size,_,_,λi=>bs.getD i true,1,Walks.list (A:=X.A.in1) Ŋ _ p hpn its.toArray,#[#[_,Fx _ rfl,2],pl.isList.push _],λi v s' Q' E' hv hQ=>?_,λh' tk hk=>?_]
 ·let hv:its[i]?=!v:=by simpa using hv
  let hi:i<bs.length:=by rw[<- hlen];show (EY.mp hv).1
  let hb:(bs.map V.bl)[i]?=!V.bl bs[i]:=by simp_all
  let#[w1,e1,r1]:=rv.get hb;rw[hv]at e1;cases e1;obtain rfl:v=Value.bool bs[i]:=r1;dsimp only at hQ;rw[F7,EW hi]at hQ;show Hi hQ
 ·let e:its.toArray.size=bs.length:=by simp[hlen]
  rw[e,B8];show#[.bl _,H,I.kept λb o e=>hk b o (λz=>?_)<|Fc _ e,1,q];show absurd (FD e) Ħ
def pJ (hc):JG X Ş (λxs H Q=>∃ d ķ,xs=[.ref d]/\Rd H d (.dK ķ)/\Lj H (.lst Ś) Q):=by
 intro ñ s σ H xs us Q I r h;let#[d,ķ,1,hd,q]:=h;let#[u,1,rx]:=dD r
 cases rx;let#[z,lo,vs,rel,o,es,ep,ho,hx,Oi,hk,hp,Vq]:=(hd.ok I.Jk)
 let hl:es.size=vs.length:=by rw[<- hp.length];simp
 let WX:=KV.length rel;show W.kdl_call (yw lo) Ŋ #[o,ho,hx,Oi] Ħ λh' tk acc c keep LO RY=>?_;let WO:Vals Ś acc.toList:=by
  show DF (by let h1:=RY.1;rw[<- Array.length_toList]at h1;rw[EV,h1,hl,WX]) λj x u' hx hu=>?_;rw[Fb]at hx;let#[kv,ekv,1]:=FI.mp hx;let#[q',OO,T5]:=Paired.at rel ekv;let hj:j<es.size:=by rw[hl];show (EY.mp OO).1
  let h1:(es[j]?).map _=!u':=RY.2 j u' Ħ;rw[HN hj]at h1;let:=Option.some.inj h1;rw[<- this,T5.1];show mr ((Pairs.get? hp Ħ OO).1)
 show#[.ref s.heap.objs.size,_,I.laid keep (Fg _)<|show Jl X.prog X.w _ h' _ (.lst _) from #[by simp_all,acc.toList,c,WO,?_],1,q.at (I.Jk.fresh<|Fg _)];simpa using LO
def O3:JG X KK (λxs H Q=>∃ d ķ,xs=[.ref d]/\Rd H d (.dK ķ)/\Q (.int ķ.length) H):=by
 intro ñ s σ H xs us Q I r h;let#[d,ķ,1,hd,q]:=h;let#[u,1,rx]:=dD r
 cases rx;let#[z,lo,vs,rel,o,es,ep,ho,hx,Oi,hk,hp,Vq]:=(hd.ok I.Jk)
 let hl:es.size=ķ.length:=by rw[KV.length rel,<- hp.length];simp
 show DV lo #[o,ho,hx,Oi] (by let:ķ.length<=2 ^ 24:=z;lia) ?_;rw[hl];show#[.int ķ.length,H,I.tok _,#[_,1],q]
def lI:JG X KK (λxs H Q=>∃ d ķ,xs=[.ref d]/\H d=!.dK ķ/\Q (.int ķ.length) H):=O3.imp λ_ _ _ gR=>by let#[d,ķ,e,h,q]:=gR;show#[d,ķ,e,.inl h,q]
variable {C:Addr}{sp:Sp}{x m:Str}{ta:TE}
def qf (he:PE X o ta)(D:Dm X.prog X.w X.K X.mg X.base k C m ps sp)(hr)(ht:eval ī X.env=(do
   let ov <- eval o X.env
   standAt apos.atName
   let (f,first) <- holding [ov] Ŝ
   callWith pos f first (backTo pos (starEach [] X.env)) Ĵ):=Ą):
  PE X ī (pU C m sp [] E0 ta wW):=by
 let#[f,fd,cl,hm,b,F]:=D;show BR he cl hm F hr b .nil lv ht
def Aa (D:Dk X.prog X.w X.K X.mg X.base k x C ps sp)(hr:Jn (k+1) X.A)(hg:Gl X x)(Mm):
  PE X (.Call (.Name x p) [] [] pos) (yo C sp [] E0 wW):=by
 let#[f,fd,hm,M,b,F]:=D;show BS M F hr hg hm b .nil lv Mm
theorem VM (Cs:Addr->Prop)(m:Str)(sp:Addr->Sp)(ta):TE:=λσ H Q=>ta σ H λx H1=>∃ a C dx fs,x=.ref a/\Cs C/\H1 a=!.ins C dx fs/\fs.lookup m=none/\sp C [x] H1 Q E0
def qg {sp:Addr->Sp}(he:PE X o ta)(D:∀ C,Cs C->Dm X.prog X.w X.K X.mg X.base k C m ps (sp C))(hr)(ht:eval ī X.env=(do
   let ov <- eval o X.env
   standAt apos.atName
   let (f,first) <- holding [ov] Ŝ
   callWith pos f first (backTo pos (starEach [] X.env)) Ĵ):=Ą):
  PE X ī (VM Cs m sp ta):=by
 intro ñ s σ H Q I h;show W.methodCall_KW (Jx Ō λu s1 gR=>?_) ht;let#[x,H1,I1,rx,a,C,dx,fs,ex,hC,ea,l,q]:=gR;subst ex;obtain rfl:u=Value.ref a:=rx;let#[f,fd,cl,hm,b,F]:=D C hC;show jc I1 ea cl hm l ?_;show W.callWith_K0 I1.LY hm.kp (se (vs:=[.ref a]) F hr b .nil lv I1 (.cons rfl .nil) q)
universe e
def zP (hd:H d=!.dK ķ)(e:f' (upd H d (.frz o (.dK ķ))) H'):f' H (upd H' d (.dK ķ)):=λb u hb=>by
 by_cases z:b=d
 ·grind [af]
 ·rw[a8 z];show e b u (by rw[a8 z];show hb)
structure Kb (K:Ψ) (x ğ:Str) (st:Stmt) (f:Addr) (fd:È):Prop where
 ex:∃ (oc:Value)(od:ψ)(dV kV doc pm:Value)(an:ψ)(J7 ct:Value)(KR:ω),
  fd=W.fnOf x ğ (aP st) (ay st) (aa st) dV kV doc pm an J7 ct/\K.lookup f=some ⟨oc,od,.func fd,KR⟩/\W.codeIn K J7 ğ=true
 kp:W.keepIn K (.ref f)=true
def Kb.okX {K:Ψ}{st:Stmt}{k:Nat}(F:Kb K x ğ st f fd)(S:ax N ps (aa st))(len)(Me:∀ (J7:Value)(A:Ë)(outer:List Env)(s:Ê)(H:Hp)(vs:π)(Q:VK)(E:XK),Jn k ę->sp vs H Q E->
   ∃ t,Nj ň (ay st) t/\t { nx:=λ_ H'=>Q .non H',rt:=Q } C6 H):Jy P w K mg base (Oa P w) (k+1) f fd ps sp:=by
 let#[oc,od,dV,kV,doc,pm,an,J7,ct,KR,1,lk,Qe]:=F.ex;show z8 lk Qe S len λA outer s H vs Q E hr Rq=>Me J7 A outer s H vs Q E hr Rq
theorem Ite (K)(a:Addr):It:=
 ⟨λi H=>∃ xs x,Jq K H a xs/\xs[i]?=!x,λi H v H'=>∃ T,H T=none/\v=.ref T/\∃ x,(∀ xs,Jq K H a xs->xs[i]?=!x)/\H'=upd H T (.tup [.int i,x]),λi H=>∃ xs,Jq K H a xs/\xs.length<=i⟩
theorem a2p (e it a:Addr)(i)(h:Heap):Prop:=(∃ old,IsEnum h e it i old)/\h.IsListIter it a i
def zH {P:É}{w:World}{K:Ψ}{elts:Ì}{x1:Nat}{LH:Pos} (a e it:Addr) (ne:e≠it):tM P w K ŝ (Ite K a) [e,it] e (a2p e it a) where
 mem:=by simp
 obj:=λi h st c hc=>by
  let#[#[old,h1],#[o2,e2,c2,d2]]:=st;simp only[Fv,FZ,Iv]at hc;rcases hc with rfl|rfl
  ·simp_all
  ·simp_all
 keep:=λi h h' st k=>by let#[#[old,h1],h2]:=st;show#[#[old,k e Ğ _ h1],h2.at λo z=>k it Ğ o z]
 item:=by
  intro X hP hw hK hc i ñ s σ H E I hf st hg;subst hP hw hK;let#[xs,x,hx,ex]:=hg;let#[#[old,h1],h2]:=st;let#[its,rv,p,hz]:=I.list hx;let#[w1,ew1,r1]:=rv.get ex;show wpAny_pyNext_enum_item h1 h2 p.isList (by simpa using ew1) ne λh' a1 a2 a3 a4 a5=>?_;show#[_,1,wpAny_letOwnedTupleGo_enum a1 λRy b1 sb=>?_];let hT:=I.Jk.fresh<|Fg _;let V0:∀ c∈[e,it],c≠s.heap.objs.size:=λc hc z=>by
   let:∃ o,s.heap.get? c=!o:=by
    simp only[Fv,FZ,Iv]at hc;let#[o2,e2,_]:=h2;rcases hc with rfl|rfl
    ·show#[_,h1]
    ·show#[_,e2]
   let#[o,q]:=this;show absurd (FD q) Ħ
  let kk:∀ c o,c∉[e,it]->s.heap.get? c=!o->Ry.get? c=!o:=λc o hc z=>by simp only[Fv,FZ,Iv,not_or]at hc;show sb.extBut _ _ hc.1 (a5 c o hc.1 hc.2 z)
  let I1:Inv X ñ σ H { s with heap:=Ry,toks:=s.toks+1 }:=I.NK hf kk;let I2:Inv X ñ σ (upd H s.heap.objs.size<|.tup [.int i,x]) { s with heap:=Ry,toks:=s.toks+1 }:=by show I1.Sx (I.OZ (Fg _) hT) I.sz #[by change 2<=sizeLine;decide,[.int i s.toks,w1],.cons #[_,1]<|.cons r1 .nil,?_];show#[_,sb.extBut _ _ (Ne.symm<|V0 e Ğ) a3,1,_,1]
  show#[.ref s.heap.objs.size,_,I2,1,#[_,hT,1,x,λxs' Ro=>by rw[I.MK Ro hx];show ex,1],#[#[w1,?_],?_],λc hc=>?_]
  ·simpa using b1
  ·show a2.extBut sb.extBut (Ne.symm ne)
  ·rw[a8<|V0 c hc];show (hf c hc).1
 done:=by
  intro X hP hw hK hc i ñ s σ H E I hf st hg;subst hP hw hK;let#[xs,hx,hl]:=hg;let#[#[old,h1],h2]:=st;let#[its,rv,p,hz]:=I.list hx;let l1:=rv.length;show wpAny_pyNext_enum_end Ŋ h1 h2 p.isList (by simp;lia) λh' kk=>#[1,I.NK hf λc o hc z=>?_]
  simp only[Fv,FZ,Iv,not_or]at hc;show kk c o hc.2 z
 self:=λ_ _ _ _ _ st h=>wpAny_pyIter_enum st.1.choose_spec h
def oN:bootBuiltins "enumerate"=!.type "enumerate":=by decide +kernel
theorem Zv (K)(ta:TA):TI:=λσ H R=>ta σ H λvs H1=>∃ a xs,vs=[.ref a]/\H1 a=!.lst xs/\R (Ite K a) H1
def sx (K){x1:Nat}(hg:Gl X "enumerate")(hm:X.mg "enumerate"=none)(ha:PA X [e1] ta)(hK)(hs:starEach [e1] X.env=[(false,eval e1 X.env)]:=Ą):PI X ŝ (.Call (.Name "enumerate" p) [e1] [] pos) (Zv K ta):=by
 subst hK;intro ñ s σ H R I h;show Call_<|ga I hg hm oN (Gx (Jx (ha pos ñ s σ H _ I h) λus s1 gR=>?_) hs rfl);let#[vs,H1,I1,r1,q1]:=gR;let#[a,xs,1,hx,q]:=q1;let#[u,1,ru]:=dD r1
 cases ru;let#[its,n,rv,ho,hz]:=I1.lst hx;show call_enumerate_1 ho λh' a1 a2 a3 a4=>wpAny_pyIter_enum a1 ?_;let I2:Inv X ñ σ H1 { s1 with heap:=h' }:=I1.kept a4;show#[_,[s1.heap.objs.size+1,s1.heap.objs.size],_,_,H1,1,I2,zH a _ _<|GT (Gv _),⟨⟨_,a1⟩,a2⟩,λc hc=>?_,q];let le:@LE.le Nat _ s1.heap.objs.size c:=by
  simp only[Fv,FZ,Iv]at hc;rcases hc with rfl|rfl
  ·show Nat.le_succ _
  ·show Fg _
 show I1.OZ le (I1.Jk.fresh le)
def vV {K:Φ}{tb:TS}{D:d9}(Pv)(h0)(hl:∀ i σ H,i<=xs.length->Pv i σ H->Jq K H a xs)(hs:∀ (i:Nat)(x:V)(T:Addr) σ H,xs[i]?=!x->Pv i σ H->H T=none->tb { D with nx:=Pv (i+1),ct:=Pv (i+1),bk:=D.nx } ((σ.set i1 !.int i).set i2 !x) (upd H T (.tup [.int i,x])))(hd:∀ σ H,Pv xs.length σ H->D.nx σ H):
  ∃ W:Nat->Nat->Υ,(∃ m,W 0 m σ H)/\∀ i m σ H,W i m σ H->
   ((Ite K a).stop i H/\D.nx σ H)\/((Ite K a).go i H/\∃ N:Υ,Į/\∀ x H',(Ite K a).TQ i H x H'->AI K 2 (z5 (bU i1) (z5 (bU i2) X6)) x σ H' λσ2 H2=>tb { D with nx:=N,ct:=N,bk:=D.nx } σ2 H2):=by
 show#[λi m σ H=>m=xs.length - i/\i<=xs.length/\Pv i σ H,#[xs.length,by simp,FR _,h0],?_];rintro i m σ H ⟨rfl,hi,p⟩;let q:=hl i σ H hi p;by_cases Ml:i<xs.length
 ·show .inr #[#[xs,xs[i],q,by simp],Pv<|i+1,λσ' H' p'=>#[xs.length - (i+1),#[],1,Ml,p'],λv H' y=>?_];let#[T,hT,1,x,ex,1]:=y;show#[T,[.int i,x],1,LQ.of af,1,_,[x],1,_,[],2,hs i x T σ H (ex xs q) p hT]
 ·let e:i=xs.length:=#[]
  subst e;show .inl #[#[xs,q,Fg _],hd σ H p]
theorem isA:Hp->V->Key->Prop:=λ_ x k=>x=kV k
def z9 (k:Key):dR (kV k)=true:=by cases k <;> rfl
def Xb (a b:Key):UE (kV a) (kV b)=decide (a=b):=by
 cases a with
 | inl a=>cases b with
  | inl b=>change (a==b)=_;rw[Go];simp
  | inr b=>show (F5 λz=>nomatch z).symm
 | inr a=>cases b with
  | inl b=>show (F5 λz=>nomatch z).symm
  | inr b=>change (a==b)=_;rw[Go];simp
def zf {K:Ψ}:S9 K isA 0 where
 eq:=by
  intro X A ñ s σ H x y v u a b _ I rx ry ha hb _
  cases ha
  cases hb;rw[<- Xb];show D0 rx ry (z9 a) (z9 b)
 fn:=by intro X ñ s σ H x a b _ I ha hb;rw[ha]at hb;show WJ hb
theorem Dmd (P)(w)(K)(mg)(base)(k:Nat)(C)(m:Str)(ps)(dvs)(sp):Prop:=
 ∃ f fd ds,MZ K C/\ye K C m f/\Binds K fd ps ds/\Vals dvs ds/\Jy P w K mg base Ky k f fd ps sp
theorem Dfd (P)(w)(K)(mg)(base)(k:Nat)(x)(ps)(dvs)(sp):Prop:=
 ∃ f fd ds,mg x=!.ref f/\W.keepIn K (.ref f)=true/\Binds K fd ps ds/\Vals dvs ds/\Jy P w K mg base Ky k f fd ps sp
def Kb.ok {K:Ψ}{st:Stmt}{k:Nat}(F:Kb K x ğ st f fd)(S:ax N ps (aa st))(len)(Me:∀ (J7:Value)(A:Ë)(outer:List Env)(s:Ê)(H:Hp)(vs:π)(Q:VK)(E:XK),Jn k ę->sp vs H Q E->
   ∃ t,Nj (dU Ky P w K mg base N ğ (aa st) f J7 A outer s H E).QL (ay st) t/\t { nx:=λ_ H'=>Q .non H',rt:=Q } C6 H):Jy P w K mg base Ky (k+1) f fd ps sp:=by
 let#[oc,od,dV,kV,doc,pm,an,J7,ct,KR,1,lk,Qe]:=F.ex;show z8 lk Qe S len λA outer s H vs Q E hr Rq=>?_;let#[t,h,q]:=Me J7 A outer s H vs Q E hr Rq;show#[t,h.QL,q]
def BX (D:Dfd X.prog X.w X.K X.mg X.base k x ps dvs sp)(hr)(hg:Gl X x)(ha:PA X (e::es) t)(Mm)(he:Ĕ X e es:=Ą)(LM):
  PE X Ģ (yq sp dvs E0 t):=by
 let#[f,fd,ds,hm,kp,b,hd,F]:=D;show yJ F hr hg hm kp b hd lv ha Mm he LM
def BQ (he:PE X o ta)(D:Dmd X.prog X.w X.K X.mg X.base k C m ps dvs sp)(hr)(ha:PA X (e::es) t)(Pm)(LM)(ht:eval (.Call Ĭ (e::es) [] pos) X.env=(do
   let ov <- eval o X.env
   standAt apos.atName
   let (f,first) <- holding [ov] Ŝ
   callWith pos f first (backTo pos Ÿ) Ĵ):=Ą):
  PE X (.Call Ĭ (e::es) [] pos) (pU C m sp dvs E0 ta t):=by
 let#[f,fd,ds,cl,hm,b,hd,F]:=D;show yG he cl hm F hr b hd lv ha Pm LM ht
def Nd (a:sc.kind=.function:=Ą)(b:sc.isCoroutine=false:=Ą)(c:sc.isGenerator=false:=Ą)(d:N.Nodup:=ć)(e:N.take P.length=P:=Ą)(f:∀ x∈P,sc.names.lookup x=!.local\/sc.names.lookup x=!.cell:=ć)(g:∀ y∈sc.names,y.2≠.free:=ć):ax N P sc:=#[a,b,c,d,e,f,g]
def Jn.m (r:Jn k A)(h:j<=k:=ö):Jn j A:=r.mono h
section
def pS (i)(hN)(he:PE X e te)(hi:X.N[i]?=!x:=Ą)(hx:Loc X.env.scope x:=Ĉ)(hs:swapsWith e (!.Name x pos') pos.line X.env=pure false:=Ą)(hf):
  PS X K9 (jt te (bU i)):=W2 hN hi hx he hs hf
def pN (i)(hN)(hi:X.N[i]?=!x:=Ą)(hx:Loc X.env.scope x:=Ĉ)(hf):PG X A0 (bU i):=yF hN hi hx hf
def pC (i)(hN:N'.Nodup:=ć)(hi:N'[i]?=!x:=Ą)(hx:Loc (aE X scope N' cells C s H fp).env.scope x:=Ĉ)(hf:(aE X scope N' cells C s H fp).fn x=true\/(aE X scope N' cells C s H fp).env.scope.names.lookup x=!.local:=ß):PG ģ A0 (bU i):=yF hN hi hx hf
def cS (nT)(js)(N':η)(h:kU X.env.scope X.N scope nT js N'=true:=ĉ):bE X scope nT js N':=tw rfl rfl h
variable {tb:TE}
def pI (hr:RB X r)(ha:PE X a ta)(hb:PE X b tb)(hs:k8 b:=Ċ):PE X Tl (V1 r ta tb):=Ve hr ha hb hs
def pD (hu)(ho:PE X o td)(hi:PE X i ty)(hs:XE i:=Ċ):PE X (.Subscript o i pos) (V2 td ty):=E7 hu ho hi hs
def pM (ho)(ha:PE X a ta)(hb:PE X b tb)(hm):PE X Ų (V1 r ta tb):=yI ho ha hb hm
def pT (ho)(ha:PE X a ta)(hb:PE X b tb)(hm):PT X Ų (Br (V1 r ta tb)):=yB ho ha hb hm
universe e
section
variable {K:Ψ}
def MN.k {st:Stmt}{k:Nat}(F:MN K x ğ st f fd)(S:ax N ps (aa st))(Me:∀ (J7:Value)(A:Ë)(outer:List Env)(s:Ê)(H:Hp)(vs:π)(Q:VK)(E:XK),Jn k ę->sp vs H Q E->
   ∃ t,Nj (dU Ky P w K mg base N ğ (aa st) f J7 A outer s H E).QL (ay st) t/\t { nx:=λ_ H'=>Q .non H',rt:=Q } C6 H)(len:∀ vs H Q E,sp vs H Q E->vs.length=ps.length:=Č):Jy P w K mg base Ky (k+1) f fd ps sp:=F.ok S len Me
def Kb.k {st:Stmt}{k:Nat}(F:Kb K x ğ st f fd)(S:ax N ps (aa st))(Me:∀ (J7:Value)(A:Ë)(outer:List Env)(s:Ê)(H:Hp)(vs:π)(Q:VK)(E:XK),Jn k ę->sp vs H Q E->
   ∃ t,Nj (dU Ky P w K mg base N ğ (aa st) f J7 A outer s H E).QL (ay st) t/\t { nx:=λ_ H'=>Q .non H',rt:=Q } C6 H)(len:∀ vs H Q E,sp vs H Q E->vs.length=ps.length:=Č):Jy P w K mg base Ky (k+1) f fd ps sp:=Kb.ok F S len Me
universe e
universe L2
namespace K72
open PySem L2
open PyProof.Rows (boot_all boot_bool boot_dict boot_int boot_list boot_str boot_tuple)
abbrev _root_.Ü:List Str:=["self","name"]
abbrev _root_.Ý:List Str:=["self"]
abbrev _root_.Þ:List Str:=["net","many","prime","falls"]
abbrev _root_.à:List Str:=["net","plan","many","prime","fallen"]
abbrev _root_.á:List Str:=["_law_ties","_law_order","_law_plan_here","_law_many","_law_prime","_law_fallen"]
abbrev _root_.â:List Str:=["field","table","many"]
abbrev _root_.ã:List Str:=["self","one","other"]
abbrev _root_.ä:List Str:=["net","plan","many","prime","falls"]
abbrev _root_.å:List Str:=["self","field","way","number"]
abbrev _root_.æ:List Str:=["_law_told","_law_world","_law_tables_of"]
abbrev _root_.è:List Str:=["self","fallen","name","numbers"]
abbrev _root_.é:List Str:=["self","number"]
abbrev _root_.ë:List Str:=["net","many","chosen"]
abbrev _root_.ì:List Str:=["_law_one","_law_other","_law_rows_here","_law_many","_law_prime"]
abbrev _root_.í:List Str:=["_law_net_here","_law_ties","_law_many","_law_prime","_law_cell"]
abbrev _root_.î:List Str:=["net","listener","many","fallen"]
abbrev _root_.ï:List Str:=["self","prime"]
abbrev _root_.ò:List Str:=["_law_ties","_law_name"]
abbrev _root_.ó:List Str:=["net","many","field","chosen","found"]
abbrev _root_.ô:List Str:=["self","one","other","delay"]
abbrev _root_.õ:List Str:=["net","many","found","rows_by_choice"]
abbrev _root_.ø:List Str:=["_law_table","_law_rows_here","_law_many","_law_prime"]
abbrev _root_.ù:List Str:=["net","falls"]
abbrev _root_.ú:List Str:=["_law_script","_law_k"]
abbrev _root_.û:List Str:=["field","one","other"]
abbrev _root_.ü:List Str:=["self","rows","many"]
abbrev _root_.ý:List Str:=["self","post"]
abbrev _root_.þ:List Str:=["_law_cell","_law_script"]
abbrev _root_.ÿ:List Str:=["number"]
abbrev _root_.Ā:List Str:=["self","needed"]
abbrev _root_.ā:List Str:=["_law_cell","_law_many"]
abbrev _root_.Ă:List Str:=["many","own"]
theorem top (i):Stmt:=PySem.Challenge.pw_mixposts_k72_a_plan_judged_by_its_falls.main.body.getD i (.Pass ⟨0,0,0,0⟩)
inductive Kd where
 |house|listener|post
deriving DecidableEq
structure Cl where
 JQ:Addr
 post:Addr
 house:Addr
 Nf:Addr
theorem Cl.of (c:Cl):Kd->Addr
 | .house=>c.house
 | .listener=>c.Nf
 | .post=>c.post
structure Cl.Ok (K:Ψ) (c:Cl):Prop where
 cn:MZ K c.JQ
 cp:MZ K c.post
 ch:MZ K c.house
 cl:MZ K c.Nf
 fp:JE K c.JQ "kept_posts"
 ft:JE K c.JQ "kept_ties"
 fn:JE K c.JQ "next_number"
 np:JE K c.post "name"
 nh:JE K c.house "name"
 nl:JE K c.Nf "name"
 ph:c.post≠c.house
 pl:c.post≠c.Nf
 hl:c.house≠c.Nf
theorem jn (c:Cl)(C):Prop:=∃ k,C=c.of k
def Cl.Ok.cls (o:Cl.Ok K c):∀ k,MZ K (c.of k)
 | .house=>o.ch
 | .listener=>o.cl
 | .post=>o.cp
def Cl.Ok.Wm (o:Cl.Ok K c):∀ k,JE K (c.of k) "name"
 | .house=>o.nh
 | .listener=>o.nl
 | .post=>o.np
abbrev JM:=Int×Str×Str×Int
structure NS where
 J':List (Str×Kd)
 J0:List JM
 next:Int
theorem KG (c:Cl)(H)(v)(p:Str×Kd):Prop:=∃ a dx,v=.ref a/\H a=!.ins (c.of p.2) dx [("name",.str p.1)]
theorem Mg (H)(v)(t:JM):Prop:=∃ a,v=.ref a/\H a=!.tup [.int t.1,.str t.2.1,.str t.2.2.1,.int t.2.2.2]
structure JS (c:Cl) (H:Hp) (n dp dt:Addr) (S:NS):Prop where
 ins:∃ dx,H n=!.ins c.JQ dx [("kept_posts",.ref dp),("kept_ties",.ref dt),("next_number",.int S.next)]
 J':∃ ķ,H dp=!.dK ķ/\Paired (λ(kv:Key×V) p=>kv.1=Sum.inr p.1/\KG c H kv.2 p) ķ S.J'
 J0:∃ ķ,H dt=!.dK ķ/\Paired (λ(kv:Key×V) (t:JM)=>kv.1=Sum.inl t.1/\Mg H kv.2 t) ķ S.J0
 ne:dp≠dt
def KG.mono (e)(h:KG c H v p):KG c H' v p:=let ⟨a,dx,q1,q2⟩:=h;#[a,dx,q1,e _ _ q2]
def Mg.mono (e)(h:Mg H v t):Mg H' v t:=let ⟨a,q1,q2⟩:=h;#[a,q1,e _ _ q2]
def JS.mono (e)(h:JS c H n dp dt S):JS c H' n dp dt S:=by let#[#[dx,h1],#[kp,h2,p2],#[kt,h3,p3],h4]:=h;show#[#[dx,e _ _ h1],#[kp,e _ _ h2,Paired.Lg p2 λ_ _ gR=>(by let#[a,b]:=gR;show#[a,b.mono e])],#[kt,e _ _ h3,Paired.Lg p3 λ_ _ gR=>(by let#[a,b]:=gR;show#[a,b.mono e])],h4]
theorem LET:Str:="abcdefghijklmnopqrstuvwxyz"
theorem yS (x):Bool:=not (Builtin.Str.occurrences LET x 0 LET.length 1).isEmpty
theorem j7 (x):Bool:=decide (1<=x.length)&&decide (x.length<=8)&&(List.range x.cps.size).all λi=>yS (sgn x i)
structure jT (mg:Ω):Prop where
 Jo:mg "len"=none
 Lf:mg "isinstance"=none
 Ze:mg "str"=none
 SR:mg "all"=none
 MH:mg "list"=none
structure ER (mg:Ω):Prop where
 let_:∃ t,mg "LETTERS"=!.str LET t
 lon:∃ t,mg "LONGEST_NAME"=!.int 8 t
 mop:∃ t,mg "MOST_POSTS"=!.int 20 t
 mol:∃ t,mg "MOST_LISTENERS"=!.int 8 t
structure Xv (K:Ψ):Prop where
 ss:W.kitOne K (.type "str") (.type "str")=!true
def AY (g:Nat->V)(hz:x.cps.size<=1000)(hs:∀ i H2,i<x.cps.size->f' H H2->te (some (.str (sgn x i))::a0R σ js) H2 λv H5=>v=g i/\f' H2 H5)(hd:∀ l H',H l=none->f' H H'->H' l=!.lst ((List.range x.cps.size).map g)->F l H'):gn 1 js (bU 0) wV te σ F (Its x) H:=by
 intro l XT;show#[λi m σ' H2=>m=x.cps.size - i/\i<=x.cps.size/\(∃ o,σ'=o::a0R σ js)/\f' H H2/\H2 l=!(.lst<|(List.range i).map g),#[x.cps.size,by simp,FR _,#[none,1],aQ Ĩ XT,af],?_];rintro i m σ' H2 ⟨rfl,hi,⟨o,rfl⟩,e,hl⟩;by_cases Ml:i<x.cps.size
 ·show .inr #[Ml,λv H3 y=>?_];let#[2]:=y;show#[λ_=>False,λv H5=>v=g i/\f' H3 H5,λH4 p4=>p4.elim,λv H5 gR=>?_,hs i H3 Ml e];let#[ev,e5]:=gR;subst ev;show#[_,e5 _ _ hl,by simp only[EV,FO];show FY Ml<|Fo hz ż,_,?_,1,Ml,#[_,1],aY (e.trans e5) XT,?_]
  ·lia
  ·rw[af,IF,Fa];rfl
 ·let ei:i=x.cps.size:=#[]
  subst ei;show .inl #[1,hd l H2 XT e hl]
inductive mT (vs:π) (H:Hp) (Q:VK) (E:XK):Prop
 |mk (x:Str):vs=[.str x]->x.length<=1000->(∀ H',f' H H'->Q (.bl (j7 x)) H')->mT vs H Q E
abbrev ie:Stmt:=top 27
def OV:ax ["name"] ["name"] (aa ie):=Nd
def xq (F:MN K "is_name" "is_name" ie f fd)(T:jT mg)(TG:ER mg)(TK:Xv K):Jy P w K mg base Ky 1 f fd ["name"] mT:=by
 let#[tl,QR]:=TG.let_;let#[tn,OH]:=TG.lon;show F.k OV λJ7 A outer s H vs Q E hr h=>?_
 ·let#[x,1,hx,q]:=h;show#[_,(ai (gw (sr<|cL (bY (Eu K) rfl T.Lf cv<|a9 (pv 0) (a9 (mh (v:=.ty "str") rfl T.Ze boot_str rfl) IZ)))
  (aq<|bO qh)
  Kp)
 (aq (bO (xc (nq qi qi bf (bY tG rfl T.Jo boot_len<|a9 (pv 0) IZ)<|fZ (v:=.int 8) rfl OH #[_,1]) (kz (bY (kX K rfl) rfl T.SR boot_all (a9 (eL rfl (cS 1 [] ["sign"]) (W5<|pv 0)
  ė
  (λ_ _ _ _ _=>N3)
  (λ_ _ _ _ _=>pM Ad (pv 0) (fZ (v:=.str LET) rfl QR #[_,1])<|by with_unfolding_all rfl)) IZ))))))),?_]
  let Zy:x.cps.size=x.length:=rfl;show#[_,1,.str x,_,_,_,1,.str x,TK.ss,_,1,xQ ?_];let qb:j7 x=(decide (1<=x.length)&&decide (x.length<=8)&&((List.range x.cps.size).map λi=>yS<|sgn x i).all id):=by rw[List.all_map];rfl
  show#[_,1,x,1,Fo hx<|by decide,?_];show⟨_,_,rfl,rfl,_,rfl,og (λh1=>?_) (λh1=>?_)⟩
  ·let h1:1<=x.length:=by let:=Fq h1;lia
   show#[_,_,2,_,1,og (λh2=>?_) (λh2=>?_)]
   ·let h2:x.length<=8:=by let:=Fq h2;lia
    show#[_,1,x,1,AY (λi=>.bl<|yS (sgn x i)) #[] (λi H2 hi e=>#[_,1,_,LET,3,f'.refl _]) (λl H' XT e hl=>?_)];show#[l,(List.range x.cps.size).map λi=>yS<|sgn x i,1,Jq.of (by rw[F9];show hl),?_];let:=q H' e;rw[qb,EZ h1,EZ h2]at this;show this
   ·let h2:¬ x.length<=8:=λz=>h2<|EZ #[];let:=q H Ĩ
    simp_all
  ·let h1:¬ 1<=x.length:=λz=>h1<|EZ #[];let:=q H<|f'.refl _;rw[qb,F5 h1,Bool.false_and,Bool.false_and]at this;show#[_,1,xQ this]
theorem gL (b:V):Sp:=λvs H Q _=>∃ v,vs=[v]/\Q b H
abbrev dh:Stmt:=ak (top 32) 3
def pe:ax Ý Ý (aa dh):=Nd
def iN (F:MN K "reads" "Post.reads" dh f fd):Jy P w K mg base Ky 1 f fd Ý (gL L5):=by
 show F.k pe λJ7 A outer s H vs Q E hr h=>?_
 ·let#[v,1,q]:=h;show#[_,aq<|bO qh,q]
abbrev cR:Stmt:=ak (top 34) 1
def jv:ax Ý Ý (aa cR):=Nd
def jB (F:MN K "reads" "Listener.reads" cR f fd):Jy P w K mg base Ky 1 f fd Ý (gL Ŗ):=by
 show F.k jv λJ7 A outer s H vs Q E hr h=>?_
 ·let#[v,1,q]:=h;show#[_,aq<|bO qh,q]
abbrev di:Stmt:=ak (top 32) 4
def pf:ax Ý Ý (aa di):=Nd
def iO (F:MN K "hears" "Post.hears" di f fd):Jy P w K mg base Ky 1 f fd Ý (gL Ŗ):=by
 show F.k pf λJ7 A outer s H vs Q E hr h=>?_
 ·let#[v,1,q]:=h;show#[_,aq<|bO qh,q]
abbrev fc:Stmt:=ak (top 33) 1
def mW:ax Ý Ý (aa fc):=Nd
def nN (F:MN K "hears" "House.hears" fc f fd):Jy P w K mg base Ky 1 f fd Ý (gL L5):=by
 show F.k mW λJ7 A outer s H vs Q E hr h=>?_
 ·let#[v,1,q]:=h;show#[_,aq<|bO qh,q]
theorem YI:Kd->Bool
 | .listener=>true
 | _=>false
theorem U1:Kd->Bool
 | .house=>false
 | _=>true
def gS (O:Cl.Ok K c):∀ k,decide (c.of k=c.Nf)=YI k
 | .listener=>EZ rfl
 | .house=>F5 O.hl
 | .post=>F5 O.pl
def gZ (O:Cl.Ok K c):∀ k,(not (decide (c.of k=c.house)))=U1 k
 | .house=>by rw[show decide (c.of .house=c.house)=true from EZ rfl];rfl
 | .listener=>by rw[show decide (c.of .listener=c.house)=false from F5 O.hl.symm];rfl
 | .post=>by rw[show decide (c.of .post=c.house)=false from F5 O.ph];rfl
inductive gK (c:Cl)  (vs:π) (H:Hp) (Q:VK) (E:XK):Prop
 |mk (x:Addr) (k:Kd) (dx:Addr) (n:Str):vs=[.ref x,.str n]->H x=!.ins (c.of k) dx []->Q .non (upd H x (.ins (c.of k) dx [("name",.str n)]))->gK c vs H Q E
abbrev bH:Stmt:=ak (top 32) 0
def ko:ax Ü Ü (aa bH):=Nd
def g6 (F:MN K "__init__" "Post.__init__" bH f fd)(O:Cl.Ok K c):Jy P w K mg base Ky 1 f fd Ü (gK c):=by
 show F.k ko λJ7 A outer s H vs Q E hr h=>?_
 ·let#[x,k,dx,n,1,hx,q]:=h;show#[_,aq<|fY (pv 0) (pv 1) rfl,?_];show#[_,1,_,1,x,c.of k,dx,_,1,hx,O.cls k,O.Wm k,by decide,q]
inductive mR (c:Cl)  (vs:π) (H:Hp) (Q:VK) (E:XK):Prop
 |mk (x dx:Addr):vs=[.ref x]->H x=!.ins c.JQ dx []->(∀ d1 d2 H',H d1=none->H d2=none->d1≠d2->(∀ a o,a≠x->H a=!o->H' a=!o) ->
 H' x=!.ins c.JQ dx [("kept_posts",.ref d1),("kept_ties",.ref d2),("next_number",.int 0)]->H' d1=!.dK []->H' d2=!.dK []->Q .non H')->mR c vs H Q E
abbrev dG:Stmt:=ak (top 35) 0
def lK:ax Ý Ý (aa dG):=Nd
def v5 (F:MN K "__init__" "Net.__init__" dG f fd)(O:Cl.Ok K c):Jy P w K mg base Ky 1 f fd Ý (mR c):=by
 show F.k lK λJ7 A outer s H vs Q E hr h=>?_
 ·let#[x,dx,1,hx,q]:=h;show#[_,(ai (fY (pv 0) NW rfl)
 (ai (fY (pv 0) NW rfl)
 (aq<|fY (pv 0) bf rfl))),?_]
  intro d1 h1;let n1:=ao hx h1;show#[_,1,x,c.JQ,dx,_,1,by rw[a8 n1];show hx,O.cn,O.fp,by decide,?_];intro d2 h2;let n2:=ao af h2;let n3:=ao (by rw[a8 n1.symm];show af) h2;show#[_,1,x,c.JQ,dx,_,1,by rw[a8 n2];show af,O.cn,O.ft,(by change 1<1000;decide),?_];show#[_,1,x,c.JQ,dx,_,1,af,O.cn,O.fn,(by change 2<1000;decide),?_];let X5:H d2=none:=by rw[a8 n2.symm,a8 n3.symm]at h2;show h2
  show q d1 d2 _ h1 X5 n3 (λa o na ha=>?_) af ?_ ?_
  ·rw[a8 na,a8 na,a8<|ao ha X5,a8 na,a8<|ao ha h1];show ha
  ·rw[a8 n1.symm,a8 n1.symm,a8 n3,a8 n1.symm];show af
  ·rw[a8 n2.symm,a8 n2.symm];show af
universe K72
namespace Mx
theorem dot:List Int->List Int->Int
 | a::x,b::y=>a * b+dot x y
 | _,_=>0
theorem fJ (p):Int->List (Int×Int)->Int
 | t,[]=>t
 | t,(a,b)::r=>fJ p ((t+a * b % p) % p) r
theorem Jh (p)(x y:Ξ):Int:=fJ p 0 (x.zip y)
def lr (p):∀ (x y:Ξ)(t:Int),t % p=t->fJ p t (x.zip y)=(t+dot x y) % p
 | [],_,t,h=>by simp[fJ,dot,h]
 | _::_,[],t,h=>by simp[fJ,dot,h]
 | a::x,b::y,t,_=>by change fJ p ((t+a * b % p) % p) (x.zip y)=_;rw[lr p x y _<|Int.emod_emod_of_dvd _ (Int.dvd_refl _)];simp[dot,Int.emod_add_emod,Int.add_assoc,Int.add_comm]
def JN (p)(x y:Ξ):Jh p x y=dot x y % p:=by unfold Jh;rw[lr p x y 0<|by simp,IK]
def KW:∀ (x y:Ξ),dot x y=dot y x
 | [],[]=>rfl
 | [],_::_=>rfl
 | _::_,[]=>rfl
 | a::x,b::y=>by change a * b+dot x y=b * a+dot y x;rw[Int.mul_comm,KW x y]
def lG (p):∀ (x y:Ξ),dot (x.map (· % p)) y % p=dot x y % p
 | [],_=>by simp[dot]
 | _::_,[]=>by simp[dot]
 | a::x,b::y=>by change (a % p * b+dot (x.map (· % p)) y) % p=(a * b+dot x y) % p;rw[Int.add_emod,lG p x y,Int.mul_emod,Int.emod_emod_of_dvd _<|Int.dvd_refl _,<- Int.mul_emod,<- Int.add_emod]
def iQ (p)(x y:Ξ):dot x (y.map (· % p)) % p=dot x y % p:=by rw[KW,lG,KW]
theorem Ba (x y:Ξ):Ξ:=List.zipWith (·+·) x y
def wf:∀ (x y v:Ξ),x.length=y.length->dot (Ba x y) v=dot x v+dot y v
 | [],[],v,_=>by simp[Ba,dot]
 | a::x,b::y,[],_=>by simp[Ba,dot]
 | a::x,b::y,c::v,h=>by
  let:=wf x y v M8;change (a+b) * c+dot (Ba x y) v=(a * c+dot x v)+(b * c+dot y v)
  rw[this,Int.add_mul]
  lia
def wc (k:Int):∀ (x v:Ξ),dot (x.map (· * k)) v=k * dot x v
 | [],v=>by simp[dot]
 | a::x,[]=>by simp[dot]
 | a::x,c::v=>by
  change a * k * c+dot (x.map (· * k)) v=k * (a * c+dot x v)
  rw[wc k x v,Int.mul_add,Int.mul_comm a k,Int.mul_assoc]
abbrev _root_.Θ:=List Ξ
theorem col (t:Θ)(j):Ξ:=t.map λr=>r.getD j 0
theorem cols (t:Θ)(w:Nat):Θ:=(List.range w).map (col t)
theorem n5 (t:Θ)(w:Nat)(r:Ξ):Ξ:=(cols t w).map λc=>dot c r
theorem DI (t:Θ)(v:Ξ):Ξ:=t.map λr=>dot r v
def uE (t:Θ)(w:Nat)(r:Ξ):(n5 t w r).length=w:=by simp[n5,cols]
def Lr:∀ (b:Ξ)(w:Nat),b.length=w->(List.range w).map (λj=>b.getD j 0)=b:=by
 intro b w h;subst h;apply List.ext_getElem
 ·simp
 ·intro i h1 h2
  simp_all
def we:∀ (t:Θ)(w:Nat)(r v:Ξ),(∀ b∈t,b.length=w)->v.length=w->r.length=t.length->dot (n5 t w r) v=dot r (DI t v)
 | [],w,r,v,_,_,hr=>by
  let:r=[]:=HX.mp (by simpa using hr);subst this;let e:n5 [] w []=(List.range w).map λ_=>0:=by simp[n5,cols,col,dot]
  rw[e];let z:∀ (n:À)(v:Ξ),dot (n.map λ_=>(0:Int)) v=0:=by
   intro n
   induction n with
   | nil=>intro v;simp[dot]
   | cons a n ih=>
    intro v
    cases v with
    | nil=>simp[dot]
    | cons c v=>change 0 * c+dot _ v=0;rw[ih v];lia
  rw[z];simp[dot]
 | b::t,w,[],v,_,_,hr=>by simp at hr
 | b::t,w,a::r,v,hb,hv,hr=>by
  let ih:=we t w r v (λc hc=>hb c<|Fp _ hc) hv (by simpa using hr);let e:n5 (b::t) w (a::r)=Ba (b.map (· * a)) (n5 t w r):=by unfold n5 cols col Ba;rw[F9,F9];let OP:b=(List.range w).map (λj=>b.getD j 0):=(Lr b w<|hb b Fw).symm;rw[show b.map (· * a)=((List.range w).map λj=>b.getD j 0).map (· * a) by rw[<- OP]];rw[F9,List.zipWith_map];simp[List.zipWith_self,FG,dot]
  rw[e,wf _ _ _ (by rw[EV,uE];show hb b Fw),wc,ih];change a * dot b v+dot r (DI t v)=a * dot b v+dot r (DI t v);rfl
theorem Kl (p)(t:Θ)(v:Ξ):Ξ:=t.map λr=>Jh p r v
def x8 (p)(b:Θ)(w:Nat)(r:Ξ):Kl p (cols b w) r=(n5 b w r).map (· % p):=by unfold Kl n5;rw[F9];apply FG;intro c _;simp[JN]
theorem J3 (n i:Nat):Ξ:=(List.range n).map λj=>if j=i then 1 else 0
theorem ones (n):Θ:=(List.range n).map (J3 n)
def w6:∀ (n i s:Nat)(r:Ξ),r.length=n->dot ((List.range' s n).map λj=>if j=s+i then (1:Int) else 0) r=r.getD i 0
 | 0,i,s,r,h=>by
  simp_all [HX,dot]
 | n+1,i,s,[],h=>by simp at h
 | n+1,0,s,a::r,h=>by
  rw[List.range'_succ];change (if s=s+0 then (1:Int) else 0) * a+dot _ r=a;rw[if_pos<|by lia];let z:∀ (m t:Nat)(v:Ξ),s<t->dot ((List.range' t m).map λj=>if j=s+0 then (1:Int) else 0) v=0:=by
   intro m
   induction m with
   | zero=>intro t v _;simp[dot]
   | succ m ih=>
    intro t v ht;rw[List.range'_succ]
    cases v with
    | nil=>simp[dot]
    | cons c v=>
     change (if t=s+0 then (1:Int) else 0) * c+dot _ v=0;rw[if_neg<|by lia,ih (t+1) v<|by lia];lia
  simp_all
 | n+1,i+1,s,a::r,h=>by rw[List.range'_succ];change (if s=s+(i+1) then (1:Int) else 0) * a+dot _ r=_;rw[if_neg<|by lia];let:=w6 n i (s+1) r (by simpa using h);rw[show (λj=>if j=s+(i+1) then (1:Int) else 0)=λj=>if j=s+1+i then (1:Int) else 0 by funext j;rw[show s+(i+1)=s+1+i by lia]];rw[this];simp
def Kv (n i:Nat)(r:Ξ)(h:r.length=n):dot (J3 n i) r=r.getD i 0:=by let:=w6 n i 0 r h;unfold J3;rw[List.range_eq_range'];simpa using this
def Qo {r:Ξ}(h:∀ x∈r,0<=x/\x<p):r.map (· % p)=r:=by
 let:=FG λx hx=>Gz (h x hx).1 (h x hx).2
 simp_all
abbrev e (r:Ξ)(j:Nat):Int:=r.getD j 0
theorem KY (p)(r:Ξ):Prop:=∀ x∈r,0<=x/\x<p
def KY.at (hp:0<p)(h:KY p r)(j):0<=e r j/\e r j<p:=by
 unfold e;rw[F7]
 cases hj:r[j]? with
 | none=>show#[Int.le_refl _,hp]
 | some x=>show h x (F6 hj)
theorem scaled (p)(r:Ξ)(k:Int):Ξ:=r.map λx=>k * x % p
theorem without (p)(r lead:Ξ)(q:Nat):Ξ:=if e r q=0 then r else List.zipWith (λm t=>(m - e r q * t % p) % p) r lead
theorem K' (ř:Θ)(start q:Nat):Option Nat:=(List.range' start (ř.length - start)).find? λa=>decide (e Ķ q≠0)
theorem cleared (p)(bk)(ř:Θ)(start a q:Nat):Θ:=
 let lead:=scaled p Ķ (bk (e Ķ q))
 let others:=(ř.take a++ř.drop (a+1)).map λr=>without p r lead q
 others.take start++[lead]++others.drop start
theorem step (p)(bk)(st:List (Ξ)×Nat)(q:Nat):List (Ξ)×Nat:=
 match K' st.1 st.2 q with
 | none=>st
 | some a=>(cleared p bk st.1 st.2 a q,st.2+1)
theorem run (p)(bk)(ř:Θ)(k:Nat):List (Ξ)×Nat:=(List.range k).foldl (step p bk) (ř,0)
def NQ (p)(bk)(ř:Θ)(k:Nat):run p bk ř (k+1)=step p bk (run p bk ř k) k:=by unfold run;rw[IF,IW];rfl
def vZ (j):e (scaled p r k) j=k * e r j % p:=by
 unfold e scaled;rw[F7,F7,Fb]
 cases r[j]? with
 | none=>simp
 | some x=>simp
def qU (hp:0<p)(hr:KY p r)(hl:lead.length=r.length)(j):e (without p r lead q) j=(e r j - e r q * e lead j) % p:=by
 unfold without;by_cases h:e r q=0
 ·rw[if_pos h,h,Int.zero_mul,Int.sub_zero];let:=hr.at hp j;show (Gz this.1 this.2).symm
 ·by_cases hj:j<r.length
  ·simp_all
  ·simp_all
def gi (p x:Int):p ∣ x % p - x:=by show#[-(x / p),?_];rw[Int.emod_def,Int.mul_neg];omega
def oE (p k:Int):∀ (r v:Ξ),p ∣ dot (scaled p r k) v - k * dot r v
 | [],v=>by simp[scaled,dot]
 | x::r,[]=>by simp[scaled,dot]
 | x::r,y::v=>by
  let ih:=oE p k r v;let h:=gi p<|k * x;change p ∣ (k * x % p * y+dot (scaled p r k) v) - k * (x * y+dot r v)
  let:(k * x % p * y+dot (scaled p r k) v) - k * (x * y+dot r v)=(k * x % p - k * x) * y+(dot (scaled p r k) v - k * dot r v):=by
   grind
  rw[this];show Hd (HY h) ih
def gj (p c:Int):∀ (r lead v:Ξ),lead.length=r.length->p ∣ dot A5 v - (dot r v - c * dot lead v)
 | [],[],v,_=>by simp[dot]
 | x::r,y::lead,[],_=>by simp[dot]
 | x::r,y::lead,z::v,h=>by
  let ih:=gj p c r lead v M8;let h1:p ∣ (x - c * y % p) % p - (x - c * y):=by rw[Int.sub_emod_emod];show gi p _
  change p ∣ ((x - c * y % p) % p * z+dot _ v) - (x * z+dot r v - c * (y * z+dot lead v))
  let:((x - c * y % p) % p * z+dot A5 v) - (x * z+dot r v - c * (y * z+dot lead v))=((x - c * y % p) % p - (x - c * y)) * z+(dot A5 v - (dot r v - c * dot lead v)):=by
   grind
  rw[this];show Hd (HY h1) ih
def lF (p)(r lead v:Ξ)(q:Nat)(h:lead.length=r.length):p ∣ dot (without p r lead q) v - (dot r v - e r q * dot lead v):=by
 unfold without;by_cases h0:e r q=0
 ·simp_all
 ·rw[if_neg h0];show gj p _ r lead v h
theorem U7 (p)(v:Ξ)(ř:Θ):Prop:=∀ r∈ř,p ∣ dot r v
structure Sh (p:Int) (w:Nat) (ř:Θ):Prop where
 Nm:∀ r∈ř,r.length=w
 fit:∀ r∈ř,KY p r
theorem Bk (p)(bk):Prop:=∀ a,0<a->a<p->p ∣ a * bk a - 1
def KS:
  r∈cleared p bk ř start a q ↔ r=scaled p Ķ (bk (e Ķ q))\/∃ r0∈ř.take a++ř.drop (a+1),r=without p r0 (scaled p Ķ (bk (e Ķ q))) q:=by
 unfold cleared;simp only[];generalize hl:scaled p _ _=lead;generalize hm:(ř.take a++ř.drop (a+1)).map (λr=>without p r lead q)=others;let:r∈others.take start++[lead]++others.drop start ↔ r=lead\/r∈others:=by
  constructor
  ·intro h;rcases FC.mp h with h|h
   ·rcases FC.mp h with h|h
    ·show .inr (Iy h)
    ·show .inl M8
   ·show .inr (List.mem_of_mem_drop h)
  ·intro h;rcases h with h|h
   ·subst h;simp
   ·let:r∈others.take start++others.drop start:=by simp_all
    grind
 rw[this,<- hm];constructor
 ·rintro (h|h)
  ·show .inl h
  ·let#[r0,h1,h2]:=F8.mp h;show .inr #[r0,h1,h2.symm]
 ·rintro (h|⟨r0,h1,h2⟩)
  ·show .inl h
  ·show .inr (F8.mpr #[r0,h1,h2.symm])
def im {ř:Θ}(ha:a<ř.length)(h:r∈ř):r=ř.getD a []\/r∈ř.take a++ř.drop (a+1):=by
 let#[i,hi,1]:=GZ h;rcases Nat.lt_trichotomy i a with c|c|c
 ·right;show FV _ ?_;rw[IN];show#[i,#[],1]
 ·left;subst c;simp[hi]
 ·right;show FH _ ?_;rw[List.mem_drop_iff_getElem];show#[i - (a+1),#[],by congr 1;lia]
def g8 {ř:Θ}(h:r∈ř.take a++ř.drop (a+1)):r∈ř:=by grind
def getD_mem {ř:Θ}(ha:a<ř.length):ř.getD a []∈ř:=by simp_all
def wY (hp:0<p):KY p (scaled p r k):=by intro x hx;let#[y,_,1]:=F8.mp hx;show#[G9 _<|by lia,FU _ hp]
def uf (hp:0<p)(h:KY p r):KY p (without p r lead q):=by
 unfold without;split
 ·show h
 ·intro x hx;let#[i,hi,1]:=GZ hx;rw[IB];show#[G9 _<|by omega,FU _ hp]
def ue (h:lead.length=r.length):(without p r lead q).length=r.length:=by
 unfold without;split
 ·rfl
 ·simp_all
def Sh.cleared {p:Int}{bk:Int->Int}{w:Nat}{ř:Θ}{start a q:Nat} (hp:0<p) (S:Sh p w ř) (ha:a<ř.length):Sh p w (cleared p bk ř start a q):=by
 let hl:(scaled p Ķ<|bk (e Ķ q)).length=w:=by unfold scaled;rw[EV];show S.Nm _ (getD_mem ha)
 show#[λr hr=>?_,λr hr=>?_]
 ·rcases KS.mp hr with rfl|⟨r0,h0,rfl⟩
  ·show hl
  ·let:=S.Nm r0<|g8 h0;rw[ue<|by omega];show this
 ·rcases KS.mp hr with rfl|⟨r0,h0,rfl⟩
  ·show wY hp
  ·show uf hp (S.fit r0<|g8 h0)
def vG (hp:0<p)(hb:Bk p bk)(S:Sh p w ř)(ha:a<ř.length)(h0:e Ķ q≠0):
  U7 p v (cleared p bk ř start a q) ↔ U7 p v ř:=by
 let hm:=getD_mem ha;let hf:=(S.fit _ hm).at hp q;generalize hx:e _ q=x at *
 let hl:=λr (hr:r∈ř)=>show (scaled p _<|bk x).length=r.length by unfold scaled;rw[EV,S.Nm _ hm,S.Nm _ hr]
 let d1:=oE p (bk x) Ķ v;constructor
 ·intro K r hr;let k1:=K _<|KS.mpr (.inl<|by rw[hx]);rcases im ha hr with rfl|h
  ·
   let a1:p ∣ bk x * dot Ķ v:=by
    let:=Hn k1 d1
    grind
   let a2:p ∣ _ * dot Ķ v:=HY<|hb x #[] hf.2;let a3:p ∣ x * _:=Gh a1;let:=Hn a3 a2
   grind
  ·let k2:=K _<|KS.mpr (.inr #[r,h,by rw[hx]]);let a1:=Hn k2<|lF p r _ v q (hl r hr);let a2:p ∣ e r q * dot _ v:=Gh k1;let:=Hd a1 a2
   grind
 ·intro K r hr;let k1:p ∣ dot (scaled p Ķ<|bk x) v:=by
   let a1:p ∣ bk x * dot _ v:=Gh<|K _ hm;let:=Hd d1 a1
   grind
  rcases KS.mp hr with rfl|⟨r0,h0,rfl⟩
  ·rw[hx];show k1
  ·let hr0:=g8 h0;let a2:p ∣ dot r0 v - e r0 q * dot _ v:=Hn (K r0 hr0)<|Gh k1;let:=Hd (lF p r0 _ v q<|hl r0 hr0) a2
   grind
structure RR (p:Int) (w k:Nat) (ř:Θ) (ps:À):Prop where
 sh:Sh p w ř
 len:ps.length<=ř.length
 lt:∀ q∈ps,q<k
 inc:ps.Pairwise (·<·)
 one:∀ (i q:Nat),ps[i]?=!q->e Ő q=1
 zer:∀ (i j q:Nat),ps[j]?=!q->i≠j->e Ő q=0
 lead:∀ (i q q':Nat),ps[i]?=!q->q'<q->e Ő q'=0
 rest:∀ (i q:Nat),ps.length<=i->q<k->e Ő q=0
def Vt (q:Nat):e [] q=0:=by simp[e]
def RR.start (S:Sh p w ř):RR p w 0 ř []:=
 #[S,FR _,(λ_ h=>nomatch h),List.Pairwise.nil,λi q h=>by simp at h,λi j q h=>by simp at h,λi q q' h=>by simp at h,λi q _ h=>absurd h<|HA _]
def sg (h:K' ř start q=none):∀ i,start<=i->e Ő q=0:=by
 intro i hi;by_cases hl:i<ř.length
 ·unfold K' at h
  grind
 ·grind
def NR (h:K' ř start q=!a):start<=a/\a<ř.length/\e Ķ q≠0:=by
 unfold K' at h
 grind
def hX (ha:a<ř.length)(hs:start<=a):(cleared p bk ř start a q).length=ř.length:=by
 unfold cleared;simp only[Fj,Fh,Iq,EV,FW,HB]
 lia
def cV (ha:a<ř.length)(hs:start<=a)(i)(hi:i<ř.length):
  ∃ lead,lead=scaled p Ķ (bk (e Ķ q))/\
   ((i<start/\(cleared p bk ř start a q).getD i []=without p Ő lead q)\/(i=start/\(cleared p bk ř start a q).getD i []=lead) \/
    (start<i/\∃ i',start<=i'/\i'<ř.length/\i'≠a/\(cleared p bk ř start a q).getD i []=without p (ř.getD i' []) lead q)):=by
 show#[_,1,?_];unfold cleared;simp only[];generalize scaled p _ _=lead;let hol:((ř.take a++ř.drop (a+1)).map λr=>without p r lead q).length=ř.length - 1:=by simp only[EV,Fj,Fh,Iq];lia
 let hoa:∀ j,j<ř.length - 1->((ř.take a++ř.drop (a+1)).map λr=>without p r lead q)[j]?=!without p (ř.getD (if j<a then j else j+1) []) lead q:=by
  intro j hj;rw[Fb];by_cases c:j<a
  ·rw[FP (by rw[Fh];lia),FX c,if_pos c,EW<|by lia,F7,EW<|by lia];rfl
  ·rw[FQ (by rw[Fh];lia),Fh,Hh,if_neg c];let:a+1+(j - min a ř.length)=j+1:=#[]
   rw[this,EW<|by lia,F7,EW<|by lia];rfl
 generalize ((ř.take a++ř.drop (a+1)).map λr=>without p r lead q)=others at hol hoa;rw[F7];rcases Nat.lt_trichotomy i start with c|c|c
 ·left;show#[c,?_];rw[FK,FP (by rw[Fh];lia),FX c,hoa i<|by lia,if_pos<|by lia];rfl
 ·right;left;show#[c,?_];subst c;rw[FK,FQ (by rw[Fh];lia),Fh];let:i - min i others.length=0:=#[]
  rw[this];rfl
 ·right;right;show#[c,if i - 1<a then i - 1 else i - 1+1,?_,?_,?_,?_]
  ·split <;> lia
  ·split <;> lia
  ·split <;> lia
  ·rw[FQ (by rw[Fj,Fh,Gf];lia),Fj,Fh,Gf,Hh];let:start+(i - (min start others.length+1))=i - 1:=#[]
   rw[this,hoa _<|by lia];rfl
def RR.step (hp:1<p)(hb:Bk p bk)(R:RR p w k ř ps):
  ∃ Ul,Mx.step p bk (ř,ps.length) k=((Mx.step p bk (ř,ps.length) k).1,Ul.length)/\RR p w (k+1) (Mx.step p bk (ř,ps.length) k).1 Ul/\(Mx.step p bk (ř,ps.length) k).1.length=ř.length/\∀ v,U7 p v (Mx.step p bk (ř,ps.length) k).1 ↔ U7 p v ř:=by
 unfold Mx.step
 cases h:K' ř ps.length k with
 | none=>
  show#[ps,1,#[R.sh,R.len,λq hq=>IU<|R.lt q hq,R.inc,R.one,R.zer,R.lead,λi q hi hq=>?_],1,λv=>Iff.rfl];rcases Nat.lt_succ_iff_lt_or_eq.mp hq with c|c
  ·show R.rest i q hi c
  ·subst c;show (sg h) i hi
 | some a=>
  let#[hs,ha,h0]:=NR h;let Q0:0<p:=#[]
  let hm:=getD_mem ha;let hf:=(R.sh.fit _ hm).at Q0 k;show#[ps++[k],by simp,?_,hX ha hs,λv=>vG Q0 hb R.sh ha h0];let hlen:=hX (p:=p) (bk:=bk) (q:=k) ha hs;let l1:e (scaled p Ķ<|bk (e Ķ k)) k=1:=by rw[vZ,Int.mul_comm];let:=(HM).mpr<|GJ (hb (e Ķ k) #[] hf.2);rw[this];show Gz #[] hp
  let l0:∀ q,q<k->e (scaled p Ķ<|bk (e (ř.getD a []) k)) q=0:=λq hq=>by rw[vZ,R.rest a q hs hq,Int.mul_zero,Int.zero_emod]
  let wz:∀ (i:Nat)(lead:Ξ),i<ř.length->lead=scaled p Ķ (bk<|e Ķ k)->
    e (without p Ő lead k) k=0/\∀ q,q<k->e (without p Ő lead k) q=e Ő q:=by
   intro i lead hi hl;let hmi:=getD_mem hi;let hll:lead.length=(ř.getD i []).length:=by rw[hl];unfold scaled;rw[EV,R.sh.Nm _ hm,R.sh.Nm _ hmi]
   show#[?_,λq hq=>?_]
   ·rw[qU Q0 (R.sh.fit _ hmi) hll,hl,l1,Int.mul_one,Int.sub_self,Int.zero_emod]
   ·rw[qU Q0 (R.sh.fit _ hmi) hll,hl,l0 q hq,Int.mul_zero,Int.sub_zero];let:=(R.sh.fit _ hmi).at Q0 q;show Gz this.1 this.2
  let out:∀ i,¬ i<ř.length->(cleared p bk ř ps.length a k).getD i []=[]:=λi hi=>by rw[F7,Gw<|by lia];rfl
  let psk:∀ (i q:Nat),(ps++[k])[i]?=!q->(i<ps.length/\ps[i]?=!q)\/(i=ps.length/\q=k):=λi q hq=>by
   by_cases c:i<ps.length
   ·rw[FP c]at hq;show .inl #[c,hq]
   ·rw[FQ<|by lia]at hq;by_cases c2:i - ps.length=0
    ·rw[c2]at hq;simp at hq;show .inr #[#[],hq.symm]
    ·rw[Gw (by simp;lia)]at hq;cases hq
  let plt:∀ (i q:Nat),ps[i]?=!q->q<k:=λi q hq=>R.lt q<|F6 hq;show⟨R.sh.cleared Q0 ha,by rw[hlen,Fj,Gf];lia,λq hq=>?_,?_,λi q hq=>?_,λi j q hq hij=>?_,λi q q' hq OO=>?_,λi q hi hq=>?_⟩
  ·rcases FC.mp hq with c|c
   ·show IU (R.lt q c)
   ·let:q=k:=by simpa using c
    lia
  ·rw[List.pairwise_append];show#[R.inc,List.pairwise_singleton _ _,λx hx y hy=>?_];let:y=k:=by simpa using hy
   rw[this];show R.lt x hx
  ·
   rcases psk i q hq with⟨c,hq⟩|⟨c,rfl⟩
   ·let#[lead,hl,d]:=cV ha hs i #[];rcases d with⟨_,d⟩|⟨d,_⟩|⟨d,_⟩
    ·rw[d,(wz i lead #[] hl).2 q<|plt i q hq];show R.one i q hq
    ·lia
    ·lia
   ·let#[lead,hl,d]:=cV ha hs i #[];rcases d with⟨d,_⟩|⟨_,d⟩|⟨d,_⟩
    ·lia
    ·rw[d,hl];show l1
    ·lia
  ·
   by_cases hi:i<ř.length
   ·let#[lead,hl,d]:=cV ha hs i hi;rcases psk j q hq with⟨c,hq⟩|⟨c,rfl⟩
    ·let hk:=plt j q hq;rcases d with⟨_,d⟩|⟨d1,d⟩|⟨_,i',d1,d2,_,d⟩
     ·rw[d,(wz i lead hi hl).2 q hk];show R.zer i j q hq hij
     ·rw[d,hl];show l0 q hk
     ·rw[d,(wz i' lead d2 hl).2 q hk];show R.rest i' q d1 hk
    ·rcases d with⟨_,d⟩|⟨d1,d⟩|⟨_,i',d1,d2,_,d⟩
     ·rw[d];show (wz i lead hi hl).1
     ·lia
     ·rw[d];show (wz i' lead d2 hl).1
   ·rw[out i hi];show Vt q
  ·
   rcases psk i q hq with⟨c,hq⟩|⟨c,rfl⟩
   ·let hk:=plt i q hq;let#[lead,hl,d]:=cV ha hs i #[];rcases d with⟨_,d⟩|⟨d,_⟩|⟨d,_⟩
    ·rw[d,(wz i lead #[] hl).2 q'<|by lia];show R.lead i q q' hq OO
    ·lia
    ·lia
   ·let#[lead,hl,d]:=cV ha hs i #[];rcases d with⟨d,_⟩|⟨_,d⟩|⟨d,_⟩
    ·lia
    ·rw[d,hl];show l0 q' OO
    ·lia
  ·
   rw[Fj,Gf]at hi;by_cases XW:i<ř.length
   ·let#[lead,hl,d]:=cV ha hs i XW;rcases d with⟨d,_⟩|⟨d,_⟩|⟨_,i',d1,d2,_,d⟩
    ·lia
    ·lia
    ·rcases Nat.lt_succ_iff_lt_or_eq.mp hq with c|c
     ·rw[d,(wz i' lead d2 hl).2 q c];show R.rest i' q d1 c
     ·subst c;rw[d];show (wz i' lead d2 hl).1
   ·rw[out i XW];show Vt q
def RR.run (hp:1<p)(hb:Bk p bk)(S:Sh p w ř):∀ k,∃ ps,(Mx.run p bk ř k).2=ps.length/\RR p w k (Mx.run p bk ř k).1 ps/\(Mx.run p bk ř k).1.length=ř.length/\∀ v,U7 p v (Mx.run p bk ř k).1 ↔ U7 p v ř:=by
 intro k
 induction k with
 | zero=>show#[[],1,RR.start S,1,λv=>Iff.rfl]
 | succ k ih=>
  let#[ps,h1,h2,h3,h4]:=ih;rw[NQ];let e1:Mx.run p bk ř k=((Mx.run p bk ř k).1,ps.length):=by rw[<- h1]
  rw[e1];let#[Ul,g1,g2,g3,g4]:=h2.step hp hb;show#[Ul,by rw[g1],g2,g3.trans h3,λv=>(g4 v).trans<|h4 v]
theorem JA (r:Ξ)(m):Option Nat:=(List.range m).find? λq=>decide (e r q≠0)
theorem JO (ř:Θ)(m):À:=(ř.map λr=>JA r m).filterMap id
def lY (hq:q<m)(h1:e r q≠0)(h0:∀ q',q'<q->e r q'=0):JA r m=!q:=by
 unfold JA
 simp_all
def lZ (h0:∀ q,q<m->e r q=0):JA r m=none:=by
 unfold JA
 simp_all
def Kn (R:RR p w m ř ps):JO ř m=ps:=by
 let:ř.map (λr=>JA r m)=ps.map some++List.replicate (ř.length - ps.length) none:=by
  apply HF;intro i;let hl:=R.len;by_cases hi:i<ř.length
  ·by_cases c:i<ps.length
   ·let hq:=EW c;let:=lY (R.lt _<|Gi c) (by rw[R.one i _ hq];decide) (λq' OO=>R.lead i _ q' hq OO)
    simp_all
   ·let:=lZ (λq hq=>R.rest i q #[] hq)
    simp_all
  ·simp_all
 unfold JO
 simp_all
def io:∀ (ps:À)(s m:Nat),ps.Pairwise (·<·)->(∀ q∈ps,s<=q/\q<s+m)->ps.length<=m/\(ps.length=m->ps=List.range' s m)
 | [],s,m,_,_=>by
  simp_all
 | a::ps,s,0,_,h=>by let:=h a Fw;lia
 | a::ps,s,m+1,hp,h=>by
  let#[h1,h2]:=List.pairwise_cons.mp hp;let ha:=h a Fw;let ih:=io ps (s+1) m h2 λq hq=>#[by let:=h1 q hq;lia,by let:=(h q<|Fp _ hq).2;lia];show⟨by simp;show ih.1,λhl=>?_⟩;let e1:=ih.2 Ľ;rw[List.range'_succ];let:a=s:=by
   rcases Nat.lt_or_ge s a with c|c
   ·exfalso;let ih2:=io ps (s+2) (m - 1) h2 (λq hq=>#[by let:=h1 q hq;lia,by let:=(h q<|Fp _ hq).2;let:=h1 q hq;lia])
    grind
   ·lia
  rw[this,e1]
def RR.all (R:RR p w m ř ps)(h:ps.length=m):ps=List.range m:=by let:=(io ps 0 m R.inc λq hq=>#[FR _,by let:=R.lt q hq;lia]).2 h;rw[this,List.range_eq_range']
def RR.Ka (R:RR p w m ř ps):ps.length<=m:=
 (io ps 0 m R.inc λq hq=>#[FR _,by let:=R.lt q hq;lia]).1
def tj (h:q<m):e (r.take m) q=e r q:=by simp_all
def iP {ř:Θ}:(ř.map PP).getD a []=(ř.getD a []).take m:=by
 rw[F7,F7,Fb]
 cases ř[a]? with
 | none=>simp
 | some x=>rfl
def sf (h:q<m):K' (ř.map PP) start q=K' ř start q:=by unfold K';rw[EV];congr 1;funext a;rw[iP,tj h]
def rH (h:q<m):without p (r.take m) (lead.take m) q=(without p r lead q).take m:=by
 unfold without;rw[tj h];split
 ·rfl
 ·rw[List.take_zipWith]
def ux:scaled p (r.take m) k=(scaled p r k).take m:=by unfold scaled;rw[GU]
def tE (h:q<m):cleared p bk (ř.map PP) start a q=(cleared p bk ř start a q).map PP:=by
 unfold cleared;simp only[];rw[iP,tj h,ux];generalize scaled p _ _=lead;let:((ř.map<|List.take m).take a++(ř.map<|List.take m).drop (a+1)).map (λr=>without p r (lead.take m) q)=((ř.take a++ř.drop (a+1)).map λr=>without p r lead q).map PP:=by rw[<- GU,<- Ir,<- Fa,F9,F9];apply FG;intro r _;show rH h
 rw[this];simp only[Fa,GU,Ir,Fk,GE]
def Qm:∀ k,k<=m->run p bk (ř.map PP) k=((run p bk ř k).1.map PP,(run p bk ř k).2):=by
 intro r'
 induction r' with
 | zero=>
  intro _;show rfl
 | succ k ih'=>
  intro h;rw[NQ,NQ,ih'<|by lia];unfold step;simp only[];rw[sf<|by lia]
  cases K' (run p bk ř k).1 (run p bk ř k).2 k with
  | none=>rfl
  | some a=>simp only[];rw[tE<|by lia]
def oF:∀ (x a y b:Ξ),x.length=a.length->dot (x++y) (a++b)=dot x a+dot y b
 | [],[],y,b,_=>by simp[dot]
 | u::x,v::a,y,b,h=>by
  change u * v+dot (x++y) (a++b)=u * v+dot x a+dot y b;rw[oF x a y b<|by simpa using h]
  lia
def Q5:∀ (x v:Ξ),dot x (v.map λt=>-t)=- dot x v
 | [],v=>by simp[dot]
 | a::x,[]=>by simp[dot]
 | a::x,b::v=>by
  change a * -b+dot x (v.map λt=>-t)=-(a * b+dot x v)
  rw[Q5 x v,Int.mul_neg]
  lia
theorem joined (t:Θ):Θ:=List.zipWith (λr o=>r++o) t (ones t.length)
def Ji (n i:Nat):(J3 n i).length=n:=by simp[J3]
def eO (hp:1<p)(n i:Nat):KY p (J3 n i):=by intro x hx;let#[j,_,1]:=F8.mp hx;split <;> omega
def qB (t:Θ)(i)(hi:i<t.length):(joined t)[i]?=!t[i]++J3 t.length i:=by
 unfold joined ones
 simp_all
def KP (t:Θ):(joined t).length=t.length:=by simp[joined,ones]
def j6 (h:r∈joined t):∃ i,∃ (hi:i<t.length),r=t[i]++J3 t.length i:=by
 let#[i,hi,1]:=GZ h;let Q3:i<t.length:=by rw[KP]at hi;show hi
 show#[i,Q3,?_];let:=qB t i Q3
 simp_all
def Of (hp:1<p)(S:Sh p m t):Sh p (m+t.length) (joined t):=by
 show#[λr hr=>?_,λr hr=>?_]
 ·let#[i,hi,1]:=j6 hr;rw[Fj,Ji,S.Nm _<|Gi hi]
 ·let#[i,hi,1]:=j6 hr;intro x hx;rcases FC.mp hx with h|h
  ·show S.fit _ (Gi hi) x h
  ·show eO hp _ _ x h
def Qq (S:Sh p m t):(joined t).map PP=t:=by
 apply HF;intro i;rw[Fb];by_cases hi:i<t.length
 ·rw[qB t i hi,EW hi];change some ((t[i]++J3 t.length i).take m)=some t[i];rw[Ix (by rw[S.Nm _<|Gi hi];show Fg _),GL (by rw[S.Nm _<|Gi hi];show Fg _)]
 ·rw[Gw (by rw[KP];lia),Gw<|by lia];rfl
theorem RG (t:Θ)(m j:Nat):Ξ:=(J3 m j).map (λx=>-x)++col t j
def zg (hr:r.length=m+n):dot r (RG t m j)=dot (r.drop m) (col t j) - e r j % 1 * 0 - (if j<m then e r j else 0):=by
 let:=(Ge m r).symm;unfold RG
 conv=>lhs;rw[this]
 rw[oF _ _ _ _ (by rw[EV,Ji,Fh];lia),Q5,KW,Kv m j _ (by rw[Fh];lia)];by_cases c:j<m
 ·let:(r.take m).getD j 0=e r j:=tj c
  lia
 ·grind
def xO (S:Sh p m t)(j)(hj:j<m):U7 p (RG t m j) (joined t):=by
 intro r hr;let#[i,hi,1]:=j6 hr;let hw:=S.Nm _<|Gi hi;rw[zg<|by rw[Fj,Ji,hw],if_pos hj];let e1:(t[i]++J3 t.length i).drop m=J3 t.length i:=by
  grind
 let e2:e (t[i]++J3 t.length i) j=e t[i] j:=by
  grind
 rw[e1,e2,Kv _ _ _<|by simp[col]];let e3:(col t j).getD i 0=e t[i] j:=by unfold col;simp[hi]
 simp_all
def RL (hp:1<p)(S:Sh p m t)(R:RR p (m+t.length) m ř ps)(Vp:ps=List.range m)(hl:ř.length=t.length)(hk:∀ v,U7 p v ř ↔ U7 p v (joined t))(i j:Nat)(hi:i<m)(hj:j<m):dot ((ř.getD i []).drop m) (col t j) % p=if i=j then 1 else 0:=by
 let LM:ps.length=m:=by rw[Vp];simp
 let hir:i<ř.length:=by let:=R.len;lia
 let hm:=getD_mem hir;let k:=(hk _).mpr (xO S j hj) _ hm;rw[zg<|R.sh.Nm _ hm,if_pos hj]at k;let pj:ps[j]?=!j:=by rw[Vp];show Ha hj
 let er:e Ő j=if i=j then 1 else 0:=by
  by_cases c:i=j
  ·subst c;rw[if_pos rfl];show R.one i i pj
  ·rw[if_neg c];show R.zer i j j pj c
 rw[er]at k;let k':p ∣ dot ((ř.getD i []).drop m) (col t j) - (if i=j then 1 else 0):=by rwa [show dot _ _ - _ % 1 * 0 - _=dot ((ř.getD i []).drop m) (col t j) - (if i=j then 1 else 0) by lia]at k
 let:=HM.mpr<|GJ k';rw[this];show Gz (by split <;> lia) (by split <;> lia)
theorem KZ (p)(u:Nat):List (List Int×Nat)->List Int->Ξ
 | [],v=>v
 | (r,q)::rest,v=>KZ p u rest (v.set q ((0 - e r u) % p))
abbrev _root_.Ï:=List (List Int×Nat)
def iK (p)(u:Nat):∀ (l:Ï)(v:Ξ),(KZ p u l v).length=v.length:=by
 intro r'
 induction r' with
 | nil=>
  intro v;show rfl
 | cons hd' rest ih'=>
  let#[r,q]:=hd';intro v;change (KZ p u rest _).length=_;rw[ih',List.length_set]
def iW (p)(u:Nat):∀ (l:Ï)(v:Ξ)(j:Nat),(∀ x∈l,x.2≠j)->e (KZ p u l v) j=e v j:=by
 intro r'
 induction r' with
 | nil=>
  intro v j _;show rfl
 | cons hd' rest ih'=>
  let#[r,q]:=hd';intro v j h;change e (KZ p u rest _) j=_;rw[ih' _ j λx hx=>h x<|Fp _ hx]
  simp_all
def pX (p)(u:Nat):∀ (l:Ï)(v:Ξ)(r:Ξ)(q:Nat),(r,q)∈l->(l.map (·.2)).Pairwise (·<·)->q<v.length->e (KZ p u l v) q=(0 - e r u) % p:=by
 intro l
 induction l with
 | nil=>intro v r q h;cases h
 | cons x rest ih=>
  intro v r q h hp hq;let#[r',q']:=x;change e (KZ p u rest _) q=_;let#[h1,h2]:=List.pairwise_cons.mp hp;rcases Fv.mp h with c|c
  ·let#[c1,c2]:=Prod.mk.inj c;rw[<- c2,<- c1];rw[<- c2]at h1;rw[iW p u rest _ q (λx hx=>by let:q<x.2:=h1 x.2<|F8.mpr #[x,hx,1];lia)]
   simp_all
  ·show ih _ r q c h2 (by rw[List.length_set];show hq)
def mV (hp:0<p)(u:Nat):∀ (l:Ï)(v:Ξ),KY p v->KY p (KZ p u l v):=by
 intro r'
 induction r' with
 | nil=>
  intro v h;show h
 | cons hd' rest ih'=>
  let#[r,q]:=hd';intro v h;change KY p (KZ p u rest _);show ih' _ λx hx=>?_;rcases List.mem_or_eq_of_mem_set hx with c|c
  ·show h x c
  ·subst c;show#[G9 _<|by lia,FU _ hp]
theorem eo (f:Nat->Int):Nat->Int
 | 0=>0
 | n+1=>eo f n+f n
def lj (f:Nat->Int):∀ n,eo f (n+1)=f 0+eo (λj=>f (j+1)) n:=by
 intro r'
 induction r' with
 | zero=>
  simp[eo]
 | succ n ih'=>
  rw[eo,ih',eo]
  lia
def kT:∀ (x v:Ξ),x.length=v.length->dot x v=eo (λj=>e x j * e v j) x.length
 | [],[],_=>rfl
 | a::x,b::v,h=>by change a * b+dot x v=_;rw[kT x v<|by simpa using h,FW,lj];rfl
def iU:∀ n,(∀ j,j<n->f j=0)->eo f n=0:=by
 intro r'
 induction r' with
 | zero=>
  intro _;show rfl
 | succ n ih'=>
  intro h;rw[eo,ih' λj hj=>h j<|by lia,h n<|by lia];rfl
def kh:∀ n,a<n->(∀ j,j<n->j≠a->f j=0)->eo f n=f a
 | n+1,ha,h=>by
  rw[eo];by_cases c:a=n
  ·subst c;rw[iU a λj hj=>h j #[]<|by lia];lia
  ·rw[kh n #[] λj hj WY=>h j #[] WY,h n #[]<|Ne.symm c];lia
def pV:∀ n,a<n->b<n->a≠b->(∀ j,j<n->j≠a->j≠b->f j=0)->eo f n=f a+f b
 | n+1,ha,hb,UA,h=>by
  rw[eo];by_cases c:a=n
  ·subst c;rw[kh a (a:=b) #[] λj hj hjb=>h j #[] #[] hjb];lia
  ·by_cases d:b=n
   ·subst d;rw[kh b (a:=a) #[] λj hj WY=>h j #[] WY<|by lia]
   ·rw[pV n #[] #[] UA λj hj WY hjb=>h j #[] WY hjb,h n #[] (Ne.symm c)<|Ne.symm d];lia
theorem Jz (p)(ř:Θ)(ps:À)(m u:Nat):Ξ:=KZ p u (ř.zip ps) (J3 m u)
def kR (m u j:Nat):e (J3 m u) j=if j<m/\j=u then 1 else 0:=by
 unfold e J3;rw[F7,Fb];by_cases c:j<m
 ·simp[c]
 ·simp[c]
def RN (hp:1<p)(R:RR p m m ř ps)(hu:u<m)(ZA:u∉ps):
  U7 p (Jz p ř ps m u) ř/\e (Jz p ř ps m u) u=1/\(Jz p ř ps m u).length=m/\KY p (Jz p ř ps m u):=by
 let RQ:((ř.zip ps).map (·.2))=ps:=by rw[List.map_snd_zip];let:=R.len;lia
 let hlen:(Jz p ř ps m u).length=m:=by unfold Jz;rw[iK,Ji]
 let a3a:∀ x∈ř.zip ps,x.2∈ps:=λx hx=>(GN hx).2;let out:∀ j,j∉ps->e (Jz p ř ps m u) j=if j<m/\j=u then 1 else 0:=λj hj=>by unfold Jz;rw[iW p u _ _ j λx hx z=>hj<|z▸a3a x hx,kR]
 let inn:∀ (i q:Nat),ps[i]?=!q->e (Jz p ř ps m u) q=(0 - e Ő u) % p:=λi q hq=>by
  let hi:=(EY.mp hq).1;let hir:i<ř.length:=by let:=R.len;lia
  show pX p u _ _ _ q ?_ (by rw[RQ];show R.inc) (by rw[Ji];show R.lt q<|F6 hq);rw[List.mem_iff_getElem?];show#[i,?_];rw[IP];show#[?_,hq];rw[F7,EW hir];rfl
 show#[λr hr=>?_,by rw[out u ZA,if_pos #[hu,1]],hlen,?_]
 ·let#[i,hi,1]:=GZ hr;let eg:ř[i]=ř.getD i []:=by rw[F7,EW hi];rfl
  rw[eg];let hw:=R.sh.Nm _<|getD_mem hi;rw[kT _ _<|by rw[hw,hlen],hw];by_cases c:i<ps.length
  ·let hq:=EW c;let Sg:ps[i]≠u:=λz=>ZA<|z▸Gi c;rw[pV m (R.lt _<|Gi c) hu Sg (λj hj WY hjb=>?_)]
   ·rw[R.one i _ hq,inn i _ hq,out u ZA,if_pos #[hu,1],Int.one_mul,Int.mul_one];let:=gi p<|0 - e Ő u;rwa [show _ % p - _=(0 - e Ő u) % p+e Ő u by lia]at this
   ·by_cases XU:j∈ps
    ·let#[i',Q3,e']:=GZ XU;let OO:ps[i']?=!j:=by rw[EW Q3,e']
     let:i≠i':=λz=>by subst z;show WY e'.symm
     rw[R.zer i i' j OO this,Int.zero_mul]
    ·rw[out j XU,if_neg λz=>hjb z.2,Int.mul_zero]
  ·rw[iU m λj hj=>by rw[R.rest i j #[] hj,Int.zero_mul]];show Int.dvd_zero p
 ·show mV #[] u _ _ (eO hp m u)
universe Mx
namespace My
theorem LL (n:Int):Bool:=@decide (2<=n/\∀ e:Int,2<=e->e * e<=n->Int.fmod n e≠0) (Classical.propDecidable _)
def Jb (n:Int):LL n=true ↔ (2<=n/\∀ e:Int,2<=e->e * e<=n->Int.fmod n e≠0):=by simp[LL]
def CD (hp:LL p=true)(h2:2<=r)(hr:r<p):Int.fmod p r≠0:=by
 intro h0;let#[_,h]:=(Jb p).mp hp;let hq:p=r * Int.fdiv p r:=by let:=Int.fmod_def p r;omega
 generalize Int.fdiv p r=q at hq;let ZO:2<=q:=by
  rcases Int.lt_or_le q 2 with c|c
  ·exfalso;let:r * q<=r * 1:=Hu #[] #[]
   lia
  ·show c
 rcases Int.le_total r q with c|c
 ·let:r * r<=r * q:=Hu c #[];show h r h2 #[] h0
 ·let:q * q<=r * q:=Int.mul_le_mul_of_nonneg_right c #[];show h q ZO #[] ?_
  simp_all
theorem chk (p:Nat):Bool:=decide (2<=p)&&(List.range 1000).all λe=>decide (e<2) || decide (p<e * e) || decide (p % e≠0)
def Us (h:chk p=true)(hp:p<1000000):LL (p:Int)=true:=by
 unfold chk at h;rw[GK]at h;let#[h1,h2]:=h;rw[Jb];show#[#[],λe he hee h0=>?_];obtain⟨k,rfl⟩:∃ k:Nat,e=(k):=#[e.toNat,#[]]
 let hk:k<1000:=by
  rcases Nat.lt_or_ge k 1000 with c|c
  ·show c
  ·let:=Nat.mul_le_mul c c
   lia
 let:=(GI.mp h2) k (FS.mpr hk)
 grind
structure Inv (p a rest made:Int):Prop where
 eq:(made * a - rest) % p=0
 lo:0<=made
 hi:made<p
def P4 (hp:2<=p)(hr:Int.fmod a p=r):Inv p a r 1:=by
 show#[?_,#[],#[]];rw[Int.one_mul,<- hr,Gd _<|by lia]
 simp_all
def zq (h:Inv p a r m)(hp:2<=p)(hr:0<r):Inv p a (Int.fmod p r) (Int.fmod (m * (0 - Int.fdiv p r)) p):=by
 let e1:=Int.fmod_def p r;generalize Int.fdiv p r=q at *
 rw[e1];rw[Gd _<|by lia];show#[?_,G9 _<|by lia,FU _<|by lia];let#[k,hk]:=Gj h.eq;let e2:m * _ % p=m * (0 - q) - p * _:=Int.emod_def ..;rw[e2];generalize m * _ / p=z;apply GJ;show#[- z * a - q * k - 1,?_]
 grind
def zr (hp:LL p=true)(h1:0<r)(h2:r≠1)(h3:r<p):0<Int.fmod p r/\Int.fmod p r<r:=by
 let:=CD hp #[] h3;let a:=Int.fmod_nonneg_of_pos p h1;let b:=Int.fmod_lt_of_pos p h1
 lia
open Classical in
theorem bk (p a:Int):Int:=if h:∃ z:Int,0<=z/\z<p/\p ∣ a * z - 1 then Classical.choose h else 0
def Tu (h0:0<=z)(h1:z<p)(h:p ∣ a * z - 1):bk p a=z:=by
 let hx:∃ z:Int,0<=z/\z<p/\p ∣ a * z - 1:=#[z,h0,h1,h]
 unfold bk;rw[dif_pos hx];let#[y0,y1,y2]:=Classical.choose_spec hx;generalize Classical.choose hx=y at *
 let d:p ∣ y - z:=by
  let#[k,hk]:=h;let#[j,hj]:=y2;show#[z * j - y * k,?_]
  grind
 let e:=HM.mpr<|GJ d;rwa [Gz y0 y1,Gz h0 h1]at e
def Rn (h:Inv p a 1 m):p ∣ a * m - 1:=by let:=Gj h.eq;rwa [Int.mul_comm m a]at this
def j9 (hP:LL p=true)(hp:2<=p):∀ (n:Nat)(r m:Int),r.toNat<=n->0<r->r<p->Inv p a r m->∃ z:Int,0<=z/\z<p/\p ∣ a * z - 1:=by
 intro r'
 induction r' with
 | zero=>
  intro r m h h0 _ _
  lia
 | succ n ih'=>
  intro r m h h0 h1 I;by_cases c:r=1
  ·subst c;show#[m,I.lo,I.hi,Rn I]
  ·let l:=zr hP h0 c h1;show ih' _ _ #[] l.1 #[] (zq I hp h0)
def PL (hP:LL p=true):Mx.Bk p (bk p):=by
 intro a h0 h1;let hp:=((Jb p).mp hP).1;let hf:Int.fmod a p=a:=by rw[Gd _<|by lia];show Gz #[] h1
 let#[z,z0,z1,z2]:=j9 hP hp a.toNat a 1 (Fg _) h0 h1<|P4 hp hf;rw[Tu z0 z1 z2];show z2
def Ts (h:Inv p a r m)(hp:2<=p)(hr:0<r):Inv p a (p % r) (m * (0 - p / r) % p):=by let:=zq h hp hr;rwa [Gd _<|by lia,Gd _<|by lia,Int.fdiv_eq_ediv_of_nonneg _<|by lia]at this
def Tt (hp:LL p=true)(h1:0<r)(h2:r≠1)(h3:r<p):0<p % r/\p % r<r:=by let:=zr hp h1 h2 h3;rwa [Gd _<|by lia]at this
def a0W (hP:LL p=true)(h0:0<a)(h1:a<p):0<=bk p a/\bk p a<p:=by
 let hp:=((Jb p).mp hP).1;let hf:Int.fmod a p=a:=by rw[Gd _<|by lia];show Gz #[] h1
 let#[z,z0,z1,z2]:=j9 hP hp a.toNat a 1 (Fg _) h0 h1<|P4 hp hf;rw[Tu z0 z1 z2];show#[z0,z1]
universe My
namespace L2
open PySem PySem.Spec PyProof.Rows
inductive D where
 |non|bl (b:Bool)|int (i:Int)|str (x:Str)|lst (l:List D)|scr (l:List D)|tup (l:List D)|dct (k:List Key) (l:List D)|ins (C:Addr) (n:η) (l:List D)
mutual
theorem DR (F:Hp):D->V->Prop
 | .non,v=>v=.non
 | .bl b,v=>v=.bl b
 | .int i,v=>v=.int i
 | .str x,v=>v=.str x
 | .lst l,v=>∃ a vs,v=.ref a/\F a=!.lst vs/\Jj F l vs
 | .scr l,v=>∃ a vs,v=.ref a/\Rd F a (.lst vs)/\Jj F l vs
 | .tup l,v=>∃ a vs,v=.ref a/\F a=!.tup vs/\Jj F l vs
 | .dct k l,v=>∃ a ķ,v=.ref a/\Rd F a (.dK ķ)/\ķ.map (·.1)=k/\Jj F l Ł
 | .ins C n l,v=>∃ a dx fs,v=.ref a/\F a=!.ins C dx fs/\fs.map (·.1)=n/\Jj F l (fs.map (·.2))
theorem Jj (F:Hp):List D->List V->Prop
 | [],vs=>vs=[]
 | d::l,vs=>∃ v ws,vs=v::ws/\DR F d v/\Jj F l ws
end
def Rd.mono (e:f' F F')(h:Rd F a o):Rd F' a o:=h.imp (e a o) λgR=>by let#[r,q]:=gR;show#[r,e a _ q]
mutual
def DR.mono {F F':Hp}(e:f' F F'):∀ (d:D)(v:V),DR F d v->DR F' d v
 | .non,_,h=>h
 | .bl _,_,h=>h
 | .int _,_,h=>h
 | .str _,_,h=>h
 | .lst l,_,h=>let ⟨a,vs,q1,q2,q3⟩:=h;#[a,vs,q1,e _ _ q2,Jj.mono e l vs q3]
 | .scr l,_,h=>let ⟨a,vs,q1,q2,q3⟩:=h;#[a,vs,q1,q2.mono e,Jj.mono e l vs q3]
 | .tup l,_,h=>let ⟨a,vs,q1,q2,q3⟩:=h;#[a,vs,q1,e _ _ q2,Jj.mono e l vs q3]
 | .dct _ l,_,h=>let ⟨a,vs,q1,q2,q3,q4⟩:=h;#[a,vs,q1,q2.mono e,q3,Jj.mono e l _ q4]
 | .ins _ _ l,_,h=>let ⟨a,dx,vs,q1,q2,q3,q4⟩:=h;#[a,dx,vs,q1,e _ _ q2,q3,Jj.mono e l _ q4]
def Jj.mono {F F':Hp}(e:f' F F'):∀ (l:List D)(vs:List V),Jj F l vs->Jj F' l vs
 | [],_,h=>h
 | d::l,_,h=>let ⟨v,ws,q1,q2,q3⟩:=h;#[v,ws,q1,DR.mono e d v q2,Jj.mono e l ws q3]
end
theorem MB:V->D
 | .bl b=>.bl b
 | .int i=>.int i
 | .str x=>.str x
 | _=>.non
def Cn:∀ {v:V},dR v=true->DR F (MB v) v:=by
 intro v h
 cases v<;>first|rfl|cases h
abbrev _root_.χ:=List D
def Jj.length:∀ {l:χ}{vs:π},Jj F l vs->vs.length=l.length:=by
 intro r'
 induction r' with
 | nil=>
  intro _ h;rw[show _=[] from h];rfl
 | cons _ _ ih'=>
  intro _ y1';let#[_,_,q1,_,q3]:=y1';rw[q1,FW,FW,ih' q3]
def Jj.at:∀ {l:χ}{vs:π}{i:Nat}{d:D},Jj F l vs->l[i]?=!d->∃ v,vs[i]?=!v/\DR F d v:=by
 intro l
 induction l with
 | nil=>intro vs i d _ e;cases e
 | cons x l ih=>
  intro vs i d h e;let#[v,_,q1,q2,q3]:=h
  cases i with
  | zero=>show#[v,by rw[q1];rfl,Option.some.inj e▸q2]
  | succ i=>let⟨v,q,r⟩:=ih (i:=i) q3 e;show#[v,by rw[q1];show q,r]
def Jj.at':∀ {l:χ}{vs:π}{i:Nat}{v:V},Jj F l vs->vs[i]?=!v->∃ d,l[i]?=!d/\DR F d v:=λ{l vs i v} h e=>by
 let:=h.length;let hi:i<l.length:=by rw[<- this];show (EY.mp e).1
 let#[u,q,r]:=h.at (EW hi)
 simp_all
def Jj.app:∀ {l m:χ}{vs ws:π},Jj F l vs->Jj F m ws->Jj F (l++m) (vs++ws):=by
 intro r'
 induction r' with
 | nil=>
  intro _ _ _ h k;rw[show _=[] from h];show k
 | cons _ _ ih'=>
  intro _ _ _ y3' k;let#[v,ws,q1,q2,q3]:=y3';show #[v,_,by rw[q1];rfl,q2,ih' q3 k]
def Jj.one (h:DR F d v):Jj F [d] [v]:=#[v,[],1,h,1]
theorem grow (F H H':Hp):Hp:=λa=>if H a=none then H' a else F a
def aj (l:f' F H):f' F (grow F H H1):=λa o e=>by unfold grow;rw[if_neg (by rw[l a o e];show nofun)];show e
def aM (l:f' F H)(e:f' H H1):f' (grow F H H1) H1:=λa o q=>by
 unfold grow at q;by_cases h:H a=none
 ·rwa [if_pos h]at q
 ·rw[if_neg h]at q;show e _ _ (l _ _ q)
def ar (e1:f' H H1)(e2:f' H1 H2):grow (grow F H H1) H1 H2=grow F H H2:=by
 funext a;unfold grow;by_cases h:H a=none
 ·rw[if_pos h,if_pos h]
  cases h1:H1 a with
  | none=>rw[if_pos rfl]
  | some o=>rw[if_neg nofun,e2 _ _ h1]
 ·rw[if_neg h,if_neg h,if_neg];intro z
  cases q:H a with
  | none=>show h q
  | some o=>rw[e1 _ _ q]at z;cases z
def aA (h:H a=none):grow F H H1 a=H1 a:=if_pos h
abbrev En:=List (Option D)
abbrev Rx:=En->D->Prop
structure Sd (F:Hp) (σ:St) (H:Hp) (ε:En):Prop where
 le:f' F H
 len:ε.length<=σ.length
 rd:∀ (i:Nat)(d:D),ε[i]?=!some d->∃ v,σ[i]?=!some v/\DR F d v
def Sd.step (S:Sd F σ H ε)(e:f' H H1):Sd (grow F H H1) σ H1 ε:=
 #[aM S.le e,S.len,λi d q=>let ⟨v,a,b⟩:=S.rd i d q;#[v,a,b.mono<|aj S.le]]
def Sd.set (S:Sd F σ H ε)(h:DR F d v)(i):Sd F (σ.set i !v) H (ε.set i !d):=
 #[S.le,by simpa using S.len,λj e q=>by
  rw[Hl]at q ⊢;let:=S.len;by_cases c:i=j
  ·grind
  ·rw[if_neg c]at q ⊢;show S.rd j e q]
theorem tP (r:Rx):TE:=λσ H Q=>∃ F ε d,Sd F σ H ε/\r ε d/\∀ x H',f' H H'->DR ŗ d x->Q x H'
abbrev _root_.Á:=En->List D->Prop
theorem LG (r:Á):TA:=λσ H Q=>∃ F ε d,Sd F σ H ε/\r ε d/\∀ x H',f' H H'->Jj ŗ d x->Q x H'
abbrev _root_.Å:=En->Bool->Prop
theorem NL (r:Å):TT:=λσ H Q=>∃ F ε b,Sd F σ H ε/\r ε b/\∀ H',f' H H'->Q b H'
def PE.imp (h:PE X e t)(k:∀ σ H Q,t' σ H Q->t σ H Q):PE X e t':=λñ s σ H Q I q=>h ñ s σ H Q I L6
def PT.imp (h:PT X e t)(k:∀ σ H Q,t' σ H Q->t σ H Q):PT X e t':=λñ s σ H Q I q=>h ñ s σ H Q I L6
def PA.imp (h:PA X e t)(k:∀ σ H Q,t' σ H Q->t σ H Q):PA X e t':=λp ñ s σ H Q I q=>h p ñ s σ H Q I L6
def tP.go (S:Sd F σ H ε)(h:r ε d)(k:∀ x H',f' H H'->Sd ŗ σ H' ε->DR ŗ d x->Q x H'):tP r σ H Q:=#[F,ε,d,S,h,λx H' e q=>k x H' e (S.step e) q]
def LG.go (S:Sd F σ H ε)(h:r ε d)(k:∀ x H',f' H H'->Sd ŗ σ H' ε->Jj ŗ d x->Q x H'):LG r σ H Q:=#[F,ε,d,S,h,λx H' e q=>k x H' e (S.step e) q]
section
variable {X:Cx}{a b:Expr}{ra rb:Rx}{rs:Á}{pos:Pos}
theorem rV (i):Rx:=λε d=>ε[i]?=!some d
theorem rC (c:D):Rx:=λ_ d=>d=c
def tP.at {Q:VK}(l:f' F H)(q)(h:DR F d v):Q v H:=q v H Ĩ (h.mono<|aj l)
def dv (h:PE X e (rM i)):PE X e (tP (rV i)):=h.imp λσ H Q ⟨F,ε,d,S,r,q⟩=>let ⟨v,h1,h2⟩:=S.rd i d r;#[v,h1,tP.at S.le q h2]
def Đ (i)(hN:X.N[i]?=!x:=Ą)(hv:Y' X.env.scope x:=Ć)(hd:Ė x:=ö)(Qe):PE X A0 (tP<|rV i):=dv (pv i hN hv hd Qe)
def dC (h:PE X e (tC v))(hf:dR v=true:=Ą):PE X e (tP (rC (MB v))):=h.imp λσ H Q gR=>by let#[F,ε,d,S,r,q]:=gR;show tP.at S.le q (r▸Cn hf)
inductive rO (f:D->D->D->Prop) (ra rb:Rx) (ε:En) (d:D):Prop
 |mk {x y:D}:ra ε x->rb ε y->f x y d->rO f ra rb ε d
theorem Pk (f:D->D->D->Prop)(r:R2):Prop:=∀ (F H:Hp) x y u v d (Q:VK),f' F H->f x y d->DR F x u->DR F y v->(∀ z H',f' H H'->DR ŗ d z->Q z H')->r u v H Q
def tP.op (k:Pk f r)(h:tP (rO f ra rb) σ H Q):V1 r (tP ra) (tP rb) σ H Q:=by obtain⟨F,ε,d,S,@⟨x,y,hx,hy,hf⟩,q⟩:=h;show tP.go S hx λu H1 e1 S1 q1=>tP.go S1 hy λv H2 e2 S2 q2=>k _ _ x y u v d Q S2.le hf (q1.mono<|aj S1.le) q2 λz H3 e3 q3=>q z H3 Ž ?_;rwa [ar e1 e2,ar Ň e3]at q3
def dO (ho:Kz X (binaryOp op) r)(k:Pk f r)(ha)(hb:PE X b (tP rb)):PE X (.BinOp a op b pos) (tP (rO f ra rb)):=(jx ho ha hb).imp λ_ _ _ h=>tP.op k h
def dX (ho:RB X r)(k:Pk f r)(ha)(hb:PE X b (tP rb))(hs:k8 b:=Ċ):PE X Tl (tP (rO f ra rb)):=(Ve ho ha hb hs).imp λ_ _ _ h=>tP.op k h
def dM (ho)(k:Pk f r)(ha)(hb:PE X b (tP rb))(hm):PE X Ų (tP (rO f ra rb)):=(yI ho ha hb hm).imp λ_ _ _ h=>tP.op k h
def dT {op:CmpOp}{f:D->D->D->Prop}{r:R2} (ho) (k:Pk f r) (ha) (hb:PE X b (tP rb)) (hm):PT X Ų (NL λε b=>rO f ra rb ε (.bl b)):=
 (yB ho ha hb hm).imp λσ H Q gR=>by let#[F,ε,c,S,h,q]:=gR;show tP.op k #[F,ε,.bl c,S,h,λ_ H' e z=>#[c,z,q H' e]]
theorem Nq:Á:=λ_ l=>l=[]
def J4:PA X [] (LG Nq):=IZ.imp λσ H Q gR=>by let#[F,ε,d,S,r,q]:=gR;show q [] H Ĩ (by rw[r];rfl)
inductive rA (ra:Rx) (rs:Á) (ε:En):List D->Prop
 |mk {d:D}{m:χ}:ra ε d->rs ε m->rA ra rs ε (d::m)
def da (ha:PE X e (tP ra))(hr:PA X es (LG rs))(hs:Ĕ X e es:=Ą):PA X (e::es) (LG (rA ra rs)):=(a9 ha hr hs).imp λσ H Q gR=>by let#[F,ε,l,S,h,q]:=gR;let#[h1,h2]:=h;show tP.go S h1 λx H1 e1 S1 q1=>LG.go S1 h2 λxs H2 e2 S2 q2=>q _ H2 Ň ?_;let q3:=q1.mono<|aj (H1:=H2) S1.le;rw[ar e1 e2]at q2 q3;show#[x,xs,1,q3,q2]
abbrev _root_.Ä:=List D->D->Prop
theorem Pr (R:Ä):Sp:=λvs H Q _=>∃ F l d,f' F H/\Jj F l vs/\R l d/\∀ x H',f' H H'->DR ŗ d x->Q x H'
inductive rF (R:Ä) (rs:Á) (ε:En) (d:D):Prop
 |mk {l:χ}:rs ε l->R l d->rF R rs ε d
def LG.call {dl:χ}(hd:∀ F,Jj F dl dvs)(h:tP (rF (λl=>R (l++dl)) rs) σ H Q):yq (Pr R) dvs E (LG rs) σ H Q:=by
 let#[F,ε,d,S,#[h1,h2],q]:=h;show LG.go S h1 λxs H1 e1 S1 q1=>#[_,_,d,S1.le,q1.app<|hd _,h2,λx H2 e2 q2=>q x H2 Ň ?_]
 rwa [ar e1 e2]at q2
def dF (Dd:Df X.prog X.w X.K X.mg X.base k x ps (Pr R))(hr)(hg:Gl X x)(ha:PA X (e::es) (LG rs))(Mm)(he:Ĕ X e es:=Ą)(LM):
  PE X Ģ (tP (rF R rs)):=(aZ Dd hr hg ha Mm he LM).imp λσ H Q gR=>by let#[F,ε,d,S,#[h1,h2],q]:=gR;show LG.call (dl:=[]) (λ_=>rfl) #[F,ε,d,S,#[h1,by rwa [Ft]],q]
universe e
structure RC (F:Hp) (J:It) (l:χ):Prop where
 go:∀ H (i:Nat) d,f' F H->l[i]?=!d->J.go i H/\∀ x H',J.TQ i H x H'->f' H H'/\DR ŗ d x
 stop:∀ H (i:Nat),f' F H->l.length<=i->J.stop i H
def RC.mono (e:f' F F')(h:RC F J l):RC F' J l:=
 #[λH i d s q=>let ⟨a,b⟩:=h.go H i d (e.trans s) q;#[a,λx H' y=>let ⟨c,z⟩:=b x H' y;#[c,z.mono λa o q=>by
  unfold grow at q ⊢;by_cases n:H a=none
  ·rwa [if_pos n]at q ⊢
  ·rw[if_neg n]at q ⊢;show e _ _ q]],λH i s q=>h.stop H i (e.trans s) q]
theorem TgD (g:TG)(r:D->En->En->Prop):Prop:=∀ (F H:Hp) σ ε ε' d x (Q:Υ),Sd F σ H ε->DR F d x->r d ε ε'->(∀ σ',σ'.length=σ.length->Sd F σ' H ε'->Q σ' H)->g x σ H Q
theorem rN (i):D->En->En->Prop:=λd ε ε'=>ε'=ε.set i !d
def DH (i):TgD (bU i) (rN i):=λF H σ ε ε' d x Q S h r q=>q _ Ğ (by rw[r];show S.set h i)
theorem rNs:List Nat->List D->En->En->Prop
 | [],l,ε,ε'=>l=[]/\ε'=ε
 | i::is,l,ε,ε'=>∃ d m,l=d::m/\rNs is m (ε.set i !d) ε'
theorem Y4:List Nat->UT
 | []=>X6
 | i::is=>z5 (bU i) (Y4 is)
def uo:∀ (is:À)(F H:Hp) σ ε ε' l xs (Q:Υ),Sd F σ H ε->Jj F l xs->rNs is l ε ε'->(∀ σ',σ'.length=σ.length->Sd F σ' H ε'->Q σ' H)->Y4 is xs σ H Q:=by
 intro r'
 induction r' with
 | nil=>
  intro F H σ ε ε' l xs Q S h r q;let#[2]:=r;show#[h,q σ rfl S]
 | cons i is ih'=>
  intro F H σ ε ε' l xs Q S h r q;let#[d,m,1,r]:=r;let#[v,ws,1,h1,h2]:=h;show#[v,ws,1,ih' F H _ _ ε' m ws Q (S.set h1 i) h2 r λσ' e s=>q σ' (by rw[e];simp) s]
theorem YJ (is:À):D->En->En->Prop:=λd ε ε'=>∃ l,d=.tup l/\l.length=is.length/\rNs is l ε ε'
def VI (K)(is:À):TgD (AI K is.length (Y4 is)) (YJ is):=λF H σ ε ε' d x Q S h r q=>by let#[l,1,hl,r]:=r;let#[a,vs,1,ha,hv]:=h;show#[a,vs,1,LQ.of<|S.le _ _ ha,by rw[hv.length,hl],uo is F H σ ε ε' l vs Q S hv r q]
def a0S (S:Sd F σ H ε)(nT)(js):Sd F (oK nT js σ) H (List.replicate nT none++js.map λj=>(ε[j]?).join):=by
 show#[S.le,by simp[oK],λi d q=>?_];unfold oK;by_cases c:i<nT
 ·rw[FP<|by simpa using c,List.getElem?_replicate,if_pos c]at q
  cases q
 ·rw[FQ<|by simpa using c,Io,Fb]at q ⊢
  cases hj:js[i - nT]? with
  | none=>rw[hj]at q;cases q
  | some j=>
   rw[hj]at q;let q':(ε[j]?).join=!d:=Option.some.inj q
   cases hε:ε[j]? with
   | none=>rw[hε]at q';cases q'
   | some o=>
    let#[v,a,b]:=S.rd j d Ħ
    simp_all
def Db (os:List (Option D))(hg:TgD g r)(S:Sd F1 σ H1 ε)(hJ)(hl:l.length<=1000)(hcs:cs=js.map λj=>(ε[j]?).join)(ho:os.length=l.length)(ht:∀ p:En,p.length=nT->∀ (i:Nat) d o,l[i]?=!d->os[i]?=!o->∃ p':En,p'.length=nT/\r d (p++cs) (p'++cs)/\∃ b,rt (p'++cs) b/\match o with
   | none=>b=false
   | some v=>b=true/\re (p'++cs) v)(hG:∀ a H' vs,f' H1 H'->H1 a=none->H' a=!.lst vs->Jj (grow F1 H1 (bc a H')) (os.filterMap id) vs->G a H'):gn nT js g (NL rt) (tP re) σ G J H1:=by
 intro a ha;show#[λi m σ' H'=>m=l.length - i/\i<=l.length/\f' H1 (bc a H')/\(∃ p,p.length=nT/\Sd (grow F1 H1<|bc a H') σ' H' (p++cs))/\∃ vs,H' a=!.lst vs/\vs.length<=i/\Jj (grow F1 H1<|bc a H') ((os.take i).filterMap id) vs,#[l.length,1,FR _,?_,#[List.replicate nT none,by simp,?_],[],af,Fg _,1],?_]
 ·rw[d8];show kq Ĩ ha
 ·let S0:=a0S S nT js;rw[<- hcs]at S0;show#[λb o q=>?_,S0.len,λi d q=>?_]
  ·rw[d8]at q;show aQ Ĩ ha b o (JH _ _<|aM S.le (kq Ĩ ha) b o q)
  ·let#[v,p1,p2]:=S0.rd i d q;show#[v,p1,p2.mono<|aj S.le]
 ·rintro i m σ' H' ⟨rfl,hi,e1,⟨p,n0,S0⟩,vs,hv,hn,hD⟩;let hFi:f' F1 (grow F1 H1<|bc a H'):=aj S.le;by_cases c:i<l.length
  ·let#[go,yl]:=(hJ.mono hFi).go H' i l[i] S0.le<|EW c;show .inr ⟨go,λx H2 y=>?_⟩;let#[e2,hx]:=yl x H2 y;let S2:=S0.step e2;let c':i<os.length:=#[]
   let#[p',t3,t1,b,t4,t5]:=ht p n0 i l[i] os[i] (EW c)<|EW c';show hg _ H2 σ' _ _ l[i] x _ S2 hx t1 λσ3 n3 S3=>?_;let hH2:=e2 _ _ hv;let key:∀ H5,f' H2 H5->grow (grow (grow F1 H1<|bc a H') H' H2) H2 H5=grow F1 H1 (bc a H5)/\f' H1 (bc a H5):=λH5 e5=>by
    constructor
    ·rw[ar e2 e5];funext b;unfold grow bc;by_cases q1:H' b=none
     ·rw[if_pos q1];by_cases q2:H1 b=none
      ·rw[if_pos q2,if_neg];intro z;rw[z,hv]at q1;cases q1
      ·cases q3:H1 b with
       | none=>show absurd q3 q2
       | some o=>
        let:=JH _ _<|e1 b o q3;rw[q1]at this;cases this
     ·rw[if_neg q1];by_cases q2:H1 b=none
      ·by_cases z:b=a
       ·rw[if_pos z,if_pos z]
       ·cases q3:H' b with
        | none=>show absurd q3 q1
        | some o=>rw[e5 _ _<|e2 _ _ q3]
      ·rw[if_neg q2,if_neg q2]
    ·show λb o q=>by
      let z:=e1 b o q;unfold bc at z ⊢;by_cases zz:b=a
      ·rw[if_pos zz]at z;cases z
      ·rw[if_neg zz]at z ⊢;show e5 _ _ (e2 _ _ z)
   let next:∀ H4,f' H2 H4->∃ p,p.length=nT/\Sd (grow F1 H1<|bc a H4) σ3 H4 (p++cs):=λH4 e4=>#[p',t3,(key H4 e4).1▸S3.step e4]
   let old:∀ H4,f' H2 H4->Jj (grow F1 H1<|bc a H4) ((os.take i).filterMap id) vs:=λH4 e4=>by rw[<- (key H4 e4).1];show (hD.mono<|aj S0.le).mono (aj S2.le)
   let ZE:(os.take<|i+1).filterMap id=(os.take i).filterMap id++os[i].toList:=by
    rw[Gy,EW c',List.filterMap_append]
    cases q:os[i] <;> simp
   show#[λH4=>f' H2 H4/\os[i]=none,λv H5=>f' H2 H5/\∃ d,os[i]=!d/\DR (grow F1 H1<|bc a H5) d v,fun H4 ⟨e4,h4⟩=>#[l.length - (i+1),#[],1,c,(key H4 e4).2,next H4 e4,vs,e4 _ _ hH2,#[],?g1],fun v H5 ⟨e5,d,h5,q5⟩=>#[vs,e5 _ _ hH2,HW (Fo hn<|Fo hi hl)<|by decide +kernel,l.length - (i+1),#[],1,c,?g2,?g3,vs++[v],af,by simp;lia,?g4],_,_,b,S3,t4,λH4 e4=>?g5]
   case g1=>rw[ZE,h4];simpa using old H4 e4
   case g2=>rw[d8];show (key H5 e5).2
   case g3=>
    let#[p5,q2,S5]:=next H5 e5
    show#[p5,q2,λb o q=>?_,S5.len,λj d q=>?_]
    ·rw[d8]at q;by_cases z:b=a
     ·rw[z,aA ha]at q;unfold bc at q;rw[if_pos rfl]at q;cases q
     ·rw[a8 z];show S5.le b o q
    ·rw[d8];show S5.rd j d q
   case g4=>
    rw[d8,ZE,h5];show (old H5 e5).app (.one q5)
   case g5=>
    change if b=true then _ else _
    cases hf:os[i] with
    | none=>
     simp_all
    | some d=>
     rw[hf]at t5;rw[if_pos t5.1];show tP.go (S3.step e4) t5.2 λv H5 e5 S5 q5=>#[e4.trans e5,d,1,by rw[ar e4 e5,(key H5<|e4.trans e5).1]at q5;show q5]
  ·show .inl #[(hJ.mono hFi).stop H' i S0.le<|by lia,hG a H' vs (e1.trans JH) ha hv<|by rwa [GL<|by lia]at hD]
def jE (ha:H1 a=none)(hv:H' a=!.lst vs)(h:Jj (grow F1 H1 (bc a H')) l vs):DR (grow F1 H1 H') (.lst l) (.ref a):=
 #[a,vs,1,by rw[aA ha];show hv,h.mono λb o q=>by
  unfold grow at q ⊢;by_cases n:H1 b=none
  ·rw[if_pos n]at q ⊢;show JH _ _ q
  ·rwa [if_neg n]at q ⊢]
abbrev Ri:=En->List D->Prop
theorem tI (ri:Ri):TI:=λσ H R=>∃ F ε l,Sd F σ H ε/\ri ε l/\∀ J H',f' H H'->RC ŗ J l->R J H'
def PI.imp (h:PI X tg e t)(k:∀ σ H R,t' σ H R->t σ H R):PI X tg e t':=λñ s σ H R I q=>h ñ s σ H R I L6
section
def yV {K:Ψ}(h:Rd F a (.lst vs))(q:Jj F l vs):RC F (Vy K a) l:=
 #[λH i d s e=>let ⟨v,e1,e2⟩:=q.at e;#[#[vs,v,.inl<|h.mono s,e1],λx H' ⟨z,y⟩=>#[z▸f'.refl _,by let:=y vs<|.inl (h.mono s);rw[e1]at this;cases this;show e2.mono<|aj s]],λH i s z=>#[vs,.inl<|h.mono s,by rw[q.length];show z]]
def iL (h:PE X e (tP r)):PI X tg e (tI λε l=>r ε (.lst l)):=(yE h).imp λσ H R ⟨F,ε,l,S,h,q⟩=>
 tP.go S h λx H1 e1 S1 gR=>by let#[a,vs,ex,ha,hv]:=gR;show#[a,ex,#[vs,.inl<|.inl (S1.le _ _ ha)],q _ H1 e1<|yV (.inl ha) hv]
theorem p8 (lo:Int)(n):χ:=(List.range n).map λ(i:Nat)=>.int (lo+(i:Int))
def Vl {lo:Int}:RC F (Vx lo n) (p8 lo n):=
 #[λH i d s e=>(by
  unfold p8 at e;rw[Fb]at e;by_cases c:i<n
  ·rw[Ha c]at e;cases e;show#[c,λx H' gR=>(by let#[z,y]:=gR;show#[z▸f'.refl _,y])]
  ·rw[Gw<|by simpa using c]at e;cases e),λH i s z=>show n<=i by unfold p8 at z;simpa using z]
def QP (hg:Gl X "range")(hm:X.mg "range"=none)(ha:PA X [e] (LG rs))(hs:starEach [e] X.env=[TW]:=Ą):PI X tg (.Call (.Name "range" p) [e] [] pos) (tI λε l=>∃ n:Nat,n<=1000/\rs ε [.int n]/\l=p8 0 n):=
 (qd hg hm ha hs).imp λσ H R ⟨F,ε,l,S,⟨n,hn,h,hl⟩,q⟩=>LG.go S h λxs H1 e1 S1 hx=>by
  let#[v,ws,1,h1,h2]:=hx
  cases h1;cases h2;show#[n,1,#[],#[],q _ H1 e1 (by rw[hl,GM];show Vl)]
def iR2 (hg:Gl X "range")(hm:X.mg "range"=none)(ha:PA X [e1,e2] (LG rs))(hs:ě X e1 e2:=Ą)(PZ):
  PI X tg (.Call (.Name "range" p) [e1,e2] [] pos) (tI λε l=>∃ m n:Nat,m<=1000/\n<=1000/\rs ε [.int m,.int n]/\l=p8 m (n - m)):=
 (zZ hg hm ha hs PZ).imp λσ H R ⟨F,ε,l,S,⟨m,n,hm,hn,h,hl⟩,q⟩=>LG.go S h λxs H1 e1 S1 hx=>by
  let#[v,ws,1,h1,u,ws,1,h2,h3]:=hx
  cases h1;cases h2;cases h3;show#[m,n,1,#[],q _ H1 e1 (by rw[hl,show ((n) - (m:Int)).toNat=n - m by lia];show Vl)]
def xf (s)(hT:H T=none)(hx:DR F c x)(hy:DR F d y):f' H (upd H T (.tup [x,y]))/\DR (grow F H (upd H T (.tup [x,y]))) (.tup [c,d]) (.ref T):=
 let g:=aj s
 #[aQ Ĩ hT,T,_,1,by rw[aA hT,af],x,_,1,hx.mono g,.one<|hy.mono g]
variable {x1:Nat}
def iZ (hg:Gl X "zip")(hm:X.mg "zip"=none)(ha:PA X [e1,e2] (LG rs))(hs:ě X e1 e2:=Ą)(PZ):
  PI X ŝ Ty (tI λε l=>∃ m n,rs ε [.lst m,.lst n]/\l=(m.zip n).map λz=>.tup [z.1,z.2]):=
 (BP hg hm ha hs PZ).imp fun σ H R ⟨F,ε,l,S,⟨m,n,h,hl⟩,q⟩=>LG.go S h λxs H1 e1 S1 hx=>by
  let#[v,ws,1,#[a,vs,1,ha,hv],u,ws,1,#[b,us,1,hb,hu],h3]:=hx
  cases h3;let qa:=λ{H':Hp} (s:f' (grow F H H1) H')=>Jq.of (K:=X.K)<|s _ _ ha;let qb:=λ{H':Hp} (s:f' (grow F H H1) H')=>Jq.of (K:=X.K)<|s _ _ hb;show⟨a,b,rfl,⟨vs,qa S1.le⟩,⟨us,qb S1.le⟩,q _ H1 e1 ⟨λH2 i d s e=>?_,λH2 i s z=>#[vs,us,qa s,qb s,?_]⟩⟩
  ·rw[hl,Fb]at e
   cases hz:(m.zip n)[i]? with
   | none=>rw[hz]at e;cases e
   | some z=>
    rw[hz]at e;cases e;let#[z1,z2]:=IP.mp hz;let#[x,x1,x2]:=hv.at z1;let#[y,y1,y2]:=hu.at z2;show#[#[vs,us,x,y,qa s,qb s,x1,y1],λw H3 gR=>?_];let#[T,hT,ew,x',y',q1,q2,e3]:=gR;let:=q1 vs<|qa s;rw[x1]at this;cases this;let:=q2 us<|qb s;rw[y1]at this;cases this;subst e3 ew;show xf s hT x2 y2
  ·let:=hv.length;let:=hu.length
   grind
def iE (hg:Gl X "enumerate")(hm:X.mg "enumerate"=none)(ha:PA X [e] (LG rs))(hs:starEach [e] X.env=[TW]:=Ą):
  PI X ŝ (.Call (.Name "enumerate" p) [e] [] pos) (tI λε l=>∃ m,rs ε [.lst m]/\l=m.zipIdx.map λz=>.tup [.int z.2,z.1]):=
 (sx X.K hg hm ha rfl hs).imp fun σ H R ⟨F,ε,l,S,⟨m,h,hl⟩,q⟩=>LG.go S h λxs H1 e1 S1 hx=>by
  let#[v,ws,1,#[a,vs,1,ha,hv],h3]:=hx
  cases h3;let qa:=λ{H':Hp} (s:f' (grow F H H1) H')=>Jq.of (K:=X.K)<|s _ _ ha;show⟨a,vs,rfl,S1.le _ _ ha,q _ H1 e1 ⟨λH2 i d s e=>?_,λH2 i s z=>#[vs,qa s,?_]⟩⟩
  ·rw[hl,Fb,HI]at e
   cases hz:m[i]? with
   | none=>rw[hz]at e;cases e
   | some z=>
    rw[hz]at e;cases e;let#[x,x1,x2]:=hv.at hz;show#[#[vs,x,qa s,x1],λw H3 gR=>?_];let#[T,hT,ew,x',q1,e3]:=gR;let:=q1 vs<|qa s;rw[x1]at this;cases this;subst e3 ew;show xf s hT (by simp[DR]) x2
  ·let:=hv.length
   simp_all
universe e
theorem Ya:Nat->D->List D->Prop
 | 0,d,l=>l=[d]
 | n+1,d,l=>d=.tup l/\l.length=n+1
inductive Tn (n:Nat) (cs:En) (rt:Å) (re:Rx) (x:D):Option D->Prop
 |no {xs:χ}:Ya n x xs->rt (xs.map some++cs) false->Tn n cs rt re x none
 |yes {xs:χ}{v:D}:Ya n x xs->rt (xs.map some++cs) true->re (xs.map some++cs) v->Tn n cs rt re x !v
inductive rL (n:Nat) (js:À) (ri:Ri) (rt:Å) (re:Rx) (ε:En) (d:D):Prop
 |mk {l:χ}{os:List (Option D)}:ri ε l->l.length<=1000->Paired (Tn n (js.map λj=>(ε[j]?).join) rt re) l os->d=.lst (os.filterMap id)->rL n js ri rt re ε d
def pZ:∀ (n:Nat)(k:Nat)(l:χ)(q p cs:En),l.length=n->q.length=k->p.length=n->rNs (List.range' k n) l (q++(p++cs)) (q++(l.map some++cs)):=by
 intro r'
 induction r' with
 | zero=>
  intro k l q p cs hl hq hp
  cases ID hl;cases ID hp;show#[2]
 | succ n ih'=>
  intro k l q p cs hl hq hp
  match l,p,hl,hp with
  | d::m,o::p,hl,hp=>
   show#[d,m,1,?_];let:=ih' (k+1) m (q++[!d]) p cs Ľ (by simp[hq]) (by simpa using hp)
   simp_all
theorem oh (K):Nat->TG
 | 0=>bU 0
 | n+1=>AI K (n+1) (Y4 (List.range' 0 (n+1)))
theorem YK:Nat->D->En->En->Prop
 | 0=>rN 0
 | n+1=>YJ (List.range' 0 (n+1))
def VJ (K):∀ n,TgD (oh K n) (YK n):=by
 intro r'
 induction r' with
 | zero=>
  show DH 0
 | succ n ih'=>
  let:=VI K<|List.range' 0 (n+1);rwa [List.length_range']at this
theorem lV:Nat->Nat
 | 0=>1
 | n+1=>n+1
def yx:∀ {n:Nat}{d:D}{l:χ}{p cs:En},Ya n d l->p.length=lV n->YK n d (p++cs) (l.map some++cs)/\(l.map some).length=lV n:=by
 intro r'
 induction r' with
 | zero=>
  intro d l p cs h hp
  match p,hp with
  | [o],_=>rw[show l=[d] from h];show#[2]
 | succ n ih'=>
  intro d l p cs y4' hp;let#[h1,h2]:=y4';show #[#[l,h1,by simp_all,pZ (n+1) 0 l [] p cs h2 rfl hp],by rw[EV];show h2]
section
variable {K:Ψ}
def qc {os:List (Option D)}(S:Sd F σ H ε)(hJ:RC F J l)(hl:l.length<=1000)(ht:Paired (Tn n (js.map λj=>(ε[j]?).join) rt re) l os)(hG:∀ a H' vs,f' H H'->H a=none->H' a=!.lst vs->Jj (grow F H (bc a H')) (os.filterMap id) vs->G a H'):gn (lV n) js (oh K n) (NL rt) (tP re) σ G J H:=
 Db os (VJ K n) S hJ hl rfl (Paired.length ht).symm (λp hp i d o h1 h2=>by
  let#[o',h3,h4]:=Paired.at ht h1;rw[h2]at h3;cases h3
  cases h4 with
  | no h4 h5=>
   let#[g1,g2]:=yx h4 hp;show#[_,g2,g1,_,h5,1]
  | yes h4 h5 h6=>
   let#[g1,g2]:=yx h4 hp;show#[_,g2,g1,_,h5,1,h6]) hG
def n9 (h:tP (rL n js ri rt re) σ H Q):jr (tI ri) (lV n) js (oh K n) (NL rt) (tP re) σ H Q:=
 have ⟨F,ε,d,S,.mk (l:=l) h1 h2 h3 h4,q⟩:=h
 #[F,ε,l,S,h1,λJ H1 e1 hJ=>qc (S.step e1) hJ h2 h3 λa H2 vs e2 ha hv hd=>q _ H2 Ň (by let:=jE ha hv hd;rw[ar e1 e2]at this;rw[h4];show this)]
def dL (n)(hc)(S:bE X scope (lV n) js N')(hi)(hg:∀ cells C s H fp,PG ģ tg (oh X.K n))(ht:∀ cells C s H fp,Nk ģ ifs (NL rt))(he:∀ cells C s H fp,PE ģ elt (tP re))(hs):PE X (.ListComp elt [#[tg,iter,ifs,(0)]] scope pos) (tP (rL n js ri rt re)):=(eL hc S hi hg ht he hs).imp λ_ _ _=>n9
def Nk.imp (h:Nk X ifs t)(k:∀ σ H Q,t' σ H Q->t σ H Q):Nk X ifs t':=λñ s σ H Q I q=>h ñ s σ H Q I L6
theorem uJ:Å:=λ_ b=>b=true
def df0:Nk X [] (NL uJ):=N3.imp λσ H Q gR=>by let#[F,ε,b,S,h,q]:=gR;subst h;show q H Ĩ
universe e
section
variable {α:Type}
def iX:∀ {xs:List α},(∀ x∈xs,P (f x) (g x))->Paired P (xs.map f) (xs.map g):=by
 intro r'
 induction r' with
 | nil=>
  intro _;show .nil
 | cons x xs ih'=>
  intro h;show .cons (h x Fw) (ih' λy hy=>h y<|Fp _ hy)
def aU {xs:List α}{u h:α->D}(hi:ri ε (xs.map u))(hl:xs.length<=1000)(k:∀ x∈xs,∃ l,Ya n (u x) l/\re (l.map some++js.map λj=>(ε[j]?).join) (h x)):rL n js ri uJ re ε (.lst (xs.map h)):=
 .mk hi Ľ (iX λx hx=>let ⟨l,a,b⟩:=k x hx;.yes a rfl b) Ħ
def be {xs:List α}{u h:α->D}(c:α->Bool)(hi:ri ε (xs.map u))(hl:xs.length<=1000)(k:∀ x∈xs,∃ l,Ya n (u x) l/\rt (l.map some++js.map λj=>(ε[j]?).join) (c x)/\(c x=true->re (l.map some++js.map λj=>(ε[j]?).join) (h x))):rL n js ri rt re ε (.lst ((xs.filter c).map h)):=
 .mk (os:=xs.map λx=>if c x=true then some (h x) else none) hi Ľ (iX λx hx=>by
  let#[l,a,b,d]:=k x hx;by_cases z:c x=true
  ·rw[if_pos z];show .yes a (z▸b) (d z)
  ·rw[if_neg z];show .no a<|Bool.eq_false_iff.mpr z▸b) (by
  congr 1;rw[List.filterMap_map];clear hi hl k
  induction xs with
  | nil=>rfl
  | cons x xs ih=>
   rw[Gp,HR];by_cases z:c x=true
   ·simp_all
   ·simp only[Function.comp_apply,if_neg z];show ih)
universe e
inductive Sl where
 |un|fz (d:D)|ow (d:D)
abbrev Ev:=List Sl
theorem Sl.z:Sl->Option D
 | .fz d=>!d
 | _=>none
theorem Sl.a:Sl->Option D
 | .un=>none
 | .fz d=>!d
 | .ow d=>!d
theorem QB (F H:Hp):D->Addr->Prop
 | .lst l,a=>∃ vs,H a=!.lst vs/\Jj F l vs
 | .dct k l,a=>∃ ķ,H a=!.dK ķ/\ķ.map (·.1)=k/\Jj F l Ł
 | _,_=>False
def QB.some:∀ {d:D}{a:Addr},QB F H d a->H a≠none:=by
 intro d a h z
 cases d<;>first|(let#[_,h,_]:=h;rw[h]at z;cases z)|cases h
def QB.mono (e:f' F F'):∀ {d:D}{a:Addr},(∀ o,H a=Option.some o->H' a=Option.some o)->QB F H d a->QB F' H' d a
 | .lst _,_,s,⟨vs,h,q⟩=>#[vs,s _ h,q.mono e]
 | .dct _ _,_,s,⟨vs,h,k,q⟩=>#[vs,s _ h,k,q.mono e]
def QB.dr (e:f' F G):∀ {d:D}{a:Addr},(∀ o,H a=Option.some o->G a=Option.some o)->QB F H d a->DR G d (.ref a)
 | .lst _,a,s,⟨vs,h,q⟩=>#[a,vs,1,s _ h,q.mono e]
 | .dct _ _,a,s,⟨vs,h,k,q⟩=>#[a,vs,1,.inl<|s _ h,k,q.mono e]
structure Ss (F0 H0 F:Hp) (σ:St) (H:Hp) (ε:Ev):Prop where
 b0:f' H0 H
 f0:f' F0 H0
 up:f' F0 F
 lo:f' F (grow F0 H0 H)
 len:ε.length<=σ.length
 rz:∀ (i:Nat) d,ε[i]?=!.fz d->∃ v,σ[i]?=!some v/\DR F d v
 ro:∀ (i:Nat) d,ε[i]?=!.ow d->∃ a,σ[i]?=!some (.ref a)/\F a=none/\H0 a=none/\QB F H d a
 ap:∀ (i j:Nat) c d a,i≠j->ε[i]?=!.ow c->ε[j]?=!.ow d->σ[i]?=!some (.ref a)->σ[j]?≠!some (.ref a)
section
variable {F0 H0 F F' H H1:Hp}{σ:St}{ε:Ev}
def Ss.le (S):f' F H:=λa o q=>aM S.f0 S.b0 a o (S.lo a o q)
def aT (s:f' H H1):f' (grow F0 H0 H) (grow F0 H0 H1):=λa o q=>by
 unfold grow at q ⊢;by_cases n:H0 a=none
 ·rw[if_pos n]at q ⊢;show s _ _ q
 ·rwa [if_neg n]at q ⊢
def Ss.step (S)(e:f' H H1)(u:f' F F')(l:f' F' (grow F0 H0 H1))(n:∀ a,F a=none->H a≠none->F' a=none):Ss F0 H0 F' σ H1 ε where
 b0:=S.b0.trans e
 f0:=S.f0
 up:=S.up.trans u
 lo:=l
 len:=S.len
 rz:=λi d q=>let ⟨v,a,b⟩:=S.rz i d q;#[v,a,b.mono u]
 ro:=λi d q=>let ⟨a,p1,p2,p3,p4⟩:=S.ro i d q;#[a,p1,n a p2 p4.some,p3,p4.mono u<|e a]
 ap:=S.ap
def Ss.Kr (S)(e:f' H H1):Ss F0 H0 F σ H1 ε:=S.step e Ĩ (S.lo.trans<|aT e) λ_ h _=>h
def Ss.grow (S)(e:f' H H1):Ss F0 H0 (grow F H H1) σ H1 ε:=S.step e (aj S.le) (λa o q=>by
 unfold L2.grow at q;by_cases n:H a=none
 ·rw[if_pos n]at q;rw[aA (by cases z:H0 a with
   | none=>rfl
   | some u=>rw[S.b0 _ _ z]at n;cases n)]
  show q
 ·rw[if_neg n]at q;show aT e _ _<|S.lo _ _ q) λa h k=>by unfold L2.grow;rw[if_neg k];show h
def Ss.z (S):Sd F σ H (ε.map Sl.z):=#[S.le,by simpa using S.len,λi d q=>by
 rw[Fb]at q
 cases h:ε[i]? with
 | none=>rw[h]at q;cases q
 | some s=>
  rw[h]at q
  cases s with
  | fz c=>cases q;show S.rz i _ h
  | _=>cases q]
def Ss.a (S):Sd (L2.grow F0 H0 H) σ H ĸ:=#[aM S.f0 S.b0,by simpa using S.len,λi d q=>by
 rw[Fb]at q
 cases h:ε[i]? with
 | none=>rw[h]at q;cases q
 | some s=>
  rw[h]at q
  cases s with
  | un=>cases q
  | fz c=>cases q;let#[v,a,b]:=S.rz i _ h;show#[v,a,b.mono S.lo]
  | ow c=>cases q;let#[a,p1,p2,p3,p4]:=S.ro i _ h;show#[_,p1,p4.dr S.lo λo z=>by rw[aA p3];show z]]
def Ss.QH (S)(h:DR F d v)(i):Ss F0 H0 F (σ.set i !v) H M9:=by
 let len:=S.len;let old:∀ {j:Nat}{s:Sl},(ε.set i<|.fz d)[j]?=!s->(i=j/\s=.fz d/\_[j]?=!some v)\/(i≠j/\ε[j]?=!s/\(σ.set i<|some v)[j]?=σ[j]?):=λ{j s} q=>by
  rw[Hl]at q;rw[Hl];by_cases c:i=j
  ·lia
  ·rw[if_neg c]at q;show .inr #[c,q,by rw[if_neg c]]
 show#[S.b0,S.f0,S.up,S.lo,by simpa using len,λj c q=>?_,λj c q=>?_,λj k c e a n q1 q2 z1 z2=>?_]
 ·rcases old q with⟨_,q2,q3⟩|⟨_,q2,q3⟩
  ·cases q2;show#[v,q3,h]
  ·rw[q3];show S.rz j c q2
 ·rcases old q with⟨_,q2,_⟩|⟨_,q2,q3⟩
  ·cases q2
  ·rw[q3];show S.ro j c q2
 ·rcases old q1 with⟨_,y,_⟩|⟨_,y1,y2⟩
  ·cases y
  ·rcases old q2 with⟨_,y,_⟩|⟨_,y3,y4⟩
   ·cases y
   ·rw[y2]at z1;rw[y4]at z2;show S.ap j k c e a n y1 y3 z1 z2
def Ss.frz (S)(h:ε[i]?=!.ow d):∃ F',f' F F'/\Ss F0 H0 F' σ H M9:=by
 let#[a,p1,p2,p3,p4]:=S.ro i d h;show let F':=λb=>if b=a then H a else F b;?_
 let u:f' F F':=λb o q=>by
  lia
 let old:∀ {j:Nat}{s:Sl},(ε.set i<|.fz d)[j]?=some s->(i=j/\s=.fz d)\/(i≠j/\ε[j]?=some s):=λ{j s} q=>by
  rw[Hl]at q;by_cases c:i=j
  ·simp_all
  ·rw[if_neg c]at q;show .inr #[c,q]
 show#[F',u,S.b0,S.f0,S.up.trans u,λb o q=>?_,by simpa using S.len,λj c q=>?_,λj c q=>?_,λj k c e b n q1 q2 z1 z2=>?_]
 ·by_cases z:b=a
  ·rw[show F' b=H a from if_pos z]at q;rw[z,aA p3];show q
  ·rw[show F' b=F b from if_neg z]at q;show S.lo _ _ q
 ·rcases old q with⟨y1,y⟩|⟨_,y⟩
  ·cases y;subst y1;show#[_,p1,p4.dr u λo z=>(if_pos rfl).trans z]
  ·let#[v,x1,x2]:=S.rz j c y;show#[v,x1,x2.mono u]
 ·rcases old q with⟨_,y⟩|⟨y1,y⟩
  ·cases y
  ·let#[b,x1,x2,x3,x4]:=S.ro j c y;show#[b,x1,(if_neg λz:b=a=>S.ap i j d c a y1 h y p1<|z▸x1).trans x2,x3,x4.mono u λ_ z=>z]
 ·rcases old q1 with⟨_,y⟩|⟨_,y1⟩
  ·cases y
  ·rcases old q2 with⟨_,y⟩|⟨_,y2⟩
   ·cases y
   ·show S.ap j k c e b n y1 y2 z1 z2
def Ss.YD {a:Addr}(S)(i)(ha:H a=none)(e:f' H H1)(h:QB (bc a (L2.grow F H H1)) H1 d a):∃ F',f' F F'/\Ss F0 H0 F' (σ.set i !.ref a) H1 (ε.set i (.ow d)):=by
 let len:=S.len;let u:f' F (bc a<|L2.grow F H H1):=λb o q=>by rw[bv (λz=>by rw[z]at q;rw[S.le _ _ q]at ha;cases ha)];show aj S.le _ _ q
 let ha0:H0 a=none:=by cases z:H0 a with
  | none=>rfl
  | some o=>rw[S.b0 _ _ z]at ha;cases ha
 let S2:=S.step e u (JH.trans (S.grow e).lo) λb p q=>by
  unfold bc L2.grow
  simp_all
 let old:∀ {j:Nat}{s:Sl},(ε.set i<|.ow d)[j]?=!s->(i=j/\s=.ow d/\(σ.set i<|some (.ref a))[j]?=!(some<|.ref a))\/(i≠j/\ε[j]?=some s/\_[j]?=σ[j]?):=λ{j s} q=>by
  rw[Hl]at q;rw[Hl];by_cases c:i=j
  ·lia
  ·rw[if_neg c]at q;show .inr #[c,q,by rw[if_neg c]]
 let far:∀ {j:Nat}{c:D},ε[j]?=!_->σ[j]?≠!(some<|.ref a):=λ{j c} q z=>by let#[b,x1,_,_,x4]:=S.ro j c q;rw[x1]at z;cases z;show x4.some ha
 show#[_,u,S2.b0,S2.f0,S2.up,S2.lo,by simpa using len,λj c q=>?_,λj c q=>?_,λj k c e b n q1 q2 z1 z2=>?_]
 ·rcases old q with⟨_,y,_⟩|⟨_,y,y3⟩
  ·cases y
  ·rw[y3];show S2.rz j c y
 ·rcases old q with⟨_,y,y3⟩|⟨_,y,y3⟩
  ·cases y;show#[a,y3,if_pos rfl,ha0,h]
  ·rw[y3];show S2.ro j c y
 ·rcases old q1 with⟨y1,y2,y3⟩|⟨y1,y2,y3⟩
  ·simp_all
  ·rcases old q2 with⟨_,_,w3⟩|⟨_,w2,w3⟩
   ·simp_all
   ·rw[y3]at z1;rw[w3]at z2;show S.ap j k c e b n y2 w2 z1 z2
def Ss.chg {a:Addr}(S)(h:ε[i]?=!.ow c)(ha:σ[i]?=!some (.ref a))(hn:QB F (upd H a o) d a):Ss F0 H0 F σ (upd H a o) (ε.set i (.ow d)):=by
 let#[b,p1,p2,p3,p4]:=S.ro i c h;let old:∀ {j:Nat}{s:Sl},(ε.set i<|.ow d)[j]?=some s->(i=j/\s=.ow d)\/(i≠j/\ε[j]?=some s):=λ{j s} q=>by
  rw[Hl]at q;by_cases c:i=j
  ·simp_all
  ·rw[if_neg c]at q;show .inr #[c,q]
 show#[λb o q=>?_,S.f0,S.up,λb o q=>?_,by simpa using S.len,λj c q=>?_,λj c' q=>?_,λj k c' e b n q1 q2 z1 z2=>?_]
 ·rw[a8 λz=>by simp_all];show S.b0 _ _ q
 ·let q':=S.lo _ _ q;unfold L2.grow at q' ⊢;rw[a8 λz=>by simp_all];show q'
 ·rcases old q with⟨_,y⟩|⟨_,y⟩
  ·cases y
  ·show S.rz j c y
 ·rcases old q with⟨y1,y⟩|⟨y1,y⟩
  ·simp_all
  ·let#[b,x1,x2,x3,x4]:=S.ro j c' y;show#[b,x1,x2,x3,x4.mono Ĩ λo z=>by rw[a8 (λzz:b=a=>S.ap i j c c' a y1 h y ha<|zz▸x1)];show z]
 ·rcases old q1 with⟨y1,y⟩|⟨y1,y⟩
  ·cases y;rcases old q2 with⟨w1,_⟩|⟨_,w⟩
   ·show n (y1.symm.trans w1)
   ·subst y1;show S.ap i k c e b n h w z1 z2
  ·rcases old q2 with⟨w1,w⟩|⟨_,w⟩
   ·cases w;subst w1;show S.ap j i c' c b n y h z1 z2
   ·show S.ap j k c' e b n y w z1 z2
universe e
inductive Fl where
 |nx (ε:Ev)|rt (d:D)
abbrev Rs:=Ev->Fl->Prop
theorem UX (F0 H0 F:Hp)(E:d9):Fl->Prop
 | .nx ε=>∀ σ H F',f' F F'->Ss F0 H0 F' σ H ε->E.nx σ H
 | .rt d=>∀ x H,f' H0 H->f' F H->DR (grow F0 H0 H) d x->E.rt x H
def UX.up (e:f' F F'):∀ {f:Fl},UX F0 H0 F E f->UX F0 H0 F' E f
 | .nx _,h=>λσ H F2 u S=>h σ H F2 (e.trans u) S
 | .rt _,h=>λx H a b=>h x H a (e.trans b)
theorem tQ (F0 H0:Hp)(r:Rs):TS:=λE σ H=>∃ F ε f,Ss F0 H0 F σ H ε/\r ε f/\UX F0 H0 F E f
theorem QS (X)(st)(r:Rs):Prop:=∀ F0 H0,PS X st (tQ F0 H0 r)
theorem OL (X)(st:Í)(r:Rs):Prop:=∀ F0 H0,Nj X st (tQ F0 H0 r)
def PS.imp (h:PS X e t)(k:∀ E σ H,t' E σ H->t E σ H):PS X e t':=λñ s σ H D I q=>h ñ s σ H D I L6
def Nj.imp (h:Nj X e t)(k:∀ E σ H,t' E σ H->t E σ H):Nj X e t':=λñ s σ H D I q=>h ñ s σ H D I L6
section
variable {st:Stmt}{r r2:Rs}{re:Rx}{rt:Å}
def q0:OL X [] λε f=>f=.nx ε:=λF0 H0=>Kp.imp λE σ H gR=>by let#[F,ε,f,S,h,p]:=gR;subst h;show p σ H F Ĩ S
inductive ku (r r2:Rs) (ε:Ev):Fl->Prop
 |nx {ε1:Ev}{f:Fl}:r ε (.nx ε1)->r2 ε1 f->ku r r2 ε f
 |rt {d:D}:r ε (.rt d)->ku r r2 ε (.rt d)
def qC (h:QS X st r)(k:OL X ss r2):OL X (st::ss) (ku r r2):=λF0 H0=>(ai (h F0 H0)<|k F0 H0).imp λE σ H gR=>by
 let#[F,ε,f,S,h,p]:=gR
 cases h with
 | nx h1 h2=>show#[F,ε,_,S,h1,λσ' H' F' u S'=>#[F',_,f,S',h2,p.up u]]
 | rt h1=>show#[F,ε,_,S,h1,p]
def q1 (h:QS X st r):OL X [st] r:=λF0 H0=>aq (h F0 H0)
def qN:QS X st λ_ _=>False:=λF0 H0=>Lo.imp λE σ H gR=>by let#[F,ε,f,S,h,p]:=gR;show h.elim
def qZ (i)(h:OL X ss r):OL X ss λε f=>∃ d,ε[i]?=!.ow d/\r M9 f:=λF0 H0=>(h F0 H0).imp λE σ H gR=>by let#[F,ε,f,S,#[d,h1,h2],p]:=gR;let#[F',u,S']:=S.frz h1;show#[F',_,f,S',h2,p.up u]
inductive BI (i:Nat) (re:Rx) (ε:Ev):Fl->Prop
 |mk {d:D}:re (ε.map Sl.z) d->BI i re ε (.nx M9)
def qS (h:PS X st (jt te (bU i)))(k:∀ σ H Q,tP re σ H Q->te σ H Q):QS X st (BI i re):=λF0 H0=>h.imp λE σ H gR=>by let#[F,ε,f,S,h,p]:=gR;let#[h1]:=h;show k _ _ _ (tP.go S.z h1 λx H1 e1 _ q1=>p _ H1 _ (aj S.le)<|(S.grow e1).QH q1 i)
theorem lX:D->Bool
 | .non|.bl _|.int _|.str _=>true
 | _=>false
def EB:∀ {d:D}{v:V},lX d=true->DR F d v->DR G d v:=by
 intro d v h i
 cases d<;>first|show i|cases h
inductive YM (i:Nat) (re:Rx) (ε:Ev):Fl->Prop
 |mk {d:D}:re ĸ d->lX d=true->YM i re ε (.nx M9)
theorem tN (re:Rx):TE:=λσ H Q=>∃ F ε d,Sd F σ H ε/\re ε d/\∀ a H',f' H H'->H a=none->QB (bc a ŗ) H' d a->Q (.ref a) H'
def tN.p (h:tP re σ H Q):tN re σ H Q:=let ⟨F,ε,d,S,h1,q⟩:=h;#[F,ε,d,S,h1,λa H' e n w=>q _ H' e (w.dr JH λo z=>by rw[aA n];show z)]
inductive BH (i:Nat) (re:Rx) (ε:Ev):Fl->Prop
 |mk {d:D}:re (ε.map Sl.z) d->BH i re ε (.nx (ε.set i (.ow d)))
def qO (h:PS X st (jt te (bU i)))(k:∀ σ H Q,tN re σ H Q->te σ H Q):QS X st (BH i re):=λF0 H0=>h.imp λE σ H gR=>by let#[F,ε,f,S,h,p]:=gR;obtain @⟨d,h1⟩:=h;show k _ _ _ #[F,_,d,S.z,h1,λa H1 e1 n w=>?_];let#[F',u,S']:=S.YD i n e1 w;show p _ H1 F' u S'
inductive wZ (re:Rx) (ε:Ev) (f:Fl):Prop
 |mk {d:D}:re ĸ d->f=.rt d->wZ re ε f
def qR (h:PE X e (tP re)):QS X (.Return (!e) pos) (wZ re):=λF0 H0=>(bO h).imp λE σ H gR=>by let#[F,ε,f,S,#[h1,h2],p]:=gR;subst h2;show tP.go S.a h1 λx H1 e1 _ q1=>p x H1 (S.b0.trans e1) (S.le.trans e1) (by rw[ar S.b0 e1]at q1;show q1)
inductive Uh (rt:Å) (rx ry:Rs) (ε:Ev) (f:Fl):Prop
 |t:rt ĸ true->rx ε f->Uh rt rx ry ε f
 |f:rt ĸ false->ry ε f->Uh rt rx ry ε f
def qI (h:PT X c (NL rt))(ha:OL X a rx)(hb:OL X b ry):QS X (.If c a b pos) (Uh rt rx ry):=λF0 H0=>(gw h (ha F0 H0)<|hb F0 H0).imp λE σ H gR=>by
 let#[F,ε,f,S,h,p]:=gR
 cases h with
 | t h1 h2=>show#[_,_,true,S.a,h1,λH1 e1=>#[F,ε,f,S.Kr e1,h2,p]]
 | f h1 h2=>show#[_,_,false,S.a,h1,λH1 e1=>#[F,ε,f,S.Kr e1,h2,p]]
inductive Xt (rt:Å) (rb:Rs):Nat->Ev->Fl->Prop
 |done {n:Nat}{ε:Ev}:rt ĸ false->Xt rt rb n ε (.nx ε)
 |next {n:Nat}{ε ε2:Ev}{f:Fl}:rt ĸ true->rb ε (.nx ε2)->Xt rt rb n ε2 f->Xt rt rb (n+1) ε f
 |ret {n:Nat}{ε:Ev}{d:D}:rt ĸ true->rb ε (.rt d)->Xt rt rb n ε (.rt d)
theorem rWh (rt:Å)(rb:Rs):Rs:=λε f=>∃ n,Xt rt rb n ε f
def qW (hp)(hc:PT X c (NL rt))(hb:OL X ss rb):QS X (.While c ss [] pos) (rWh rt rb):=λF0 H0=>(BN hp hc<|hb F0 H0).imp λE σ H gR=>by
 let#[F,ε,f,S,#[n,h],p]:=gR;show#[λm σ H=>∃ F' ε',f' F F'/\Ss F0 H0 F' σ H ε'/\Xt rt rb m ε' f,#[n,F,ε,f'.refl _,S,h],fun m σ H ⟨F',ε',u,S',w⟩=>?_]
 cases w with
 | done t=>show#[_,_,false,S'.a,t,λH1 e1=>p σ H1 F' u<|S'.Kr e1]
 | next t b w=>show#[_,_,true,S'.a,t,λH1 e1=>#[λσ' H'=>∃ F2,f' F F2/\Ss F0 H0 F2 σ' H' _,λσ2 H2 gR=>(by let#[F2,u2,S2]:=gR;show#[_,Gv _,F2,_,u2,S2,w]),F',ε',_,S'.Kr e1,b,λσ2 H2 F2 u2 S2=>#[F2,u.trans u2,S2]]]
 | ret t b=>show#[_,_,true,S'.a,t,λH1 e1=>#[λ_ _=>False,λ_ _ z=>z.elim,F',ε',_,S'.Kr e1,b,p.up u]]
abbrev _root_.Ù:=Ev->Prop
abbrev _root_.Ô:=D->Ev->Ù
theorem U6 (g:TG)(q:Ô):Prop:=∀ (F0 H0 F H:Hp) σ ε ε' d x (Q:Υ),Ss F0 H0 F σ H ε->DR F d x->q d ε ε'->(∀ σ',Ss F0 H0 F σ' H ε'->Q σ' H)->g x σ H Q
def aG (i):U6 (bU i) λd ε ε'=>ε'=ε.set i (.fz d):=λF0 H0 F H σ ε ε' d x Q S h r q=>q _ (by subst r;show S.QH h i)
theorem sets:List Nat->List D->Ev->Ev
 | i::is,d::l,ε=>sets is l M9
 | _,_,ε=>ε
def pR:∀ (is:À)(F0 H0 F H:Hp) σ ε l xs (Q:Υ),Ss F0 H0 F σ H ε->Jj F l xs->l.length=is.length->(∀ σ',Ss F0 H0 F σ' H (sets is l ε)->Q σ' H)->Y4 is xs σ H Q:=by
 intro r'
 induction r' with
 | nil=>
  intro F0 H0 F H σ ε l xs Q S h r q
  cases ID r;show#[h,q σ S]
 | cons i is ih'=>
  intro F0 H0 F H σ ε l xs Q S h r q
  match l,r with
  | d::m,r=>
   let#[v,ws,1,h1,h2]:=h;show#[v,ws,1,ih' F0 H0 F H _ _ m ws Q (S.QH h1 i) h2 (by simpa using r) q]
def cr (K)(is:À):U6 (AI K is.length (Y4 is)) λd ε ε'=>∃ l,d=.tup l/\l.length=is.length/\ε'=sets is l ε:=λF0 H0 F H σ ε ε' d x Q S h r q=>by let#[l,1,hl,1]:=r;let#[a,vs,1,ha,hv]:=h;show#[a,vs,1,LQ.of<|S.le _ _ ha,by rw[hv.length,hl],pR is F0 H0 F H σ ε l vs Q S hv hl q]
inductive lg (q:Ô) (rb:Rs):Ev->List D->Fl->Prop
 |done {ε:Ev}:lg q rb ε [] (.nx ε)
 |next {ε ε1 ε2:Ev}{d:D}{l:χ}{f:Fl}:q d ε ε1->rb ε1 (.nx ε2)->lg q rb ε2 l f->lg q rb ε (d::l) f
 |ret {ε ε1:Ev}{d v:D}{l:χ}:q d ε ε1->rb ε1 (.rt v)->lg q rb ε (d::l) (.rt v)
def mO {tb:TS}(XO:∀ E σ H,tQ F0 H0 rb E σ H->tb E σ H)(hg:U6 g q)(S:Ss F0 H0 F1 σ H1 ε)(hJ)(h:lg q rb ε l f)(p:UX F0 H0 F1 E f):
  ∃ W:Nat->Nat->Υ,(∃ m,W 0 m σ H1)/\∀ i m σ H,W i m σ H->
   (J.stop i H/\E.nx σ H)\/(J.go i H/\∃ N:Υ,Į/\∀ x H',J.TQ i H x H'->g x σ H' λσ2 H2=>tb { E with nx:=N,ct:=N,bk:=E.nx } σ2 H2):=by
 show#[λi m σ H=>m=l.length - i/\i<=l.length/\∃ F' ε',f' F1 F'/\Ss F0 H0 F' σ H ε'/\lg q rb ε' (l.drop i) f,#[_,1,FR _,F1,ε,f'.refl _,S,h],?_];rintro i m σ H ⟨rfl,hi,F',ε',u,S',w⟩;by_cases c:i<l.length
 ·rw[GQ c]at w;let#[go,yl]:=(hJ.mono u).go H i l[i] S'.le<|EW c;show .inr #[go,?_]
  cases w with
  | next t b w=>
   show#[λσ' H'=>∃ F2,f' F1 F2/\Ss F0 H0 F2 σ' H' _,λσ2 H2 gR=>(by let#[F2,u2,S2]:=gR;show#[_,#[],1,c,F2,_,u2,S2,w]),λx H2 y=>?_];let#[e2,hx]:=yl x H2 y;show hg _ _ _ _ _ _ _ _ x _ (S'.grow e2) hx t λσ3 S3=>XO _ _ _ #[_,_,_,S3,b,λσ4 H4 F4 u4 S4=>#[F4,u.trans<|(aj S'.le).trans u4,S4]]
  | ret t b=>
   show#[λ_ _=>False,λ_ _ z=>z.elim,λx H2 y=>?_];let#[e2,hx]:=yl x H2 y;show hg _ _ _ _ _ _ _ _ x _ (S'.grow e2) hx t λσ3 S3=>XO _ _ _ #[_,_,_,S3,b,p.up<|u.trans (aj S'.le)]
 ·rw[List.drop_of_length_le<|by lia]at w
  cases w;show .inl #[(hJ.mono u).stop H i S'.le<|by lia,p σ H F' u S']
inductive iH (ri:Ri) (q:Ô) (rb:Rs) (ε:Ev) (f:Fl):Prop
 |mk {l:χ}:ri (ε.map Sl.z) l->lg q rb ε l f->iH ri q rb ε f
def qL (hp)(hc)(hi)(ht:PG X tg g)(hg:U6 g q)(hb:OL X ss rb)(hs):
  QS X K0 (iH ri q rb):=λF0 H0=>(bW hp hc hi ht (hb F0 H0) hs).imp fun E σ H ⟨F,ε,f,S,.mk (l:=l) h1 h2,p⟩=>
 #[F,_,l,S.z,h1,λJ H1 e1 hJ=>mO (λ_ _ _ h=>h) hg (S.grow e1) hJ h2<|p.up (aj S.le)]
inductive QJ (re:Rx) (ε:Ev) (d:D):Prop
 |z:re (ε.map Sl.z) d->QJ re ε d
 |a:re ĸ d->lX d=true->QJ re ε d
def QJ.go (S)(h:QJ re ε d)(k:∀ x H1 F',f' H H1->f' F F'->Ss F0 H0 F' σ H1 ε->DR F' d x->Q x H1):tP re σ H Q:=by
 cases h with
 | z h=>show tP.go S.z h λx H1 e1 _ q1=>k x H1 _ e1 (aj S.le) (S.grow e1) q1
 | a h hf=>show tP.go S.a h λx H1 e1 _ q1=>k x H1 _ e1 Ĩ (S.Kr e1) (EB hf q1)
inductive V' (i:Nat) (re:Rx) (ε:Ev):Fl->Prop
 |mk {l:χ}{d:D}:ε[i]?=!.ow (.lst l)->l.length<=1000->QJ re ε d->V' i re ε (.nx (ε.set i (.ow (.lst (l++[d])))))
def qA {K:Ψ}(h:PS X st (Bt (tBM K "list" yA (rM i) (Bv te wW))))(k:∀ σ H Q,tP re σ H Q->te σ H Q):QS X st (V' i re):=λF0 H0=>h.imp λE σ H gR=>by let#[F,ε,f,S,h,p]:=gR;let#[h1,h2,h3]:=h;let#[a,p1,p2,p3,vs,p4,p5]:=S.ro i _ h1;show#[_,p1,.inl #[1,vs,Jq.of p4],k _ _ _<|h3.go S λx H1 F' e1 u S1 q1=>#[a,vs,x,2,e1 _ _ p4,HW (by rw[p5.length];show h2)<|by decide +kernel,p σ _ F' u<|S1.chg h1 p1 #[_,af,(p5.mono u).app<|.one q1]]]
universe e
section
variable {K:Ψ}{st:Stmt}{k:Nat}
theorem ent (n)(l:χ):Ev:=l.map .fz++List.replicate (n - l.length) .un
def ou (N:η)(s)(h:Jj F l vs):Ss F H F C6 H (ent N.length l):=by
 let hl:=h.length;show#[f'.refl _,s,f'.refl _,aj s,by simp[ent,start,hl],λi d q=>?_,λi d q=>?_,λi j c d a n q=>?_]
 ·unfold ent at q;by_cases c:i<l.length
  ·rw[FP<|by simpa using c,Fb]at q
   cases z:l[i]? with
   | none=>rw[z]at q;cases q
   | some e=>
    rw[z]at q;cases q;let#[v,a,b]:=h.at z;show#[v,by unfold start;rw[FP<|by simp[hl,c],Fb,a];rfl,b]
  ·rw[FQ<|by simpa using c]at q
   cases (GV<|F6 q)
 all_goals
  rcases FC.mp (F6 q) with z|z
  ·simp_all
  ·simp_all
theorem Tells (n m:Nat)(r:Rs)(R:Ä):Prop:=∀ l d,R l d->l.length=m/\(r (ent n l) (.rt d)\/d=.non/\∃ ε,r (ent n l) (.nx ε))
def Tells.ok {ps:η}(t:Tells N.length ps.length r R)(h:Pr R vs H Q E):vs.length=ps.length/\∃ F,tQ F H r { nx:=λ_ H'=>Q .non H',rt:=Q } C6 H:=by
 let#[F,l,d,s,hl,hR,q]:=h;let#[hn,t]:=t l d hR;show#[by rw[hl.length,hn],F,?_];rcases t with t|⟨rfl,ε,t⟩
 ·show#[F,_,_,ou N s hl,t,λx H' e _ z=>q x H' e z]
 ·show#[F,_,_,ou N s hl,t,λσ H' F' u S'=>q _ H' S'.b0 rfl]
def MN.dv (F:MN K x ğ st f fd)(S:ax N ps (aa st))(t:Tells N.length ps.length r R)(b:∀ (J7:Value)(A:Ë)(outer:List Env)(s:Ê)(H:Hp)(E:XK),Jn k ę->OL (dU Ky P w K mg base N ğ (aa st) f J7 A outer s H E).QL (ay st) r):Jy P w K mg base Ky (k+1) f fd ps (Pr R):=
 F.ok S (λvs H Q E h=>(t.ok h).1) λJ7 A outer s H vs Q E hr h=>let ⟨_,F,z⟩:=t.ok h;#[_,b J7 A outer s H E hr F H,z]
def Kb.dv (F:Kb K x ğ st f fd)(S:ax N ps (aa st))(t:Tells N.length ps.length r R)(b:∀ (J7:Value)(A:Ë)(outer:List Env)(s:Ê)(H:Hp)(E:XK),Jn k ę->OL (dU Ky P w K mg base N ğ (aa st) f J7 A outer s H E).QL (ay st) r):Jy P w K mg base Ky (k+1) f fd ps (Pr R):=
 Kb.ok F S (λvs H Q E h=>(t.ok h).1) λJ7 A outer s H vs Q E hr h=>let ⟨_,F,z⟩:=t.ok h;#[_,b J7 A outer s H E hr F H,z]
universe e
section
variable {K:Ψ}{b c e:Expr}{rs:Á}{F H:Hp}
inductive fI (C:Int->Int->Prop) (g:Int->Int->D):D->D->D->Prop
 |mk {i j:Int}:C i j->fI C g (.int i) (.int j) (g i j)
def LJ (h:∀ i j,dR (g i j)=true:=č):Pk (fI C λi j=>MB (g i j)) (rI C g):=λF H x y u v d Q s z hu hv q=>by obtain @⟨i,j,hc⟩:=z;show#[i,j,hu,hv,hc,tP.at s q (Cn<|h i j)]
def cg (h:∀ i j,dR (g i j)=true:=č):Pk (fI Ū λi j=>MB (g i j)) (Uj g):=λF H x y u v d Q s z hu hv q=>by obtain @⟨i,j,_⟩:=z;show#[i,j,hu,hv,tP.at s q (Cn<|h i j)]
theorem fv:D->V
 | .bl b=>.bl b
 | .int i=>.int i
 | .str x=>.str x
 | _=>.non
def jK:∀ {d:D}{v:V},lX d=true->DR F d v->v=fv d
 | .non,_,_,h=>h
 | .bl _,_,_,h=>h
 | .int _,_,_,h=>h
 | .str _,_,_,h=>h
def oj:∀ {l:χ}{vs:π},l.all lX=true->Jj F l vs->vs=l.map fv:=by
 intro r'
 induction r' with
 | nil=>
  intro _ _ h;show h
 | cons d l ih'=>
  intro _ hf y2';let#[v,ws,q1,q2,q3]:=y2';rw[List.all_cons,GK]at hf;rw[q1,jK hf.1 q2,ih' hf.2 q3];rfl
def sY:∀ {d:D},lX d=true->dR (fv d)=true
 | .non,_=>rfl
 | .bl _,_=>rfl
 | .int _,_=>rfl
 | .str _,_=>rfl
inductive fE (n:Bool) (x y d:D):Prop
 |mk:lX x=true->lX y=true->VQ (fv x) (fv y)=true->d=.bl (if n=true then not (decide (fv x=fv y)) else decide (fv x=fv y))->fE n x y d
def bK:Pk K2 rEq:=λF H x y u v d Q s gR hu hv q=>by let#[h1,h2,h3,h4]:=gR;rw[jK h1 hu,jK h2 hv];show#[h3,tP.at s q (by rw[h4];rfl)]
def kH:Pk (fE true) rNe:=λF H x y u v d Q s gR hu hv q=>by let#[h1,h2,h3,h4]:=gR;rw[jK h1 hu,jK h2 hv];show#[h3,tP.at s q (by rw[h4];rfl)]
theorem isN:D->Bool
 | .non=>true
 | _=>false
def CG:∀ {d:D}{v:V},DR F d v->decide (v=.non)=isN d:=by
 intro d v h
 cases d<;>first|(rw[h];rfl)|(let#[_,_,h,_]:=h;rw[h];rfl)|(let#[_,_,_,h,_]:=h;rw[h];rfl)
inductive fN (n:Bool) (x:D):D->D->Prop
 |mk:fN n x .non (.bl (if n=true then not (isN x) else isN x))
def vg:Pk (fN false) (λx y H Q=>y=.non/\Q (.bl (decide (x=.non))) H):=λF H x y u v d Q s z hu hv q=>by cases z;show#[hv,tP.at s q (by rw[CG hu];rfl)]
def nO:Pk (fN true) (λx y H Q=>y=.non/\Q (.bl (not (decide (x=.non)))) H):=λF H x y u v d Q s z hu hv q=>by cases z;show#[hv,tP.at s q (by rw[CG hu];rfl)]
inductive Sq:D->List D->Prop
 |lst {l:χ}:Sq (.lst l) l
 |scr {l:χ}:Sq (.scr l) l
def Sq.at (q:Sq d l)(h:DR F d v):∃ a vs,v=.ref a/\Rd F a (.lst vs)/\Jj F l vs:=by
 cases q with
 | lst=>let⟨a,vs,h1,h2,h3⟩:=h;show#[a,vs,h1,.inl h2,h3]
 | scr=>show h
def Jj.OD {l:χ}{vs:π}{i:Int}{d:D} (h:Jj F l vs) (e:OD l i=!d):∃ v,L2.OD vs i=!v/\DR F d v:=by
 unfold L2.OD at e ⊢;rw[h.length]
 cases z:Sf l.length i with
 | none=>rw[z]at e;cases e
 | some j=>rw[z]at e;show h.at e
def a21 (s)(h1:Sq x l)(h3:L2.OD l i=!d)(hu:DR F x u)(hv:DR F (.int i) v)(q):DZ K u v H Q:=by let#[a,vs,1,p1,p2]:=h1.at hu;let#[w,p3,p4]:=p2.OD h3;show#[a,vs,i,w,1,hv,.inl<|p1.mono s,p3,tP.at s q p4]
def a20 (s)(h3:L2.OD l i=!d)(hu:DR F (.tup l) u)(hv:DR F (.int i) v)(q):DY K u v H Q:=by let#[a,vs,1,p1,p2]:=hu;let#[w,p3,p4]:=p2.OD h3;show#[a,vs,i,w,1,hv,LQ.of<|s _ _ p1,p3,tP.at s q p4]
inductive Xz:D->List D->Prop
 |sq {x:D}{l:χ}:Sq x l->Xz x l
 |tup {l:χ}:Xz (.tup l) l
inductive fIn (n:Bool) (x y d:D):Prop
 |mk {l:χ}:Xz y l->lX x=true->l.all lX=true->d=.bl (if n=true then not (TZ (fv x) (l.map fv)) else TZ (fv x) (l.map fv))->fIn n x y d
def a23:Pk (fIn n) (rIn K n):=λF H x y u v d Q s z hu hv q=>by
 obtain @⟨l,h1,h2,h3,h4⟩:=z;let hf:(l.map fv).all dR=true:=by rw[List.all_map,GI];show λz hz=>sY (GI.mp h3 z hz)
 rcases h1 with h1|_
 ·let#[a,vs,1,p1,p2]:=h1.at hv;show#[a,l.map fv,1,.inl<|oj h3 p2▸.inl (p1.mono s),by rw[jK h2 hu];show sY h2,hf,tP.at s q (by rw[h4,jK h2 hu];rfl)]
 ·let#[a,vs,1,p1,p2]:=hv;show#[a,l.map fv,1,.inr<|oj h3 p2▸LQ.of (s _ _ p1),by rw[jK h2 hu];show sY h2,hf,tP.at s q (by rw[h4,jK h2 hu];rfl)]
def jF (s)(q)(h:∀ a G,f' F G->G a=!o->DR G d (.ref a)):Lj H o Q:=λp H2 e n z=>q _ H2 e (h p _ (aj s) (by rw[aA n];show z))
inductive a0C:D->D->D->Prop
 |mk {l m:χ}:l.length+m.length<=10000->a0C (.lst l) (.lst m) (.lst (l++m))
def Z9:Pk a0C V9:=λF H x y u v d Q s z hu hv q=>by obtain @⟨l,m,h3⟩:=z;let#[a,vs,1,p1,p2]:=hu;let#[b,us,1,p3,p4]:=hv;show#[a,b,vs,us,2,s _ _ p1,s _ _ p3,Fo (by rw[p2.length,p4.length];show h3)<|by decide +kernel,jF s q λc G e z=>#[c,_,1,z,(p2.mono e).app<|p4.mono e]]
theorem Cb (R:Ä)(r:List V->Hp->VK->Prop):Prop:=∀ (F H:Hp) l xs d (Q:VK),f' F H->R l d->Jj F l xs->(∀ z H',f' H H'->DR ŗ d z->Q z H')->r xs H Q
def tP.cb (k:Cb R r)(h:tP (rF R rs) σ H Q):tCB r (LG rs) σ H Q:=by obtain⟨F,ε,d,S,@⟨l,h1,h2⟩,q⟩:=h;show LG.go S h1 λxs H1 e1 S1 q1=>k _ H1 l xs d Q S1.le h2 q1 λz H2 e2 q2=>q z H2 Ň (by rwa [ar e1 e2]at q2)
inductive a0V:Ä
 |mk {x:D}{m:χ}:Xz x m->a0V [x] (.int m.length)
def Xo:Cb a0V L9:=λF H l xs d Q s z hx q=>by
 let#[h2]:=z;let#[v,ws,1,p,1]:=hx;rcases h2 with h2|_
 ·let#[a,vs,1,p1,p2]:=h2.at p;show#[a,vs,1,.inl<|.inl (p1.mono s),by rw[p2.length];show tP.at s q rfl]
 ·let#[a,vs,1,p1,p2]:=p;show#[a,vs,1,.inr<|LQ.of (s _ _ p1),by rw[p2.length];show tP.at s q rfl]
def ja {ns:Ξ}(h:Jj F (ns.map .int) vs):vs=ns.map V.int:=by rw[oj (by simp[lX]) h,F9];rfl
def zp {bs:Ð}(h:Jj F (bs.map .bl) vs):vs=bs.map V.bl:=by rw[oj (by simp[lX]) h,F9];rfl
inductive Xr:Ä
 |mk {ns:Ξ}{l:χ}:l=ns.map .int->Xr [.lst l] (.int ns.sum)
def y8:Cb Xr (λxs H Q=>∃ (p:Addr)(ns:Ξ),xs=[.ref p]/\Jq K H p ş/\Q (.int ns.sum) H):=λF H l xs d Q s z hx q=>by obtain @⟨ns,_,h⟩:=z;subst h;let#[v,ws,1,#[a,vs,1,p1,p2],1]:=hx;show#[a,ns,1,Jq.of<|ja p2▸s _ _ p1,tP.at s q rfl]
inductive Tr:Ä
 |mk {bs:Ð}{l:χ}:l=bs.map .bl->Tr [.lst l] (.bl (bs.all id))
inductive UR:Ä
 |mk {bs:Ð}{l:χ}:l=bs.map .bl->UR [.lst l] (.bl (bs.any id))
def Dh:Cb Tr IO:=λF H l xs d Q s z hx q=>by obtain @⟨ns,_,h⟩:=z;subst h;let#[v,ws,1,#[a,vs,1,p1,p2],1]:=hx;show#[a,ns,1,Jq.of<|zp p2▸s _ _ p1,tP.at s q rfl]
def Xq:Cb UR K3:=λF H l xs d Q s z hx q=>by obtain @⟨ns,_,h⟩:=z;subst h;let#[v,ws,1,#[a,vs,1,p1,p2],1]:=hx;show#[a,ns,1,Jq.of<|zp p2▸s _ _ p1,tP.at s q rfl]
inductive a0U:Ä
 |mk {x:D}{m:χ}:Xz x m->a0U [x] (.lst m)
def EH:Cb a0U SC:=λF H l xs d Q s z hx q=>by
 let#[h2]:=z;let#[v,ws,1,p,1]:=hx;rcases h2 with h2|_
 ·let#[a,vs,1,p1,p2]:=h2.at p;show#[a,vs,1,.inl<|.inl (p1.mono s),jF s q λc G e z=>#[c,_,1,z,p2.mono e]]
 ·let#[a,vs,1,p1,p2]:=p;show#[a,vs,1,.inr<|LQ.of (s _ _ p1),jF s q λc G e z=>#[c,_,1,z,p2.mono e]]
inductive YT (c:List D->D) (rs:Á) (ε:En) (d:D):Prop
 |mk {l:χ}:rs ε l->l.length<=1000->d=c l->YT c rs ε d
def jf {x1:Nat}(h:PA X es (LG rs)):PE X (.Tuple es x1 pos) (tP (YT .tup rs)):=(eJ h).imp λσ H Q gR=>by let#[F,ε,d,S,#[h1,h2,h3],q]:=gR;show LG.go S h1 λxs H1 e1 S1 q1=>#[Fo (by rw[q1.length];show h2)<|by decide +kernel,jF S1.le (λx H2 e2 q2=>q x H2 Ň<|by rwa [ar e1 e2]at q2) λc G e z=>by rw[h3];show#[c,_,1,z,q1.mono e]]
def c9 (h:PA X es (LG rs)):PE X (.List es pos) (tN (YT .lst rs)):=(eK h).imp fun σ H Q ⟨F,ε,d,S,⟨h1,h2,h3⟩,q⟩=>LG.go S h1 λxs H1 e1 S1 q1=>#[Fo (by rw[q1.length];show h2)<|by decide +kernel,λp H2 e2 n z=>by
 let n0:H p=none:=by cases y:H p with
  | none=>rfl
  | some o=>rw[e1 _ _ y]at n;cases n
 show q p H2 Ň n0 ?_;rw[h3];show#[xs,z,q1.mono λb o y=>?_];rw[bv (λzz=>by rw[zz,aA n0]at y;rw[y]at n;cases n)];show aT e2 _ _ y]
def dV (h:PT X e (Br (tP ra))):PT X e (NL λε b=>ra ε (.bl b)):=h.imp λσ H Q gR=>by let#[F,ε,c,S,h,q]:=gR;show#[F,ε,.bl c,S,h,λ_ H' e z=>#[c,z,q H' e]]
universe e
def sU:typeLookup Ş "keys"=pure none:=by rw[typeLookup_type,builtinLookup_eq_fast];kernel_rfl
def eS:entryFor table "dict.update.loop"=some Builtin.«dict.update.loop»:=entryFor_of_tree (by kernel_rfl)
def Ay (hx:s.heap.get? a=some #[.type "list",none,.seq xs k,sl])(hA)(h:∀ h' tk e,Heap.NewExcOf s.heap h' e "AttributeError"->Q none { s with heap:=h',toks:=tk }):wpAny Ġ A (getAttr? (.ref a) "keys") Q E s:=by
 let#[hp,g,d,tk,os]:=s;let hT:∀ Sy,(#[hp,g,d,Sy,os]:Ê).TypeIs (.ref a) "list":=λ_=>#[_,hx,1]
 let f1:=sub_AttributeError;let f3:=F.slot_list_getattribute.lookup;let f4:=F.slot_list_getattribute.bind (.ref a);let f5:=am_list_getattr_none;unfold getAttr? getAttrBy? getAttrBy;repeat (any_goals (first|assumption|show hT _|((with_reducible show (wpAny _ _ (call (Value.builtin "list.__getattribute__") _ _) _ _ _));show Ip F.slot_list_getattribute (hT _) am_entry_list_getattribute (F.args_list_getattribute_2 _ _) (meets_getattribute_miss_list a xs k sl "keys" _ sU (by decide) (by size_fits)) ⟨hx,hA,λh' Sy e Ro=>?_⟩)|wp_step))
 let#[t',u',he]:=Ro.there;show (wpAny _ _ (getattributeRaised _ _ _ _ _ _ _) _ _ _);unfold getattributeRaised;repeat (any_goals (first|assumption|wp_step))
 show h _ _ _ Ro.of
section
variable {prog:É}{w:World}{κ:Type}[DecidableEq κ]{knd:KeyKind prog w κ}
theorem zw (knd)(h:Heap)(items:Ò)(ps:List (κ×Value)):Prop:=items.size=ps.length/\∀ (i:Nat) x p,items[i]?=!x->ps[i]?=!p->∃ t u,x=.ref t/\h.IsTuple t [u,p.2].toArray/\knd.is p.1 u=true
def xG {ps:List (κ×Value)}(hh)(Vp)(hdl:d≠l)(XW:it≠l)(hdi:d≠it)(R:Result->Shared->Prop):
  ∀ (n i:Nat)(s:Ê),n=ps.length - i->i<=ps.length->s.heap.IsListIter it l i->s.heap.IsList l items->zw knd s.heap items ps->s.heap.DictOf knd d (merged [] (ps.take i))->
   (∀ h' tk,h'.DictOf knd d (merged [] ps)->(∀ b o,b≠d->b≠it->s.heap.get? b=!o->h'.get? b=!o)->R (.ok (.ret .none)) { s with heap:=h',toks:=tk })->
   codeAny Ġ A (.builtin "dict.update.loop" #[[.ref d,.ref it,rawInt i,.none],[]]) R s:=by
 intro n
 induction n with
 | zero=>
  intro i s hn hi hit hl hp hd h;let ei:i=ps.length:=#[]
  show codeAny_builtin eS ?_;show EX (wpAny_pyNext_list_end hh hit hl (Array.getElem?_eq_none (by rw[hp.1];lia)) λh' ext=>?_);let#[o,es,ep,ho,r]:=hd;show EX (Ff<|Ff (h h' _ ⟨o,es,ep,ext d o hdi ho,by rw[ei,FF]at r;show r⟩ λb o hb1 hb2 hb=>ext b o hb2 hb))
 | succ n ih=>
  intro i s hn hi hit hl hp hd h;let Ml:i<ps.length:=#[]
  obtain⟨p,ep⟩:∃ p,ps[i]?=!p:=#[_,EW Ml]
  obtain⟨x,ex⟩:∃ x,items[i]?=!x:=#[_,HN (by rw[hp.1];show Ml)]
  let#[t,u,1,ht,hk]:=hp.2 i x p ex ep;show codeAny_builtin eS ?_;let neT:∀ t' v',s.heap.IsTuple t' v'->t'≠it/\t'≠d:=λt' v' gR=>by
   let#[o',Q1,_,n',Po]:=gR;let#[oi,hoi,_,a39]:=hit;let#[od,es,ep,ZT,_,hdd,_]:=hd;constructor
   ·intro z;rw[z,hoi]at Q1
    cases Q1;rw[a39]at Po
    cases Po
   ·intro z;rw[z,ZT]at Q1
    cases Q1;rw[hdd]at Po
    cases Po
  show EX (wpAny_pyNext_list_item hit hl ex λh1 a3Z sb1=>?_);let NZ:∀ b o,b≠it->s.heap.get? b=!o->h1.get? b=!o:=λb o hb e=>(sb1.2 b hb).trans e;let Yl:∀ t' v',s.heap.IsTuple t' v'->h1.IsTuple t' v':=λt' v' z=>by let#[o',Q1,r']:=id z;show#[o',NZ t' o' (neT t' v' z).1 Q1,r']
  let U3:h1.DictOf knd d (merged []<|ps.take i):=by let#[o,es,ep,ho,r]:=hd;show#[o,es,ep,NZ d o hdi ho,r]
  let OB:h1.IsList l items:=by let#[o,ho,r]:=hl;show#[o,NZ l o XW.symm ho,r]
  let#[ot,hot,hct,nt,hdt]:=Yl t _ ht;show EX<|GC (EX (wpAny_tryCatch ?_));show EX (II #[ot,hot,hct] ?_);show EX<|wpAny_seqItems hot hdt (Ff ?_);let ZZ:(merged []<|ps.take i).length<=sizeLine:=by
   let h1:=merged_length_le ([])<|ps.take i;rw[Fh]at h1;let h2:sizeLine=2 ^ 24:=rfl;simp only[HB]at h1
   lia
  show GC (wpAny_dictSet_pairs hk U3 λh2 hd2 sb2=>?_);let Ls:∀ b o,b≠d->h1.get? b=!o->h2.get? b=!o:=λb o hb e=>(sb2.2 b hb).trans e;show Ff #[Hw _<|by decide +kernel,?_];show ih (i+1) { s with heap:=h2,toks:=s.toks+1 } #[] #[] ?_ ?_ ⟨hp.1,λj x' p' h3 h4=>?_⟩ ?_ λh' tk h3 h4=>h h' tk h3 λb o hb1 hb2 hb=>h4 b o hb1 hb2 (Ls b o hb1<|NZ b o hb2 hb)
  ·let#[oi,hoi,r]:=a3Z;show#[oi,Ls it oi hdi.symm hoi,r]
  ·let#[ol,hol,r]:=OB;show#[ol,Ls l ol hdl.symm hol,r]
  ·let#[t',u',e',PF,Si]:=hp.2 j x' p' h3 h4;let#[o',Q1,r']:=Yl t' _ PF;show#[t',u',e',#[o',Ls t' o' (neT t' _ PF).2 Q1,r'],Si]
  ·rw[merged_take_succ _ _ i p ep];show hd2
def yb {ps:List (κ×Value)}(hh)(hl:s.heap.get? l=some #[.type "list",none,.seq items n,sl])(hp:zw knd s.heap items ps)(Vp)(h:∀ h' tk,h'.DictOf knd s.heap.objs.size (merged [] ps)->(∀ b o,s.heap.get? b=!o->h'.get? b=!o)->Q KB { s with heap:=h',toks:=tk }):
  wpAny Ġ A (call KF [.ref l]) Q E s:=by
 show callType_codes (Q₁:=λobj s₁=>obj=.ref s.heap.objs.size/\s₁={ s with heap:=s.heap.push Ĝ }) F.kt_called_dict (F.kt_typeCall_dict_1 _) F.entry_dict_init (kt_code_dict_new _ #[2]) ?_;rintro obj s₁ ⟨rfl,rfl⟩;let LO:(s.heap.push Ĝ).DictOf knd s.heap.objs.size []:=Heap.DictOf.new s.heap;let hl':=Fc Ĝ hl;show#[LO.typeIs,F.args_dict_init_2 _ _,?_];show EX ?_;show EX (Il LO.typeIs ?_);show Ff ?_;show EX (II #[_,hl',1] ?_);show EX (Ay hl' hh λh1 Yo e1 ne1=>?_);let LU:=λb o e=>ne1.keeps b o<|Fc _ e;let OB:h1.IsList l items:=#[_,LU _ _ hl,1,n,1]
 show EX (wpAny_rule ?_);show EX (HZ OB ?_);show Ff #[Hw _<|by decide +kernel,?_];let kp:∀ b o,h1.get? b=some o->(h1.push { cls:=.type "list_iterator",data:=.fields [.ref l,.int 0 0].toArray }).get? b=some o:=λb o e=>Fc _ e;let U3:h1.DictOf knd s.heap.objs.size []:=by let#[o,es,ep,ho,r]:=LO;show#[o,es,ep,ne1.keeps _ _ ho,r]
 let nl:=GT<|FD hl;let lt1:s.heap.objs.size<h1.objs.size:=by let#[o,es,ep,ho,r]:=U3;show FD ho
 show xG (A:=A.in1) (knd:=knd) hh Vp nl (GT<|FD (LU _ _ hl)) (Gg lt1) _ ps.length 0 { s with heap:=h1.push { cls:=.type "list_iterator",data:=.fields [.ref l,.int 0 0].toArray },toks:=Yo } #[] (FR _) ⟨_,Fx _ rfl,rfl,rfl⟩ ?_ ⟨hp.1,λi x p h3 h4=>?_⟩ ?_ λh' tk hD keep=>?_
 ·let#[o,ho,r]:=OB;show#[o,kp _ _ ho,r]
 ·let#[t,u,e,#[o,ho,r],hk]:=hp.2 i x p h3 h4;show#[t,u,e,#[o,kp _ _<|LU _ _ ho,r],hk]
 ·let#[o,es,ep,ho,r]:=U3;show#[o,es,ep,kp _ _ ho,by show r]
 ·show#[1,h h' tk hD λb o e=>keep b o (Gg<|FD e) (Gg<|FD (LU b o e))<|kp b o (LU b o e)]
universe e
theorem u9 (H)(p:Addr)(ķ:ξ):Prop:=∃ xs,H p=!.lst xs/\Paired (λv (kv:Key×V)=>∃ t,v=.ref t/\H t=!.tup [kV kv.1,kv.2]) xs ķ
def uO (Jk:MD P w H h):∀ {xs:π}{ķ:ξ}{its:θ},Paired (λv (kv:Key×V)=>∃ t,v=.ref t/\H t=!.tup [kV kv.1,kv.2]) xs ķ->Vals xs its->
  ∃ ps:List (Key×Value),KV ķ ps/\its.length=ps.length/\∀ (i:Nat) x p,its[i]?=!x->ps[i]?=!p->∃ t u,x=.ref t/\h.IsTuple t [u,p.2].toArray/\(aN P w).is p.1 u=true:=by
 intro xs ķ its h
 induction h generalizing its with
 | nil=>intro h;cases h;show#[[],.nil,1,λi x p h1 _=>by simp at h1]
 | @cons _ kv _ _ y r ih=>
  intro h
  cases h with
  | @cons _ b _ _ rv rvs=>
   let#[t,e,ht]:=y;let#[ps,k1,k2,k3]:=ih rvs;subst e;obtain rfl:b=Value.ref t:=rv;let#[_,Mj,r2,ob,ho,hc,n,hd]:=(show Jl P w H h t (.tup [kV kv.1,kv.2]) from Jk t _ ht)
   let#[u,v,1,ru,V4]:=Bm r2;show#[(kv.1,v)::ps,.cons #[1,V4] k1,by simp[k2],λi x p h1 h2=>?_]
   cases i with
   | zero=>
    let h1:Value.ref t=x:=by simpa using h1
    let h2:(kv.1,v)=p:=by simpa using h2
    subst h1 h2;show#[t,u,1,#[ob,ho,hc,n,hd],jI ru]
   | succ i=>show k3 i x p (by simpa using h1) (by simpa using h2)
def cu (hc):JG X KF (λxs H Q=>∃ p ķ,xs=[.ref p]/\u9 H p ķ/\ķ.length<=1000/\Lj H ŵ Q):=by
 intro ñ s σ H xs us Q I r h;let#[p,ķ,1,#[ys,hy,hp],hz,q]:=h;let#[u,1,rx]:=dD r;obtain rfl:u=Value.ref p:=rx;let#[z,its,n,rv,e]:=(I.Jk p _ hy)
 let#[ps,k1,k2,k3]:=uO I.Jk hp rv;let WX:=KV.length k1;show yb Ŋ e #[by simp_all,λi x p h1 h2=>k3 i x p (by simpa using h1) h2] #[] λh' tk hD keep=>?_;let RQ:(b6 [] ķ).length<=sizeLine:=by let h1:=cq ķ [];rw[HB]at h1;rw[IT];lia
 show#[.ref s.heap.objs.size,_,I.laid keep (Fg _) ?_,1,q.at (I.Jk.fresh<|Fg _)];show#[RQ,IH.mpr<|GT I.big,_,k1.merge .nil,hD]
open PySem.Calls
def qF:∀ {us:θ}{ns:Ξ},IntsAre us ns->Vals ş us
 | _,_,.nil=>.nil
 | _,_,.cons _ t h=>.cons #[t,1] (qF h)
def yZ:∀ {us:θ}{ns:Ξ},us.length=ns.length->(∀ (j:Nat)(n:Int)(u:Value),ns[j]?=!n->us[j]?=!u->∃ t,u=.int n t)->IntsAre us ns
 | [],[],_,_=>.nil
 | u::us,n::ns,hl,h=>by let#[t,1]:=h 0 n u rfl rfl;show .cons n t (yZ Ľ λj m v h1 h2=>h (j+1) m v (by simpa using h1)<|by simpa using h2)
 | [],_::_,hl,_=>by cases hl
 | _::_,[],hl,_=>by cases hl
def m5 (hc):JG X (.builtin "sorted") (λxs H Q=>∃ d ķ ns,xs=[.ref d]/\Rd H d (.dK ķ)/\ķ.map (·.1)=ns.map (λn:Int=>(Sum.inl n:Key))/\ns.length<64/\
  ∀ PX:Ξ,PX.Perm ns->PX.Pairwise (·<=·)->Lj H (.lst (PX.map V.int)) Q):=by
 intro ñ s σ H xs us Q I r h;let#[d,ķ,ns,1,hd,WW,h64,q]:=h;let#[u,1,rx]:=dD r
 cases rx;let#[z,lo,vs,rel,o,es,ep,ho,hx,Oi,hk,hp,Vq]:=(hd.ok I.Jk)
 let hl:es.size=vs.length:=by rw[<- hp.length];simp
 let WX:=KV.length rel;let hkn:ķ.length=ns.length:=by let:=congrArg List.length WW;simpa using this
 show call_function_entry kind_sorted plain_sorted entry_sorted (args_sorted1 _) ?_;show EX (Ff ?_);show EX (W.kdu_collect (yw lo) Ŋ #[o,ho,hx,Oi] (by rw[hl,<- WX];show z) λh' tk acc keep RY=>?_);let hI:IntsAre acc.toList ns:=by
  show yZ (by let h1:=RY.1;rw[<- Array.length_toList]at h1;rw[h1,hl,<- WX,hkn]) λj n u' hn hu=>?_;let hkj:(ķ.map (·.1))[j]?=!Sum.inl n:=by rw[WW,Fb,hn];rfl
  rw[Fb]at hkj;let#[kv,ekv,hkv]:=FI.mp hkj;let#[q',OO,T5]:=Paired.at rel ekv;let hj:j<es.size:=by rw[hl];show (EY.mp OO).1
  let h1:(es[j]?).map (·.key)=!u':=RY.2 j u' (by rw[<- Array.getElem?_toList];show hu);rw[HN hj]at h1;let h2:=(Pairs.get? hp (e:=es[j]) Ħ OO).1;let h3:=Option.some.inj h1;let h4:=mr h2;rw[<- T5.1,hkv]at h4;rw[<- h3];show h4
 let hlen:acc.toList.length<64:=by
  let h1:=RY.1
  simp_all
 show EX (wpAny_newList ?_<|Fo (IJ hlen) ż);let ZU:(h'.push _).get? h'.objs.size=!seqObj "list" acc.toList.toArray 0:=Fx _ rfl;show EX<|GC (HJ slot_list_sort ⟨_,ZU,rfl⟩ entry_list_sort (list_sort_tree ZU hI hlen λout PX a1 a2 a3=>#[_,1,?_])<|args_list_sort _);show Ff #[_,1,?_];let Zm:∀ b u,h'.get? b=!u->(sortedHeap (h'.push<|seqObj "list" acc.toList.toArray 0) h'.objs.size acc.toList out).get? b=some u:=λb u h1=>by let h2:=FD h1;rw[sortedHeap_old (Gg h2) (by rw[size_push'];show IU h2)];show Fc _ h1
 let#[e,hat]:=sortedHeap_at ZU;let WO:=qF a1;let XS:(PX.map V.int).length<=sizeLine:=by
  rw[EV,a2.length_eq]
  simp_all
 let I1:=I.kept (t':=tk) keep;show#[.ref h'.objs.size,_,I1.laid Zm (Fg _)<|show Jl X.prog X.w _ _ _ (.lst _) from #[XS,out.toList,e,WO,?_],1,(q PX a2 a3).at (I1.Jk.fresh<|Fg _)];simpa using hat
section
variable {κ:Type}[DecidableEq κ]
def yc {knd:KeyKind prog w κ}{ps:List (κ×Value)}(hl:s.heap.DictOf knd l ps)(hS:(l==sysModules)=false)(hz:ps.length<=sizeLine)(h:∀ h',h'.DictOf knd s.heap.objs.size (merged [] ps)->(∀ b o,s.heap.get? b=!o->h'.get? b=!o)->Q KB { s with heap:=h' }):
  wpAny Ġ A (call KF [.ref l]) Q E s:=by
 show callType_codes (Q₁:=λobj s₁=>obj=.ref s.heap.objs.size/\s₁={ s with heap:=s.heap.push Ĝ }) F.kt_called_dict (F.kt_typeCall_dict_1 _) F.entry_dict_init (kt_code_dict_new _ #[2]) ?_;rintro obj s₁ ⟨rfl,rfl⟩;let LO:(s.heap.push Ĝ).DictOf knd s.heap.objs.size []:=Heap.DictOf.new s.heap;let kp:∀ b o,s.heap.get? b=!o->(s.heap.push Ĝ).get? b=!o:=λb o e=>Fc _ e;let lt:l<s.heap.objs.size:=by let#[o,es,ep,ho,r]:=hl;show FD ho
 let hl':(s.heap.push Ĝ).DictOf knd l ps:=by let#[o,es,ep,ho,r]:=hl;show#[o,es,ep,kp _ _ ho,r]
 show#[LO.typeIs,F.args_dict_init_2 _ _,?_];show EX ?_;show EX (Il LO.typeIs ?_);show Ff ?_;show EX (II hl'.typeIs ?_);show EX ?_;show EX ?_;show EX (wpAny_isInstance hl'.typeIs isSubtype_dict_dict ?_);show EX<|wpAny_specialOf hl'.typeIs F.slot_dict_iter.lookup (Ff ?_);show EX (Ff ?_);show wpAny_mergeDict (GT lt) hS LO hl' λh' Po Q1 hs'=>?_;show EX<|Ff (Ff ⟨rfl,h h' Po λb o e=>?_⟩);show (hs'.2 b<|Gg (FD e)).trans (kp b o e)
universe e
def Pu:JG X KF (λxs H Q=>∃ p ķ,xs=[.ref p]/\Rd H p (.dK ķ)/\Lj H ŵ Q):=by
 intro ñ s σ H xs us Q I r h;let#[p,ķ,1,hy,q]:=h;let#[u,1,rx]:=dD r;obtain rfl:u=Value.ref p:=rx;let#[z,hS,ps,k1,hD]:=(hy.ok I.Jk)
 let WX:=KV.length k1;show yc hD hS #[] λh' hD' keep=>?_;let RQ:(b6 [] ķ).length<=sizeLine:=by
  let h1:=cq ķ [];rw[HB]at h1
  lia
 show#[.ref s.heap.objs.size,_,I.laid keep (Fg _) ?_,1,q.at (I.Jk.fresh<|Fg _)];show#[RQ,IH.mpr<|GT I.big,_,k1.merge .nil,hD']
section
variable {K:Ψ}{a b o i:Expr}{ra rb rc:Rx}{rs:Á}{rt ru:Å}{F H:Hp}{σ:St}
abbrev Rt:=En->Bool->Prop
def PW.imp (h:PW X e t)(k:∀ σ H Q,t' σ H Q->t σ H Q):PW X e t':=λwh ñ s σ H Q I q=>h wh ñ s σ H Q I L6
inductive sk (rt ru:Rt) (ε:En):Bool->Prop
 |t {b:Bool}:rt ε true->ru ε b->sk rt ru ε b
 |f:rt ε false->sk rt ru ε false
inductive VX (rt ru:Rt) (ε:En):Bool->Prop
 |t:rt ε true->VX rt ru ε true
 |f {b:Bool}:rt ε false->ru ε b->VX rt ru ε b
inductive rIe (rt:Rt) (ra rb:Rx) (ε:En) (d:D):Prop
 |t:rt ε true->ra ε d->rIe rt ra rb ε d
 |f:rt ε false->rb ε d->rIe rt ra rb ε d
def jQ (ha:PT X a (NL rt))(hb:PW X Os (NL ru)):PW X K5 (NL (sk rt ru)):=(BM ha hb).imp λσ H Q gR=>by
 let#[F,ε,c,S,h,q]:=gR
 cases h with
 | t h1 h2=>show#[F,ε,true,S,h1,λH1 e1=>#[_,ε,c,S.step e1,h2,λH2 e2=>q H2<|e1.trans e2]]
 | f h1=>show#[F,ε,false,S,h1,λH1 e1=>q H1 e1]
def UN (ha:PT X a (NL rt))(hb:PW X (.BoolOp .Or (b::rest) pos) (NL ru)):PW X (.BoolOp .Or (a::b::rest) pos) (NL (VX rt ru)):=(Va ha hb).imp λσ H Q gR=>by
 let#[F,ε,c,S,h,q]:=gR
 cases h with
 | t h1=>show#[F,ε,true,S,h1,λH1 e1=>q H1 e1]
 | f h1 h2=>show#[F,ε,false,S,h1,λH1 e1=>#[_,ε,c,S.step e1,h2,λH2 e2=>q H2<|e1.trans e2]]
def AT (ha:PT X a (NL rt)):PT X (.UnaryOp .Not a pos) (NL λε b=>rt ε (not b)):=(sr ha).imp λσ H Q gR=>by let#[F,ε,c,S,h,q]:=gR;show#[F,ε,not c,S,h,λH1 e1=>by simp_all]
def UO (hc:PT X c (NL rt))(ha)(hb:PE X b (tP rb)):PE X (.IfExp c a b pos) (tP (rIe rt ra rb)):=(BT hc ha hb).imp λσ H Q gR=>by
 let#[F,ε,d,S,h,q]:=gR;rcases h with⟨h1,h2⟩|⟨h1,h2⟩
 ·show#[F,ε,true,S,h1,λH1 e1=>tP.go (S.step e1) h2 λx H2 e2 _ q2=>q x H2 Ň<|by rwa [ar e1 e2]at q2]
 ·show#[F,ε,false,S,h1,λH1 e1=>tP.go (S.step e1) h2 λx H2 e2 _ q2=>q x H2 Ň<|by rwa [ar e1 e2]at q2]
inductive BL (ra rb:Rx) (ε:En):D->Prop
 |t {d:D}:ra ε Ŗ->rb ε d->BL ra rb ε d
 |f:ra ε L5->BL ra rb ε L5
inductive YQ (ra:Rx) (ε:En):D->Prop
 |mk {b:Bool}:ra ε (.bl b)->YQ ra ε (.bl (not b))
def zm (ha)(hb:PE X Os (tP rb)):PE X K5 (tP (BL ra rb)):=(xc ha hb).imp λσ H Q gR=>by
 let#[F,ε,d,S,h,q]:=gR
 cases h with
 | t h1 h2=>show tP.go S h1 λx H1 e1 S1 q1=>#[true,q1,tP.go S1 h2 λx H2 e2 _ q2=>q x H2 Ň<|by rwa [ar e1 e2]at q2]
 | f h1=>show tP.go S h1 λx H1 e1 S1 q1=>#[false,q1,q _ H1 e1 rfl]
inductive rCh (f g:D->D->D->Prop) (ra rb rc:Rx) (ε:En):D->Prop
 |t {x y z d:D}:ra ε x->rb ε y->f x y Ŗ->rc ε z->g y z d->rCh f g ra rb rc ε d
 |f {x y:D}:ra ε x->rb ε y->f x y L5->rCh f g ra rb rc ε L5
def dCh (h:PE X e (Bw r r' (tP ra) (tP rb) (tP rc)))(k:Pk f r)(k':Pk g r'):PE X e (tP (rCh f g ra rb rc)):=h.imp λσ H Q gR=>by
 let#[F,ε,d,S,h,q]:=gR
 cases h with
 | t hx hy h1 h2 h3=>show tP.go S hx λu H1 e1 S1 q1=>tP.go S1 hy λv H2 e2 S2 q2=>k _ _ _ _ u v _ _ S2.le h1 (q1.mono<|aj S1.le) q2 λw H3 e3 q3=>#[true,q3,tP.go (S2.step e3) h2 λw' H4 e4 S4 q4=>k' _ _ _ _ v w' d Q S4.le h3 ((q2.mono<|aj S2.le).mono<|aj (S2.step e3).le) q4 λx5 H5 e5 q5=>q x5 H5 (e1.trans<|e2.trans (e3.trans<|e4.trans e5)) (by rw[ar e1 e2,ar Ň e3,ar Ž e4,ar (e1.trans<|e2.trans (e3.trans e4)) e5]at q5;show q5)]
 | f hx hy h1=>show tP.go S hx λu H1 e1 S1 q1=>tP.go S1 hy λv H2 e2 S2 q2=>k _ _ _ _ u v _ _ S2.le h1 (q1.mono<|aj S1.le) q2 λw H3 e3 q3=>#[false,q3,q _ H3 Ž rfl]
theorem a2J:En->Option Int->Prop:=λ_ p=>p=none
inductive rPt (r:Rx) (ε:En):Option Int->Prop
 |mk {i:Int}:r ε (.int i)->rPt r ε !i
theorem tPO (r:En->Option Int->Prop):TO:=λσ H Q=>∃ F ε p,Sd F σ H ε/\r ε p/\∀ H',f' H H'->Q p H'
def PO.imp (h:PO X e t)(k:∀ σ H Q,t' σ H Q->t σ H Q):PO X e t':=λñ s σ H Q I q=>h ñ s σ H Q I L6
def UL:PO X none (tPO a2J):=Um.imp λσ H Q gR=>by let#[F,ε,p,S,h,q]:=gR;cases h;show q H Ĩ
def UK (h:PE X e (tP ra)):PO X (!e) (tPO (rPt ra)):=(sv h).imp λσ H Q gR=>by let#[F,ε,p,S,h,q]:=gR;obtain @⟨i,h1⟩:=h;show tP.go S h1 λx H1 e1 _ q1=>#[i,q1,q H1 e1]
theorem wv (l:χ)(lo hi:Ó):χ:=(l.drop (HT.PB l.length 0 lo)).take (HT.PB l.length l.length hi - HT.PB l.length 0 lo)
def Jj.drop:∀ {l:χ}{vs:π} (n:Nat),Jj F l vs->Jj F (l.drop n) (vs.drop n)
 | _,_,0,h=>h
 | [],_,_+1,h=>by rw[show _=[] from h];rfl
 | _::_,_,n+1,⟨_,_,q1,_,q3⟩=>by rw[q1];show Jj.drop n q3
def Jj.take:∀ {l:χ}{vs:π} (n:Nat),Jj F l vs->Jj F (l.take n) (vs.take n)
 | _,_,0,_=>rfl
 | [],_,_+1,h=>by rw[show _=[] from h];rfl
 | _::_,_,n+1,⟨_,_,q1,q2,q3⟩=>by rw[q1];show#[_,_,1,q2,Jj.take n q3]
inductive rSl (ra:Rx) (rl rh:En->Option Int->Prop) (ε:En) (d:D):Prop
 |mk {x:D}{l:χ}{p q:Ó}:ra ε x->Sq x l->rl ε p->rh ε q->d=.lst (wv l p q)->rSl ra rl rh ε d
def UM {lo:Option Expr}(ha)(hl:PO X lo (tPO rl))(hh:PO X hi (tPO rh)):PE X (.Subscript a (.Slice lo hi none p2) pos) (tP (rSl ra rl rh)):=
 (uM (YB X.K) ha hl hh).imp fun σ H Q ⟨F,ε,d,S,.mk (p:=p) (q:=r) h1 h2 h3 h4 h5,q⟩=>tP.go S h1 λu H1 e1 S1 q1=>#[_,_,p,S1,h3,λH2 e2=>#[_,_,r,S1.step e2,h4,λH3 e3=>by let#[ad,vs,1,p1,p2]:=h2.at q1;let S3:=(S1.step e2).step e3;show#[ad,vs,1,.inl ((p1.mono<|aj S1.le).mono (aj (S1.step e2).le) |>.mono S3.le),jF S3.le (λy H4 e4 q4=>q y H4 (e1.trans<|e2.trans (e3.trans e4)) (by rw[ar e1 e2,ar Ň e3,ar Ž e4]at q4;show q4)) λy G e z=>?_];rw[h5];show#[y,_,1,z,?_];unfold wv pH;rw[p2.length];show ((((p2.mono<|aj S1.le).mono<|aj (S1.step e2).le).mono e).drop _).take _]]
def Jj.look:∀ {n:η}{l:χ}{fs:Î},fs.map (·.1)=n->Jj F l (fs.map (·.2))->(n.zip l).lookup f=!d->∃ v,fs.lookup f=!v/\DR F d v:=by
 intro n l
 induction l generalizing n with
 | nil=>intro fs h1 h2 h3;simp_all
 | cons e l ih=>
  intro fs h1 h2 h3
  cases n with
  | nil=>cases h3
  | cons m n=>
   cases fs with
   | nil=>cases h1
   | cons p fs=>
    let#[v,ws,q1,q2,q3]:=h2;rw[Fk]at h1 q1;injection h1 with h1 h1';injection q1 with q1 Uk;rw[IL,HL]at h3;rw[show p::fs=(p.1,p.2)::fs from rfl,HL,h1]
    cases z:f==m with
    | true=>grind
    | false=>rw[z]at h3;show ih h1' (Uk▸q3) h3
inductive rFl (Pc:Addr->Prop) (f:Str) (r:Rx) (ε:En) (d:D):Prop
 |mk {C:Addr}{n:η}{l:χ}:r ε (.ins C n l)->Pc C->(n.zip l).lookup f=!d->rFl Pc f r ε d
def QA (hP:∀ C,Pc C->MZ X.K C/\JE X.K C f)(ha)(hb:attributeBase a f X.env (eval a X.env)=eval a X.env:=Ą):PE X (.Attribute a f pos) (tP (rFl Pc f ra)):=
 (BU ha hb).imp fun σ H Q ⟨F,ε,d,S,.mk (C:=C) h1 h2 h3,q⟩=>tP.go S h1 λx H1 e1 S1 gR=>by let#[ad,dx,fs,ex,p1,p2,p3]:=gR;let#[v,v1,v2]:=Jj.look p2 p3 h3;show#[ad,C,dx,fs,v,ex,S1.le _ _ p1,(hP C h2).1,(hP C h2).2,v1,q v H1 e1 v2]
def qq {fs:Î}(h:fs.map (·.1)=n)(hm:m∉n):fs.lookup m=none:=by rw[List.lookup_eq_none_iff];intro p hp;rw[bne_iff_ne];rintro rfl;show hm (h▸F8.mpr #[p,hp,1])
variable {k:Nat}{C:Addr}{m:Str}{R:Ä}
inductive rMe (C:Addr) (m:Str) (R:Ä) (r:Rx) (rs:Á) (ε:En) (d:D):Prop
 |mk {n:η}{l ds:χ}:r ε (.ins C n l)->m∉n->rs ε ds->R (.ins C n l::ds) d->rMe C m R r rs ε d
inductive VY (Cs:Addr->Prop) (m:Str) (R:Addr->Ä) (r:Rx) (ε:En) (d:D):Prop
 |mk {C:Addr}{n:η}{l:χ}:r ε (.ins C n l)->Cs C->m∉n->R C [.ins C n l] d->VY Cs m R r ε d
def tP.me (h:tP (rMe C m R ra rs) σ H Q):pU C m (Pr R) [] E0 (tP ra) (LG rs) σ H Q:=by obtain⟨F,ε,d,S,@⟨n,l,ds,h1,h2,h3,h4⟩,q⟩:=h;show tP.go S h1 λx H1 e1 S1 q1=>?_;let#[ad,dx,fs,ex,p1,p2,p3]:=id q1;show#[ad,dx,fs,ex,S1.le _ _ p1,qq p2 h2,LG.go S1 h3 λxs H2 e2 S2 q2=>#[_,.ins C n l::ds,d,S2.le,#[x,_,1,q1.mono<|aj S1.le,by simp_all],h4,λy H3 e3 q3=>q y H3 Ž ?_]];rwa [ar e1 e2,ar Ň e3]at q3
def OI (he:PE X o (tP ra))(Dd)(hr)(ha:PA X (e::es) (LG rs))(Pm)(LM)(ht:eval (.Call Ĭ (e::es) [] pos) X.env=(do
   let ov <- eval o X.env
   standAt apos.atName
   let (f,first) <- holding [ov] Ŝ
   callWith pos f first (backTo pos Ÿ) Ĵ):=Ą):PE X (.Call Ĭ (e::es) [] pos) (tP (rMe C m R ra rs)):=(bI he Dd hr ha Pm LM ht).imp λ_ _ _ h=>tP.me h
def EG {R:Addr->Ä}(he:PE X o (tP ra))(Dd:∀ C,Cs C->Dm X.prog X.w X.K X.mg X.base k C m ps (Pr (R C)))(hr)(ht:eval ī X.env=(do
   let ov <- eval o X.env
   standAt apos.atName
   let (f,first) <- holding [ov] Ŝ
   callWith pos f first (backTo pos (starEach [] X.env)) Ĵ):=Ą):PE X ī (tP (VY Cs m R ra)):=
 (qg he Dd hr ht).imp fun σ H Q ⟨F,ε,d,S,.mk (C:=C) (n:=n) (l:=l) h1 h2 h3 h4,q⟩=>tP.go S h1 λx H1 e1 S1 q1=>by let#[ad,dx,fs,ex,p1,p2,p3]:=id q1;show#[ad,C,dx,fs,ex,h2,S1.le _ _ p1,qq p2 h3,_,[.ins C n l],d,S1.le,#[x,_,1,q1,1],h4,λy H3 e3 q3=>q y H3 (e1.trans e3)<|by rwa [ar e1 e3]at q3]
theorem kD:Key->D
 | .inl i=>.int i
 | .inr x=>.str x
abbrev _root_.ι:=List (Key×D)
abbrev Km (ð:ι):D:=.dct (ð.map (·.1)) (ð.map (·.2))
def lC (h:DR F (kD y) v):v=kV y:=by cases y <;> show h
theorem cI (ð:ι)(y:Key):Option D:=(ð.find? λkv=>decide (kv.1=y)).map (·.2)
def Jj.val:∀ {ð:ι}{ķ:ξ},ķ.map (·.1)=ð.map (·.1)->Jj F Ř Ł->(cI ð y=none->cQ ķ y=none)/\∀ d,cI ð y=!d->∃ v,cQ ķ y=!v/\DR F d v:=by
 intro ð
 induction ð with
 | nil=>
  intro ķ h _
  cases ķ with
  | nil=>show#[λ_=>rfl,λ_ h=>nomatch h]
  | cons _ _=>cases h
 | cons p ð ih=>
  intro ķ h y'
  cases ķ with
  | nil=>cases h
  | cons q ķ=>
   let#[v,ws,q1,q2,q3]:=y';rw[Fk,Fk]at h;rw[Fk]at q1;injection h with h1 h2;injection q1 with q1 Uk;let ih:=ih h2<|Uk▸q3;unfold cI cQ at ih ⊢;rw[Gs,Gs,h1];by_cases z:p.1=y
   ·grind
   ·rw[F5 z];show ih
inductive Sub:D->D->D->Prop
 |l {x d:D}{l:χ}{i:Int}:Sq x l->OD l i=!d->Sub x (.int i) d
 |t {d:D}{l:χ}{i:Int}:OD l i=!d->Sub (.tup l) (.int i) d
 |k {ð:ι}{y:Key}{x d:D}:cI ð y=!d->x=kD y->Sub (Km ð) x d
def Er (hu):RB X (λx y H Q=>∃ a v,x=.ref a/\Nl H a y !v/\Q v H):=by
 intro value slice ñ s σ H x y v u Q I rx ry h hs;let#[a,z,1,g,q]:=h
 cases rx;let hT:=lH I g;show EX ?_;show EX (wpAny_specialOf hT PySem.F.slot_dict_getitem.lookup ?_);let fin:wpAny X.Ę X.A (subscripted slice false (.ref a) u) (λr s₃=>wpAny X.Ę X.A (letTemporaryGo value (.ref a) r >>= λ_=>pure r) Ŏ X.xe s₃) X.xe s:=by rw[hs];show wpAny_operating (qY hu I g ry λw' s3 I3 Ql=>EX<|wpAny_letTemporaryGo (Ff #[z,H,I3,Ql,q]))
 first
  | show Ff (EX fin)
  | show EX _
  | show EX fin
def Z7:Pk Sub (λx y H Q=>(DZ K x y H Q\/DY K x y H Q)\/∃ a v,x=.ref a/\Nl H a y !v/\Q v H):=λF H x y u v d Q s z hu hv q=>by
 cases z with
 | l h1 h2=>show .inl (.inl<|a21 s h1 h2 hu hv q)
 | t h=>show .inl (.inr<|a20 s h hu hv q)
 | k h e=>
  subst e;let#[ad,ķ,1,p1,p2,p3]:=hu;let#[w,w1,w2]:=(Jj.val p2 p3).2 d h;show .inr #[ad,w,1,#[ķ,_,p1.mono s,lC hv,w1.symm],tP.at s q w2]
def dS (hu)(ha)(hb:PE X b (tP rb))(hs:k8 b:=Ċ):PE X Tl (tP (rO Sub ra rb)):=dX (RB.or (RB.or yT CB)<|Er hu) Z7 ha hb hs
inductive TB (n:Bool) (x y d:D):Prop
 |s:fIn n x y d->TB n x y d
 |k {ð:ι}{z:Key}:y=Km ð->x=kD z->d=.bl (if n=true then not (cI ð z).isSome else (cI ð z).isSome)->TB n x y d
theorem VZ (n:Bool):R2:=λy x H Q=>∃ a o,x=.ref a/\Nl H a y o/\Q (.bl (if n=true then not o.isSome else o.isSome)) H
def Ce (hu):Kz X (compareOp .In) (VZ false):=by intro ñ s σ H y x iv u Q I ry rx h;let#[a,ov,ex,g,q]:=h;subst ex;obtain rfl:u=Value.ref a:=rx;show a4P hu I g ry λs3 I3=>#[.bl ov.isSome,H,I3,1,q]
def Ae (hu):Kz X (compareOp .NotIn) (VZ true):=by intro ñ s σ H y x iv u Q I ry rx h;let#[a,ov,ex,g,q]:=h;subst ex;obtain rfl:u=Value.ref a:=rx;show EF hu I g ry λs3 I3=>#[.bl _,H,I3,1,q]
set_option tactic.hygienic true in def Co:Pk (TB n) (λx y H Q=>rIn K n x y H Q\/VZ n x y H Q):=λF H x y u v d Q s z hu hv q=>by
 cases z with
 | s h=>show .inl (a23 F H x y u v d Q s h hu hv q)
 | k e1 e2 hd=>
  subst e1 e2;rename_i ð k;let#[ad,ķ,1,p1,p2,p3]:=hv;let#[n1,n2]:=Jj.val p2 p3;let hs:(cQ ķ k).isSome=(cI ð k).isSome:=by
   cases z:cI ð k with
   | none=>rw[n1 z];rfl
   | some d=>let⟨w,w1,_⟩:=n2 d z;rw[w1];rfl
  show .inr #[ad,_,1,#[ķ,k,p1.mono s,lC hu,1],tP.at s q (by rw[hd,hs];rfl)]
def dIn (hu)(ha)(hb:PE X b (tP rb))(hm:behindInMarks .In b=false:=ą):PE X (.Compare a [.In] [b] pos) (tP (rO (TB false) ra rb)):=dM (Kz.or qj<|Ce hu) Co ha hb hm
def TV (hu)(ha)(hb:PE X b (tP rb))(hm:behindInMarks .In b=false:=ą):PT X (.Compare a [.In] [b] pos) (NL λε c=>rO (TB false) ra rb ε (.bl c)):=dT (Kz.or qj<|Ce hu) Co ha hb hm
def RI (hu)(ha)(hb:PE X b (tP rb))(hm:behindInMarks .NotIn b=false:=ą):PT X (.Compare a [.NotIn] [b] pos) (NL λε c=>rO (TB true) ra rb ε (.bl c)):=dT (Kz.or sA<|Ae hu) Co ha hb hm
inductive wL:D->D->D->Prop
 |i {i j:Int}:wL (.int i) (.int j) (.int (i+j))
 |l {l m:χ}:l.length+m.length<=10000->wL (.lst l) (.lst m) (.lst (l++m))
def Pj (ha)(hb:PE X b (tP rb)):PE X (.BinOp a .Add b pos) (tP (rO wL ra rb)):=dO (Kz.or xi yN) (λF H x y u v d Q s z hu hv q=>by
 cases z with
 | i=>show .inl #[_,_,hu,hv,tP.at s q rfl]
 | l h=>show .inr<|Z9 F H _ _ u v _ Q s (.mk h) hu hv q) ha hb
universe e
section
variable {X:Cx}{σ:St}{H:Hp}{d:Addr}{ķ:ξ}
theorem Fz (X)(H H2:Hp)(d)(o)(ķ:ξ):Prop:=H2 d=!.frz o (.dK ķ)/\((H d=!.dK ķ/\H2=upd H d (.frz o (.dK ķ))/\NF X d)\/H2=H)
def Inv.fz2 (I)(hd:Rd H d (.dK ķ))(ho:s.heap.get? d=!ob):∃ H2,Inv X ñ σ H2 s/\Fz X H H2 d ob ķ:=by
 rcases hd with hd|⟨o,hd⟩
 ·show#[_,I.freeze hd ho,af,.inl #[hd,1,I.nf hd]]
 ·let#[h1,_]:=I.Jk d _ hd;rw[ho]at h1;cases h1;show#[H,I,hd,.inr rfl]
theorem Zw (X)(J)(tl:TE):TI:=λσ H R=>∃ Q:VK,tl σ H Q/\∀ x H1,Q x H1->∃ d ķ,x=.ref d/\Rd H1 d (.dK ķ)/\∀ o H2,Fz X H1 H2 d o ķ->R (J o d) H2
theorem AE (X)(tl:TE):TI:=λσ H R=>∃ Q:VK,tl σ H Q/\∀ x H1,Q x H1->∃ a,x=.ref a/\((∃ xs,Jq X.K H1 a xs/\R (Vy X.K a) H1)\/(∃ xs,LQ X.K H1 a xs/\R (Itt X.K a) H1)\/∃ ķ,Rd H1 a (.dK ķ)/\∀ o H2,Fz X H1 H2 a o ķ->R (Itk o a) H2)
def aw (hl:PE X l tl):PI X tg l (AE X tl):=by
 intro ñ s σ H R I h;let#[Q,hq,h]:=h;show Jx (hl ñ s σ H _ I hq) λv s1 gR=>?_;let#[x,H1,I1,r1,q1]:=gR;let#[a,ex,q]:=h x H1 q1;subst ex
 cases r1;let fr:∀ {H2:Hp} (I2:Inv X ñ σ H2 s1) (b:Addr),b∈[s1.heap.objs.size]->lf X ñ H2 b:=λI2 b hb=>by
  let e:b=s1.heap.objs.size:=by simpa using hb
  subst e;show I2.OZ (Fg _) (I2.Jk.fresh<|Fg _)
 rcases q with⟨xs,hq,q⟩|⟨xs,hq,q⟩|⟨ķ,hd,q⟩
 ·let#[its,rv,p,hz]:=I1.list hq;show HZ p.isList #[s1.heap.objs.size,[s1.heap.objs.size],_,_,H1,1,I1.kept λb o e=>Fc _ e,pP a _,#[_,Fx _ rfl,2],fr I1,q]
 ·let#[its,rv,p,hz]:=I1.tuple hq;show wpAny_pyIter_tuple p #[s1.heap.objs.size,[s1.heap.objs.size],_,_,H1,1,I1.kept λb o e=>Fc _ e,wR a _,#[_,Fx _ rfl,2],fr I1,q]
 ·let#[z,lo,vs,r,ob,es,ep,ho,c1,c2,c3,c4,c5]:=(hd.ok I1.Jk)
  let hsz:vs.length=es.size:=by rw[<- c4.length];simp
  show wpAny_pyIter_dict lo #[ob,es,ho,c1,c2,c3,c4,c5] ?_;rw[hsz];let#[H2,I2,fz]:=I1.fz2 hd ho;show#[s1.heap.objs.size,[s1.heap.objs.size],_,_,_,1,I2.kept λb o e=>Fc _ e,zG _ a ob c2,#[_,Fx _ rfl,2],fr I2,q ob H2 fz]
def nj (hl:PE X l tl)(Lu:attributeBase l "values" X.env (eval l X.env)=eval l X.env:=Ą)(Md):PI X tg (.Call (.Attribute l "values" apos) [] [] JI) (Zw X Yc tl):=by
 intro ñ s σ H R I h;let#[Q,hq,h]:=h;show wpAny_Call_method0_late Lu Md (Jx (hl ñ s σ H _ I hq) λv s1 gR=>?_);let#[x,H1,I1,r1,q1]:=gR;let#[d,ķ,e,hd,q]:=h x H1 q1;subst e
 cases r1;let#[z,lo,vs,r,ob,es,ep,ho,c1,c2,c3,c4,c5]:=(hd.ok I1.Jk)
 let hsz:vs.length=es.size:=by rw[<- c4.length];simp
 let da:s1.heap.DictAt _ d vs ep:=#[ob,es,ho,c1,c2,c3,c4,c5]
 show#["dict","dict.values",F.plainAttrs_dict,F.slot_dict_values,F.type_dict_values,da.dictOf.typeIs,λa e2=>?_,Hx rfl (PySem.evalArgs_none ?_)]
 ·cases e2;show#[ob,ho,c1.2.1]
 show call_meetsIn F.slot_dict_values da.dictOf.typeIs F.entry_dict_values (F.args_dict_values_1 _) (meets_dict_values _ d lo) #[#[vs,da.dictOf],?_];let#[H2,I2,fz]:=I1.fz2 hd ho;let I2:=I2.kept (t':=s1.toks) (h':=s1.heap.push { cls:=.type "dict_values",data:=.fields [.ref d].toArray }) λb o e=>Fc _ e;show wpAny_pyIter_values #[_,Fx _ rfl,2] (da.push _) ?_;rw[hsz];show#[_,[(s1.heap.push { cls:=.type "dict_values",data:=.fields [.ref d].toArray }).objs.size],_,_,_,1,I2.kept λb o e=>Fc _ e,zF _ d ob c2,#[_,Fx _ rfl,2],λb hb=>?_,q ob H2 fz];let e:b=(s1.heap.push { cls:=.type "dict_values",data:=.fields [.ref d].toArray }).objs.size:=by simpa using hb
 subst e;show I2.OZ (Fg _) (I2.Jk.fresh<|Fg _)
universe e
theorem KA (a:Addr)(o:HO)(F:Hp):Hp:=λb=>if b=a/\F a≠none then some o else F b
section
variable {F:Hp}{a:Addr}{o o':HO}{ķ:ξ}
def bz (h:b≠a):KA a o F b=F b:=if_neg λz=>h z.1
def cy (h:F a≠none):KA a o F a=!o:=if_pos #[1,h]
def rQ (h:F a=none):KA a o F=F:=by funext b;show if_neg λz=>z.2 h
def cJ (s):f' (KA a o F) (KA a o H):=λb u q=>by
 by_cases z:b=a
 ·subst z;by_cases n:F b=none
  ·rw[rQ n,n]at q;cases q
  ·rw[cy n]at q;rw[cy (λm=>by cases y:F b with
    | none=>show n y
    | some w=>rw[s _ _ y]at m;cases m)]
   show q
 ·rw[bz z]at q ⊢;show s _ _ q
def NM:KA a o F b=none ↔ F b=none:=by
 by_cases z:b=a
 ·subst z;by_cases n:F b=none
  ·rw[rQ n]
  ·grind [cy]
 ·rw[bz z]
def m9 (h:F a=!o):KA a o (KA a o' F)=F:=by
 funext b;by_cases z:b=a
 ·subst z;rw[cy<|by grind [cy],h]
 ·rw[bz z,bz z]
theorem Sv (o:HO)(ķ:ξ):Prop:=o=.dK ķ\/∃ r,o=.frz r (.dK ķ)
def BD (h:F a=!o)(k:Sv o ķ)(k')(hr:Rd F b u)(hu:∀ r w,u≠.frz r w):Rd (KA a o' F) b u:=by
 by_cases z:b=a
 ·subst z;let:u=.dK ķ:=by
   rcases hr with hr|⟨r,hr⟩
   ·rw[h]at hr;cases hr;rcases k with k|⟨r,k⟩
    ·show k
    ·show absurd k (hu _ _)
   ·rw[h]at hr;cases hr;rcases k with k|⟨r,k⟩
    ·cases k
    ·cases k;rfl
  subst this;let e:KA b o' F b=!o':=cy (by rw[h];show nofun);rcases k' with rfl|⟨r,rfl⟩
  ·show .inl e
  ·show .inr #[r,e]
 ·unfold Rd;rw[bz z];show hr
mutual
def DR.KA (h:F a=!o)(k:Sv o ķ)(k'):∀ (d:D)(v:V),DR F d v->DR (KA a o' F) d v
 | .non,_,h=>h
 | .bl _,_,h=>h
 | .int _,_,h=>h
 | .str _,_,h=>h
 | .lst l,_,q=>let ⟨b,vs,q1,q2,q3⟩:=q;#[b,vs,q1,by rw[bz (λz=>by subst z;rw[h]at q2;cases q2;rcases k with k|⟨_,k⟩ <;> cases k)];show q2,Jj.KA h k k' l vs q3]
 | .scr l,_,q=>let ⟨b,vs,q1,q2,q3⟩:=q;#[b,vs,q1,BD h k k' q2 λ_ _=>nofun,Jj.KA h k k' l vs q3]
 | .tup l,_,q=>let ⟨b,vs,q1,q2,q3⟩:=q;#[b,vs,q1,by rw[bz (λz=>by subst z;rw[h]at q2;cases q2;rcases k with k|⟨_,k⟩ <;> cases k)];show q2,Jj.KA h k k' l vs q3]
 | .dct _ l,_,q=>let ⟨b,vs,q1,q2,q3,q4⟩:=q;#[b,vs,q1,BD h k k' q2 λ_ _=>nofun,q3,Jj.KA h k k' l _ q4]
 | .ins _ _ l,_,q=>let ⟨b,dx,vs,q1,q2,q3,q4⟩:=q;#[b,dx,vs,q1,by rw[bz (λz=>by subst z;rw[h]at q2;cases q2;rcases k with k|⟨_,k⟩ <;> cases k)];show q2,q3,Jj.KA h k k' l _ q4]
def Jj.KA (h:F a=!o)(k:Sv o ķ)(k'):∀ (l:List D)(vs:List V),Jj F l vs->Jj (KA a o' F) l vs
 | [],_,h=>h
 | d::l,_,q=>let ⟨v,ws,q1,q2,q3⟩:=q;#[v,ws,q1,DR.KA h k k' d v q2,Jj.KA h k k' l ws q3]
end
def jp (h:H a=!o):upd H a o'=KA a o' H:=by
 funext b;by_cases z:b=a
 ·subst z;rw[af,cy (by rw[h];show nofun)]
 ·rw[a8 z,bz z]
def Sd.KA (S:Sd F σ H ε)(h:F a=!o)(k:Sv o ķ)(k'):Sd (L2.KA a o' F) σ (L2.KA a o' H) ε:=#[cJ S.le,S.len,λi d q=>let ⟨v,x,y⟩:=S.rd i d q;#[v,x,y.KA h k k']]
theorem pK (kv:Key×D):D:=kD kv.1
def CC {ð:ι}(h:F a=!.frz ob (.dK ķ))(h1:ķ.map (·.1)=ð.map (·.1)):RC F (Itk ob a) (ð.map pK):=
 #[λH i d s e=>by
  rw[Fb]at e
  cases z:ð[i]? with
  | none=>rw[z]at e;cases e
  | some kd=>
   rw[z]at e;cases e;let:(ķ.map (·.1))[i]?=!kd.1:=by simp_all
   rw[Fb]at this
   cases y:ķ[i]? with
   | none=>simp_all
   | some kv=>
    rw[y]at this;let e1:kv.1=kd.1:=Option.some.inj this;show#[#[ķ,kv,s _ _ h,y],fun x H' ⟨e2,e3⟩=>#[e2▸f'.refl _,?_]];let#[kv',e4,1]:=e3 ķ<|s _ _ h;rw[y]at e4;cases e4;rw[e1];unfold pK;cases kd.1 <;> rfl,λH i s z=>#[ķ,s _ _ h,by let:=congrArg List.length h1;simp at this z;lia]]
def Zo {ð:ι}(h:F a=!.frz ob (.dK ķ))(h2:Jj F Ř Ł):RC F (Yc ob a) Ř:=
 #[λH i d s e=>by
  let#[v,e1,e2]:=h2.at e;rw[Fb]at e1
  cases y:ķ[i]? with
  | none=>simp_all
  | some kv=>
   rw[y]at e1;cases e1;show#[#[ķ,kv,s _ _ h,y],fun x H' ⟨NH,e3⟩=>#[NH▸f'.refl _,?_]];let#[kv',e4,1]:=e3 ķ<|s _ _ h;rw[y]at e4;cases e4;subst NH;show e2.mono<|aj s,λH i s z=>#[ķ,s _ _ h,by let:=h2.length;simp at this z;lia]]
universe e
theorem Dy (J)(pr:Key×D->D):Prop:=∀ {F:Hp}{a:Addr}{ob:Obj}{ķ:ξ}{ð:ι},F a=!.frz ob (.dK ķ)->ķ.map (·.1)=ð.map (·.1)->Jj F Ř Ł->RC F (J ob a) (ð.map pr)
def vK:Dy Itk pK:=λh h1 _=>CC h h1
def vJ:Dy Yc (·.2):=λh _ h2=>Zo h h2
inductive Itm:D->List D->Prop
 |l {x:D}{l:χ}:Sq x l->Itm x l
 |t {l:χ}:Itm (.tup l) l
 |k {ð:ι}:Itm (Km ð) (ð.map pK)
inductive Sb (r:Rx) (ε:En) (l:χ):Prop
 |mk {d:D}:r ε d->Itm d l->Sb r ε l
inductive rVs (r:Rx) (ε:En) (l:χ):Prop
 |mk {ð:ι}:r ε (Km ð)->l=ð.map (·.2)->rVs r ε l
section
variable {X:Cx}{K:Ψ}
def Vk (h:F a=!.tup vs)(q:Jj F l vs):RC F (Itt K a) l:=
 #[λH i d s e=>let ⟨v,e1,e2⟩:=q.at e;#[#[vs,v,LQ.of<|s _ _ h,e1],λx H' ⟨z,y⟩=>#[z▸f'.refl _,by let:=y vs<|LQ.of (s _ _ h);rw[e1]at this;cases this;show e2.mono<|aj s]],λH i s z=>#[vs,LQ.of<|s _ _ h,by rw[q.length];show z]]
theorem Ud (X)(Q):VK:=λv H'=>(∃ a o ķ,NF X a/\H' a=!.frz o (.dK ķ)/\Q v (upd H' a (.dK ķ)))\/Q v H'
def yz {ð:ι}{os:List (Option D)}(hJ:Dy J pr)(S1:Sd F1 σ H1 ε)(p1:Rd F1 a (.dK ķ))(p2)(p3)(fz)(h2:(ð.map pr).length<=1000)(h3:Paired (Tn n (js.map λj=>(ε[j]?).join) rt re) (ð.map pr) os)(q:∀ b H4,f' H1 H4->DR (grow F1 H1 H4) (.lst (os.filterMap id)) (.ref b)->Q (.ref b) H4):gn (lV n) js (oh K n) (NL rt) (tP re) σ (λb H'=>Ud X Q (.ref b) H') (J o a) H2:=by
 let#[f1,f2]:=fz;rcases p1 with p1|⟨r,p1⟩
 ·let UC:=S1.le _ _ p1;rcases f2 with⟨_,f2,nf⟩|f2
  ·let S2:=S1.KA p1 Ń<|.inr #[o,1];let eF:KA a _ F1 a=!(.frz o<|.dK ķ):=cy (by rw[p1];show nofun);rw[jp UC]at f2;subst f2;show qc S2 (hJ eF p2<|p3.KA p1 (.inl rfl) (.inr ⟨o,rfl⟩)) h2 h3 λb H3 vs e3 hb hv hd=>.inl #[a,o,ķ,nf,e3 _ _ f1,?_];rw[jp<|e3 _ _ f1];let e4:f' H1 (KA a (.dK ķ) H3):=by let:=cJ (a:=a) (o:=.dK ķ) e3;rwa [m9 UC]at this
   show q _ _ e4 (((jE hb hv hd).KA (aj S2.le _ _ eF) (.inr #[o,1])<|.inl rfl).mono λc w y=>?_);by_cases z:c=a
   ·subst z;rw[cy (by rw[aj S2.le _ _ eF];show nofun)]at y;show aj S1.le _ _ (p1.trans y)
   ·rw[bz z]at y;unfold grow at y ⊢;rw[bz z,bz z]at y;rw[bz z];show y
  ·simp_all
 ·let UC:=S1.le _ _ p1;rcases f2 with⟨f2,_⟩|f2
  ·simp_all
  ·subst f2;rw[UC]at f1;cases f1;show qc S1 (hJ p1 p2 p3) h2 h3 λb H3 vs e3 hb hv hd=>.inr (q _ H3 e3<|jE hb hv hd)
def PE.Ud {e:Expr}{t t':TE} (h:PE X e t) (k:∀ σ H Q,t' σ H Q->t σ H (Ud X Q)):PE X e t':=λñ s σ H Q I q=>Jx (h ñ s σ H _ I<|k _ _ _ q) λu s' gR=>by
 let#[v,H',I',r',z]:=gR;rcases z with⟨a,o,ķ,nf,e,q⟩|q
 ·show#[v,_,I'.VH e nf,r',q]
 ·show#[v,H',I',r',q]
def dLv (n)(hc)(S:bE X scope (lV n) js N')(hi:PI X tg iter (Zw X Yc (tP rd)))(hg:∀ cells C s H fp,PG ģ tg (oh X.K n))(ht:∀ cells C s H fp,Nk ģ ifs (NL rt))(he:∀ cells C s H fp,PE ģ elt (tP re))(hs):PE X (.ListComp elt [#[tg,iter,ifs,(0)]] scope pos) (tP (rL n js (rVs rd) rt re)):=
 (eL hc S hi hg ht he hs).Ud fun σ H Q ⟨F,ε,d,S,.mk (.mk (ð:=ð) h1 hl) h2 h3 h4,q⟩=>by subst hl h4;show#[λx H1=>f' H H1/\DR _ _ x,tP.go S h1 λx H1 e1 _ q1=>#[e1,q1],λx H1 gR=>(by let#[e1,a,ķ,ex,p1,p2,p3]:=gR;show#[a,ķ,ex,p1.mono (S.step e1).le,λo H2 fz=>yz vJ (S.step e1) p1 p2 p3 fz h2 h3 λb H4 e4 y=>q _ H4 (e1.trans e4)<|by rwa [ar e1 e4]at y])]
def BK (h:tP (rL n js (Sb rd) rt re) σ H Q):jr (AE X (tP rd)) (lV n) js (oh K n) (NL rt) (tP re) σ H (Ud X Q):=by
 obtain⟨F,ε,d,S,@⟨l,os,@⟨c,h1,hl⟩,h2,h3,h4⟩,q⟩:=h;subst h4;show#[λx H1=>f' H H1/\DR _ c x,tP.go S h1 λx H1 e1 _ q1=>#[e1,q1],λx H1 gR=>?_];let#[e1,hx]:=gR;let S1:=S.step e1;let fin:∀ b H4,f' H1 H4->DR (grow _ H1 H4) _ _->Q (.ref b) H4:=λb H4 e4 y=>q _ H4 (e1.trans e4) (by rwa [ar e1 e4]at y)
 cases hl with
 | l hl=>
  let#[a,vs,ex,ha,hv]:=hl.at hx;show#[a,ex,.inl #[vs,.inl<|ha.mono S1.le,qc S1 (yV ha hv) h2 h3 λb H3 vs e3 hb hv hd=>.inr<|fin b H3 e3 (jE hb hv hd)]]
 | t=>
  let#[a,vs,ex,ha,hv]:=hx;show#[a,ex,.inr<|.inl #[vs,LQ.of<|S1.le _ _ ha,qc S1 (Vk ha hv) h2 h3 λb H3 vs e3 hb hv hd=>.inr<|fin b H3 e3 (jE hb hv hd)]]
 | k=>
  let#[a,ķ,ex,p1,p2,p3]:=hx;show#[a,ex,.inr<|.inr ⟨ķ,p1.mono S1.le,λo H2 fz=>yz vK S1 p1 p2 p3 fz h2 h3 fin⟩]
def O8 (n)(hc)(S:bE X scope (lV n) js N')(hi:PI X tg iter (AE X (tP rd)))(hg:∀ cells C s H fp,PG ģ tg (oh X.K n))(ht:∀ cells C s H fp,Nk ģ ifs (NL rt))(he:∀ cells C s H fp,PE ģ elt (tP re))(hs):PE X (.ListComp elt [#[tg,iter,ifs,(0)]] scope pos) (tP (rL n js (Sb rd) rt re)):=(eL hc S hi hg ht he hs).Ud λ_ _ _ h=>BK h
universe e
def vF:typeLookup (.type "zip") "keys"=pure none:=by rw[typeLookup_type,builtinLookup_eq_fast];kernel_rfl
def ke:typeLookup (.type "zip") "__getattr__"=pure none:=by rw[typeLookup_type,builtinLookup_eq_fast];kernel_rfl
def gh:entryFor table "zip.__getattribute__"=some Builtin.«object.__getattribute__»:=
 entryFor_alias (id':="object.__getattribute__") (by kernel_rfl) (by decide +kernel) (by decide +kernel) (by kernel_rfl)
def nU (a:Addr)(vs:Ò)(name:Str)(u:Tok)(a58:typeLookup (.type "zip") name=pure none)(ZW:(["__module__","__name__","__qualname__","__doc__","__annotations__"]:η).contains name=false)(hsz:name.length+100<=sizeLine:=Ď):
  Meets (Builtin.«object.__getattribute__» #[[.ref a,.str name u],[]]) (λA R s=>s.heap.get? a=!{ cls:=.type "zip",dict:=none,data:=.fields vs,slots:=[].toArray }/\raisesAttr (.ref a) name A R s):=
 Meets.of_wp λprog w A R s hs=>by
  let#[hp,g,d,tk,os]:=s;let#[hx,hs]:=hs;repeat (any_goals (first|assumption|wp_step))
  simp only[ZW,Hy,Iw];repeat (any_goals (first|assumption|wp_step))
  show wpAny_raiseAttrError hs.1 hs.2 (attrMsg_fits (by decide +kernel) hsz)
def wN (hx:s.heap.get? a=!{ cls:=.type "zip",dict:=none,data:=.fields vs,slots:=[].toArray })(hA)(h:∀ h' tk e,Heap.NewExcOf s.heap h' e "AttributeError"->Q none { s with heap:=h',toks:=tk }):wpAny Ġ A (getAttr? (.ref a) "keys") Q E s:=by
 let#[hp,g,d,tk,os]:=s;let hT:∀ Sy,(#[hp,g,d,Sy,os]:Ê).TypeIs (.ref a) "zip":=λ_=>#[_,hx,1]
 let f1:=sub_AttributeError;let f3:=F.slot_zip_getattribute.lookup;let f4:=F.slot_zip_getattribute.bind (.ref a);let f5:=ke;repeat (any_goals (first|assumption|show hT _|((with_reducible show (wpAny _ _ (call (Value.builtin "zip.__getattribute__") _ _) _ _ _));show Ip F.slot_zip_getattribute (hT _) gh (F.args_zip_getattribute_2 _ _) (nU a vs "keys" _ vF (by decide) (by size_fits)) ⟨hx,hA,λh' Sy e Ro=>?_⟩)|wp_step))
 let#[t',u',he]:=Ro.there;show (wpAny _ _ (getattributeRaised _ _ _ _ _ _ _) _ _ _);unfold getattributeRaised;repeat (any_goals (first|assumption|wp_step))
 show h _ _ _ Ro.of
def ud (ho:s.heap.get? a=!o)(h:Q (!o) s):wpAny Ġ A (loadIfAlive a) Q E s:=λΓ p _=>by
 unfold loadIfAlive
 simp_all
abbrev l9 (h:Heap)(z TI TO:Addr)(T:Nat)(b:Bool):Prop:=h.get? z=!{ cls:=.type "zip",dict:=none,data:=.fields [rawInt T,.bool b,.bool false,.ref TI,.ref TO].toArray,slots:=[].toArray }
def uc {TI TO:Addr}(hz)(hT)(h:∀ h',l9 h' z TI TO T true->Heap.SameBut z s.heap h'->Q false { s with heap:=h' }):
  wpAny Ġ A (Builtin.SmallTypes.ownedTupleIsFree (.ref z)) Q E s:=by
 show EX (IR hz rfl rfl ?_);show EX (ud hT ?_);show EX (IR hz rfl rfl ?_)
 cases b with
 | true=>show Ff (h _ hz #[1,λ_ _=>rfl])
 | false=>show EX (wpAny_setField_rec hz Ğ λh₁ hz₁ hs₁=>Ff<|h h₁ hz₁ hs₁)
def zA {TI TO:Addr}(D)(hz)(hT)(QU)(h1)(h2:s.heap.IsListIter i2 l2 k2)(OB)(Q2)(hx:xs[k1]?=!x)(hy:ys[k2]?=!y)(hQ:∀ h',l9 h' z TI TO T true->h'.IsListIter i1 l1 (k1+1)->h'.IsListIter i2 l2 (k2+1)->IsPair h' s.heap.objs.size x y->h'.objs.size=s.heap.objs.size+1->
   (∀ c o,c≠z->c≠i1->c≠i2->s.heap.get? c=!o->h'.get? c=!o)->Q (!.ref s.heap.objs.size) { s with heap:=h' }):
  wpAny Ġ A (pyNext (.ref z)) Q E s:=by
 let hTy:s.TypeIs (.ref z) "zip":=#[_,hz,1]
 show EX (wpAny_attempt<|Hq hTy F.slot_zip_next (HJ F.slot_zip_next hTy F.entry_zip_next ?_<|F.args_zip_next_1 _));change wpAny _ _ (field _ 2 >>= _) _ _ _;show EX (IR hz rfl rfl ?_);show EX (IR hz rfl rfl ?_);show EX (wpAny_seqItems QU rfl ?_);show EX (uc hz hT λh₁ hz₁ hs₁=>?_);show EX ?_;show EX<|EX (GC ?_);show EX (wpAny_nextOf_list_item (h1.extBut hs₁.extBut D.i1z) (OB.extBut hs₁.extBut D.l1z) hx λh₂ h1₂ hs₂=>Ff ?_);show Ff ?_;show EX<|EX (GC ?_);show EX (wpAny_nextOf_list_item ((h2.extBut hs₁.extBut D.i2z).extBut hs₂.extBut D.i12.symm) ((Q2.extBut hs₁.extBut D.l2z).extBut hs₂.extBut D.l2i1) hy λh₃ h2₃ hs₃=>Ff ?_);show Ff (Ff ?_);show EX (wpAny_newTuple ?_ (by change 2<=sizeLine;decide));let e3:h₃.objs.size=s.heap.objs.size:=by rw[hs₃.1,hs₂.1,hs₁.1]
 show Ff #[_,1,?_];show Ff ?_;let kp:∀ c o,c≠z->c≠i1->c≠i2->s.heap.get? c=!o->(h₃.push { cls:=.type "tuple",data:=.seq [x,y].toArray }).get? c=!o:=λc o c1 c2 c3 e=>Fc _<|hs₃.extBut _ _ c3 (hs₂.extBut _ _ c2<|hs₁.extBut _ _ c1 e);let up:∀ c o,h₃.get? c=some o->(h₃.push { cls:=.type "tuple",data:=.seq [x,y].toArray }).get? c=some o:=λc o e=>Fc _ e;let hn:(h₃.push { cls:=.type "tuple",data:=.seq [x,y].toArray }).get? h₃.objs.size=!{ cls:=.type "tuple",data:=.seq [x,y].toArray }:=Fx _ rfl;rw[e3]at hn ⊢;show hQ _ (up _ _<|hs₃.extBut _ _ D.i2z.symm (hs₂.extBut _ _ D.i1z.symm hz₁)) ((h1₂.extBut hs₃.extBut D.i12).at λo e=>up _ o e) (h2₃.at λo e=>up _ o e) hn (by rw[Ij,e3]) kp
def Bg {TI TO:Addr}(hh)(D)(hz)(hT)(QU)(h1)(OB)(hx:xs[k1]?=none)(hQ:∀ h',(∀ c o,c≠z->c≠i1->s.heap.get? c=!o->h'.get? c=!o)->Q none { s with heap:=h' }):
  wpAny Ġ A (pyNext (.ref z)) Q E s:=by
 let hTy:s.TypeIs (.ref z) "zip":=#[_,hz,1]
 show EX (wpAny_attempt<|Hq hTy F.slot_zip_next (HJ F.slot_zip_next hTy F.entry_zip_next ?_<|F.args_zip_next_1 _));change wpAny _ _ (field _ 2 >>= _) _ _ _;show EX (IR hz rfl rfl ?_);show EX (IR hz rfl rfl ?_);show EX (wpAny_seqItems QU rfl ?_);show EX (uc hz hT λh₁ hz₁ hs₁=>?_);show EX ?_;show EX<|EX (GC ?_);show EX (wpAny_nextOf_list_end hh (h1.extBut hs₁.extBut D.i1z) (OB.extBut hs₁.extBut D.l1z) hx λh₂ e hs₂ he=>?_);let#[o,ho,hc]:=he;show EX (wpAny_isInstance #[o,ho,hc] isSubtype_stop ?_);show Ff (hQ _ λc o c1 c2 e=>hs₂ _ _ c2<|hs₁.extBut _ _ c1 e)
structure ZS (h:Heap) (z TI TO i1 i2 l1 l2 d:Addr) (k:Nat):Prop where
 zok:(IsZip h z TI TO .none/\∃ a b,IsPair h TO a b) \/ ∃ T b o,l9 h z TI TO T b/\h.get? T=!o/\T≠z/\T≠TO/\T≠i1/\T≠i2/\T≠d
 QU:IsPair h TI (.ref i1) (.ref i2)
 h1:h.IsListIter i1 l1 k
 h2:h.IsListIter i2 l2 k
def wM {TI TO:Addr}(D)(Z)(hd:d<s.heap.objs.size)(OB)(Q2)(hx:xs[k]?=!x)(hy:ys[k]?=!y)(hQ:∀ h',ZS h' z TI TO i1 i2 l1 l2 d (k+1)->IsPair h' s.heap.objs.size x y->(∀ c o,c≠z->c≠TO->c≠i1->c≠i2->s.heap.get? c=!o->h'.get? c=!o)->Q (!.ref s.heap.objs.size) { s with heap:=h' }):
  wpAny Ġ A (pyNext (.ref z)) Q E s:=by
 let#[hz,QU,h1,h2]:=Z;let zl:∀ {c:Addr}{o:Obj},s.heap.get? c=!o->s.heap.objs.size≠c:=λe=>GT<|FD e;let#[o1,e1,_]:=id h1;let#[o2,e2,_]:=id h2;rcases hz with⟨hz,a,b,X3⟩|⟨T,b,o,hz,hT,t1,t2,t3,t4,t5⟩
 ·show wpAny_pyNext_zip_item D hz QU X3 h1 h2 OB Q2 hx hy λh' a1 a2 a3 a4 a5 a6 a7=>hQ h' #[.inr #[_,false,_,a1,a5,zl hz,zl X3,zl e1,zl e2,GT hd],a7 _ _ D.TIz D.TITO D.TIi1 D.TIi2 QU,a3,a4] a5 a7
 ·show zA D hz hT QU h1 h2 OB Q2 hx hy λh' a1 a3 a4 a5 a6 a7=>hQ h' #[.inr #[T,true,o,a1,a7 _ _ t1 t3 t4 hT,t1,t2,t3,t4,t5],a7 _ _ D.TIz D.TIi1 D.TIi2 QU,a3,a4] a5 λc o c1 _ c3 c4 e=>a7 c o c1 c3 c4 e
def zy {TI TO:Addr}(hh)(D)(Z)(OB)(Q2)(hx:xs[k]?=none)(hQ:∀ h',(∀ c o,c≠z->c≠TO->c≠i1->c≠i2->s.heap.get? c=!o->h'.get? c=!o)->Q none { s with heap:=h' }):
  wpAny Ġ A (pyNext (.ref z)) Q E s:=by
 let#[hz,QU,h1,h2]:=Z;rcases hz with⟨hz,a,b,X3⟩|⟨T,b,o,hz,hT,_⟩
 ·show wpAny_pyNext_zip_end hh D hz QU X3 h1 h2 OB Q2 (.inl hx) hQ
 ·show Bg hh D hz hT QU h1 OB hx λh' kk=>hQ h' λc o c1 _ c3 _ e=>kk c o c1 c3 e
section
variable {prog:É}{w:World}{κ:Type}[DecidableEq κ]{knd:KeyKind prog w κ}
theorem Dv (knd)(xs ys:Ò)(ps:List (κ×Value)):Prop:=xs.size=ps.length/\∀ (i:Nat) p,ps[i]?=!p->∃ u,xs[i]?=!u/\ys[i]?=!p.2/\knd.is p.1 u=true
def Yd {TI TO:Addr}{ps:List (κ×Value)}(hh)(Vp)(D)(hp:Dv knd xs ys ps)(nd:d≠z/\d≠TI/\d≠TO/\d≠i1/\d≠i2/\d≠l1/\d≠l2)(R:Result->Shared->Prop):
  ∀ (n i:Nat)(s:Ê),n=ps.length - i->i<=ps.length->ZS s.heap z TI TO i1 i2 l1 l2 d i->s.heap.IsList l1 xs->s.heap.IsList l2 ys->s.heap.DictOf knd d (merged [] (ps.take i))->
   (∀ h' tk,h'.DictOf knd d (merged [] ps)->(∀ b o,b≠d->b≠z->b≠TO->b≠i1->b≠i2->s.heap.get? b=!o->h'.get? b=!o)->R (.ok (.ret .none)) { s with heap:=h',toks:=tk })->
   codeAny Ġ A (.builtin "dict.update.loop" #[[.ref d,.ref z,rawInt i,.none],[]]) R s:=by
 let#[dz,dTI,dTO,di1,di2,dl1,dl2]:=nd;let lk:∀ {h h':Heap}{l:Addr}{vs:Ò},h.IsList l vs->(∀ o,h.get? l=!o->h'.get? l=!o)->h'.IsList l vs:=λgR k=>by let#[o,ho,r]:=gR;show#[o,k o ho,r]
 intro n
 induction n with
 | zero=>
  intro i s hn hi Z OB Q2 hd h;let ei:i=ps.length:=#[]
  show codeAny_builtin eS ?_;show EX (zy hh D Z OB Q2 (Array.getElem?_eq_none (by rw[hp.1];lia)) λh' ext=>?_);let#[o,es,ep,ho,r]:=hd;show EX (Ff<|Ff (h h' _ ⟨o,es,ep,ext d o dz dTO di1 di2 ho,by rw[ei,FF]at r;show r⟩ λb o _ b1 b2 b3 b4 hb=>ext b o b1 b2 b3 b4 hb))
 | succ n ih=>
  intro i s hn hi Z OB Q2 hd h;let Ml:i<ps.length:=#[]
  obtain⟨p,ep⟩:∃ p,ps[i]?=!p:=#[_,EW Ml]
  let#[u,ex,ey,hk]:=hp.2 i p ep;show codeAny_builtin eS ?_;let hdl:d<s.heap.objs.size:=by let#[o,_,_,ho,_]:=hd;show FD ho
  show EX (wM D Z hdl OB Q2 ex ey λh1 Z1 ht NZ=>?_);let U3:h1.DictOf knd d (merged []<|ps.take i):=by let#[o,es,ep,ho,r]:=hd;show#[o,es,ep,NZ d o dz dTO di1 di2 ho,r]
  show EX (GC<|EX (wpAny_tryCatch ?_));show EX (II #[_,ht,1] ?_);show EX<|wpAny_seqItems ht rfl (Ff ?_);let ZZ:(merged []<|ps.take i).length<=sizeLine:=by
   let h1:=merged_length_le ([])<|ps.take i;rw[Fh]at h1;let h2:sizeLine=2 ^ 24:=rfl;simp only[HB]at h1
   lia
  show GC (wpAny_dictSet_pairs hk U3 λh2 hd2 sb2=>?_);let Ls:∀ b o,b≠d->h1.get? b=!o->h2.get? b=!o:=λb o hb e=>(sb2.2 b hb).trans e;show Ff #[Hw _<|by decide +kernel,?_];show ih (i+1) { s with heap:=h2,toks:=s.toks+1 } #[] #[] ?_ (lk OB λo e=>Ls _ o dl1.symm<|NZ _ o D.l1z D.l1TO D.l1i1 D.l1i2 e) (lk Q2 λo e=>Ls _ o dl2.symm<|NZ _ o D.l2z D.l2TO D.l2i1 D.l2i2 e) ?_ λh' tk h3 h4=>h h' tk h3 λb o b0 b1 b2 b3 b4 hb=>h4 b o b0 b1 b2 b3 b4 (Ls b o b0<|NZ b o b1 b2 b3 b4 hb)
  ·let#[zk,q1,q2,q3]:=Z1;show#[?_,Ls _ _ dTI.symm q1,q2.at λo e=>Ls _ o di1.symm e,q3.at λo e=>Ls _ o di2.symm e];rcases zk with⟨a1,a,b,a2⟩|⟨T,b,o,a1,a2,t1,t2,t3,t4,t5⟩
   ·show .inl #[Ls _ _ dz.symm a1,a,b,Ls _ _ dTO.symm a2]
   ·show .inr #[T,b,o,Ls _ _ dz.symm a1,Ls _ _ t5 a2,t1,t2,t3,t4,t5]
  ·rw[merged_take_succ _ _ i p ep];show hd2
def wB {TI TO:Addr}{ps:List (κ×Value)}(hh)(D)(hz:IsZip s.heap z TI TO .none)(QU)(X3:IsPair s.heap TO .none .none)(h1:s.heap.IsListIter i1 l1 0)(h2:s.heap.IsListIter i2 l2 0)(OB)(Q2)(hp:Dv knd xs ys ps)(Vp)(h:∀ h' tk,h'.DictOf knd s.heap.objs.size (merged [] ps)->(∀ b o,b≠z->b≠TO->b≠i1->b≠i2->s.heap.get? b=!o->h'.get? b=!o)->Q KB { s with heap:=h',toks:=tk }):
  wpAny Ġ A (call KF [.ref z]) Q E s:=by
 let ls:∀ {c:Addr}{o:Obj},s.heap.get? c=!o->s.heap.objs.size≠c:=λe=>GT<|FD e;show callType_codes (Q₁:=λobj s₁=>obj=.ref s.heap.objs.size/\s₁={ s with heap:=s.heap.push Ĝ }) F.kt_called_dict (F.kt_typeCall_dict_1 _) F.entry_dict_init (kt_code_dict_new _ #[2]) ?_;rintro obj s₁ ⟨rfl,rfl⟩;let LO:(s.heap.push Ĝ).DictOf knd s.heap.objs.size []:=Heap.DictOf.new s.heap;let hz':=Fc Ĝ hz;show#[LO.typeIs,F.args_dict_init_2 _ _,?_];show EX ?_;show EX (Il LO.typeIs ?_);show Ff ?_;show EX (II #[_,hz',1] ?_);show EX (wN hz' hh λg1 Yo e1 ne1=>?_);let LU:=λb o e=>ne1.keeps b o<|Fc _ e;show EX (wpAny_rule ?_);show EX (wpAny_pyIter_zip (LU _ _ hz) ?_);show Ff #[Hw _<|by decide +kernel,?_];let U3:g1.DictOf knd s.heap.objs.size []:=by let#[o,es,ep,ho,r]:=LO;show#[o,es,ep,ne1.keeps _ _ ho,r]
 let lk:∀ {l:Addr}{vs:Ò},s.heap.IsList l vs->g1.IsList l vs:=λgR=>by let#[o,ho,r]:=gR;show#[o,LU _ o ho,r]
 let#[p1,q1,_]:=id h1;let#[p2,q2,_]:=id h2;let#[p3,q3,_]:=id OB;let#[p4,q4,_]:=id Q2;show Yd (A:=A.in1) hh Vp D hp #[ls hz,ls QU,ls X3,ls q1,ls q2,ls q3,ls q4] _ ps.length 0 { s with heap:=g1,toks:=Yo } #[] (FR _) #[.inl #[LU _ _ hz,_,_,LU _ _ X3],LU _ _ QU,h1.at λo e=>LU _ o e,h2.at λo e=>LU _ o e] (lk OB) (lk Q2) (by show U3) λh' tk hD keep=>?_;show#[1,h h' tk hD λb o b1 b2 b3 b4 e=>keep b o (ls e).symm b1 b2 b3 b4<|LU b o e]
universe e
theorem tDZ (K)(ta:TA):TE:=λσ H Q=>ta σ H λvs H1=>∃ a b ķ,vs=[.ref a,.ref b]/\Jq K H1 a Ś/\Jq K H1 b Ł/\ķ.length<=1000/\Lj H1 ŵ Q
def mJ:∀ {ķ:ξ}{us vs:θ},Vals Ś us->Vals Ł vs->∃ ps:List (Key×Value),KV ķ ps/\us.length=ps.length/\∀ (i:Nat) p,ps[i]?=!p->∃ u,us[i]?=!u/\vs[i]?=!p.2/\(aN P w).is p.1 u=true:=by
 intro ķ
 induction ķ with
 | nil=>intro us vs h h';cases h;cases h';show#[[],.nil,1,λi p h=>by simp at h]
 | cons kv ķ ih=>
  intro us vs h h'
  cases h with
  | @cons _ u _ _ ru r=>
   cases h' with
   | @cons _ v _ _ rv r'=>
    let#[ps,k1,k2,k3]:=ih r r';show#[(kv.1,v)::ps,.cons #[1,rv] k1,by simp[k2],λi p h=>?_]
    cases i with
    | zero=>
     let h:(kv.1,v)=p:=by simpa using h
     subst h;show#[u,2,jI ru]
    | succ i=>show k3 i p M8
def xb (K)(hc)(hgD:Gl X "dict")(hmD:X.mg "dict"=none)(hgZ:Gl X "zip")(hmZ:X.mg "zip"=none)(ha:PA X [e1,e2] ta)(hK)(hs:ě X e1 e2:=Ą)(PZ):
  PE X (.Call (.Name "dict" p) [.Call (.Name "zip" p2) [e1,e2] [] p3] [] pos) (tDZ K ta):=by
 subst hK;intro ñ s σ H Q I h;show GB (ga I hgD hmD PyProof.Rows.boot_dict ?_);show Gx ?_;show Calls.spliced_cons ?_;show GB<|ga I hgZ hmZ wC (Gx (Jx (ha p3 ñ s σ H _ I h) λus s1 gR=>?_) (by rw[hs,PZ]) (by rw[PZ];rfl));let#[vs,H1,I1,r1,q1]:=gR;let#[a,b,ķ,e,hx,hy,hz,q]:=q1;subst e;let#[u1,u2,1,r,r']:=Bm r1
 cases r
 cases r';let#[its,rv,p1,_]:=I1.list hx;let#[Mj,V4,p2,_]:=I1.list hy;let#[ps,k1,k2,k3]:=mJ rv V4;let WX:=KV.length k1;show call_zip_2 p1.isList p2.isList λh' a1 a2 a3 a4 a5 a6 a7=>?_;show Ff ?_;let lt:∀ {c:Addr}{o:Obj},s1.heap.get? c=!o->@LT.lt Nat _ c s1.heap.objs.size:=λe=>FD e;let#[oa,ea,ra]:=id p1.isList;let#[ob,eb,rb]:=id p2.isList;let la:=lt ea;let lb:=lt eb;show wB (ps:=ps) Ŋ #[?_,?_,?_,?_,?_,?_,?_,?_,?_,?_,?_,?_,?_,?_,?_,?_,?_,?_] a1 a2 a3 a4 a5 #[oa,a7 _ _ ea,ra] #[ob,a7 _ _ eb,rb] #[by simp_all,λi p h1=>by simpa using k3 i p h1] #[] λRy tk hD keep=>?_;all_goals try (intro z;let z':=z;lia)
 let RQ:(b6 [] ķ).length<=sizeLine:=by let h1:=cq ķ [];rw[HB]at h1;rw[IT];lia
 let le:@LE.le Nat _ s1.heap.objs.size h'.objs.size:=by rw[a6];lia
 show#[.ref h'.objs.size,_,I1.laid (λc o e=>?_) le ?_,1,q.at (I1.Jk.fresh le)]
 ·let:=lt e;show keep c o ?_ ?_ ?_ ?_<|a7 c o e;all_goals (intro z;let z':=z;lia)
 ·show#[RQ,IH.mpr<|GT (FY I1.big le),_,k1.merge .nil,hD]
def BB (F:Jy X.prog X.w X.K X.mg X.base (Oa X.prog X.w) k f fd ps sp)(hr)(hb:Binds X.K fd ps ds)(hd)(hx:rB X W)(I)(r:Vals vs us)(h:sp (vs++dvs) H Q (W σ)):wpAny X.Ę X.A (call (.ref f) us) Ŏ X.xe s:=by
 let r2:=r.append hd;let hl:(us++ds).length=ps.length:=by rw[<- r2.length];show F.len _ _ _ _ h
 show wpAny_call (HK (F.run X.A X.stack s H #[us,[]] _ _ Q _ hr I.Tj (hb s us I.LY hl) r2 h) λr s' hq=>?_)
 cases r with
 | error e=>show hx ñ σ H s e s' I hq
 | ok fl=>
  cases fl with
  | ret u=>show I.after hq
  | next=>show False.elim hq
  | brk=>show False.elim hq
  | cont=>show False.elim hq
def B7 (bs:Ð):(List.range bs.length).any (λi=>bs.getD i false)=bs.any id:=by
 let e:(List.range bs.length).map (λi=>bs.getD i false)=bs:=by show List.ext_getElem Ğ λi h1 h2=>?_;simp[h2]
 let:=List.any_map (f:=λi=>bs.getD i false) (l:=List.range bs.length) (p:=id);rw[e]at this;show this.symm
def B5 (K)(hc)(hK):JG X (.builtin "any") K3:=by
 subst hK;intro ñ s σ H xs us Q I r h;let#[p,bs,1,hq,q]:=h;let#[u,1,r1]:=dD r
 cases r1;let#[its,rv,pl,hz]:=I.list hq;let hlen:its.length=bs.length:=by let:=rv.length;rw[EV]at this;lia
 let hpn:p≠s.heap.objs.size:=by let#[_,_,e,_]:=pl;show Gg (FD e)
 show call_any_walk ?_;show HZ pl.isList ?_;show#[s.heap.objs.size,[s.heap.objs.size,p],[s.heap.objs.size],its.toArray.size,_,_,λi=>bs.getD i false,1,Walks.list (A:=X.A.in1) Ŋ _ p hpn its.toArray,#[#[_,Fx _ rfl,2],pl.isList.push _],λi v s' Q' E' hv hQ=>?_,λh' tk hk=>?_]
 ·let hv:its[i]?=!v:=by simpa using hv
  let hi:i<bs.length:=by rw[<- hlen];show (EY.mp hv).1
  let hb:(bs.map V.bl)[i]?=!V.bl bs[i]:=by simp_all
  let#[w1,e1,r1]:=rv.get hb;rw[hv]at e1;cases e1;obtain rfl:v=Value.bool bs[i]:=r1;dsimp only at hQ;rw[F7,EW hi]at hQ;show Hi hQ
 ·let e:its.toArray.size=bs.length:=by simp[hlen]
  rw[e,B7];show#[.bl _,H,I.kept λb o e=>hk b o (λz=>?_)<|Fc _ e,1,q];show absurd (FD e) Ħ
theorem a1d (P)(w)(K)(mg)(base)(k:Nat)(x)(ps)(dvs)(sp):Prop:=
 ∃ f fd ds,mg x=!.ref f/\W.keepIn K (.ref f)=true/\Binds K fd ps ds/\Vals dvs ds/\Jy P w K mg base (Oa P w) k f fd ps sp
theorem yp (sp)(dvs)(W:St->XK)(t:TA):TE:=λσ H Q=>t σ H λvs H1=>sp (vs++dvs) H1 Q (W σ)
def Ab (hx:rB X W)(D:a1d X.prog X.w X.K X.mg X.base k x ps dvs sp)(hr)(hg:Gl X x)(ha:PA X (e::es) t)(Mm)(he:Ĕ X e es:=Ą)(LM):
  PE X Ģ (yp sp dvs W t):=by
 let#[f,fd,ds,hm,hk,hb,hd,F]:=D;intro ñ s σ H Q I h;show GB (dj I hg hm ?_ Mm);show HV I.ok.mod.Ur hk (Jx ŷ fun us s1 ⟨vs,H1,I1,r,q⟩=>#[I1.LY,?_]) he LM;show BB F hr hb hd hx I1 r q
section
variable {x:Str}{p:Pos}{rs:Á}{K:Ψ}
def dB {id:String}(k:Cb R r)(hc:JG X (.builtin id) r)(hg:Gl X x)(hm:X.mg x=none)(hv:bootBuiltins x=!.builtin id)(ha:PA X (e::es) (LG rs))(hn)(Mm)(he:Ĕ X e es:=Ą)(LM):PE X Ģ (tP (rF R rs)):=(bY hc hg hm hv ha hn Mm he LM).imp λ_ _ _ h=>tP.cb k h
def Sn (k:Cb R r)(hc:JG X (.type T) r)(hg:Gl X x)(hm:X.mg x=none)(hv:bootBuiltins x=!.type T)(ha:PA X (e::es) (LG rs))(hn)(Mm)(he:Ĕ X e es:=Ą)(LM):PE X Ģ (tP (rF R rs)):=(du hc hg hm hv ha hn Mm he LM).imp λ_ _ _ h=>tP.cb k h
def Jj.put (hd:DR F d v):∀ {ð:ι}{ķ:ξ},ķ.map (·.1)=ð.map (·.1)->Jj F Ř Ł->
  (ķ.map λkv=>if kv.1=y then (kv.1,v) else kv).map (·.1)=(ð.map λkv=>if kv.1=y then (kv.1,d) else kv).map (·.1)/\Jj F ((ð.map λkv=>if kv.1=y then (kv.1,d) else kv).map (·.2)) ((ķ.map λkv=>if kv.1=y then (kv.1,v) else kv).map (·.2)):=by
 intro ð
 induction ð with
 | nil=>
  intro ķ h _
  cases ķ with
  | nil=>show#[2]
  | cons _ _=>cases h
 | cons p ð ih=>
  intro ķ h y'
  cases ķ with
  | nil=>cases h
  | cons q ķ=>
   let#[u,ws,q1,q2,q3]:=y';rw[Fk,Fk]at h;rw[Fk]at q1;injection h with h1 h2;injection q1 with q1 Uk;let#[i1,i2]:=ih h2<|Uk▸q3;simp only[Fk,h1];by_cases z:p.1=y
   ·rw[if_pos z,if_pos z];show#[by rw[i1],v,_,1,hd,i2]
   ·rw[if_neg z,if_neg z];show#[by rw[h1,i1],_,_,1,by simp_all,i2]
theorem ng (ð:ι)(y:Key)(d:D):ι:=if (ð.any λkv=>decide (kv.1=y))=true then ð.map (λkv=>if kv.1=y then (kv.1,d) else kv) else ð++[(y,d)]
theorem qV (ð:ι)(y:Key):ι:=ð.filter λkv=>decide (kv.1≠y)
theorem fe (ð more:ι):ι:=more.foldl (λacc kv=>ng acc kv.1 kv.2) ð
def EL {α β:Type}{l:List (Key×α)}{m:List (Key×β)}(h:l.map (·.1)=m.map (·.1)):(l.any λkv=>decide (kv.1=y))=m.any λkv=>decide (kv.1=y):=by
 let:∀ {γ:Type} (l:List (Key×γ)),(l.any λkv=>decide _)=(l.map (·.1)).any λk=>decide (k=y):=λl=>by rw[List.any_map];rfl
 rw[this,this,h]
def Vb (h:ķ.map (·.1)=ð.map (·.1))(k:Jj F Ř Ł)(hd:DR F d v):(dH ķ y v).map (·.1)=(ng ð y d).map (·.1)/\Jj F ((ng ð y d).map (·.2)) ((dH ķ y v).map (·.2)):=by
 unfold dH ng;rw[EL h];by_cases z:(ð.any λkv=>decide (kv.1=y))=true
 ·rw[if_pos z,if_pos z];show Jj.put hd h k
 ·rw[if_neg z,if_neg z];simp only[Fa,Fk,GE,h,true_and];show k.app (.one hd)
def jH:∀ {md:ι}{mv:ξ}{ð:ι}{ķ:ξ},mv.map (·.1)=md.map (·.1)->Jj F (md.map (·.2)) (mv.map (·.2))->ķ.map (·.1)=ð.map (·.1)->Jj F Ř Ł->
  (b6 ķ mv).map (·.1)=(fe ð md).map (·.1)/\Jj F ((fe ð md).map (·.2)) ((b6 ķ mv).map (·.2)):=by
 intro md
 induction md with
 | nil=>
  intro mv ð ķ h _ h' k
  cases mv with
  | nil=>show#[h',k]
  | cons _ _=>cases h
 | cons p md ih=>
  intro mv ð ķ h y' h' k
  cases mv with
  | nil=>cases h
  | cons q mv=>
   let#[u,ws,q1,q2,q3]:=y';rw[Fk,Fk]at h;rw[Fk]at q1;injection h with h1 h2;injection q1 with q1 Uk;let#[i1,i2]:=Vb (y:=p.1) h' k q2;let:=ih (ð:=ng ð p.1 p.2) (ķ:=dH ķ p.1 u) h2 (Uk▸q3) i1 i2;change (b6 (dH ķ q.1 q.2) mv).map (·.1)=_/\Jj F _ ((b6 (dH ķ q.1 q.2) mv).map (·.2));rw[h1,show q.2=u from q1];show this
def D3:∀ {ð:ι}{ķ:ξ},ķ.map (·.1)=ð.map (·.1)->Jj F Ř Ł->(lE ķ y).map (·.1)=(qV ð y).map (·.1)/\Jj F ((qV ð y).map (·.2)) ((lE ķ y).map (·.2)):=by
 intro ð
 induction ð with
 | nil=>
  intro ķ h _
  cases ķ with
  | nil=>show#[2]
  | cons _ _=>cases h
 | cons p ð ih=>
  intro ķ h y'
  cases ķ with
  | nil=>cases h
  | cons q ķ=>
   let#[u,ws,q1,q2,q3]:=y';rw[Fk,Fk]at h;rw[Fk]at q1;injection h with h1 h2;injection q1 with q1 Uk;let#[i1,i2]:=ih h2<|Uk▸q3;unfold lE qV at i1 i2 ⊢;rw[Gp,Gp,h1];by_cases z:p.1=y
   ·rw[if_neg<|by simp[z],if_neg<|by simp[z]];show#[i1,i2]
   ·rw[if_pos<|by simp[z],if_pos<|by simp[z]];simp only[Fk,i1,h1,true_and];show#[_,_,1,by simp_all,i2]
def WB {ð:ι}{ķ:ξ}(h:ķ.map (·.1)=ð.map (·.1)):Jj F (ð.map pK) Ś:=by
 let:∀ l:List Key,Jj F (l.map kD) (l.map kV):=λl=>by
  induction l with
  | nil=>rfl
  | cons y l ih=>show#[_,_,1,by cases y <;> rfl,ih]
 let e1:ð.map pK=(ð.map (·.1)).map kD:=by rw[F9];rfl
 let e2:Ś=(ķ.map (·.1)).map kV:=by rw[F9];rfl
 rw[e1,e2,h];show this _
def vN:∀ ms:Ξ,Jj F (ms.map .int) (ms.map V.int):=by
 intro r'
 induction r' with
 | nil=>
  show rfl
 | cons _ ms ih'=>
  show #[_,_,2,ih']
theorem prs (ð:ι):χ:=ð.map λkv=>.tup [kD kv.1,kv.2]
def Vc:∀ {ð:ι}{vs:π},Jj F (prs ð) vs->∃ ķ:ξ,ķ.map (·.1)=ð.map (·.1)/\Jj F Ř Ł/\Paired (λv (kv:Key×V)=>∃ t,v=.ref t/\F t=!.tup [kV kv.1,kv.2]) vs ķ:=by
 intro ð
 induction ð with
 | nil=>intro vs h;rw[show _=[] from h];show#[[],2,.nil]
 | cons p ð ih=>
  intro vs h;let#[v,ws,q1,#[a,us,q0,q2,u1,u2,q3,q4,u3,u4,q5,q6,q7],q8]:=h;let#[ķ,i1,i2,i3]:=ih q8;subst q0 q1 q5 q3
  cases q7;rw[lC q4]at q2;show#[(p.1,u3)::ķ,by simp_all,#[_,_,1,q6,i2],.cons #[a,1,q2] i3]
inductive KQ:Ä
 |s {x:D}{m:χ}:Xz x m->KQ [x] (.int m.length)
 |k {ð:ι}:KQ [Km ð] (.int ð.length)
def B3:JG X KK (λxs H Q=>(∃ p ys,xs=[.ref p]/\(Jq X.K H p ys\/LQ X.K H p ys)/\Q (.int ys.length) H)\/∃ d ķ,xs=[.ref d]/\Rd H d (.dK ķ)/\Q (.int ķ.length) H):=O2.or O3
def EI:Cb KQ (λxs H Q=>(∃ p ys,xs=[.ref p]/\(Jq K H p ys\/LQ K H p ys)/\Q (.int ys.length) H)\/∃ d ķ,xs=[.ref d]/\Rd H d (.dK ķ)/\Q (.int ķ.length) H):=λF H l xs d Q s z hx q=>by
 cases z with
 | s h=>show .inl (Xo F H _ xs _ Q s (.mk h) hx q)
 | k=>
  let#[v,ws,1,#[a,ķ,1,p1,p2,p3],1]:=hx;let:=congrArg List.length p2;simp at this;show .inr #[a,ķ,1,p1.mono s,by rw[this];show tP.at s q rfl]
inductive cLi:Ä
 |s {x:D}{m:χ}:Xz x m->cLi [x] (.lst m)
 |k {ð:ι}:cLi [Km ð] (.lst (ð.map pK))
def cW (hc):JG X Ş (λxs H Q=>(∃ p ys,xs=[.ref p]/\(Jq X.K H p ys\/LQ X.K H p ys)/\Lj H (.lst ys) Q)\/∃ d ķ,xs=[.ref d]/\Rd H d (.dK ķ)/\Lj H (.lst Ś) Q):=(listS X.K).or (pJ hc)
def fS:Cb cLi (λxs H Q=>(∃ p ys,xs=[.ref p]/\(Jq K H p ys\/LQ K H p ys)/\Lj H (.lst ys) Q)\/∃ d ķ,xs=[.ref d]/\Rd H d (.dK ķ)/\Lj H (.lst Ś) Q):=λF H l xs d Q s z hx q=>by
 cases z with
 | s h=>show .inl (EH F H _ xs _ Q s (.mk h) hx q)
 | k=>
  let#[v,ws,1,#[a,ķ,1,p1,p2,p3],1]:=hx;show .inr #[a,ķ,1,p1.mono s,jF s q λc G e z=>#[c,_,1,z,WB p2]]
inductive To:Ä
 |k {ð:ι}:To [Km ð] (Km (fe [] ð))
 |p {ð:ι}:ð.length<=1000->To [.lst (prs ð)] (Km (fe [] ð))
def cX (hc):JG X KF œ:=Pu.or (cu hc)
def i0:Cb To œ:=λF H l xs d Q s z hx q=>by
 cases z with
 | k=>
  let#[v,ws,1,#[a,ķ,1,p1,p2,p3],1]:=hx;show .inl #[a,ķ,1,p1.mono s,jF s q λc G e z=>let m:=jH p2 (p3.mono e) (ð:=[]) (ķ:=[]) rfl rfl;#[c,_,1,.inl z,m.1,m.2]]
 | p h3=>
  let#[v,ws,1,#[a,vs,1,p1,p2],1]:=hx;let#[ķ,i1,i2,i3]:=Vc p2;let:=congrArg List.length i1;simp at this;show .inr #[a,ķ,1,#[vs,s _ _ p1,Paired.Lg i3 λ_ _ gR=>(by let#[t,z1,z2]:=gR;show#[t,z1,s _ _ z2])],#[],jF s q λc G e z=>let m:=jH i1 (i2.mono e) (ð:=[]) (ķ:=[]) rfl rfl;#[c,_,1,.inl z,m.1,m.2]]
inductive cSo:Ä
 |k {ð:ι}{ns ms:Ξ}:ð.map (·.1)=ns.map (λn:Int=>(Sum.inl n:Key))->ns.length<64->(∀ PX:Ξ,PX.Perm ns->PX.Pairwise (·<=·)->PX=ms)->cSo [Km ð] (.lst (ms.map .int))
def y9:Cb cSo (λxs H Q=>∃ d ķ ns,xs=[.ref d]/\Rd H d (.dK ķ)/\ķ.map (·.1)=ns.map (λn:Int=>(Sum.inl n:Key))/\ns.length<64/\
  ∀ PX:Ξ,PX.Perm ns->PX.Pairwise (·<=·)->Lj H (.lst (PX.map V.int)) Q):=λF H l xs d Q s z hx q=>by
 let#[h3,h4,h5]:=z;let#[v,ws,1,#[a,ķ,1,p1,p2,p3],1]:=hx;show#[a,ķ,_,1,p1.mono s,p2.trans h3,h4,λPX a1 a2=>?_];rw[h5 PX a1 a2];show jF s q λc G e z=>#[c,_,1,z,vN _]
inductive rDz (rs:Á) (ε:En) (d:D):Prop
 |mk {ð:ι}:rs ε [.lst (ð.map pK),.lst Ř]->ð.length<=1000->d=Km (fe [] ð)->rDz rs ε d
def Bo:∀ {ð:ι}{vs us:π},Jj F (ð.map pK) vs->Jj F Ř us->∃ ķ:ξ,vs=ķ.map (λkv=>kV kv.1)/\us=ķ.map (·.2)/\ķ.map (·.1)=ð.map (·.1):=by
 intro r'
 induction r' with
 | nil=>
  intro _ _ h h';show #[[],h,h',1]
 | cons p ð ih'=>
  intro _ _ y2' y3';let#[v,ws,q1,q2,q3]:=y2';let#[u,us,q4,q5,q6]:=y3';let#[ķ,i1,i2,i3]:=ih' q3 q6;show#[(p.1,u)::ķ,by rw[q1,i1,lC q2];rfl,by rw[q4,i2];rfl,by simp_all]
inductive cMi:Ä
 |mk {ns:Ξ}{m:Int}:m∈ns->(∀ a∈ns,m<=a)->cMi [.lst (ns.map .int)] (.int m)
universe e
def PE.p (h:PE X e (tN re)):PE X e (tP re):=h.imp λ_ _ _=>tN.p
def DX {K:Ψ}(h:tN (rL n js ri rt re) σ H Q):jr (tI ri) (lV n) js (oh K n) (NL rt) (tP re) σ H Q:=by
 obtain⟨F,ε,d,S,@⟨l,os,h1,h2,h3,h4⟩,q⟩:=h;show#[F,ε,l,S,h1,λJ H1 e1 hJ=>qc (S.step e1) hJ h2 h3 λa H2 vs e2 ha hv hd=>?_];let n0:H a=none:=by cases y:H a with
  | none=>rfl
  | some o=>rw[e1 _ _ y]at ha;cases ha
 subst h4;show q a H2 Ň n0 #[vs,hv,hd.mono λb o y=>?_];unfold grow bc at y;by_cases z:b=a
 ·grind
 ·rw[bv z];unfold grow;by_cases w:H b=none
  ·rw[if_pos w]at y ⊢;by_cases w1:H1 b=none
   ·simp_all
   ·rw[if_neg w1]at y;show e2 _ _ y
  ·rw[if_neg w]at y ⊢;by_cases w1:H1 b=none
   ·cases y3:H b with
    | none=>show absurd y3 w
    | some o=>rw[e1 _ _ y3]at w1;cases w1
   ·rwa [if_neg w1]at y
section
variable {st:Stmt}{re rk:Rx}{K:Ψ}{i j:Nat}
def Xg:PE X (.Dict [] [] pos) (tN λ_ d=>d=Km []):=NW.imp λσ H Q gR p hp=>by let#[F,ε,d,S,h,q]:=gR;subst h;show q p _ (aQ Ĩ hp) hp #[[],af,2]
inductive rD1 (ra rb:Rx) (ε:En) (d:D):Prop
 |mk {k:Key}{x v:D}:ra ε x->x=kD k->rb ε v->d=Km [(k,v)]->rD1 ra rb ε d
def dD1 (ha)(hb:PE X b (tP rb)):PE X (.Dict [!a] [b] pos) (tN (rD1 ra rb)):=
 (yH (dJ ha hb yD) rfl rfl ń<|Im rfl).imp fun σ H Q ⟨F,ε,d,S,.mk (k:=k) h1 hk h2 h3,q⟩ p hp=>by
  subst hk;let S0:Sd F σ (upd H p<|.dK []) ε:=⟨λb o y=>by rw[a8 (λz=>by rw[z]at y;rw[S.le _ _ y]at hp;cases hp)];show S.le _ _ y,S.len,S.rd⟩
  show tP.go S0 h1 λx H1 e1 S1 q1=>tP.go S1 h2 λy H2 e2 S2 q2=>#[e2 _ _<|e1 _ _ af,[(k,y)],by rw[lC q1];rfl,Im rfl,?_]
  let e3:f' H (upd H2 p<|.dK (b6 [] [(k,y)])):=aY ((aQ Ĩ hp).trans<|e1.trans e2) hp;subst h3;show q p _ e3 hp ⟨[(k,y)],by rw[af];rfl,rfl,_,_,rfl,q2.mono λb o w=>?_,rfl⟩;rw[ar e1 e2]at w;unfold grow at w;by_cases z:b=p
  ·subst z;rw[if_neg<|by grind [af]]at w;rw[S.le _ _ w]at hp;cases hp
  ·rw[bv z];unfold grow;rw[a8 z]at w ⊢;show w
inductive VW (i:Nat) (rk re:Rx) (ε:Ev):Fl->Prop
 |mk {ð:ι}{k:Key}{x d:D}:ε[i]?=!.ow (Km ð)->ð.length<=1000->QJ re ε d->rk ĸ x->x=kD k->VW i rk re ε (.nx (ε.set i (.ow (Km (ng ð k d)))))
def qP (h:PS X st (V3 (rM i) (tP rk) te))(kt):QS X st (VW i rk re):=λF0 H0=>h.imp λE σ H gR=>by let#[F,ε,f,S,h,p]:=gR;obtain @⟨ð,k,x,d,h1,h2,h3,h4,hk⟩:=h;subst hk;show kt _ _ _ (h3.go S λx H1 F1 e1 u1 S1 q1=>?_);let#[a,p1,p2,p3,ķ,p4,p5,p6]:=S1.ro i _ h1;show#[_,p1,tP.go S1.a h4 λy H2 e2 _ q2=>#[a,_,1,lC q2▸Py.k (e2 _ _ p4) (HW (by let:=congrArg List.length p5;simp at this;rw[this];show h2)<|by decide +kernel),p σ _ F1 u1 ((S1.Kr e2).chg h1 p1 ?_)]];let#[i1,i2]:=Vb p5 p6 q1;show#[_,af,i1,i2]
inductive V7 (i j:Nat) (ε:Ev):Fl->Prop
 |mk {l:χ}{d:D}:ε[j]?=!.ow (.lst (l++[d]))->V7 i j ε (.nx ((ε.set j (.ow (.lst l))).set i (.fz d)))
inductive V8 (i j:Nat) (ε:Ev):Fl->Prop
 |mk {l:χ}{d:D}:ε[j]?=!.ow (.lst (d::l))->V8 i j ε (.nx ((ε.set j (.ow (.lst l))).set i (.fz d)))
def a2N (h:PS X st (jt (VO K "list" YO (rM j)) (bU i))):QS X st (V7 i j):=λF0 H0=>h.imp λE σ H gR=>by
 let#[F,ε,f,S,h,p]:=gR;obtain @⟨l,d,h1⟩:=h;let#[a,p1,p2,p3,vs,p4,p5]:=S.ro j _ h1;let hl:=p5.length;rw[Fj,Gf]at hl;let#[v,v1,v2]:=p5.at (i:=l.length) (d:=d) Ğ
 show#[_,p1,.inl #[1,vs,Jq.of p4],a,vs,v,2,p4,by rw[hl];show v1,p _ _ F Ĩ<|(S.chg (d:=.lst l) h1 p1 #[_,af,?_]).QH v2 i];let:=p5.take l.length;rw[List.take_left'  rfl]at this;rw[List.dropLast_eq_take,hl];show this
def YW (h:PS X st (jt (tBM K "list" BJ (rM j) (Bv (tC (.int 0)) wW)) (bU i))):QS X st (V8 i j):=λF0 H0=>h.imp λE σ H gR=>by let#[F,ε,f,S,h,p]:=gR;obtain @⟨l,d,h1⟩:=h;let#[a,p1,p2,p3,vs,p4,v,ws,1,p5,p6]:=S.ro j _ h1;show#[_,p1,.inl #[1,_,Jq.of p4],a,_,(0),(0),v,2,p4,by decide,by decide,by simp[seqIndex?],1,p _ _ F Ĩ<|(S.chg (d:=.lst l) h1 p1 #[_,af,by simpa using p6]).QH p5 i]
inductive SH (i:Nat) (rk:Rx) (ε:Ev):Fl->Prop
 |mk {ð:ι}{k:Key}{x v:D}:ε[i]?=!.ow (Km ð)->rk ĸ x->x=kD k->cI ð k=!v->SH i rk ε (.nx (ε.set i (.ow (Km (qV ð k)))))
def YX (h:PS X st (Bt (Bu (rM i) (tP rk)))):QS X st (SH i rk):=λF0 H0=>h.imp λE σ H gR=>by let#[F,ε,f,S,h,p]:=gR;obtain @⟨ð,k,x,v,h1,h2,hk,h3⟩:=h;subst hk;let#[a,p1,p2,p3,ķ,p4,p5,p6]:=S.ro i _ h1;let#[w,w1,_]:=(Jj.val p5 p6).2 v h3;let#[i1,i2]:=D3 p5 p6;show#[_,p1,a,1,.inl #[ķ,.inl p4],tP.go S.a h2 λy H2 e2 _ q2=>#[ķ,k,w,e2 _ _ p4,lC q2,w1,p σ _ F Ĩ<|(S.Kr e2).chg h1 p1 #[_,af,i1,i2]]]
inductive rSI (i:Nat) (rk re:Rx) (ε:Ev):Fl->Prop
 |mk {l:χ}{m:Nat}{k:Int}{d:D}:ε[i]?=!.ow (.lst l)->QJ re ε d->rk ĸ (.int k)->Sf l.length k=!m->rSI i rk re ε (.nx (ε.set i (.ow (.lst (l.set m d)))))
def qSI (h:PS X st (jt te (a0x (rM i) (tP rk) V6)))(kt):QS X st (rSI i rk re):=λF0 H0=>h.imp λE σ H gR=>by
 let#[F,ε,f,S,h,p]:=gR;obtain @⟨l,m,k,d,h1,h3,h4,h5⟩:=h;show kt _ _ _ (h3.go S λx H1 F1 e1 u1 S1 q1=>?_);let#[a,p1,p2,p3,vs,p4,p5]:=S1.ro i _ h1;show#[_,p1,tP.go S1.a h4 λy H2 e2 _ q2=>#[a,vs,k,m,1,q2,e2 _ _ p4,by rw[p5.length];show h5,p σ _ F1 u1<|(S1.Kr e2).chg h1 p1 #[_,af,?_]]];let:∀ {l:χ}{vs:π} (m:Nat),Jj F1 l vs->Jj F1 (l.set m d) (vs.set m x):=by
  intro l
  induction l with
  | nil=>intro vs m h;rw[h];rfl
  | cons e l ih=>
   intro vs m h;let#[v,ws,1,h1,h2]:=h
   cases m with
   | zero=>show#[_,_,1,q1,h2]
   | succ m=>show#[_,_,1,h1,ih m h2]
 show this m p5
inductive YU (i:Nat) (g:Int->Int->Int) (re:Rx) (ε:Ev):Fl->Prop
 |mk {x y:Int}:ε[i]?=!.fz (.int x)->re ĸ (.int y)->YU i g re ε (.nx (ε.set i (.fz (.int (g x y)))))
def W0 (h:PS X st (Yy i (tP re) (ipI g))):QS X st (YU i g re):=λF0 H0=>h.imp λE σ H gR=>by let#[F,ε,f,S,h,p]:=gR;obtain @⟨x,y,h1,h2⟩:=h;let#[v,v1,v2]:=S.rz i _ h1;show#[v,v1,tP.go S.a h2 λu H1 e1 _ q1=>#[x,y,v2,q1,p _ _ F Ĩ<|(S.Kr e1).QH (d:=.int _) rfl i]]
inductive rEx (re:Rx) (ε:Ev):Fl->Prop
 |mk {d:D}:re ĸ d->rEx re ε (.nx ε)
def qE (h:PE X e (tP re))(hs:swapsWith e none pos.line X.env=pure false:=Ą):QS X (.Expr e pos) (rEx re):=λF0 H0=>(aF h hs).imp λE σ H gR=>by let#[F,ε,f,S,h,p]:=gR;let#[h1]:=h;show tP.go S.a h1 λx H1 e1 _ q1=>p σ H1 F Ĩ (S.Kr e1)
inductive rTs (q:Ô) (re:Rx) (ε:Ev):Fl->Prop
 |mk {d:D}{ε':Ev}:re (ε.map Sl.z) d->q d ε ε'->rTs q re ε (.nx ε')
def qT (h:PS X st (jt (tP re) g))(hg:U6 g q):QS X st (rTs q re):=λF0 H0=>h.imp λE σ H gR=>by let#[F,ε,f,S,h,p]:=gR;let#[h1,h2]:=h;show tP.go S.z h1 λx H1 e1 _ q1=>hg _ _ _ _ _ _ _ _ x _ (S.grow e1) q1 h2 λσ' S'=>p σ' H1 _ (aj S.le) S'
universe e
def uu (h0:H0 a≠none->F0 a=!o)(hH:H a=!o):KA a o' (grow F0 H0 H)=grow (KA a o' F0) (KA a o' H0) (KA a o' H):=by
 funext b;by_cases z:b=a
 ·subst z;by_cases n:H0 b=none
  ·let e1:grow F0 H0 H b≠none:=by rw[aA n,hH];show nofun
   rw[cy e1,aA<|NM.mpr n,cy (by rw[hH];show nofun)]
  ·let e0:=h0 n;let e1:grow F0 H0 H b≠none:=by unfold grow;rw[if_neg n,e0];show nofun
   rw[cy e1];unfold grow;rw[if_neg λm=>n<|NM.mp m,cy (by rw[e0];show nofun)]
 ·rw[bz z];unfold grow;rw[bz z,bz z,bz z]
def gI (h:F a=none\/F a=!o):KA a o (KA a u F)=F:=by
 rcases h with h|h
 ·rw[rQ h,rQ h]
 ·show m9 h
def QB.KA (hF:F a=Option.some o)(k:Sv o ķ)(k')(hb:b≠a):QB F H d b->QB (L2.KA a o' F) (L2.KA a o' H) d b:=by
 cases d with
 | lst l=>rintro⟨vs,h,q⟩;show#[vs,by rw[bz hb];show h,q.KA hF k k']
 | dct ks l=>rintro⟨vs,h,h2,q⟩;show#[vs,by rw[bz hb];show h,h2,q.KA hF k k']
 | _=>show λz=>z.elim
def Ss.KA {a:Addr}(S)(hF:F a=!o)(k:Sv o ķ)(k'):Ss (L2.KA a o' F0) (L2.KA a o' H0) (L2.KA a o' F) σ (L2.KA a o' H) ε:=by
 let h0:=λn=>by let:=S.lo _ _ hF;unfold L2.grow at this;rwa [if_neg n]at this
 show#[cJ S.b0,cJ S.f0,cJ S.up,?_,S.len,λi d q=>?_,λi d q=>?_,S.ap]
 ·rw[<- uu h0 (S.le _ _ hF)];show cJ S.lo
 ·let#[v,v1,v2]:=S.rz i d q;show#[v,v1,v2.KA hF k k']
 ·let#[b,b1,b2,b3,b4]:=S.ro i d q;let hb:b≠a:=λz=>by grind
  show#[b,b1,by rw[bz hb];show b2,by rw[bz hb];show b3,b4.KA hF k k' hb]
section
variable {X:Cx}
theorem KU (X)(E:d9):d9 where
 nx:=λσ H=>(∃ a o ķ,NF X a/\H a=!.frz o (.dK ķ)/\E.nx σ (upd H a (.dK ķ)))\/E.nx σ H
 rt:=λv H=>(∃ a o ķ,NF X a/\H a=!.frz o (.dK ķ)/\E.rt v (upd H a (.dK ķ)))\/E.rt v H
def UX.KU {F0 H0 F:Hp}{E:d9}:∀ {f:Fl},UX F0 H0 F E f->UX F0 H0 F (KU X E) f
 | .nx _,h=>λσ H F' u S=>.inr (h σ H F' u S)
 | .rt _,h=>λx H a b c=>.inr (h x H a b c)
def SP.R8 (h:SP X ñ (KU X E) f s):SP X ñ E f s:=by
 cases f with
 | next=>
  obtain⟨σ,H,I,⟨a,o,ķ,nf,e,q⟩|q⟩:=h
  ·show#[σ,_,I.VH e nf,q]
  ·show#[σ,H,I,q]
 | ret v=>
  obtain⟨x,σ,H,I,r,⟨a,o,ķ,nf,e,q⟩|q⟩:=h
  ·show#[x,σ,_,I.VH e nf,r,q]
  ·show#[x,σ,H,I,r,q]
 | brk=>let⟨σ,H,I,q⟩:=h;show False.elim q
 | cont=>let⟨σ,H,I,q⟩:=h;show False.elim q
def kQ {ð:ι}(hJ:Dy J pr)(hg:U6 g q)(S1:Ss F0 H0 F1 σ H1 ε)(p1:Rd F1 a (.dK ķ))(p2)(p3)(fz)(h2:lg q rb ε (ð.map pr) f)(pu:UX F0 H0 F1 E f):
  ∃ W:Nat->Nat->Υ,(∃ m,W 0 m σ H2)/\∀ i m σ H,W i m σ H->((J o a).stop i H/\(KU X E).nx σ H)\/((J o a).go i H/\∃ N:Υ,Į/\∀ x H',(J o a).TQ i H x H'->g x σ H' λσ2 H2=>Ŵ { KU X E with nx:=N,ct:=N,bk:=(KU X E).nx } σ2 H2):=by
 let#[f1,f2]:=fz;rcases p1 with p1|⟨r,p1⟩
 ·let UC:=S1.le _ _ p1;rcases f2 with⟨_,f2,nf⟩|f2
  ·let S2:=S1.KA p1 Ń<|.inr #[o,1];let eF:KA a _ F1 a=!(.frz o<|.dK ķ):=cy (by rw[p1];show nofun);let h0:F0 a=none\/F0 a=!.dK ķ:=by
    cases y:F0 a with
    | none=>show .inl rfl
    | some w=>have:=S1.up _ _ y;rw[p1]at this;show .inr this.symm
   let h0':H0 a=none\/H0 a=!.dK ķ:=by
    cases y:H0 a with
    | none=>show .inl rfl
    | some w=>have:=S1.b0 _ _ y;rw[UC]at this;show .inr this.symm
   rw[jp UC]at f2;subst f2;show mO (tb:=λE σ H=>∃ F0 H0,tQ F0 H0 rb E σ H) (λ_ _ _ h=>#[_,_,h]) hg S2 (hJ eF p2<|p3.KA p1 Ń (.inr #[o,1])) h2 ?_
   cases f with
   | nx ε'=>show λσ' H' F' u S'=>.inl #[a,o,ķ,nf,S'.le _ _<|u _ _ eF,by let S3:=S'.KA (u _ _ eF) (.inr #[o,1])<|.inl rfl;rw[gI h0,gI h0']at S3;rw[jp<|S'.le _ _ (u _ _ eF)];show pu σ' _ _ ?_ S3;let:=cJ (a:=a) (o:=.dK ķ) u;rwa [m9 p1]at this]
   | rt d=>show λx H' b1 b2 z=>.inl #[a,o,ķ,nf,b2 _ _ eF,by
     let hH':=b2 _ _ eF;rw[jp hH'];let b3:=cJ (a:=a) (o:=.dK ķ) b1;rw[gI h0']at b3;let b4:=cJ (a:=a) (o:=.dK ķ) b2;rw[m9 p1]at b4;show pu x _ b3 b4 ?_;let hz:grow (KA a (.frz o<|.dK ķ) F0) (KA a (.frz o<|.dK ķ) H0) H' a=!(.frz o<|.dK ķ):=by
      by_cases n:H0 a=none
      ·rw[aA<|NM.mpr n];show hH'
      ·unfold grow;rw[if_neg λm=>n<|NM.mp m,cy];intro m;let:=S1.lo _ _ p1
       grind [grow]
     let z2:=z.KA hz (.inr #[o,1])<|.inl rfl;rw[uu (λn=>by unfold grow at hz;rwa [if_neg n]at hz) hH',gI h0,gI h0']at z2
     show z2]
  ·simp_all
 ·let UC:=S1.le _ _ p1;rcases f2 with⟨f2,_⟩|f2
  ·simp_all
  ·subst f2;rw[UC]at f1;cases f1;show mO (tb:=λE σ H=>∃ F0 H0,tQ F0 H0 rb E σ H) (λ_ _ _ h=>#[_,_,h]) hg S1 (hJ p1 p2 p3) h2 (.KU pu)
def Pg (hp)(hc)(hi:PI X tg iter (AE X (tP rd)))(ht:PG X tg g)(hg:U6 g q)(hb:OL X ss rb)(hs):QS X K0 (iH (Sb rd) q rb):=by
 intro F0 H0 ñ s σ H E I h;obtain⟨F,ε,f,S,@⟨l,@⟨c,h1,hl⟩,h2⟩,p⟩:=h;let U4:Nj X ss Ŵ:=λñ s σ H E I gR=>by let#[F0,H0,h]:=gR;show hb F0 H0 ñ s σ H E I h
 show Jx (bW hp hc hi ht U4 hs ñ s σ H _ I #[λx H1=>f' H H1/\DR _ c x,tP.go S.z h1 λx H1 e1 _ q1=>#[e1,q1],λx H1 gR=>?_]) λf s' q=>SP.R8 q;let#[e1,hx]:=gR;let S1:=S.grow e1;let pu:=p.up (aj (H1:=H1) S.le)
 cases hl with
 | l hl=>
  let#[a,vs,ex,ha,hv]:=hl.at hx;show#[a,ex,.inl #[vs,.inl<|ha.mono S1.le,mO (tb:=λE σ H=>∃ F0 H0,tQ F0 H0 rb E σ H) (λ_ _ _ h=>#[_,_,h]) hg S1 (yV ha hv) h2<|.KU pu]]
 | t=>
  let#[a,vs,ex,ha,hv]:=hx;show#[a,ex,.inr<|.inl #[vs,LQ.of<|S1.le _ _ ha,mO (tb:=λE σ H=>∃ F0 H0,tQ F0 H0 rb E σ H) (λ_ _ _ h=>#[_,_,h]) hg S1 (Vk ha hv) h2<|.KU pu]]
 | k=>
  let#[a,ķ,ex,p1,p2,p3]:=hx;show#[a,ex,.inr<|.inr ⟨ķ,p1.mono S1.le,λo H2 fz=>kQ vK hg S1 p1 p2 p3 fz h2 pu⟩]
def qLv (hp)(hc)(hi:PI X tg iter (Zw X Yc (tP rd)))(ht:PG X tg g)(hg:U6 g q)(hb:OL X ss rb)(hs):QS X K0 (iH (rVs rd) q rb):=by
 intro F0 H0 ñ s σ H E I h;obtain⟨F,ε,f,S,@⟨l,@⟨ð,h1,hl⟩,h2⟩,p⟩:=h;subst hl;let U4:Nj X ss Ŵ:=λñ s σ H E I gR=>by let#[F0,H0,h]:=gR;show hb F0 H0 ñ s σ H E I h
 show Jx (bW hp hc hi ht U4 hs ñ s σ H _ I #[λx H1=>f' H H1/\DR _ _ x,tP.go S.z h1 λx H1 e1 _ q1=>#[e1,q1],λx H1 gR=>(by let#[e1,a,ķ,ex,p1,p2,p3]:=gR;show#[a,ķ,ex,p1.mono (S.grow e1).le,λo H2 fz=>kQ vJ hg (S.grow e1) p1 p2 p3 fz h2<|p.up (aj S.le)])]) λf s' q=>SP.R8 q
def SI {K:Ψ}{st:Stmt}(h:PS X st (jt (jr (AE X (tP rd)) (lV n) js (oh K n) (NL rt) (tP re)) (bU i)))(hK:K=X.K):QS X st (BI i (rL n js (Sb rd) rt re)):=by intro F0 H0 ñ s σ H E I z;let#[F,ε,f,S,z,p]:=z;let#[z]:=z;show Jx (h ñ s σ H (KU X E) I<|BK (tP.go S.z z λx H1 e1 _ q1=>p _ H1 _ (aj S.le)<|(S.grow e1).QH q1 i)) λf s' q=>SP.R8 q
universe e
section
variable {q:Ô}{rb:Rs}{α:Type}{u:α->D}
def jM (I:β->Ù)(g):∀ (xs:List α) {b:β}{ε:Ev},(∀ b x ε,x∈xs->I b ε->∃ ε1,q (u x) ε ε1/\∃ ε2,rb ε1 (.nx ε2)/\I (g b x) ε2)->I b ε->∃ ε',lg q rb ε (xs.map u) (.nx ε')/\I (xs.foldl g b) ε':=by
 intro r'
 induction r' with
 | nil=>
  intro _ ε _ h;show #[ε,.done,h]
 | cons x xs ih'=>
  intro b ε k h;let#[ε1,k1,ε2,k2,k3]:=k b x ε Fw h;let#[ε',h1,h2]:=ih' (λb y ε hy=>k b y ε<|Fp _ hy) k3;show#[ε',.next k1 k2 h1,h2]
def vU (I:Ù)(c:α->Bool)(h:α->D):∀ (xs:List α){ε:Ev},(∀ x ε,x∈xs->I ε->∃ ε1,q (u x) ε ε1/\if c x=true then rb ε1 (.rt (h x)) else ∃ ε2,rb ε1 (.nx ε2)/\I ε2)->I ε->match xs.find? c with
   | some x=>lg q rb ε (xs.map u) (.rt<|h x)
   | none=>∃ ε',lg q rb ε (xs.map u) (.nx ε')/\I ε'
 | [],ε,_,h=>#[ε,.done,h]
 | x::xs,ε,k,hI=>by
  let#[ε1,k1,k2]:=k x ε Fw hI;rw[Gs]
  cases z:c x with
  | true=>rw[z,if_pos rfl]at k2;show .ret k1 k2
  | false=>
   rw[z,if_neg nofun]at k2;let#[ε2,k3,k4]:=k2;let:=vU I c h xs (λy ε hy=>k y ε<|Fp _ hy) k4
   cases y:xs.find? c with
   | some w=>rw[y]at this;show .next k1 k3 this
   | none=>rw[y]at this;let#[ε',h1,h2]:=this;show#[ε',.next k1 k3 h1,h2]
def eZ (I:β->Ù)(μ:β->Nat)(h0:I b ε)(k:∀ b ε,I b ε->rt ĸ false/\r2 ε f\/rt ĸ true/\∃ b' ε',rb ε (.nx ε')/\I b' ε'/\μ b'<μ b):ku (rWh rt rb) r2 ε f:=by
 let go:∀ (n:Nat) {b:β}{ε:Ev},μ b<n->I b ε->∃ ε',Xt rt rb n ε (.nx ε')/\r2 ε' f:=λn=>by
  induction n with
  | zero=>simp_all
  | succ n ih=>
   intro b ε h hI;rcases k b ε hI with⟨t,h1⟩|⟨t,b',ε',k1,k2,k3⟩
   ·show#[ε,.done t,h1]
   ·let#[ε2,h1,h2]:=ih #[] k2;show#[ε2,.next t k1 h1,h2]
 let#[ε',h1,h2]:=go _ (Gv _) h0;show .nx #[_,h1] h2
def DP {β:Type}(xs)(I:β->Ù)(g){b:β}(h0:I b ε)(hl)(k:∀ b x ε,x∈xs->I b ε->∃ ε1,q (u x) ε ε1/\∃ ε2,rb ε1 (.nx ε2)/\I (g b x) ε2)(fin:∀ ε,I (xs.foldl g b) ε->r2 ε f):ku (iH ri q rb) r2 ε f:=
 let #[ε',h1,h2]:=jM I g xs k h0
 .nx (.mk hl h1) (fin ε' h2)
def fH (xs)(I:Ù)(c:α->Bool)(h:α->D)(h0:I ε)(hl)(k:∀ x ε,x∈xs->I ε->∃ ε1,q (u x) ε ε1/\if c x=true then rb ε1 (.rt (h x)) else ∃ ε2,rb ε1 (.nx ε2)/\I ε2)(hs:∀ x,xs.find? c=!x->f=.rt (h x))(fin:xs.find? c=none->∀ ε,I ε->r2 ε f):ku (iH ri q rb) r2 ε f:=by
 let:=vU I c h xs k h0
 cases z:xs.find? c with
 | some x=>rw[z]at this;rw[hs x z];show .rt (.mk hl this)
 | none=>rw[z]at this;let#[ε',h1,h2]:=this;show .nx (.mk hl h1) (fin z ε' h2)
universe e
def bg (n):p8 0 n=(List.range n).map λi=>.int (i:Int):=by unfold p8;show FG λi _=>by rw[IK]
def zE (s n:Nat):p8 s n=(List.range' s n).map λi=>.int (i:Int):=by unfold p8;simp[List.range'_eq_map_range]
abbrev rw (r:Ξ):D:=.lst (r.map .int)
abbrev tb (t:Θ):D:=.lst (t.map rw)
def Pf (g:α->Int)(l:List α):Fl.rt (rw (l.map g))=.rt (.lst (l.map λx=>.int (g x))):=by simp_all
def tbm (g:α->Ξ)(l:List α):Fl.rt (tb (l.map g))=.rt (.lst (l.map λx=>rw (g x))):=by simp_all
def tL {g:α->β}{l:List α}{i:Nat}{x:α}(h:l[i]?=!x):OD (l.map g) (i:Int)=!g x:=iC Ħ
def bC {l:Ξ}(h:i<l.length):OD (l.map D.int) (i:Int)=!.int (l.getD i 0):=tL Ħ
def tK {t:Θ}(h:i<t.length):OD (t.map rw) (i:Int)=!rw (t.getD i []):=tL Ħ
def cM {t:List α}{z:α}(h:i<t.length):t.getD i z∈t:=by simp_all
def ne_int (ha:ra ε (.int i))(hb:rb ε (.int j)):rO (fE true) ra rb ε (.bl (decide (i≠j))):=.mk ha hb (.mk rfl rfl rfl (congrArg D.bl (by
 by_cases c:i=j
 ·subst c;simp
 ·rw[EZ c,F5 λz=>c<|by injection z];rfl)))
def eq_int (ha:ra ε (.int i))(hb:rb ε (.int j)):rO K2 ra rb ε (.bl (decide (i=j))):=.mk ha hb (.mk rfl rfl rfl (congrArg D.bl (by
 rw[if_neg nofun];by_cases c:i=j
 ·subst c;simp
 ·rw[F5 c,F5 λz=>c<|by injection z])))
theorem Ca:Option Nat->D
 | none=>.non
 | some a=>.int (a:Int)
def cG (k:Nat):wv l none (!(k:Int))=l.take k:=by
 unfold wv;rw[HT.Qk,HT.OM,List.drop_zero,Nat.sub_zero,List.take_eq_take_iff]
 lia
def iB (k:Nat):wv l (!(k:Int)) none=l.drop k:=by
 unfold wv;rw[HT.Qk,HT.OM,GL<|by simp_all]
 simp_all
section
variable {α:Type}{u:α->D}
abbrev _root_.Õ:=Nat->Ù
def t8 {ok:D->Prop}:∀ (xs:List α)(I:Õ){ε:Ev},I 0 ε->(∀ i x ε,xs[i]?=!x->I i ε->∃ ε1,q (u x) ε ε1/\((∃ d,rb ε1 (.rt d)/\ok d)\/∃ ε2,rb ε1 (.nx ε2)/\I (i+1) ε2))->(∃ d,lg q rb ε (xs.map u) (.rt d)/\ok d)\/∃ ε',lg q rb ε (xs.map u) (.nx ε')/\I xs.length ε':=by
 intro xs
 induction xs with
 | nil=>intro I ε h _;show .inr #[ε,.done,h]
 | cons x xs ih=>
  intro I ε h k;obtain⟨ε1,k1,⟨d,k2,k3⟩|⟨ε2,k2,k3⟩⟩:=k 0 x ε rfl h
  ·show .inl #[d,.ret k1 k2,k3]
  ·rcases ih (λi=>I<|i+1) k3 (λi y ε hy=>k (i+1) y ε<|by simpa using hy) with⟨d,h1,h2⟩|⟨ε',h1,h2⟩
   ·show .inl #[d,.next k1 k2 h1,h2]
   ·show .inr #[ε',.next k1 k2 h1,h2]
def t7 (xs)(I:Õ)(h0:I 0 ε)(hl)(k):∃ ε',iH ri q rb ε (.nx ε')/\I xs.length ε':=by
 rcases t8 (ok:=λ_=>False) xs I h0 (λi x ε h h'=>let ⟨ε1,a,b⟩:=k i x ε h h';#[ε1,a,.inr b]) with⟨_,_,z⟩|⟨ε',h1,h2⟩
 ·show z.elim
 ·show#[ε',.mk hl h1,h2]
def c8 (xs)(I:Õ)(h0:I 0 ε)(hl)(k)(fin):ku (iH ri q rb) r2 ε f:=
 let #[ε',h1,h2]:=t7 xs I h0 hl k
 .nx h1 (fin ε' h2)
def rZ (xs)(I:Õ)(h0:I 0 ε)(hl)(k:∀ i x ε,xs[i]?=!x->I i ε->∃ ε1,q (u x) ε ε1/\((∃ d,rb ε1 (.rt d)/\f=.rt d)\/∃ ε2,rb ε1 (.nx ε2)/\I (i+1) ε2))(fin):ku (iH ri q rb) r2 ε f:=by
 rcases t8 xs I h0 k with⟨d,h1,rfl⟩|⟨ε',h1,h2⟩
 ·show .rt (.mk hl h1)
 ·show .nx (.mk hl h1) (fin ε' h2)
universe e
section
variable {α:Type}{u:α->D}{J:Ù}
def oq (h1:r1 ε (.nx ε1))(h2:∃ ε',r2 ε1 (.nx ε')/\J ε'):∃ ε',ku r1 r2 ε (.nx ε')/\J ε':=let ⟨ε',a,b⟩:=h2;#[ε',.nx h1 a,b]
def a0F {β:Type}(xs)(I:β->Ù)(g){b:β}(h0:I b ε)(hl)(k:∀ b x ε,x∈xs->I b ε->∃ ε1,q (u x) ε ε1/\∃ ε2,rb ε1 (.nx ε2)/\I (g b x) ε2)(fin:∀ ε',I (xs.foldl g b) ε'->J ε'):∃ ε',iH ri q rb ε (.nx ε')/\J ε':=
 let #[ε',h1,h2]:=jM I g xs k h0
 #[ε',.mk hl h1,fin ε' h2]
def AQ (xs)(I:Õ)(h0:I 0 ε)(hl)(k)(fin:∀ ε',I xs.length ε'->J ε'):∃ ε',iH ri q rb ε (.nx ε')/\J ε':=
 let #[ε',h1,h2]:=t7 xs I h0 hl k
 #[ε',h1,fin ε' h2]
universe e
def aR {l:List α}{x:α}(h:l[i]?=!x):l.take (i+1)=l.take i++[x]:=by rw[Gy,h];rfl
def gt_int (ha:ra ε (.int i))(hb:rb ε (.int j)):rO (fI Ū λi j=>MB (.bl (decide (j<i)))) ra rb ε (.bl (decide (j<i))):=#[ha,hb,#[trivial]]
def lt_int (ha:ra ε (.int i))(hb:rb ε (.int j)):rO (fI Ū λi j=>MB (.bl (decide (i<j)))) ra rb ε (.bl (decide (i<j))):=#[ha,hb,#[trivial]]
def gT (h:(List.range n)[i]?=!x):i=x/\i<n:=by
 let#[h1,h2]:=EY.mp h;rw[FO]at h1
 simp_all
def gG {l:List α}{f:α->Key}{g:α->D}:cI (l.map λx=>(f x,g x)) k=(l.find? λx=>decide (f x=k)).map g:=by unfold cI;rw[List.find?_map,Option.map_map];rfl
def kS:D.str x=kD (.inr x):=rfl
def kI:D.int i=kD (.inl i):=rfl
def a0r:(cI ð k).isSome=true ↔ k∈ð.map (·.1):=by grind [cI,Option.isSome_map,List.find?_isSome,List.mem_map]
def X0 {l:List α}{f:α->Str}{g:α->D}:(cI (l.map λx=>(.inr (f x),g x)) (.inr y)).isSome=decide (y∈l.map f):=by
 rw[Go,a0r,F9,He,F8,F8]
 grind
def X1 {l:List α}{f:α->Int}{g:α->D}:(cI (l.map λx=>(.inl (f x),g x)) (.inl y)).isSome=decide (y∈l.map f):=by
 rw[Go,a0r,F9,He,F8,F8]
 grind
def cf (h:k∉ð.map (·.1)):ng ð k d=ð++[(k,d)]:=if_neg λz=>h (let #[p,a,b]:=List.any_eq_true.mp z;F8.mpr #[p,a,Fq b])
inductive X':D->D->D->Prop
 |mk {x:D}{k:Nat}:k<=1000->X' (.lst [x]) (.int k) (.lst (List.replicate k x))
def ve:Pk X' YN:=λF H x y u v d Q s z hu hv q=>by
 obtain @⟨x,k,hk⟩:=z;let#[a,vs,1,p1,w,ws,1,p2,1]:=hu;show#[a,k,[w],1,hv,s _ _ p1,#[],#[],?_,λp n=>q _ _ (aQ Ĩ n) #[p,_,1,by rw[aA n,af],Jj.mono (aj s) _ _ ?_]]
 ·show Fo (by simpa using hk) (by decide +kernel:1000<=sizeLine)
 ·clear hk q hv
  induction k with
  | zero=>rfl
  | succ k ih=>show#[w,_,1,p2,ih]
def bR {α:Type}{xs:List α}{u h:α->D}(hi:ri ε (xs.map u))(hl:xs.length<=1000)(k:∀ x∈xs,∃ l,Ya n (u x) l/\re (l.map some++js.map λj=>(ε[j]?).join) (h x))(e:d=.lst (xs.map h)):rL n js ri uJ re ε d:=e▸aU hi hl k
def KQ.m {g:α->D}{x:List α}:KQ [.lst (x.map g)] (.int x.length):=by rw[<- EV (f:=g)];show .s (.sq .lst)
def vR (i:Int):∀ (ks:Ξ),TZ (.int i) ((ks.map D.int).map fv)=decide (i∈ks):=by
 intro r'
 induction r' with
 | nil=>
  show rfl
 | cons k ks ih'=>
  let ih:=ih';unfold TZ at ih ⊢;rw[Fk,Fk,Iu,ih,Go];change ((k==i) || decide (i∈ks))=true ↔ _
  grind
def gb:TB n (.int i) (rw ks) (.bl (if n=true then not (decide (i∈ks)) else decide (i∈ks))):=.s #[.sq .lst,1,by rw[List.all_map,GI];show λ_ _=>rfl,by rw[show TZ (fv<|.int i) _=decide _ from vR i ks]]
def qG (i:Str):∀ (ks:η),TZ (.str i) ((ks.map D.str).map fv)=decide (i∈ks):=by
 intro r'
 induction r' with
 | nil=>
  show rfl
 | cons k ks ih'=>
  let ih:=ih';unfold TZ at ih ⊢;rw[Fk,Fk,Iu,ih,Go];change ((k==i) || decide (i∈ks))=true ↔ _
  grind
def ip {ks:η}:TB n (.str i) (.lst (ks.map .str)) (.bl (if n=true then not (decide (i∈ks)) else decide (i∈ks))):=.s #[.sq .lst,1,by rw[List.all_map,GI];show λ_ _=>rfl,by rw[show TZ (fv<|.str i) _=decide _ from qG i ks]]
def Itm.m {l:List α}{f:α->Key}{g:α->D}:Itm (Km (l.map λx=>(f x,g x))) (l.map λx=>kD (f x)):=by let:=Itm.k (ð:=l.map λx=>(f x,g x));rw[F9]at this;show this
def dE (nd:(ð.map (·.1)).Nodup)(h:(k,d)∈ð):cI ð k=!d:=by
 unfold cI
 induction ð with
 | nil=>cases h
 | cons kv l ih=>
  let nd:=FM.mp nd;rcases Fv.mp h with z|z
  ·rw[<- z,List.find?_cons_of_pos<|by simp];rfl
  ·rw[List.find?_cons_of_neg (by simp only[decide_eq_true_eq];show λy=>nd.1<|F8.mpr #[_,z,y.symm])];show ih nd.2 z
def ig:∀ {more ð:ι},((ð++more).map (·.1)).Nodup->fe ð more=ð++more
 | [],ð,_=>(Ft _).symm
 | kv::more,ð,nd=>by
  unfold fe;rw[GD,cf λz=>by rw[Fa,Fk,FE]at nd;show nd.2.2 _ z _ Fw rfl]
  let:=ig (more:=more) (ð:=ð++[kv]) (by rwa [FK]);rwa [FK]at this
def To.m {l:List α}{f:α->Key}{g:α->D}(h:l.length<=1000)(nd:(l.map f).Nodup):To [.lst (l.map λx=>.tup [kD (f x),g x])] (Km (l.map λx=>(f x,g x))):=by let:=To.p (ð:=l.map λx=>(f x,g x)) M8;rw[ig (by rw[Gm,F9];show nd),Gm]at this;unfold prs at this;rw[F9]at this;show this
def Es (h:q<n):Sf n (q:Int)=!q:=by unfold Sf;rw[if_pos<|Int.natCast_nonneg q];simp[h]
theorem UY (R:Ä):Sp:=λvs H Q _=>∃ F l d,f' F H/\Jj F l vs/\R l d/\∀ a H',f' H H'->H a=none->QB (bc a ŗ) H' d a->Q (.ref a) H'
def UY.p (h:Pr R vs H Q E):UY R vs H Q E:=let ⟨F,l,d,s,a,b,q⟩:=h
 #[F,l,d,s,a,b,λa H' e n w=>q _ H' e (w.dr JH λo z=>by rw[aA n];show z)]
def gk (he:PE X o (tP ra))(Dd)(hr)(ht:eval ī X.env=(do
   let ov <- eval o X.env
   standAt apos.atName
   let (f,first) <- holding [ov] Ŝ
   callWith pos f first (backTo pos (starEach [] X.env)) Ĵ):=Ą):PE X ī (tP (VY (·=C) m (λ_=>R) ra)):=EG he (λC' h=>by cases h;show Dd) hr ht
def dFN (Dd:Df X.prog X.w X.K X.mg X.base k x ps (UY R))(hr)(hg:Gl X x)(ha:PA X (e::es) (LG rs))(Mm)(he:Ĕ X e es:=Ą)(LM):
  PE X Ģ (tN (rF R rs)):=(aZ Dd hr hg ha Mm he LM).imp fun σ H Q ⟨F,ε,d,S,⟨h1,h2⟩,q⟩=>LG.go S h1 λxs H1 e1 S1 q1=>by
 rw[Ft];show#[_,_,d,S1.le,q1,h2,λa H2 e2 n w=>q a H2 Ň ?_ ?_]
 ·cases y:H a with
  | none=>rfl
  | some o=>rw[e1 _ _ y]at n;cases n
 ·rwa [ar e1 e2]at w
def dLN (n)(hc)(S:bE X scope (lV n) js N')(hi)(hg:∀ cells C s H fp,PG ģ tg (oh X.K n))(ht:∀ cells C s H fp,Nk ģ ifs (NL rt))(he:∀ cells C s H fp,PE ģ elt (tP re))(hs):PE X (.ListComp elt [#[tg,iter,ifs,(0)]] scope pos) (tN (rL n js ri rt re)):=(eL hc S hi hg ht he hs).imp λ_ _ _=>DX
section
variable {K:Ψ}
def MN.dvN {k:Nat}{st:Stmt}(F:MN K x ğ st f fd)(S:ax N ps (aa st))(hb:ay st=[.Return (!e) pos])(t:∀ l d,R l d->l.length=ps.length/\re ((ent N.length l).map Sl.a) d)(b:∀ (J7:Value)(A:Ë)(outer:List Env)(s:Ê)(H:Hp)(E:XK),Jn k ę->PE (dU Ky P w K mg base N ğ (aa st) f J7 A outer s H E).QL e (tN re)):Jy P w K mg base Ky (k+1) f fd ps (UY R):=
 F.ok S (λvs H Q E gR=>(by let#[_,l,d,_,hl,hR,_]:=gR;rw[hl.length,(t l d hR).1])) λJ7 A outer s H vs Q E hr gR=>by let#[F,l,d,sm,hl,hR,q]:=gR;show#[_,hb▸aq (bO<|b J7 A outer s H E hr),_,_,d,(ou N sm hl).a,(t l d hR).2,λa H' e n w=>q a H' e n<|by rwa [ar Ĩ e]at w]
def Df.p (h:Df P w K mg base k x ps (UY R)):Df P w K mg base k x ps (Pr R):=let ⟨f,fd,a,b,c,d⟩:=h;#[f,fd,a,b,c,d.imp λ_ _ _ _=>UY.p]
universe e
inductive cDk:Ä
 |mk {ð:ι}:cDk [Km ð] (Km (fe [] ð))
def a4R (hc)(hg:Gl X "dict")(hm:X.mg "dict"=none)(ha:PA X (e::es) (LG rs))(hn:("dict":Str)≠"__name__":=ö)(Mm:(("dict":Str)==("__debug__":Str))=false:=ö)(he:Ĕ X e es:=Ą)(LM):PE X (.Call (.Name "dict" p) (e::es) [] pos) (tN (rF cDk rs)):=(du (cX hc) hg hm boot_dict ha hn Mm he LM).imp fun σ H Q ⟨F,ε,d,S,⟨h1,h2⟩,q⟩=>LG.go S h1 λxs H1 e1 S1 q1=>by
 cases h2;let#[v,ws,1,#[a,ķ,1,p1,p2,p3],1]:=q1;show .inl #[a,ķ,1,p1.mono S1.le,λp H2 e2 n z=>?_];let n0:=e1.free n;let m:=jH (F:=bc p<|grow F H H2) (ð:=[]) (ķ:=[]) p2 (p3.mono λb o y=>?_) rfl rfl
 ·show q p H2 Ň n0 #[_,z,m.1,m.2]
 ·by_cases c:b=p
  ·subst c;rw[aA n0,n]at y;cases y
  ·rw[bv c];unfold grow at y ⊢;by_cases w:H b=none
   ·rw[if_pos w]at y ⊢;show e2 _ _ y
   ·simp_all
def dI:PE X (.Constant (.int n) j pos) (tP (rC (MB (.int n)))):=dC bf
def bi:PE X (.Constant (.str x) j pos) (tP (rC (MB (.str x)))):=dC x9
def OQ:PE X (.Constant (.bool c) j pos) (tP (rC (MB (.bl c)))):=dC qh
def P0:PE X (.Constant .none j pos) (tP (rC (MB .non))):=dC xa
def qr (h:PE X e (tP re)):OL X [.Return (!e) pos] (wZ re):=q1 (qR h)
def Js (hr)(ha)(hb:PE X b (tP rb))(hs:k8 b:=Ċ):PE X Tl (tP (rO Sub ra rb)):=dS (aK hr) ha hb hs
def cD (hm:X.mg "len"=none)(ha:PE X e (tP re))(hg:Gl X "len":=Ą)(he:starEach [e] X.env=TW::starEach [] X.env:=Ą):PE X (.Call (.Name "len" p) [e] [] pos) (tP (rF KQ (rA re Nq))):=dB EI B3 hg hm boot_len (da ha J4 he) (he:=he)
def qs (i)(hN)(he:PE X e (tP re))(hi:X.N[i]?=!x:=Ą)(hx:Loc X.env.scope x:=Ĉ)(hs:swapsWith e (!.Name x pos') pos.line X.env=pure false:=Ą)(hf):
  QS X K9 (BI i re):=qS (pS i hN he hi hx hs hf) λ_ _ _ h=>h
def qo (i)(hN)(he:PE X e (tN re))(hi:X.N[i]?=!x:=Ą)(hx:Loc X.env.scope x:=Ĉ)(hs:swapsWith e (!.Name x pos') pos.line X.env=pure false:=Ą)(hf):
  QS X K9 (BH i re):=qO (pS i hN he hi hx hs hf) λ_ _ _ h=>h
def Mf (cells:Ã)(C)(s:Ê)(H)(fp:υ):Nk ģ [] (NL uJ):=df0
section
variable {K:Ψ}{x:Str}{st:Stmt}{k:Nat}
def MN.dw (F:MN K x ğ st f fd)(N:η)(t)(b:∀ (J7:Value)(A:Ë)(outer:List Env)(s:Ê)(H:Hp)(E:XK),Jn k ę->(ps++N).Nodup->OL (dU Ky P w K mg base (ps++N) ğ (aa st) f J7 A outer s H E).QL (ay st) r)(S:ax (ps++N) ps (aa st):=ď):Jy P w K mg base Ky (k+1) f fd ps (Pr R):=
 F.dv S t λJ7 A outer s H E hr=>b J7 A outer s H E hr S.nd
def Kb.dw (F:Kb K x ğ st f fd)(N:η)(t)(b:∀ (J7:Value)(A:Ë)(outer:List Env)(s:Ê)(H:Hp)(E:XK),Jn k ę->(ps++N).Nodup->OL (dU Ky P w K mg base (ps++N) ğ (aa st) f J7 A outer s H E).QL (ay st) r)(S:ax (ps++N) ps (aa st):=ď):Jy P w K mg base Ky (k+1) f fd ps (Pr R):=
 Kb.dv F S t λJ7 A outer s H E hr=>b J7 A outer s H E hr S.nd
abbrev Fu (K:Ψ)(x:Str)(st:Stmt):=MN K x x st
universe e
class Bd where
  P : Program
  w : World
  K : PySem.W.Frag
  mg : Str -> Option Value
  base : Heap
section
variable [B:Bd]
abbrev JB:=Df B.P B.w B.K B.mg B.base
abbrev Kj:=Dm B.P B.w B.K B.mg B.base
abbrev Sm:=Dk B.P B.w B.K B.mg B.base
abbrev Xf:=Dfd B.P B.w B.K B.mg B.base
abbrev Xd:=Dmd B.P B.w B.K B.mg B.base
abbrev Xe:=DfX B.P B.w B.K B.mg B.base
abbrev D7:=a1d B.P B.w B.K B.mg B.base
abbrev D6:=DiX B.P B.w B.K B.mg B.base
abbrev O7:=Jy B.P B.w B.K B.mg B.base
abbrev Tm (k:Nat)(x ğ:Str)(st:Stmt)(ps:η)(sp:Sp):Prop:=∀ f fd,MN B.K x ğ st f fd->O7 Ky k f fd ps sp
abbrev Tk (k:Nat)(x:Str):=Tm k x x
def dw {x ğ:Str}{st:Stmt}{ps:η}{k:Nat}{r:Rs}{R:Ä} (N:η) (t)
  (b) (S:ax (ps++N) ps (aa st):=ď):Tm (k+1) x ğ st ps (Pr R):=
 λf _ F=>F.dw N t (b f) S
def Ks {x ğ:Str}{st:Stmt}{ps:η}{k:Nat}{r:Rs}{R:Ä} (N:η) (t:∀ l d,R l d->r (ent (ps++N).length l) (.rt d))
  (b) (S:ax (ps++N) ps (aa st):=ď) (hl:∀ l d,R l d->l.length=ps.length:=đ):Tm (k+1) x ğ st ps (Pr R):=
 dw N (λl d h=>#[hl l d h,.inl<|t l d h]) b S
universe e
universe L2
namespace K72
open PySem L2
open PyProof.Rows (boot_all boot_bool boot_dict boot_int boot_list boot_sorted boot_str boot_tuple)
structure Txt (K:Ψ) (mg:Ω) (C:Addr):Prop where
 cl:MZ K C
 nP:JE K C "prime"
 Ju:mg "range"=none
 Lq:mg "zip"=none
 Rg:mg "sum"=none
 Jo:mg "len"=none
abbrev fD (C:Addr)(p:Int):D:=.ins C ["prime"] [.int p]
section
variable {C:Addr}
def Txt.fl [Bx:Bd](T):∀ C',C'=C->MZ Bx.K C'/\JE Bx.K C' "prime":=λC' h=>h▸#[T.cl,T.nP]
inductive OJ (C:Addr):Ä
 |mk {p n:Int}:0<p->OJ C [fD C p,.int n] (.int (n % p))
def Wg [Bx:Bd](T):Tm 1 "fit" "Field.fit" (ak (top 39) 1) é (Pr (OJ C)):=by
 show Ks [] ?_ λ_ _ _ _ _ _ _ hr ND=>(qr<|dO bt LJ (Đ 1) (QA T.fl<|Đ 0))
 rintro _ _ ⟨hp⟩;show#[#[1,#[3],#[hp]],1]
inductive i6 (C:Addr):Ä
 |mk {p:Int}{xs ys:Ξ}:0<p->p<=1000000->xs.length<=1000->(∀ x∈xs,0<=x/\x<p)->i6 C [fD C p,rw xs,rw ys] (.int (Mx.Jh p xs ys))
def jo (f:α->γ)(g:β->δ):∀ (xs:List α)(ys:List β),(xs.map f).zip (ys.map g)=(xs.zip ys).map λz=>(f z.1,g z.2)
 | [],_=>rfl
 | _::_,[]=>rfl
 | _::xs,_::ys=>by simp_all [Fk,IL,jo]
def fT (xs ys:Ξ):((xs.zip ys).map λz=>D.tup [.int z.1,.int z.2])=((xs.map D.int).zip (ys.map D.int)).map λz=>.tup [z.1,z.2]:=by rw[jo,F9];rfl
def gj:∀ (xs ys:Ξ),((xs.zip ys).map λz=>z.1 * z.2).sum=Mx.dot xs ys
 | [],_=>by simp[Mx.dot]
 | _::_,[]=>by simp[Mx.dot]
 | x::xs,y::ys=>by rw[IL,Fk,List.sum_cons,gj xs ys];rfl
def xk [Bx:Bd](T)(J2):Tk 3 "row_sum" (top 41) û (Pr (i6 C)):=by
 show Ks [] ?_ λ_ _ _ _ _ _ _ hr ND=>(qr (OI (Đ 0) J2 hr.m (da (dB y8 (kW rfl) rfl T.Rg oM (da (dL 2 rfl (cS 2 [] ["mine","theirs"]) (iZ rfl T.Lq<|da (Đ 1) Š)
  į
  Mf
  (λ_ _ _ _ _=>dO cA LJ (Đ 0)<|Đ 1)) J4)) J4)))
 rintro _ _ @⟨p,xs,ys,hp,Qz,hl,hx⟩;show#[#[1,by decide,#[#[#[aU #[_,_,#[3],fT xs ys] (by rw[GO];omega) λz hz=>#[_,#[2],2,#[?_]],1],.mk (by rw[F9];rfl)],1],#[hp]],?_]
 ·let:=hx z.1 (GN hz).1;show .inl #[by omega,by omega]
 ·rw[gj,<- Mx.JN]
abbrev Cs:=List (Int×Int)
abbrev UP (cs:Cs):D:=Km (cs.map λx=>(.inl x.1,.int x.2))
theorem bL (cs:Cs)(k:Int):Ó:=(cs.find? λx=>decide (x.1=k)).map (·.2)
def Bn (h:bL cs k=!n):cI (cs.map λx=>((.inl x.1:Key),D.int x.2)) (.inl k)=!.int n:=by let#[x,h1,h2]:=FI.mp h;rw[gG,funext λx=>Hr.mpr #[Sum.inl.inj,congrArg _],h1,<- h2];rfl
inductive jX:Ä
 |l {t:Θ}{k:Nat}:t.length<=1000->(∀ r∈t,k<r.length)->jX [tb t,.int k] (rw (Mx.col t k))
 |d {α:Type}{l:List α}{g:α->Cs}{h:α->Int}{k:Int}:l.length<=1000->(∀ x∈l,bL (g x) k=some (h x))->jX [.lst (l.map λx=>UP (g x)),.int k] (rw (l.map h))
def Ak [Bx:Bd]:Tk 1 "column" (top 42) ["table","place"] (Pr jX):=by
 show Ks [] ?_ λ_ _ _ _ _ _ _ hr ND=>(qr (O8 0 rfl (cS 1 [1] ["row","place"]) K4
  ė
  Mf
  (λ_ _ _ _ _=>Js hr (Đ 0)<|Đ 1)))
 intro _ _ h
 cases h with
 | @l t k hl hk=>show#[aU #[1,.l .lst] hl λr hr=>#[_,3,.l .lst<|bC (hk r hr)],Pf _ _]
 | @d α l g h k hl hk=>show#[aU #[1,.l .lst] hl λx hx=>#[_,3,.k (Bn<|hk x hx) kI],Pf _ _]
inductive iD:Ä
 |mk {n i:Nat}:n<=1000->iD [.int n,.int i] (rw (Mx.J3 n i))
def uy:ax Ă Ă (aa (top 44)):=Nd
def uU [Bx:Bd](T):Tk 1 "ones_row" (top 44) Ă (UY iD):=by
 intro f fd F;show F.dvN uy rfl ?_ λJ7 A outer s H E hr=>(dLN 0 rfl (cS 1 [1] ["place","own"]) (QP rfl T.Ju<|da (Đ 0) J4)
  ė
  Mf
  (λ_ _ _ _ _=>UO (dT aV bK (Đ 0)<|Đ 1) dI dI))
 rintro _ _ @⟨n,i,hn⟩;show#[1,?_];rw[show rw _=.lst ((List.range n).map λj=>.int<|if j=i then 1 else 0) from D.lst.inj (Fl.rt.inj<|Pf _ _)▸rfl];show aU ⟨n,hn,⟨rfl,rfl⟩,(bg n).symm⟩ (by simpa using hn) λj _=>#[_,1,?_]
 let rd:=eq_int (ε:=[some<|.int j,some<|.int i]) (ra:=rV 0) (rb:=rV 1) rfl rfl;by_cases c:j=i
 ·rw[EZ<|by rw[c]]at rd;show .t rd (by rw[if_pos c];rfl)
 ·rw[F5<|by lia]at rd;show .f rd (by rw[if_neg c];rfl)
inductive rD:Ä
 |mk {n:Nat}:n<=1000->rD [.int n] (tb (Mx.ones n))
def Ec [Bx:Bd](T)(KI):Tk 2 "ones" (top 45) ["many"] (Pr rD):=by
 show Ks [] ?_ λ_ _ _ _ _ _ _ hr ND=>(qr (dL 0 rfl (cS 1 [0] ["own","many"]) (QP rfl T.Ju<|da (Đ 0) J4)
  ė
  Mf
  (λ_ _ _ _ _=>dF KI.p hr.m rfl<|da (Đ 1) š)))
 rintro _ _ @⟨n,hn⟩;show#[aU #[n,hn,#[2],(bg n).symm] (by simpa using hn) λj _=>#[_,1,#[3],#[hn]],tbm _ _]
inductive oS (C:Addr):Ä
 |mk {p a b:Int}:0<p->R7 a b->oS C [fD C p,.int a,.int b] (.int (a * b % p))
def Cf [Bx:Bd](J2):Tm 2 "times" "Field.times" (ak (top 39) 4) ã (Pr (oS C)):=by
 show Ks [] ?_ λ_ _ _ _ _ _ _ hr ND=>(qr<|OI (Đ 0) J2 hr.m (da (dO cA LJ (Đ 1)<|Đ 2) J4))
 rintro _ _ ⟨hp,hc⟩;show#[#[1,by decide,#[#[2,#[hc]],1],#[hp]],1]
inductive tW (C:Addr):Ä
 |mk {p a b:Int}:0<p->tW C [fD C p,.int a,.int b] (.int ((a - b) % p))
def Cg [Bx:Bd](J2):Tm 2 "minus" "Field.minus" (ak (top 39) 3) ã (Pr (tW C)):=by
 show Ks [] ?_ λ_ _ _ _ _ _ _ hr ND=>(qr<|OI (Đ 0) J2 hr.m (da (dO nC cg (Đ 1)<|Đ 2) J4))
 rintro _ _ ⟨hp⟩;show#[#[1,by decide,#[#[2,#[trivial]],1],#[hp]],1]
inductive LW (C:Addr):Ä
 |mk {p:Int}{r:Ξ}:0<p->r.length<=1000->LW C [fD C p,rw r] (rw (r.map (· % p)))
def px [Bx:Bd](J2):Tk 2 "fitted_row" (top 46) ["field","row"] (Pr (LW C)):=by
 show Ks [] ?_ λ_ _ _ _ _ _ _ hr ND=>(qr (O8 0 rfl (cS 1 [0] ["number","field"]) No
  ė
  Mf
  (λ_ _ _ _ _=>OI (Đ 1) J2 hr.m<|da (Đ 0) J4)))
 rintro _ _ @⟨p,r,hp,hl⟩;show#[aU #[1,.l .lst] hl λx _=>#[_,2,by decide,#[2],#[hp]],Pf _ _]
inductive tT (C:Addr):Ä
 |mk {p k:Int}{r:Ξ}:0<p->0<=k->k<=1000000->r.length<=1000->tT C [fD C p,rw r,.int k] (rw (Mx.scaled p r k))
def Af [Bx:Bd](Jw):Tk 3 "scaled" (top 48) ["field","row","number"] (Pr (tT C)):=by
 show Ks [] ?_ λ_ _ _ _ _ _ _ hr ND=>(qr (O8 0 rfl (cS 1 [0,2] ["mine","field","number"]) No
  ė
  Mf
  (λ_ _ _ _ _=>OI (Đ 1) Jw hr.m<|da (Đ 2) š)))
 rintro _ _ @⟨p,k,r,hp,h0,h1,hl⟩;show#[aU #[1,.l .lst] hl λx _=>#[_,2,by decide,#[3],#[hp,.inl #[by omega,by omega]]],Pf _ _]
inductive N6:Ä
 |mk {t:Θ}{st q:Nat}:t.length<=1000->st<=t.length->q<=1000->(∀ r∈t,q<r.length)->N6 [tb t,.int st,.int q] (Ca (Mx.K' t st q))
def uS [Bx:Bd](T):Tk 1 "row_with" (top 47) ["rows","start","place"] (Pr N6):=by
 show Ks ["at"] ?_ λ_ _ _ _ _ _ _ hr ND=>(qC (qL Fe rfl (iR2 rfl T.Ju<|da (Đ 1) (da (cD T.Jo<|Đ 0) J4)) (pN 3 ND) (aG 3)
  (q1 (qI (dT fM kH (Js hr (Js hr (Đ 0)<|Đ 3)<|Đ 2) dI)
  Uf
  q0)))
 (qr P0))
 rintro _ _ @⟨t,st,q,hl,hs,hq,hw⟩;show ?_;show fH _ (λε=>∃ o,ε=[.fz<|tb t,.fz<|.int st,.fz<|.int q,o]) (λa=>decide (Mx.e (t.getD a []) q≠0)) (λa=>.int<|a) #[_,1] #[st,t.length,by omega,hl,#[1,#[#[2],by rw[<- EV];show .s<|.sq .lst],1],(zE _ _).symm] (λa ε ha gR=>?_) (λa h=>by unfold Mx.K';rw[h];rfl) λh ε _=>#[1,by unfold Mx.K';rw[h];rfl]
 let#[o,he]:=gR;subst he;let ha:=List.mem_range'_1.mp ha;show#[_,1,?_];let rd:=ne_int (ε:=([Sl.fz<|tb t,.fz<|.int st,.fz<|.int q,o].set 3<|.fz (.int a)).map Sl.a) (ra:=rO Sub (rO Sub (rV 0)<|rV 3)<|rV 2) (rb:=rC<|.int 0) #[#[2,.l .lst<|tK ġ],1,.l .lst<|bC (hw _<|cM (by omega:a<t.length))] rfl
 cases c:decide (Mx.e (t.getD a []) q≠0) with
 | false=>rw[c]at rd;show#[_,.f rd rfl,_,1]
 | true=>rw[c]at rd;show .t rd #[2]
inductive oR (C:Addr):Ä
 |mk {p:Int}{r ld:Ξ}{q:Nat}:0<p->p<=1000000->r.length<=1000->q<r.length->Mx.KY p r->oR C [fD C p,rw r,rw ld,.int q] (rw (Mx.without p r ld q))
def xj [Bx:Bd](T)(Jw)(JY):Tk 3 "without" (top 49) ["field","row","lead","place"] (Pr (oR C)):=by
 show Ks ["often"] ?_ λ_ _ _ _ _ _ _ hr ND=>(qC (qs 4 ND<|Js hr (Đ 1) (Đ 3))
 (qC (qI (dT aV bK (Đ 4) dI)
  (qr<|Đ 1)
  q0)
 (qr (dL 2 rfl (cS 2 [0,4] ["mine","theirs","field","often"]) (iZ rfl T.Lq<|da (Đ 1) Š)
  į
  Mf
  (λ_ _ _ _ _=>OI (Đ 2) JY hr.m<|da (Đ 0) (da (OI (Đ 2) Jw hr.m<|da (Đ 3) A6) J4))))))
 rintro _ _ @⟨p,r,ld,q,hp,Qz,hl,hq,hf⟩;show .nx #[2,.l .lst<|bC hq] ?_;unfold Mx.without;let rd:=eq_int (ε:=[some<|fD C p,some<|rw r,some<|rw ld,some<|.int q,some<|.int (r.getD q 0)]) (ra:=rV 4) (rb:=rC<|.int 0) rfl rfl;by_cases c:r.getD q 0=0
 ·rw[EZ c]at rd;rw[if_pos c];show .rt (.t rd #[2])
 ·rw[F5 c]at rd;rw[if_neg c];show .nx (.f rd rfl) #[aU (xs:=r.zip ld) #[_,_,#[3],fT _ _] (by rw[GO];lia) λz hz=>#[_,#[2],1,by decide,#[1,#[1,by decide,#[3],#[hp,?_]],1],#[hp]],?_]
  ·let:=Mx.KY.at hp hf q;show .inl #[#[],#[]]
  ·rw[<- GA];show Pf _ _
inductive Du (C:Addr):Ä
 |mk {p n:Int}:My.LL p=true->p<=1000000->0<n->n<p->Du C [fD C p,.int n] (.int (My.bk p n))
def Eg [Bx:Bd](T)(J2)(Jw):Tm 3 "back" "Field.back" (ak (top 39) 5) é (Pr (Du C)):=by
 let Qu:=T.fl;show Ks ["rest","made"] ?_ λ_ _ _ _ _ _ _ hr ND=>(qC (qs 2 ND<|OI (Đ 0) J2 hr.m A6)
 (qC (qI (dT aV bK (Đ 2) dI)
  (q1 qN)
  q0)
 (qC (qs 3 ND dI)
 (qC (qW Fe (dT fM kH (Đ 2) dI)
  (qC (qs 3 ND<|OI (Đ 0) Jw hr.m (da (Đ 3)<|da (dO nC cg dI<|dO d3 LJ (QA Qu<|Đ 0) (Đ 2)) J4))
 (q1<|qs 2 ND (dO bt LJ (QA Qu<|Đ 0)<|Đ 2))))
 Uf))))
 rintro _ _ @⟨p,n,hP,RT,h0,h1⟩;let Qz:=((My.Jb p).mp hP).1;let hp:0<p:=by omega
 let en:=Gz ġ h1;let r0:=eq_int (ε:=[some<|fD C p,some<|.int n,some<|.int n,none]) (ra:=rV 2) (rb:=rC<|.int 0) rfl rfl;rw[F5<|by omega]at r0;show .nx #[1,by decide,#[2],(by let:=OJ.mk (C:=C) (n:=n) hp;rwa [en]at this)]<|.nx (.f r0 rfl) (.nx ⟨rfl⟩ ?_);show eZ (b:=(n,1)) (λb ε=>ε=[.fz<|fD C p,.fz<|.int n,.fz<|.int b.1,.fz<|.int b.2]/\0<b.1/\b.1<p/\My.Inv p n b.1 b.2) (λb=>b.1.toNat) #[1,h0,h1,My.P4 Qz (by rw[Gd _<|by omega];show en)] λb ε gR=>?_;let#[he,r0,r1,I]:=gR;subst he;let rd:=ne_int (ε:=[some<|fD C p,some<|.int n,some<|.int b.1,some<|.int b.2]) (ra:=rV 2) (rb:=rC<|.int 1) rfl rfl;by_cases c:b.1=1
 ·rw[F5 λz=>z c]at rd;rw[c]at I;show .inl #[rd,1,by rw[My.Tu I.lo I.hi<|My.Rn I]]
 ·rw[EZ c]at rd;let l:=My.Tt hP r0 c r1;let m0:=I.lo;let m1:=I.hi;show .inr #[rd,(p % b.1,b.2 * (0 - p / b.1) % p),_,.nx #[1,by decide,#[1,#[1,#[#[3],1,#[r0,by omega]],#[trivial]],1],#[hp,.inl #[by omega,by omega]]] #[#[3],1,#[r0]],#[1,l.1,by omega,My.Ts I Qz r0],by change (p % b.1).toNat<b.1.toNat;omega]
inductive gq:Ä
 |mk {r:Ξ}{m:Nat}:m<=r.length->r.length<=1000->gq [rw r,.int m] (Ca (Mx.JA r m))
def nK [Bx:Bd](T):Tk 1 "first_place" (top 52) ["row","many"] (Pr gq):=by
 show Ks ["place"] ?_ λ_ _ _ _ _ _ _ hr ND=>(qC (qL Fe rfl (QP rfl T.Ju<|da (Đ 1) J4) (pN 2 ND) (aG 2)
  (q1 (qI (dT fM kH (Js hr (Đ 0)<|Đ 2) dI)
  (qr<|Đ 2)
  q0)))
 (qr P0))
 rintro _ _ @⟨r,m,hm,hl⟩;show ?_;show fH _ (λε=>∃ o,ε=[.fz _,.fz _,o]) (λa=>decide (Mx.e r a≠0)) (λa=>.int<|a) ⟨_,rfl⟩ ⟨m,by omega,⟨rfl,rfl⟩,(bg _).symm⟩ (λa ε ha gR=>?_) (λa h=>by unfold Mx.JA;rw[h];rfl) λh ε _=>#[1,by unfold Mx.JA;rw[h];rfl]
 let#[o,he]:=gR;subst he;let ha:=FS.mp ha;show#[_,1,?_];let rd:=ne_int (ε:=([Sl.fz<|rw r,.fz<|.int m,o].set 2<|.fz (.int a)).map Sl.a) (ra:=rO Sub (rV 0)<|rV 2) (rb:=rC<|.int 0) #[2,.l .lst<|bC ġ] rfl
 cases c:decide (Mx.e r a≠0) with
 | false=>rw[c]at rd;show#[_,.f rd rfl,_,1]
 | true=>rw[c]at rd;show .t rd #[2]
abbrev Aq (l:À):D:=.lst (l.map λ(a:Nat)=>.int (a:Int))
inductive cN:Ä
 |mk {t:Θ}{m:Nat}:t.length<=1000->(∀ r∈t,m<=r.length/\r.length<=1000)->cN [tb t,.int m] (Aq (Mx.JO t m))
def nI [Bx:Bd](M':JB 1 "first_place" ["row","many"] (Pr gq)):Tk 2 "lead_places" (top 53) ["rows","many"] (Pr cN):=by
 show Ks ["places"] ?_ λ_ _ _ _ _ _ _ hr ND=>(qC (SI (n:=0) (aO (i:=2) ND rfl rfl rfl (cS 1 [1] ["row","many"]) K4
  ė
  Mf
  (λ_ _ _ _ _=>dF M' hr.m rfl<|da (Đ 0) A6)) rfl)
 (qr (O8 0 rfl (cS 1 [] ["place"]) (aw<|Đ 2)
  ė
  (λ_ _ _ _ _=>bF<|dT eM nO (Đ 0) P0)
  ł)))
 rintro _ _ @⟨t,m,hl,hw⟩;show .nx #[aU #[1,.l .lst] hl λr hr=>#[_,1,#[3],#[(hw r hr).1,(hw r hr).2]]] #[be (h:=Ca) Option.isSome #[1,by rw[F9];show .l .lst] Ľ λo _=>#[_,1,#[2,by cases o <;> show#[0]],λ_=>rfl],?_];unfold Mx.JO;congr 2;clear hl hw
 induction t with
 | nil=>rfl
 | cons r t ih=>
  rw[Fk]
  cases c:Mx.JA r m with
  | none=>simp_all
  | some a=>
   injection ih with ih;rw[List.filter_cons_of_pos rfl,Fk,<- ih];rfl
structure UU (p:Int) (w:Nat) (t:Θ):Prop where
 sh:Mx.Sh p w t
 Ka:t.length<=100
 Wl:w<=200
inductive oX (C:Addr):Ä
 |mk {p:Int}{t:Θ}{st a q wd:Nat}:My.LL p=true->p<=1000000->UU p wd t->q<wd->st<=a->a<t.length->Mx.e (t.getD a []) q≠0->oX C [fD C p,tb t,.int st,.int a,.int q] (tb (Mx.cleared p (My.bk p) t st a q))
def xr [Bx:Bd](T)(P8:JB 3 "scaled" ["field","row","number"] (Pr (tT C)))(Ou:JB 3 "without" ["field","row","lead","place"] (Pr (oR C)))(Mz:Kj 3 C "back" é (Pr (Du C))):Tk 4 "cleared" (top 50) ["field","rows","start","at","place"] (Pr (oX C)):=by
 show Ks ["lead","others"] ?_ λ_ _ _ _ _ _ _ hr ND=>(qC (qs 5 ND<|dF P8 hr.m rfl (da (Đ 0)<|da (Js hr (Đ 1)<|Đ 3) (da (OI (Đ 0) Mz hr.m<|da (Js hr (Js hr (Đ 1)<|Đ 3)<|Đ 4) J4) J4)))
 (qC (SI (n:=0) (aO (i:=6) ND rfl rfl rfl (cS 1 [0,4,5] ["row","field","place","lead"]) (aw<|Pj (UM (Đ 1) UL<|UK (Đ 3)) (UM (Đ 1) (UK<|Pj (Đ 3) dI) UL))
  ė
  Mf
  (λ_ _ _ _ _=>dF Ou hr.m rfl<|da (Đ 1) (da (Đ 0)<|da (Đ 3) Š))) rfl)
 (qr<|Pj (Pj (UM (Đ 6) UL<|UK (Đ 2)) (c9<|da (Đ 5) J4).p) (UM (Đ 6) (UK<|Đ 2) UL))))
 rintro _ _ @⟨p,t,st,a,q,wd,hP,RT,S,hq,hs,ha,Sg⟩;let Qz:=((My.Jb p).mp hP).1;let Ka:=S.Ka;let Wl:=S.Wl;let ma:=cM (z:=[]) ha;let wa:=S.sh.Nm _ ma;let fa:=Mx.KY.at ġ (S.sh.fit _ ma) q;let f0:0<Mx.e (t.getD a []) q:=by omega
 let hb:=My.a0W hP f0 fa.2;let mt:∀ {r},r∈t.take a++t.drop (a+1)->r∈t:=λh=>(FC.mp h).elim Iy List.mem_of_mem_drop;let ra:rO Sub (rV 1) (rV 3) [some<|fD C p,some<|tb t,some<|.int st,some<|.int a,some<|.int q,none,none] (rw (t.getD a [])):=#[2,.l .lst<|tK ha]
 let cd:wv (t.map rw) none (!(a:Int))++wv (t.map rw) (some<|(a:Int)+1) none=(t.take a++t.drop (a+1)).map rw:=by rw[cG,show ((a:Int)+1)=((a+1:Nat):Int) from rfl,iB,Fa,GU,Ir]
 show .nx #[#[1,ra,#[1,by decide,#[#[ra,1,.l .lst<|bC (by omega)],1],⟨hP,RT,f0,fa.2⟩],1],⟨by omega,hb.1,Int.le_trans (Int.le_of_lt hb.2) RT,by omega⟩] (.nx ⟨aU ⟨⟨⟨rfl,.lst,rfl,⟨rfl⟩,rfl⟩,⟨rfl,.lst,⟨⟨rfl,rfl,.i⟩⟩,rfl,rfl⟩,.l ?_⟩,by rw[cd];show .l .lst⟩ ?_ λr hr=>#[_,1,#[5],#[by omega,RT,?_,?_,?_]]⟩ #[#[#[#[1,.lst,1,#[1],1],#[#[2],by simp,1],.l ?_],#[1,.lst,#[1],2],.l ?_],?_])
 ·rw[<- Fj,cd];simp;omega
 ·simp;omega
 ·rw[S.sh.Nm r<|mt hr];omega
 ·rw[S.sh.Nm r<|mt hr];show hq
 ·show S.sh.fit r (mt hr)
 ·rw[cG];simp;omega
 ·rw[cG,iB];simp;omega
 ·rw[cG,iB];unfold Mx.cleared;change Fl.rt (.lst<|List.map rw (_++[_]++_))=_;rw[Fa,Fa,GU,Ir,F9];rfl
universe e
section
variable {C:Addr}
abbrev red (p:Int)(t:Θ)(m:Nat):Θ:=(Mx.run p (My.bk p) t m).1
inductive jV (C:Addr):Ä
 |mk {p:Int}{m wd:Nat}{t:Θ}:My.LL p=true->p<=1000000->UU p wd t->m<=wd->jV C [fD C p,tb t,.int m] (tb (red p t m))
def sj (hP)(S:UU p wd t)(i):∃ ps,(Mx.run p (My.bk p) t i).2=ps.length/\Mx.RR p wd i (red p t i) ps/\(red p t i).length=t.length/\UU p wd (red p t i):=by let Qz:=((My.Jb p).mp hP).1;let#[ps,h1,h2,h3,_]:=Mx.RR.run ġ (My.PL hP) S.sh i;show#[ps,h1,h2,h3,h2.sh,by rw[h3];show S.Ka,S.Wl]
def xo [Bx:Bd](T)(Mr:JB 2 "fitted_row" ["field","row"] (Pr (LW C)))(Nw:JB 1 "row_with" ["rows","start","place"] (Pr N6))(Oy:JB 4 "cleared" ["field","rows","start","at","place"] (Pr (oX C))):Tk 5 "reduced" (top 51) â (Pr (jV C)):=by
 show Ks ["rows","start","place","at"] ?_ λ_ _ _ _ _ _ _ hr ND=>(qC (SI (n:=0) (aO (i:=3) ND rfl rfl rfl (cS 1 [0] ["row","field"]) No
  ė
  Mf
  (λ_ _ _ _ _=>dF Mr hr.m rfl<|da (Đ 1) š)) rfl)
 (qC (qs 4 ND dI)
 (qC (qL Fe rfl SZ XV (aG 5)
  (qC (qs 6 ND<|dF Nw hr.m rfl (da (Đ 3)<|da (Đ 4) (da (Đ 5) J4)))
 (q1 (qI (dT eM nO (Đ 6) P0)
  (qC (qs 3 ND<|dF Oy hr.m rfl (da (Đ 0)<|da (Đ 3) (da (Đ 4)<|da (Đ 6) (da (Đ 5) J4))))
 (q1<|W0 (x0 (i:=4) ND rfl (by first|show Or.inl rfl|show Or.inr rfl) dI xT)))
  q0))))
 Uf)))
 rintro _ _ @⟨p,m,wd,t,hP,RT,S,hm⟩;let Qz:=((My.Jb p).mp hP).1;let Ka:=S.Ka;let Wl:=S.Wl;show .nx #[aU (h:=rw) #[1,.l .lst] ġ λr hr=>#[_,1,#[3],?_]] (.nx #[1] ?_)
 ·let:=LW.mk (C:=C) (p:=p) ġ (by rw[S.sh.Nm r hr];omega);rwa [Mx.Qo<|S.sh.fit r hr]at this
 show c8 (List.range m) (λi ε=>∃ o5 o6,ε=[.fz<|fD C p,.fz<|tb t,.fz<|.int m,.fz<|tb (red p t i),.fz<|.int ((Mx.run p (My.bk p) t i).2:Nat),o5,o6]) ⟨_,_,rfl⟩ ⟨m,by omega,⟨rfl,rfl⟩,(bg _).symm⟩ (λi x ε hx gR=>?_) λε gR=>?_
 ·let#[o5,o6,he]:=gR;let#[1,hi]:=gT hx;subst he;let#[ps,h1,h2,h3,Sr]:=sj hP S i;let Pm:(Mx.run p (My.bk p) t i).2<=(red p t i).length:=by rw[h1];show h2.len
  let Qs:=Mx.NQ p (My.bk p) t i;unfold Mx.step at Qs;let hf:=Sr.Ka;show#[_,1,?_];let c1:=N6.mk (q:=i) ġ Pm ġ λr hr=>by rw[Sr.sh.Nm r hr];omega
  cases hrw:Mx.K' (red p t i) (Mx.run p (My.bk p) t i).2 i with
  | none=>
   rw[hrw]at c1 Qs;show#[_,.nx #[#[4],c1]<|.f #[2,by show#[0]] rfl,_,_,by unfold red;rw[Qs];rfl]
  | some a=>
   let#[g1,g2,g3]:=Mx.NR hrw;rw[hrw]at c1 Qs;show#[_,.nx #[#[4],c1]<|.t #[2,by show#[0]] (.nx #[#[6],#[hP,RT,Sr,by omega,g1,g2,g3]] #[2]),_,_,by unfold red;rw[Qs];rfl]
 ·let#[o5,o6,he]:=gR;subst he;rw[FO];show#[2]
abbrev Kc (p:Int)(t:Θ)(m:Nat):À:=Mx.JO (red p t m) m
theorem uG (p)(t:Θ)(m):D:=if (Kc p ő m).length<m then .non else tb (((red p ő m).take m).map (List.drop m))
inductive OR (C:Addr):Ä
 |mk {p:Int}{m:Nat}{t:Θ}:My.LL p=true->p<=1000000->UU p m t->m<=100->OR C [fD C p,tb t,.int m] (uG p t m)
def VS (r o:Ξ):rw (r++o)=.lst (r.map .int++o.map .int):=congrArg D.lst Fa
def Ag [Bx:Bd](T)(Lc)(JX)(Ll):Tk 6 "reader" (top 54) â (Pr (OR C)):=by
 show Ks ["joined","rows"] ?_ λ_ _ _ _ _ _ _ hr ND=>(qC (qS (aO (i:=3) ND rfl rfl rfl (cS 2 [] ["row","own"]) (iZ rfl T.Lq<|da (Đ 1) (da (dF Lc hr.m rfl<|da (cD T.Jo<|Đ 1) J4) J4))
  į
  Mf
  (λ_ _ _ _ _=>Pj (Đ 0)<|Đ 1)) λ_ _ _=>n9 (n:=2))
 (qC (qs 4 ND<|dF Ll hr.m rfl (da (Đ 0)<|da (Đ 3) Š))
 (qC (qI (dT fO cg (cD T.Jo<|dF JX hr.m rfl (da (Đ 4)<|da (Đ 2) J4))<|Đ 2)
  (qr P0)
  q0)
 (qr (O8 0 rfl (cS 1 [2] ["row","many"]) (aw<|UM (Đ 4) UL (UK<|Đ 2))
  ė
  Mf
  (λ_ _ _ _ _=>UM (Đ 0) (UK<|Đ 1) UL))))))
 rintro _ _ @⟨p,m,t,hP,RT,S,hm⟩;let Qz:2<=p:=((My.Jb p).mp hP).1;let Ka:=S.Ka;let Sj:UU p (m+t.length) ő:=#[Mx.Of ġ S.sh,by rw[Mx.KP];show Ka,by omega]
 let#[ps,h1,h2,h3,Sr]:=sj hP Sj m;let hf:=Sr.Ka;show .nx #[bR (xs:=t.zip<|Mx.ones t.length) (u:=λz=>.tup [rw z.1,rw z.2]) (h:=λz=>rw (z.1++z.2)) #[_,_,#[1,#[#[#[#[2],KQ.m],1],#[by omega]],1],by rw[jo,F9];rfl] (by rw[GO];omega) (λz hz=>#[_,#[2],2,?_]) ?_] (.nx #[#[4],#[hP,RT,Sj,by omega]] ?_)
 ·let h1:=S.sh.Nm _ (GN hz).1;let#[j,_,h2]:=F8.mp (GN hz).2;let h2:z.2.length=t.length:=by rw[<- h2];simp[Mx.J3]
  rw[VS];show .l (by rw[EV,EV];omega)
 ·unfold Mx.joined;rw[<- GA,show tb _=.lst (List.map rw _) from rfl,F9];rfl
 let rd:=lt_int (ε:=[some<|fD C p,some<|tb t,some<|.int m,some<|tb ő,some<|tb (red p ő m)]) (ra:=rF KQ<|rA (rF cN<|rA (rV 4) (rA (rV 2) Nq)) Nq) (rb:=rV 2) ⟨⟨⟨⟨rfl,rfl,rfl⟩,⟨by omega,λr hr=>by rw[Sr.sh.Nm r hr];omega⟩⟩,rfl⟩,KQ.m⟩ rfl;unfold uG;by_cases c:(Kc p ő m).length<m
 ·rw[if_pos c];rw[EZ<|Int.ofNat_lt.mpr c]at rd;show .rt (.t rd #[2])
 ·rw[if_neg c];rw[F5 λz=>c<|Int.ofNat_lt.mp z]at rd;show .nx (.f rd rfl) ⟨aU (u:=rw) ⟨⟨rfl,.lst,rfl,⟨rfl⟩,rfl⟩,by rw[cG,GU];show .l .lst⟩ (by rw[Fh];omega) λr _=>#[_,2,.lst,#[1],1,by rw[iB,<- Ir]],tbm _ _⟩
theorem gr (p)(t:Θ)(m):À:=(List.range m).filter λq=>not (decide (q∈Kc p t m))
theorem mj (p)(t:Θ)(m):D:=match gr p t m with
 | []=>.non
 | u::_=>rw (Mx.Jz p (red p t m) (Kc p t m) m u)
def lq (p)(u:Nat):∀ (l:Ï)(v:Ξ),Mx.KZ p u l v=l.foldl (λb z=>b.set z.2 ((0 - Mx.e z.1 u) % p)) v:=by
 intro r'
 induction r' with
 | nil=>
  intro _;show rfl
 | cons _ l ih'=>
  intro _;show ih' _
def Ek (l:À):Aq l=rw (l.map λ(a:Nat)=>(a:Int)):=by rw[show rw _=.lst (List.map D.int _) from rfl,F9];rfl
inductive tV (C:Addr):Ä
 |mk {p:Int}{m:Nat}{t:Θ}:My.LL p=true->p<=1000000->UU p m t->tV C [fD C p,tb t,.int m] (mj p t m)
def Ah [Bx:Bd](T)(JX)(Ll)(KI)(JY):Tk 6 "nought" (top 55) â (Pr (tV C)):=by
 show Ks ["rows","places","unled","told","row","place"] ?_ λ_ _ _ _ _ _ _ hr ND=>(qC (qs 3 ND<|dF Ll hr.m rfl (da (Đ 0)<|da (Đ 1) Š))
 (qC (qs 4 ND<|dF JX hr.m rfl (da (Đ 3)<|da (Đ 2) J4))
 (qC (qS (aO (i:=5) ND rfl rfl rfl (cS 1 [4] ["place","places"]) SZ
  ė
  (λ_ _ _ _ _=>bF<|RI (aK hr) (Đ 0) (Đ 1))
  ł) λ_ _ _=>n9 (K:=Bx.K) (n:=0))
 (qC (qI (dT aV bK (cD T.Jo<|Đ 5) dI)
  (qr P0)
  q0)
 (qC (qo 6 ND<|dFN KI hr.m rfl (da (Đ 2)<|da (Js hr (Đ 5) dI) J4))
 (qC (qL Fe rfl (iZ rfl T.Lq<|da (Đ 3) (da (Đ 4) J4)) (bX Bx.K rfl<|ae ZB (ae (pN 8 ND) aB)) (cr Bx.K [7,8])
  (q1<|qSI (x6 (OI (Đ 0) JY hr.m<|da dI (da (Js hr (Đ 7)<|Js hr (Đ 5) dI) J4))<|W7 (pv 6) (Đ 8) Bz) (λ_ _ _ h=>h)))
 (qr<|Đ 6)))))))
 rintro _ _ @⟨p,m,t,hP,RT,S⟩;let Qz:2<=p:=((My.Jb p).mp hP).1;let Wl:=S.Wl;let#[ps,h1,h2,h3,Sr]:=sj hP S m;let hf:=Sr.Ka;let eps:Kc p t m=ps:=Mx.Kn h2;show .nx #[#[4],#[hP,RT,S,Fg _]] (.nx #[#[3],#[by omega,λr hr=>by rw[Sr.sh.Nm r hr];omega]] (.nx #[be (xs:=List.range m) (λq=>not (decide (q∈Kc p t m))) #[m,by omega,#[2],(bg _).symm] (by rw[FO];omega) λq _=>#[_,1,#[2,?_],λ_=>rfl]] ?_))
 ·let:=gb (n:=true) (i:=q) (ks:=(Kc p t m).map λ(a:Nat)=>(a:Int));rw[<- Ek,if_pos rfl]at this;rwa [show decide ((q:Int)∈(Kc p t m).map λ(a:Nat)=>(a:Int))=decide (q∈Kc p t m) from Hr.mpr #[λh=>let ⟨a,h1,h2⟩:=F8.mp h;Int.ofNat.inj h2▸h1,Fd]]at this
 rw[show (List.range m).filter (λq=>not (decide (q∈Kc p t m)))=gr p t m from rfl];let rd:=eq_int (ε:=[some<|fD C p,some<|tb t,some<|.int m,some<|tb (red p t m),some<|Aq (Kc p t m),some<|Aq (gr p t m),none,none,none]) (ra:=rF KQ<|rA (rV 5) Nq) (rb:=rC<|.int 0) #[#[2],KQ.m] rfl;unfold mj
 cases hu:gr p t m with
 | nil=>rw[hu]at rd;show .rt (.t rd #[2])
 | cons u us=>
  rw[hu]at rd;rw[F5 (by simp;omega)]at rd;let um:u<m:=FS.mp (Fn.mp (by rw[show (List.range m).filter _=gr p t m from rfl,hu];show Fw:u∈(List.range m).filter λq=>not (decide (q∈Kc p t m)))).1;show .nx (.f rd rfl) (.nx #[#[1,#[2,.l .lst<|tL (i:=0) (x:=u) rfl],1],#[by omega]] ?_);show DP ((red p t m).zip<|Kc p t m) (u:=λz=>.tup [rw z.1,.int (z.2:Int)]) (λb ε=>b.length=m/\∃ o7 o8,ε=[.fz<|fD C p,.fz<|tb t,.fz<|.int m,.fz<|tb (red p t m),.fz<|Aq (Kc p t m),.fz<|Aq (u::us),.ow<|rw b,o7,o8]) (λb z=>b.set z.2<|(0 - Mx.e z.1 u) % p) (b:=Mx.J3 m u) ⟨Mx.Ji _ _,_,_,rfl⟩ ⟨_,_,⟨rfl,rfl,rfl⟩,by rw[jo,F9];rfl⟩ (λb z ε hz gR=>?_) λε gR=>?_
  ·let#[hb,o7,o8,he]:=gR;subst he;let hq:z.2<m:=h2.lt _<|eps▸(GN hz).2;let hw:=Sr.sh.Nm _ (GN hz).1;show#[_,#[_,3],_,#[1,.z #[1,by decide,#[1,#[1,#[2,.l .lst<|tL (i:=0) (x:=u) rfl],.l .lst<|bC ġ],1],#[by omega]],1,Es<|by simpa [hb] using hq],by simpa using hb,.fz<|rw z.1,.fz<|.int (z.2:Int),?_];rw[show rw (b.set _ _)=.lst (List.map D.int<|b.set _ _) from rfl,List.map_set];rfl
  ·let#[hb,o7,o8,he]:=gR;subst he;show#[1,by change Fl.rt (rw (Mx.KZ p u _ _))=_;rw[lq]]
theorem dQ (p)(t:Θ)(m):D:=match uG p t m with
 | .non=>.tup [.str "alike",rw C7,mj p t m]
 | d=>.tup [.str "reads",d]
inductive jk (C:Addr):Ä
 |mk {p:Int}{m:Nat}{t:Θ}:My.LL p=true->p<=1000000->UU p m t->m<=100->jk C [fD C p,tb t,.int m] (dQ p t m)
def sK [Bx:Bd](P9:JB 6 "reader" â (Pr (OR C)))(P':JB 6 "nought" â (Pr (tV C))):Tk 7 "judgement" (top 67) â (Pr (jk C)):=by
 show Ks ["read"] ?_ λ_ _ _ _ _ _ _ hr ND=>(qC (qs 3 ND<|dF P9 hr.m rfl (da (Đ 0)<|da (Đ 1) Š))
 (qC (qI (dT eM nO (Đ 3) P0)
  (qr<|jf (da bi<|da (Đ 3) J4))
  q0)
 (qr<|jf (da bi<|da (dO kB ve (c9<|da dI J4).p<|Đ 2) (da (dF P' hr.m rfl<|da (Đ 0) (da (Đ 1)<|da (Đ 2) J4)) J4)))))
 rintro _ _ @⟨p,m,t,hP,RT,S,hm⟩;let c1:=OR.mk (C:=C) hP RT S hm;unfold dQ;unfold uG at c1 ⊢;by_cases c:(Kc p ő m).length<m
 ·rw[if_pos c]at c1 ⊢;show .nx #[#[4],c1] (.nx (.f #[2,by show#[0]] rfl) #[#[#[1,#[#[#[2],by simp,1],1,#[by omega]],#[#[4],#[hP,RT,S]],1],by simp,1],by rw[show rw C7=.lst (List.map D.int<|List.replicate m 0) from rfl,IM];rfl])
 ·rw[if_neg c]at c1 ⊢;show .nx #[#[4],c1] (.rt<|.t #[2,by show#[0]] #[#[#[3],by simp,1],1])
universe e
abbrev gx (c:Cl)(p:Str×Kd):D:=.ins (c.of p.2) ["name"] [.str p.1]
abbrev bV (t:JM):D:=.tup [.int t.1,.str t.2.1,.str t.2.2.1,.int t.2.2.2]
abbrev BO (c:Cl)(S:NS):D:=Km (S.J'.map λp=>(.inr p.1,gx c p))
abbrev Zl (S:NS):D:=Km (S.J0.map λt=>(.inl t.1,bV t))
abbrev aD (c:Cl)(S:NS):D:=.ins c.JQ ["kept_posts","kept_ties","next_number"] [BO c S,Zl S,.int S.next]
abbrev aI (l:η):D:=.lst (l.map .str)
abbrev bQ (ts:List JM):D:=.lst (ts.map bV)
theorem NS.names (S:NS):η:=S.J'.map (·.1)
theorem NS.Jt (S:NS):η:=(S.J'.filter λp=>YI p.2).map (·.1)
theorem NS.JR (S:NS):Option (Str×Kd):=S.J'.find? λp=>not (U1 p.2)
theorem qH:Option (Str×Kd)->D
 | none=>.non
 | some p=>.str p.1
def jJ {S:NS}:(cI (S.J'.map λp=>(.inr p.1,gx c p)) (.inr x)).isSome=decide (x∈S.names):=X0
section
variable {c:Cl}
def Cl.Ok.X8 [Bx:Bd](O):∀ C,C=c.JQ->MZ Bx.K C/\JE Bx.K C "kept_posts":=λ_ h=>h▸#[O.cn,O.fp]
def Cl.Ok.ft' [Bx:Bd](O):∀ C,C=c.JQ->MZ Bx.K C/\JE Bx.K C "kept_ties":=λ_ h=>h▸#[O.cn,O.ft]
def Cl.Ok.nm' [Bx:Bd](O):∀ C,jn c C->MZ Bx.K C/\JE Bx.K C "name":=λ_ gR=>by let#[k,h]:=gR;show h▸#[O.cls k,O.Wm k]
inductive iI (b:Bool):Ä
 |mk {d:D}:iI b [d] (.bl b)
def dA [Bx:Bd](F:O7 Ky 1 f fd Ý (gL (.bl b))):O7 Ky 1 f fd Ý (Pr (iI b)):=F.imp fun vs H Q E ⟨_,_,_,s,h,⟨⟩,q⟩=>let ⟨v,ws,e,_,e2⟩:=h;#[v,by rw[e,e2],q _ H Ĩ rfl]
inductive bN (c:Cl):Ä
 |mk {S:NS}{x:Str}:x.length<=1000->j7 x=true->x∉S.names->bN c [aD c S,.str x] .non
inductive O6:Ä
 |mk {x:Str}:x.length<=1000->O6 [.str x] (.bl (j7 x))
def gD [Bx:Bd](O)(Ox:JB 1 "is_name" ["name"] (Pr O6)):Tm 2 "check_new_name" "Net.check_new_name" (ak (top 35) 4) Ü (Pr (bN c)):=by
 show dw [] ?_ λ_ _ _ _ _ _ _ hr ND=>(qC (qI (AT<|dV (cL<|dF Ox hr.m rfl A6))
  (q1 qN)
  q0)
 (q1 (qI (TV (aK hr) (Đ 1)<|QA O.X8 (Đ 0))
  (q1 qN)
  q0)))
 rintro _ _ @⟨S,x,hx,h1,h2⟩;let d1:=O6.mk hx;rw[h1]at d1;show#[1,.inr #[1,_,.nx (.f #[#[2],d1] rfl)<|.f #[1,#[3],.k rfl rfl (by rw[jJ,F5 h2];rfl)] rfl]]
inductive yd (c:Cl):Ä
 |mk {S:NS}:yd c [aD c S] (aI S.names)
def sP [Bx:Bd](O)(T:jT Bx.mg):Tm 1 "names" "Net.names" (ak (top 35) 11) Ý (Pr (yd c)):=by
 show Ks [] ?_ λ_ _ _ _ _ _ _ hr ND=>(qr<|Sn fS (cW rfl) rfl T.MH boot_list (da (QA O.X8<|Đ 0) J4))
 rintro _ _ @⟨S⟩;show#[#[#[#[3],1],.k],by rw[F9];change Fl.rt (.lst<|List.map _ (List.map _ _))=_;rw[F9];rfl]
inductive bA (c:Cl):Ä
 |mk {S:NS}:S.J'.length<=1000->bA c [aD c S] (aI S.Jt)
def mK (l:List α)(f:α->Key)(g:α->D):l.map g=(l.map λx=>(f x,g x)).map (·.2):=by rw[F9];rfl
def kF [Bx:Bd](O)(N7):Tm 2 "listeners" "Net.listeners" (ak (top 35) 12) Ý (Pr (bA c)):=by
 show Ks [] ?_ λ_ _ _ _ _ _ _ hr ND=>(qr (dLv 0 rfl (cS 1 [] ["post"]) (nj<|QA O.X8 (Đ 0))
  ė
  (λ_ _ _ _ _=>bF<|dV (cL<|EG (Đ 0) N7 hr.m))
  (λ_ _ _ _ _=>QA O.nm'<|Đ 0)))
 rintro _ _ @⟨S,hl⟩;show#[be (λp=>YI p.2) #[#[3],mK _ _ _] hl λp _=>#[_,1,#[1,#[_,1],by decide,by rw[<- gS O];show#[0]],λ_=>#[1,#[_,1],1]],by change Fl.rt (.lst<|List.map _ (List.map _ _))=_;rw[F9];rfl]
inductive wJ (c:Cl):Ä
 |mk {S:NS}:wJ c [aD c S] (qH S.JR)
def v6 [Bx:Bd](O)(Na):Tm 2 "home" "Net.home" (ak (top 35) 13) Ý (Pr (wJ c)):=by
 show Ks ["post"] ?_ λ_ _ _ _ _ _ _ hr ND=>(qC (qLv Fe rfl (nj<|QA O.X8 (Đ 0)) (pN 1 ND) (aG 1)
  (q1 (qI (AT<|dV (cL<|EG (Đ 1) Na hr.m))
  (qr<|QA O.nm' (Đ 1))
  q0)))
 (qr P0))
 rintro _ _ @⟨S⟩;show ?_;show fH S.J' (λε=>∃ o,ε=[.fz _,o]) (λp=>not (U1 p.2)) (λp=>.str p.1) #[_,1] #[#[3],mK _ _ _] (λp ε _ gR=>?_) (λp h=>by unfold NS.JR;rw[h];rfl) λh ε _=>#[1,by unfold NS.JR;rw[h];rfl]
 let#[o,he]:=gR;subst he;let hb:iI (not (decide (c.of p.2=c.house))) [gx c p] (.bl<|U1 p.2):=by rw[<- gZ O];show#[0]
 show#[_,1,?_]
 cases z:U1 p.2 with
 | true=>rw[z]at hb;show#[_,.f #[1,#[_,1],by decide,hb] rfl,_,1]
 | false=>rw[z]at hb;show .t #[1,#[_,1],by decide,hb] #[#[1,#[_,1],1],1]
inductive jU (c:Cl):Ä
 |mk {S:NS}:S.J0.length<=1000->jU c [aD c S] (bQ S.J0)
def uZ [Bx:Bd](O):Tm 1 "ties" "Net.ties" (ak (top 35) 14) Ý (Pr (jU c)):=by
 show Ks [] ?_ λ_ _ _ _ _ _ _ hr ND=>(qr (dLv 4 rfl (cS 4 [] ["number","one","other","delay"]) (nj<|QA O.ft' (Đ 0))
  ļ
  Mf
  (λ_ _ _ _ _=>jf<|da (Đ 0) (da (Đ 1)<|da (Đ 2) UF))))
 rintro _ _ @⟨S,hl⟩;show#[aU #[#[3],mK _ _ _] hl λt _=>#[_,#[2],#[5],by simp,1],1]
inductive cO (c:Cl):Ä
 |mk {S:NS}{x:Str}:x∈S.names->cO c [aD c S,.str x] .non
def j4 [Bx:Bd](O):Tm 1 "check_there" "Net.check_there" (ak (top 35) 8) Ü (Pr (cO c)):=by
 show dw [] ?_ λ_ _ _ _ _ _ _ hr ND=>(q1 (qI (RI (aK hr) (Đ 1)<|QA O.X8 (Đ 0))
  (q1 qN)
  q0))
 rintro _ _ @⟨S,x,h⟩;show#[1,.inr #[1,_,.f #[1,#[3],.k rfl rfl (by rw[jJ,EZ h];rfl)] rfl]]
theorem NS.into (S:NS)(x):Ξ:=(S.J0.filter λt=>decide (t.2.2.1=x)).map (·.1)
theorem NS.Lp (S:NS)(x):Ξ:=(S.J0.filter λt=>decide (t.2.1=x)).map (·.1)
inductive rE (c:Cl) (g:NS->Str->Ξ):Ä
 |mk {S:NS}{x:Str}:S.J0.length<=1000->x∈S.names->rE c g [aD c S,.str x] (rw (g S x))
def eq_str (ha:ra ε (.str x))(hb:rb ε (.str y)):rO K2 ra rb ε (.bl (decide (x=y))):=.mk ha hb (.mk rfl rfl rfl<|congrArg D.bl (by show Hr.mpr #[congrArg V.str,V.str.inj]))
def v4 [Bx:Bd](Jc)(J8):Tm 2 "into" "Net.into" (ak (top 35) 15) Ü (Pr (rE c NS.into)):=by
 show Ks [] ?_ λ_ _ _ _ _ _ _ hr ND=>(qC (qE<|OI (Đ 0) Jc hr.m A6)
 (qr (O8 4 rfl (cS 4 [1] ["number","one","other","delay","name"]) (aw<|gk (Đ 0) J8 hr.m)
  ļ
  (λ_ _ _ _ _=>bF<|dT aV bK (Đ 2) (Đ 4))
  ł)))
 rintro _ _ @⟨S,x,hl,hx⟩;show .nx #[#[1,by decide,#[2],#[hx]]] #[be (u:=bV) (λt=>decide _) #[#[2,by decide,#[hl]],.l .lst] hl λt _=>#[_,#[2],eq_str rfl rfl,λ_=>rfl],Pf _ _]
def pB [Bx:Bd](Jc)(J8):Tm 2 "out_of" "Net.out_of" (ak (top 35) 16) Ü (Pr (rE c NS.Lp)):=by
 show Ks [] ?_ λ_ _ _ _ _ _ _ hr ND=>(qC (qE<|OI (Đ 0) Jc hr.m A6)
 (qr (O8 4 rfl (cS 4 [1] ["number","one","other","delay","name"]) (aw<|gk (Đ 0) J8 hr.m)
  ļ
  (λ_ _ _ _ _=>bF<|dT aV bK (Đ 1) (Đ 4))
  ł)))
 rintro _ _ @⟨S,x,hl,hx⟩;show .nx #[#[1,by decide,#[2],#[hx]]] #[be (u:=bV) (λt=>decide _) #[#[2,by decide,#[hl]],.l .lst] hl λt _=>#[_,#[2],eq_str rfl rfl,λ_=>rfl],Pf _ _]
universe e
inductive iR (ts:List JM) (x:Str):Str->Prop
 |refl:iR ts x x
 |step {t:JM}:t∈ts->iR ts x t.2.1->iR ts x t.2.2.1
abbrev nZ (R:η):D:=Km (R.map λy=>(.inr y,.bl true))
def nY {R:η}:(cI (R.map λy=>((.inr y:Key),D.bl true)) (.inr y)).isSome=decide (y∈R):=by simp[X0]
abbrev kN (nm:Str)(b:List Str×η)(t:JM):List Str×η:=if t.2.1=nm/\t.2.2.1∉b.1 then (b.1++[t.2.2.1],b.2++[t.2.2.1]) else b
inductive Led (ts:List JM) (R':η):Nat->List Str×List Str->Prop
 |done:Led ts R' 0 (R',[])
 |step {n:Nat}{R W:η}{nm:Str}:Led ts R' n (ts.foldl (kN nm) (R,W))->Led ts R' (n+1) (R,W++[nm])
theorem nr (ts:List JM)(R:η):Nat:=ts.countP λt=>decide (t.2.2.1∉R)
def yM (ht:t∈ts)(h:t.2.2.1∉R):nr ts (R++[t.2.2.1])<nr ts R:=by
 let#[a,b,1]:=List.append_of_mem ht;unfold nr;let k:∀ l:List JM,l.countP (λu=>decide (u.2.2.1∉R++[t.2.2.1]))<=l.countP λu=>decide _:=λl=>List.countP_mono_left λu _ z=>EZ λy=>Fq z<|FV _ y;let:=k a;let:=k b;rw[List.countP_append,List.countP_append,List.countP_cons_of_neg<|by simp,List.countP_cons_of_pos<|by simpa using h]
 lia
structure ES (ts:List JM) (x:Str) (b:List Str×η):Prop where
 ld:∀ y∈b.1,iR ts x y
 Ka:b.1.length+nr ts b.1<=1+ts.length
def nX (hn:iR ts x nm):∀ (us:List JM)(b:List Str×η),(∀ t∈us,t∈ts)->ES ts x b->(∀ y∈b.2,y∈b.1)->ES ts x (us.foldl (kN nm) b)/\(∀ y∈(us.foldl (kN nm) b).2,y∈(us.foldl (kN nm) b).1)/\2 * nr ts (us.foldl (kN nm) b).1+(us.foldl (kN nm) b).2.length<=2 * nr ts b.1+b.2.length:=by
 intro r'
 induction r' with
 | nil=>
  intro b _ I h;show #[I,h,Fg _]
 | cons t us ih'=>
  intro b ht I h;rw[GD];let PF:=λu hu=>ht u<|Fp _ hu;by_cases c:t.2.1=nm/\t.2.2.1∉b.1
  ·let ol:=yM (ht t Fw) c.2;rw[show kN nm b t=_ from if_pos c];let#[h1,h2,h3]:=ih' (b.1++[t.2.2.1],b.2++[t.2.2.1]) PF #[λy hy=>(FC.mp hy).elim (I.ld y) λz=>by rw[Fr.mp z];show .step (ht t Fw)<|c.1▸hn,by let:=I.Ka;simp;lia] λy hy=>(FC.mp hy).elim (λz=>FV _<|h y z)<|FH _;show#[h1,h2,by simp at h3 ol ⊢;lia]
  ·rw[show kN nm b t=_ from if_neg c];show ih' b PF I h
def Cw:∀ (n:Nat)(R W:η),2 * nr ts R+W.length<=n->ES ts x (R,W)->(∀ y∈W,y∈R)->∃ R' k,Led ts R' k (R,W)/\ES ts x (R',[]):=by
 intro n
 induction n with
 | zero=>
  intro R W hn I h;rcases List.eq_nil_or_concat W with rfl|⟨W,nm,rfl⟩
  ·show#[R,(0),.done,I.ld,I.Ka]
  ·simp at hn
 | succ n ih=>
  intro R W hn I h;rcases List.eq_nil_or_concat W with rfl|⟨W,nm,rfl⟩
  ·show#[R,(0),.done,I.ld,I.Ka]
  ·rw[List.concat_eq_append]at hn h I ⊢;let#[h1,h2,h3]:=nX (I.ld nm<|h nm (by simp)) ts (R,W) (λ_ z=>z) #[I.ld,I.Ka] λy hy=>h y (by simp[hy]);let#[R',k,a,b]:=ih _ _ (by simp at hn h3;lia) h1 h2;show#[R',k+1,.step a,b]
def Wz (ts:List JM)(x):∃ R n,Led ts R n ([x],[x])/\(∀ y∈R,iR ts x y)/\R.length<=1+ts.length:=by let#[R,n,h1,h2,h3]:=Cw (ts:=ts) _ [x] [x] (Fg _) #[λy hy=>by rw[Fr.mp hy];show .refl,by simp[nr,List.countP_le_length]] λ_ z=>z;show#[R,n,h1,h2,by grind]
inductive tZ:Ä
 |mk {ts:List JM}{x:Str}{R:η}{n:Nat}:ts.length<=900->Led ts R n ([x],[x])->tZ [bQ ts,.str x] (nZ R)
def Ai [Bx:Bd](T:jT Bx.mg):Tk 1 "led_to" (top 30) ["ties","start"] (Pr tZ):=by
 show Ks ["reached","waiting","name","number","one","other","delay"] ?_ λ_ _ _ _ _ _ _ hr ND=>(qC (qo 2 ND<|dD1 (Đ 1) OQ)
 (qC (qo 3 ND<|c9 A6)
 (qC (qW Fe (dT iM cg (cD T.Jo<|Đ 3) dI)
  (qC (a2N<|pS 4 ND (a4W Bx.K Fs PySem.F.slot_list_pop PySem.F.type_list_pop Wo<|pv 3))
 (q1 (Pg Fe rfl K4 (bX Bx.K rfl<|ae XV (ae (pN 6 ND)<|ae ZB (ae (pN 8 ND) aB))) (cr Bx.K [5,6,7,8])
  (q1 (qI (PW.pt<|jQ (dT aV bK (Đ 6)<|Đ 4) (bS<|RI (aK hr) (Đ 7) (Đ 2)))
  (qC (qP (bB (aK hr) (pv 2) (Đ 7) OQ rfl) λ_ _ _ h=>h)
 (q1<|qA (aF<|P2 Bx.K Fs FA Fy aH (pv 3) (a9 (Đ 7) IZ)) (λ_ _ _ h=>h)))
  q0))))))
 (qr<|Đ 2))))
 rintro _ _ @⟨ts,x,R,n,hl,L⟩;show .nx #[#[1,kS,2]] (.nx #[#[#[2],by simp,1]] ?_);let o0:nr ts [x]<=ts.length:=List.countP_le_length;show eZ (b:=(n,[x],[x])) (λb ε=>Led ts R b.1 b.2/\b.2.2.length<=b.2.1.length/\b.2.1.length+nr ts b.2.1<=1+ts.length/\∃ o4 o5 o6 o7 o8,ε=[.fz<|bQ ts,.fz<|.str x,.ow<|nZ b.2.1,.ow<|aI b.2.2,o4,o5,o6,o7,o8]) (·.1) ⟨L,Fg _,Nat.add_le_add_left o0 _,_,_,_,_,_,rfl⟩ λgR ε Ut=>?_;let#[n,b]:=gR;let#[L,hw,hf,o4,o5,o6,o7,o8,he]:=Ut;dsimp only at L hw hf he;subst he;let rd:=gt_int (ε:=[some<|bQ ts,some<|.str x,some<|nZ b.1,some<|aI b.2,o4.a,o5.a,o6.a,o7.a,o8.a]) (ra:=rF KQ<|rA (rV 3) Nq) (rb:=rC<|.int 0) #[#[2],KQ.m] rfl
 cases L with
 | done=>show .inl #[rd,2]
 | @step n R' W nm L=>
  rw[EZ<|by simp]at rd;let hw:W.length+1<=R'.length:=by simpa using hw
  show .inr #[rd,(n,ts.foldl (kN nm) (R',W)),oq (ε1:=[.fz<|bQ ts,.fz<|.str x,.ow<|nZ R',.ow<|aI W,.fz<|.str nm,o5,o6,o7,o8]) (by rw[show aI (W++[nm])=.lst (W.map .str++[.str nm]) from congrArg D.lst Fa];show⟨rfl⟩) ?_];show a0F (u:=bV) ts (λb ε=>b.2.length<=b.1.length/\b.1.length+nr ts b.1<=1+ts.length/\∃ o5 o6 o7 o8,ε=[.fz<|bQ ts,.fz<|.str x,.ow<|nZ b.1,.ow<|aI b.2,.fz<|.str nm,o5,o6,o7,o8]) (kN nm) (b:=(R',W)) ⟨by change W.length<=R'.length;lia,hf,_,_,_,_,rfl⟩ ⟨rfl,.l .lst⟩ (λb t ε ht gR=>?_) λε' gR=>by let#[hb,hf,o5,o6,o7,o8,he]:=gR;show#[#[L,hb,hf,_,_,_,_,_,he],Gv _]
  let#[hb,hf,o5,o6,o7,o8,he]:=gR;subst he;let r1:=eq_str (ε:=[some<|bQ ts,some<|.str x,some<|nZ b.1,some<|aI b.2,some<|.str nm,some<|.int t.1,some<|.str t.2.1,some<|.str t.2.2.1,some<|.int t.2.2.2]) (ra:=rV 6) (rb:=rV 4) rfl rfl;by_cases c1:t.2.1=nm
  ·rw[EZ c1]at r1;by_cases c2:t.2.2.1∈b.1
   ·show#[_,#[_,3],_,.f (.t r1 #[2,.k rfl kS (by rw[nY,EZ c2];rfl)]) rfl,by rw[show kN nm b t=b from if_neg λz=>z.2 c2];show#[hb,hf,_,_,_,_,1]]
   ·let ol:=yM ht c2;show#[_,#[_,3],_,.t (.t r1 #[2,.k rfl kS (by rw[nY,F5 c2];rfl)])<|.nx #[1,by rw[EV];lia,.z rfl,1,kS] #[1,by rw[EV];lia,.z rfl],?_];rw[show kN nm b t=_ from if_pos #[c1,c2]];show#[by simpa using hb,by simp;lia,.fz<|.int t.1,.fz<|.str t.2.1,.fz<|.str t.2.2.1,.fz<|.int t.2.2.2,?_];rw[cf λz=>c2<|by simpa using z];dsimp only;rw[show nZ (b.1++[t.2.2.1])=Km (b.1.map (λy=>((.inr y:Key),D.bl true))++[(.inr t.2.2.1,.bl true)]) from congrArg Km Fa,show aI (b.2++[t.2.2.1])=.lst (b.2.map .str++[.str t.2.2.1]) from congrArg D.lst Fa];rfl
  ·rw[F5 c1]at r1;show#[_,#[_,3],_,.f (.f r1) rfl,by rw[show kN nm b t=b from if_neg λz=>c1 z.1];show#[hb,hf,_,_,_,_,1]]
universe K72
namespace Mw
def PH [DecidableEq β](g:α->β):∀ (xs:List β)(ts:List α),xs.Nodup->(∀ t∈ts,g t∈xs)->(xs.flatMap λx=>ts.filter λt=>decide (g t=x)).Perm ts:=by
 intro r'
 induction r' with
 | nil=>
  intro ts _ h
  cases ts with
  | nil=>show .nil
  | cons t _=>show absurd (h t<|by simp) Ğ
 | cons x xs ih'=>
  intro ts nd h;let nd:=FM.mp nd;rw[GX];let e:(xs.flatMap λy=>ts.filter λt=>decide (g t=y))=xs.flatMap λy=>(ts.filter λt=>not (decide (g t=x))).filter λt=>decide (g t=y):=by
   rw[List.flatMap_def,List.flatMap_def];congr 1;show FG λy hy=>?_;rw[List.filter_filter];show Ii λt _=>?_;by_cases c:g t=y
   ·let:¬ g t=x:=λz=>nd.1 (by rw[<- z,c];show hy);simp[c,this];intro z;show this (c.trans z)
   ·simp[c]
  rw[e];let ih:=ih' (ts.filter λt=>not (decide (g t=x))) nd.2 λt ht=>by
   let#[h1,h2]:=Fn.mp ht;let h3:=h t h1;rcases Fv.mp h3 with z|z
   ·simp[z]at h2
   ·show z
  show (List.Perm.append_left _ ih).trans (List.filter_append_perm _ _)
def Qi [DecidableEq β]:∀ (l1 l2:List β),l1.Nodup->(∀ x∈l1,x∈l2)->l2.length<=l1.length->∀ x∈l2,x∈l1:=by
 intro r'
 induction r' with
 | nil=>
  intro l2 _ _ hl x hx
  simp_all
 | cons a l1 ih'=>
  intro l2 nd sub hl x hx;let nd:=FM.mp nd;let ha:=sub a Ğ;by_cases c:x=a
  ·rw[c];simp
  ·show Fp _ (ih' (l2.erase a) nd.2 (λy hy=>?_) ?_ x ?_)
   ·grind
   ·grind
   ·simp_all
def RJ {l1:Ξ}(p:l1.Perm l2)(h1:l1.Pairwise (·<=·))(h2:l2.Pairwise (·<=·)):l1=l2:=
 List.Perm.eq_of_pairwise (λa b _ _ h3 h4=>Int.le_antisymm h3 h4) h1 h2 p
universe Mw
namespace K72
open PySem L2
open PyProof.Rows (boot_all boot_bool boot_dict boot_int boot_list boot_sorted boot_str boot_tuple)
structure EO (mg:Ω):Prop where
 L':mg "dict"=none
 SO:mg "sorted"=none
section
variable {c:Cl}{f:Addr}
def E4 {S:NS}(h:x∈S.names):∃ p∈S.J',p.1=x/\cI (S.J'.map λp=>(.inr p.1,gx c p)) (.inr x)=!gx c p:=by let:=jJ (c:=c) (S:=S) (x:=x);rw[EZ h,gG,Option.isSome_map,Gu]at this;let#[p,hp]:=this;show#[p,FT hp,Sum.inr.inj<|Fq (GH (p:=λp:Str×Kd=>decide ((Sum.inr p.1)=.inr x)) hp),by rw[gG,hp];rfl]
inductive ia (c:Cl):Ä
 |mk {S:NS}{x y:Str}:x∈S.names->y∈S.names->S.J0.length<=900->(∀ p∈S.J',p.1=y->U1 p.2=true)->¬ iR S.J0 y x->ia c [aD c S,.str x,.str y] .non
def jA [Bx:Bd](O)(Na)(Jc)(J8)(Pa:JB 1 "led_to" ["ties","start"] (Pr tZ)):Tm 2 "check_ends" "Net.check_ends" (ak (top 35) 7) ã (Pr (ia c)):=by
 show dw [] ?_ λ_ _ _ _ _ _ _ hr ND=>(qC (qE<|OI (Đ 0) Jc hr.m A6)
 (qC (qE<|OI (Đ 0) Jc hr.m Š)
 (qC (qI (AT<|dV (cL<|EG (Js hr (QA O.X8<|Đ 0)<|Đ 2) Na hr.m))
  (q1 qN)
  q0)
 (q1 (qI (TV (aK hr) (Đ 1)<|dF Pa hr.m rfl (da (gk (Đ 0) J8 hr.m)<|da (Đ 2) J4))
  (q1 qN)
  q0)))))
 rintro _ _ @⟨S,x,y,hx,hy,hl,hk,hn⟩;let#[p,hp,ep,hv]:=E4 hy;let hb:iI (not (decide (c.of p.2=c.house))) [gx c p] Ŗ:=by rw[gZ O,hk p hp ep];show#[0]
 let#[R,n,h1,h2,_]:=Wz S.J0 y;show#[1,.inr #[1,_,.nx #[#[1,by decide,#[2],#[hx]]]<|.nx #[#[1,by decide,#[2],#[hy]]] (.nx (.f #[#[#[3],1,.k hv kS],#[_,1],by decide,hb] rfl)<|.f ⟨rfl,⟨⟨⟨rfl,rfl,by decide,⟨by omega⟩⟩,rfl,rfl⟩,⟨hl,h1⟩⟩,.k rfl kS (by rw[nY,F5 λz=>hn<|h2 x z];rfl)⟩ rfl)]]
theorem gQ (ts:η)(b:Str×η):Bool:=not (decide (b.1∈ts))&&b.2.all λy=>decide (y∈ts)
theorem bG (bs)(ts:η):Option Str:=(bs.find? (gQ ts)).map (·.1)
theorem VT:Option Str->D
 | none=>.non
 | some x=>.str x
abbrev tJ (bs:List (Str×η)):D:=Km (bs.map λb=>(.inr b.1,aI b.2))
inductive Li:Ä
 |mk {bs:List (Str×η)}{ts:η}:(bs.map (·.1)).Nodup->(∀ b∈bs,b.2.length<=1000)->Li [tJ bs,aI ts] (VT (bG bs ts))
def Zb {l:List α}{f:α->Str}(h:(l.map f).Nodup){g:α->D}:((l.map λx=>((.inr (f x):Key),g x)).map (·.1)).Nodup:=by
 rw[F9];let:(l.map f).map (Sum.inr)=l.map ((λx:Key×D=>x.1) ∘ λx=>(.inr<|f x,g x)):=by rw[F9];rfl
 rw[<- this];show HG _ (λ_ _ h z=>h<|Sum.inr.inj z) h
def pE {l:List α}{f:α->Int}(h:(l.map f).Nodup){g:α->D}:((l.map λx=>((.inl (f x):Key),g x)).map (·.1)).Nodup:=by
 rw[F9];let:(l.map f).map (Sum.inl)=l.map ((λx:Key×D=>x.1) ∘ λx=>(.inl<|f x,g x)):=by rw[F9];rfl
 rw[<- this];show HG _ (λ_ _ h z=>h<|Sum.inl.inj z) h
def nJ [Bx:Bd](T:jT Bx.mg):Tk 1 "first_ready" (top 31) ["begins","told"] (Pr Li):=by
 show Ks ["name"] ?_ λ_ _ _ _ _ _ _ hr ND=>(qC (Pg Fe rfl K4 (pN 2 ND) (aG 2)
  (q1 (qI (PW.pt (jQ (RI (aK hr) (Đ 2)<|Đ 1) (bS (dV (cL (dB Dh (kX Bx.K rfl) rfl T.SR boot_all (da (O8 0 rfl (cS 1 [1] ["one","told"]) (aw<|Js hr (Đ 0) (Đ 2))
  ė
  Mf
  (λ_ _ _ _ _=>dIn (aK hr) (Đ 0)<|Đ 1)) J4)))))))
  (qr<|Đ 2)
  q0)))
 (qr P0))
 rintro _ _ @⟨bs,ts,nd,hl⟩;show ?_;show fH bs (λε=>∃ o,ε=[.fz<|tJ bs,.fz<|aI ts,o]) (gQ ts) (λb=>.str b.1) #[_,1] #[1,Itm.m] (λb ε hb gR=>?_) (λb h=>by unfold bG;rw[h];rfl) λh ε _=>#[1,by unfold bG;rw[h];rfl]
 let#[o,he]:=gR;subst he;show#[_,1,?_];unfold gQ;by_cases c:b.1∈ts
 ·rw[EZ c];show#[_,.f (.f #[2,by let:=ip (n:=true) (i:=b.1) (ks:=ts);rwa [EZ c]at this]) rfl,_,1]
 ·rw[F5 c];let r1:rO (TB true) (rV 2) (rV 1) [some<|tJ bs,some<|aI ts,some<|.str b.1] Ŗ:=#[2,by let:=ip (n:=true) (i:=b.1) (ks:=ts);rwa [F5 c]at this]
  let r2:rF Tr (rA (rL 0 [1] (Sb<|rO Sub (rV 0) (rV 2)) uJ<|rO (TB false) (rV 0) (rV 1)) Nq) [some<|tJ bs,some<|aI ts,some<|.str b.1] (.bl<|b.2.all λy=>decide (y∈ts)):=#[#[aU #[#[2,.k (dE (Zb nd)<|Fd hb) kS],.l .lst] (hl b hb) λy _=>#[_,3,ip],1],by let:=Tr.mk (by rw[F9];rfl:b.2.map (λy=>D.bl<|decide (y∈ts))=_);rwa [List.all_map]at this]
  cases z:b.2.all λy=>decide (y∈ts) with
  | true=>rw[z]at r2;show .t (.t r1 r2) #[2]
  | false=>rw[z]at r2;show#[_,.f (.t r1 r2) rfl,_,1]
theorem QG {α:Type}(f:α->Int)(l:List α):List α:=l.mergeSort λa b=>decide (f a<=f b)
def Kx {f:α->Int}:(QG f l).Perm l:=List.mergeSort_perm _ _
def VP {f:α->Int}:((QG f l).map f).Pairwise (·<=·):=by rw[Hk];show (List.pairwise_mergeSort (le:=λa b=>decide (f a<=f b)) (λa b c h1 h2=>EZ<|Int.le_trans (Fq h1) (Fq h2)) (λa b=>by simp[Int.le_total]) l).imp Fq
inductive cZ:Ä
 |mk {α:Type}{l:List α}{f:α->Int}{g:α->D}:l.length<64->(l.map f).Nodup->cZ [Km (l.map λx=>(.inl (f x),g x))] (Km ((QG f l).map λx=>(.inl (f x),g x)))
def sO [Bx:Bd](T:EO Bx.mg):Tk 1 "by_number" (top 58) ["told"] (Pr cZ):=by
 show Ks [] ?_ λ_ _ _ _ _ _ _ hr ND=>(qr (Sn i0 (cX rfl) rfl T.L' boot_dict (da (O8 0 rfl (cS 1 [0] ["number","told"]) (aw<|dB y9 (m5 rfl) rfl T.SO boot_sorted š)
  ė
  Mf
  (λ_ _ _ _ _=>jf<|da (Đ 0) (da UV J4))) J4)))
 rintro _ _ @⟨α,l,f,g,hl,nd⟩;let pm:=Kx (f:=f) (l:=l);let so:=VP (f:=f) (l:=l);generalize QG f l=m at pm so;show#[#[#[aU #[#[#[2],?_],.l .lst] (by rw[pm.length_eq];omega) λx hx=>#[_,1,#[#[1,#[2,.k (dE (pE nd)<|Fd (pm.mem_iff.mp hx)) kI],1],by simp,1]],1],To.m (f:=λx=>.inl<|f x) (by rw[pm.length_eq];omega) ?_],1]
 ·let:=cSo.k (ð:=l.map λx=>(_,g x)) (by rw[F9,F9];rfl) Ľ λPX h1 h2=>Mw.RJ (h1.trans (pm.map _).symm) h2 so;rwa [F9]at this
 ·let:=pE ((pm.map _).nodup_iff.mpr nd) (g:=g);rwa [F9]at this
universe e
abbrev _root_.Λ:=Option Ξ
abbrev Kw:=Int×Λ
theorem PC:Option Ξ->D
 | none=>.non
 | some ks=>rw ks
abbrev As (m:Kw):D:=.tup [.int m.1,PC m.2]
abbrev gW (ms:List Kw):D:=.lst (ms.map As)
theorem bq (S:NS)(x):Λ:=if S.JR.map (·.1)=some x then none else !S.into x
theorem Ja (S:NS)(ns:η):List Kw:=ns.flatMap λx=>(S.Lp x).map λk=>(k,bq S x)
def nS (S:NS)(ns:η)(x):Ja S (ns++[x])=Ja S ns++(S.Lp x).map λk=>(k,bq S x):=by simp[Ja,Gn]
def xA (S:NS)(ns:η)(i):(Ja S (ns.take i)).length<=(Ja S ns).length:=by
 unfold Ja
 conv=>rhs;rw[<- Ge i ns,Gn,Fj]
 lia
section
variable {c:Cl}
abbrev _root_.Æ:=List Str->Prop
inductive oV (c:Cl) (ord:NS->Æ):Ä
 |mk {S:NS}{ns:η}:ord S ns->oV c ord [aD c S] (aI ns)
inductive jW (c:Cl) (ord:NS->Æ):Ä
 |mk {S:NS}{ns:η}:ord S ns->(∀ x∈ns,x∈S.names)->S.J0.length<=1000->(Ja S ns).length<=1000->jW c ord [aD c S] (gW ů)
def Ew (ha:ra ε (.str x))(hb:rb ε (qH h)):rO K2 ra rb ε (.bl (decide (h.map (·.1)=!x))):=by
 show .mk ha hb ?_
 cases h with
 | none=>show .mk rfl rfl rfl (congrArg D.bl rfl)
 | some p=>show .mk rfl rfl rfl (congrArg D.bl<|by show Hr.mpr ⟨λz=>congrArg V.str (Option.some.inj z).symm,λz=>congrArg some (V.str.inj z).symm⟩)
def nH [Bx:Bd](JV)(Mb:Kj 2 c.JQ "ordered" Ý (Pr (oV c ord)))(KL)(Mt:Kj 2 c.JQ "out_of" Ü (Pr (rE c NS.Lp))):Tk 3 "mixing_ties" (top 57) ["net"] (Pr (jW c ord)):=by
 show Ks ["home","told","name","mixed","number"] ?_ λ_ _ _ _ _ _ _ hr ND=>(qC (qs 1 ND<|gk (Đ 0) JV hr.m)
 (qC (qo 2 ND<|c9 J4)
 (qC (Pg Fe rfl (aw<|gk (Đ 0) Mb hr.m) (pN 3 ND) (aG 3)
  (qC (qs 4 ND<|UO (dT aV bK (Đ 3)<|Đ 1) P0 (OI (Đ 0) KL hr.m<|da (Đ 3) J4))
 (q1 (Pg Fe rfl (aw<|OI (Đ 0) Mt hr.m UF) XV (aG 5)
  (q1<|qA (aF<|P2 Bx.K Fs FA Fy aH (pv 2) (a9 (jf<|da (Đ 5) (da (Đ 4) J4)) IZ)) (λ_ _ _ h=>h))))))
 (qr<|Đ 2))))
 rintro _ _ @⟨S,ns,ho,hn,hl,hm⟩;show .nx #[2,by decide,#[0]] (.nx #[#[1,by simp,1]] ?_);show c8 ns (λi ε=>∃ o3 o4 o5,ε=[.fz<|aD c S,.fz<|qH S.JR,.ow<|gW (Ja S<|ns.take i),o3,o4,o5]) ⟨_,_,_,rfl⟩ ⟨⟨rfl,rfl,by decide,⟨ho⟩⟩,.l .lst⟩ (λi x ε hx gR=>?_) λε gR=>?_
 ·let#[o3,o4,o5,he]:=gR;subst he;let xn:=hn x<|F6 hx;let tl:=xA S ns<|i+1;rw[aR hx,nS,Fj,EV]at tl;rw[aR hx,nS];show#[_,1,oq (ε1:=[.fz<|aD c S,.fz<|qH S.JR,.ow<|gW (Ja S<|ns.take i),.fz<|.str x,.fz<|PC (bq S x),o5]) ?_ ?_]
  ·let r:=Ew (ε:=[some<|aD c S,some<|qH S.JR,none,some<|.str x,o4.z,o5.z]) (ra:=rV 3) (rb:=rV 1) rfl rfl;unfold bq;by_cases z:S.JR.map (·.1)=!x
   ·rw[EZ z]at r;rw[if_pos z];show#[.t r rfl]
   ·rw[F5 z]at r;rw[if_neg z];show#[.f r #[1,by decide,#[2],#[hl,xn]]]
  ·show AQ (S.Lp x) (λj ε=>∃ o5,ε=[.fz<|aD c S,.fz<|qH S.JR,.ow<|gW (Ja S (ns.take i)++((S.Lp x).take j).map λk=>(k,bq S x)),.fz<|.str x,.fz<|PC (bq S x),o5]) ⟨_,by rw[HH,GE,Ft]⟩ ⟨⟨rfl,by decide,⟨rfl,rfl⟩,⟨hl,xn⟩⟩,.l .lst⟩ (λj k ε hk gR=>?_) λε' ⟨o5,he⟩=>#[_,_,_,by rw[FF]at he;show he]
   let#[o5,he]:=gR;subst he;let lt:=(EY.mp hk).1;let e:gW (Ja S (ns.take i)++((S.Lp x).take<|j+1).map λk=>(k,bq S x))=.lst ((Ja S (ns.take i)++((S.Lp x).take j).map λk=>(k,bq S x)).map As++[As (k,bq S x)]):=by rw[aR hk,Fa,<- FK];show congrArg D.lst Fa
   show#[_,1,_,#[1,by simp;omega,.z #[#[3],by simp,1]],.fz<|.int k,by rw[e];rfl]
 ·let#[_,_,_,he]:=gR;rw[he,FF];show#[2]
universe e
section
variable {C:Addr}
inductive l6:Ä
 |mk {n:Int}:My.LL n=true->n<=1000000->l6 [.int n] Ŗ
def le_int (ha:ra ε (.int i))(hb:rb ε (.int j)):rO (fI Ū λi j=>MB (.bl (decide (i<=j)))) ra rb ε (.bl (decide (i<=j))):=#[ha,hb,#[trivial]]
def uW [Bx:Bd]:Tk 1 "is_prime" (top 38) ÿ (Pr l6):=by
 show Ks ["divisor"] ?_ λ_ _ _ _ _ _ _ hr ND=>(qC (qI (dT fO cg (Đ 0) dI)
  (qr OQ)
  q0)
 (qC (qs 1 ND dI)
 (qC (qW Fe (dT qi cg (dO cA LJ (Đ 1)<|Đ 1)<|Đ 0)
  (qC (qI (dT aV bK (dO bt LJ (Đ 0)<|Đ 1) dI)
  (qr OQ)
  q0)
 (q1<|W0 (x0 (i:=1) ND rfl (by first|show Or.inl rfl|show Or.inr rfl) dI xT))))
 (qr OQ))))
 rintro _ _ @⟨n,hP,hn⟩;let h2:=(My.Jb n).mp hP;let r0:=lt_int (ε:=[some<|.int n,none]) (ra:=rV 0) (rb:=rC<|.int 2) rfl rfl;rw[F5<|by omega]at r0;show .nx (.f r0 rfl) (.nx ⟨rfl⟩ ?_);show eZ (λd ε=>ε=[.fz<|.int n,.fz<|.int d]/\2<=d/\d<=n) (λd=>(n+1 - d).toNat) #[1,by omega,by omega] λd ε gR=>?_;let#[he,d2,dn]:=gR;subst he;let rd:=le_int (ε:=[some<|.int n,some<|.int d]) (ra:=rO (fI R7 λi j=>MB<|.int (i * j)) (rV 1)<|rV 1) (rb:=rV 0) #[2,#[.inl #[by omega,by omega]]] rfl;by_cases z:d * d<=n
 ·rw[EZ z]at rd;let a:2 * d<=d * d:=Int.mul_le_mul_of_nonneg_right d2 ġ;let r1:=eq_int (ε:=[some<|.int n,some<|.int d]) (ra:=rO (fI (λ_ j=>0<j) λi j=>MB<|.int (i % j)) (rV 0)<|rV 1) (rb:=rC<|.int 0) #[2,#[by omega]] rfl;rw[F5 (by rw[<- Gd _ ġ];show h2.2 d d2 z)]at r1;show .inr #[rd,d+1,_,.nx (.f r1 rfl) #[2],#[1,by omega,by omega],by omega]
 ·rw[F5 z]at rd;show .inl #[rd,2]
inductive iF:Ä
 |mk {n:Int}:iF [.int n] Ŗ
inductive fC (C:Addr):Ä
 |mk {p n:Int}:0<=n->n<p->fC C [fD C p,.int n] Ŗ
def lS [Bx:Bd](T)(KJ):Tk 2 "is_number_of" (top 60) ["field","number"] (Pr (fC C)):=by
 show Ks [] ?_ λ_ _ _ _ _ _ _ hr ND=>(qr<|zm (dF KJ hr.m rfl<|da (Đ 1) J4) (kz<|dCh (nq qi fO dI (Đ 1)<|QA T.fl (Đ 0)) cg cg))
 rintro _ _ @⟨p,n,h0,h1⟩;show#[.t #[#[2],#[0]]<|.t rfl rfl (by let:=fI.mk (C:=λ_ _=>True) (g:=λi j=>MB<|.bl (decide (i<=j))) (i:=0) (j:=n) trivial;rwa [EZ h0]at this) ⟨rfl,rfl,rfl⟩ (by let:=fI.mk (C:=λ_ _=>True) (g:=λi j=>MB<|.bl (decide (i<j))) (i:=n) (j:=p) trivial;rwa [EZ h1]at this),1]
inductive Mp (C:Addr):Ä
 |mk {p:Int}{ns:Ξ}:ns.length<=1000->(∀ n∈ns,0<=n/\n<p)->Mp C [fD C p,rw ns,.int ns.length] Ŗ
def sM [Bx:Bd](T:jT Bx.mg)(LB:JB 2 "is_number_of" ["field","number"] (Pr (fC C))):Tk 3 "is_row_of" (top 61) ["field","row","length"] (Pr (Mp C)):=by
 show Ks [] ?_ λ_ _ _ _ _ _ _ hr ND=>(qr (zm (dM aV bK (cD T.Jo<|Đ 1)<|Đ 2) (kz (dB Dh (kX Bx.K rfl) rfl T.SR boot_all (da (O8 0 rfl (cS 1 [0] ["number","field"]) No
  ė
  Mf
  (λ_ _ _ _ _=>dF LB hr.m rfl<|da (Đ 1) š)) J4)))))
 rintro _ _ @⟨p,ns,hl,hn⟩;let r1:=eq_int (ε:=[some<|fD C p,some<|rw ns,some<|.int ns.length]) (ra:=rF KQ<|rA (rV 1) Nq) (rb:=rV 2) ⟨⟨rfl,rfl⟩,KQ.m⟩ rfl;rw[EZ rfl]at r1;show⟨.t r1 ⟨⟨aU ⟨rfl,.l .lst⟩ hl λn hm=>#[_,1,#[3],#[(hn n hm).1,(hn n hm).2]],rfl⟩,Tr.mk (by rw[F9];rfl)⟩,by simp⟩
abbrev b5:=Int×Ξ
abbrev av (ř:List b5):D:=Km (ř.map λr=>(.inl r.1,rw r.2))
theorem inc (msg)(cs:Cs):Option Ξ->Ξ
 | none=>msg
 | some ks=>ks.map λk=>(bL cs k).getD 0
inductive dY:Ä
 |n {msg:Ξ}{d:D}:dY [rw msg,.non,d] (rw msg)
 |s {msg ks:Ξ}{cs:Cs}:ks.length<=1000->(∀ k∈ks,∃ n,bL cs k=!n)->dY [rw msg,rw ks,UP cs] (rw (inc msg cs !ks))
def sN [Bx:Bd]:Tk 1 "coming_in" (top 63) ["message","mixed","carries"] (Pr dY):=by
 show Ks [] ?_ λ_ _ _ _ _ _ _ hr ND=>(qC (qI (dT nE vg (Đ 1) P0)
  (qr<|Đ 0)
  q0)
 (qr (O8 0 rfl (cS 1 [2] ["number","carries"]) No
  ė
  Mf
  ũ)))
 intro l d h
 cases h with
 | n=>show .rt (.t #[2,by show#[0]] #[2])
 | @s msg ks cs hl hk=>show .nx (.f #[2,by show#[0]] rfl) #[aU #[1,.l .lst] hl λk hm=>#[_,3,by let#[n,hn]:=hk k hm;rw[hn];show .k (Bn hn) kI],Pf _ _]
universe e
theorem CW (fo)(k:Int):Bool:=match fo with
 | none=>false
 | some ks=>decide (k∈ks)
theorem gP (ř)(n:Int):Option b5:=ř.find? λr=>decide (r.1=n)
theorem ca (ř)(k:Int):Ξ:=((gP ř k).map (·.2)).getD []
def gE (h:gP ř k=!r):cI (ř.map λr=>Ŕ) (.inl k)=!rw r.2:=by rw[gG,funext λx=>Hr.mpr #[Sum.inl.inj,congrArg _],show ř.find? _=some r from h];rfl
theorem gA (p)(ř)(msg)(fo)(cs:Cs)(m:Kw):Int:=if CW fo m.1 then 0 else Mx.Jh p (ca ř m.1) (inc msg cs m.2)
theorem bM (p)(ř)(msg)(fo):List Kw->Cs->Cs
 | [],cs=>cs
 | m::ms,cs=>bM p ř msg fo ms (cs++[(m.1,gA p ř msg fo cs m)])
def jd (p)(ř)(msg)(fo)(m:Kw):∀ (ms:List Kw)(cs:Cs),bM p ř msg fo (ms++[m]) cs=bM p ř msg fo ms cs++[(m.1,gA p ř msg fo (bM p ř msg fo ms cs) m)]:=by
 intro r'
 induction r' with
 | nil=>
  intro _;show rfl
 | cons _ ms ih'=>
  intro _;show ih' _
def fR (p)(ř)(msg)(fo):∀ (ms:List Kw)(cs:Cs),(bM p ř msg fo ms cs).map (·.1)=cs.map (·.1)++ms.map (·.1)
 | [],_=>by simp[bM]
 | m::ms,cs=>by
  simp_all [bM,fR]
def kL (h:k∈cs.map (·.1)):∃ n,bL cs k=!n:=by let#[x,h1,h2]:=F8.mp h;let#[y,hy]:=Gu.mp (Hm (p:=λx:Int×Int=>decide (x.1=k)) |>.mpr #[x,h1,EZ h2]);show#[y.2,by unfold bL;rw[hy];rfl]
structure DB (ms:List Kw):Prop where
 nd:(ms.map (·.1)).Nodup
 Ka:ms.length<64
 ahead:∀ (i:Nat) m ks,ms[i]?=!m->m.2=!ks->ks.length<=1000/\∀ k∈ks,k∈(ms.take i).map (·.1)
theorem QC (p)(l:Ξ):Prop:=∀ z∈l,0<=z/\z<p
structure DA (p:Int) (ms:List Kw) (ř:List b5) (fo:Λ):Prop where
 p0:0<p
 p1:p<=1000000
 fits:DB ms
 has:∀ m∈ms,CW fo m.1=false->∃ r,gP ř m.1=!r/\QC p r.2/\r.2.length<=1000
section
variable {C:Addr}
inductive Dt (C:Addr):Ä
 |mk {p:Int}{ms:List Kw}{ř:List b5}{msg:Ξ}{fo:Λ}:DA p ms ř fo->Dt C [fD C p,gW ms,av ř,rw msg,PC fo] (UP (QG (·.1) (bM p ř msg fo ms [])))
def AN (h1:ra ε (PC fo))(h2:rb ε (.int k))(h3:rc ε .non):sk (λε b=>rO (fN true) ra rc ε (.bl b)) (λε b=>rO (TB false) rb ra ε (.bl b)) ε (CW fo k):=by
 cases fo with
 | none=>show .f #[h1,h3,by show#[0]]
 | some ks=>show .t #[h1,h3,by show#[0]] #[h2,h1,gb]
def Ef [Bx:Bd](Ki)(MW:JB 1 "coming_in" ["message","mixed","carries"] (Pr dY))(Jr):Tk 4 "flow" (top 64) ["field","mixing","plan","message","fallen"] (Pr (Dt C)):=by
 show Ks ["carries","number","mixed"] ?_ λ_ _ _ _ _ _ _ hr ND=>(qC (qo 5 ND Xg)
 (qC (Pg Fe rfl No ť (cr Bx.K [6,7])
  (q1 (qI (PW.pt<|jQ (dT eM nO (Đ 4) P0) (bS<|TV (aK hr) (Đ 6) (Đ 4)))
  (q1<|qP (bB (aK hr) (pv 5) (Đ 6) dI rfl) (λ_ _ _ h=>h))
  (q1<|qP (bB (aK hr) (pv 5) (Đ 6) (dF Ki hr.m rfl<|da (Đ 0) (da (Js hr (Đ 2)<|Đ 6)<|da (dF MW hr.m rfl<|da (Đ 3) (da (Đ 7)<|da (Đ 5) J4)) J4)) rfl) (λ_ _ _ h=>h)))))
 (qr<|dF Jr hr.m rfl (da (Đ 5) J4))))
 rintro _ _ @⟨p,ms,ř,msg,fo,W⟩;let Ka:=W.fits.Ka;show .nx #[1] ?_;show c8 ms (λi ε=>∃ o6 o7,ε=[.fz<|fD C p,.fz<|gW ms,.fz<|av ř,.fz<|rw msg,.fz<|PC fo,.ow<|UP (bM p ř msg fo (ms.take i) []),o6,o7]) ⟨_,_,rfl⟩ ⟨rfl,.l .lst⟩ (λi m ε hm gR=>?_) λε gR=>?_
 ·let#[o6,o7,he]:=gR;subst he;let nd:=W.fits.nd;let hk:=fR p ř msg fo (ms.take i) [];rw[aR hm,jd];generalize bM p ř msg fo (ms.take i) []=cs at hk;let hl:cs.length<=1000:=by let:=congrArg List.length hk;simp at this;omega
  let nw:(.inl m.1:Key)∉(cs.map λx=>((.inl x.1:Key),D.int x.2)).map (·.1):=λz=>by let#[x,h1,h2]:=F8.mp z;let#[y,h3,1]:=F8.mp h1;let:=F8.mpr #[y,h3,Sum.inl.inj h2];rw[hk,GE,Gm]at this;let nd:=(Ge i ms)▸nd;rw[Fa,FE]at nd;show nd.2.2 _ this _ (F8.mpr #[m,F6 (i:=0) (by rw[Hh];show hm),1]) rfl
  let tt:=AN (ε:=[some<|fD C p,some<|gW ms,some<|av ř,some<|rw msg,some<|PC fo,some<|UP cs,some<|.int m.1,some<|PC m.2]) (ra:=rV 4) (rb:=rV 6) (rc:=rC .non) rfl rfl rfl;let e:∀ z:Int,UP (cs++[(m.1,z)])=Km (ng (cs.map λx=>((.inl x.1:Key),D.int x.2)) (.inl m.1)<|.int z):=λz=>by rw[cf nw];show congrArg Km Fa
  show#[_,#[_,3],?_];unfold gA
  cases hf:CW fo m.1 with
  | true=>rw[hf]at tt;show#[_,.t tt #[1,by rw[EV];show hl,.z rfl,1,kI],.fz<|.int m.1,.fz<|PC m.2,by rw[if_pos rfl,e];rfl]
  | false=>
   rw[hf]at tt;let#[r,h1,h2,h3]:=W.has m (F6 hm) hf;let er:ca ř m.1=r.2:=by unfold ca;rw[h1];rfl
   rw[er];let ci:dY [rw msg,PC m.2,UP cs] (rw (inc msg cs m.2)):=by
    cases hx:m.2 with
    | none=>show .n
    | some ks=>show .s (W.fits.ahead i m ks hm hx).1 λk Si=>kL (by rw[hk];show (W.fits.ahead i m ks hm hx).2 k Si)
   show#[_,.f tt #[1,by rw[EV];show hl,.a #[#[1,#[2,.k (gE h1) kI],#[#[4],ci],1],#[W.p0,W.p1,h3,h2]] rfl,1,kI],.fz<|.int m.1,.fz<|PC m.2,by rw[if_neg nofun,e];rfl]
 ·let#[_,_,he]:=gR;rw[FF]at he;subst he;let hk:=fR p ř msg fo ms [];show#[#[#[2],.mk (by let:=congrArg List.length hk;simp at this;lia) (by rw[hk];show W.fits.nd)],1]
universe e
structure a01 (K:Ψ) (mg:Ω) (C:Addr):Prop where
 cl:MZ K C
 nP:JE K C "prime"
 g_G:∃ t,mg "GREATEST_PRIME"=!.int 1000000 t
section
variable {c:Cl}{C:Addr}
def DT:ax ï ï (aa (ak (top 39) 0)):=Nd
inductive dg (C:Addr) (vs:π) (H:Hp) (Q:VK) (E:XK):Prop
 |mk (x dx:Addr) (p:Int):vs=[.ref x,.int p]->H x=!.ins C dx []->p<=1000000->My.LL p=true->(∀ H',f' H H'->Q .non (upd H' x (.ins C dx [("prime",.int p)])))->dg C vs H Q E
def Ee [Bx:Bd](T:a01 Bx.K Bx.mg C)(Nx:JB 1 "is_prime" ÿ (Pr l6)):Tm 2 "__init__" "Field.__init__" (ak (top 39) 0) ï (dg C):=by
 intro f fd F;let#[tk,hgG]:=T.g_G;show F.k DT λJ7 A outer s H vs Q E hr h=>?_
 ·let#[x,dx,p,1,hx,hp,hP,q]:=h;show#[_,(ai (gw (PW.pt<|Va (pT iM (pv 1)<|fZ (v:=.int 1000000) rfl hgG #[_,1]) (fX<|sr (cL<|aZ Nx hr.m rfl (a9 (pv 1) IZ))))
  (aq Lo)
  Kp)
 (aq<|fY (pv 0) (pv 1) rfl)),?_]
  show#[_,1,_,_,2,_,1,og (λhc=>absurd (Fq hc)<|by omega) λhc=>?_];show#[_,1,H,[.int p],.bl true,f'.refl _,#[_,_,3],#[hP,hp],λv H' e hv=>#[true,hv,xQ ?_]];show#[_,1,_,1,x,C,dx,[],1,e _ _ hx,T.cl,T.nP,by decide,q H' e]
inductive YR (C:Addr) (rs:Á) (ε:En) (d:D):Prop
 |mk {p:Int}:rs ε [.int p]->p<=1000000->My.LL p=true->d=fD C p->YR C rs ε d
def AU (Dd:Dk X.prog X.w X.K X.mg X.base k x C ps (dg C))(hr:Jn (k+1) X.A)(hg:Gl X x)(ha:PA X (e::es) (LG rs))(Mm)(he:Ĕ X e es:=Ą)(LM):
  PE X Ģ (tP (YR C rs)):=(gV Dd hr hg ha Mm he LM).imp fun σ H Q ⟨F,ε,d,S,⟨h1,h2,h3,h4⟩,q⟩=>LG.go S h1 λvs H1 e1 S1 gR x dx nx nd ne=>by
 let#[v,ws,ev,hv,hw]:=gR;subst ev h4
 cases hv
 cases hw;show .mk x dx _ rfl af h2 h3 λH' e'=>#[1,q _ _ (λa o z=>?_) #[x,dx,_,1,by rw[aA<|e1.free nx,af],1,_,_,3]]
 let z1:=e1 _ _ z;let n1:=ao z1 nx;rw[a8 n1];show e' _ _ (by rw[a8 n1,a8<|ao z1 nd];show z1)
def my:∀ {l:List α},(l.map f).Nodup->∀ {x y},x∈l->y∈l->f x=f y->x=y:=by
 intro l
 induction l with
 | nil=>intro _ x y hx;cases hx
 | cons a l ih=>
  intro nd x y hx hy e;let nd:=FM.mp nd;rcases Fv.mp hx with h1|h1 <;> rcases Fv.mp hy with h2|h2
  ·rw[h1,h2]
  ·show absurd (F8.mpr #[y,h2,by rw[<- e,h1]]) nd.1
  ·simp_all
  ·show ih nd.2 h1 h2 e
def At (pm:cs.Perm l)(nd:(l.map (·.1)).Nodup)(h:bL l k=!n):bL cs k=!n:=by
 unfold bL at h ⊢;let#[x,h1,h2]:=FI.mp h;let hm:=pm.mem_iff.mpr<|FT h1;let hx:=Fq<|GH (p:=λx:Int×Int=>decide _) h1;let#[y,hy]:=Gu.mp (Hm (p:=λx:Int×Int=>decide (x.1=k)) |>.mpr #[x,hm,EZ hx]);let hy2:=Fq<|GH (p:=λx:Int×Int=>decide (x.1=k)) hy;let:=my ((pm.map _).nodup_iff.mpr nd) (FT hy) hm (hy2.trans hx.symm)
 simp_all
theorem eU (p)(ř)(fo)(ms)(many:Nat)(k:Int):Ξ:=(List.range many).map λj=>(bL (bM p ř (Mx.J3 many j) fo ms []) k).getD 0
inductive jY (c:Cl) (ord:NS->Æ):Ä
 |mk {S:NS}{ns:η}{p:Int}{ř:List b5}{many:Nat}{fo:Λ}:ord S ns->(∀ x∈ns,x∈S.names)->S.J0.length<=1000->My.LL p=true->DA p (Ja S ns) ř fo->many<=1000->jY c ord [aD c S,av ř,.int many,.int p,PC fo] (Km ((QG (·.1) (Ja S ns)).map λm=>(.inl m.1,rw (eU p ř fo ů many m.1))))
def xt [Bx:Bd](F:Kb Bx.K "carried" "carried" (top 65) f fd)(T:EO Bx.mg)(JK)(Jv)(R3:JB 4 "flow" ["field","mixing","plan","message","fallen"] (Pr (Dt C)))(Lc)(Mh)(Jr):O7 Ky 5 f fd à (Pr (jY c ord)):=by
 show Kb.dw F ["field","mixing","flows"] ?_ λ_ _ _ _ _ _ hr ND=>(qC (qs 5 ND<|AU JK hr.m rfl UF)
 (qC (qs 6 ND<|dF Jv hr.m rfl š)
 (qC (qs 7 ND (O8 0 rfl (cS 1 [1,4,5,6] ["message","plan","fallen","field","mixing"]) (aw<|dF Lc hr.m rfl Š)
  ė
  Mf
  (λ_ _ _ _ _=>dF R3 hr.m rfl<|da (Đ 3) (da (Đ 4)<|da (Đ 1) (da (Đ 0)<|da (Đ 2) J4)))))
 (qr (dF Jr hr.m rfl (da (Sn i0 (cX rfl) rfl T.L' boot_dict (da (O8 2 rfl (cS 2 [7] ["number","mixed","flows"]) (aw<|Đ 6)
  į
  Mf
  (λ_ _ _ _ _=>jf<|da (Đ 0) (da (dF Mh hr.m rfl<|da (Đ 2) š) J4))) J4)) J4))))))
 rintro _ _ @⟨S,ns,p,ř,many,fo,ho,hn,hl,hP,W,hm⟩;let Ka:=W.fits.Ka;let nd:=W.fits.nd;show#[1,.inl<|.nx #[#[#[2],W.p1,hP,1]] (.nx #[#[2],#[ho,hn,hl,#[]]]<|.nx ⟨aU (h:=λj=>UP<|QG (·.1) (bM p ř (Mx.J3 many j) fo (Ja S ns) [])) ⟨⟨⟨rfl,rfl⟩,⟨hm⟩⟩,?_⟩ (by simpa using hm) λj _=>#[_,1,#[6],#[W]]⟩ #[#[#[#[#[aU (u:=As) #[1,.l .lst] #[] λm XR=>#[_,#[2],#[1,#[#[3],.d (by simpa using hm) λj _=>?_],1],by simp,1],1],To.m (f:=λm:Kw=>(.inl m.1:Key)) #[] ?_],1],.mk Ka nd],1])]
 ·unfold Mx.ones;rw[show tb _=.lst (List.map rw _) from rfl,F9];show .l .lst
 ·let hk:=fR p ř (Mx.J3 many j) fo ů [];let#[n,hn]:=kL (by rw[hk];show Fd XR);rw[hn];show At Kx (by rw[hk];show nd) hn
 ·let:=pE nd (g:=λ_=>.non);rwa [F9]at this
universe e
structure Dr (mg:Ω):Prop where
 L':mg "dict"=none
 Jo:mg "len"=none
 MH:mg "list"=none
 a5N:mg "min"=none
theorem zB (many:Int):Option Ξ->Int
 | none=>many
 | some ks=>ks.length
theorem bd (ms)(ř):List b5:=(QG (·.1) ms).map λm=>(m.1,ca ř m.1)
structure MM (many p:Int) (ms:List Kw) (ř:List b5):Prop where
 row:∀ m∈ms,∃ r,gP ř m.1=!r/\(r.2.length:Int)=zB many m.2/\QC p r.2/\r.2.length<=1000
 odd:∀ r∈ř,r.1∈ms.map (·.1)
 Ka:ř.length<=1000
def vT (nd:(ms.map (·.1)).Nodup)(h:m∈ms):gP (bd ms ř) m.1=!(m.1,ca ř m.1):=by unfold bd gP;let#[y,hy]:=Gu.mp (Hm (p:=λr:b5=>decide (r.1=m.1)) |>.mpr ⟨_,Fd (f:=λm:Kw=>(m.1,ca ř m.1))<|(Kx).mem_iff.mpr h,EZ rfl⟩);rw[hy];let#[z,hz,e]:=F8.mp<|FT hy;let h2:=Fq<|GH (p:=λr:b5=>decide (r.1=m.1)) hy;rw[<- e,(congrArg Prod.fst e).trans h2]
section
variable {c:Cl}{ord:NS->Æ}
structure Dw (ord:NS->Æ) (S:NS) (ns:η):Prop where
 ord:ord S ns
 Wm:∀ x∈ns,x∈S.names
 tz:S.J0.length<=60
 fits:DB ů
inductive tR (c:Cl) (ord:NS->Æ):Ä
 |mk {S:NS}{ns:η}{many:Int}:Dw ord S ns->tR c ord [aD c S,.int many] (Km ((QG (·.1) (Ja S ns)).map λm=>(.inl m.1,.int (zB many m.2))))
def jz [Bx:Bd](T:Dr Bx.mg)(Jv)(Jr):Tk 4 "wanted_lengths" (top 59) ["net","many"] (Pr (tR c ord)):=by
 show Ks [] ?_ λ_ _ _ _ _ _ _ hr ND=>(qr (dF Jr hr.m rfl (da (Sn i0 (cX rfl) rfl T.L' boot_dict (da (O8 2 rfl (cS 2 [1] ["number","mixed","many"]) (aw<|dF Jv hr.m rfl š)
  į
  Mf
  (λ_ _ _ _ _=>jf<|da (Đ 0) (da (UO (dT nE vg (Đ 1) P0) (Đ 2)<|cD T.Jo (Đ 1)) J4))) J4)) J4)))
 rintro _ _ @⟨S,ns,many,N⟩;let Ka:=N.fits.Ka;let tz:=N.tz;show#[#[#[#[#[aU #[#[#[2],#[N.ord,N.Wm,by omega,by omega]],.l .lst] ġ λm _=>#[_,#[2],#[1,?_,1],by simp,1],1],To.m (f:=λm:Kw=>.inl m.1) ġ ?_],1],.mk Ka N.fits.nd],1]
 ·cases hx:m.2 with
  | none=>show .t #[2,by show#[0]] rfl
  | some ks=>show .f #[2,by show#[0]] #[#[2],KQ.m]
 ·let:=pE N.fits.nd (g:=λ_=>.non);rwa [F9]at this
inductive oY (c:Cl) (ord:NS->Æ):Ä
 |mk {S:NS}{ns:η}{many p:Int}{ř:List b5}:Dw ord S ns->My.LL p=true->p<=1000000->MM many p ů ř->oY c ord [aD c S,av ř,.int many,.int p] (av (bd ů ř))
def lT [Bx:Bd](T:Dr Bx.mg)(JK)(KH:JB 4 "wanted_lengths" ["net","many"] (Pr (tR c ord)))(MV:JB 3 "is_row_of" ["field","row","length"] (Pr (Mp C))):Tk 5 "checked_plan" (top 62) ["net","plan","many","prime"] (Pr (oY c ord)):=by
 show Ks ["field","lengths","number","strange"] ?_ λ_ _ _ _ _ _ _ hr ND=>(qC (qs 4 ND<|AU JK hr.m rfl UF)
 (qC (qs 5 ND<|dF KH hr.m rfl (da (Đ 0)<|da (Đ 2) J4))
 (qC (Pg Fe rfl (aw<|Đ 5) (pN 6 ND) (aG 6)
  (q1 (qI (PW.pt<|UN (RI (aK hr) (Đ 6)<|Đ 1) (fX<|AT (dV<|cL (dF MV hr.m rfl<|da (Đ 4) (da (Js hr (Đ 1)<|Đ 6)<|da (Js hr (Đ 5)<|Đ 6) J4)))))
  (q1 qN)
  q0)))
 (qC (SI (n:=0) (aO (i:=7) ND rfl rfl rfl (cS 1 [5] ["number","lengths"]) No
  ė
  (λ_ _ _ _ _=>bF<|RI (aK hr) (Đ 0) (Đ 1))
  ł) rfl)
 (qC (qI (dT iM cg (cD T.Jo<|Đ 7) dI)
  (q1 qN)
  q0)
 (qr (Sn i0 (cX rfl) rfl T.L' boot_dict (da (O8 0 rfl (cS 1 [1] ["number","plan"]) (aw<|Đ 5)
  ė
  Mf
  (λ_ _ _ _ _=>jf<|da (Đ 0) (da (Sn fS (cW rfl) rfl T.MH boot_list<|da UV J4) J4))) J4))))))))
 rintro _ _ @⟨S,ns,many,p,ř,N,hP,hp,G⟩;let Ka:=N.fits.Ka;let pm:=Kx (f:=λm:Kw=>m.1) (l:=Ja S ns);show .nx #[#[#[2],hp,hP,1]] (.nx #[#[3],#[N]] ?_);unfold bd;generalize hg:QG (λm:Kw=>m.1) ů=gs at pm;let gl:=pm.length_eq;let gd:(gs.map (·.1)).Nodup:=(pm.map _).nodup_iff.mpr N.fits.nd;show c8 gs (λ_ ε=>∃ o6 o7,ε=[.fz<|aD c S,.fz<|av ř,.fz<|.int many,.fz<|.int p,.fz<|fD C p,.fz<|Km (gs.map λm=>(.inl m.1,.int<|zB many m.2)),o6,o7]) ⟨_,_,rfl⟩ ⟨rfl,Itm.m⟩ (λi m ε hm gR=>?_) λε gR=>?_
 ·let#[o6,o7,he]:=gR;subst he;let hm:=F6 hm;let#[r,h1,h2,h3,h4]:=G.row m<|pm.mem_iff.mp hm;let rr:=Mp.mk (C:=C) h4 h3;rw[h2]at rr;show#[_,1,_,.f (.f #[2,.k rfl kI (by rw[gE h1];rfl)] #[#[1,#[2,.k (gE h1) kI],#[2,.k (dE (pE gd)<|Fd hm) kI],1],rr]) rfl,_,_,1]
 ·let#[o6,o7,he]:=gR;subst he;let es:ř.filter (λr=>not (decide (r.1∈gs.map (·.1))))=[]:=Hb.mpr λr hr=>by rw[EZ<|(pm.map _).mem_iff.mpr (G.odd r hr)];show nofun
  show .nx #[be (xs:=ř) (h:=λr=>.int r.1) (λr=>not (decide (r.1∈gs.map (·.1)))) #[1,Itm.m] G.Ka λr hr=>#[_,1,#[2,.k rfl kI (by rw[X1 (f:=λm:Kw=>m.1)];rfl)],λ_=>rfl]] ?_;rw[es];show .nx (.f (gt_int (i:=0) (j:=0) #[#[2],.s<|.sq .lst] rfl) rfl) ⟨⟨⟨aU (xs:=gs) (u:=λm=>.int m.1) (h:=λm=>.tup [.int m.1,rw (ca ř m.1)]) #[1,Itm.m] #[] λm hm=>#[_,1,#[#[1,#[#[#[2,?_],1],.s<|.sq .lst],1],by simp,1]],rfl⟩,To.m (f:=λm:Kw=>(.inl m.1:Key)) #[] ?_⟩,?_⟩
  ·let#[r,h1,_]:=G.row m<|pm.mem_iff.mp hm;let er:ca ř m.1=r.2:=by unfold ca;rw[h1];rfl
   rw[er];show .k (gE h1) kI
  ·let:=pE (f:=λm:Kw=>m.1) gd (g:=λ_=>.non);rwa [F9]at this
  ·rw[show av (gs.map _)=Km (List.map _<|List.map _ gs) from rfl,F9];rfl
universe e
def B2 (hp:0<p)(ř)(msg)(fo)(cs:Cs)(m:Kw):0<=gA p ř msg fo cs m/\gA p ř msg fo cs m<p:=by
 unfold gA;by_cases c:CW fo m.1=true
 ·lia
 ·rw[if_neg c,Mx.JN];show#[G9 _<|by lia,FU _ hp]
def vW (hp:0<p)(ř)(msg)(fo):∀ (ms:List Kw)(cs:Cs),(∀ x∈cs,0<=x.2/\x.2<p)->∀ x∈bM p ř msg fo ms cs,0<=x.2/\x.2<p:=by
 intro r'
 induction r' with
 | nil=>
  intro _ h;show h
 | cons m ms ih'=>
  intro cs h;show ih' _ λx hx=>by
   rcases FC.mp hx with z|z
   ·show h x z
   ·rw[Fr.mp z];show B2 hp ř msg fo cs m
def AZ (hp:0<p)(ř)(fo)(ms)(many:Nat)(k:Int):QC p (eU p ř fo ms many k):=λz hz=>by
 let#[j,_,1]:=F8.mp hz
 cases hl:bL _ k with
 | none=>show#[Int.le_refl _,hp]
 | some n=>
  let#[x,hx,e]:=FI.mp hl;let:=vW hp ř _ fo ms [] (λ_ h=>(FZ h).elim) x<|FT hx;rw[<- e];show this
theorem gv (S:NS)(p)(rs:List b5)(fo)(ms)(many:Nat)(g:Str):Θ:=(S.into g).map λk=>eU p rs fo ms many k
def yn (hp:0<p)(h1:(S.into g).length<=100)(h2:many<=100):UU p many (gv S p rs fo ms many g):=by
 show#[#[λr hr=>?_,λr hr=>?_],by unfold gv;rw[EV];show h1,#[]]
 ·let#[k,_,1]:=F8.mp hr;unfold eU;rw[EV,FO]
 ·let#[k,_,1]:=F8.mp hr;show AZ hp rs fo ms many k
section
variable {c:Cl}{ord:NS->Æ}
def MM.a0z (N:Dw ord S ns)(hP)(hp:p<=1000000)(G:MM many p ů ř):DA p ů (bd ů ř) fo:=by let h2:=((My.Jb p).mp hP).1;show#[#[],hp,N.fits,λm hm _=>#[_,vT N.fits.nd hm,?_]];let#[r,h1,_,h3,h4]:=G.row m hm;rw[show ca ř m.1=r.2 by unfold ca;rw[h1];rfl];show#[h3,h4]
inductive Kh (c:Cl) (ord:NS->Æ):Ä
 |mk {S:NS}{ns:η}{many:Nat}{p:Int}{ř:List b5}{fo:Λ}:Dw ord S ns->My.LL p=true->p<=1000000->MM many p (Ja S ns) ř->many<=100->S.J'.length<=100->S.names.Nodup->(∀ t∈S.J0,t.1∈(Ja S ns).map (·.1))->Kh c ord [aD c S,av ř,.int many,.int p,PC fo] (Km (S.Jt.map λg=>(.inr g,dQ p (gv S p (bd ů ř) fo ů many g) many)))
def Aj [Bx:Bd](F:Kb Bx.K "judged" "judged" (top 68) f fd)(LC:JB 5 "checked_plan" ["net","plan","many","prime"] (Pr (oY c ord)))(JK)(Oz:JB 5 "carried" à (Pr (jY c ord)))(J1)(KL)(MU:JB 7 "judgement" â (Pr (jk C))):O7 Ky 8 f fd à (Pr (Kh c ord)):=by
 show Kb.dw F ["looked_over","field","rows","told","listener","table"] ?_ λ_ _ _ _ _ _ hr ND=>(qC (qs 5 ND<|dF LC hr.m rfl (da (Đ 0)<|da (Đ 1) (da (Đ 2)<|da (Đ 3) J4)))
 (qC (qs 6 ND<|AU JK hr.m rfl UF)
 (qC (qs 7 ND<|dF Oz hr.m rfl (da (Đ 0)<|da (Đ 5) (da (Đ 2)<|da (Đ 3) (da (Đ 4) J4))))
 (qC (qo 8 ND Xg)
 (qC (Pg Fe rfl (aw<|gk (Đ 0) J1 hr.m) (pN 9 ND) (aG 9)
  (qC (SI (n:=0) (aO (i:=10) ND rfl rfl rfl (cS 1 [7] ["number","rows"]) (aw<|OI (Đ 0) KL hr.m (da (Đ 9) J4))
  ė
  Mf
  ũ) rfl)
 (q1<|qP (bB (aK hr) (pv 8) (Đ 9) (dF MU hr.m rfl<|da (Đ 6) (da (Đ 10)<|da (Đ 2) J4)) rfl) (λ_ _ _ h=>h))))
 (qr<|Đ 8))))))
 rintro _ _ @⟨S,ns,many,p,ř,fo,N,hP,hp,G,hm,hz,nd,hk⟩;let h2:=((My.Jb p).mp hP).1;let Ka:=N.fits.Ka;let tz:=N.tz;let pm:=Kx (f:=λm:Kw=>m.1) (l:=Ja S ns);let li:∀ g∈S.Jt,g∈S.names:=λg hg=>by let#[q,h1,h2]:=F8.mp hg;show F8.mpr #[q,(Fn.mp h1).1,h2]
 let ln:S.Jt.Nodup:=List.Nodup.sublist (List.Sublist.map _ HQ) nd;let lz:S.Jt.length<=100:=by unfold NS.Jt;rw[EV];show Fo (FB _ _) hz
 let iz:∀ g,(S.into g).length<=S.J0.length:=λg=>by unfold NS.into;rw[EV];show FB _ _
 show#[1,.inl<|.nx #[#[5],#[N,hP,hp,G]] (.nx #[#[#[2],hp,hP,1]]<|.nx ⟨⟨rfl,rfl,rfl,rfl,rfl,rfl⟩,⟨N.ord,N.Wm,by omega,hP,G.a0z N hP hp,by omega⟩⟩ (.nx ⟨rfl⟩ ?_))];generalize bd (Ja S ns) ř=rs;show c8 S.Jt (λi ε=>∃ o9 NX,ε=[.fz<|aD c S,.fz<|av ř,.fz<|.int many,.fz<|.int p,.fz<|PC fo,.fz<|av rs,.fz<|fD C p,.fz<|Km ((QG (·.1)<|Ja S ns).map λm=>(.inl m.1,rw (eU p rs fo ů many m.1))),.ow<|Km ((S.Jt.take i).map λg=>(.inr g,dQ p (gv S p rs fo ů many g) many)),o9,NX]) #[_,_,1] #[#[2,by decide,#[by omega]],.l .lst] (λi g ε hg gR=>?_) λε gR=>?_
 ·let#[o9,NX,he]:=gR;subst he;let gm:=F6 hg;let lt:=(EY.mp hg).1;let gz:(S.into g).length<=100:=by let:=iz g;omega
  let nw:(.inr g:Key)∉((S.Jt.take i).map λg=>((.inr g:Key),dQ p (gv S p rs fo ů many g) many)).map (·.1):=λz=>by rw[F9]at z;let#[x,h1,h2]:=F8.mp z;let h1:=Sum.inr.inj h2▸h1;let nd:=(Ge i S.Jt)▸ln;rw[FE]at nd;show nd.2.2 _ h1 _ (F6 (i:=0) (by rw[Hh];show hg)) rfl
  show#[_,1,_,.nx #[bR (h:=λk=>rw (eU p rs fo ů many k)) (d:=tb<|gv S p rs fo (Ja S ns) many g) ⟨⟨rfl,by decide,⟨rfl,rfl⟩,⟨by omega,li g gm⟩⟩,.l .lst⟩ (by omega) (λk Si=>#[_,3,.k ?_ kI]) (by unfold gv;rw[show tb _=.lst (List.map rw _) from rfl,F9];rfl)] #[1,by simp;omega,.z #[#[4],#[hP,hp,yn ġ gz hm,hm]],1,kS],.fz<|.str g,.fz<|tb (gv S p rs fo ů many g),?_]
  ·let#[t,h1,1]:=F8.mp Si;let#[m,h3,h4]:=F8.mp<|hk t (Fn.mp h1).1;rw[<- h4];show dE (pE<|(pm.map _).nodup_iff.mpr N.fits.nd) (Fd (f:=λm:Kw=>((.inl m.1:Key),rw (eU p rs fo ů many m.1)))<|pm.mem_iff.mpr h3)
  ·rw[cf nw,aR hg,Fa];rfl
 ·let#[_,_,he]:=gR;rw[FF]at he;subst he;show#[2]
universe e
universe K72
namespace L2.Wy
variable {ν:Type}[DecidableEq ν]
abbrev T (ν:Type):=Int×ν×ν×Int
theorem b2 (b:Bool):Int:=if b then 1 else 0
theorem iT (U)(p:ν->Bool)(t:T ν):Int:=if U t.1 then b2 (p t.2.1) - b2 (p t.2.2.1) else 0
theorem JQ (ts)(U)(p:ν->Bool):Int:=(ts.map (iT U p)).sum
theorem Np (t:T ν)(x:ν)(U):Option ν:=if U t.1 then (if t.2.2.1=x then some t.2.1 else none) else (if t.2.1=x then some t.2.2.1 else none)
theorem pF (U)(k:Int):Int->Bool:=λj=>if j=k then not (U j) else U j
def qQ (U)(k:Int):pF U k k=not (U k):=if_pos rfl
def mC (U)(h:j≠k):pF U k j=U j:=if_neg h
def jG (t:T ν)(ts)(U)(p:ν->Bool):JQ (t::ts) U p=iT U p t+JQ ts U p:=by
 unfold JQ
 simp_all
def kJ {ts:List (T ν)}{V:Int->Bool}(p:ν->Bool)(h:∀ t∈ts,U t.1=V t.1):JQ ts U p=JQ ts V p:=by unfold JQ;congr 1;show FG λt ht=>?_;unfold iT;rw[h t ht]
theorem Nums (ts):Prop:=(ts.map (·.1)).Nodup
def Nums.tail (h:Nums (t::ts)):Nums ts:=(FM.mp h).2
def Nums.ne (h:Nums (t::ts))(hu:u∈ts):u.1≠t.1:=λe=>(FM.mp h).1 (by change t.1∈ts.map _;rw[<- e];show Fd hu)
def Nums.inj (h:Nums ts){u:T ν}(ht:t∈ts)(hu:u∈ts)(e:t.1=u.1):t=u:=by
 induction ts with
 | nil=>cases ht
 | cons a ts ih=>
  rcases Fv.mp ht with rfl|ht1
  ·rcases Fv.mp hu with rfl|hu
   ·rfl
   ·show absurd e.symm (h.ne hu)
  ·rcases Fv.mp hu with rfl|hu
   ·show absurd e (h.ne<|by assumption)
   ·show ih h.tail (by assumption) hu
def zJ {p:ν->Bool}{t:T ν}{x y:ν}(h:Np t x U=!y):iT (pF U t.1) p t=iT U p t+b2 (p x) - b2 (p y):=by
 unfold Np at h;unfold iT;rw[qQ]
 cases hU:U t.1 with
 | true=>
  simp_all
 | false=>
  simp_all
def vw {ts:List (T ν)}{p:ν->Bool}{t:T ν}{x y:ν}(nd)(ht:t∈ts)(h:Np t x U=!y):JQ ts (pF U t.1) p=JQ ts U p+b2 (p x) - b2 (p y):=by
 induction ts with
 | nil=>cases ht
 | cons a ts ih=>
  rw[jG,jG];rcases Fv.mp ht with rfl|ht
  ·rw[zJ h,kJ p λu hu=>mC U<|nd.ne hu]
   lia
  ·rw[ih nd.tail ht];let:iT (pF U t.1) p a=iT U p a:=by unfold iT;rw[mC U λe=>nd.ne ht e.symm]
   lia
theorem Flow (ts)(U)(h g:ν)(v:Int):Prop:=∀ p:ν->Bool,JQ ts U p=v * (b2 (p h) - b2 (p g))
def Flow.none (ts)(h g:ν):Flow ts (λ_=>false) h g 0:=λp=>by
 rw[Int.zero_mul];unfold JQ
 induction ts with
 | nil=>rfl
 | cons t ts ih=>
  rw[Fk,List.sum_cons,ih];rfl
abbrev Cm (ν:Type):=List (ν×Option (Int×ν))
theorem keys (c:Cm ν):List ν:=c.map (·.1)
inductive LF (ts:List (T ν)) (U:Int->Bool) (h:ν):Cm ν->Prop
 |one:LF ts U h [(h,none)]
 |snoc {cs:Cm ν}{x y:ν}{t:T ν}:LF ts U h cs->x∈keys cs->t∈ts->Np t x U=!y->¬ y∈keys cs->LF ts U h (cs++[(y,!(t.1,x))])
def bn (a b:Cm ν):keys (a++b)=keys a++keys b:=Fa
def LF.nd {ts:List (T ν)}{h:ν}{cs:Cm ν}(C:LF ts U h cs):(keys cs).Nodup:=by
 induction C with
 | one=>simp[keys]
 | snoc C hx ht hs hy ih=>
  rw[bn];show FE.mpr #[ih,by simp[keys],λa ha b hb e=>?_];let:=Fr.mp hb
  simp_all
def LF.JR {ts:List (T ν)}{h:ν}{cs:Cm ν}(C:LF ts U h cs):h∈keys cs:=by
 induction C with
 | one=>simp[keys]
 | snoc C hx ht hs hy ih=>rw[bn];show FV _ ih
def LF.at {ts:List (T ν)}{h:ν}{cs:Cm ν}(C:LF ts U h cs){pre post:Cm ν}{y:ν}{s:Option (Int×ν)}(e:cs=pre++(y,s)::post):
  (s=none/\y=h)\/∃ t x,t∈ts/\s=!(t.1,x)/\x∈keys pre/\Np t x U=!y:=by
 induction C generalizing post with
 | one=>
  cases pre with
  | nil=>
   injection e with e1 e2;injection e1 with e1 e3;show .inl #[e3.symm,e1.symm]
  | cons a pre=>
   simp_all
 | @snoc cs x y' t C hx ht hs hy ih=>
  rcases List.eq_nil_or_concat post with rfl|⟨SJ,q,rfl⟩
  ·let e':=e;let#[e1,e2]:=List.append_inj' e' rfl
   grind
  ·let e':cs++[(y',!(t.1,x))]=(pre++(y,s)::SJ)++[q]:=by simp_all
   let#[e1,e2]:=List.append_inj' e' rfl;show ih e1
def DM {t:T ν}{x x' y y':ν}(h:Np t x U=!y)(h':Np t x' U=!y'):y=y':=by grind [Np]
def zL {t:T ν}{V:Int->Bool}(x:ν)(h:U t.1=V t.1):Np t x U=Np t x V:=by unfold Np;rw[h]
def im (h:y∈keys c):∃ pre s post,c=pre++(y,s)::post:=by let#[#[y',s],hq,1]:=F8.mp h;let#[pre,post,e]:=List.append_of_mem hq;show#[pre,s,post,e]
structure Back (ts:List (T ν)) (U:Int->Bool) (g:ν) (c:Cm ν) (V:Int->Bool) (y:ν) (s:Option (Int×ν)) (n:Nat):Prop where
 at':∃ pre post,c=pre++(y,s)::post/\pre.length=n/\∀ q∈pre++[(y,s)],∀ k x,q.2=!(k,x)->V k=U k
 nt:∀ p,JQ ts V p=JQ ts U p+b2 (p y) - b2 (p g)
def Back.start (e:c=pre++(g,s)::post):Back ts U g c U g s pre.length:=
 #[#[pre,post,e,1,λ_ _ _ _ _=>rfl],λp=>by lia]
def Back.step {ts:List (T ν)}{V:Int->Bool}{h g:ν}{c:Cm ν}(nd)(C:LF ts U h c){y x:ν}(B:Back ts U g c V y (!(k,x)) n):
  ∃ s m,m<n/\Back ts U g c (pF V k) x s m:=by
 let#[pre,post,e,hn,hV]:=B.at';rcases C.at e with⟨e0,_⟩|⟨t,x',ht,es,hx,hs⟩
 ·cases e0
 injection es with es;injection es with e1 e2;subst e1 e2;let hVt:=hV _ (FH _<|Fr.mpr rfl) _ _ rfl;let#[W3,s,SJ,e3]:=im hx;let Ml:W3.length<n:=by
  rw[<- hn,e3,Fj,FW]
  lia
 show#[s,W3.length,Ml,#[#[W3,SJ++(y,!(t.1,x))::post,by rw[e,e3];simp,1,λq hq k' x'' ZO=>?_],λp=>?_]]
 ·let hqp:q∈pre:=by
   rw[e3];rcases FC.mp hq with hq|hq
   ·show FV _ hq
   ·rw[Fr.mp hq];show FH _ (Fw ..)
  let Sg:k'≠t.1:=λek=>by
   let#[a,b,eab]:=List.append_of_mem hqp;let e5:c=a++(q.1,q.2)::(b++(y,!(t.1,x))::post):=by rw[e,eab];simp
   rcases C.at e5 with⟨e0,_⟩|⟨t2,x2,ht2,es2,_,PZ⟩
   ·rw[ZO]at e0;cases e0
   ·rw[ZO]at es2;injection es2 with es2;injection es2 with e6 e7;let:=nd.inj ht2 ht<|e6.symm.trans ek;subst this;let:=DM PZ hs;let hk:=C.nd;rw[e,bn]at hk;let h1:q.1∈keys pre:=Fd hqp;show (FE.mp hk).2.2 q.1 h1 y (by simp[keys]) this
  rw[mC V Sg];show hV q (FV _ hqp) k' x'' ZO
 ·rw[vw nd ht<|(zL x hVt).trans hs,B.nt p]
  lia
def Back.stop {ts:List (T ν)}{V:Int->Bool}{h g:ν}{c:Cm ν}(C:LF ts U h c){y:ν}(B:Back ts U g c V y none n)(F:Flow ts U h g v):Flow ts V h g (v+1):=by
 let#[pre,post,e,hn,hV]:=B.at';rcases C.at e with⟨_,rfl⟩|⟨t,x',ht,es,hx,hs⟩
 ·intro p;rw[B.nt p,F p,Int.add_mul,Int.one_mul]
  lia
 ·cases es
theorem ua (ts)(U)(p:ν->Bool):Prop:=∀ t∈ts,∀ x z,p x=true->Np t x U=!z->p z=true
theorem AW (p:ν->Bool)(t:T ν):Bool:=p t.2.1&&not (p t.2.2.1)
theorem r6 (ts)(p:ν->Bool):List (T ν):=ts.filter (AW p)
def wx {p:ν->Bool}{t:T ν}(h:∀ x z,p x=true->Np t x U=!z->p z=true):iT U p t=b2 (AW p t):=by
 unfold iT AW b2
 cases hU:U t.1 with
 | true=>
  let:=h t.2.2.1 t.2.1;unfold Np at this
  cases h1:p t.2.1 <;> cases h2:p t.2.2.1 <;> simp_all
 | false=>
  let:=h t.2.1 t.2.2.1;unfold Np at this
  simp_all
def xy {ts:List (T ν)}{p:ν->Bool}(h:ua ts U p):JQ ts U p=((r6 ts p).length:Int):=by
 unfold r6
 induction ts with
 | nil=>rfl
 | cons t ts ih=>
  rw[jG,Gp,ih λu hu=>h u<|Fp _ hu,wx<|h t (Fw ..)]
  cases AW p t with
  | true=>
   grind [b2]
  | false=>
   grind [b2]
def Flow.cut {ts:List (T ν)}{h g:ν}{p:ν->Bool}(F:Flow ts U h g v)(hc:ua ts U p)(hh:p h=true)(hg:p g=false):((r6 ts p).length:Int)=v:=by
 let:=F p;rw[xy hc,hh,hg]at this;rw[this];change v * (1 - 0)=v
 lia
inductive NI (ts:List (T ν)):ν->List (T ν)->ν->Prop
 |nil (x:ν):NI ts x [] x
 |snoc {x:ν}{ws:List (T ν)}{t:T ν}:NI ts x ws t.2.1->t∈ts->NI ts x (ws++[t]) t.2.2.1
theorem nums (ws:List (T ν)):Ξ:=ws.map (·.1)
def NI.sub (W:NI ts x ws y):∀ t∈ws,t∈ts:=by
 induction W with
 | nil=>simp_all
 | snoc W ht ih=>
  intro t h;rcases FC.mp h with h|h
  ·show ih t h
  ·simp_all
def NI.up {ts:List (T ν)}{rk:ν->Nat}(hr:∀ t∈ts,rk t.2.1<rk t.2.2.1){x y:ν}{ws:List (T ν)}(W:NI ts x ws y):rk x+ws.length<=rk y/\(∀ t∈ws,rk t.2.1<rk y)/\ws.Nodup:=by
 induction W with
 | nil=>simp_all
 | @snoc ws t W ht ih=>
  let:=hr _ ht;let#[i1,i2,i3]:=ih;show#[by rw[Fj,Gf];lia,λu hu=>?_,?_]
  ·rcases FC.mp hu with hu|hu
   ·let:=i2 u hu;lia
   ·simp_all
  ·show FE.mpr #[i3,by simp,λa ha b hb e=>?_];let eb:=Fr.mp hb;let:=i2 a ha
   lia
def nQ {ws:List (T ν)}(nd)(hs:∀ t∈ws,t∈ts)(h:ws.Nodup):(nums ws).Nodup:=by
 induction ws with
 | nil=>show Hg
 | cons a ws ih=>
  let#[h1,h2]:=FM.mp h;show FM.mpr #[λz=>?_,ih (λt ht=>hs t<|Fp _ ht) h2];let#[u,hu,e]:=F8.mp z;let:=nd.inj (hs u<|Fp _ hu) (hs a<|Fw ..) e
  simp_all
theorem without (U)(ks:Ξ):Int->Bool:=λk=>U k&&not (decide (k∈ks))
def vv (nd)(p:ν->Bool)(W:NI ĵ x ws y)(hn:(nums ws).Nodup):
  JQ ts (without U (nums ws)) p=JQ ts U p - b2 (p x)+b2 (p y):=by
 induction W with
 | nil=>
  simp[kJ,without,nums]
 | @snoc ws t W ht ih=>
  let Ru:(nums ws++[t.1]).Nodup:=by
   let:nums (ws++[t])=nums ws++[t.1]:=Fa
   simp_all
  let#[n1,_,n3]:=FE.mp Ru;let LO:=λz=>n3 t.1 z t.1 (Fr.mpr rfl) rfl;let hU:=(Fn.mp ht).2;let hV:without U (nums ws) t.1=true:=by unfold without;rw[hU,F5 LO];rfl
  let hs:Np t t.2.2.1 (without U<|nums ws)=!t.2.1:=by unfold Np;rw[hV,if_pos rfl,if_pos rfl]
  let e:JQ ts (without U<|nums (ws++[t])) p=JQ ts (pF (without U<|nums ws) t.1) p:=kJ p λu _=>by
   let e2:nums (ws++[t])=nums ws++[t.1]:=Fa;by_cases hu:u.1=t.1
   ·rw[hu,qQ,hV];unfold without
    simp_all
   ·rw[mC _ hu];unfold without
    simp_all
  rw[e,vw nd ((Fn.mp ht).1) hs,ih n1]
  lia
def Flow.without (nd)(F:Flow ts U h g v){ws:List (T ν)}(W:NI ĵ h ws g)(hn:(nums ws).Nodup):Flow ts (Wy.without U (nums ws)) h g (v - 1):=λp=>by
 rw[vv nd p W hn,F p,Int.sub_mul,Int.one_mul]
 lia
set_option tactic.hygienic true in def nu {ts:List (T ν)}{x:ν}(h:0<=JQ ts U K7)(hi:0<JQ ts U K7\/∃ t∈ts,U t.1=true/\t.2.2.1=x/\t.2.1≠x):∃ t∈ts,U t.1=true/\t.2.1=x:=by
 by_cases hx:∃ t∈ts,U t.1=true/\t.2.1=x
 ·show hx
 ·exfalso;let key:∀ ts:List (T ν),(∀ t∈ts,¬ (U t.1=true/\t.2.1=x))->JQ ts U K7<=0/\((∃ t∈ts,U t.1=true/\t.2.2.1=x/\t.2.1≠x)->JQ ts U K7<0):=by
   intro ts hts
   induction ts with
   | nil=>show#[Int.le_refl _,λgR=>(by let#[t,ht,_]:=gR;show nomatch ht)]
   | cons a ts ih=>
    let#[i1,i2]:=ih λt ht=>hts t<|Fp _ ht;rw[jG];let t0:iT U (λz=>decide (z=x)) a<=0:=by
     unfold iT;split
     ·rename_i hU;change b2 (decide _) - b2 (decide _)<=0;rw[F5 λe=>(hts a<|Fw ..) #[hU,e]]
      cases decide (a.2.2.1=x) <;> decide
     ·show Int.le_refl _
    show#[#[],λgR=>?_];let#[t,ht,h1,h2,h3]:=gR;rcases Fv.mp ht with rfl|ht
    ·let:iT U K7 t=-1:=by unfold iT;rw[if_pos h1];change b2 (decide _) - b2 (decide _)=-1;rw[F5 h3,EZ h2];rfl
     lia
    ·let:=i2 #[t,ht,h1,h2,h3]
     lia
  let#[k1,k2]:=key ts λt ht z=>hx #[t,ht,z]
  grind
def Flow.UD {ts:List (T ν)}{rk:ν->Nat}(hr:∀ t∈ts,rk t.2.1<rk t.2.2.1){h g x:ν}(F:Flow ts U h g v)(hv:0<v)(hg:x≠g){ws:List (T ν)}(W:NI ĵ h ws x):∃ t∈ts,U t.1=true/\t.2.1=x:=by
 let e:=F λz=>decide (z=x);rw[F5<|show ¬ g=x from λz=>hg z.symm]at e;by_cases hh:h=x
 ·rw[EZ hh]at e;let:JQ ts U K7=v:=by rw[e];change v * (1 - 0)=v;lia
  show nu #[] (.inl<|by lia)
 ·show nu #[] (.inr ?_)
  cases W with
  | nil=>show absurd rfl hh
  | @snoc ws t W ht=>
   let:=hr t (Fn.mp ht).1;show#[t,(Fn.mp ht).1,(Fn.mp ht).2,1,λz=>by lia]
variable {ν:Type}[DecidableEq ν]
theorem look (U)(x:ν):List (T ν)->Cm ν×List ν->Cm ν×List ν
 | [],s=>s
 | t::r,s=>match Np t x U with
  | some z=>if z∈keys s.1 then look U x r s else look U x r (s.1++[(z,!(t.1,x))],s.2++[z])
  | none=>look U x r s
theorem gu (ts)(x:ν):List (T ν):=ts.filter λt=>decide (t.2.1=x) || decide (t.2.2.1=x)
theorem Y9 (ts)(U):Nat->Cm ν×List ν->Cm ν
 | 0,s=>s.1
 | n+1,s=>match s.2 with
  | []=>s.1
  | x::w=>Y9 ts U n (look U x (gu ts x) (s.1,w))
theorem eB (ts)(U)(N:Nat):Option ν->Cm ν
 | none=>[]
 | some h=>Y9 ts U N ([(h,none)],[h])
structure Bf (ts:List (T ν)) (U:Int->Bool) (h:ν) (c:Cm ν) (d w:List ν):Prop where
 MC:LF ts U h c
 ks:keys c=d++w
 done:∀ x∈d,∀ t∈ts,∀ z,Np t x U=!z->z∈keys c
def Bf.start (ts)(U)(h:ν):Bf ts U h [(h,none)] [] [h]:=#[.one,1,λx hx=>nomatch hx]
def mm:∀ (r:List (T ν))(s:Cm ν×List ν),(∀ t∈r,t∈ts)->LF ts U h s.1->keys s.1=d++s.2->x∈d->
  LF ts U h (look U x r s).1/\keys (look U x r s).1=d++(look U x r s).2/\(∀ z∈keys s.1,z∈keys (look U x r s).1)/\∀ t∈r,∀ z,Np t x U=!z->z∈keys (look U x r s).1:=by
 intro r'
 induction r' with
 | nil=>
  intro s _ C k _;show #[C,k,λz hz=>hz,λt ht=>nomatch ht]
 | cons t r ih'=>
  intro s hr C k hx;let T5:∀ t∈r,t∈ts:=λu hu=>hr u<|Fp _ hu;unfold look
  cases hs:Np t x U with
  | none=>
   let#[a,b,c,e]:=ih' s T5 C k hx;show#[a,b,c,λu hu z hz=>?_]
   grind
  | some y=>
   change LF ts U h (if y∈keys s.1 then look U x r s else _).1/\_;by_cases hy:y∈keys s.1
   ·simp only[if_pos hy];let#[a,b,c,e]:=ih' s T5 C k hx;show#[a,b,c,λu hu z hz=>?_];rcases Fv.mp hu with rfl|hu
    ·rw[hs]at hz;cases hz;show c _ hy
    ·show e u hu z hz
   ·simp only[if_neg hy];let C':LF ts U h (s.1++[(y,!(t.1,x))]):=.snoc C Ħ (hr t<|Fw ..) hs hy;let k':keys (s.1++[(y,!(t.1,x))])=d++(s.2++[y]):=by rw[bn,k,FK];rfl
    let#[a,b,c,e]:=ih' (s.1++[(y,!(t.1,x))],s.2++[y]) T5 C' k' hx;let hyk:y∈keys (s.1++[(y,!(t.1,x))]):=by simp_all
    show#[a,b,λz hz=>c z (by rw[bn];show FV _ hz),λu hu z hz=>?_]
    grind
def zK {t:T ν}{x z:ν}(h:Np t x U=!z):t.2.1=x\/t.2.2.1=x:=by grind [Np]
def Bf.step {ts:List (T ν)}{h x:ν}{c:Cm ν}{d w:List ν}(B:Bf ts U h c d (x::w)):Bf ts U h (look U x (gu ts x) (c,w)).1 (d++[x]) (look U x (gu ts x) (c,w)).2:=by
 let#[a,b,m,e]:=mm (x:=x) (d:=d++[x]) _ (c,w) (λt ht=>(Fn.mp ht).1) B.MC (by rw[B.ks];simp) Ğ;show#[a,b,λy hy t ht z hz=>?_];rcases FC.mp hy with hy|hy
 ·show m z (B.done y hy t ht z hz)
 ·let hyx:=Fr.mp hy;rw[hyx]at hz;show e t (Fn.mpr #[ht,?_]) z hz;rw[Bool.or_eq_true];rcases zK hz with h|h
  ·show .inl (EZ h)
  ·show .inr (EZ h)
theorem d9 (ts)(nm:List ν):Prop:=∀ t∈ts,t.2.1∈nm/\t.2.2.1∈nm
def yt {t:T ν}{x z:ν}(h:Np t x U=!z):z=t.2.1\/z=t.2.2.1:=by grind [Np]
def LF.names {ts:List (T ν)}{h:ν}{c:Cm ν}{nm:List ν}(C:LF ts U h c)(E)(hh:h∈nm):∀ z∈keys c,z∈nm:=by
 induction C with
 | one=>intro z hz;rw[Fr.mp hz];show hh
 | snoc C hx ht hs hy ih=>
  intro z hz;rw[bn]at hz;rcases FC.mp hz with hz|hz
  ·show ih z hz
  ·rw[Fr.mp hz];rcases yt hs with e|e
   ·rw[e];show (E _ ht).1
   ·rw[e];show (E _ ht).2
def eA {xs ys:List ν}(nd:xs.Nodup)(h:∀ x∈xs,x∈ys):xs.length<=ys.length:=by
 induction xs generalizing ys with
 | nil=>show FR _
 | cons a xs ih=>
  let#[n1,n2]:=FM.mp nd;let ha:=h a<|Fw ..;let:=ih (ys:=ys.erase a) n2 λx hx=>(Iz λe=>n1 (by rw[<- e];show hx)).mpr<|h x (Fp _ hx);rw[List.length_erase_of_mem ha]at this;let:=List.length_pos_of_mem ha;rw[FW];omega
def Bf.len {ts:List (T ν)}{h:ν}{c:Cm ν}{d w nm:List ν}(B:Bf ts U h c d w)(E)(hh:h∈nm):d.length+w.length<=nm.length/\c.length<=nm.length:=by
 let:=eA B.MC.nd<|B.MC.names E hh;let e:(keys c).length=c.length:=EV _;let e2:=congrArg List.length B.ks
 grind
structure Rea (ts:List (T ν)) (U:Int->Bool) (h:ν) (c:Cm ν):Prop where
 MC:LF ts U h c
 all:∀ x∈keys c,∀ t∈ts,∀ z,Np t x U=!z->z∈keys c
def Dp (E)(hh:h∈nm):∀ (n:Nat)(c:Cm ν)(d w:List ν),Bf ts U h c d w->nm.length<=n+d.length->Rea ts U h (Y9 ts U n (c,w))
 | 0,c,d,w,B,hn=>by let hl:=(B.len E hh).1;let hw:w=[]:=HX.mp #[];subst hw;show#[B.MC,λx hx=>B.done x (by let:=B.ks;rw[Ft]at this;rw[<- this];show hx)]
 | n+1,c,d,[],B,hn=>#[B.MC,λx hx=>B.done x (by let:=B.ks;rw[Ft]at this;rw[<- this];show hx)]
 | n+1,c,d,x::w,B,hn=>Dp E hh n _ (d++[x]) _ B.step (by rw[Fj,Gf];lia)
def uH {ts:List (T ν)}{h:ν}{nm:List ν}(E)(hh:h∈nm)(hN:nm.length<=N):Rea ts U h (eB ts U N !h):=Dp E hh N _ [] [h] (Bf.start ts U h) (hN)
def Rea.closed {ts:List (T ν)}{h:ν}{c:Cm ν}(R:Rea ts U h c):ua ts U (λz=>decide (z∈keys c)):=λt ht x z hx hs=>EZ (R.all x (Fq hx) t ht z hs)
theorem QE (U:Ξ)(k:Int):Ξ:=if k∈U then U.filter (λj=>not (decide (j=k))) else U++[k]
theorem Lh (U:Ξ):Int->Bool:=λk=>decide (k∈U)
def VF (U:Ξ)(k:Int):Lh (QE U k)=pF (Lh U) k:=by
 funext j
 grind [Lh,QE,pF]
set_option tactic.hygienic true in def zI (h:U.Nodup)(k:Int):(QE U k).Nodup:=by
 unfold QE;split
 ·show h.filter _
 ·rename_i hk;show FE.mpr ⟨h,by simp,λa ha b hb e=>?_⟩
  simp_all
theorem cK (c:Cm ν)(y:ν):Option (Int×ν):=(c.find? λq=>decide (q.1=y)).bind (·.2)
def ki {c pre post:Cm ν}{y:ν}{s:Option (Int×ν)}(nd:(keys c).Nodup)(e:c=pre++(y,s)::post):c.find? SL=!(y,s)/\cK c y=s:=by
 let h1:c.find? SL=!(y,s):=by rw[e,bn]at nd;let hno:pre.find? SL=none:=Gq.mpr λq hq z=>(FE.mp nd).2.2 q.1 (Fd hq) y (by simp[keys])<|Fq z;rw[e,Ih,hno];simp
 show#[h1,?_];unfold cK;rw[h1];rfl
theorem gB (c:Cm ν):Nat->List Int->Option (Int×ν)->Ξ
 | 0,U,_=>U
 | _+1,U,none=>U
 | n+1,U,some s=>gB c n (QE U s.1) (cK c s.2)
def zD (c:Cm ν)(n)(U:Ξ)(k:Int)(x:ν):gB c (n+1) U (!(k,x))=gB c n (QE U k) (cK c x):=rfl
def Back.look {ts:List (T ν)}{V:Int->Bool}{h g y:ν}{c:Cm ν}{s:Option (Int×ν)}(C:LF ts U h c)(B:Back ts U g c V y s n):cK c y=s/\c.find? SL=!(y,s)/\n<c.length:=by
 let#[pre,post,e,hn,_]:=B.at';let#[h1,h2]:=ki C.nd e
 simp_all
def yg (nd)(C:LF ts U h c)(F:Flow ts U h g v):∀ (n m:Nat)(V:Ξ)(y:ν)(s:Option (Int×ν)),Back ts U g c (Lh V) y s m->m<n->V.Nodup->Flow ts (Lh (gB c n V s)) h g (v+1)/\(gB c n V s).Nodup
 | 0,m,V,y,s,B,hm,_=>absurd hm (HA _)
 | n+1,m,V,y,none,B,hm,hV=>#[B.stop C F,hV]
 | n+1,m,V,y,some (k,x),B,hm,hV=>by let#[s',m',Ml,B']:=B.step nd C;rw[<- VF]at B';let e:=(B'.look C).1;rw[zD,e];show yg nd C F n m' (QE V k) x s' B' #[] (zI hV k)
def pO {ts:List (T ν)}{h g:ν}{c:Cm ν}(nd)(C:LF ts (Lh U) h c)(F:Flow ts (Lh U) h g v)(hg:g∈keys c)(hU:U.Nodup)(hn:c.length<=n):Flow ts (Lh (gB c n U (cK c g))) h g (v+1)/\(gB c n U (cK c g)).Nodup:=by let#[pre,s,post,e]:=im hg;let B:=Back.start (ts:=ts) (U:=Lh U) e;rw[(B.look C).1];show yg nd C F n _ U g s B (FY (B.look C).2.2 hn) hU
theorem AV (ts)(c:Cm ν):Ξ:=nums (r6 ts λz=>decide (z∈keys c))
theorem dZ (ts)(h:Option ν)(g:ν)(N:Nat):Nat->List Int->Sum Ξ Ξ
 | 0,U=>.inr U
 | m+1,U=>if g∈keys Ŷ then dZ ts h g N m (gB Ŷ N U (cK Ŷ g)) else .inl (AV ts Ŷ)
def iS (ts)(h:Option ν)(g:ν)(N m:Nat)(U:Ξ):dZ ts h g N (m+1) U=if g∈keys Ŷ then dZ ts h g N m (gB Ŷ N U (cK Ŷ g)) else .inl (AV ts Ŷ):=rfl
structure a1e (ts:List (T ν)) (h g:ν) (U:Ξ) (ks:Ξ) (p:ν->Bool):Prop where
 closed:ua ts (Lh U) p
 hh:p h=true
 hg:p g=false
 ks:ks=nums (r6 ts p)
def ug (nd)(E)(hh:h∈nm)(hN:nm.length<=N):∀ (m:Nat)(U:Ξ)(v:Int),Flow ts (Lh U) h g v->U.Nodup->
  (∀ V,dZ ts (!h) g N m U=.inr V->Flow ts (Lh V) h g (v+m)/\V.Nodup)/\
  (∀ ks,dZ ts (!h) g N m U=.inl ks->∃ (i:Nat)(V:Ξ)(p:ν->Bool),i<m/\dZ ts (!h) g N i U=.inr V/\Flow ts (Lh V) h g (v+i)/\a1e ts h g V ks p/\(ks.length:Int)=v+i):=by
 intro r'
 induction r' with
 | zero=>
  intro U v F hU;show #[λV e=>by cases e;show#[by simpa using F,hU],λks e=>by cases e]
 | succ m ih'=>
  intro U v F hU;let R:=uH (U:=Lh U) E hh hN;rw[iS];generalize hc:eB ts (Lh U) N (!h)=c at R;let cl:c.length<=N:=by
   let:=eA R.MC.nd (R.MC.names E hh)
   grind [keys,List.length_map]
  by_cases hg:g∈keys c
  ·rw[if_pos hg];let#[F',hU']:=pO nd R.MC F hg hU cl;let#[a,b]:=ih' _ (v+1) F' hU';show#[λV e=>?_,λks e=>?_]
   ·let:=a V e
    grind
   ·let#[i,V,p,hi,e1,e2,e3,e4]:=b ks e;show#[i+1,V,p,#[],?_,?_,e3,#[]]
    ·rw[iS,hc,if_pos hg];show e1
    ·grind
  ·rw[if_neg hg];show#[(λV e=>by cases e),λks e=>?_]
   cases e;let hh':decide (h∈keys c)=true:=EZ R.MC.JR;let hg':decide (g∈keys c)=false:=F5 hg;show#[(0),U,λz=>decide (z∈keys c),#[],1,by simpa using F,#[R.closed,hh',hg',1],?_];let:=F.cut R.closed hh' hg'
   simp_all [AV,nums,EV]
theorem Lp (L:List (T ν))(x:ν):Option (T ν):=L.find? λt=>decide (t.2.1=x)
theorem d7 (L:List (T ν))(g:ν):Nat->ν->List (T ν)
 | 0,_=>[]
 | n+1,x=>if x=g then [] else match Lp L x with
  | none=>[]
  | some t=>t::d7 L g n t.2.2.1
def E8 {L:List (T ν)}{x:ν}{t:T ν}(h:Lp L x=!t):t∈L/\t.2.1=x:=#[FT h,by simpa using GH h]
def sC {ts:List (T ν)}{rk:ν->Nat}(hr:∀ t∈ts,rk t.2.1<rk t.2.2.1){h g:ν}(F:Flow ts U h g v)(hv:0<v)(hN:∀ z,rk z<N):∀ (n:Nat)(x:ν)(ws:List (T ν)),NI ĵ h ws x->N<=n+rk x->NI ĵ h (ws++d7 ĵ g n x) g:=by
 intro r'
 induction r' with
 | zero=>
  intro x ws W hn;show absurd (hN x) #[]
 | succ n ih'=>
  intro x ws W hn;unfold d7;by_cases hx:x=g
  ·simp_all
  ·rw[if_neg hx]
   cases ho:Lp ĵ x with
   | none=>
    let#[t,ht,hU,e]:=F.UD hr hv hx W;show absurd (EZ e) (Gq.mp ho t<|Fn.mpr #[ht,hU])
   | some t=>
    let#[h1,h2]:=E8 ho;subst h2;let:=hr t (Fn.mp h1).1;let:=ih' t.2.2.1 (ws++[t]) (.snoc W h1) #[]
    simp_all
theorem gy (h g:ν)(N:Nat):Nat->List (T ν)->Θ
 | 0,_=>[]
 | m+1,L=>nums (d7 L g N h)::gy h g N m (L.filter λt=>not (decide (t.1∈nums (d7 L g N h))))
def uN {ts:List (T ν)}(nd){rk:ν->Nat}(hr:∀ t∈ts,rk t.2.1<rk t.2.2.1){h g:ν}(hN:∀ z,rk z<N):∀ (m:Nat)(U:Int->Bool),Flow ts U h g (m:Int)->
  ∃ Ob:List (List (T ν)),gy h g N m ĵ=Ob.map nums/\Ob.length=m/\(∀ ws∈Ob,NI ĵ h ws g)/\(Ob.map nums).flatten.Nodup:=by
 intro r'
 induction r' with
 | zero=>
  intro U F;show #[[],2,(λws hw=>nomatch hw),Hg]
 | succ m ih'=>
  intro U F;let W:=sC hr F #[] hN N h [] (.nil h) #[];rw[Gm]at W;unfold gy;generalize d7 ĵ g N h=ws at W;let up:=W.up (rk:=rk) λt ht=>hr t (Fn.mp ht).1;let hn:=nQ nd (λt ht=>(Fn.mp<|W.sub t ht).1) up.2.2;let F':=F.without nd W hn;rw[show ((m+1:Nat):Int) - 1=(m:Int) by lia]at F';let#[Ob,e,hl,hw,Vq]:=ih' _ F';let ef:(ts.filter λt=>U t.1).filter (λt=>not (decide (t.1∈nums ws)))=ts.filter λt=>Wy.without U (nums ws) t.1:=by rw[List.filter_filter];show Ii λt _=>?_;unfold Wy.without;rw[Bool.and_comm]
  rw[ef,e];let a8E:∀ vs∈Ob,NI ĵ h vs g/\∀ k∈nums vs,¬ k∈nums ws:=λvs hv=>by
   let V:=hw vs hv;let:∀ {x y:ν}{vs:List (T ν)},NI (ts.filter λt=>Wy.without U (nums ws) t.1) x vs y->NI ĵ x vs y:=by
    intro x y vs V
    induction V with
    | nil=>show .nil _
    | snoc V ht ih=>
     show .snoc ih ?_
     grind
   show#[this V,λk hk z=>?_];let#[t,ht,1]:=F8.mp hk;let#[a,b]:=Fn.mp<|V.sub t ht;unfold Wy.without at b;rw[EZ z]at b;simp at b
  show#[ws::Ob,1,by rw[FW,hl],λvs hv=>?_,?_]
  ·grind
  ·rw[Fk,Ig]
   grind
universe L2.Wy
namespace K72
open PySem L2 L2.Wy
open PyProof.Rows (boot_all boot_bool boot_dict boot_int boot_list boot_sorted boot_str boot_tuple)
abbrev c7 (U:Ξ):D:=Km (U.map λk=>(.inl k,.bl true))
def fG:(cI (U.map λk=>Ź) (.inl k)).isSome=Lh U k:=by let:=X1 (l:=U) (f:=λz=>z) (g:=λ_=>D.bl true) (y:=k);rwa [List.map_id']at this
theorem oD:Option Str->D
 | none=>.non
 | some x=>.str x
theorem aW (ts:List JM):Option Ξ->List JM
 | none=>ts
 | some ks=>ts.filter λt=>not (decide (t.1∈ks))
theorem iJ:Option (Int×Str)->D
 | none=>.non
 | some s=>.tup [.int s.1,.str s.2]
abbrev eV (c:Cm Str):D:=Km (c.map λq=>(.inr q.1,iJ q.2))
def dW:(cI (c.map λq=>((.inr q.1:Key),iJ q.2)) (.inr y)).isSome=decide (y∈keys c):=X0
section
variable {c:Cl}
inductive kY (c:Cl):Ä
 |mk {S:NS}{fo:Λ}:S.J0.length<=1000->kY c [aD c S,PC fo] (bQ (aW S.J0 fo))
def kC [Bx:Bd](J8):Tk 2 "standing_ties" (top 70) ["net","fallen"] (Pr (kY c)):=by
 show Ks [] ?_ λ_ _ _ _ _ _ _ hr ND=>(qC (qI (dT nE vg (Đ 1) P0)
  (qr<|gk (Đ 0) J8 hr.m)
  q0)
 (qr (O8 0 rfl (cS 1 [1] ["tie","fallen"]) (aw<|gk (Đ 0) J8 hr.m)
  ė
  (λ_ _ _ _ _=>bF<|RI (aK hr) ŭ (Đ 1))
  ł)))
 rintro _ _ @⟨S,fo,hl⟩
 cases fo with
 | none=>show .rt (.t #[2,by show#[0]] #[#[2,by decide,#[hl]],1])
 | some ks=>show .nx (.f #[2,by show#[0]] rfl) #[be (λt=>not (decide _)) #[#[2,by decide,#[hl]],.l .lst] hl λt _=>#[_,1,#[#[2,.t rfl],1,gb],λ_=>rfl],1]
inductive Mn:Ä
 |mk {t:JM}{x:Str}{U:Ξ}:Mn [bV t,.str x,c7 U] (oD (Np t x (Lh U)))
def sH [Bx:Bd]:Tk 1 "step_over" (top 72) ["tie","name","used"] (Pr Mn):=by
 show Ks [] ?_ λ_ _ _ _ _ _ _ hr ND=>(qC (qI (TV (aK hr) ŭ<|Đ 2)
  (qr<|UO (dT aV bK ŭ<|Đ 1) ŭ P0)
  q0)
 (qr<|UO (dT aV bK ŭ<|Đ 1) ŭ P0))
 rintro _ _ @⟨t,x,U⟩;let r1:=eq_str (ε:=[some<|bV t,some<|.str x,some<|c7 U]) (ra:=rO Sub (rV 0)<|rC (.int 1)) (rb:=rV 1) #[2,.t rfl] rfl;let r2:=eq_str (ε:=[some<|bV t,some<|.str x,some<|c7 U]) (ra:=rO Sub (rV 0)<|rC (.int 2)) (rb:=rV 1) #[2,.t rfl] rfl;unfold Np
 cases hu:Lh U t.1 with
 | true=>
  show .rt (.t #[#[2,.t rfl],1,.k rfl kI (by rw[fG,hu];rfl)] #[?_,1]);by_cases z:t.2.2.1=x
  ·rw[EZ z]at r2;rw[if_pos z];show .t r2 #[2,.t rfl]
  ·rw[F5 z]at r2;rw[if_neg z];show .f r2 rfl
 | false=>
  show .nx (.f #[#[2,.t rfl],1,.k rfl kI (by rw[fG,hu];rfl)] rfl) #[?_,1];by_cases z:t.2.1=x
  ·rw[EZ z]at r1;rw[if_pos z];show .t r1 #[2,.t rfl]
  ·rw[F5 z]at r1;rw[if_neg z];show .f r1 rfl
inductive i5:Ä
 |mk {ts:List JM}{x:Str}{t:JM}:Lp ts x=!t->i5 [bQ ts,.str x] (bV t)
def pq [Bx:Bd]:Tk 1 "tie_out_of" (top 76) ["ties","name"] (Pr i5):=by
 show Ks ["tie"] ?_ λ_ _ _ _ _ _ _ hr ND=>(qC (Pg Fe rfl K4 (pN 2 ND) (aG 2)
  (q1 (qI (dT aV bK (Js hr (Đ 2) dI)<|Đ 1)
  (qr<|Đ 2)
  q0)))
 (qr P0))
 rintro _ _ @⟨ts,x,t,ht⟩;show ?_;show fH ts (λε=>∃ o,ε=[.fz _,.fz _,o]) (λt=>decide _) bV #[_,1] #[1,.l .lst] (λt ε _ gR=>?_) (λu h=>by rw[Option.some.inj<|ht.symm.trans h]) λh=>nomatch ht.symm.trans h
 let#[o,he]:=gR;subst he;let r1:=eq_str (ε:=[some<|bQ ts,some<|.str x,some<|bV t]) (ra:=rO Sub (rV 2)<|rC (.int 1)) (rb:=rV 1) #[2,.t rfl] rfl;show#[_,1,?_];by_cases z:t.2.1=x
 ·rw[EZ z]at r1 ⊢;show .t r1 #[2]
 ·rw[F5 z]at r1 ⊢;show#[_,.f r1 rfl,_,1]
inductive fB:Ä
 |mk {ts:List JM}{c:Cm Str}:ts.length<=1000->fB [bQ ts,eV c] (rw (AV ts c))
def lP [Bx:Bd]:Tk 1 "ties_between" (top 75) ["ties","came"] (Pr fB):=by
 show Ks [] ?_ λ_ _ _ _ _ _ _ hr ND=>(qr (O8 4 rfl (cS 4 [1] ["number","one","other","delay","came"]) K4
  ļ
  (λ_ _ _ _ _=>bF<|PW.pt (jQ (TV (aK hr) (Đ 1)<|Đ 4)<|bS (RI (aK hr) (Đ 2)<|Đ 4)))
  ł))
 rintro _ _ @⟨ts,cm,hl⟩;show#[be _ #[1,.l .lst] hl λt _=>#[_,#[2],?_,λ_=>rfl],Pf _ _];change sk _ _ _ (decide _&&not (decide _))
 cases z:decide (t.2.1∈keys cm) with
 | true=>show .t #[2,.k rfl kS (by rw[dW,z];rfl)] #[2,.k rfl kS (by rw[dW];rfl)]
 | false=>show .f #[2,.k rfl kS (by rw[dW,z];rfl)]
universe e
section
variable {c:Cl}
def ne_str (ha:ra ε (.str x))(hb:rb ε (.str y)):rO (fE true) ra rb ε (.bl (decide (x≠y))):=.mk ha hb (.mk rfl rfl rfl<|congrArg D.bl (by rw[if_pos rfl,<- decide_not];show Hr.mpr ⟨λh z=>h<|V.str.inj z,λh z=>h<|congrArg V.str z⟩))
def DE {ws:List JM}(A:NI ts x ws y)(B:NI ts x ws z):y=z:=by
 cases A with
 | nil=>exact (by generalize hw:([])=ws at B;cases B with|nil=>rfl|snoc _ _=>show absurd hw.symm<|by simp)
 | snoc A1 h1=>
  generalize hw:_++[_]=ws at B
  cases B with
  | nil=>simp_all
  | snoc B1 h2=>simp_all
inductive O5:Ä
 |mk {L:List JM}{h g:Str}{N:Nat}:NI L h (d7 L g N h) g->(d7 L g N h).length<=1000->O5 [bQ L,.str h,.str g] (rw (nums (d7 L g N h)))
def xp [Bx:Bd](Mq:JB 1 "tie_out_of" ["ties","name"] (Pr i5)):Tk 2 "one_way" (top 77) ["ties","home","listener"] (Pr O5):=by
 show Ks ["way","name","tie"] ?_ λ_ _ _ _ _ _ _ hr ND=>(qC (qo 3 ND<|c9 J4)
 (qC (qs 4 ND<|Đ 1)
 (qC (qW Fe (dT fM kH (Đ 4)<|Đ 2)
  (qC (qs 5 ND<|dF Mq hr.m rfl (da (Đ 0)<|da (Đ 4) J4))
 (qC (qA (aF<|P2 Bx.K Fs FA Fy aH (pv 3) (a9 (Js hr (Đ 5) dI) IZ)) λ_ _ _ h=>h)
 (q1<|qs 4 ND (Js hr (Đ 5) dI)))))
 Uf)))
 rintro _ _ @⟨L,h,g,N,W,hl⟩;show .nx #[#[1,by simp,1]] (.nx #[1] ?_);show eZ (b:=(N,[],h)) (λb ε=>NI L h b.2.1 b.2.2/\b.2.1++d7 L g b.1 b.2.2=d7 L g N h/\∃ o,ε=[.fz<|bQ L,.fz<|.str h,.fz<|.str g,.ow<|rw (nums b.2.1),.fz<|.str b.2.2,o]) (·.1) ⟨.nil h,rfl,_,rfl⟩ λgR ε Ut=>?_;let#[n,ws,x]:=gR;let#[A,e,o,he]:=Ut;subst he;let rd:=ne_str (ε:=[some<|bQ L,some<|.str h,some<|.str g,some<|rw (nums ws),some<|.str x,o.a]) (ra:=rV 4) (rb:=rV 2) rfl rfl;by_cases z:x=g
 ·rw[F5 λy=>y z]at rd;let e0:d7 L g n x=[]:=by cases n with
   | zero=>rfl
   | succ n=>unfold d7;rw[if_pos z]
  rw[e0,Ft]at e;show .inl #[rd,1,by rw[e]]
 ·rw[EZ z]at rd;let nn:d7 L g n x≠[]:=λy=>z (by rw[y,Ft]at e;rw[<- e]at W;show DE A W)
  cases n with
  | zero=>show absurd rfl nn
  | succ n=>
   cases ho:Lp L x with
   | none=>show absurd (by unfold d7;rw[if_neg z,ho]) nn
   | some t=>
    rw[show d7 L g (n+1) x=t::d7 L g n t.2.2.1 by conv=>lhs;unfold d7;rw[if_neg z,ho]]at e;let e2:(ws++[t])++d7 L g n t.2.2.1=d7 L g N h:=by rw[FK];show e
    let tl:=congrArg List.length e2;rw[Fj,Fj,Gf]at tl;let tx:=Fq<|GH (p:=λt:JM=>decide (t.2.1=x)) ho;show .inr #[rd,(n,ws++[t],t.2.2.1),_,.nx #[#[3],#[ho]]<|.nx #[1,by unfold nums;simp;lia,.z #[2,.t rfl]] #[2,.t rfl],#[.snoc (tx▸A)<|FT ho,e2,.fz<|bV t,?_],Gv _];simp[nums,List.map,Fa]
def zC (U:Ξ)(k:Int):qV (U.map λk=>Ź) (.inl k)=(U.filter λj=>not (decide (j=k))).map λk=>Ź:=by
 unfold qV;rw[List.filter_map];congr 1;show Ii λj _=>by
  simp_all
def yh (U:Ξ)(k:Int):(QE U k).length<=U.length+1:=by
 unfold QE;split
 ·show Nat.le_succ_of_le (FB _ _)
 ·simp
inductive O4 (c:Cm Str):Nat->Option (Int×Str)->Prop
 |done {n:Nat}:O4 c n none
 |step {n:Nat}{k:Int}{x:Str}{s:Option (Int×Str)}:c.find? (λq=>decide (q.1=x))=!(x,s)->O4 c n s->O4 c (n+1) !(k,x)
def zo {c:Cm Str}(h:c.find? (λq=>decide (q.1=x))=!(x,s)):cI (c.map λq=>((.inr q.1:Key),iJ q.2)) (.inr x)=!iJ s:=by rw[gG,funext λq=>Hr.mpr #[Sum.inr.inj,congrArg _],h];rfl
inductive jh:Ä
 |mk {U:Ξ}{c:Cm Str}{g:Str}{n:Nat}{s:Option (Int×Str)}:c.find? (λq=>decide (q.1=g))=!(g,s)->O4 c n s->U.Nodup->U.length+n<=1000->jh [c7 U,eV c,.str g] (c7 (gB c n U s))
def sD [Bx:Bd](T:EO Bx.mg):Tk 1 "used_with" (top 74) ["used","came","listener"] (Pr jh):=by
 show Ks ["told","step"] ?_ λ_ _ _ _ _ _ _ hr ND=>(qC (qo 3 ND<|a4R rfl rfl T.L' š)
 (qC (qs 4 ND<|Js hr (Đ 1) (Đ 2))
 (qC (qW Fe (dT eM nO (Đ 4) P0)
  (qC (qI (TV (aK hr) (Js hr (Đ 4) dI)<|Đ 3)
  (q1<|YX (aF<|BV (pv 3) (Js hr (Đ 4) dI) #[4]))
  (q1<|qP (bB (aK hr) (pv 3) (Js hr (Đ 4) dI) OQ rfl) (λ_ _ _ h=>h)))
 (q1<|qs 4 ND (Js hr (Đ 1)<|Js hr (Đ 4) dI))))
 Uf)))
 rintro _ _ @⟨U,cm,g,n,s,hg,ss,nd,hl⟩;let em:Km (fe []<|U.map λk=>Ź)=c7 U:=by rw[ig (by rw[Gm];show pE<|by rwa [List.map_id'])];rfl
 let dk:=cDk.mk (ð:=U.map λk=>Ź);rw[em]at dk;show .nx #[#[#[2],dk]] (.nx #[2,.k (zo hg) kS] ?_);show eZ (b:=(n,U,s)) (λb ε=>O4 cm b.1 b.2.2/\b.2.1.length+b.1<=1000/\gB cm b.1 b.2.1 b.2.2=gB cm n U s/\ε=[.fz<|c7 U,.fz<|eV cm,.fz<|.str g,.ow<|c7 b.2.1,.fz<|iJ b.2.2]) (·.1) ⟨ss,hl,rfl,rfl⟩ λgR ε Ut=>?_;let#[n',V,s']:=gR;let#[ss,hl,e,he]:=Ut;subst he
 cases ss with
 | done=>
  let:gB cm n' V none=V:=by cases n' <;> rfl
  show .inl #[#[2,by show#[0]],1,by rw[<- e,this]]
 | @step n1 k x s1 h1 s2=>
  let e1:cK cm x=s1:=by unfold cK;rw[h1];rfl
  let e2:gB cm n1 (QE V k) s1=gB cm n U s:=by rw[<- e,<- e1];rfl
  let tl:=yh V k;show .inr #[#[2,by show#[0]],(n1,QE V k,s1),_,.nx (ε1:=[.fz<|c7 U,.fz<|eV cm,.fz<|.str g,.ow<|c7 (QE V k),.fz<|iJ !(k,x)]) ?_ #[#[1,#[2,.t rfl],.k (zo h1) kS]],#[s2,#[],e2,1],Gv _];unfold QE;by_cases z:k∈V
  ·rw[if_pos z];let#[v,hv]:=Gu.mp (fG |>.trans (EZ z));let:=SH.mk (i:=3) (rk:=rO Sub (rV 4)<|rC (.int 0)) (ε:=[.fz<|c7 U,.fz<|eV cm,.fz<|.str g,.ow<|c7 V,.fz<|iJ !(k,x)]) rfl #[2,.t rfl] kI hv;rw[zC]at this;show .t #[#[2,.t rfl],1,.k rfl kI (by rw[fG,Lh,EZ z];rfl)] this
  ·rw[if_neg z];let:=VW.mk (i:=3) (rk:=rO Sub (rV 4)<|rC (.int 0)) (re:=rC<|.bl true) (ε:=[.fz<|c7 U,.fz<|eV cm,.fz<|.str g,.ow<|c7 V,.fz<|iJ (some (k,x))]) rfl (by rw[EV];lia) (.z rfl) ⟨rfl,rfl,.t rfl⟩ kI;rw[cf λy=>z<|by simpa using y]at this;rw[show c7 (V++[k])=Km (V.map (λk=>Ź)++[(.inl k,.bl true)]) from congrArg Km Fa];show .f #[#[2,.t rfl],1,.k rfl kI (by rw[fG,Lh,F5 z];rfl)] this
universe e
abbrev gH (nm:η)(ts:List JM):D:=Km (nm.map λx=>(.inr x,bQ (gu ts x)))
theorem vE (U)(x)(s:Cm Str×η)(t:JM):Cm Str×η:=match Np t x U with
 | some z=>if z∈keys s.1 then s else (s.1++[(z,!(t.1,x))],s.2++[z])
 | none=>s
def qt (U)(x):∀ (r:List JM)(s:Cm Str×η),look U x r s=r.foldl (vE U x) s
 | [],_=>rfl
 | t::r,s=>by
  rw[GD,<- qt U x r];unfold vE
  conv=>lhs;unfold look
  cases Np t x U with
  | none=>rfl
  | some z=>
   by_cases c:z∈keys s.1
   ·simp only[if_pos c]
   ·simp only[if_neg c]
inductive ML:Ä
 |n {d e:D}:ML [.non,d,e] (eV [])
 |s {h:Str}{nm:η}{ts:List JM}{U:Ξ}{N:Nat}:d9 ts nm->h∈nm->nm.Nodup->nm.length<=N->nm.length<=900->ML [.str h,gH nm ts,c7 U] (eV (eB ts (Lh U) N !h))
def lQ [Bx:Bd](T:jT Bx.mg)(MQ:JB 1 "step_over" ["tie","name","used"] (Pr Mn)):Tk 2 "reached_from" (top 73) ["home","touching","used"] (Pr ML):=by
 show Ks ["came","waiting","name","tie","nearby"] ?_ λ_ _ _ _ _ _ _ hr ND=>(qC (qI (dT nE vg (Đ 0) P0)
  (qr Xg.p)
  q0)
 (qC (qo 3 ND<|dD1 (Đ 0) P0)
 (qC (qo 4 ND<|c9 š)
 (qC (qW Fe (dT iM cg (cD T.Jo<|Đ 4) dI)
  (qC (YW<|pS 5 ND (P2 Bx.K Fs PySem.F.slot_list_pop PySem.F.type_list_pop Cr (pv 4)<|a9 bf IZ))
 (q1 (Pg Fe rfl (aw<|Js hr (Đ 1) (Đ 5)) (pN 6 ND) (aG 6)
  (qC (qs 7 ND<|dF MQ hr.m rfl (da (Đ 6)<|da (Đ 5) Š))
 (q1 (qI (PW.pt<|jQ (dT eM nO (Đ 7) P0) (bS<|RI (aK hr) (Đ 7) (Đ 3)))
  (qC (qP (bB (aK hr) (pv 3) (Đ 7) (jf<|da (Js hr (Đ 6) dI) (da (Đ 5) J4)) rfl) λ_ _ _ h=>h)
 (q1<|qA (aF<|P2 Bx.K Fs FA Fy aH (pv 4) (a9 (Đ 7) IZ)) (λ_ _ _ h=>h)))
  q0)))))))
 Uf))))
 intro _ _ r
 cases r with
 | n=>show .rt (.t #[2,by show#[0]] #[2])
 | @s h nm ts U N E hh nd hN hz=>
  show .nx (.f #[2,by show#[0]] rfl) (.nx #[#[1,kS,2]] (.nx #[#[#[2],by simp,1]] ?_));show eZ (β:=Nat×Cm Str×η) (b:=(N,[(h,none)],[h])) (λb ε=>(∃ d,Bf ts (Lh U) h b.2.1 d b.2.2/\nm.length<=b.1+d.length)/\Y9 ts (Lh U) b.1 b.2=eB ts (Lh U) N !h/\∃ o5 o6 o7,ε=[.fz<|.str h,.fz<|gH nm ts,.fz<|c7 U,.ow<|eV b.2.1,.ow<|aI b.2.2,o5,o6,o7]) (·.1) ⟨⟨[],Bf.start ..,by simpa using hN⟩,rfl,_,_,_,rfl⟩ λgR ε Ut=>?_;let#[n,cm,wt]:=gR;let#[#[d,B,hn],eN,o5,o6,o7,he]:=Ut;dsimp only at B hn eN he;subst he;let bl:=B.len E hh;let rd:=gt_int (ε:=[some<|.str h,some<|gH nm ts,some<|c7 U,some<|eV cm,some<|aI wt,o5.a,o6.a,o7.a]) (ra:=rF KQ<|rA (rV 4) Nq) (rb:=rC<|.int 0) #[#[2],KQ.m] rfl
  cases wt with
  | nil=>
   let:Y9 ts (Lh U) n (cm,[])=cm:=by cases n <;> rfl
   show .inl #[rd,1,by rw[<- eN,this]]
  | cons x wt=>
   rw[EZ<|by simp]at rd;rw[FW]at bl;obtain⟨n,rfl⟩:∃ n',n=n'+1:=#[n - 1,by omega]
   let xn:x∈nm:=B.MC.names E hh x (by rw[B.ks];simp);let st:=B.step;let eN:Y9 ts (Lh U) n (look (Lh U) x (gu ts x) (cm,wt))=eB ts (Lh U) N !h:=eN;rw[qt]at st eN;show .inr #[rd,(n,(gu ts x).foldl (vE (Lh U) x) (cm,wt)),oq (ε1:=[.fz<|.str h,.fz<|gH nm ts,.fz<|c7 U,.ow<|eV cm,.ow<|aI wt,.fz<|.str x,o6,o7]) ⟨rfl⟩ ?_];show a0F (u:=bV) (gu ts x) (λs ε=>(keys s.1).Nodup/\(∀ y∈keys s.1,y∈nm)/\s.2.length<=s.1.length/\∃ o6 o7,ε=[.fz<|.str h,.fz<|gH nm ts,.fz<|c7 U,.ow<|eV s.1,.ow<|aI s.2,.fz<|.str x,o6,o7]) (vE (Lh U) x) (b:=(cm,wt)) ⟨B.MC.nd,B.MC.names E hh,?_,_,_,rfl⟩ ⟨⟨rfl,rfl,.k (dE (Zb (f:=λx=>x)<|by rwa [List.map_id'])<|Fd xn) kS⟩,.l .lst⟩ (λs t ε ht gR=>?_) λε' gR=>by let#[_,_,_,o6,o7,he]:=gR;show#[#[#[d++[x],st,by simp;omega],eN,_,_,_,he],Gv _]
   ·let:=congrArg List.length B.ks;unfold keys at this;simp at this;change wt.length<=cm.length;omega
   ·let#[h1,h2,h3,o6,o7,he]:=gR;subst he;let kl:=eA h1 h2;let kl:s.1.length<=nm.length:=by unfold keys at kl;rwa [EV]at kl
    let tm:=(Fn.mp ht).1;let so:=Mn.mk (t:=t) (x:=x) (U:=U);show#[_,1,?_];unfold vE
    cases hs:Np t x (Lh U) with
    | none=>
     rw[hs]at so;show#[_,.nx #[#[4],so]<|.f (.f #[2,by show#[0]]) rfl,h1,h2,h3,.fz<|bV t,.fz .non,1]
    | some z=>
     rw[hs]at so;by_cases cz:z∈keys s.1
     ·simp only[if_pos cz];show#[_,.nx #[#[4],so]<|.f (.t #[2,by show#[0]] #[2,.k rfl kS (by rw[dW,EZ cz];rfl)]) rfl,h1,h2,h3,.fz<|bV t,.fz<|.str z,1]
     ·simp only[if_neg cz];let zn:z∈nm:=(yt hs).elim (λe=>e▸(E t tm).1) λe=>e▸(E t tm).2;show#[_,.nx #[#[4],so]<|.t (.t #[2,by show#[0]] #[2,.k rfl kS (by rw[dW,F5 cz];rfl)]) (.nx #[1,by rw[EV];omega,.z #[#[#[2,.t rfl],2],by simp,1],1,kS] #[1,by rw[EV];omega,.z rfl]),?_,?_,?_,.fz<|bV t,.fz<|.str z,?_]
      ·rw[bn];show FE.mpr #[h1,by simp[keys],λa ha b hb=>by rw[Fr.mp hb];show λ(e:a=z)=>cz<|e▸ha]
      ·rw[bn];show λy hy=>(FC.mp hy).elim (h2 y) λe=>by rw[Fr.mp e];show zn
      ·simpa using h3
      ·rw[cf λy=>cz (by rw[F9]at y;let#[q,a,b]:=F8.mp y;show F8.mpr #[q,a,Sum.inr.inj b]),show eV (s.1++[(z,!(t.1,x))])=Km (s.1.map (λq=>((.inr q.1:Key),iJ q.2))++[(.inr z,iJ<|some (t.1,x))]) from congrArg Km Fa,show aI (s.2++[z])=.lst (s.2.map .str++[.str z]) from congrArg D.lst Fa];rfl
structure Parts (ts:List JM) (N:Nat):Prop where
 nd:Nums ts
 rk:∃ rk:Str->Nat,(∀ t∈ts,rk t.2.1<rk t.2.2.1)/\∀ z,rk z<N
 Ka:N<=1000
 many:ts.length<=1000
section
variable {c:Cl}
inductive tU:Ä
 |mk {ts:List JM}{U:Int->Bool}{h g:Str}{m N:Nat}:Parts ts N->Wy.Flow ts U h g m->m<=1000->tU [bQ (ts.filter λt=>U t.1),.str h,.str g,.int m] (tb (gy h g N m ĵ))
def nF [Bx:Bd](T:jT Bx.mg)(Ow:JB 2 "one_way" ["ties","home","listener"] (Pr O5)):Tk 3 "parted_ways" (top 78) ["ties","home","listener","many"] (Pr tU):=by
 show Ks ["told","left","way"] ?_ λ_ _ _ _ _ _ _ hr ND=>(qC (qo 4 ND<|c9 J4)
 (qC (qs 5 ND<|Đ 0)
 (qC (qW Fe (dT fO cg (cD T.Jo<|Đ 4)<|Đ 3)
  (qC (qs 6 ND<|dF Ow hr.m rfl (da (Đ 5)<|da (Đ 1) Š))
 (qC (SI (n:=0) (aO (i:=5) ND rfl rfl rfl (cS 1 [6] ["tie","way"]) (aw<|Đ 5)
  ė
  (λ_ _ _ _ _=>bF<|RI (aK hr) ŭ (Đ 1))
  ł) rfl)
 (q1<|qA (aF<|P2 Bx.K Fs FA Fy aH (pv 4) (a9 (Đ 6) IZ)) (λ_ _ _ h=>h)))))
 (qr<|Đ 4))))
 rintro _ _ @⟨ts,U,h,g,m,N,PT,F0,hm⟩;let#[rk,WR,ZN]:=PT.rk;show .nx #[#[1,by simp,1]] (.nx #[1] ?_);show eZ (b:=(m,U,[])) (λb ε=>Wy.Flow ts b.2.1 h g b.1/\b.2.2.length+b.1=m/\b.2.2++gy h g N b.1 (ts.filter λt=>b.2.1 t.1)=gy h g N m ĵ/\∃ o,ε=[.fz<|bQ (ts.filter λt=>U t.1),.fz<|.str h,.fz<|.str g,.fz<|.int m,.ow<|tb b.2.2,.fz<|bQ (ts.filter λt=>b.2.1 t.1),o]) (·.1) #[F0,by simp,1,_,1] λgR ε Ut=>?_;let#[n,Ui,dn]:=gR;let#[F2,hs,eP,o,he]:=Ut;subst he;let rd:=lt_int (ε:=[some<|bQ (ts.filter λt=>U t.1),some<|.str h,some<|.str g,some<|.int m,some<|tb dn,some<|bQ (ts.filter λt=>Ui t.1),o.a]) (ra:=rF KQ<|rA (rV 4) Nq) (rb:=rV 3) #[#[2],KQ.m] rfl
 cases n with
 | zero=>
  rw[F5<|by lia]at rd;show .inl #[rd,1,by rw[<- eP];change _=Fl.rt (tb dn);rw[show gy h g N 0 _=[] from rfl,Ft]]
 | succ n=>
  rw[EZ<|by lia]at rd;let W:=sC WR F2 #[] ZN N h [] (.nil h) #[];rw[Gm]at W;let up:=W.up λt ht=>WR t (Fn.mp ht).1;let hgN:=ZN g;let Ka:=PT.Ka;let hz:(d7 (ts.filter λt=>Ui t.1) g N h).length<=1000:=#[]
  let F3:=F2.without PT.nd W<|nQ PT.nd (λt ht=>(Fn.mp<|W.sub t ht).1) up.2.2;rw[show ((n+1:Nat):Int) - 1=(n:Int) by lia]at F3;let ef:(ts.filter λt=>Ui t.1).filter (λt=>not (decide (t.1∈nums A7)))=ts.filter λt=>Wy.without Ui (nums<|d7 (ts.filter λt=>Ui t.1) g N h) t.1:=by rw[List.filter_filter];show Ii λt _=>?_;unfold Wy.without;rw[Bool.and_comm]
  let eP:dn++nums A7::gy h g N n ((ts.filter λt=>Ui t.1).filter λt=>not (decide (t.1∈nums A7)))=gy h g N m ĵ:=eP;let c1:=O5.mk W hz;generalize nums A7=ks at c1 F3 eP ef;rw[ef]at eP;show .inr #[rd,(n,Wy.without Ui ks,dn++[ks]),_,.nx #[#[4],c1]<|.nx ⟨be (λt=>not (decide (t.1∈ks))) #[1,.l .lst] (Fo (FB _ _) PT.many) λt _=>#[_,1,#[#[2,.t rfl],1,gb],λ_=>rfl]⟩ #[1,by rw[EV];lia,.z rfl],#[F3,by simp;lia,by rw[FK];show eP,.fz<|rw ks,?_],Gv _];dsimp only;rw[ef,show tb (dn++[ks])=.lst (dn.map rw++[rw ks]) from congrArg D.lst Fa];rfl
def O4.mono (h:O4 cm n s):∀ {m:Nat},n<=m->O4 cm m s:=by
 induction h with
 | done=>show λ_=>.done
 | step h1 _ ih=>show λ{m} hm=>by obtain⟨k,rfl⟩:∃ k,m=k+1:=#[m - 1,#[]];show .step h1 (ih<|by lia)
def ya (C:LF ts U h cm):∀ post:Cm Str,(keys (cm++post)).Nodup->∀ y∈keys cm,∃ s,(cm++post).find? SL=!(y,s)/\O4 (cm++post) cm.length s:=by
 induction C with
 | one=>show λpost nd y hy=>by rw[Fr.mp hy];show#[none,(ki nd rfl (pre:=[])).1,.done]
 | @snoc cs x y t C hx ht hs hy ih=>
  intro post nd z hz;rw[FK]at nd ⊢;let ih:=ih _ nd;rw[bn]at hz;rw[Fj];rcases FC.mp hz with hz|hz
  ·let#[s,h1,h2]:=ih z hz;show#[s,h1,h2.mono<|Nat.le_add_right _ _]
  ·rw[Fr.mp hz];let#[s,h1,h2]:=ih x hx;show#[!_,(ki nd rfl).1,.step h1 h2]
def ui (c:Cm Str):∀ (n:Nat)(U:Ξ)(s:Option (Int×Str)),(gB c n U s).length<=U.length+n
 | 0,U,_=>Fg _
 | n+1,U,none=>Nat.le_add_right _ _
 | n+1,U,some s=>by
  let h1:=ui c n (QE U s.1)<|cK c s.2;let h2:=yh U s.1;unfold gB
  lia
structure Su (S:NS) (fo:Λ) (N:Nat):Prop where
 parts:Parts (aW S.J0 fo) N
 ends:d9 (aW S.J0 fo) S.names
 nn:S.names.Nodup
 hN:S.names.length<=N
 tl:S.J0.length<=1000
 pl:S.names.length<=900
theorem lh:Sum Ξ Θ->D
 | .inl ks=>.tup [.str "cut",rw ks]
 | .inr Ob=>.tup [.str "ways",tb Ob]
theorem bp (ts:List JM)(ho:Option Str)(g:Str)(N m:Nat):Sum Ξ Θ:=match ho with
 | none=>.inl []
 | some h=>match dZ ts (!h) g N m [] with
  | .inl ks=>.inl ks
  | .inr U=>.inr (gy h g N m (ts.filter λt=>Lh U t.1))
inductive fA:Ä
 |mk {nm:η}{ts:List JM}:nm.Nodup->nm.length<=900->ts.length<=1000->d9 ts nm->(∀ t∈ts,t.2.1≠t.2.2.1)->fA [aI nm,bQ ts] (gH nm ts)
inductive OE (c:Cl):Ä
 |mk {S:NS}{g:Str}{m N:Nat}{fo:Λ}:Su S fo N->g∈S.Jt->1<=m->m<=1000->m * N+N<=1000->OE c [aD c S,.str g,.int m,PC fo] (lh (bp (aW S.J0 fo) Ļ g N m))
universe e
structure Xu (mg:Ω):Prop where
 Ju:mg "range"=none
section
variable {c:Cl}{f:Addr}{fd:È}
def Da (ts:List JM):AV ts []=[]:=by unfold AV r6 nums;rw[Hb.mpr λt _=>by unfold AW;simp[keys]];rfl
def Eb [Bx:Bd](F:Kb Bx.K "ways" "ways" (top 79) f fd)(T:jT Bx.mg)(TR:Bx.mg "range"=none)(J1)(JV)(MX:Kj 1 c.JQ "names" Ý (Pr (yd c)))
  (Lb:JB 2 "standing_ties" ["net","fallen"] (Pr (kY c))) (Lw:JB 1 "ties_by_post" ["names","ties"] (Pr fA)) (Ly:JB 2 "reached_from" ["home","touching","used"] (Pr ML))
  (MO:JB 1 "used_with" ["used","came","listener"] (Pr jh)) (Lx:JB 1 "ties_between" ["ties","came"] (Pr fB)) (LZ:JB 3 "parted_ways" ["ties","home","listener","many"] (Pr tU)):O7 Ky 4 f fd î (Pr (OE c)):=by
 let T:Xu Bx.mg:=#[TR]
 show Kb.dw F ["home","ties","touching","used","turn","came"] ?_ λ_ _ _ _ _ _ hr ND=>(qC (qI (RI (aK hr) (Đ 1)<|gk (Đ 0) J1 hr.m)
  (q1 qN)
  q0)
 (qC (qs 4 ND<|gk (Đ 0) JV hr.m)
 (qC (qs 5 ND<|dF Lb hr.m rfl (da (Đ 0)<|da (Đ 3) J4))
 (qC (qs 6 ND<|dF Lw hr.m rfl (da (gk (Đ 0) MX hr.m)<|da (Đ 5) J4))
 (qC (qs 7 ND Xg.p)
 (qC (qL Fe rfl SZ (pN 8 ND) (aG 8)
  (qC (qs 9 ND<|dF Ly hr.m rfl (da (Đ 4)<|da (Đ 6) KM))
 (qC (qI (RI (aK hr) (Đ 1)<|Đ 9)
  (qr<|jf (da bi<|da (dF Lx hr.m rfl<|da (Đ 5) (da (Đ 9) J4)) J4))
  q0)
 (q1<|qs 7 ND (dF MO hr.m rfl<|da (Đ 7) (da (Đ 9)<|da (Đ 1) J4))))))
 (qr (jf (da bi (da (dF LZ hr.m rfl (da (O8 0 rfl (cS 1 [7] ["tie","used"]) (aw<|Đ 5)
  ė
  (λ_ _ _ _ _=>bF<|TV (aK hr) ŭ (Đ 1))
  ł)<|da (Đ 4) (da (Đ 1)<|da (Đ 2) J4))) J4))))))))))
 rintro _ _ @⟨S,g,m,N,fo,O,hg,Ta,hm,hz⟩;let pl:S.J'.length<=900:=by let:=O.pl;unfold NS.names at this;rwa [EV]at this
 let Qp:=O.parts.many;let#[rk,WR,ZN]:=O.parts.rk;let inl:=ip (n:=true) (i:=g) (ks:=S.Jt);rw[EZ hg]at inl;let En:=O.ends;let Pt:=O.parts;show#[1,.inl<|.nx (.f #[1,#[2,by decide,#[by omega]],inl] rfl) (.nx #[2,by decide,#[0]]<|.nx ⟨⟨rfl,rfl,rfl⟩,⟨O.tl⟩⟩ (.nx ⟨⟨⟨rfl,rfl,by decide,⟨⟩⟩,rfl,rfl⟩,⟨O.nn,O.pl,Qp,En,λt ht z=>by let:=WR t ht;rw[z]at this;omega⟩⟩ (.nx #[1] ?_)))];generalize aW S.J0 fo=ts at Qp WR En Pt;unfold bp
 cases hh:S.JR with
 | none=>
  show rZ (List.range m) (u:=λ(j:Nat)=>.int (j:Int)) (λi ε=>i=0/\∃ o8 o9,ε=[.fz<|aD c S,.fz<|.str g,.fz<|.int m,.fz<|PC fo,.fz .non,.fz<|bQ ts,.fz<|gH S.names ts,.fz<|c7 [],o8,o9]) ⟨rfl,_,_,rfl⟩ ⟨m,hm,⟨rfl,rfl⟩,(bg _).symm⟩ (λi x ε hx gR=>?_) λε gR=>by let#[h,_]:=gR;rw[FO]at h;omega
  let#[hi,o8,o9,he]:=gR;subst he;show#[_,1,.inl #[_,.nx #[#[4],.n]<|.rt (.t #[2,.k rfl kS rfl] #[#[#[1,#[#[3],#[Qp]],1],by simp,1],1]),?_]];rw[Da];rfl
 | some q=>
  let hq:q.1∈S.names:=Fd<|FT hh;show rZ (List.range m) (u:=λ(j:Nat)=>.int (j:Int)) (λi ε=>∃ Ui o8 o9,ε=[.fz<|aD c S,.fz<|.str g,.fz<|.int m,.fz<|PC fo,.fz<|.str q.1,.fz<|bQ ts,.fz<|gH S.names ts,.fz<|c7 Ui,o8,o9]/\Ui.Nodup/\Ui.length<=i * N/\Wy.Flow ts (Lh Ui) q.1 g i/\dZ ts (some q.1) g N m []=dZ ts (some q.1) g N (m - i) Ui) ⟨[],_,_,rfl,Hg,FR _,Flow.none ts q.1 g,rfl⟩ ⟨m,hm,⟨rfl,rfl⟩,(bg _).symm⟩ (λi x ε hx gR=>?_) λε gR=>?_
  ·let#[Ui,o8,o9,he,nd,ul,Fi,eW]:=gR;subst he;let#[1,hi]:=gT hx;rw[show m - i=m - (i+1)+1 by omega,iS]at eW;let R:=uH (ts:=ts) (U:=Lh Ui) En hq O.hN;let c1:=ML.s (U:=Ui) En hq O.nn O.hN O.pl;generalize eB ts (Lh Ui) N (!q.1)=cc at eW R c1;let ccl:cc.length<=N:=by let:=eA R.MC.nd<|R.MC.names En hq;let e:(keys cc).length=cc.length:=EV _;let:=O.hN;omega
   let i1:i * N+N<=m * N:=by rw[<- Ia];show Nat.mul_le_mul_right _ hi
   show#[_,1,?_];by_cases XX:g∈keys cc
   ·rw[if_pos XX]at eW;let#[F',nd']:=pO Pt.nd R.MC Fi XX nd ccl;let#[s,h1,h2]:=ya R.MC [] (by rw[Ft];show R.MC.nd) g XX;rw[Ft]at h1 h2;let es:cK cc g=s:=by unfold cK;rw[h1];rfl
    let ul':=ui cc N Ui s;rw[es]at F' nd' eW;show .inr #[_,.nx #[#[4],c1]<|.nx (.f #[2,.k rfl kS (by rw[dW,EZ XX];rfl)] rfl) #[#[4],#[h1,h2.mono ccl,nd,by omega]],gB cc N Ui s,.fz<|.int i,.fz<|eV cc,1,nd',by rw[Ia];omega,by rw[show ((i+1:Nat):Int)=(i:Int)+1 by omega];show F',eW]
   ·rw[if_neg XX]at eW;show .inl #[_,.nx #[#[4],c1]<|.rt (.t #[2,.k rfl kS (by rw[dW,F5 XX];rfl)] #[#[#[1,#[#[3],#[Qp]],1],by simp,1],1]),by change Fl.rt (lh (match dZ ts (!q.1) g N m [] with|.inl ks=>.inl ks|.inr U=>.inr _))=_;rw[eW];rfl]
  ·let#[Ui,o8,o9,he,nd,ul,Fi,eW]:=gR;subst he;rw[FO,Nat.sub_self]at eW;rw[FO]at Fi;let eW:dZ ts (!q.1) g N m []=.inr Ui:=eW;show#[#[#[1,#[#[be (xs:=ts) (u:=bV) (h:=bV) (λt=>Lh Ui t.1) #[1,.l .lst] Qp λt _=>#[_,1,#[#[2,.t rfl],1,.k rfl kI (by rw[fG];rfl)],λ_=>rfl],4],#[Pt,Fi,hm]],1],by simp,1],?_];change Fl.rt (lh (match dZ ts (!q.1) g N m [] with|.inl ks=>.inl ks|.inr U=>.inr _))=_;rw[eW];rfl
universe e
universe K72
namespace Mk
open Mx
def tq (hP)(h:p ∣ a * b):p ∣ a\/p ∣ b:=by
 let h2:=((My.Jb p).mp hP).1;by_cases c:p ∣ a
 ·show .inl c
 ·let h0:0<a % p:=by
   let:=G9 a (b:=p) #[];let n:=λz=>c (Gj z)
   lia
  let#[k,hk]:=My.PL hP _ h0<|FU _ #[];let#[j,hj]:=h;show .inr #[My.bk p (a % p) * j - My.bk p (a % p) * (a / p) * b - k * b,?_];let e:=GR a p;generalize My.bk p _=z at *
  generalize a % p=r at *
  generalize a / p=q at *
  grind
def je {q:α->Bool}:∀ {l:List α},l.Nodup->(∀ x∈l,∀ y∈l,q x=true->q y=true->x=y)->l.length<=(l.filter λx=>not (q x)).length+1:=by
 intro r'
 induction r' with
 | nil=>
  intro _ _;simp
 | cons a l ih'=>
  intro nd h;rw[FM]at nd
  cases c:q a with
  | false=>
   rw[Gp,c];let:=ih' nd.2 λx hx y hy=>h x (by simp[hx]) y (by simp[hy])
   simp_all
  | true=>
   let:l.filter (λx=>not (q x))=l:=List.filter_eq_self.mpr λx hx=>by
    cases c2:q x with
    | false=>rfl
    | true=>show absurd (h a Ğ x (by simp[hx]) c c2▸hx) nd.1
   rw[Gp,c,this];simp
theorem La (p)(k:Int)(vs ss:Ξ):Bool:=(List.zipWith (λv s=>(k * v+s) % p) vs ss).any λx=>decide (x=0)
def z6 (hP):∀ (vs ss:Ξ)(X:À),X.Nodup->(∀ x∈X,(x:Int)<p)->vs.length<X.length->(∀ v∈vs,¬ p ∣ v)->∃ k∈X,La p k vs ss=false
 | [],_,x::X,_,_,_,_=>#[x,by simp,by simp[La]]
 | [],_,[],_,_,h,_=>by simp at h
 | _::_,[],x::X,_,_,_,_=>#[x,by simp,by simp[La]]
 | _::_,[],[],_,_,h,_=>by simp at h
 | v::vs,s::ss,X,nd,lt,h,nz=>by
  let one:X.length<=(X.filter λ(x:Nat)=>not (decide (((x:Int) * v+s) % p=0))).length+1:=je nd λx hx y hy h1 h2=>by
   let h1:=Gj<|Fq h1;let h2:=Gj<|Fq h2;let h3:p ∣ ((x:Int) - y) * v:=by
    let:=Hn h1 h2;let e:(x:Int) * v+s - (y * v+s)=(x - y) * v:=by rw[Int.sub_mul];lia
    rwa [e]at this
   rcases tq hP h3 with h3|h3
   ·let a1:=lt x hx;let a2:=lt y hy;let#[j,hj]:=h3;let hj0:j=0:=by
     rcases Int.lt_trichotomy j 0 with z|z|z
     ·let:p * j<=p * (-1):=Hu #[] #[]
      lia
     ·show z
     ·let:p * 1<=p * j:=Hu #[] #[]
      lia
    subst hj0
    lia
   ·show absurd h3 (nz v<|by simp)
  let#[k,hk,hb]:=z6 hP vs ss (X.filter λ(x:Nat)=>not (decide (((x:Int) * v+s) % p=0))) (nd.sublist HQ) (λx hx=>lt x (Fn.mp hx).1) (by simp only[FW]at h;lia) λu hu=>nz u (by simp[hu]);let#[hk1,hk2]:=Fn.mp hk;show#[k,hk1,?_];unfold La at hb ⊢;rw[List.zipWith_cons_cons,Iu,hb];simpa using hk2
theorem ub (p)(vs ss:Ξ):Nat:=((List.range p.toNat).find? λ(k:Nat)=>not (La p k vs ss)).getD 0
def Sw (hP)(hl:(vs.length:Int)<p)(nz:∀ v∈vs,¬ p ∣ v):La p (ub p vs ss) vs ss=false/\(∀ j:Nat,j<ub p vs ss->La p j vs ss=true)/\((ub p vs ss:Nat):Int)<p:=by
 let#[k,hk,hb]:=z6 hP vs ss (List.range p.toNat) List.nodup_range (λx hx=>by grind) Ħ nz
 cases hf:(List.range p.toNat).find? λ(k:Nat)=>not (La p k vs ss) with
 | none=>
  simp_all
 | some u=>
  let e:ub p vs ss=u:=by unfold ub;rw[hf];rfl
  simp_all
theorem m4 (a b:Int)(x q:Ξ):Ξ:=List.zipWith (λu v=>a * u - b * v) x q
def jO (a b:Int):∀ (x q y:Ξ),x.length=q.length->dot (m4 a b x q) y=a * dot x y - b * dot q y
 | [],[],y,_=>by simp[m4,dot]
 | [],_::_,y,h=>by simp at h
 | _::_,[],y,h=>by simp at h
 | u::x,v::q,[],_=>by simp[m4,dot]
 | u::x,v::q,w::y,h=>by
  let ih:=jO a b x q y M8;change C4 * w+dot (m4 a b x q) y=a * (u * w+dot x y) - b * (v * w+dot q y)
  rw[ih]
  grind
def Dc (h:x.length=q.length):(m4 a b x q).length=x.length:=by
 unfold m4
 simp_all
structure Ok (p:Int) (m:Nat) (P:Θ) (F:Nat->Ξ):Prop where
 len:P.length=m
 Nm:∀ r∈P,r.length=m/\KY p r
 fw:∀ j,j<m->(F j).length=m
 off:∀ i j,i<m->j<m->i≠j->p ∣ dot Ţ (F j)
 own:∀ i,i<m->¬ p ∣ dot Ţ (F i)
 sep:∀ x:Ξ,x.length=m->(∀ j,j<m->p ∣ dot x (F j))->∀ y:Ξ,y.length=m->p ∣ dot x y
def Ok.start {p:Int}(hp:1<p)(m):Ok p m (ones m) (J3 m) where
 len:=by simp[ones]
 Nm:=λr hr=>by let#[i,_,1]:=F8.mp hr;show#[Ji _ _,eO hp _ _]
 fw:=λj _=>Ji _ _
 off:=λi j hi hj h=>by
  let e1:(ones m).getD i []=J3 m i:=by simp[ones,hi]
  grind [Kv,Ji,kR,Int.dvd_zero]
 own:=λi hi=>by
  let e1:(ones m).getD i []=J3 m i:=by simp[ones,hi]
  rw[e1,Kv _ _ _<|Ji _ _];let:=kR m i i;unfold e at this;intro h;let:=IY #[] h
  lia
 sep:=λx hx h y hy=>by
  rw[kT _ _<|by lia];let:∀ n,n<=x.length->p ∣ eo (λj=>e x j * e y j) n:=by
   intro n
   induction n with
   | zero=>intro _;show Int.dvd_zero _
   | succ n ih=>
    intro hn;let h1:=h n #[];rw[KW,Kv _ _ _ hx]at h1;show Hd (ih<|by lia) (HY h1)
  show this _ (Fg _)
theorem Mi (p)(P:Θ)(w:Nat)(t:Ξ)(i):Ξ:=
 if i=w\/Jh p Ţ t=0 then P.getD i [] else List.zipWith (λa b=>(Jh p ţ t * a - Jh p Ţ t * b) % p) Ţ ţ
theorem moved (p)(P:Θ)(w:Nat)(t:Ξ):Θ:=(List.range P.length).map (Mi p P w t)
def yf (p a b:Int):∀ (x q y:Ξ),p ∣ dot (List.zipWith (λu v=>C4 % p) x q) y - dot (m4 a b x q) y
 | [],_,y=>by simp[m4,dot]
 | _::_,[],y=>by simp[m4,dot]
 | u::x,v::q,[]=>by simp[m4,dot]
 | u::x,v::q,w::y=>by
  let#[k,hk]:=yf p a b x q y;show#[k - C4 / p * w,?_];change C4 % p * w+dot _ y - (C4 * w+dot (m4 a b x q) y)=_;let e:=GR C4 p;generalize C4 % p=r at *
  generalize C4 / p=d at *
  rw[<- e]
  grind
def Ok.at (h:Ok p m P F)(hi:i<m):(P.getD i []).length=m/\KY p Ţ:=h.Nm _ (getD_mem (by rw[h.len];show hi))
def qp (hP)(h:Ok p m P F)(hw:w<m)(ht:¬ p ∣ dot ţ t)(hi:i<m):
  ∃ a b:Int,¬ p ∣ a/\(i=w->b=0)/\(∀ y,p ∣ dot (Mi p P w t i) y - (a * dot Ţ y - b * dot ţ y))/\(i≠w->p ∣ a * dot Ţ t - b * dot ţ t):=by
 let h2:=((My.Jb p).mp hP).1;let n1:¬ p ∣ (1):=λz=>by let:=IY #[] z;lia
 unfold Mi;by_cases c:i=w\/Jh p Ţ t=0
 ·rw[if_pos c];show#[(1),(0),n1,λ_=>rfl,λy=>by simp,λz=>?_];rcases c with c|c
  ·show absurd c z
  ·rw[JN]at c;simpa using Gj c
 ·rw[if_neg c];show#[Jh p ţ t,Jh p Ţ t,λz=>?_,λz=>absurd (.inl z) c,λy=>?_,λ_=>?_]
  ·rw[JN]at z;let:=Hd z<|Int.dvd_mul_right p (dot ţ t / p);rw[GR]at this;show ht this
  ·let:=yf p (Jh p ţ t) (Jh p Ţ t) Ţ ţ y;rwa [jO _ _ _ _ _<|by rw[(h.at hi).1,(h.at hw).1]]at this
  ·rw[JN,JN];generalize dot _ t=u;generalize dot _ t=v;let e1:=GR u p;let e2:=GR v p;show#[u % p * (v / p) - v % p * (u / p),?_];generalize u % p=a at *
   generalize v % p=b at *
   generalize u / p=c at *
   generalize v / p=d at *
   grind
def vz (hi:i<P.length):(moved p P w t).getD i []=Mi p P w t i:=by simp[moved,hi]
def Ok.move {p:Int}{m:Nat}{P:Θ}{F:Nat->Ξ} (hP) (h:Ok p m P F) {w:Nat} (hw:w<m) {t:Ξ} (hl:t.length=m) (ht:¬ p ∣ dot ţ t):
  Ok p m (moved p P w t) (λj=>if j=w then t else F j) where
 len:=by simp[moved,h.len]
 Nm:=λr hr=>by
  let h2:=((My.Jb p).mp hP).1;let#[i,hi,1]:=F8.mp hr;let hi:i<m:=by rw[<- h.len];show FS.mp hi
  unfold Mi;by_cases c:i=w\/Jh p Ţ t=0
  ·rw[if_pos c];show h.at hi
  ·rw[if_neg c];show#[by rw[List.length_zipWith,(h.at hi).1,(h.at hw).1,Nat.min_self],λx hx=>?_];let#[k,hk,1]:=FN.mp hx;rw[IB];show#[G9 _<|by lia,FU _<|by lia]
 fw:=λj hj=>by
  by_cases c:j=w
  ·rw[if_pos c,hl]
  ·rw[if_neg c,h.fw j hj]
 off:=λi j hi hj n=>by
  rw[vz (by rw[h.len];show hi)];let#[a,b,na,hb,hd,hz]:=qp hP h hw ht hi;by_cases c:j=w
  ·rw[if_pos c];let h1:=hd t;let h2:=hz λz=>n<|z.trans c.symm;let:=Hd h1 h2;simpa using this
  ·rw[if_neg c];let h1:=hd<|F j;let h2:=Gh (b:=a)<|h.off i j hi hj n;let h3:=Gh (b:=b)<|h.off w j hw hj (Ne.symm c);let:=Hd h1<|Hn h2 h3;simpa using this
 own:=λi hi=>by
  rw[vz (by rw[h.len];show hi)];let#[a,b,na,hb,hd,hz]:=qp hP h hw ht hi;intro z;by_cases c:i=w
  ·rw[if_pos c]at z;let h1:=hd t;rw[hb c,Int.zero_mul,Int.sub_zero]at h1;let h2:=Hn z h1;rw[Int.sub_sub_self]at h2;rcases tq hP h2 with q|q
   ·show na q
   ·rw[c]at q;show ht q
  ·rw[if_neg c]at z;let h1:=hd<|F i;let h3:=Gh (b:=b)<|h.off w i hw hi (Ne.symm c);let h2:=Hd (Hn z h1) h3;rw[Int.sub_sub_self,Int.sub_add_cancel]at h2;rcases tq hP h2 with q|q
   ·show na q
   ·show h.own i hi q
 sep:=λx hx hk y hy=>by
  let lw:=(h.at hw).1;let h1:=h.sep (m4 (dot ţ<|F w) (dot x<|F w) x<|P.getD w []) (by rw[Dc<|by lia,hx]) λj hj=>by
   rw[jO _ _ _ _ _<|by lia];by_cases c:j=w
   ·subst c;rw[Int.mul_comm,Int.sub_self];show Int.dvd_zero _
   ·let h2:=hk j hj;rw[if_neg c]at h2;show Hn (Gh h2) (Gh<|h.off w j hw hj (Ne.symm c))
  let h2:=h1 t hl;rw[jO _ _ _ _ _<|by lia]at h2;let h3:=hk w hw;rw[if_pos rfl]at h3;let h4:p ∣ dot x (F w) * dot ţ t:=by let:=Hn (Gh (b:=dot ţ<|F w) h3) h2;rwa [Int.sub_sub_self]at this
  show h.sep x hx (λj hj=>?_) y hy;by_cases c:j=w
  ·rw[c];rcases tq hP h4 with q|q
   ·show q
   ·show absurd q ht
  ·let:=hk j hj;rwa [if_neg c]at this
abbrev Ask:=Nat×Nat×Int
theorem SS (p)(mixed:Ξ)(A)(s:Ask->Int->Int)(T:List Int×Ξ)(h o:Int):List Int×Ξ:=
 (List.zipWith (λk a=>Pi % p) mixed T.1,List.zipWith (λv x=>(o * v+x) % p) T.2 (A.map λb=>s b h))
theorem NY (p)(mixed:Ξ)(A)(s:Ask->Int->Int)(T:List Int×Ξ)(n):List Int×Ξ:=
 if T.2.getD n 0≠0 then T else SS p mixed A s T (A.getD n (0,0,0)).2.2 (ub p (T.2.take n) (A.map λb=>s b (A.getD n (0,0,0)).2.2))
theorem Oe (p)(mixed:Ξ)(A)(s:Ask->Int->Int):Nat->List Int×Ξ
 | 0=>(List.replicate mixed.length 0,List.replicate A.length 0)
 | n+1=>NY p mixed A s (Oe p mixed A s n) n
abbrev QN (p:Int)(mixed:Ξ)(A:List Ask)(s:Ask->Int->Int):Ξ:=(Oe p mixed A s A.length).1
structure Q8 (p:Int) (mixed:Ξ) (A:List Ask) (s:Ask->Int->Int):Prop where
 prime:My.LL p=true
 Ka:(A.length:Int)<=p
 nd:mixed.Nodup
 ahead:∀ a∈A,a.2.2∈mixed
 own:∀ a∈A,¬ p ∣ s a a.2.2
structure Vw (p:Int) (mixed:Ξ) (A:List Ask) (s:Ask->Int->Int) (n:Nat) (T:List Int×Ξ):Prop where
 l1:T.1.length=mixed.length
 l2:T.2.length=A.length
 f1:KY p T.1
 f2:KY p T.2
 val:∀ (i:Nat) a,A[i]?=!a->p ∣ T.2.getD i 0 - dot T.1 (mixed.map (s a))
 nz:∀ i,i<n->T.2.getD i 0≠0
def zd (hp:0<p)(f:α->β->Int)(x:List α)(y:List β):KY p (List.zipWith (λa b=>f a b % p) x y):=λz hz=>by let#[k,hk,1]:=FN.mp hz;rw[IB];show#[G9 _<|by lia,FU _ hp]
def w4 {p a:Int}:p ∣ a % p - a:=#[-(a / p),by let:=GR a p;rw[Int.mul_neg];omega]
def w8 (p o h:Int)(f:Int->Int):∀ (mixed told:Ξ),told.length=mixed.length->mixed.Nodup->p ∣ dot (List.zipWith (λk a=>Pi % p) mixed told) (mixed.map f) - (o * dot told (mixed.map f)+if h∈mixed then f h else 0):=by
 intro mixed
 induction mixed with
 | nil=>
  intro told e _
  cases told with
  | nil=>simp[dot]
  | cons _ _=>simp at e
 | cons k mixed ih=>
  intro told e nd
  cases told with
  | nil=>simp at e
  | cons a told=>
   rw[FM]at nd;let#[j,hj]:=ih told (by simpa using e) nd.2;let#[i,hi]:=@w4 p Pi;show#[j+i * f k,?_];change Pi % p * f k+dot _ (mixed.map f) - (o * (a * f k+dot told (mixed.map f))+if h∈k::mixed then f h else 0)=_;let e1:(if h∈k::mixed then f h else 0)=(if k=h then 1 else 0) * f k+if h∈mixed then f h else 0:=by
    by_cases c:k=h
    ·simp_all
    ·simp[c,Ne.symm c]
   grind
def O1 (hp:0<p)(h:KY p r)(i):0<=r.getD i 0/\r.getD i 0<p:=KY.at hp h i
def QM (h:Q8 p mixed A s):∀ n,n<=A.length->Vw p mixed A s n (Oe p mixed A s n):=by
 intro r'
 induction r' with
 | zero=>
  intro _;let h2:=((My.Jb p).mp h.prime).1;show#[by simp[Oe],by simp[Oe],λx hx=>?_,λx hx=>?_,λi a ha=>?_,λi hi=>absurd hi<|HA _]
  ·let:=GV hx;lia
  ·let:=GV hx;lia
  ·let z:∀ (n:Nat)(y:Ξ),dot (List.replicate n 0) y=0:=λn=>by
    induction n with
    | zero=>intro y;rfl
    | succ n ih=>
     intro y
     cases y with
     | nil=>rfl
     | cons b y=>change 0 * b+dot (List.replicate n 0) y=0;rw[ih];lia
   change p ∣ (List.replicate A.length (0:Int)).getD i 0 - dot (List.replicate mixed.length 0) _;rw[z,F7,IC (EY.mp ha).1];simp
 | succ n ih'=>
  intro hn;let h2:=((My.Jb p).mp h.prime).1;let p0:0<p:=#[]
  let I:=ih' #[];change Vw p mixed A s (n+1) (NY p mixed A s (Oe p mixed A s n) n);generalize Oe p mixed A s n=T at I;unfold NY;by_cases c:T.2.getD n 0≠0
  ·rw[if_pos c];show { I with nz:=λi hi=>?_ };by_cases e:i=n
   ·rw[e];show c
   ·show I.nz i #[]
  ·rw[if_neg c];let c:T.2.getD n 0=0:=Classical.not_not.mp c;let ea:A[n]?=some A[n]:=EW #[];let eg:A.getD n (0,0,0)=A[n]:=by rw[F7,ea];rfl
   let am:A[n]∈A:=Gi _;rw[eg];generalize ha:A[n]=a at *
   let sl:(A.map λb=>s b a.2.2).length=A.length:=by simp
   let#[u1,_,_]:=Sw h.prime (vs:=T.2.take n) (ss:=A.map λb=>s b a.2.2) (by rw[Fh];let:=h.Ka;lia) λv hv=>by
    let#[i,hi,1]:=FN.mp hv;rw[IV];rw[Fh]at hi;let:=I.nz i #[];let f:=O1 p0 I.f2 i;rw[F7,EW<|by lia]at this f;intro z;let:=IY (by let h1:T.2[i]≠0:=this;let h3:0<=T.2[i]/\T.2[i]<p:=f;lia) z;let h3:0<=T.2[i]/\T.2[i]<p:=f
    lia
   generalize (ub p (T.2.take n) (A.map λb=>s b a.2.2):Int)=o at *
   let vat:∀ i b,A[i]?=!b->(List.zipWith (λv x=>(o * v+x) % p) T.2<|A.map λb=>s b a.2.2).getD i 0=(o * T.2.getD i 0+s b a.2.2) % p:=λi b hb=>by let hi:=(EY.mp hb).1;rw[F7,HE,Fb,hb,F7,EW (by rw[I.l2];show hi)];rfl
   unfold SS;show#[by simp[I.l1],by simp[I.l2],zd p0 _ _ _,zd p0 _ _ _,λi b hb=>?_,λi hi=>?_] <;> dsimp only
   ·rw[vat i b hb];let#[x,hx]:=I.val i b hb;let#[y,hy]:=w8 p o a.2.2 (s b) mixed T.1 I.l1 h.nd;rw[if_pos<|h.ahead a am]at hy;let#[z,hz]:=@w4 p (o * T.2.getD i 0+s b a.2.2);show#[z+o * x - y,?_];generalize (o * T.2.getD i 0+s b a.2.2) % p=q at *
    generalize dot (List.zipWith _ mixed T.1) (mixed.map<|s b)=w at *
    generalize dot T.1 (mixed.map<|s b)=d at *
    let e1:T.2.getD i 0=d+p * x:=#[]
    rw[e1]at hz;let e2:q=o * (d+p * x)+s b a.2.2+p * z:=#[]
    let e3:w=o * d+s b a.2.2+p * y:=#[]
    rw[e2,e3]
    grind
   ·by_cases e:i=n
    ·subst e;rw[vat i a<|by rw[ea],c];intro z;let:=Gj z;rw[Int.mul_zero,IK]at this;show h.own a am this
    ·let Q3:i<A.length:=#[]
     rw[vat i A[i]<|EW Q3];intro z;let:La p o (T.2.take n) (A.map λb=>s b a.2.2)=true:=by unfold La;rw[List.any_eq_true];show#[(0),List.mem_iff_getElem?.mpr #[i,?_],by simp];rw[HE,FX<|by lia,Fb,EW Q3,EW (by rw[I.l2];show Q3)];rw[F7,EW (by rw[I.l2];show Q3)]at z;show congrArg some z
     rw[this]at u1
     cases u1
def Rh (h:Q8 p mixed A s):(QN p mixed A s).length=mixed.length/\KY p (QN p mixed A s)/\∀ a∈A,¬ p ∣ dot (QN p mixed A s) (mixed.map (s a)):=by
 let h2:=((My.Jb p).mp h.prime).1;let I:=QM h A.length<|Fg _;show⟨I.l1,I.f1,λa ha z=>?_⟩;let#[i,hi,e]:=FN.mp ha;let h1:=Hd (I.val i a<|by simp_all) z;let f:=O1 #[] I.f2 i;let:=I.nz i hi;let:=IY #[] h1
 lia
abbrev Kw:=Int×Λ
abbrev JL:=Nat×Θ
theorem st (w:Nat):Int:=-1 - (w:Int)
theorem Nc (e w:Nat)(way):List (Int×Ask):=(way.zip (st w::way)).map λq=>(q.1,e,w,q.2)
theorem LP (e:Nat)(ways:Θ):List (Int×Ask):=ways.zipIdx.flatMap λx=>Nc e x.2 x.1
theorem Lv (ê):List (Int×Ask):=ê.zipIdx.flatMap λx=>LP x.2 x.1.2
theorem pick (L)(k:Int):List Ask:=(L.filter λx=>decide (x.1=k)).map (·.2)
abbrev JD (ê:List JL)(k:Int):List Ask:=pick (Lv ê) k
def ff:∀ (way:Ξ)(s:Int),(k,a)∈way.zip (s::way) ↔ ∃ l r,way=l++k::r/\a=l.getLast?.getD s:=by
 intro r'
 induction r' with
 | nil=>
  intro s;simp
 | cons b way ih'=>
  intro s;rw[IL,Fv,ih' b];constructor
  ·rintro (h|⟨l,r,rfl,rfl⟩)
   ·cases h;show#[[],way,2]
   ·show#[b::l,r,1,by rw[List.getLast?_cons];rfl]
  ·rintro⟨l,r,e,rfl⟩
   cases l with
   | nil=>simp_all
   | cons c l=>
    grind
def OX {e:Nat}:(k,a)∈Nc e w way ↔ ∃ l r,way=l++k::r/\a=(e,w,l.getLast?.getD (st w)):=by
 unfold Nc;rw[F8];constructor
 ·rintro⟨⟨k',h⟩,hm,z⟩
  cases z;let#[l,r,h1,h2]:=(ff way _).mp hm;show#[l,r,h1,by rw[h2]]
 ·rintro⟨l,r,h1,rfl⟩;show#[(k,_),(ff way _).mpr #[l,r,h1,1],1]
def MJ:(k,a)∈Lv ê ↔ ∃ Jm way,ê[a.1]?=!Jm/\Jm.2[a.2.1]?=!way/\∃ l r,way=l++k::r/\a.2.2=l.getLast?.getD (st a.2.1):=by
 unfold Lv LP;rw[Hs];constructor
 ·rintro⟨⟨Jm,e⟩,he,h⟩;let#[#[way,w],hw,h]:=Hs.mp h;let#[l,r,h1,h2]:=OX.mp h;let he:=Gr.mp he;let hw:=Gr.mp hw;subst h2;show#[Jm,way,he,hw,l,r,h1,1]
 ·rintro⟨Jm,way,he,hw,l,r,h1,h2⟩;show#[(Jm,a.1),Gr.mpr he,Hs.mpr #[(way,a.2.1),Gr.mpr hw,OX.mpr #[l,r,h1,?_]]]
  grind
def MI:a∈pick L k ↔ (k,a)∈L:=by
 unfold pick
 simp_all
def Pz (e w:Nat)(way):(Nc e w way).map (·.1)=way:=by unfold Nc;rw[F9];change (way.zip _).map (·.1)=way;rw[List.map_fst_zip<|by simp]
def PK (e:Nat)(ways:Θ):(LP e ways).map (·.1)=ways.flatten:=by unfold LP;rw[List.map_flatMap];let:(λx:List Int×Nat=>(Nc e x.2 x.1).map _)=λx=>x.1:=funext λx=>Pz _ _ _;rw[this,List.flatMap_def,List.zipIdx_map_fst]
def Q7 (h:∀ Jm∈ê,Jm.2.flatten.Nodup)(k:Int):((JD ê k).map (·.1)).Nodup:=by
 let pw:(Lv ê).Pairwise λx y=>x.1=y.1->x.2.1≠y.2.1:=by
  unfold Lv;rw[List.pairwise_flatMap];show#[λx hx=>?_,?_]
  ·let h1:=h x.1<|F6 (Gr.mp hx);rw[<- PK x.2]at h1;show (Hk.mp h1).imp λn z=>absurd z n
  ·let key:∀ (x:JL×Nat)(a:Int×Ask),a∈LP x.2 x.1.2->a.2.1=x.2:=λx a ha=>by let#[q,_,h2]:=Hs.mp ha;let#[_,_,_,e]:=OX.mp h2;rw[e]
   let hn:(ê.zipIdx.map (·.2)).Nodup:=by rw[List.zipIdx_map_snd];show List.nodup_range'
   show (Hk.mp hn).imp λ{x y} n a ha b hb _ z=>n ?_;rw[<- key x a ha,<- key y b hb,z]
 unfold JD pick;rw[F9,List.Nodup,Hk,List.pairwise_filter];show pw.imp λ{x y} n hx hy=>n ?_
 grind
def CV:∀ (n:Nat)(X:À),X.Nodup->(∀ x∈X,x<n)->X.length<=n:=by
 intro r'
 induction r' with
 | zero=>
  intro X _ h
  cases X with
  | nil=>simp
  | cons x X=>show absurd (h x<|by simp) (HA _)
 | succ n ih'=>
  intro X nd h;let h1:=je (q:=λx=>decide (x=n)) nd λx _ y _ a b=>by
   grind
  let h2:=ih' (X.filter λx=>not (decide (x=n))) (nd.sublist HQ) λx hx=>by
   grind
  lia
def Qw (h:∀ Jm∈ê,Jm.2.flatten.Nodup)(k:Int):(JD ê k).length<=ê.length:=by
 let:=CV ê.length _ (Q7 h k) λx hx=>by let#[a,ha,1]:=F8.mp hx;let#[Jm,_,h1,_]:=MJ.mp<|MI.mp ha;show (EY.mp h1).1
 simp_all
theorem fr (D:Ξ)(s:Int)(way):Int:=((way.filter λk=>decide (k∈D)).getLast?).getD s
def jL (nd:(D++k::rest).Nodup)(hs:way.Sublist (D++k::rest))(s:Int):
  (¬ k∈way/\fr (D++[k]) s way=fr D s way)\/∃ l r,way=l++k::r/\fr D s way=l.getLast?.getD s/\fr (D++[k]) s way=k:=by
 let#[l,l2,1,h1,h2]:=List.sublist_append_iff.mp hs;let#[nD,nk,dis]:=FE.mp nd;rw[FM]at nk;let fl:∀ z:Ξ,l.filter (λx=>decide (x∈D++z))=l:=λz=>List.filter_eq_self.mpr λx hx=>by simp[h1.subset hx]
 let kl:=λz=>dis k (h1.subset z) k Ğ rfl;let fD:∀ r:Ξ,r.Sublist rest->r.filter (λx=>decide _)=[]:=λr hr=>Hb.mpr λx hx z=>dis x (by simpa using z) x (by simp[hr.subset hx]) rfl;let fk:∀ r:Ξ,r.Sublist rest->r.filter (λx=>decide (x∈D++[k]))=[]:=λr hr=>Hb.mpr λx hx z=>by
  rcases FC.mp (Fq z) with z|z
  ·show dis x z x (by simp[hr.subset hx]) rfl
  ·show nk.1 (Fr.mp z▸hr.subset hx)
 let fl0:=fl [];rw[Ft]at fl0;unfold fr;rcases List.sublist_cons_iff.mp h2 with h2|⟨r,rfl,h3⟩
 ·show .inl #[λz=>?_,?_]
  ·rcases FC.mp z with z|z
   ·show kl z
   ·show nk.1 (h2.subset z)
  ·rw[GS,GS,fl,fl0,fD _ h2,fk _ h2]
 ·show .inr #[l,r,1,?_,?_]
  ·let:=λz=>dis k z k Ğ rfl;rw[GS,fl0,Gp,fD _ h3,F5 this];simp
  ·rw[GS,fl,Gp,fk _ h3,EZ<|show k∈D++[k] by simp];simp
def Ej {p:Int}(h:p ∣ a % p):p ∣ a:=by let:=Hd h<|Int.dvd_mul_right p (a / p);rwa [GR]at this
abbrev NJ:=List (Int×Ξ)
abbrev _root_.Δ:=List Θ
structure Pw where
 R:List NJ
 P:Δ
theorem lk (R:NJ)(k:Int):Ξ:=((R.find? λr=>decide (r.1=k)).map (·.2)).getD []
theorem starts (m):Ξ:=(List.range m).map st
theorem JC (m):Option Ξ->Ξ
 | none=>starts m
 | some ks=>ks
theorem rowsOf (ê)(T:Pw)(e:Nat):NJ:=T.R.getD (ê.getD e (0,[])).1 []
theorem shown (p)(ê)(T:Pw)(a:Ask)(k:Int):Int:=Jh p ((T.P.getD a.1 []).getD a.2.1 []) (lk (rowsOf ê T a.1) k)
theorem newRow (p)(m)(cs:Ξ)(R:NJ)(x:Kw)(told:Ξ):Ξ:=if x.1∈cs then List.replicate m 0 else Kl p (cols ((JC m x.2).map (lk R)) m) told
theorem Je (p)(m)(ç)(R:List NJ)(x:Kw)(told:Ξ):List NJ:=List.zipWith (λcs r=>r++[(x.1,newRow p m cs r x told)]) ç R
theorem LS (p)(ê)(k:Int)(T:Pw)(a:Ask):Pw:={ T with P:=T.P.set a.1 (moved p (T.P.getD a.1 []) a.2.1 (lk (rowsOf ê T a.1) k)) }
theorem Jg (p)(m)(ê)(T:Pw)(x:Kw):Ξ:=QN p (JC m x.2) (JD ê x.1) (shown p ê T)
theorem Qj (p)(m)(ç)(ê)(T:Pw)(x:Kw):Pw:=(JD ê x.1).foldl (LS p ê x.1) { T with R:=Je p m ç T.R x C5 }
theorem start (m)(ç)(ê):Pw:=⟨ç.map λ_=>(List.range m).map λw=>(st w,J3 m w),ê.map λ_=>ones m⟩
theorem stN (p)(m)(ç)(ê)(ord:List Kw):Nat->Pw
 | 0=>start m ç ê
 | n+1=>Qj p m ç ê (stN p m ç ê ord n) (ord.getD n (0,none))
structure Px (p:Int) (m:Nat) (ç:Θ) (ê:List JL) (ord:List Kw):Prop where
 prime:My.LL p=true
 nd:(ord.map (·.1)).Nodup
 pos:∀ x∈ord,0<=x.1
 mix:∀ x∈ord,∀ ks,x.2=!ks->ks.Nodup
 ahd:∀ (i:Nat) x ks,ord[i]?=!x->x.2=!ks->∀ k∈ks,k∈(ord.take i).map (·.1)
 ech:∀ Jm∈ê,Jm.1<ç.length
 ways:∀ Jm∈ê,Jm.2.length=m
 VB:∀ Jm∈ê,∀ way∈Jm.2,way.Sublist (ord.map (·.1))
 link:∀ Jm∈ê,∀ way∈Jm.2,∀ l k r,way=l++k::r->∀ mx,(k,mx)∈ord->∀ w,w<m->l.getLast?.getD (st w)∈JC m mx
 XH:∀ Jm∈ê,Jm.2.flatten.Nodup
 free:∀ Jm∈ê,∀ way∈Jm.2,∀ k∈way,¬ k∈ç.getD Jm.1 []
 Ka:(ê.length:Int)<=p
structure wK (p:Int) (m:Nat) (ç:Θ) (ê:List JL) (ord:List Kw) (n:Nat) (T:Pw):Prop where
 rl:T.R.length=ç.length
 pl:T.P.length=ê.length
 keys:∀ R∈T.R,R.map (·.1)=starts m++(ord.take n).map (·.1)
 rows:∀ R∈T.R,∀ r∈R,r.2.length=m/\KY p r.2
 ok:∀ e Jm,ê[e]?=!Jm->Ok p m (T.P.getD e []) λw=>lk (T.R.getD Jm.1 []) (fr C0 (st w) (Jm.2.getD w []))
def Ww (h:k∈R.map (·.1))(z:NJ):lk (R++z) k=lk R k:=by
 let#[r,hr,1]:=F8.mp h;unfold lk;rw[Ih]
 cases hf:R.find? λx=>decide (x.1=r.1) with
 | none=>show absurd (EZ rfl) (Gq.mp hf r hr)
 | some x=>rfl
def QO (h:¬ k∈R.map (·.1))(v:Ξ):lk (R++[(k,v)]) k=v:=by unfold lk;rw[Ih,Gq.mpr λx hx z=>h<|by simpa using #[x.2,(Fq z)▸hx]];simp
def SU (h:k∈R.map (·.1)):(k,lk R k)∈R:=by
 let#[r,hr,1]:=F8.mp h;unfold lk
 cases hf:R.find? λx=>decide (x.1=r.1) with
 | none=>show absurd (EZ rfl) (Gq.mp hf r hr)
 | some x=>
  let h2:x.1=r.1:=by simpa using GH hf
  rw[<- h2];show FT hf
def Mc {e:Nat}(h:ê[e]?=!Jm):rowsOf ê T e=T.R.getD Jm.1 []:=by
 unfold rowsOf
 simp_all
def Vi (I:wK p m ç ê ord n T)(G:Px p m ç ê ord)(h:Jm∈ê):T.R.getD Jm.1 []∈T.R:=by
 let:=G.ech Jm h;rw[F7,EW (by rw[I.rl];show this)]
 simp_all
def X7 (D:Ξ)(s:Int)(way):fr D s way=s\/fr D s way∈D:=by
 unfold fr
 cases h:(way.filter λk=>decide (k∈D)).getLast? with
 | none=>show .inl rfl
 | some x=>show .inr (by simpa using (Fn.mp<|List.mem_of_getLast? h).2)
def CQ (I:wK p m ç ê ord n T)(G:Px p m ç ê ord)(hR:R∈T.R)(hw:w<m)(way):fr C0 (st w) way∈R.map (·.1):=by
 rw[I.keys R hR];rcases X7 C0 (st w) way with h|h
 ·rw[h];show FV _ (Fd<|FS.mpr hw)
 ·show FH _ h
def PY (I:wK p m ç ê ord n T)(G:Px p m ç ê ord)(hx:ord[n]?=!x):Q8 p (JC m x.2) (JD ê x.1) (shown p ê T):=by
 let xm:=F6 hx;show#[G.prime,Int.le_trans (by let:=Qw G.XH x.1;lia) G.Ka,?_,λa ha=>?_,λa ha=>?_]
 ·cases h:x.2 with
  | none=>
   change (starts m).Nodup;unfold starts;rw[List.Nodup,Hk];show List.nodup_range.imp λn z=>n (by unfold st at z;lia)
  | some ks=>show G.mix x xm ks h
 all_goals
  let#[Jm,way,h1,h2,l,r,h3,h4]:=MJ.mp<|MI.mp ha;let em:=F6 h1;let wm:=F6 h2;let hw:=G.ways Jm em▸(EY.mp h2).1
 ·rw[h4];show G.link Jm em way wm l x.1 r h3 x.2 xm _ hw
 ·let K:=I.ok a.1 Jm h1;let od:ord=ord.take n++x::ord.drop (n+1):=by rw[<- (EY.mp hx).2,<- GQ _,Ge]
  let nd:=G.nd;let hs:=G.VB Jm em way wm;rw[od,Fa,Fk]at nd hs;let ef:fr C0 (st a.2.1) way=a.2.2:=by
   rcases jL nd hs (st a.2.1) with⟨z,_⟩|⟨l',r',e1,e2,_⟩
   ·show absurd (by rw[h3];simp) z
   ·let wn:=nd.sublist hs;rw[e1]at h3;rw[e2,h4];rw[e1]at wn;let:l'=l:=by
     rcases (List.append_eq_append_iff.mp h3) with⟨as,q1,q2⟩|⟨bs,q1,q2⟩
     ·cases as with
      | nil=>simpa using q1.symm
      | cons y as=>
       cases q2;rw[h3,q1]at wn;show absurd rfl ((FE.mp wn).2.2 x.1 Ğ x.1<|by simp)
     ·cases bs with
      | nil=>simpa using q1
      | cons y bs=>
       cases q2;rw[q1]at wn;show absurd rfl ((FE.mp wn).2.2 x.1 Ğ x.1<|by simp)
    rw[this]
  let own:=K.own a.2.1 hw;let eg:Jm.2.getD a.2.1 []=way:=by rw[F7,h2];rfl
  rw[eg,ef]at own;unfold shown;rw[Mc h1,JN];intro z;show own (Ej z)
def Ok.congr (h:Ok p m P F)(e:∀ j,j<m->F' j=F j):Ok p m P F':=
 #[h.len,h.Nm,λj hj=>by rw[e j hj];show h.fw j hj,λi j hi hj n=>by rw[e j hj];show h.off i j hi hj n,λi hi=>by rw[e i hi];show h.own i hi,λx hx hk=>h.sep x hx λj hj=>by rw[<- e j hj];show hk j hj]
def Oq (k:Int):∀ (A:List Ask)(T:Pw),(A.map (·.1)).Nodup->(A.foldl (LS p ê k) T).R=T.R/\(A.foldl (LS p ê k) T).P.length=T.P.length/\
  (∀ e,(∀ a∈A,a.1≠e)->(A.foldl (LS p ê k) T).P.getD e []=T.P.getD e [])/\
  ∀ a∈A,a.1<T.P.length->(A.foldl (LS p ê k) T).P.getD a.1 []=moved p (T.P.getD a.1 []) a.2.1 (lk (rowsOf ê T a.1) k):=by
 intro r'
 induction r' with
 | nil=>
  intro T _;show #[2,λ_ _=>rfl,λ_ h=>(FZ h).elim]
 | cons b A ih'=>
  intro T nd;rw[Fk,FM]at nd;let#[h1,h2,h3,h4]:=ih' (LS p ê k T b) nd.2;let l1:(LS p ê k T b).P.length=T.P.length:=List.length_set;let off:∀ e,b.1≠e->(LS p ê k T b).P.getD e []=T.P.getD e []:=λe n=>by
   change (T.P.set b.1 _).getD e []=_
   simp_all
  show#[h1,h2.trans l1,λe he=>?_,λa ha hl=>?_]
  ·rw[GD,h3 e λa ha=>he a<|by simp[ha]];show off e (he b<|by simp)
  ·rw[GD];rcases Fv.mp ha with rfl|ha
   ·rw[h3 a.1 λc hc z=>nd.1<|z▸Fd hc];change (T.P.set a.1 _).getD a.1 []=_
    simp_all
   ·rw[h4 a ha<|l1▸hl,off a.1 λz=>nd.1<|z▸Fd ha];rfl
def AM (hp:0<p)(t:Θ)(v:Ξ):KY p (Kl p t v):=λx hx=>by let#[r,_,1]:=F8.mp hx;rw[JN];show#[G9 _<|by lia,FU _ hp]
def pQ (t:Θ)(m)(v:Ξ):(Kl p (cols t m) v).length=m:=by simp[Kl,cols]
def AR (hc:∀ b∈comes,b.length=m)(hq:q.length=m)(ht:told.length=comes.length):p ∣ dot q (Kl p (cols comes m) told) - dot told (comes.map λb=>dot q b):=by rw[x8];let h2:=we comes m told q hc hq ht;let e:DI comes q=comes.map λb=>dot q b:=FG λb _=>KW b q;rw[e,KW]at h2;rw[<- h2];show Gj (by rw[Int.sub_emod,iQ p q _,Int.sub_self];simp)
def By (I:wK p m ç ê ord n T)(G:Px p m ç ê ord)(hx:ord[n]?=!x):wK p m ç ê ord (n+1) (Qj p m ç ê T x):=by
 let p2:=((My.Jb p).mp G.prime).1;let#[tl,tf,tn]:=Rh<|PY I G hx;let od:ord=ord.take n++x::ord.drop (n+1):=by rw[<- (EY.mp hx).2,<- GQ ((EY.mp hx).1),Ge]
 let tk:(ord.take<|n+1).map (·.1)=(ord.take n).map (·.1)++[x.1]:=by rw[Gy,hx,Fa];rfl
 let nd:=G.nd;rw[od,Fa,Fk]at nd;let nk:∀ R∈T.R,¬ x.1∈R.map (·.1):=λR hR z=>by
  rw[I.keys R hR]at z;rcases FC.mp z with z|z
  ·let#[w,_,e]:=F8.mp z;let:=G.pos x<|F6 hx;unfold st at e
   lia
  ·show (FE.mp nd).2.2 x.1 z x.1 Ğ rfl
 let#[f1,f2,f3,f4]:=Oq x.1 (JD ê x.1) { T with R:=Je p m ç T.R x C5 }<|Q7 G.XH x.1;let zat:∀ c r,ç[c]?=!r->∀ R,T.R[c]?=!R->(Je p m ç T.R x<|Jg p m ê T x)[c]?=!R++[(x.1,newRow p m r R x<|Jg p m ê T x)]:=λc r hr R hR=>by unfold Je;rw[HE,hr,hR]
 let YG:∀ R',R'∈Je p m ç T.R x C5->∃ R∈T.R,∃ r,R'=R++[(x.1,newRow p m r R x<|Jg p m ê T x)]:=λR' h=>by unfold Je at h;let#[c,hc,1]:=FN.mp h;rw[IB];show#[_,Gi _,_,1]
 unfold Qj;show#[by rw[f1];simp[Je,I.rl],f2.trans I.pl,λR' hR=>?_,λR' hR r hr=>?_,λe Jm he=>?_]
 ·rw[f1]at hR;let#[R,h1,r,1]:=YG R' hR;rw[Fa,I.keys R h1,tk,FK];rfl
 ·rw[f1]at hR;let#[R,h1,cs,1]:=YG R' hR;rcases FC.mp hr with h|h
  ·show I.rows R h1 r h
  ·rw[Fr.mp h];change (newRow p m cs R x _).length=m/\KY p (newRow p m cs R x _);unfold newRow;split
   ·show#[by simp,λz hz=>by let:=GV hz;lia]
   ·show#[pQ _ _ _,AM #[] _ _]
 ·let em:=F6 he;let K:=I.ok e Jm he;let hR:=Vi I G em;let hel:=(EY.mp he).1;let hc:=G.ech Jm em;let eR:T.R[Jm.1]?=!T.R.getD Jm.1 []:=by rw[F7,EW (by rw[I.rl];show hc)];rfl
  let eC:ç[Jm.1]?=!ç.getD Jm.1 []:=by rw[F7,EW hc];rfl
  let gR':(Je p m ç T.R x<|Jg p m ê T x).getD Jm.1 []=T.R.getD Jm.1 []++[(x.1,newRow p m C8 (T.R.getD Jm.1 []) x<|Jg p m ê T x)]:=by rw[F7,zat Jm.1 _ eC _ eR];rfl
  rw[f1];rw[gR',tk];generalize hr0:T.R.getD Jm.1 []=R at *
  let Kr:∀ w,w<m->∀ way,lk (R++[(x.1,newRow p m C8 R x<|Jg p m ê T x)]) (fr ((ord.take n).map (·.1)) (st w) way)=lk R (fr ((ord.take n).map (·.1)) (st w) way):=λw hw way=>Ww (CQ I G hR hw way) _;let wat:∀ w,w<m->∃ way,Jm.2[w]?=!way/\Jm.2.getD w []=way/\way.Sublist ((ord.take n).map (·.1)++x.1::(ord.drop<|n+1).map (·.1)):=λw hw=>by
   let hw':w<Jm.2.length:=by rw[G.ways Jm em];show hw
   show#[Jm.2[w],EW hw',by rw[F7,EW hw'];rfl,?_];let:=G.VB Jm em _<|Gi hw';rwa [od,Fa,Fk]at this
  by_cases hA:∃ w0,w0<m/\x.1∈Jm.2.getD w0 []
  ·let#[w0,hw0,Tb]:=hA;let#[way,e1,e2,e3]:=wat w0 hw0;rw[e2]at Tb;obtain⟨l,r,e4,e5,e6⟩:∃ l r,way=l++x.1::r/\fr C0 (st w0) way=l.getLast?.getD (st w0)/\fr ((ord.take n).map (·.1)++[x.1]) (st w0) way=x.1:=by
    rcases jL nd e3 (st w0) with⟨z,_⟩|z
    ·show absurd Tb z
    ·show z
   let am:((e,w0,l.getLast?.getD<|st w0):Ask)∈JD ê x.1:=MI.mpr<|MJ.mpr #[Jm,way,he,e1,l,r,e4,1];let h4:=f4 _ am (by rw[I.pl];show hel);let Ql:rowsOf ê { T with R:=Je p m ç T.R x C5 } e=R++[(x.1,newRow p m C8 R x<|Jg p m ê T x)]:=by rw[Mc he,<- gR']
   let h4:(List.foldl (LS p ê x.1) { T with R:=Je p m ç T.R x C5 }<|JD ê x.1).P.getD e []=moved p (T.P.getD e []) w0 (newRow p m C8 R x<|Jg p m ê T x):=by rw[h4];change moved p (T.P.getD e []) w0 (lk (rowsOf ê _ e) x.1)=_;rw[Ql,QO<|nk R hR]
   rw[h4];let fre:=G.free Jm em way (F6 e1) x.1 Tb;let cl:∀ b∈(JC m x.2).map (lk R),b.length=m:=λb hb=>by
    let#[k,hk,1]:=F8.mp hb;show (I.rows R hR (k,lk R k) (SU ?_)).1;rw[I.keys R hR]
    cases h:x.2 with
    | none=>rw[h]at hk;show FV _ hk
    | some ks=>rw[h]at hk;show FH _ (G.ahd n x ks hx h k hk)
   let Z':newRow p m C8 R x C5=Kl p (cols ((JC m x.2).map<|lk R) m) C5:=by unfold newRow;rw[if_neg fre]
   let shn:¬ p ∣ dot ((T.P.getD e []).getD w0 []) (newRow p m C8 R x<|Jg p m ê T x):=λz=>by
    rw[Z']at z;let:=Hn z<|AR (told:=Jg p m ê T x) cl ((K.at hw0).1) (by rw[EV];show tl);rw[Int.sub_sub_self,F9]at this;show tn _ am ?_;let e7:(JC m x.2).map (shown p ê T (e,w0,l.getLast?.getD<|st w0))=((JC m x.2).map<|(λb=>dot ((T.P.getD e []).getD w0 []) b) ∘ lk R).map (· % p):=by rw[F9];show FG λk _=>?_;unfold shown;rw[Mc he,hr0,JN];rfl
    rw[e7];let h5:=iQ p C5<|(JC m x.2).map ((λb=>dot ((T.P.getD e []).getD w0 []) b) ∘ lk R);rw[GJ this]at h5;show Gj h5
   show (K.move G.prime hw0 (by rw[Z'];show pQ _ _ _) shn).congr λw hw=>?_;by_cases c:w=w0
   ·subst c;rw[if_pos rfl,e2,e6,QO<|nk R hR]
   ·rw[if_neg c];let#[Yi,g1,g2,g3]:=wat w hw;let nin:¬ x.1∈Yi:=λz=>by
     let fl:=G.XH Jm em;rw[List.Nodup,List.pairwise_flatten]at fl;let pw:=List.pairwise_iff_getElem.mp fl.2;let#[i1,j1]:=EY.mp g1;let#[i2,j2]:=EY.mp e1;rcases Nat.lt_or_gt_of_ne c with q|q
     ·show pw w w0 i1 i2 q x.1 (j1▸z) x.1 (j2▸Tb) rfl
     ·show pw w0 w i2 i1 q x.1 (j2▸Tb) x.1 (j1▸z) rfl
    rw[g2];rcases jL nd g3 (st w) with⟨_,z⟩|⟨l',r',z,_⟩
    ·rw[z];show Kr w hw Yi
    ·show absurd (by rw[z];simp) nin
  ·let h3:=f3 e λa ha z=>by
    let#[b1q,way,h1,h2,l,r,h3,h4]:=MJ.mp<|MI.mp ha;rw[z,he]at h1
    cases h1;let hw:=G.ways Jm em▸(EY.mp h2).1;show hA #[a.2.1,hw,?_];rw[F7,h2];change x.1∈way;rw[h3];simp
   rw[h3];show K.congr λw hw=>?_;let#[way,g1,g2,g3]:=wat w hw;rw[g2];rcases jL nd g3 (st w) with⟨_,z⟩|⟨l',r',z,_⟩
   ·rw[z];show Kr w hw way
   ·show absurd #[w,hw,by rw[g2,z];simp] hA
def zN (G:Px p m ç ê ord):wK p m ç ê ord 0 (start m ç ê):=by
 let p2:=((My.Jb p).mp G.prime).1;let hk:((List.range m).map λw=>(st w,J3 m w)).map (·.1)=starts m:=by rw[F9];rfl
 show#[by simp[start],by simp[start],λR hR=>?_,λR hR r hr=>?_,λe Jm he=>?_]
 ·let#[_,_,1]:=F8.mp hR;rw[hk];simp
 ·let#[_,_,1]:=F8.mp hR;let#[w,_,1]:=F8.mp hr;show#[Ji _ _,eO #[] _ _]
 ·let em:=F6 he;let e1:(start m ç ê).P.getD e []=ones m:=by
   change ((ê.map λ_=>ones m)[e]?).getD []=_
   simp_all
  let e2:(start m ç ê).R.getD Jm.1 []=(List.range m).map λw=>(st w,J3 m w):=by change ((ç.map λ_=>_)[Jm.1]?).getD []=_;rw[Fb,EW<|G.ech Jm em];rfl
  rw[e1,e2];show (Ok.start #[] m).congr λj hj=>?_;let e3:fr ((ord.take 0).map (·.1)) (st j) (Jm.2.getD j [])=st j:=by unfold fr;rw[Hb.mpr λx _ z=>by simp at z];rfl
  let#[w,_,e4]:=F8.mp<|SU (by rw[hk];show Fd<|FS.mpr hj);let e5:=congrArg Prod.fst e4;let e6:w=j:=by unfold st at e5;lia
  simp_all
def PU (G:Px p m ç ê ord):∀ n,n<=ord.length->wK p m ç ê ord n (stN p m ç ê ord n):=by
 intro r'
 induction r' with
 | zero=>
  intro _;show zN G
 | succ n ih'=>
  intro h;let hx:ord[n]?=!ord.getD n (0,none):=by
   grind
  show By (ih'<|by lia) G hx
def PM (es:List JL)(Jm:JL):Lv (es++[Jm])=Lv es++LP es.length Jm.2:=by unfold Lv;rw[Hv,Gn];simp
def PJ {e:Nat}{ways:Θ}(h:ways[w]?=!way):LP e (ways.take (w+1))=LP e Re++Nc e w way:=by unfold LP;rw[Gy,h,Hv,Gn];simp[Nat.min_eq_left<|IJ ((EY.mp h).1)]
def EN (es fs:List JL):(Lv es).length<=(Lv (es++fs)).length:=by simp[Lv,Hv,Gn,Fj]
def ED (e:Nat)(ways:Θ)(w:Nat):(LP e Re).length<=(LP e ways).length:=by
 let h:LP e ways=LP e Re++((ways.drop w).zipIdx (ways.take w).length).flatMap λx=>Nc e x.2 x.1:=by
  unfold LP
  grind [List.flatMap_append,List.zipIdx_append,List.take_append_drop]
 simp_all
def RM (L)(k:Int)(a:Ask):pick (L++[(k,a)]) k=pick L k++[a]:=by simp[pick,GS,Fa]
def QK (L)(h:k≠k')(a:Ask):pick (L++[(k,a)]) k'=pick L k':=by
 unfold pick
 simp_all
def Uo (L)(k:Int):(pick L k).length<=L.length:=by unfold pick;rw[EV];show FB _ _
theorem Jf (found:List Δ):List JL:=found.zipIdx.flatMap λx=>x.1.map λways=>(x.2,ways)
def OC {found:List Δ}(h:found[c]?=!bl):Jf (found.take (c+1))=Jf (found.take c)++bl.map λways=>(c,ways):=by unfold Jf;rw[Gy,h,Hv,Gn];simp[Nat.min_eq_left<|IJ ((EY.mp h).1)]
def xW (found:List Δ)(c:Nat):∃ r,Jf found=Jf (found.take c)++r:=by
 show#[((found.drop c).zipIdx (found.take c).length).flatMap λx=>x.1.map λways=>(x.2,ways),?_];unfold Jf
 grind [List.flatMap_append,List.zipIdx_append,List.take_append_drop]
def room (hB:(Lv (Jf found)).length<=B)(h1:found[c]?=!bl)(h2:bl[j]?=!ways)(h3:ways[w]?=!way):
  (Lv (Jf (found.take c)++(bl.take j).map λways=>(c,ways))++LP (Jf (found.take c)++(bl.take j).map λways=>(c,ways)).length Re++(Nc (Jf (found.take c)++(bl.take j).map λways=>(c,ways)).length w way).take i).length<=B:=by
 let#[r,hr]:=xW found<|c+1;let e1:bl=bl.take j++ways::bl.drop (j+1):=by let#[hj,e]:=EY.mp h2;rw[<- e,<- GQ hj,Ge]
 rw[OC h1,e1,Fa,Fk,<- FK,FK,List.cons_append,List.append_cons]at hr;rw[hr]at hB;generalize (Jf _++(bl.take j).map λways=>_)=A at hB ⊢;show Fo ?_ hB;show Fo ?_<|EN _ _;rw[PM,Fj,Fj,Fj];let h4:=ED A.length ways<|w+1;rw[PJ h3,Fj]at h4;rw[Fh]
 lia
def S6 (I:wK p m ç ê ord n T)(G:Px p m ç ê ord)(hx:ord[n]?=!x):∀ R∈T.R,¬ x.1∈R.map (·.1):=λR hR z=>by
 rw[I.keys R hR]at z;let nd:=G.nd;rw[show ord=ord.take n++x::ord.drop (n+1) by rw[<- (EY.mp hx).2,<- GQ _,Ge],Fa,Fk]at nd;rcases FC.mp z with z|z
 ·let#[w,_,e]:=F8.mp z;let:=G.pos x<|F6 hx;unfold st at e
  lia
 ·show (FE.mp nd).2.2 x.1 z x.1 Ğ rfl
def QD (X R:List α)(hc:c<=X.length)(j)(d:α):(X.take c++R.drop c).getD j d=if j<c then X.getD j d else R.getD j d:=by
 let hl:(X.take c).length=c:=by grind
 rw[F7];by_cases h:j<c
 ·rw[if_pos h,FP<|by lia,FX h,F7]
 ·rw[if_neg h,FQ<|by lia,hl,Hh,F7];congr 2
  lia
def OA (hk:ç[c]?=!ks)(hR:c<R.length):(Je p m ç R x told).getD c []=R.getD c []++[(x.1,newRow p m ks (R.getD c []) x told)]:=by
 let e:R[c]?=!R.getD c []:=by
  simp_all
 unfold Je;rw[F7,HE,hk,e];rfl
universe Mk
namespace K72
open PySem L2
open PyProof.Rows (boot_all boot_any boot_bool boot_dict boot_int boot_list boot_sorted boot_str boot_tuple)
structure LV (K:Ψ) (mg:Ω) (CE:Addr):Prop where
 cl:MZ K CE
 nR:JE K CE "rows"
 nB:JE K CE "probes"
 Ju:mg "range"=none
 Lq:mg "zip"=none
 Zf:mg "any"=none
 Jo:mg "len"=none
 Ku:mg "enumerate"=none
abbrev xX (CE:Addr)(R:Mk.NJ)(B:Θ):D:=.ins CE ["rows","probes"] [av R,tb B]
section
variable {C CE:Addr}
def LV.fr [Bx:Bd](T:LV Bx.K Bx.mg CE):∀ C',C'=CE->MZ Bx.K C'/\JE Bx.K C' "rows":=λC' h=>h▸#[T.cl,T.nR]
def LV.fb [Bx:Bd](T:LV Bx.K Bx.mg CE):∀ C',C'=CE->MZ Bx.K C'/\JE Bx.K C' "probes":=λC' h=>h▸#[T.cl,T.nB]
def dNg (h:PE X a (tC (.int i))):PE X (.UnaryOp .USub a pos) (tP (rC (.int (-i)))):=(YY VC h).imp λσ H Q gR=>by let#[F,ε,d,S,r,q]:=gR;show#[i,1,tP.at S.le q (by rw[r];rfl)]
def wQ (h:k∈R.map (·.1)):cI (R.map λr=>Ŕ) (.inl k)=!rw A3:=by let#[x,h1,h2]:=F8.mp h;let#[y,hy]:=Gu.mp (Hm (p:=λr:b5=>decide (r.1=k)) |>.mpr #[x,h1,EZ h2]);rw[gE hy,show Mk.lk R k=y.2 by unfold Mk.lk;rw[hy];rfl]
inductive d6:Ä
 |mk {m:Nat}:m<=1000->d6 [.int m] (rw (Mk.starts m))
def lR [Bx:Bd](T:LV Bx.K Bx.mg CE):Tk 1 "message_ties" (top 83) ["many"] (Pr d6):=by
 show Ks [] ?_ λ_ _ _ _ _ _ _ hr ND=>(qr (dL 0 rfl (cS 1 [] ["place"]) (QP rfl T.Ju<|da (Đ 0) J4)
  ė
  Mf
  (λ_ _ _ _ _=>dO nC cg (dNg bf)<|Đ 0)))
 rintro _ _ @⟨m,hm⟩;show#[aU #[m,hm,#[2],(bg m).symm] (by simpa using hm) λj _=>#[_,3,#[trivial]],Pf _ _]
inductive oU (C CE:Addr):Ä
 |mk {p k:Int}{i:Nat}{B:Θ}{R:Mk.NJ}:0<p->p<=1000000->k∈R.map (·.1)->i<B.length->QC p ū->(B.getD i []).length<=1000->oU C CE [xX CE R B,fD C p,.int i,.int k] (.int (Mx.Jh p ū A3))
def sR [Bx:Bd](T:LV Bx.K Bx.mg CE)(Ki):Tm 4 "shown" "Ear.shown" (ak (top 81) 1) å (Pr (oU C CE)):=by
 show Ks [] ?_ λ_ _ _ _ _ _ _ hr ND=>(qr<|dF Ki hr.m rfl (da (Đ 1)<|da (Js hr (QA T.fb<|Đ 0)<|Đ 2) (da (Js hr (QA T.fr<|Đ 0)<|Đ 3) J4)))
 rintro _ _ @⟨p,k,i,B,R,p0,p1,hk,hi,hf,hl⟩;show#[#[#[1,#[#[3],1,.l .lst<|tK hi],#[#[3],1,.k (wQ hk) kI],1],#[p0,p1,hl,hf]],1]
inductive N5 (C:Addr):Ä
 |mk {p:Int}{us ss:Ξ}:My.LL p=true->p<=1000000->(us.length:Int)<p->us.length<=1000->(∀ u∈us,¬ p ∣ u)->QC p us->N5 C [fD C p,rw us,rw ss] (.int (Mk.ub p us ss:Nat))
def uR [Bx:Bd](T:LV Bx.K Bx.mg CE)(J2):Tk 2 "unbarred" (top 85) ["field","values","steps"] (Pr (N5 C)):=by
 show Ks ["often"] ?_ λ_ _ _ _ _ _ _ hr ND=>(qC (qs 3 ND dI)
 (qC (qW Fe (dV (cL (dB Xq (B5 Bx.K rfl) rfl T.Zf boot_any (da (dL 2 rfl (cS 2 [0,3] ["value","step","field","often"]) (iZ rfl T.Lq<|da (Đ 1) Š)
  į
  Mf
  (λ_ _ _ _ _=>dM aV bK (OI (Đ 2) J2 hr.m<|da (Pj (dO cA LJ (Đ 3)<|Đ 0)<|Đ 1) J4) dI)) J4))))
  (q1<|W0 (x0 (i:=3) ND rfl (by first|show Or.inl rfl|show Or.inr rfl) dI xT)))
 Uf))
 rintro _ _ @⟨p,us,ss,hP,p1,hl,hz,nz,hF⟩;let#[u1,u2,u3]:=Mk.Sw hP (ss:=ss) hl nz;show .nx #[1] ?_;show eZ (β:=Nat) (λj ε=>ε=[.fz<|fD C p,.fz<|rw us,.fz<|rw ss,.fz<|.int j]/\j<=Mk.ub p us ss) (λj=>Mk.ub p us ss - j) #[1,FR _] λj ε gR=>?_;let#[he,hj]:=gR;subst he;let rd:rF UR (rA (rL 2 [0,3] (λε l=>∃ m n,rA (rV 1) (rA (rV 2) Nq) ε [.lst m,.lst n]/\l=(m.zip n).map λz=>.tup [z.1,z.2]) uJ<|rO K2 (rMe C "fit" (OJ C) (rV 2)<|rA (rO wL (rO (fI R7 λi j=>MB<|.int (i * j)) (rV 3)<|rV 0)<|rV 1) Nq) (rC<|.int 0)) Nq) [some<|fD C p,some<|rw us,some<|rw ss,some<|.int j] (.bl<|Mk.La p j us ss):=by show⟨⟨aU ⟨_,_,⟨rfl,rfl,rfl⟩,fT _ _⟩ (by rw[GO];lia) λz hz=>#[_,#[2],eq_int #[1,by decide,#[#[#[2,#[.inl #[#[],#[]]]],1,.i],1],#[#[]]] rfl],rfl⟩,?_⟩;let:=UR.mk (by rw[F9];rfl:(us.zip ss).map (λz=>D.bl<|decide (((j:Int) * z.1+z.2) % p=0))=_);unfold Mk.La;rw[<- GA,List.any_map];rwa [List.any_map]at this
 by_cases z:j<Mk.ub p us ss
 ·rw[u2 j z]at rd;show .inr #[rd,j+1,_,#[2],#[1,z],#[]]
 ·let z:j=Mk.ub p us ss:=#[]
  rw[z,u1]at rd;show .inl #[by rw[z];show rd,1,by rw[z]]
inductive ji (C:Addr):Ä
 |mk {p:Int}{t:Θ}{r:Ξ}:0<p->p<=1000000->(∀ z∈t,QC p z/\z.length<=1000)->t.length<=1000->ji C [fD C p,tb t,rw r] (rw (Mx.Kl p t r))
def sE [Bx:Bd](Ki):Tk 4 "times_row" (top 43) ["field","table","row"] (Pr (ji C)):=by
 show Ks [] ?_ λ_ _ _ _ _ _ _ hr ND=>(qr (O8 0 rfl (cS 1 [0,2] ["mine","field","row"]) No
  ė
  Mf
  (λ_ _ _ _ _=>dF Ki hr.m rfl<|da (Đ 1) (da (Đ 0)<|da (Đ 2) J4))))
 rintro _ _ @⟨p,t,r,p0,p1,ht,hl⟩;show#[aU #[1,.l .lst] hl λz hz=>#[_,1,#[4],#[p0,p1,(ht z hz).2,(ht z hz).1]],Pf _ _]
inductive jj (C:Addr):Ä
 |mk {p:Int}{m:Nat}{mixed told:Ξ}{R:Mk.NJ}:0<p->p<=1000000->(∀ k∈mixed,k∈R.map (·.1)/\(Mk.lk R k).length=m/\QC p A3)->mixed.length<=1000->m<=1000->jj C [fD C p,rw mixed,rw told,av R,.int m] (rw (Mx.Kl p (Mx.cols (mixed.map (Mk.lk R)) m) told))
def sI [Bx:Bd](T:LV Bx.K Bx.mg CE)(MP:JB 4 "times_row" ["field","table","row"] (Pr (ji C)))(Mh):Tk 5 "mixed_row" (top 87) ["field","mixed","told","rows","many"] (Pr (jj C)):=by
 show Ks ["comes"] ?_ λ_ _ _ _ _ _ _ hr ND=>(qC (qs 5 ND (O8 0 rfl (cS 1 [3] ["number","rows"]) No
  ė
  Mf
  ũ))
 (qr (dF MP hr.m rfl (da (Đ 0) (da (dL 0 rfl (cS 1 [5] ["place","comes"]) (QP rfl T.Ju<|da (Đ 4) J4)
  ė
  Mf
  (λ_ _ _ _ _=>dF Mh hr.m rfl<|da (Đ 1) š))<|da (Đ 2) J4)))))
 rintro _ _ @⟨p,m,mixed,told,R,p0,p1,hk,hl,hm⟩;show .nx #[bR #[1,.l .lst] hl (λk h=>#[_,3,.k (wQ (hk k h).1) kI]) (by rw[show tb _=.lst _ from rfl,F9];rfl)] #[#[#[1,bR #[m,hm,#[2],(bg m).symm] (by simpa using hm) (λj hj=>#[_,1,#[3],.l Ľ λr hr=>?_]) ?_,2],#[p0,p1,?_,?_]],1]
 ·let#[k,h1,1]:=F8.mp hr;rw[(hk k h1).2.1];show FS.mp hj
 ·unfold Mx.cols;rw[show tb _=.lst (List.map rw _) from rfl,F9];rfl
 ·intro z hz;let#[j,hj,1]:=F8.mp hz;show#[λy hy=>?_,by unfold Mx.col;simpa using hl];unfold Mx.col at hy;rw[F9]at hy;let#[k,h1,1]:=F8.mp hy;let:=hk k h1;show Mk.O1 p0 this.2.2 j
 ·unfold Mx.cols;simpa using hm
universe e
section
variable {C CE:Addr}
abbrev wE (CE:Addr)(R:Mk.Ask->Mk.NJ)(B:Mk.Ask->Θ)(a:Mk.Ask):D:=.tup [xX CE (R a) (B a),.int (a.2.1:Nat),.int a.2.2]
structure a1f (p:Int) (A:List Mk.Ask) (R:Mk.Ask->Mk.NJ) (B:Mk.Ask->Θ) (s:Mk.Ask->Int->Int):Prop where
 pl:∀ a∈A,a.2.1<(B a).length
 fit:∀ a∈A,QC p ((B a).getD a.2.1 [])/\((B a).getD a.2.1 []).length<=1000
 has:∀ a∈A,∀ b∈A,b.2.2∈(R a).map (·.1)
 sh:∀ a∈A,∀ k,s a k=Mx.Jh p ((B a).getD a.2.1 []) (Mk.lk (R a) k)
inductive gp (C CE:Addr):Ä
 |mk {p:Int}{mixed:Ξ}{A:List Mk.Ask}{R:Mk.Ask->Mk.NJ}{B:Mk.Ask->Θ}{s:Mk.Ask->Int->Int}:p<=1000000->a1f p A R B s->Mk.Q8 p mixed A s->mixed.length<=1000->A.length<=1000->gp C CE [fD C p,rw mixed,.lst (A.map (wE CE R B))] (rw (Mk.QN p mixed A s))
def si (n):rw (List.replicate n 0)=.lst (List.replicate n (.int 0)):=congrArg D.lst IM
def nG [Bx:Bd](T:LV Bx.K Bx.mg CE)(Kf)(J2)(Nv:JB 2 "unbarred" ["field","values","steps"] (Pr (N5 C))):Tk 5 "multipliers" (top 86) ["field","mixed","asks"] (Pr (gp C CE)):=by
 show Ks ["told","values","at","ask","steps","often"] ?_ λ_ _ _ _ _ _ _ hr ND=>(qC (qs 3 ND<|dO kB ve (c9<|da dI J4).p (cD T.Jo<|Đ 1))
 (qC (qs 4 ND<|dO kB ve (c9<|da dI J4).p (cD T.Jo<|Đ 2))
 (qC (qL Fe rfl (iE rfl T.Ku<|da (Đ 2) J4) (bX Bx.K rfl<|ae XV (ae (pN 6 ND) aB)) (cr Bx.K [5,6])
  (q1 (qI (dT aV bK (Js hr (Đ 4)<|Đ 5) dI)
  (qC (SI (n:=3) (aO (i:=7) ND rfl rfl rfl (cS 3 [0,6] ["ear","way","ahead","field","ask"]) (aw<|Đ 2)
  (λ_ _ _ _ _=>bX Bx.K rfl<|ae (pC 0) (ae (pC 1)<|ae (pC 2) aB))
  Mf
  (λ_ _ _ _ _=>OI (Đ 0) Kf hr.m<|da (Đ 3) (da (Đ 1)<|da (Js hr (Đ 4) dI) J4))) rfl)
 (qC (qs 8 ND<|dF Nv hr.m rfl (da (Đ 0)<|da (UM (Đ 4) UL<|UK (Đ 5)) KM))
 (qC (qS (aO (i:=3) ND rfl rfl rfl (cS 2 [0,6,8] ["number","mine","field","ask","often"]) (iZ rfl T.Lq<|da (Đ 1) UF)
  (λ_ _ _ _ _=>bX Bx.K (n:=2) rfl<|ae (pC 0) (ae (pC 1) aB))
  Mf
  (λ_ _ _ _ _=>OI (Đ 2) J2 hr.m<|da (Pj (dO cA LJ (Đ 4)<|Đ 1)<|UO (dT aV bK (Đ 0)<|Js hr (Đ 3) dI) dI dI) J4)) λ_ _ _=>n9 (K:=Bx.K) (n:=2))
 (q1 (qS (aO (i:=4) ND rfl rfl rfl (cS 2 [0,8] ["value","step","field","often"]) (iZ rfl T.Lq<|da (Đ 4) KM)
  (λ_ _ _ _ _=>bX Bx.K (n:=2) rfl<|ae (pC 0) (ae (pC 1) aB))
  Mf
  (λ_ _ _ _ _=>OI (Đ 2) J2 hr.m<|da (Pj (dO cA LJ (Đ 3)<|Đ 0)<|Đ 1) J4)) λ_ _ _=>n9 (K:=Bx.K) (n:=2))))))
  q0)))
 Uf)))
 rintro _ _ @⟨p,mixed,A,R,B,s,p1,K1,pre,mz,az⟩;let p2:=((My.Jb p).mp pre.prime).1;show .nx #[#[#[2],by simp,1],#[#[2],KQ.m],#[mz]] (.nx #[#[#[2],by simp,1],#[#[2],KQ.m],#[az]] ?_);show c8 A.zipIdx (u:=λz=>.tup [.int (z.2:Nat),wE CE R B z.1]) (λi ε=>∃ o5 o6 o7 o8,ε=[.fz<|fD C p,.fz<|rw mixed,.fz<|.lst (A.map<|wE CE R B),.fz<|rw (Mk.Oe p mixed A s i).1,.fz<|rw (Mk.Oe p mixed A s i).2,o5,o6,o7,o8]) ⟨_,_,_,_,by unfold Mk.Oe;rw[si,si];rfl⟩ ⟨_,⟨rfl,rfl⟩,by rw[List.zipIdx_map,F9];rfl⟩ (λn z ε hz gR=>?_) λε gR=>?_
 ·let#[o5,o6,o7,o8,he]:=gR;rw[HI,Nat.zero_add]at hz;let#[a,ea,1]:=FI.mp hz;subst he;let hn:n<A.length:=(EY.mp ea).1;let am:=F6 ea;let I:=Mk.QM pre n ġ;let st:Mk.Oe p mixed A s (n+1)=Mk.NY p mixed A s (Mk.Oe p mixed A s n) n:=rfl;let ega:A.getD n (0,0,0)=a:=by rw[F7,ea];rfl
  unfold Mk.NY Mk.SS at st;rw[ega]at st;rw[st];clear st;generalize Mk.Oe p mixed A s n=M at I;let rd:=eq_int (ε:=[some<|fD C p,some<|rw mixed,some<|.lst (A.map<|wE CE R B),some<|rw M.1,some<|rw M.2,some<|.int n,some<|wE CE R B a,o7.a,o8.a]) (ra:=rO Sub (rV 4)<|rV 5) (rb:=rC<|.int 0) #[2,.l .lst<|bC (by rw[I.l2];show hn)] rfl;show#[_,#[_,3],?_];by_cases c0:M.2.getD n 0=0
  ·rw[EZ c0]at rd;rw[if_neg λz=>z c0];let tl:((M.2.take n).length:Int)<p:=by rw[Fh];let:=pre.Ka;omega
   let tz:∀ u∈M.2.take n,¬ p ∣ u:=λu hu=>by let#[i,hi,1]:=FN.mp hu;rw[IV];rw[Fh]at hi;let z1:=I.nz i ġ;let z2:=Mk.O1 ġ I.f2 i;rw[F7,EW<|show i<M.2.length by omega]at z1 z2;simp only[Option.getD_some]at z1 z2;intro z;let:=IY ġ z;omega
   let u3:=(Mk.Sw pre.prime (ss:=A.map λb=>s b a.2.2) tl tz).2.2;let ub:=N5.mk (C:=C) (ss:=A.map λb=>s b a.2.2) pre.prime p1 tl (by rw[Fh];omega) tz λu hu=>I.f2 u<|Iy hu;generalize Mk.ub p (M.2.take n) (A.map λb=>s b a.2.2)=o at u3 ub ⊢;show#[_,.t rd<|.nx ⟨bR (xs:=A) (u:=wE CE R B) (h:=λb=>.int<|s b a.2.2) (d:=rw (A.map λb=>s b a.2.2)) #[1,.l .lst] az (λb hb=>#[_,#[2],1,by decide,#[2,#[2,.t rfl],1],by rw[K1.sh b hb];show#[by omega,p1,K1.has b hb a am,K1.pl b hb,(K1.fit b hb).1,(K1.fit b hb).2]])<|Fl.rt.inj (Pf _ _)⟩ (.nx #[#[1,#[1,.lst,1,#[1],by rw[cG,<- GU]],2],ub]<|.nx ⟨bR (xs:=mixed.zip M.1) (u:=λz=>.tup [.int z.1,.int z.2]) (h:=λz=>.int<|((o:Int) * z.2+if z.1=a.2.2 then 1 else 0) % p) (d:=rw (List.zipWith (λk x=>((o:Int) * x+if k=a.2.2 then 1 else 0) % p) mixed M.1)) #[_,_,#[3],fT _ _] (by rw[GO];omega) (λz hz=>#[_,#[2],1,by decide,#[#[#[2,#[.inl #[by omega,by omega]]],?_,.i],1],#[by omega]]) ?_⟩ #[bR (xs:=M.2.zip<|A.map λb=>s b a.2.2) (u:=λz=>.tup [.int z.1,.int z.2]) (h:=λz=>.int<|((o:Int) * z.1+z.2) % p) (d:=rw (List.zipWith (λv x=>((o:Int) * v+x) % p) M.2<|A.map λb=>s b a.2.2)) #[_,_,#[3],fT _ _] (by rw[GO,I.l2];omega) (λz hz=>#[_,#[2],1,by decide,#[#[#[2,#[.inl #[by omega,by omega]]],1,.i],1],#[by omega]]) ?_]),_,_,_,_,1]
   ·let r1:=eq_int (ε:=[some<|.int z.1,some<|.int z.2,some<|fD C p,some<|wE CE R B a,some<|.int o]) (ra:=rV 0) (rb:=rO Sub (rV 3)<|rC (.int 2)) rfl #[2,.t rfl];by_cases e:z.1=a.2.2
    ·rw[EZ e]at r1;rw[if_pos e];show .t r1 rfl
    ·rw[F5 e]at r1;rw[if_neg e];show .f r1 rfl
   ·rw[<- GA];show Fl.rt.inj (Pf _ _)
   ·rw[<- GA];show Fl.rt.inj (Pf _ _)
  ·rw[F5 c0]at rd;rw[if_pos c0];show#[_,.f rd rfl,_,_,_,_,1]
 ·let#[o5,o6,o7,o8,he]:=gR;subst he;rw[List.length_zipIdx];show#[2]
universe e
open L2.Wy
section
variable {c:Cl}{C:Addr}
def a0D {α:Type}{u:α->D}{J:Ù}(xs)(I:Õ)(h0:I 0 ε)(hl)(k)(fin:∀ ε',I xs.length ε'->∃ ε2,r2 ε' (.nx ε2)/\J ε2):∃ ε',ku (iH ri q rb) r2 ε (.nx ε')/\J ε':=
 let #[ε',h1,h2]:=t7 xs I h0 hl k;let #[ε2,h3,h4]:=fin ε' h2
 #[ε2,.nx h1 h3,h4]
inductive i8 (c:Cl):Ä
 |mk {S:NS}:S.J0.length<=1000->i8 c [aD c S,.int 0] (tb [[]])
theorem mI:Sum Ξ Θ->Θ
 | .inl _=>[]
 | .inr w=>w
theorem c6 (S:NS)(N m:Nat)(ks:Ξ):Δ:=S.Jt.map λg=>mI (bp (aW S.J0 !ks) Ļ g N m)
abbrev SD (t:Δ):D:=.lst (t.map tb)
abbrev SA (t:List Δ):D:=.lst (t.map SD)
inductive cw (c:Cl):Ä
 |mk {S:NS}{m N:Nat}{ç:Θ}:ç.length<=1000->(∀ ks∈ç,Su S (!ks) N/\∀ g∈S.Jt,∃ w,bp (aW S.J0 !ks) Ļ g N m=.inr w)->S.J'.length<=1000->1<=m->m<=1000->m * N+N<=1000->cw c [aD c S,.int m,tb ç] (SA (ç.map (c6 S N m)))
def JZ:ax ["net","many","chosen","listeners","told","choice","by_listener","listener","found"] ë (aa (top 82)):=Nd
def jy [Bx:Bd](J1)(Nu):Tk 5 "ways_by_choice" (top 82) ë (Pr (cw c)):=by
 intro f fd F;let ND:=JZ.nd;show F.dv JZ ?_ λJ7 A outer s H E hr=>(qC (qs 3 ND<|gk (Đ 0) J1 hr.m)
 (qC (qo 4 ND<|c9 J4)
 (qC (Pg Fe rfl (aw<|Đ 2) XV (aG 5)
  (qC (qo 6 ND<|c9 J4)
 (qC (Pg Fe rfl (aw<|Đ 3) ZB (aG 7)
  (qC (qs 8 ND<|dF Nu hr.m rfl C3)
 (qC (qI (dT aV bK (Js hr (Đ 8) dI) bi)
  (q1 qN)
  q0)
 NE)))
 (qZ 6<|q1 (qA (aF<|P2 Bx.K Fs FA Fy aH (pv 4) (a9 (Đ 6) IZ)) λ_ _ _ h=>h)))))
 (qr<|Đ 4))))
 rintro _ _ @⟨S,m,N,ç,hc,hw,hp,Ta,hm,hz⟩;let ll:S.Jt.length<=1000:=by unfold NS.Jt;rw[EV];show Fo (FB _ _) hp
 show#[1,.inl<|.nx ⟨rfl,rfl,by decide,⟨hp⟩⟩ (.nx ⟨⟨rfl,by simp,rfl⟩⟩ ?_)];show c8 ç (λi ε=>∃ o5 o6 o7 o8,ε=[.fz<|aD c S,.fz<|.int m,.fz<|tb ç,.fz<|aI S.Jt,.ow<|SA ((ç.take i).map<|c6 S N m),o5,o6,o7,o8]) ⟨_,_,_,_,rfl⟩ ⟨rfl,.l .lst⟩ (λi ks ε hk gR=>?_) λε gR=>?_
 ·let#[o5,o6,o7,o8,he]:=gR;subst he;let#[O,W]:=hw ks<|F6 hk;show⟨_,rfl,oq ⟨⟨rfl,by simp,rfl⟩⟩ ?_⟩;show a0D S.Jt (λj ε=>∃ o7 o8,ε=[.fz<|aD c S,.fz<|.int m,.fz<|tb ç,.fz<|aI S.Jt,.ow<|SA ((ç.take i).map<|c6 S N m),.fz<|rw ks,.ow<|SD ((S.Jt.take j).map λg=>mI<|bp (aW S.J0<|some ks) (S.JR.map (·.1)) g N m),o7,o8]) ⟨_,_,rfl⟩ ⟨rfl,.l .lst⟩ (λj g ε hg gR=>?_) λε gR=>?_
  ·let#[o7,o8,he]:=gR;subst he;let#[wy,SX]:=W g<|F6 hg;let c1:=OE.mk (c:=c) O (F6 hg) Ta hm hz;rw[SX]at c1;let rd:=eq_str (ε:=[some<|aD c S,some<|.int m,some<|tb ç,some<|aI S.Jt,some<|SA ((ç.take i).map<|c6 S N m),some<|rw ks,some<|SD ((S.Jt.take j).map λg=>mI<|bp (aW S.J0<|some ks) Ļ g N m),some<|.str g,some<|lh (.inr wy)]) (ra:=rO Sub (rV 8)<|rC (.int 0)) (rb:=rC<|.str "cut") #[2,.t rfl] rfl;rw[F5<|by decide]at rd;show#[_,1,_,.nx #[#[5],c1]<|.nx (.f rd rfl) #[1,by simp;omega,.z #[2,.t rfl]],.fz<|.str g,.fz<|lh (.inr wy),?_];rw[aR hg,Fa,Fk,GE,SX,show SD (_++[mI<|.inr wy])=.lst (List.map tb _++[tb wy]) from congrArg D.lst Fa];rfl
  ·let#[o7,o8,he]:=gR;rw[FF]at he;subst he;show#[_,#[_,2,by simp;omega,.z rfl],.fz<|rw ks,.fz<|SD (c6 S N m ks),o7,o8,?_];rw[aR hk,Fa,Fk,GE,show SA (_++[c6 S N m ks])=.lst (List.map SD _++[SD<|c6 S N m ks]) from congrArg D.lst Fa];rfl
 ·let#[_,_,_,_,he]:=gR;rw[FF]at he;subst he;show#[2]
inductive cH (c:Cl) (C:Addr) (Rm:Ä):Ä
 |mk {S:NS}{m N:Nat}{p:Int}{d:D}:My.LL p=true->p<=1000000->Su S (![]) N->(∀ g∈S.Jt,∃ w,bp (aW S.J0 ![]) Ļ g N m=.inr w)->S.J'.length<=1000->1<=m->m<=1000->m * N+N<=1000->(S.Jt.length:Int)<=p->Rm [aD c S,.int m,fD C p,tb [[]],SA [c6 S N m []]] d->cH c C Rm [aD c S,.int m,.int p,.int 0] d
def Kt:ax ["net","many","prime","falls","field","chosen","found","needed"] Þ (aa (top 89)):=Nd
def uT [Bx:Bd](F:Kb Bx.K "plan_for" "plan_for" (top 89) f fd)(T:jT Bx.mg)(JK)(JT)(Jp)(J1)(MT:JB 6 "made_plan" ó (Pr Rm)):O7 Ky 7 f fd Þ (Pr (cH c C Rm)):=by
 let ND:=Kt.nd;show Kb.dv F Kt ?_ λJ7 A outer s H E hr=>(qC (qs 4 ND<|AU JK hr.m rfl Š)
 (qC (qs 5 ND<|dF JT hr.m rfl (da (Đ 0)<|da (Đ 3) J4))
 (qC (qs 6 ND<|dF Jp hr.m rfl (da (Đ 0)<|da (Đ 1) (da (Đ 5) J4)))
 (qC (qs 7 ND<|dO cA LJ (cD T.Jo<|gk (Đ 0) J1 hr.m) (cD T.Jo<|Đ 5))
 (qC (qI (dT fO cg (Đ 2)<|Đ 7)
  (q1 qN)
  q0)
 (qr<|dF MT hr.m rfl (da (Đ 0)<|da (Đ 1) (da (Đ 4)<|da (Đ 5) (da (Đ 6) J4)))))))))
 rintro _ _ @⟨S,m,N,p,d,hP,p1,O,W,hp,Ta,hm,hz,hl,M⟩;let rd:=lt_int (ε:=[some<|aD c S,some<|.int m,some<|.int p,some<|.int 0,some<|fD C p,some<|tb [[]],some<|SA [c6 S N m []],some<|.int (S.Jt.length * (1:Nat):Int)]) (ra:=rV 2) (rb:=rV 7) rfl rfl;rw[F5<|by lia]at rd;show#[1,.inl<|.nx #[#[#[2],p1,hP,1]] (.nx #[#[3],#[O.tl]]<|.nx ⟨⟨rfl,rfl,rfl,rfl⟩,.mk (by simp) (λks h=>by rw[Fr.mp h];show#[O,W]) hp Ta hm hz⟩ (.nx #[#[#[#[2,by decide,#[hp]],1],KQ.m],#[#[2],KQ.m],#[.inl #[#[],#[]]]]<|.nx (.f rd rfl) #[#[#[6],M],1]))]
universe e
universe K72
namespace L2
open PySem PySem.Spec PyProof.Rows
theorem QY (R:List D->Addr->Prop):Sp:=λvs H _ E=>∃ F l C,f' F H/\Jj F l vs/\R l C/\∀ od H',f' H H'->E (.ref C) od H'
abbrev Rz:=Ev->Addr->Prop
theorem tX (W:St->XK)(F0 H0:Hp)(e:Rz):TS:=λ_ σ H=>∃ F ε C,Ss F0 H0 F σ H ε/\e ε C/\∀ σ' od H',f' H0 H'->W σ' (.ref C) od H'
theorem QX (X)(W:St->XK)(st)(e:Rz):Prop:=∀ F0 H0,PS X st (tX W F0 H0 e)
theorem XB (X)(W:St->XK)(st:Í)(e:Rz):Prop:=∀ F0 H0,Nj X st (tX W F0 H0 e)
section
variable {st:Stmt}{r:Rs}{z:Rz}{rt:Å}
inductive zNx (r:Rs) (z:Rz) (ε:Ev) (C:Addr):Prop
 |mk {ε1:Ev}:r ε (.nx ε1)->z ε1 C->zNx r z ε C
def xC (h:QS X st r)(k:XB X W ss z):XB X W (st::ss) (zNx r z):=λF0 H0=>(ai (h F0 H0)<|k F0 H0).imp λE σ H gR=>by let#[F,ε,C,S,#[h1,h2],p]:=gR;show#[F,ε,_,S,h1,λσ' H' F' u S'=>#[F',_,C,S',h2,p]]
def x1 (h:QX X W st z):XB X W (st::ss) z:=λF0 H0=>(ai (h F0 H0) N0).imp λE σ H h=>h
inductive zIf (rt:Å) (z:Rz) (ε:Ev) (C:Addr):Prop
 |t:rt ĸ true->z ε C->zIf rt z ε C
def xI (h:PT X c (NL rt))(ha:XB X W a z):QX X W (.If c a b pos) (zIf rt z):=λF0 H0=>(gw h (ha F0 H0) N0).imp λE σ H ⟨F,ε,C,S,⟨h1,h2⟩,p⟩=>
 #[_,_,true,S.a,h1,λH1 e1=>#[F,ε,C,S.Kr e1,h2,p]]
inductive Bb (q:Ô) (rb:Rs) (zb:Rz):Ev->List D->Addr->Prop
 |next {ε ε1 ε2:Ev}{d:D}{l:χ}{C:Addr}:q d ε ε1->rb ε1 (.nx ε2)->Bb q rb zb ε2 l C->Bb q rb zb ε (d::l) C
 |ex {ε ε1:Ev}{d:D}{l:χ}{C:Addr}:q d ε ε1->zb ε1 C->Bb q rb zb ε (d::l) C
inductive Ye (ri:Ri) (q:Ô) (rb:Rs) (zb:Rz) (ε:Ev) (C:Addr):Prop
 |mk {l:χ}:ri (ε.map Sl.z) l->Bb q rb zb ε l C->Ye ri q rb zb ε C
def xL (hp)(hc)(hi)(ht:PG X tg g)(hg:U6 g q)(hb:OL X ss rb)(hx:XB X W ss zb)(hs):
  QX X W K0 (Ye ri q rb zb):=λF0 H0=>(bW hp hc hi ht (tb:=λE σ H=>tQ F0 H0 rb E σ H\/tX W F0 H0 zb E σ H) (λñ s σ H D I h=>h.elim (hb F0 H0 ñ s σ H D I)<|hx F0 H0 ñ s σ H D I) hs).imp fun E σ H ⟨F,ε,C,S,.mk (l:=l) h1 h2,p⟩=>by
 show#[F,_,l,S.z,h1,λJ H1 e1 hJ=>?_];show#[λi m σ H=>m=l.length - i/\i<=l.length/\∃ F' ε',f' _ F'/\Ss F0 H0 F' σ H ε'/\Bb q rb zb ε' (l.drop i) C,#[_,1,FR _,_,ε,f'.refl _,S.grow e1,h2],?_];rintro i m σ H ⟨rfl,hi,F',ε',u,S',w⟩;by_cases c:i<l.length
 ·rw[GQ c]at w;let#[go,yl]:=(hJ.mono u).go H i l[i] S'.le<|EW c;show .inr #[go,?_]
  cases w with
  | next t b w=>
   show#[λσ' H'=>∃ F2,f' _ F2/\Ss F0 H0 F2 σ' H' _,λσ2 H2 gR=>(by let#[F2,u2,S2]:=gR;show#[_,by omega,1,c,F2,_,u2,S2,w]),λx H2 y=>?_];let#[e2,hx]:=yl x H2 y;show hg _ _ _ _ _ _ _ _ x _ (S'.grow e2) hx t λσ3 S3=>.inl #[_,_,_,S3,b,λσ4 H4 F4 u4 S4=>#[F4,u.trans<|(aj S'.le).trans u4,S4]]
  | ex t b=>
   show#[λ_ _=>False,λ_ _ z=>z.elim,λx H2 y=>?_];let#[e2,hx]:=yl x H2 y;show hg _ _ _ _ _ _ _ _ x _ (S'.grow e2) hx t λσ3 S3=>.inr #[_,_,_,S3,b,p]
 ·rw[List.drop_of_length_le<|by lia]at w
  cases w
theorem XC (C)(R:List D->Prop):Sp:=λvs H Q _=>∃ F ea l ws,vs=.ref ea::ws/\H ea=!AO ea C/\(∀ b o,F b=!o->b≠ea/\H b=!o)/\Jj F l ws/\R l/\∀ dx H',(∀ b o,b≠ea->H b=!o->H' b=!o)->H' ea=!vY ea C dx->Q .non H'
inductive zRz (C:Addr) (rs:Á) (R:List D->Prop) (ε:Ev):Addr->Prop
 |mk {l:χ}:rs ĸ l->R l->l.length<=1000->zRz C rs R ε C
def xR (O:Own X)(hc)(hw:tO X W)(hg:Gl X x)(Dd:DiX X.prog X.w X.K X.mg X.base k x C ps (XC C R))(hr:Jn (k+1) X.A)(ha:PA X (e::es) (LG rs))(Mm)(Pm)(LM:(backTo JI (starEach es X.env)).any (·.1)=false:=Ą):
  QX X W (.Raise (!.Call (.Name x np) (e::es) [] JI) none pos) (zRz C rs R):=λF0 H0=>(zV O hc hw hg Dd hr ha Mm Pm LM).imp λE σ H gR=>by
 let#[F,ε,C',S,h,p]:=gR;let#[h1,h2,h3]:=h;show LG.go S.a h1 λvs H1 e1 S1 q1=>#[Fo (by rw[q1.length];show h3)<|by decide,λea Rv=>#[_,ea,_,vs,1,af,λb o w=>?_,q1,h2,λdx H' k1 k2=>#[1,dx,k2,p _ _ _ λb o w=>?_]]]
 ·let:=S1.le _ _ w;let ne:=ao this Rv;show#[ne,by rw[a8 ne];show this]
 ·let w1:=e1 _ _<|S.b0 _ _ w;let ne:=ao w1 Rv;rw[bv ne];show k1 b o ne (by rw[a8 ne];show w1)
inductive Bh (rs:Á) (R:List D->Addr->Prop) (ε:Ev) (C:Addr):Prop
 |mk {l:χ}:rs ĸ l->R l C->Bh rs R ε C
def OU.go (S)(h:Bh rs R ε C)(p:∀ σ' od H',f' H0 H'->W σ' (.ref C) od H'):OU (QY R) W (LG rs) σ H Q:=by let#[h1,h2]:=h;show LG.go S.a h1 λvs H1 e1 S1 q1=>#[_,_,C,S1.le,q1,h2,λod H' e=>p _ _ _<|S.b0.trans (e1.trans e)]
def xS (h:PS X st (jt (OU (QY R) W (LG rs)) (bU i))):QX X W st (Bh rs R):=λF0 H0=>h.imp λE σ H gR=>by let#[F,ε,C,S,h,p]:=gR;show OU.go S h p
universe e
section
variable {K:Ψ}{st:Stmt}{k:Nat}{R:List D->Addr->Prop}{z:Rz}
theorem Ds (n m:Nat)(z:Rz)(R:List D->Addr->Prop):Prop:=∀ l C,R l C->l.length=m/\z (ent n l) C
def MN.dvE (F:MN K x ğ st f fd)(S:ax N ps (aa st))(t:Ds N.length ps.length z R)(b:∀ (J7:Value)(A:Ë)(outer:List Env)(s:Ê)(H:Hp)(E:XK),Jn k ę->XB ň (λ_=>E) (ay st) z):Jy P w K mg base (Oa P w) (k+1) f fd ps (QY R):=
 F.okX S (λvs H Q E gR=>(by let#[_,l,C,_,hl,hR,_]:=gR;rw[hl.length,(t l C hR).1])) λJ7 A outer s H vs Q E hr gR=>by let#[F,l,C,s1,hl,hR,q]:=gR;show#[_,b J7 A outer s H E hr F H,F,_,C,ou N s1 hl,(t l C hR).2,λ_ od H' e=>q od H' e]
def Kb.dvE (F:Kb K x ğ st f fd)(S:ax N ps (aa st))(t:Ds N.length ps.length z R)(b:∀ (J7:Value)(A:Ë)(outer:List Env)(s:Ê)(H:Hp)(E:XK),Jn k ę->XB ň (λ_=>E) (ay st) z):Jy P w K mg base (Oa P w) (k+1) f fd ps (QY R):=
 Kb.okX F S (λvs H Q E gR=>(by let#[_,l,C,_,hl,hR,_]:=gR;rw[hl.length,(t l C hR).1])) λJ7 A outer s H vs Q E hr gR=>by let#[F,l,C,s1,hl,hR,q]:=gR;show#[_,b J7 A outer s H E hr F H,F,_,C,ou N s1 hl,(t l C hR).2,λ_ od H' e=>q od H' e]
def Jy.qx (F:Jy P w K mg base Ky k f fd ps sp):Jy P w K mg base (Oa P w) k f fd ps sp:=
 #[F.len,λA outer s H args us vs Q E hr he hb hv hs=>HK (F.run A outer s H args us vs Q E hr he hb hv hs) λr s' h=>by
  cases r with
  | error e=>show h.elim
  | ok f=>cases f <;> show h]
def Jy.or (F:Jy P w K mg base CX k f fd ps sp)(F':Jy P w K mg base CX k f fd ps YA):Jy P w K mg base CX k f fd ps λvs H Q E=>sp vs H Q E\/YA vs H Q E:=
 #[λvs H Q E h=>h.elim (F.len vs H Q E)<|F'.len vs H Q E,λA outer s H args us vs Q E hr he hb hv hs=>hs.elim (F.run A outer s H args us vs Q E hr he hb hv)<|F'.run A outer s H args us vs Q E hr he hb hv]
universe e
def CT (x:Heap.FlyingW B l e cls a0 h):Heap.FlyingW B l e cls a0 (h.push o):=by let#[f1,f2,f3,oe,vs,T,oT,ts,he,r1,hd,h1,hnT,hTe,hT,r2]:=x;let kp:∀ {b u},h.get? b=!u->(h.push o).get? b=!u:=λq=>Fc _ q;show#[λb u q=>kp<|f1 b u q,f2,f3.of_keeps λb u q _=>#[u,kp q,1],oe,vs,T,oT,ts,kp he,r1,hd,h1,hnT,hTe,kp hT,r2]
theorem Yr (K)(C1 C2:Addr)(tb:(St->XK)->TS)(th:TS):TS:=λD σ H=>
 tb (λσ' cls od H'=>W.exmAny K cls [.ref C1,.ref C2]=!true/\th D σ' H') D σ H
def E3 {x1:Str}{tb:(St->XK)->TS}(O:Own X)(g1:Gl X x1)(m1:X.mg x1=!.ref C1)(g2:Gl X x2)(m2)(hb:∀ pn W,Nj (X.VE pn W) body (tb W))(hh:∀ ea pn,Nj (X.Ot ea pn) (b₀::Qh) th)(d1)(d2):
  PS X (.Try body [.ExceptHandler (!.Tuple [.Name x1 p1,.Name x2 p2] kk LH) none (b₀::Qh) WT] [] [] pos) (Yr X.K C1 C2 tb th):=by
 intro ñ s σ H D I h;show wpAny_Try_except ?_;show GF (hb ñ _ [] s σ H D (I.VG.OF _) h) (λf s1 q=>?_) (λe s1 q=>?_)
 ·cases f with
  | next=>
   let#[σ',H',I',q]:=q;show IE #[σ',H',Inv.PV I.ok I'.KD,q]
  | brk=>let⟨σ',H',I',q⟩:=q;show#[σ',H',Inv.PV I.ok I'.KD,q]
  | cont=>let⟨σ',H',I',q⟩:=q;show#[σ',H',Inv.PV I.ok I'.KD,q]
  | ret u=>let⟨v,σ',H',I',r,q⟩:=q;show#[v,σ',H',Inv.PV I.ok I'.KD,r,q]
 ·let#[NU,σ',Hc,sc,Ic,ea,cls,a0,B,H',od,1,os,bare,u,Jk,Rv,hsc,fl,old,hW,hth]:=q;let I1:=Ic.P1 os u Jk bare λb z=>absurd z Ğ;let fl':=fl;rw[O.R9]at fl';let a31:X.A.frames=!(X.env::X.outer):=by rw[I.ok.frames,O.R9]
  show wpAny_looks_onW a31 O.frm fl' λh4 held up4=>?_;show wpAny_landsW held λh5 fl5 up5=>?_;let hfr:∀ b∈Oo X.stack,∃ o,s1.heap.get? b=!o/\∀ vs,o.data≠.fields vs:=λb hb=>by let#[_,o,ho,hd]:=fl.2.2.1.mem hb;show#[o,ho,hd]
  let at_:∀ {h6:Heap},B.StaysIn h6->s1.heap.UpToSlots h6->Inv _ NU σ' H' { s1 with heap:=h6 }:=λ{h6} hB up=>by let#[u6,a3G,_]:=VD u Jk fl.1 hB up hfr I1.NN old;show Ic.P1 os u6 a3G bare λb z=>absurd z Ğ
  let J5:=(at_ fl5.1<|up4.trans up5).PN (ea:=ea);show wpAny_handleBy_cons (codeAny_handlers_test<|wpAny_Tuple (wpAny_items_cons<|dj J5 g1 m1 (wpAny_items_cons<|dj J5 g2 m2 (wpAny_items_nil ⟨by size_fits,?_⟩) d2) d1)) (by intro q;cases q);let fl7:=CT (o:={ cls:=.type "tuple",data:=.seq [Value.ref C1,.ref C2].toArray }) fl5;let up7:h5.UpToSlots (h5.push { cls:=.type "tuple",data:=.seq [Value.ref C1,.ref C2].toArray }):=λb o q _=>#[o.slots,Fc _ q]
  let LT:PySem.W.Looks X.Ę (h5.push { cls:=.type "tuple",data:=.seq [Value.ref C1,.ref C2].toArray }) (typeOf<|.ref ea) cls:=by let#[ob,hob,a3L]:=fl7.there;subst a3L;show (PySem.W.Looks.ld hob).andThen .now
  show (PySem.W.exm_tup2 ((at_ fl7.1<|up4.trans (up5.trans up7)).PN (ea:=ea)).LY LT (Fx h5 rfl) hW).here ?_;show codeAny_handlers_suite ?_;show lands_againW fl7 λh6 fl6 up6=>?_;show GF (hh ea ñ [] _ _ _ D ((at_ fl6.1<|up4.trans (up5.trans<|up7.trans up6)).PN) hth) (λf s9 q9=>?_) (λ_ _ z=>False.elim z)
  cases f with
  | next=>let⟨σ9,H9,I9,q⟩:=q9;show#[_,H9,Inv.ON I.ok I9,q]
  | brk=>let⟨σ9,H9,I9,q⟩:=q9;show#[_,H9,Inv.ON I.ok I9,q]
  | cont=>let⟨σ9,H9,I9,q⟩:=q9;show#[_,H9,Inv.ON I.ok I9,q]
  | ret u=>let⟨v,σ9,H9,I9,r,q⟩:=q9;show#[v,_,H9,Inv.ON I.ok I9,r,q]
inductive VU (K:Ψ) (C1 C2:Addr) (rs:Á) (R:Ä) (Z:List D->Addr->Prop) (rr:Rs) (ε:Ev):Fl->Prop
 |ok {l:χ}{d:D}:rs ĸ l->R l d->VU K C1 C2 rs R Z rr ε (.rt d)
 |no {l:χ}{C:Addr}{f:Fl}:rs ĸ l->Z l C->W.exmAny K (.ref C) [.ref C1,.ref C2]=!true->rr ε f->VU K C1 C2 rs R Z rr ε f
def YV (K:Φ){x1:Str}{call:Expr}{dl:χ}(O:Own X)(g1:Gl X x1)(m1:X.mg x1=!.ref C1)(g2:Gl X x2)(m2)(hd:∀ F,Jj F dl dvs)(hb:∀ pn W,PE (X.VE pn W) call (yp (λvs H Q E=>Pr R vs H Q E\/QY Z vs H Q E) dvs W (LG rs)))(hh:∀ ea pn,OL (X.Ot ea pn) (b₀::Qh) rr)(d1)(d2)(hK):
  QS X (.Try [.Return (!call) rp] [.ExceptHandler (!.Tuple [.Name x1 p1,.Name x2 p2] kk LH) none (b₀::Qh) WT] [] [] pos) (VU K C1 C2 rs (λl=>R (l++dl)) (λl=>Z (l++dl)) rr):=hK▸λF0 H0=>(E3 O g1 m1 g2 m2 (λpn W=>aq<|bO (hb pn W)) (λea pn=>hh ea pn F0 H0) d1 d2).imp λE σ H gR=>by
 let#[F,ε,f,S,h,p]:=gR
 cases h with
 | ok h1 h2=>show LG.go S.a h1 λvs H1 e1 S1 q1=>.inl #[_,_,_,S1.le,q1.app<|hd _,h2,λx H2 e2 q2=>p x H2 (S.b0.trans<|e1.trans e2) (S.le.trans<|e1.trans e2) (by rw[ar e1 e2,ar S.b0<|e1.trans e2]at q2;show q2)]
 | no h1 h2 h3 h4=>show LG.go S.a h1 λvs H1 e1 S1 q1=>.inr #[_,_,_,S1.le,q1.app<|hd _,h2,λod H' e=>#[h3,F,ε,f,S.Kr<|e1.trans e,h4,p]]
open PySem.Calls PySem.W
open PySem.Builtin PySem.Builtin.ObjectAttr
def BZ {K:Frag}(X:K.In s.heap)(hx:s.heap.get? x=!ox)(RW)(Oi)(RU:ox.dict=!d)(U2:s.heap.Ns1 d m)(wi:Within (λy=>if y=name then some v else m y) L)(hL:L.length<=1000)(hp:jN K C=true)(ht:takerIn K C name=!none)(hh:hasDictIn K C=true)(h:∀ h' Sy,h'.Ns1 d (λy=>if y=name then some v else m y)->(∀ b o,b≠d->s.heap.get? b=!o->h'.get? b=!o)->R (.ok (.ret .none)) { s with heap:=h',toks:=Sy }):
  codeAny Ġ A (.call Ī #[[.ref x,.str name tk,v],[]]) R s:=by
 let SF:=PySem.F.store_object;let#[od,es0,ep0,ZT,ZJ]:=id U2;let I:W.InstAt s.heap x ox C !od:=#[hx,RW,by unfold notCls;rw[Oi],by rw[RU];show ZT]
 let#[cd,hc,ho]:=any_some hp;let ne:cd.mro.isEmpty=false:=by cases q:cd.mro with|nil=>rw[q]at ho;cases ho|cons _ _=>rfl
 let sub:Looks Ġ s.heap (isInstance _ _) true:=I.type.andThen<|looks_mroIn X (by unfold mroIn;rw[hc,Option.bind_some,if_neg (by rw[ne];decide),wP _ ho]);show codeAny_call_builtin SF.slot.plain SF.entry (@check_slot _ _ _ s "object.__setattr__" "object" "__setattr__" _ [.str name tk,v] [] _ SF.kind SF.split sub (SF.args _ _ v) ?_);let#[attr,ha,hr]:=Option.bind_eq_some_iff.mp ht;let hm:Looks Ġ s.heap (mroOf<|.ref C) cd.mro:=(looks_clsIn X hc).andThen .now;let L3:Looks Ġ s.heap (storeTaker? attr) none:=by
  cases attr with
  | none=>show .now
  | some a=>
   let#[b,hb,e]:=FI.mp hr;show (looks_takesIn X hb).andThen ?_
   cases b with
   | true=>cases e
   | false=>show .now
 rw[osa_eq,refuse_eq];show EX<|EX (I.type.here<|EX (hm.here ?_));rw[kr _ _ ho];show Ff<|EX (I.type.here<|EX ((looks_findIn X ha).here<|EX (L3.here ?_)));let#[cd2,hc2,Po]:=any_some hh;let#[Q0,g,dr,t,os]:=s;let#[oc,odi,oda,KR]:=ox;subst RW Oi RU;show EX<|Ff (EX<|EX (wpAny_loadPart hx<|EX ((looks_clsIn X hc2).here ?_)));rw[Po];show Ff ?_;show EX<|Ff (EX (wpAny_nsSet1 U2 λh' Ru hs=>?_));let#[oD,esD,epD,ZV,hdD,hcD]:=Ru.count wi;show EX (wpAny_lookBehind ZV (by rw[hdD];show pastItsLine_dict<|Fo hcD (by rw[IT];omega)) ?_);show Ff (h h' _ Ru λb ob hbd hb=>(hs.2 b hbd).trans hb)
section
variable {σ:St}{H:Hp}
def nV:∀ {fs:Î},fs.lookup g=!z->g∈fs.map (·.1):=by
 intro r'
 induction r' with
 | nil=>
  intro h
  cases h
 | cons p fs ih'=>
  intro h;rw[HL]at h
  cases hb:g==p.1 with
  | true=>simp_all
  | false=>rw[hb]at h;show Fp _ (ih' h)
def BA (I)(e:H ea=!vY ea C dx)(ed:H dx=!.xd fs)(hz:fs.length<=900)(T:m8 X.K C f)(ry)(h:∀ s',Inv X ñ σ (upd H dx (.xd ((f,y)::fs))) s'->Q () s'):wpAny X.Ę A (setAttr (.ref ea) f u) Q E s:=by
 let#[ox,vs,a0,hx,hc,hd,h0,h1,RU]:=id<|(I.Jk ea _ e).1;let#[mA,U2,ZK]:=(I.Jk dx _ ed)
 let#[od,es0,ep0,ZT,ZJ]:=id U2;let IA:W.InstAt s.heap ea ox C !od:=#[hx,hc,by unfold notCls;rw[hd],by rw[RU];show ZT]
 let wi:=Within.cons f u λg hg=>by
  let hr:=ZK g
  cases hl:fs.lookup g with
  | none=>rw[hl]at hr;cases hm:mA g with
   | none=>show absurd hm hg
   | some z=>rw[hm]at hr;show (hr).elim
  | some z=>show nV hl
 show set_plain I.LY IA T.sa (BZ I.LY hx hc hd RU U2 wi (by rw[FW,EV];lia) T.ov T.tk T.hd λh' Sy Ru hk=>?_);show h _ (I.P1 (ch:=[]) rfl ?_ ?_ I.bare λb z=>absurd z<|by simp)
 ·let old:∀ b,b≠dx->upd H dx (.xd<|(f,y)::fs) b=H b:=λb hb=>a8 hb;show#[λb o q n hb hx=>?_,λb o q n hb hx=>?_,λb o q n hx=>?_,λb o q hx=>?_,λb xs q=>?_,λb o u q=>?_]
  ·show hk b o (λz=>by rw[z,ed]at n;cases n) q
  ·show#[o.slots,hk b o (λz=>by rw[z,ed]at n;cases n) q]
  ·rw[old b (λz=>by rw[z,ed]at n;cases n)];show n
  ·by_cases hb:b=dx
   ·let#[o',_,_,Q1,_]:=id Ru
    simp_all
   ·show#[o,hk b o hb q]
  ·rw[old b (λz=>by rw[z,ed]at q;cases q)];show q
  ·rw[old b (λz=>by rw[z,ed]at q;cases q)];show q
 ·intro a v q;by_cases hb:a=dx
  ·rw[hb,af]at q
   cases q;rw[hb];show#[_,Ru,λg=>?_];by_cases hg:g=f
   ·rw[if_pos hg,hg];simp only[List.lookup,beq_self_eq_true];show ry
   ·rw[if_neg hg];let:(g==f)=false:=by simpa using hg
    simp only[List.lookup,this];show ZK g
  ·rw[a8 hb]at q;show (I.Jk a v q).Kr (λc w' Nh z=>hk c w' (λz2=>?_) z) (λc Nh=>?_) λc xs Nh=>?_
   ·grind
   ·rw[a8 λz=>by simp_all];show Nh
   ·rw[a8 λz=>by simp_all];show Nh
theorem VR (C)(ta tv:TE)(f):TS:=λD σ H=>tv σ H λy H1=>ta σ H1 λx H2=>∃ ea dx fs,x=.ref ea/\H2 ea=!vY ea C dx/\H2 dx=!.xd fs/\fs.length<=900/\D.nx σ (upd H2 dx (.xd ((f,y)::fs)))
def uL (T:m8 X.K C f)(ha:PE X o ta)(hv)(hs:swapsWith value (!.Attribute o f pos') pos.line X.env=pure false):PS X P3 (VR C ta tv f):=by intro ñ s σ H D I h;show Ik (Jx (hv ñ s σ H _ I h) fun u s1 ⟨y,H1,I1,ry,q⟩=>Jx (ha ñ s1 σ H1 _ I1 q) λov s2 gR=>?_) hs;let#[x,H2,I2,rx,ea,dx,fs,ex,he,hd,hz,q2]:=gR;subst ex;obtain rfl:ov=Value.ref ea:=rx;show BA I2 he hd hz T ry λs3 I3=>#[σ,_,I3,q2]
universe e
universe L2
namespace K72
open PySem L2
open PyProof.Rows (boot_all boot_bool boot_dict boot_int boot_list boot_sorted boot_str boot_tuple)
def fV:ax Ā Ā (aa (ak (top 19) 0)):=Nd
def j3 [Bx:Bd](T:m8 Bx.K C "needed"):Tm 1 "__init__" "SmallPrime.__init__" (ak (top 19) 0) Ā (XC C λl=>∃ i:Int,l=[.int i]):=by
 intro f fd F;show F.ok fV (λvs H Q E h=>?_) (λJ7 A outer s H vs Q E hr h=>?_)
 ·let#[_,ea,_,ws,1,_,_,hl,#[i,1],_]:=h;let#[v,_,1,_,h]:=hl
  cases h;rfl
 ·let#[_,ea,_,ws,1,he,_,hl,#[i,1],q]:=h;let#[v,_,1,_,h]:=hl
  cases h;show#[_,aq<|yC T (pv 0) (pv 1) rfl,?_];show⟨_,rfl,_,rfl,ea,rfl,he,λdx hd ne=>q dx _ (λb o nb hb=>?_) af⟩;rw[a8 nb,a8<|ao hb hd];show hb
inductive rT (vs:π) (H:Hp) (Q:VK) (E:XK):Prop
 |mk (a:Addr) (xs:π):vs=[.ref a]->H a=!.lst xs->(∀ l H',f' H H'->H l=none->Q (.ref l) H')->rT vs H Q E
def DS:ax ["value"] ["value"] (aa (top 5)):=Nd
def Ed [Bx:Bd](h1:Bx.mg "isinstance"=none)(h2:Bx.mg "list"=none)(TL:W.kitOne Bx.K Ş Ş=!true):Tk 1 "kept" (top 5) ["value"] rT:=by
 intro f fd F;show F.k DS λJ7 A outer s H vs Q E hr h=>?_
 ·let#[a,xs,1,ha,q]:=h;show#[_,ai (gw (cL<|bY (Eu Bx.K) rfl h1 cv (a9 (pv 0)<|a9 (mh (v:=.ty "list") rfl h2 boot_list rfl) IZ)) (aq<|bO (du (listS Bx.K) rfl h2 boot_list<|a9 (pv 0) IZ)) Kp) N0,?_];show#[_,1,.ref a,_,_,_,1,.lst ha,TL,_,1,Et ?_];show#[_,1,a,xs,1,.inl<|Jq.of ha,λl H' e h0 _=>q l H' e h0]
def lM:ax è è (aa (ak (top 18) 0)):=Nd
def vd [Bx:Bd](T1:m8 Bx.K C "fallen")(T2:m8 Bx.K C "name")(T3:m8 Bx.K C "numbers")(Q9:JB 1 "kept" ["value"] rT):Tm 2 "__init__" "Cut.__init__" (ak (top 18) 0) è (XC C λl=>∃ xs z ys,l=[.lst xs,.str z,.lst ys]):=by
 intro f fd F;show F.ok lM (λvs H Q E h=>?_) (λJ7 A outer s H vs Q E hr h=>?_)
 ·let#[_,ea,_,ws,1,_,_,hl,#[xs,z,ys,1],_]:=h;let#[_,_,1,_,_,_,1,_,_,_,1,_,h]:=hl
  cases h;rfl
 ·let#[F0,ea,_,ws,1,he,hF,hl,#[xs,z,ys,1],q]:=h;let#[_,_,1,#[a,us,1,ha,_],_,_,1,hz,_,_,1,#[b,vs,1,hb,_],h]:=hl
  cases hz
  cases h;let ha:=(hF _ _ ha).2;let#[nbe,hb]:=hF _ _ hb;show#[_,ai (yC T1 (pv 0) (aZ Q9 hr.m rfl<|a9 (pv 1) IZ) rfl)<|ai (uL T2 (pv 0) (pv 2) rfl) (aq<|uL T3 (pv 0) (aZ Q9 hr.m rfl<|a9 (pv 3) IZ) rfl),?_];show⟨_,rfl,a,us,rfl,ha,λla H1 e1 h1=>#[_,1,ea,1,e1 _ _ he,λdx WZ ne=>?_]⟩;show#[_,1,_,1,ea,dx,_,1,af,(by rw[a8 ne];show af),(by change 1<=900;decide),?_];let kb:∀ c o,c≠ea->H c=!o->(upd (upd (upd H1 dx<|.xd [("fallen",.ref la)]) ea<|vY ea C dx) dx<|.xd [("name",.str z),("fallen",.ref la)]) c=some o:=λc o nc hc=>by let hc1:=e1 _ _ hc;rw[a8<|ao hc1 WZ,a8 nc,a8<|ao hc1 WZ];show hc1
  show#[_,1,b,vs,1,kb b _ nbe hb,λlb H2 e2 h2=>?_];show#[_,1,ea,dx,_,1,e2 _ _ (by rw[a8 ne.symm];show af),e2 _ _ af,(by change 2<=900;decide),?_];show q dx _ (λc o nc hc=>?_) ?_
  ·rw[a8<|ao (e1 _ _ hc) WZ];show e2 _ _ (kb c o nc hc)
  ·rw[a8 ne.symm];show e2 _ _ (by rw[a8 ne.symm];show af)
open L2.Wy
open PyProof.Rows (boot_any)
def qNs:OL X ss λ_ _=>False:=λF0 H0=>N0.imp λE σ H gR=>by let#[F,ε,f,S,h,p]:=gR;show h.elim
def z7:∀ (n:Nat)(xs:List α)(I:Õ){ε:Ev},I 0 ε->xs[n]?=!x->(∀ i y ε,i<n->xs[i]?=!y->I i ε->∃ ε1,q (u y) ε ε1/\∃ ε2,rb ε1 (.nx ε2)/\I (i+1) ε2)->
  (∀ ε,I n ε->∃ ε1,q (u x) ε ε1/\zb ε1 C)->Bb q rb zb ε (xs.map u) C:=by
 intro n
 induction n with
 | zero=>
  intro xs I ε h0 hx _ fin
  cases xs with
  | nil=>cases hx
  | cons y xs=>cases hx;let#[ε1,a,b]:=fin ε h0;show .ex a b
 | succ n ih=>
  intro xs I ε h0 hx k fin
  cases xs with
  | nil=>cases hx
  | cons y xs=>
   let#[ε1,a,ε2,b,c]:=k 0 y ε (Nat.succ_pos _) rfl h0;show .next a b (ih xs (λi=>I<|i+1) c hx (λi y ε hi hy h=>k (i+1) y ε (Nat.succ_lt_succ hi) hy h) fin)
section
variable {c:Cl}{aC aS:Addr}
inductive zx (S:NS) (m N:Nat):Prop
 |mk {n:Nat}{g:Str}{ks:Ξ}:S.Jt[n]?=!g->bp (aW S.J0 ![]) Ļ g N m=.inl ks->(∀ i h,i<n->S.Jt[i]?=!h->∃ w,bp (aW S.J0 ![]) Ļ h N m=.inr w)->zx S m N
inductive zu (c:Cl) (aC:Addr):List D->Addr->Prop
 |mk {S:NS}{m N:Nat}:Su S (![]) N->zx S m N->S.J'.length<=1000->1<=m->m<=1000->m * N+N<=1000->zu c aC [aD c S,.int m,tb [[]]] aC
set_option tactic.hygienic true in def jD [Bx:Bd](F:Fu Bx.K "ways_by_choice" (top 82) f fd)(J1)(Nu)(TJ:D6 2 "Cut" aC è (XC aC λl=>∃ xs z ys,l=[.lst xs,.str z,.lst ys])):O7 L0 5 f fd ë (QY (zu c aC)):=by
 let ND:=JZ.nd;show F.dvE JZ ?_ λJ7 A outer s H E hr=>(xC (qS (pS 3 ND<|gk (Đ 0) J1 hr.m) λ_ _ _ h=>h)
 (xC (qO (pS 4 ND<|c9 J4) λ_ _ _ h=>h)
 (x1 (xL PassesOwn.leaving rfl (iL<|Đ 2) XV (aG 5) qNs
  (xC (qO (pS 6 ND<|c9 J4) λ_ _ _ h=>h)
 (x1 (xL PassesOwn.leaving rfl (iL<|Đ 3) ZB (aG 7)
  (qC (qs 8 ND<|dF Nu hr.m rfl C3)
 (qC (qI (dT aV bK (Js hr (Đ 8) dI) bi)
  (q1 qN)
  q0)
 NE))
  (xC (qS (pS 8 ND<|dF Nu hr.m rfl C3) λ_ _ _ h=>h)
 (x1<|xI (dT aV bK (Js hr (Đ 8) dI) bi) (x1<|xR mi rfl wr rfl TJ hr.m (da (Đ 5)<|da (Đ 7) (da (dS (aK hr) (Đ 8)<|dC bf) J4))))))))))))
 rintro _ _ @⟨S,m,N,O,⟨hg,ec,hn⟩,hp,Ta,hm,hz⟩;rename_i n g ks;let ll:S.Jt.length<=1000:=by unfold NS.Jt;rw[EV];show Fo (FB _ _) hp
 show⟨rfl,.mk ⟨rfl,rfl,by decide,⟨hp⟩⟩<|.mk ⟨⟨rfl,by simp,rfl⟩⟩ (.mk rfl<|.ex rfl (.mk ⟨⟨rfl,by simp,rfl⟩⟩ (.mk rfl ?_)))⟩;show z7 n S.Jt (λj ε=>∃ o7 o8,ε=[.fz<|aD c S,.fz<|.int m,.fz<|tb [[]],.fz<|aI S.Jt,.ow<|.lst [],.fz<|D.lst [],.ow<|SD ((S.Jt.take j).map λg=>mI<|bp A8 (S.JR.map (·.1)) g N m),o7,o8]) ⟨_,_,rfl⟩ hg (λj h ε hj hh gR=>?_) λε gR=>?_
 ·let#[o7,o8,he]:=gR;subst he;let#[wy,SX]:=hn j h hj hh;let jl:=(EY.mp hh).1;let c1:=OE.mk (c:=c) O (F6 hh) Ta hm hz;rw[SX]at c1;let rd:=eq_str (ε:=[some<|aD c S,some<|.int m,some<|tb [[]],some<|aI S.Jt,some<|.lst [],some<|D.lst [],some<|SD ((S.Jt.take j).map λg=>mI<|bp A8 Ļ g N m),some<|.str h,some<|lh (.inr wy)]) (ra:=rO Sub (rV 8)<|rC (.int 0)) (rb:=rC<|.str "cut") #[2,.t rfl] rfl;rw[F5<|by decide]at rd;show#[_,1,_,.nx #[#[5],c1]<|.nx (.f rd rfl) #[1,by simp;omega,.z #[2,.t rfl]],.fz<|.str h,.fz<|lh (.inr wy),?_];rw[aR hh,Fa,Fk,GE,SX,show SD (_++[mI<|.inr wy])=.lst (List.map tb _++[tb wy]) from congrArg D.lst Fa];rfl
 ·let#[o7,o8,he]:=gR;subst he;let c1:=OE.mk (c:=c) O (F6 hg) Ta hm hz;rw[ec]at c1;let rd:=eq_str (ε:=[some<|aD c S,some<|.int m,some<|tb [[]],some<|aI S.Jt,some<|.lst [],some<|D.lst [],some<|SD ((S.Jt.take n).map λg=>mI<|bp A8 Ļ g N m),some<|.str g,some<|lh (.inl ks)]) (ra:=rO Sub (rV 8)<|rC (.int 0)) (rb:=rC<|.str "cut") #[2,.t rfl] rfl;rw[EZ rfl]at rd;show#[_,1,.mk #[#[5],c1]<|.t rd (.mk #[2,#[2,.t rfl],1] #[_,_,_,1] (by change 3<=1000;decide))]
inductive wI (c:Cl) (aC:Addr):List D->Addr->Prop
 |mk {S:NS}{m N:Nat}{p:Int}:My.LL p=true->p<=1000000->Su S (![]) N->zx S m N->S.J'.length<=1000->1<=m->m<=1000->m * N+N<=1000->wI c aC [aD c S,.int m,.int p,.int 0] aC
def vk [Bx:Bd](F:Kb Bx.K "plan_for" "plan_for" (top 89) f fd)(JK)(JT)(Jp:Xe 5 "ways_by_choice" ë (QY (zu c aC))):O7 L0 7 f fd Þ (QY (wI c aC)):=by
 let ND:=Kt.nd;show Kb.dvE F Kt ?_ λJ7 A outer s H E hr=>(xC (qS (pS 4 ND<|AU JK hr.m rfl (da (Đ 2) J4)) λ_ _ _ h=>h)
 (xC (qS (pS 5 ND<|dF JT hr.m rfl (da (Đ 0)<|da (Đ 3) J4)) λ_ _ _ h=>h)
 (x1<|xS (pS 6 ND<|BY We Jp hr.m rfl (da (Đ 0)<|da (Đ 1) (da (Đ 5) J4))))))
 rintro _ _ @⟨S,m,N,p,hP,p1,O,W,hp,Ta,hm,hz⟩;show#[1,.mk #[#[#[2],p1,hP,1]]<|.mk #[#[3],#[O.tl]] #[#[4],#[O,W,hp,Ta,hm,hz]]]
inductive i4 (c:Cl) (aS:Addr):List D->Addr->Prop
 |mk {S:NS}{m N:Nat}{p:Int}:My.LL p=true->p<=1000000->Su S (![]) N->(∀ g∈S.Jt,∃ w,bp (aW S.J0 ![]) Ļ g N m=.inr w)->S.J'.length<=1000->1<=m->m<=1000->m * N+N<=1000->p<(S.Jt.length:Int)->i4 c aS [aD c S,.int m,.int p,.int 0] aS
def mU [Bx:Bd](F:Kb Bx.K "plan_for" "plan_for" (top 89) f fd)(T:jT Bx.mg)(JK)(JT)(Jp)(J1)(Ms:D6 1 "SmallPrime" aS Ā (XC aS λl=>∃ i:Int,l=[.int i])):O7 L0 7 f fd Þ (QY (i4 c aS)):=by
 let ND:=Kt.nd;show Kb.dvE F Kt ?_ λJ7 A outer s H E hr=>(xC (qS (pS 4 ND<|AU JK hr.m rfl (da (Đ 2) J4)) λ_ _ _ h=>h)
 (xC (qS (pS 5 ND<|dF JT hr.m rfl (da (Đ 0)<|da (Đ 3) J4)) λ_ _ _ h=>h)
 (xC (qS (pS 6 ND<|dF Jp hr.m rfl (da (Đ 0)<|da (Đ 1) (da (Đ 5) J4))) λ_ _ _ h=>h)
 (xC (qS (pS 7 ND<|dO cA LJ (cD T.Jo<|gk (Đ 0) J1 hr.m) (cD T.Jo<|Đ 5)) λ_ _ _ h=>h)
 (x1<|xI (dT fO cg (Đ 2)<|Đ 7) (x1<|xR mi rfl wr rfl Ms hr.m KM))))))
 rintro _ _ @⟨S,m,N,p,hP,p1,O,W,hp,Ta,hm,hz,hl⟩;let ll:S.Jt.length<=1000:=by unfold NS.Jt;rw[EV];show Fo (FB _ _) hp
 let rd:=lt_int (ε:=[some<|aD c S,some<|.int m,some<|.int p,some<|.int 0,some<|fD C p,some<|tb [[]],some<|SA [c6 S N m []],some<|.int (S.Jt.length * (1:Nat):Int)]) (ra:=rV 2) (rb:=rV 7) rfl rfl;rw[EZ<|by lia]at rd;show#[1,.mk #[#[#[2],p1,hP,1]]<|.mk ⟨⟨rfl,rfl,rfl⟩,⟨O.tl⟩⟩ (.mk ⟨⟨rfl,rfl,rfl,rfl⟩,.mk (by simp) (λks h=>by rw[Fr.mp h];show#[O,W]) hp Ta hm hz⟩<|.mk #[#[#[#[2,by decide,#[hp]],1],KQ.m],#[#[2],KQ.m],#[.inl #[#[],#[]]]] (.t rd<|.mk #[2] #[_,1] (by change 1<=1000;decide)))]
universe e
theorem okN (ch)(n:Int):Bool:=decide (ch.length=0) || decide (ch.getD (ch.length - 1) 0<n)
theorem m7 (ch)(b:Θ)(n:Int):Θ:=if okN ch n=true then b++[ch++[n]] else b
theorem cB (ç)(nums):Θ:=ç.foldl (λb ch=>nums.foldl (m7 ch) b) []
def oP (ch):∀ (nums:Ξ)(b:Θ),(nums.foldl (m7 ch) b).length<=b.length+nums.length:=by
 intro r'
 induction r' with
 | nil=>
  intro b;show Fg _
 | cons n ns ih'=>
  intro b;rw[GD,FW];show Fo (ih' _) ?_;unfold m7;split <;> simp <;> lia
def j5 (nums):∀ (ç b:Θ),(ç.foldl (λb ch=>nums.foldl (m7 ch) b) b).length<=b.length+ç.length * nums.length:=by
 intro r'
 induction r' with
 | nil=>
  intro b;simp
 | cons ch cs ih'=>
  intro b;rw[GD,FW,Ia];let h1:=ih'<|nums.foldl (m7 ch) b;let h2:=oP ch nums b
  lia
def Eo {ch:Ξ}(h:ch.length≠0):OD (ch.map D.int) (-1)=!.int (ch.getD (ch.length - 1) 0):=by
 let h2:ch.length - 1<ch.length:=#[]
 unfold OD Sf;rw[EV,if_neg<|by lia,if_pos<|by lia,show (-1+(ch.length:Int)).toNat=ch.length - 1 by lia];simp[EW h2]
theorem g9 (nums):Nat->Θ
 | 0=>[[]]
 | k+1=>cB (g9 nums k) nums
theorem de (nums):Nat->Θ
 | 0=>[[]]
 | k+1=>de nums k++g9 nums (k+1)
section
variable {c:Cl}
inductive tY:Ä
 |mk {ç:Θ}{nums:Ξ}:ç.length * nums.length<=1000->(∀ ch∈ç,ch.length<=1000)->tY [tb ç,rw nums] (tb (cB ç nums))
def kE [Bx:Bd](T:jT Bx.mg):Tk 1 "longer_by_one" (top 2) ["chosen","numbers"] (Pr tY):=by
 show Ks ["told","choice","number"] ?_ λ_ _ _ _ _ _ _ hr ND=>(qC (qo 2 ND<|c9 J4)
 (qC (Pg Fe rfl K4 (pN 3 ND) (aG 3)
  (q1 (Pg Fe rfl No (pN 4 ND) (aG 4)
  (q1 (qI (PW.pt<|UN (dT aV bK (cD T.Jo<|Đ 3) dI) (fX<|dT iM cg (Đ 4) (Js hr (Đ 3)<|dNg bf)))
  (q1<|qA (aF<|P2 Bx.K Fs FA Fy aH (pv 2) (a9 (Pj (Đ 3) (c9<|da (Đ 4) J4).p) IZ)) (λ_ _ _ h=>h))
  q0)))))
 (qr<|Đ 2)))
 rintro _ _ @⟨ç,nums,hz,hc⟩;show .nx #[#[1,by simp,1]] ?_;show c8 ç (λi ε=>∃ o3 o4,ε=[.fz<|tb ç,.fz<|rw nums,.ow<|tb (cB (ç.take i) nums),o3,o4]) ⟨_,_,rfl⟩ ⟨rfl,.l .lst⟩ (λi ch ε hi gR=>?_) λε gR=>?_
 ·let#[o3,o4,he]:=gR;subst he;let XW:=(EY.mp hi).1;let bl:=j5 nums (ç.take i) [];rw[Fh,Nat.min_eq_left<|by lia]at bl;let bm:=Nat.mul_le_mul_right nums.length (show i+1<=ç.length by lia);show⟨_,rfl,AQ nums (λj ε=>∃ o4,ε=[.fz<|tb ç,.fz<|rw nums,.ow<|tb ((nums.take j).foldl (m7 ch)<|cB (ç.take i) nums),.fz<|rw ch,o4]) ⟨_,rfl⟩ ⟨rfl,.l .lst⟩ (λj n ε hj gR=>?_) λε' gR=>?_⟩
  ·let#[o4,he]:=gR;subst he;let hjl:=(EY.mp hj).1;let b2:=oP ch (nums.take j)<|cB (ç.take i) nums;rw[Fh,Nat.min_eq_left<|by lia]at b2;let b3:(cB (ç.take i) nums).length<=i * nums.length:=by unfold cB;simpa using bl
   rw[aR hj,IW,GD,List.foldl_nil];generalize (nums.take j).foldl (m7 ch) (cB (ç.take i) nums)=b at b2 ⊢;let r1:=eq_int (ε:=[some<|tb ç,some<|rw nums,some<|tb b,some<|rw ch,some<|.int n]) (ra:=rF KQ<|rA (rV 3) Nq) (rb:=rC<|.int 0) ⟨⟨rfl,rfl⟩,KQ.m⟩ rfl;let ho:VX (λε b=>rO K2 (rF KQ<|rA (rV 3) Nq) (rC<|.int 0) ε<|.bl b) (λε b=>rO (fI Ū λi j=>MB<|.bl (decide (j<i))) (rV 4) (rO Sub (rV 3)<|rC (.int<|-1)) ε<|.bl b) [some<|tb ç,some<|rw nums,some<|tb b,some<|rw ch,some<|.int n] (okN ch n):=by
    by_cases c0:ch.length=0
    ·rw[EZ<|by lia]at r1;rw[show okN ch n=true by simp[okN,c0]];show .t r1
    ·rw[F5<|by lia]at r1;rw[show okN ch n=decide (ch.getD (ch.length - 1) 0<n) by unfold okN;rw[F5 c0,Bool.false_or]];show .f r1 (gt_int rfl #[2,.l .lst<|Eo c0])
   by_cases c1:okN ch n=true
   ·rw[c1]at ho;show#[_,1,_,.t ho #[1,by simp;lia,.z #[1,#[#[2],by simp,1],.l (by let:=hc ch<|F6 hi;simp;lia)]],.fz<|.int n,?_];rw[show m7 ch b n=b++[ch++[n]] from if_pos c1,show tb (b++[ch++[n]])=.lst (b.map rw++[rw (ch++[n])]) from congrArg D.lst Fa,show rw (ch++[n])=.lst (ch.map .int++[.int n]) from congrArg D.lst Fa];rfl
   ·rw[Bool.eq_false_iff.mpr c1]at ho;show#[_,1,_,.f ho rfl,.fz<|.int n,by rw[show m7 ch b n=b from if_neg c1];rfl]
  ·let#[o4,he]:=gR;subst he;show#[.fz<|rw ch,o4,?_];rw[FF,aR hi];unfold cB;rw[IW];rfl
 ·let#[_,_,he]:=gR;rw[FF]at he;subst he;show#[2]
inductive eX (c:Cl):Ä
 |mk {S:NS}{k:Nat}:S.J0.length<=1000->k<=1000->(∀ j,j<k->(g9 ĭ j).length * S.J0.length<=1000/\(∀ ch∈g9 ĭ j,ch.length<=1000)/\(de ĭ j).length<=1000)->eX c [aD c S,.int k] (tb (de ĭ k))
def Al [Bx:Bd](T:Xu Bx.mg)(J8)(Ld:JB 1 "longer_by_one" ["chosen","numbers"] (Pr tY)):Tk 2 "choices" (top 3) ù (Pr (eX c)):=by
 show Ks ["numbers","told","longest","turn"] ?_ λ_ _ _ _ _ _ _ hr ND=>(qC (SI (n:=0) (aO (i:=2) ND rfl rfl rfl (cS 1 [] ["tie"]) (aw<|gk (Đ 0) J8 hr.m)
  ė
  Mf
  L1) rfl)
 (qC (qs 3 ND (c9<|da (c9 J4).p J4).p)
 (qC (qs 4 ND (c9<|da (c9 J4).p J4).p)
 (qC (qL Fe rfl (QP rfl T.Ju<|da (Đ 1) J4) XV (aG 5)
  (qC (qs 4 ND<|dF Ld hr.m rfl (da (Đ 4)<|da (Đ 2) J4))
 (q1<|qs 3 ND (Pj (Đ 3)<|Đ 4))))
 Uf))))
 rintro _ _ @⟨S,k,hl,hk,hb⟩;show .nx #[aU #[#[2,by decide,#[hl]],.l .lst] hl λt _=>#[_,3,.t rfl]]<|.nx ⟨⟨⟨⟨rfl,by simp,rfl⟩,rfl⟩,by simp,rfl⟩⟩ (.nx ⟨⟨⟨⟨rfl,by simp,rfl⟩,rfl⟩,by simp,rfl⟩⟩ ?_);rw[show D.lst (S.J0.map λt=>D.int t.1)=rw ĭ by rw[show rw ĭ=.lst ((S.J0.map (·.1)).map .int) from rfl,F9];rfl];show c8 (List.range k) (λi ε=>∃ o5,ε=[.fz<|aD c S,.fz<|.int k,.fz<|rw ĭ,.fz<|tb (de ĭ i),.fz<|tb (g9 (S.J0.map (·.1)) i),o5]) ⟨_,rfl⟩ ⟨k,hk,⟨rfl,rfl⟩,(bg _).symm⟩ (λi x ε hi gR=>?_) λε gR=>?_
 ·let#[o5,he]:=gR;subst he;let#[b1,b2,b3]:=hb i<|(gT hi).2;show#[_,1,_,.nx #[#[3],.mk (by rw[EV];show b1) b2] #[2,.l ?_],.fz<|.int x,?_]
  ·let:=j5 ĭ (g9 ĭ i) [];rw[EV]at this;rw[EV,EV];let:(cB (g9 ĭ i)<|S.J0.map (·.1)).length<=1000:=by unfold cB;simpa using Fo this (by simpa using b1)
   omega
  ·rw[show de ĭ (i+1)=de ĭ i++g9 ĭ (i+1) from rfl,show tb (de ĭ i++g9 ĭ (i+1))=.lst (List.map rw _++List.map rw _) from congrArg D.lst Fa];rfl
 ·let#[o5,he]:=gR;rw[FO]at he;subst he;show#[2]
def Dg [Bx:Bd](h:JB k "choices" ù (Pr (eX c))):JB k "choices" ù (Pr (i8 c)):=
 let #[f,fd,a,b,c',d]:=h
 #[f,fd,a,b,c',d.imp λvs H Q E gR=>by let#[F,l,d,s,h1,h2,q]:=gR;let#[hl]:=h2;show#[F,_,_,s,h1,.mk hl #[] λj z=>absurd z<|HA _,q]]
universe e
inductive Jd where
 |r (t:D)|a (x y:D)
theorem Jd.D:Jd->L2.D
 | .r t=>.tup [.str "reads",t]
 | .a x y=>.tup [.str "alike",x,y]
theorem Jd.bad:Jd->Bool
 | .r _=>false
 | .a _ _=>true
theorem Jd.one:Jd->L2.D
 | .r t=>t
 | .a x _=>x
theorem Jd.two:Jd->L2.D
 | .r t=>t
 | .a _ y=>y
abbrev Qy (gs:η)(J:Str->Jd):D:=Km (gs.map λg=>(.inr g,(J g).D))
abbrev jq (gs:η)(J:Str->Jd):D:=Km (gs.map λg=>(.inr g,(J g).one))
theorem a2V:Option Str->D
 | none=>.non
 | some g=>.str g
def vI {gs:η}(nd:gs.Nodup){V:Str->D}(h:g∈gs):cI (gs.map λg=>(.inr g,V g)) (.inr g)=!V g:=by show dE ?_ (F8.mpr #[g,h,1]);rw[F9];show HG _ (λa b UA e=>UA<|Sum.inr.inj e) nd
def om:∀ {l:List α}{i:Nat}{x:α},l[i]?=!x->(∀ j y,j<i->l[j]?=!y->p y=false)->p x=true->l.find? p=!x:=by
 intro l
 induction l with
 | nil=>intro i x h;cases h
 | cons y l ih=>
  intro i x h k hp
  cases i with
  | zero=>simp_all
  | succ i=>
   rw[Gs,k 0 y (Nat.succ_pos _) rfl];show ih h (λj z hj hz=>k (j+1) z (Nat.succ_lt_succ hj) hz) hp
structure a00 (mg:Ω):Prop where
 L':mg "dict"=none
inductive i7:Ä
 |mk {gs:η}{J:Str->Jd}:gs.Nodup->i7 [Qy gs J] (a2V (gs.find? λg=>(J g).bad))
def py [Bx:Bd]:Tk 1 "first_deaf" (top 91) ["judgements"] (Pr i7):=by
 show Ks ["listener"] ?_ λ_ _ _ _ _ _ _ hr ND=>(qC (Pg Fe rfl K4 (pN 1 ND) (aG 1)
  (q1 (qI (dT fM kH (Js hr (Js hr (Đ 0)<|Đ 1) dI) bi)
  (qr<|Đ 1)
  q0)))
 (qr P0))
 rintro _ _ @⟨gs,J,nd⟩;show ?_;show fH gs (λε=>∃ o,ε=[.fz _,o]) (λg=>(J g).bad) (λg=>.str g) #[_,1] #[1,Itm.m] (λg ε hg gR=>?_) (λg h=>by rw[h];rfl) λh ε gR=>by let#[o,he]:=gR;rw[h];show#[2]
 let#[o,he]:=gR;subst he;show#[_,1,?_];let hv:=vI (V:=λg=>(J g).D) nd hg
 cases hj:J g with
 | r t=>
  rw[hj]at hv;let:=ne_str (ε:=[!_,!_]) (ra:=rO Sub (rO Sub (rV 0)<|rV 1)<|rC (.int 0)) (rb:=rC<|.str "reads") #[#[2,.k hv kS],1,.t rfl] rfl;show#[_,.f this rfl,_,1]
 | a x y=>
  rw[hj]at hv;let:=ne_str (ε:=[some<|Qy gs J,!_]) (ra:=rO Sub (rO Sub (rV 0)<|rV 1)<|rC (.int 0)) (rb:=rC<|.str "reads") #[#[2,.k hv kS],1,.t rfl] rfl;show .t this #[2]
inductive tS:Ä
 |mk {gs:η}{J:Str->Jd}:gs.Nodup->gs.length<=1000->tS [Qy gs J] (jq gs J)
def sG [Bx:Bd](T:a00 Bx.mg):Tk 1 "tables_of" (top 92) ["judgements"] (Pr tS):=by
 show Ks [] ?_ λ_ _ _ _ _ _ _ hr ND=>(qr (Sn i0 (cX rfl) rfl T.L' boot_dict (da (O8 0 rfl (cS 1 [0] ["listener","judgements"]) K4
  ė
  Mf
  (λ_ _ _ _ _=>jf<|da (Đ 0) (da (Js hr UV dI) J4))) J4)))
 rintro _ _ @⟨gs,J,nd,hl⟩;show#[#[#[aU #[1,Itm.m] hl λg hg=>#[_,1,?_],1],To.m hl<|HG _ (λa b UA e=>UA<|Sum.inr.inj e) nd],1];show#[#[1,#[#[2,.k (vI nd hg) kS],1,?_],1],by simp,1]
 cases J g <;> show .t rfl
theorem gJ (gs:η)(J:List Int->Str->Jd)(chs:Θ):D:=match chs.find? λch=>(gs.find? λg=>(J ch g).bad).isSome with
 | none=>.tup [.str "stands",.lst (chs.map λch=>.tup [rw ch,jq gs (J ch)])]
 | some ch=>match gs.find? λg=>(J ch g).bad with
  | none=>.non
  | some g=>.tup [.str "falls",rw ch,.str g,(J ch g).one,(J ch g).two]
inductive Mo (Rc Rj:Ä):Ä
 |mk {n pl:D}{m p k:Int}{chs:Θ}{gs:η}{J:List Int->Str->Jd}:Rc [n,.int k] (tb chs)->chs.length<=1000->gs.length<=1000->gs.Nodup->(∀ ch∈chs,Rj [n,pl,.int m,.int p,rw ch] (Qy gs (J ch)))->Mo Rc Rj [n,pl,.int m,.int p,.int k] (gJ gs J chs)
def qm [Bx:Bd](F:Kb Bx.K "stands" "stands" (top 93) f fd)(JT:JB 2 "choices" ù (Pr Rc))(Lz)(Lk:JB 1 "first_deaf" ["judgements"] (Pr i7))(LX:JB 1 "tables_of" ["judgements"] (Pr tS)):O7 Ky 9 f fd ä (Pr (Mo Rc Rj)):=by
 show Kb.dw F ["told","choice","judgements","deaf"] ?_ λ_ _ _ _ _ _ hr ND=>(qC (qo 5 ND<|c9 J4)
 (qC (Pg Fe rfl (aw<|dF JT hr.m rfl (da (Đ 0)<|da (Đ 4) J4)) (pN 6 ND) (aG 6)
  (qC (qs 7 ND<|dF Lz hr.m rfl (da (Đ 0)<|da (Đ 1) (da (Đ 2)<|da (Đ 3) (da (Đ 6) J4))))
 (qC (qs 8 ND<|dF Lk hr.m rfl KM)
 (qC (qI (dT eM nO (Đ 8) P0)
  (qr<|jf (da bi<|da (Đ 6) (da (Đ 8)<|da (Js hr (Js hr (Đ 7)<|Đ 8) dI) (da (Js hr (Js hr (Đ 7)<|Đ 8) dI) J4))))
  q0)
 (q1<|qA (aF<|P2 Bx.K Fs FA Fy aH (pv 5) (a9 (jf<|da (Đ 6) (da (dF LX hr.m rfl<|da (Đ 7) J4) J4)) IZ)) (λ_ _ _ h=>h))))))
 (qr<|jf (da bi<|da (Đ 5) J4))))
 rintro _ _ @⟨n,pl,m,p,k,chs,gs,J,hc,hl,hg,nd,hj⟩;show#[1,.inl (.nx #[#[1,by simp,1]] ?_)];show rZ chs (λi ε=>(∀ j y,j<i->chs[j]?=!y->(gs.find? λg=>(J y g).bad).isSome=false)/\∃ o6 o7 o8,ε=[.fz n,.fz pl,.fz<|.int m,.fz<|.int p,.fz<|.int k,.ow<|.lst ((chs.take i).map λch=>.tup [rw ch,jq gs<|J ch]),o6,o7,o8]) ⟨λj y h=>absurd h<|HA _,_,_,_,rfl⟩ ⟨⟨⟨rfl,rfl,rfl⟩,hc⟩,.l .lst⟩ (λi ch ε hi gR=>?_) λε gR=>?_
 ·let#[hb,o6,o7,o8,he]:=gR;subst he;let hm:=F6 hi;show#[_,1,?_]
  cases hd:gs.find? λg=>(J ch g).bad with
  | some g=>
   show .inl #[.tup [.str "falls",rw ch,.str g,(J ch g).one,(J ch g).two],.nx #[#[6],hj ch hm] (.nx #[#[2],.mk nd] ?_),?_]
   ·rw[hd];let hgm:=FT hd;let hbg:=GH hd;show .rt<|.t #[2,by show#[0]] #[#[#[3,#[#[2,.k (vI nd hgm) kS],1,?_],#[#[2,.k (vI nd hgm) kS],1,?_],1],by simp,1],1];all_goals
     cases hx:J ch g with
     | r t=>rw[hx]at hbg;cases hbg
     | a x y=>show .t rfl
   ·unfold gJ;rw[om hi hb (by rw[hd];rfl)];dsimp only;rw[hd]
  | none=>
   show .inr #[_,.nx #[#[6],hj ch hm]<|.nx ⟨⟨rfl,rfl⟩,.mk nd⟩ (.nx (.f ?_ rfl) ⟨rfl,?_,.z ⟨⟨rfl,⟨⟨rfl,rfl⟩,.mk nd hg⟩,rfl⟩,by simp,rfl⟩⟩),λj y hj hy=>?_,.fz<|rw ch,.fz<|Qy gs (J ch),.fz .non,?_]
   ·rw[hd];show#[2,by show#[0]]
   ·rw[EV,Fh];omega
   ·by_cases hji:j=i
    ·subst hji;rw[hi]at hy;cases hy;rw[hd];rfl
    ·show hb j y #[] hy
   ·rw[aR hi,Fa,hd];rfl
 ·let#[hb,o6,o7,o8,he]:=gR;rw[FF]at he;subst he;show#[#[#[3],by simp,1],?_];let hN:chs.find? (λch=>(gs.find? λg=>(J ch g).bad).isSome)=none:=Gq.mpr λch hx=>by let#[i,hi,e]:=FN.mp hx;rw[hb i ch hi<|by rw[EW hi,e]];show nofun
  unfold gJ;rw[hN];rfl
theorem Qx (d)(H H':Hp):Prop:=∀ a o,a≠d->H a=!o->H' a=!o
def Qx.of (e):Qx d H H':=λa o _ h=>e a o h
def Qx.trans (a:Qx d H H1)(b:Qx d H1 H2):Qx d H H2:=λc o n h=>b c o n (a c o n h)
theorem NS.put (S:NS)(x)(k:Kd):NS:={ S with J':=S.J'++[(x,k)] }
def JS.put (N)(hd:H dp=!.dK ķ)(hp:Paired (λ(kv:Key×V) p=>kv.1=Sum.inr p.1/\KG c H kv.2 p) ķ S.J')(pa:KG c H (.ref a) p)(e:Qx dp H H')(Po:H' dp=!.dK (ķ++[(Sum.inr p.1,.ref a)])):JS c H' n dp dt (S.put p.1 p.2):=by
 let#[#[dx,h1],_,#[kt,h3,p3],h4]:=N;let Rk:∀ {v:V}{q:Str×Kd},KG c H v q->KG c H' v q:=λgR=>by let#[b,dxb,eb,hb]:=gR;show#[b,dxb,eb,e _ _ (cP hb hd λz=>nomatch z) hb]
 let SV:∀ {v:V}{t:JM},Mg H v t->Mg H' v t:=λgR=>by let#[b,eb,hb]:=gR;show#[b,eb,e _ _ (cP hb hd λz=>nomatch z) hb]
 show#[#[dx,e _ _ (cP h1 hd λz=>nomatch z) h1],#[_,Po,Paired.NO (Paired.Lg hp λ_ _ gR=>(by let#[x,y]:=gR;show#[x,Rk y])) #[1,Rk pa]],#[kt,e _ _ (Ne.symm h4) h3,Paired.Lg p3 λ_ _ gR=>(by let#[x,y]:=gR;show#[x,SV y])],h4]
def jP {f:α->Key}{g:α->D}:∀ {ķ:ξ}{l:List α},Paired (λ(kv:Key×V) x=>kv.1=f x/\DR H (g x) kv.2) ķ l->ķ.map (·.1)=(l.map λx=>(f x,g x)).map (·.1)/\Jj H ((l.map λx=>(f x,g x)).map (·.2)) Ł:=by
 intro a b h
 induction h with
 | nil=>show#[2]
 | cons h r ih=>let⟨a,b⟩:=h;show#[by simp_all,_,_,1,b,ih.2]
def KG.dr (h:KG c H v p):DR H (gx c p) v:=let ⟨a,dx,e,q⟩:=h;#[a,dx,_,e,q,1,_,_,3]
def Mg.dr (h:Mg H v t):DR H (bV t) v:=let ⟨a,e,q⟩:=h;#[a,_,e,q,_,_,2,_,_,2,_,_,2,_,_,3]
def JS.dr (N):DR H (aD c S) (.ref n):=by let#[#[dx,h1],#[kp,h2,p2],#[kt,h3,p3],_]:=N;let a:=jP<|Paired.Lg p2 λ_ _ gR=>(by let#[a,b]:=gR;show#[a,b.dr]);let b:=jP<|Paired.Lg p3 λ_ _ gR=>(by let#[a,b]:=gR;show#[a,b.dr]);show#[n,dx,_,1,h1,1,_,_,1,#[dp,kp,1,.inl h2,a.1,a.2],_,_,1,#[dt,kt,1,.inl h3,b.1,b.2],_,_,3]
def pr (hl:Jj H l vs)(hR:R l d)(q:∀ x H',f' H H'->DR H' d x->Q x H'):Pr R vs H Q E0:=#[H,l,d,f'.refl _,hl,hR,λx H' e h=>q x H' e<|h.mono (aM Ĩ e)]
def U5 (h:DR H d v):Jj H [d] [v]:=#[_,_,1,h,1]
def dr2 (h:DR H d v)(h'):Jj H [d,d'] [v,v']:=#[_,_,1,h,_,_,1,h',1]
theorem Ey (S:NS)(k:Kd):Bool:=decide (20<=S.J'.length) || (YI k&&decide (8<=S.Jt.length))
inductive dq (c:Cl)  (vs:π) (H:Hp) (Q:VK) (E:XK):Prop
 |mk (n dp dt a:Addr) (S:NS) (p:Str×Kd):vs=[.ref n,.ref a]->JS c H n dp dt S->KG c H (.ref a) p->¬ p.1∈S.names->S.J'.length<=1000->Ey S p.2=false->(∀ H',Qx dp H H'->JS c H' n dp dt (S.put p.1 p.2)->Q .non H')->dq c vs H Q E
def Nn:ax ý ý (aa (ak (top 35) 5)):=Nd
def pA [Bx:Bd](O)(T:jT Bx.mg)(TG:ER Bx.mg)(N7)(J1):Tm 3 "put_in" "Net.put_in" (ak (top 35) 5) ý (dq c):=by
 intro f fd F;let#[tl,Pn]:=TG.mop;let#[tn,O0]:=TG.mol;show F.k Nn λJ7 A outer s H vs Q E hr h=>?_
 ·let#[n,dp,dt,a,S,p,1,N,pa,LO,hz,q1,q2]:=h;let#[dx,h1]:=id N.ins;let#[ķ,hd,hp]:=id N.J';let#[a',dxa,ea,ha]:=id pa
  cases ea;let hl:=Paired.length hp;show#[_,(ai (gw (pT uQ (bY lI rfl T.Jo boot_len<|a9 C9 IZ)<|fZ (v:=.int 20) rfl Pn #[_,1])
  (aq Lo)
  Kp)
 (ai (gw (PW.pt<|BM (cL<|qg (pv 1) N7 hr.m) (bS<|pT uQ (bY (Zj Bx.K) rfl T.Jo boot_len<|a9 (qf (pv 0) J1 hr.m) IZ) (fZ (v:=.int 8) rfl O0 #[_,1])))
  (aq Lo)
  Kp)
 (aq<|bB (aK hr) C9 (vX Bx.K (pv 1) rfl) (pv 1) rfl))),?_]
  let store:∀ H1,f' H H1->∃ a_1 H4,V.ref dp=V.ref a_1/\Py H1 a_1 (.str p.1) (.ref a) H4/\Q .non H4:=λH1 e1=>by
   let hv:cQ ķ (Sum.inr p.1)=none:=by
    cases hs:cQ ķ (Sum.inr p.1) with
    | none=>rfl
    | some v=>
     let:=(jP<|Paired.Lg hp λ_ _ gR=>(by let#[a,b]:=gR;show#[a,b.dr]))
     let h2:=(Jj.val (y:=.inr p.1) this.1 this.2).1;let h3:=jJ (c:=c) (S:=S) (x:=p.1);rw[F5 LO]at h3;rw[h2<|Option.not_isSome_iff_eq_none.mp (by rw[h3];show nofun)]at hs
     cases hs
   show#[dp,_,1,Py.k (k:=Sum.inr p.1) (e1 _ _ hd) (by change ķ.length<2 ^ 24;omega),?_];let b1:Qx dp H (upd H1 dp<|.dK (dH ķ (Sum.inr p.1)<|.ref a)):=λb o nb hb=>by rw[a8 nb];show e1 _ _ hb
   show q2 _ b1 (N.put hd hp pa b1<|by rw[af,gU _ hv])
  unfold Ey at q1;rw[Bool.or_eq_false_iff,Bool.and_eq_false_iff]at q1;let#[g0,g2]:=q1;let g0:=of_decide_eq_false g0;show#[_,1,n,c.JQ,dx,_,_,1,h1,O.cn,O.fp,1,dp,ķ,1,hd,_,_,2,_,1,og (λg1=>?_) (λg1=>?_)]
  ·let g1:20<=S.J'.length:=by let:=Fq g1;omega
   show absurd g1 g0
  ·show#[_,1,a,c.of p.2,dxa,_,1,#[_,1],ha,1,pr (U5 pa.dr) #[0] λx H1 e1 hx=>#[_,hx,?_]];rw[gS O]
   cases hb:YI p.2 with
   | false=>show xQ (xQ #[_,1,_,1,n,c.JQ,dx,_,_,1,e1 _ _ h1,O.cn,O.fp,1,_,1,a,c.of p.2,dxa,_,_,1,e1 _ _ ha,O.cls _,O.Wm _,1,store H1 e1])
   | true=>
    show Et #[_,1,n,dx,_,1,e1 _ _ h1,1,pr (U5 (N.mono e1).dr) #[hz] λy H2 e2 gR=>?_];let#[l,vs,ey,OB,hv]:=gR;subst ey;let vl:=hv.length;let Pp:=e1.trans e2;show#[l,_,1,.inl<|Jq.of OB,_,_,2,_,1,og (λg3=>?_) λg3=>#[_,1,_,1,n,c.JQ,dx,_,_,1,Pp _ _ h1,O.cn,O.fp,1,_,1,a,c.of p.2,dxa,_,_,1,Pp _ _ ha,O.cls _,O.Wm _,1,store H2 Pp]];let g3:8<=S.Jt.length:=by let:=Fq g3;rw[vl,EV]at this;omega
    rcases g2 with z|z
    ·rw[hb]at z;cases z
    ·show absurd g3 (of_decide_eq_false z)
theorem may (S:NS)(x)(k:Kd):Prop:=j7 x=true/\¬ x∈S.names/\¬ (U1 k=false/\S.JR.isSome=true)/\Ey S k=false
inductive fU (c:Cl) (k:Kd)  (vs:π) (H:Hp) (Q:VK) (E:XK):Prop
 |mk (n dp dt:Addr) (S:NS) (x:Str):vs=[.ref n,.str x]->JS c H n dp dt S->x.length<=1000->S.J'.length<=1000->may S x k->(∀ H',Qx dp H H'->JS c H' n dp dt (S.put x k)->Q .non H')->fU c k vs H Q E
def made (N)(hz:S.J'.length<=1000)(hm:may S x k)(q2:∀ H',Qx dp H H'->JS c H' n dp dt (S.put x k)->Q .non H')(y dy:Addr)(ny:H y=none)(Wk:H dy=none)(ne:dy≠y):
  dq c [.ref n,.ref y] (upd (upd (upd H dy (.own y)) y (.ins (c.of k) dy [])) y (.ins (c.of k) dy [("name",.str x)])) Q E:=by
 let e1:f' H (upd (upd (upd H dy<|.own y) y<|.ins (c.of k) dy []) y<|.ins (c.of k) dy [("name",.str x)]):=aY (aY (aQ (f'.refl _) Wk) ny) ny;show⟨n,dp,dt,y,S,(x,k),rfl,N.mono e1,⟨y,dy,rfl,af⟩,hm.2.1,hz,hm.2.2.2,λH' b' N'=>q2 H' ((Qx.of e1).trans b') N'⟩
def uA:ax Ü Ü (aa (ak (top 35) 2)):=Nd
def v3 [Bx:Bd](O)(J9)(JF)(R4:Sm 1 "Post" c.post Ü (gK c)):Tm 4 "post" "Net.post" (ak (top 35) 2) Ü (fU c .post):=by
 intro f fd F;show F.k uA λJ7 A outer s H vs Q E hr h=>?_
 ·let#[n,dp,dt,S,x,1,N,hx,hz,hm,q2]:=h;let#[dx,h1]:=id N.ins;show#[_,(ai W1
 (aq<|aF (bI (pv 0) JF hr.m<|a9 (gV R4 hr.m rfl<|a9 (pv 1) IZ) IZ))),?_]
  show#[_,1,n,dx,_,1,h1,1,_,1,pr (dr2 N.dr (d':=.str x) rfl) #[hx,hm.1,hm.2.1] λ_ H1 e1 _=>?_];show#[_,1,n,dx,_,1,e1 _ _ h1,1,_,1,λy dy ny Wk ne=>#[y,.post,dy,x,1,af,1,?_]];show made (Q:=λ_ H2=>Q .non H2) (N.mono e1) hz hm L4 y dy ny Wk ne
def lJ:ax Ü Ü (aa (ak (top 35) 3)):=Nd
def lU [Bx:Bd](O)(J9)(JF)(NC:Sm 1 "Listener" c.Nf Ü (gK c)):Tm 4 "listener" "Net.listener" (ak (top 35) 3) Ü (fU c .listener):=by
 intro f fd F;show F.k lJ λJ7 A outer s H vs Q E hr h=>?_
 ·let#[n,dp,dt,S,x,1,N,hx,hz,hm,q2]:=h;let#[dx,h1]:=id N.ins;show#[_,(ai W1
 (aq<|aF (bI (pv 0) JF hr.m<|a9 (gV NC hr.m rfl<|a9 (pv 1) IZ) IZ))),?_]
  show#[_,1,n,dx,_,1,h1,1,_,1,pr (dr2 N.dr (d':=.str x) rfl) #[hx,hm.1,hm.2.1] λ_ H1 e1 _=>?_];show#[_,1,n,dx,_,1,e1 _ _ h1,1,_,1,λy dy ny Wk ne=>#[y,.listener,dy,x,1,af,1,?_]];show made (Q:=λ_ H2=>Q .non H2) (N.mono e1) hz hm L4 y dy ny Wk ne
def s0:ax Ü Ü (aa (ak (top 35) 1)):=Nd
def sQ [Bx:Bd](O)(J9)(JF)(JV)(Qc:Sm 1 "House" c.house Ü (gK c)):Tm 4 "house" "Net.house" (ak (top 35) 1) Ü (fU c .house):=by
 intro f fd F;show F.k s0 λJ7 A outer s H vs Q E hr h=>?_
 ·let#[n,dp,dt,S,x,1,N,hx,hz,hm,q2]:=h;let#[dx,h1]:=id N.ins;show#[_,(ai W1
 (ai (gw (pT eM (qf (pv 0) JV hr.m) xa)
  (aq Lo)
  Kp)
 (aq<|aF (bI (pv 0) JF hr.m<|a9 (gV Qc hr.m rfl<|a9 (pv 1) IZ) IZ)))),?_]
  show#[_,1,n,dx,_,1,h1,1,_,1,pr (dr2 N.dr (d':=.str x) rfl) #[hx,hm.1,hm.2.1] λ_ H1 e1 _=>?_];show#[_,1,n,dx,_,1,e1 _ _ h1,1,pr (U5 (N.mono e1).dr) #[0] λhv H2 e2 hx2=>?_]
  cases hs:S.JR with
  | some p=>show absurd #[1,by rw[hs];rfl] hm.2.2.1
  | none=>
   rw[hs]at hx2
   cases hx2;let e1:=e1.trans e2;show#[1,_,1,Zq rfl ?_];show#[_,1,n,dx,_,1,e1 _ _ h1,1,_,1,λy dy ny Wk ne=>#[y,.house,dy,x,1,af,1,?_]];show made (Q:=λ_ H2=>Q .non H2) (N.mono e1) hz hm L4 y dy ny Wk ne
structure EQ (mg:Ω):Prop where
 Lf:mg "isinstance"=none
 SQ:mg "int"=none
 Wn:mg "bool"=none
 Jo:mg "len"=none
structure Xx (mg:Ω):Prop where
 mot:∃ t,mg "MOST_TIES"=!.int 40 t
 lod:∃ t,mg "LONGEST_DELAY"=!.int 99 t
structure Xw (K:Ψ):Prop where
 ii:W.kitOne K Ps Ps=!true
 ib:W.kitOne K Ps (.type "bool")=!false
theorem NS.RG (S:NS)(x y:Str)(d:Int):NS:={ S with J0:=S.J0++[(S.next,x,y,d)],next:=S.next+1 }
theorem EU (n d:Addr)(H H':Hp):Prop:=∀ a o,a≠n->a≠d->H a=!o->H' a=!o
def dr3 (h:DR H d v)(h')(h2:DR H d2 v2):Jj H [d,d',d2] [v,v',v2]:=#[_,_,1,h,dr2 h' h2]
theorem uw:Sp:=λvs H Q _=>∃ i:Int,vs=[.int i]/\Q Ŗ H
def uz:ax ÿ ÿ (aa (top 28)):=Nd
def sL [Bx:Bd](T:EQ Bx.mg)(TI:Xw Bx.K):Tk 1 "is_whole" (top 28) ÿ uw:=by
 intro f fd F;show F.k uz λJ7 A outer s H vs Q E hr h=>?_
 ·let#[i,1,q]:=h;show#[_,aq<|bO (xc (bY (Eu Bx.K) rfl T.Lf cv<|a9 (pv 0) (a9 (mh (v:=.ty "int") rfl T.SQ boot_int rfl) IZ))<|kz (W9<|bY (Eu Bx.K) rfl T.Lf cv (a9 (pv 0)<|a9 (mh (v:=.ty "bool") rfl T.Wn boot_bool rfl) IZ))),?_];show#[_,1,.int i,_,_,_,1,.int i,TI.ii,_,1,Et #[_,1,.int i,_,_,_,1,.int i,TI.ib,_,1,q]]
def uV [Bx:Bd](F:Fu Bx.K "is_whole" (top 28) f fd)(T:EQ Bx.mg)(TI:Xw Bx.K):O7 Ky 1 f fd ÿ (Pr iF):=(sL T TI f fd F).imp λvs H Q E gR=>by
 let#[F,_,_,s,h,r,q]:=gR
 cases r;let#[v,ws,3]:=h;show#[_,1,q _ H Ĩ rfl]
def uX [Bx:Bd](F:Fu Bx.K "is_name" ie f fd)(T:jT Bx.mg)(TG:ER Bx.mg)(TK:Xv Bx.K):O7 Ky 1 f fd ["name"] (Pr O6):=(xq F T TG TK).imp λvs H Q E gR=>by let#[F,_,_,s,h,r,q]:=gR;let#[hx]:=r;let#[v,ws,3]:=h;show#[_,1,hx,λH' e=>q _ H' e rfl]
inductive l7:Ä
 |mk {n:Int}:1<=n->n<=99->l7 [.int n] Ŗ
def uY [Bx:Bd](TH:Xx Bx.mg)(KJ):Tk 2 "is_delay" (top 29) ÿ (Pr l7):=by
 let#[tl,Oh]:=TH.lod;show Ks [] ?_ λ_ _ _ _ _ _ _ hr ND=>(qr<|zm (dF KJ hr.m rfl<|da (Đ 0) J4) (kz<|dCh (nq qi qi dI (Đ 0)<|dC (fZ (v:=.int 99) rfl Oh #[_,1])) cg cg))
 rintro _ _ @⟨n,h0,h1⟩;show#[.t #[#[2],#[0]]<|.t rfl rfl (by let:=fI.mk (C:=λ_ _=>True) (g:=λi j=>MB<|.bl (decide (i<=j))) (i:=1) (j:=n) trivial;rwa [EZ h0]at this) rfl (by let:=fI.mk (C:=λ_ _=>True) (g:=λi j=>MB<|.bl (decide (i<=j))) (i:=n) (j:=99) trivial;rwa [EZ h1]at this),1]
inductive rR (c:Cl)  (vs:π) (H:Hp) (Q:VK) (E:XK):Prop
 |mk (n dp dt:Addr) (S:NS) (x y:Str) (d:Int):vs=[.ref n,.str x,.str y,.int d]->JS c H n dp dt S->x∈S.names->y∈S.names->(∀ t∈S.J0,t.1<S.next)->(∀ p∈S.J',p.1=y->U1 p.2=true)->¬ iR S.J0 y x->1<=d->d<=99->S.J0.length<40->(∀ H',EU n dt H H'->JS c H' n dp dt (S.RG x y d)->Q (.int S.next) H')->rR c vs H Q E
def OW:ax ["self","one","other","delay","number"] ô (aa (ak (top 35) 6)):=Nd
def xu [Bx:Bd](F:Kb Bx.K "tie" "Net.tie" (ak (top 35) 6) f fd)(O)(T:EQ Bx.mg)(TH:Xx Bx.mg)(KN:Kj 2 c.JQ "check_ends" ã (Pr (ia c)))(Ny:JB 2 "is_delay" ÿ (Pr l7)):
  O7 Ky 3 f fd ô (rR c):=by
 let#[tl,Q4]:=TH.mot;show F.k OW λJ7 A outer s H vs Q E hr h=>?_
 ·let#[n,dp,dt,S,x,y,d,1,N,hx,hy,a3N,hb,hL,hi1,hi2,g,q5]:=h;let#[dx,h1]:=id N.ins;let#[ķ,hd,hp]:=id N.J0;let hl:=Paired.length hp;show#[_,(ai (aF<|bI (pv 0) KN hr.m (a9 (pv 1)<|a9 (pv 2) IZ))
 (ai (gw (sr<|cL (aZ Ny hr.m rfl<|a9 (pv 3) IZ))
  (aq Lo)
  Kp)
 (ai (gw (pT uQ (bY lI rfl T.Jo boot_len<|a9 C9 IZ)<|fZ (v:=.int 40) rfl Q4 #[_,1])
  (aq Lo)
  Kp)
 (ai (pS 4 OW.nd<|vX Bx.K (pv 0) rfl)
 (ai (bB (aK hr) C9 (pv 4) (eJ<|a9 (pv 4) (a9 (pv 1)<|a9 (pv 2) (a9 (pv 3) IZ))) rfl)
 (ai (fY (pv 0) (jx xi (pv 4) bf) rfl)
 (aq<|bO (pv 4)))))))),?_]
  show#[_,1,n,dx,_,1,h1,1,_,1,_,1,pr (dr3 N.dr (d':=.str x) (d2:=.str y) rfl rfl) #[hx,hy,by omega,hb,hL] λ_ H0 e0 _=>?_];show#[_,1,pr (U5 (d:=.int d) rfl) #[hi1,hi2] λ_ H1 e1 hv=>#[_,hv,xQ ?_]];let e1:=e0.trans e1;show#[_,1,n,c.JQ,dx,_,_,1,e1 _ _ h1,O.cn,O.ft,1,dt,ķ,1,e1 _ _ hd,_,_,2,_,1,og (λz=>?_) (λ_=>?_)]
  ·let:=Fq z;omega
  show#[_,1,n,c.JQ,dx,_,_,1,e1 _ _ h1,O.cn,O.fn,1,?_];show#[_,1,_,1,_,1,_,1,(by change 4<=sizeLine;decide),λtp H2 e2 h02 U0=>?_];let Pp:=e1.trans e2;let hv:cQ ķ (Sum.inl S.next)=none:=by
   cases hs:cQ ķ (Sum.inl S.next) with
   | none=>rfl
   | some v=>
    let:=(jP<|Paired.Lg hp λ_ _ gR=>(by let#[a,b]:=gR;show#[a,b.dr]))
    let h2:=(Jj.val (y:=.inl S.next) this.1 this.2).1;rw[h2 (Option.not_isSome_iff_eq_none.mp λz=>by rw[X1,He]at z;let#[t,ht,et]:=F8.mp z;let:=a3N t ht;omega)]at hs
    cases hs
  let nnt:=cP h1 hd λz=>nomatch z;show#[_,1,n,c.JQ,dx,_,_,1,Pp _ _ h1,O.cn,O.ft,1,_,1,dt,_,1,Py.k (k:=Sum.inl S.next) (Pp _ _ hd) (by change ķ.length<2 ^ 24;omega),?_];rw[gU _ hv];show#[_,1,_,_,2,_,1,n,c.JQ,dx,_,1,by rw[a8 nnt];show Pp _ _ h1,O.cn,O.fn,(by change 3<1000;decide),?_];let b2:EU n dt H (upd (upd H2 dt<|.dK (ķ++[(Sum.inl S.next,.ref tp)])) n<|.ins c.JQ dx [("kept_posts",.ref dp),("kept_ties",.ref dt),("next_number",.int<|S.next+1)]):=λa o na nd ha=>by rw[a8 na,a8 nd];show Pp _ _ ha
  show#[_,1,q5 _ b2 ?_];let#[_,#[kp,h2,p2],_,h4]:=N;let Rk:∀ {v:V}{q:Str×Kd},KG c H v q->v≠.ref n->KG c _ v q:=λ{v q} gR Sg=>by let#[b,dxb,eb,hb]:=gR;show#[b,dxb,eb,b2 b _ (λz=>Sg<|by rw[eb,z]) (cP hb hd λz=>nomatch z) hb]
  let SV:∀ {v:V}{t:JM},Mg H v t->Mg _ v t:=λ{v t} gR=>by let#[b,eb,hb]:=gR;show#[b,eb,b2 b _ (cP hb h1 λz=>nomatch z) (cP hb hd λz=>nomatch z) hb]
  let ntp:=(ao (e1 _ _ h1) h02).symm;let ntd:=(ao (e1 _ _ hd) h02).symm;show#[#[dx,af],#[kp,b2 dp _ (cP h2 h1 λz=>nomatch z) h4 h2,Paired.Lg p2 fun kv p ⟨a1,a2⟩=>#[a1,Rk a2 ?_]],#[ķ++[(Sum.inl S.next,.ref tp)],by rw[a8 nnt.symm];show af,Paired.NO (Paired.Lg hp λ_ _ gR=>(by let#[a1,a2]:=gR;show#[a1,SV a2])) #[1,tp,1,?_]],h4]
  ·let#[b,dxb,eb,OP]:=a2;rintro z;rw[z]at eb
   cases eb;rw[h1]at OP;injection OP with OP;injection OP with _ _ OP
   cases OP
  ·rw[a8 ntp,a8 ntd];show U0
theorem bu {α:Type}(kf:α->Key)(nm:List α)(as:υ):ξ:=(nm.zip as).map λp=>(kf p.1,V.ref p.2)
def mX [DecidableEq α](kj):∀ (nm:List α)(as:υ),nm.Nodup->as.Nodup->nm.length=as.length->∃ LA:α->Addr,(∀ x∈nm,cQ (bu kf nm as) (kf x)=!.ref (LA x)/\LA x∈as)/\(∀ x∈nm,∀ y∈nm,LA x=LA y->x=y)/\as=nm.map LA:=by
 intro nm
 induction nm with
 | nil=>
  intro as _ _ hl
  cases as with
  | nil=>show#[λ_=>0,(λx hx=>nomatch hx),(λx hx=>nomatch hx),1]
  | cons _ _=>cases hl
 | cons x nm ih=>
  intro as h1 h2 hl
  cases as with
  | nil=>cases hl
  | cons a as=>
   let#[n1,n2]:=FM.mp h1;let#[a1,a2]:=FM.mp h2;let#[LA,l1,l2,l3]:=ih as n2 a2 Ľ;let ne:∀ y∈nm,y≠x:=λy hy e=>n1<|e▸hy;show⟨λy=>if y=x then a else LA y,λy hy=>?_,λy hy z hz e=>?_,?_⟩
   ·rcases Fv.mp hy with rfl|hy
    ·simp only[if_pos rfl];show#[mL rfl,Fw ..]
    ·simp only[if_neg<|ne y hy];show⟨?_,Fp _ (l1 y hy).2⟩;rw[show bu kf (x::nm) (a::as)=(kf x,V.ref a)::bu kf nm as from rfl,mM λz=>ne y hy (kj _ _ z).symm];show (l1 y hy).1
   ·grind
   ·simp_all
def kK:∀ (a b:ξ),((a++b).map (·.1)).Nodup->b6 a b=a++b:=by
 intro a b
 induction b generalizing a with
 | nil=>intro _;rw[Ft];rfl
 | cons k b ih=>
  intro h;let hk:cQ a k.1=none:=by
   grind [cQ]
  change b6 (dH a k.1 k.2) b=_
  simp_all [gU]
def mY {kf:α->Key}(kj)(h:nm.Nodup)(hl:nm.length<=as.length):b6 [] (bu kf nm as)=bu kf nm as:=by
 rw[kK [] _ ?_]
 ·rfl
 ·rw[Gm];unfold bu;rw[F9];let e:((λx:Key×V=>x.1) ∘ λp:α×Addr=>(kf p.1,V.ref p.2))=kf ∘ _:=rfl;rw[e,<- F9];let hs:((nm.zip as).map (·.1)).Nodup:=by rw[List.map_fst_zip hl];show h
  show HG _ (λa b UA e=>UA<|kj _ _ e) hs
def wU (ts:List JM)(t:JM)(x):gu (ts++[t]) x=gu ts x++(if t.2.1=x\/t.2.2.1=x then [t] else []):=by
 unfold gu
 grind
def mZ:∀ nm:List α,bu kf nm (nm.map LA)=nm.map λx=>(kf x,V.ref (LA x)):=by
 intro r'
 induction r' with
 | nil=>
  show rfl
 | cons x nm ih'=>
  show congrArg ((kf x,V.ref<|LA x)::·) (ih')
def ju:∀ {nm:η}{vs:π},Jj G (nm.map .str) vs->vs=nm.map V.str
 | [],_,h=>h
 | _::_,_,⟨_,_,e,h1,h2⟩=>by rw[e,ju h2,show _=V.str _ from h1];rfl
def rK:∀ {ts:List JM}{vs:π},Jj G (ts.map bV) vs->Paired (Mg G) vs ts:=by
 intro r'
 induction r' with
 | nil=>
  intro _ h
  cases h;show .nil
 | cons _ _ ih'=>
  intro _ y1';let#[_,_,e,h1,h2]:=y1';subst e;let#[a,vs,1,h,_,_,2,_,_,2,_,_,2,_,_,3]:=h1;show .cons #[a,1,h] (ih' h2)
def yj:∀ {ts:List JM}{vs:π},Paired (Mg G) vs ts->Jj G (ts.map bV) vs:=by
 intro ts vs h
 induction h with
 | nil=>rfl
 | cons a r ih=>show#[_,_,1,a.dr,ih]
def iA:∀ {l:List α},(∀ x∈l,DR G (g x) (h x))->Jj G (l.map g) (l.map h):=by
 intro r'
 induction r' with
 | nil=>
  intro _;show rfl
 | cons _ _ ih'=>
  intro k;show #[_,_,1,k _ Fw,ih' λx hx=>k x<|Fp _ hx]
def MA:ax ["names","ties","touching","tie"] ["names","ties"] (aa (top 71)):=Nd
def lO [Bx:Bd](T:Dr Bx.mg):Tk 1 "ties_by_post" (top 71) ["names","ties"] (Pr fA):=by
 intro f fd F;show F.ok MA (λvs H Q E gR=>(by let#[_,_,_,_,hl,hR,_]:=gR;cases hR;show hl.length)) (λJ7 A outer s H vs Q E hr h=>?_)
 ·obtain⟨G,_,_,sF,hl,@⟨nm,ts,Vq,hz,htz,hE,Sg⟩,q⟩:=h;let#[_,_,1,#[ln,vs1,1,a3S,U3],_,_,1,#[l,xs,1,hx0,Q0],1]:=hl;let XS:H ln=!(.lst<|nm.map V.str):=by rw[<- ju U3];show sF _ _ a3S
  let hx:=sF _ _ hx0;let hp:=rK Q0;let ND:=MA.nd;let Uu:=Paired.length hp;show#[_,(ai (pS 2 ND (du (cu rfl) rfl T.L' boot_dict (a9 (eL rfl (cS 1 [] ["name"]) (sw Bx.K<|pv 0)
  ė
  (λ_ _ _ _ _=>N3)
  (λ_ _ _ _ _=>eJ<|a9 (pv 0) (a9 (eK IZ) IZ))) IZ)))
 (ai (bW Fe rfl (sw Bx.K<|pv 1) (pN 3 ND)
  (ai (aF<|P2 Bx.K Fs FA Fy aH (pD (aK hr) (pv 2)<|pI (WK Bx.K) (pv 3) bf) (a9 (pv 3) IZ))
 (aq<|aF (P2 Bx.K Fs FA Fy aH (pD (aK hr) (pv 2)<|pI (WK Bx.K) (pv 3) bf)<|a9 (pv 3) IZ))))
 (aq<|bO (pv 2)))),?_]
  show#[_,1,ln,1,#[_,Jq.of XS],r8 (λlc i H1=>H lc=none/\f' H H1/\∃ as:υ,as.length=i/\as.Nodup/\(∀ a∈as,H1 a=!.lst []/\H a=none/\a≠lc)/\∃ vs,H1 lc=!.lst vs/\Paired (λv (kv:Key×V)=>∃ t,v=.ref t/\H1 t=!.tup [kV kv.1,kv.2]) vs (bu (Sum.inr:Str->Key) (nm.take i) as))
   (λlc QQ=>#[QQ,aQ Ĩ QQ,[],1,Hg,(λa ha=>nomatch ha),[],af,.nil]) (λlc i H1 _ h=>Jq.of<|h.2.1 _ _ XS) (λlc i v H1 ev h=>?_) (λlc H1 h=>?_)]
  ·let#[QQ,e1,as,Sk,Y2,has,vs,Ph,T7]:=h;obtain⟨x,ex,rfl⟩:∃ x,nm[i]?=!x/\v=.str x:=by
    rw[Fb]at ev
    cases hm:nm[i]? with
    | none=>rw[hm]at ev;cases ev
    | some m=>rw[hm]at ev;show#[m,1,by simpa using ev.symm]
   let hi:=(EY.mp ex).1;dsimp only[wV];rw[if_pos rfl];show#[_,1,(by change 0<=sizeLine;decide),λa H2 e2 h2 ha=>#[(by change 2<=sizeLine;decide),λt H3 e3 h3 ht=>?_]];let hvl:=Paired.length T7;let T4:(bu (Sum.inr:Str->Key) (nm.take i) as).length=i:=by unfold bu;rw[EV,GO,Fh,Sk];omega
   let alc:a≠lc:=λz=>by rw[z,Ph]at h2;cases h2
   let tlc:t≠lc:=λz=>by rw[z,e2 _ _ Ph]at h3;cases h3
   show#[vs,e3 _ _<|e2 _ _ Ph,by rw[hvl,T4];change i<2 ^ 24;omega,QQ,aY Ž QQ,as++[a],by rw[Fj,Sk];rfl,?_,λb hb=>?_,vs++[.ref t],af,?_]
   ·show FE.mpr #[Y2,by simp,λb hb b' OP e=>?_];rw[Fr.mp OP]at e;rw[e]at hb;let:=(has a hb).1;rw[h2]at this
    cases this
   ·rcases FC.mp hb with hb|hb
    ·let#[b1,b2,b3]:=has b hb;show#[by rw[a8 b3];show e3 _ _<|e2 _ _ b1,b2,b3]
    ·rw[Fr.mp hb];show#[by rw[a8 alc];show e3 _ _ ha,e1.free h2,alc]
   ·let tk:nm.take (i+1)=nm.take i++[x]:=by rw[Gy,ex];rfl
    let er:bu (Sum.inr:Str->Key) (nm.take<|i+1) (as++[a])=bu (Sum.inr:Str->Key) (nm.take i) as++[(Sum.inr x,.ref a)]:=by unfold bu;rw[tk,List.zip_append (by rw[Fh,Sk];omega),Fa];rfl
    rw[er];show Paired.NO (Paired.imp' (fun v kv ⟨t',e',PF⟩=>#[t',e',?_]) T7) #[t,1,by rw[a8 tlc];show ht];let:=e3 _ _<|e2 _ _ PF;rw[a8 (λz=>by rw[z,e3 _ _<|e2 _ _ Ph]at this;cases this)];show this
  ·let#[QQ,e1,as,Sk,Y2,has,vs,Ph,T7]:=h;rw[EV]at Sk T7;rw[FF]at T7;let T4:(bu (Sum.inr:Str->Key) nm as).length<=1000:=by unfold bu;rw[EV,GO,Sk];omega
   show#[lc,_,1,#[vs,Ph,T7],T4,λd H2 e2 h2 hd=>?_];rw[mY (λ_ _=>Sum.inr.inj) Vq<|by omega]at hd;let#[LA,Uq,Zk,la3]:=mX (λ_ _=>Sum.inr.inj) nm as Vq Y2 Sk.symm;let ek:bu (Sum.inr:Str->Key) nm as=nm.map λx=>(.inr x,V.ref<|LA x):=la3▸mZ nm;generalize bu (Sum.inr:Str->Key) nm as=ķ at Uq hd ek;let Pq:=e1.trans e2;let dN:∀ x∈nm,LA x≠d:=λx hx z=>by
    let:=(has _ (Uq x hx).2).1;rw[z,h2]at this
    cases this
   let lN:=λx hx=>(has _ (Uq x hx).2).2.1;show#[_,1,l,1,#[_,Jq.of<|Pq _ _ hx],?_];show fQ (λj σ H3=>(∃ o,σ=[some<|.ref ln,some<|.ref l,some<|.ref d,o])/\f' H H3/\H3 d=!.dK ķ/\∀ x∈nm,∃ us,H3 (LA x)=!.lst us/\Paired (Mg G) us (gu (ts.take j) x))
    #[#[_,1],Pq,hd,λx hx=>#[[],e2 _ _ (has _ (Uq x hx).2).1,.nil]] (λj σ H3 _ h=>Jq.of<|h.2.1 _ _ hx) ?_ ?_
   ·rintro j v σ H3 ev ⟨⟨o,rfl⟩,e3,Y1,hT⟩;let#[t,et,p,1,hpt]:=Paired.at hp ev;let htm:=F6 et;let#[m1,m2]:=hE t htm;let tk:ts.take (j+1)=ts.take j++[t]:=by rw[Gy,et];rfl
    let n12:LA t.2.1≠LA t.2.2.1:=λz=>Sg t htm<|Zk _ m1 _ m2 z;let hp3:=e3 _ _<|sF _ _ hpt;let#[ys,hy,Vo]:=hT _ m1;let#[zs,hz3,hpz]:=hT _ m2;let hyl:ys.length<=1000:=by rw[Paired.length Vo];show Fo (FB _ _) (Fo (by rw[Fh];omega) htz)
    let hzl:zs.length<=1000:=by rw[Paired.length hpz];show Fo (FB _ _) (Fo (by rw[Fh];omega) htz)
    show#[_,1,_,1,p,_,(1),_,2,LQ.of hp3,1,d,.ref<|LA t.2.1,1,(by rw[<- (Uq _ m1).1];show Nl.k (k:=Sum.inr t.2.1) Y1),.inl #[1,_,Jq.of hy],_,1,LA t.2.1,_,_,2,hy,by change ys.length<2 ^ 24;omega,?_];let e4:f' H (upd H3 (LA t.2.1)<|.lst (ys++[.ref p])):=aY e3<|lN _ m1;let hd4:upd H3 (LA t.2.1) (.lst<|ys++[.ref p]) d=!.dK ķ:=by rw[a8 (dN _ m1).symm];show Y1
    let hz4:upd H3 (LA t.2.1) (.lst<|ys++[.ref p]) (LA t.2.2.1)=!.lst zs:=by rw[a8 n12.symm];show hz3
    let hp4:=e4 _ _<|sF _ _ hpt;show#[_,1,_,1,p,_,(2),_,2,LQ.of hp4,1,d,.ref<|LA t.2.2.1,1,(by rw[<- (Uq _ m2).1];show Nl.k (k:=Sum.inr t.2.2.1) hd4),.inl #[1,_,Jq.of hz4],_,1,LA t.2.2.1,_,_,2,hz4,by change zs.length<2 ^ 24;omega,?_];show#[#[_,1],aY e4<|lN _ m2,by rw[a8 (dN _ m2).symm];show hd4,λx hx=>?_];rw[tk,wU];by_cases h1:t.2.1=x
    ·rw[if_pos<|.inl h1];subst h1;show#[ys++[.ref p],by rw[a8 n12,af],?_];show Paired.NO Vo #[p,1,hpt]
    ·by_cases h2:t.2.2.1=x
     ·rw[if_pos<|.inr h2];subst h2;show#[zs++[.ref p],af,?_];show Paired.NO hpz #[p,1,hpt]
     ·rw[if_neg (by rintro (z|z);show h1 z;show h2 z),Ft];let#[us,hu,hpu]:=hT x hx;show⟨us,?_,hpu⟩;rw[a8 λz=>h2 (Zk _ hx _ m2 z).symm,a8 λz=>h1 (Zk _ hx _ m1 z).symm];show hu
   ·rintro σ H3 ⟨⟨o,rfl⟩,e3,Y1,hT⟩;rw[Uu,FF]at hT;show#[_,1,q _ H3 e3 #[d,ķ,1,.inl (by rw[aA<|e1.free h2];show Y1),by rw[ek,F9,F9];rfl,?_]];rw[ek,F9,F9];show iA λx hx=>?_;let#[us,hu,hpu]:=hT x hx;show#[LA x,us,1,by rw[aA<|lN x hx];show hu,Jj.mono (aj sF) _ _<|yj hpu]
def vi:∀ {xs ys:η},xs.Nodup->(∀ x∈xs,x∈ys)->xs.length<=ys.length:=by
 intro r'
 induction r' with
 | nil=>
  intro ys _ _;show FR _
 | cons x xs ih'=>
  intro ys nd h;let nd:=FM.mp nd;let hx:=h x Ğ;let:=ih' (ys:=ys.erase x) nd.2 λy hy=>(Iz (λz:y=x=>nd.1 (by rw[<- z];show hy))).mpr (h y<|by simp[hy])
  grind
theorem bJ (bs):Nat->η
 | 0=>[]
 | k+1=>bJ bs k++[(bG bs (bJ bs k)).getD ""]
structure Be (bs:List (Str×η)):Prop where
 nd:(bs.map (·.1)).Nodup
 ends:∀ b∈bs,∀ y∈b.2,y∈bs.map (·.1)
 rk:∃ rank:Str->Nat,∀ b∈bs,∀ y∈b.2,rank y<rank b.1
def fW (A:Be bs)(Ml:ts.length<bs.length):∃ x,bG bs ts=!x/\x∈bs.map (·.1)/\x∉ts:=by
 let#[rank,hrk]:=A.rk;let one:∃ b∈bs,b.1∉ts:=by
  by_cases h:∃ b∈bs,b.1∉ts
  ·show h
  ·let hs:∀ x∈bs.map (·.1),x∈ts:=λx hx=>by
    let#[b,hb,1]:=F8.mp hx;by_cases hh:b.1∈ts
    ·show hh
    ·show absurd #[b,hb,hh] h
   let:=vi A.nd hs;rw[EV]at this
   lia
 let key:∀ n,∀ b∈bs,b.1∉ts->rank b.1=n->∃ b'∈bs,gQ ts b'=true:=by
  intro n
  induction n using Nat.strongRecOn with
  | ind n ih=>
   intro b hb hbt hn;by_cases QT:∀ y∈b.2,y∈ts
   ·show#[b,hb,?_];unfold gQ
    simp_all
   ·let#[y,hy]:=Classical.not_forall.mp QT;let#[hy1,hy2]:=Classical.not_imp.mp hy;let#[b',OP,e']:=F8.mp<|A.ends b hb y hy1;show ih _ (by rw[<- hn];show hrk b hb y hy1) b' OP (by rw[e'];show hy2) (by rw[e'])
 let#[b,hb,hbt]:=one;let#[b',OP,T5]:=key _ b hb hbt rfl
 cases hf:bs.find? _ with
 | none=>show absurd T5 (by let:=Gq.mp hf b' OP;simpa using this)
 | some c=>
  let hc:=GH hf;show#[c.1,by unfold bG;rw[hf];rfl,Fd<|FT hf,λz=>?_];unfold gQ at hc
  simp_all
def nv (A:Be bs):∀ k,k<=bs.length->(bJ bs k).Nodup/\(bJ bs k).length=k:=by
 intro r'
 induction r' with
 | zero=>
  intro _;show #[Hg,1]
 | succ k ih'=>
  intro h;let#[h1,h2]:=ih' #[];let#[x,e,hx,hn]:=fW A (ts:=bJ bs k) #[];show#[?_,by simp[bJ,h2]];change (bJ bs k++[(bG bs<|bJ bs k).getD ""]).Nodup;rw[e,FE]
  grind
theorem cY (ts:List JM)(x):η:=(ts.filter λt=>decide (t.2.2.1=x)).map (·.2.1)
theorem bx (S:NS):List (Str×η):=S.names.map λx=>(x,cY S.J0 x)
def wD (ts:List JM)(t:JM)(x):cY (ts++[t]) x=cY ts x++(if t.2.2.1=x then [t.2.1] else []):=by
 unfold cY;congr 1;by_cases h:t.2.2.1=x
 ·simp[h]
 ·simp[h]
def oO (ts:List JM)(x):(cY ts x).length<=ts.length:=by unfold cY;rw[EV];show FB _ _
def sy (A:Be bs):∀ k,k<=bs.length->∀ x,x∈bJ bs k->x∈bs.map (·.1):=by
 intro r'
 induction r' with
 | zero=>
  intro _ x h;show (FZ h).elim
 | succ k ih'=>
  intro hk x h;let#[y,ey,hy,_]:=fW A (ts:=bJ bs k) (by rw[(nv A k<|by lia).2];lia);unfold bJ at h;rcases FC.mp h with h|h
  ·show ih' #[] x h
  ·grind
def xH (h:¬ k∈cs.map (·.1)):bL cs k=none:=by unfold bL;let:(cs.find? λx=>decide (x.1=k))=none:=Gq.mpr λx hx z=>h<|Fq z▸Fd hx;rw[this];rfl
def n8:∀ {ř:List b5},(ř.map (·.1)).Nodup->∀ r∈ř,gP ř r.1=!r:=by
 intro r'
 induction r' with
 | nil=>
  intro _ _ h;show (FZ h).elim
 | cons x ws ih'=>
  intro nd r h;unfold gP;rw[Fk,FM]at nd;rcases Fv.mp h with rfl|h
  ·simp_all
  ·let ne:¬ x.1=r.1:=λz=>nd.1<|z▸Fd h;rw[Gs,F5 ne];show ih' nd.2 r h
theorem ag (S:NS):List Kw:=Ja S Ů
def nW (ds:Cs)(h:k∈cs.map (·.1)):bL (cs++ds) k=bL cs k:=by grind [kL,bL,List.find?_append]
def xJ (h:¬ k∈cs.map (·.1)):bL (cs++[(k,n)]) k=!n:=by
 let hn:=xH h;unfold bL at hn ⊢;rw[Ih]
 cases hf:cs.find? (λx=>decide (x.1=k)) with
 | some x=>simp_all
 | none=>
  simp_all
def vQ (ds:Cs):∀ {mo:Λ},(∀ ks,mo=!ks->∀ k∈ks,k∈cs.map (·.1))->inc msg (cs++ds) mo=inc msg cs mo
 | none,_=>rfl
 | some ks,h=>FG λk hk=>by rw[nW ds<|h ks rfl k hk]
def lD (F:DB ms):∀ i,i<=ms.length->∀ m∈ms.take i,bL (bM p ř msg fo (ms.take i) []) m.1=!gA p ř msg fo (bM p ř msg fo (ms.take i) []) m
 | 0,_,_,h=>by rw[HH]at h;show (FZ h).elim
 | i+1,hi,m,h=>by
  let ih:=lD (p:=p) (ř:=ř) (msg:=msg) (fo:=fo) F i #[];let Ml:i<ms.length:=#[]
  obtain⟨r,er⟩:∃ r,ms[i]?=!r:=#[_,EW Ml]
  let tk:ms.take (i+1)=ms.take i++[r]:=by rw[Gy,er];rfl
  let ck:=fR p ř msg fo (ms.take i) [];rw[GE,Gm]at ck;let nd:=F.nd;rw[<- Ge (i+1) ms,Fa]at nd;let nd:=(FE.mp nd).1;rw[tk,Fa]at nd;let fr:¬ r.1∈(bM p ř msg fo (ms.take i) []).map (·.1):=λz=>by rw[ck]at z;show (FE.mp nd).2.2 _ z _ Ğ rfl
  rw[tk]at h ⊢;rw[jd];rcases FC.mp h with h|h
  ·let mk:m.1∈(bM p ř msg fo (ms.take i) []).map (·.1):=by rw[ck];show Fd h
   rw[nW _ mk,ih m h];unfold gA;rw[vQ];intro ks WW k hk;rw[ck];let#[j,hj,ej]:=GZ h;rw[Fh]at hj;let ej':ms[j]?=!m:=by rw[IV]at ej;rw[EW<|by lia,ej]
   let:=(F.ahead j m ks ej' WW).2 k hk;let#[y,hy,e]:=F8.mp this;show F8.mpr #[y,(List.take_sublist_take_left<|by lia).subset hy,e]
  ·rw[Fr.mp h,xJ fr];unfold gA;rw[vQ];intro ks WW k hk;rw[ck];show (F.ahead i r ks er WW).2 k hk
def CU (F:DB ms)(h:m∈ms):bL (bM p ř msg fo ms []) m.1=!gA p ř msg fo (bM p ř msg fo ms []) m:=by let:=lD (p:=p) (ř:=ř) (msg:=msg) (fo:=fo) F ms.length<|Fg _;rw[FF]at this;show this m h
def nA (A:Be bs):∀ k,k<=bs.length->∀ (i:Nat) x,(bJ bs k)[i]?=!x->∃ b∈bs,b.1=x/\∀ y∈b.2,y∈(bJ bs k).take i:=by
 intro r'
 induction r' with
 | zero=>
  intro _ i x h;simp[bJ]at h
 | succ k ih'=>
  intro hk i x h;let hl:=(nv A k<|by lia).2;unfold bJ at h ⊢;by_cases c:i<(bJ bs k).length
  ·rw[FP c]at h;let#[b,hb,e,hy]:=ih' #[] i x h;show#[b,hb,e,λy yy=>by rw[Ix<|by lia];show hy y yy]
  ·rw[FQ<|by lia]at h;let ei:i=(bJ bs k).length:=by
    by_cases c2:i - (bJ bs k).length=0
    ·lia
    ·simp_all
   subst ei;rw[Nat.sub_self]at h;let#[z,ez,_,_]:=fW A (ts:=bJ bs k) #[];rw[ez]at h;let h:z=x:=by simpa using h
   subst h;unfold bG at ez;let#[b,hf,hb]:=FI.mp ez;show#[b,FT hf,hb,λy hy=>?_];rw[Ix<|Fg _,FF];let hr:=GH hf
   simp_all [gQ,GK,GI]
def zc (f:α->List β):∀ (ns:List α)(i:Nat)(m:β),(ns.flatMap f)[i]?=!m->∃ j x,ns[j]?=!x/\m∈f x/\∀ m'∈(ns.take j).flatMap f,m'∈(ns.flatMap f).take i:=by
 intro r'
 induction r' with
 | nil=>
  intro i m h;simp at h
 | cons a ns ih'=>
  intro i m h;rw[GX]at h ⊢;by_cases c:i<(f a).length
  ·rw[FP c]at h;show#[(0),a,1,F6 h,λm' hm=>by simp at hm]
  ·rw[FQ<|by lia]at h;let#[j,x,hj,hm,k]:=ih' _ m h;show⟨j+1,x,hj,hm,λm' XR=>?_⟩;rw[List.take_append,GL<|by lia];rw[List.take_succ_cons,GX]at XR;rcases FC.mp XR with z|z
   ·simp_all
   ·show FH _ (k m' z)
def bD {xs:List α}(nd:xs.Nodup){i:Nat}{x:α}(h1:xs[i]?=!x)(h2:xs[j]?=!x):i=j:=by let#[hi,e1]:=EY.mp h1;let#[hj,e2]:=EY.mp h2;show (List.getElem_inj nd).mp (e1.trans e2.symm)
abbrev LT:=Int×Str×Str
theorem cF (R)(x):Ξ:=(R.filter λr=>decide (r.2.2=x)).map (·.1)
structure LN (S:NS) (ord:η) (R:List LT):Prop where
 Wj:S.names.Nodup
 nin:∀ x∈S.names,x∈ord
 nd:ord.Nodup
 zero:ord[0]?=!("h":Str)
 J0:S.J0.map (λt=>(t.1,t.2.1,t.2.2.1))=R
 mem:∀ r∈R,r.2.1∈S.names/\r.2.2∈S.names
 ok:∀ r∈R,∃ u v:Nat,u<v/\ord[u]?=!r.2.1/\ord[v]?=!r.2.2
 asc:(R.map (·.1)).Pairwise (·<·)
 len:ord.length<=20
 RK:R.length<=40
section
variable {S:NS}{ord:η}{R:List LT}
def LN.RG (h:LN S ord R)(ht:t∈S.J0):∃ u v:Nat,u<v/\ord[u]?=!t.2.1/\ord[v]?=!t.2.2.1:=h.ok _ (h.J0▸Fd ht)
def LN.Ub (h:LN S ord R)(ht:t∈S.J0):t.2.1∈S.names/\t.2.2.1∈S.names:=h.mem _ (h.J0▸Fd ht)
def LN.Q6 (h:LN S ord R):(bx S).map (·.1)=S.names:=by unfold bx;rw[F9];show List.map_id _
def LN.ends (h:LN S ord R):∀ t∈S.J0,t.2.2.1∈S.names:=λt ht=>(h.Ub ht).2
def LN.Tv (h:LN S ord R):Be (bx S) where
 nd:=by rw[h.Q6];show h.Wj
 ends:=λb hb y hy=>by rw[h.Q6];let#[x,hx,1]:=F8.mp hb;let#[t,ht,1]:=F8.mp hy;show (h.Ub (Fn.mp ht).1).1
 rk:=by
  show#[λx=>ord.idxOf x,λb hb y hy=>?_];let#[x,hx,1]:=F8.mp hb;let#[t,ht,1]:=F8.mp hy;let#[ht,ZC]:=Fn.mp ht;let ZC:=Fq ZC;let#[u,v,uv,h1,h2]:=h.RG ht;rw[ZC]at h2;let ix:∀ (i:Nat) z,ord[i]?=!z->ord.idxOf z=i:=λi z hz=>by let hl:=List.idxOf_lt_length_of_mem<|F6 hz;show bD h.nd Ħ hz
  change ord.idxOf t.2.1<ord.idxOf x;rw[ix _ _ h1,ix _ _ h2];show uv
def LN.Ja (h:LN S ord R):(ag S).Perm (S.J0.map λt=>(t.1,bq S t.2.1)):=by
 let bl:(bx S).length=S.names.length:=EV _;let#[Z5,a71]:=nv h.Tv S.names.length #[];let a2U:=λx hx=>by let:=sy h.Tv S.names.length #[] x hx;rw[h.Q6]at this;show this
 let fin:∀ t∈S.J0,t.2.1∈bJ _ S.names.length:=λt ht=>by show (Mw.Qi _ _ Z5 a2U<|by lia) _ (h.Ub ht).1
 let e1:ag S=((bJ (bx S) S.names.length).flatMap λx=>S.J0.filter λt=>decide (t.2.1=x)).map λt=>(t.1,bq S t.2.1):=by
  unfold ag K72.Ja NS.Lp;rw[List.map_flatMap];congr 1;funext x
  simp_all
 rw[e1];show (Mw.PH (λt:JM=>t.2.1) _ S.J0 Z5 fin).map _
def LN.keys (h:LN S ord R):((ag S).map (·.1)).Perm (R.map (·.1)):=by let:=h.Ja.map (·.1);rw[F9]at this;rw[<- h.J0,F9];show this
def LN.into (h:LN S ord R)(x):S.into x=cF R x:=by unfold NS.into cF;rw[<- h.J0,List.filter_map,F9];rfl
def LN.Zr (h:LN S ord R)(x):(S.into x).length<=1000:=by
 rw[h.into];unfold cF;rw[EV];let:=FB (λr:LT=>decide (r.2.2=x)) R;let:=h.RK
 lia
def LN.Ka (h:LN S ord R):(ag S).length<64:=by
 let:=h.keys.length_eq;rw[EV,EV]at this;let:=h.RK
 lia
def LN.fits (h:LN S ord R):DB (ag S) where
 Ka:=h.Ka
 nd:=h.keys.nodup_iff.mpr (h.asc.imp λz=>Int.ne_of_lt z)
 ahead:=λi m ks hi hk=>by
  let bl:(bx S).length=S.names.length:=EV _;let#[j,x,hj,hm,up]:=zc _ _ _ _ hi;let#[k0,_,1]:=F8.mp hm;let hk:=hk;let ek:ks=S.into x:=by
   unfold bq at hk
   simp_all
  subst ek;show#[h.Zr x,λk hk=>?_];let#[t,ht0,1]:=F8.mp hk;let#[ht1,ZC]:=Fn.mp ht0;let#[b,hb,e,hy]:=nA h.Tv S.names.length #[] j x hj;let#[x',_,1]:=F8.mp hb;let e:=e;subst e;let:=up _<|Hs.mpr #[_,hy t.2.1<|Fd (Fn.mpr #[ht1,ZC]),F8.mpr #[t.1,Fd<|Fn.mpr #[ht1,EZ rfl],1]];show Fd this
universe e
theorem cC (S:NS)(ho:Option Str)(N m:Nat)(ç):List Δ:=ç.map λks=>S.Jt.map λg=>mI (bp (aW S.J0 !ks) ho g N m)
def wO (ts:List JM)(h g:Str)(N m:Nat):bp ts (!h) g N m=match dZ ts (!h) g N m [] with
  | .inl ks=>.inl ks
  | .inr U=>.inr (gy h g N m<|ts.filter λt=>Lh U t.1):=rfl
def bT {l:List α}{x d:α}(h:l[i]?=!x):l.getD i d=x:=by rw[F7,h];rfl
structure a02 (p:Int) (t:Θ) (v:Ξ) (m:Nat):Prop where
 len:v.length=m
 fit:QC p v
 some:v.filter (λz=>not (decide (z=0)))≠[]
 ker:∀ r∈t,Mx.dot r v % p=0
def DD (W:NI ts x ws y):∀ {Yg:List JM}{t:JM}{Yf:List JM},ws=Yg++t::Yf->NI ts x Yg t.2.1/\t∈ts:=by
 induction W with
 | nil=>intro Yg t Yf e;simp at e
 | @snoc ws t' A ht ih=>
  intro Yg t Yf e;rcases List.eq_nil_or_concat Yf with rfl|⟨ws3,t3,rfl⟩
  ·simp_all
  ·rw[List.concat_eq_append,<- List.cons_append,<- FK]at e;let#[e1,_]:=List.append_inj' e rfl;show ih e1
def mG (W:NI ts x ws y):(ws=[]/\y=x)\/∃ TU t,ws=TU++[t]/\t∈ts/\t.2.2.1=y/\NI ts x TU t.2.1:=by
 cases W with
 | nil=>show .inl #[2]
 | snoc A ht=>show .inr #[_,_,1,ht,1,A]
def Bj (k:∀ t∈ts,t∈ts')(W:NI ts x ws y):NI ts' x ws y:=by
 induction W with
 | nil=>show .nil _
 | snoc A ht ih=>show .snoc ih (k _ ht)
def AL (ts:List JM)(h g:Str):Flow ts (Lh []) h g 0:=by show Flow.none ts h g
structure WN (S:NS) (h:Str) (ord:η) (R:List LT):Prop where
 ln:LN S ord R
 JR:S.JR.map (·.1)=!h
 Ng:h∈S.names
 no:∀ t∈S.J0,t.2.2.1≠h
 pos:∀ t∈S.J0,0<=t.1
def WN.mem (W)(ht:t∈S.J0):(t.1,bq S t.2.1)∈ag S:=W.ln.Ja.mem_iff.mpr (F8.mpr #[t,ht,1])
def WN.one (W)(h1:(k,a)∈ag S)(h2:(k,b)∈ag S):a=b:=by
 let#[i,hi,e1]:=FN.mp h1;let#[j,hj,e2]:=FN.mp h2;let g1:((ag S).map (·.1))[i]?=!k:=by simp_all
 let g2:((ag S).map (·.1))[j]?=!k:=by simp_all
 let:=bD W.ln.fits.nd g1 g2
 simp_all
def WN.Wq (W):bq S h=none:=by unfold bq;rw[if_pos W.JR]
def WN.Up (W)(n:x≠h):bq S x=!S.into x:=by unfold bq;rw[if_neg λz=>n<|Option.some.inj (z.symm.trans W.JR)]
def vO {S:NS}(ht:t∈S.J0):t.1∈S.into t.2.2.1:=by show Fd (Fn.mpr #[ht,EZ rfl])
def WN.sub (W)(hs:∀ t∈ts,t∈S.J0):∀ (n:Nat) {ws:List JM}{y:Str},ws.length=n->NI ts h ws y->∀ {t:JM}{i:Nat},t∈S.J0->t.2.1=y->(ag S)[i]?=!(t.1,bq S t.2.1)->(nums ws).Sublist (((ag S).take i).map (·.1)):=by
 intro r'
 induction r' with
 | zero=>
  intro ws y hn A t i ht ey hi;rw[HX.mp hn];show List.nil_sublist _
 | succ n ih'=>
  intro ws y hn A t i ht ey hi;rcases mG A with⟨rfl,_⟩|⟨TU,t',rfl,PF,e',A'⟩
  ·simp at hn
  ·let nh:t.2.1≠h:=λz=>W.no t' (hs t' PF) (by rw[e',<- ey,z]);let hk:t'.1∈((ag S).take i).map (·.1):=(W.ln.fits.ahead i _ _ hi<|W.Up nh).2 _ (by rw[ey,<- e'];show vO<|hs t' PF);let#[r,hr,er]:=F8.mp hk;let#[j,hj,ej]:=IN.mp hr;let XU:j<(ag S).length:=#[]
   let ejr:(ag S)[j]?=!(t'.1,bq S t'.2.1):=by rw[EW XU,ej];let#[k,mx]:=r;let er:k=t'.1:=er;subst er;let:=W.one (a:=mx) (b:=bq S t'.2.1) (by rw[<- ej];show Gi XU)<|W.mem (hs t' PF);rw[this]
   let ih:=ih' (by simpa using hn) A' (hs t' PF) rfl ejr;let tk:((ag S).take<|j+1).map (·.1)=((ag S).take j).map (·.1)++[t'.1]:=by rw[Gy,ejr,Fa];rfl
   let en:nums (TU++[t'])=nums TU++[t'.1]:=by unfold nums;rw[Fa];rfl
   rw[en];show List.Sublist.trans (List.Sublist.append ih<|List.Sublist.refl _) ?_;rw[<- tk];show List.Sublist.map _ (List.take_sublist_take_left<|by lia)
def WN.whole (W)(hs:∀ t∈ts,t∈S.J0)(A:NI ts h ws y):(nums ws).Sublist ((ag S).map (·.1)):=by
 rcases mG A with⟨rfl,_⟩|⟨TU,t',rfl,PF,e',A'⟩
 ·show List.nil_sublist _
 ·let#[i,hi,ei]:=FN.mp<|W.mem (hs t' PF);let ei:(ag S)[i]?=!(t'.1,bq S t'.2.1):=by rw[EW hi,ei]
  let tk:((ag S).take<|i+1).map (·.1)=((ag S).take i).map (·.1)++[t'.1]:=by rw[Gy,ei,Fa];rfl
  let en:nums (TU++[t'])=nums TU++[t'.1]:=by unfold nums;rw[Fa];rfl
  rw[en];show List.Sublist.trans (List.Sublist.append (W.sub hs _ rfl A' (hs t' PF) rfl ei)<|List.Sublist.refl _) ?_;rw[<- tk];show List.Sublist.map _ (Ib _ _)
def mH (Ng)(O:Su S (!ks) N)(e:bp (aW S.J0 !ks) (!h) g N m=.inr w):
  ∃ Ob:List (List JM),w=Ob.map nums/\Ob.length=m/\(∀ ws∈Ob,NI (aW S.J0 !ks) h ws g)/\w.flatten.Nodup:=by
 rw[wO]at e;let PT:=O.parts;let#[rk,WR,ZN]:=PT.rk;let#[w1,_]:=ug PT.nd O.ends Ng O.hN m [] 0 (AL _ h g) Hg
 cases hw:dZ _ _ g N m [] with
 | inl ks'=>rw[hw]at e;cases e
 | inr U=>
  rw[hw]at e;let F:=(w1 U hw).1;rw[IK]at F;let#[Ob,e1,e2,e3,e4]:=uN PT.nd WR ZN m _ F;let e:=Sum.inr.inj e;rw[<- e,e1];show#[Ob,1,e2,λws Uv=>Bj (λt ht=>(Fn.mp ht).1)<|e3 ws Uv,e4]
def oA:∀ (l:List Δ)(k:Nat),(∀ x∈l,x.length=n)->((l.zipIdx k).flatMap λx=>x.1.map λways=>(x.2,ways)).length=l.length * n:=by
 intro r'
 induction r' with
 | nil=>
  intro _ _;simp
 | cons x l ih'=>
  intro k h;rw[List.zipIdx_cons,GX,Fj,EV,ih' (k+1) λy hy=>h y<|by simp[hy],h x<|by simp,FW,Ia]
  lia
def D1 (he:Jm∈Mk.Jf (cC S ho N m ç)):∃ ks g,ç[Jm.1]?=!ks/\g∈S.Jt/\Jm.2=mI (bp (aW S.J0 !ks) ho g N m):=by let#[#[bl,c],hx,hm]:=Hs.mp he;let hx:=Gr.mp hx;unfold cC at hx;rw[Fb]at hx;let#[ks,hk,1]:=FI.mp hx;let#[ways,hw,1]:=F8.mp hm;let#[g,hg,1]:=F8.mp hw;show#[ks,g,hk,hg,1]
def dm (ht:t∈aW ts !ks):t∈ts/\¬ t.1∈ks:=by let#[h1,h2]:=Fn.mp ht;show#[h1,by simpa using h2]
def cU (Ng)(hO)(he:Jm∈Mk.Jf (cC S (!h) N m ç)):
  ∃ ks g,ç[Jm.1]?=!ks/\g∈S.Jt/\∃ Ob:List (List JM),Jm.2=Ob.map nums/\Ob.length=m/\(∀ ws∈Ob,NI (aW S.J0 !ks) h ws g)/\Jm.2.flatten.Nodup:=by
 let#[ks,g,hk,hg,e]:=D1 he;let#[O,hW]:=hO ks<|F6 hk;let#[w,ew]:=hW g hg;let#[Ob,a,b,c,d]:=mH Ng O ew;rw[ew]at e;let e:=e;show#[ks,g,hk,hg,Ob,e.trans a,b,c,e▸d]
def WN.Tf (W)(hP)(hO)(Ka):
  Mk.Px p m ç (Mk.Jf (cC S (!h) N m ç)) (ag S):=by
 let perm:=W.ln.Ja;let inm:∀ x∈ag S,∃ t∈S.J0,x=_:=λx hx=>by let#[t,ht,e]:=F8.mp<|perm.mem_iff.mp hx;show#[t,ht,e.symm]
 let Ua:(S.J0.map (·.1)).Nodup:=by
  let:=W.ln.fits.nd;let pk:=(perm.map (·.1))
  rw[F9]at pk;show pk.nodup_iff.mp this
 show#[hP,W.ln.fits.nd,λx hx=>?_,λx hx ks e=>?_,λi x ks hi e k hk=>(W.ln.fits.ahead i x ks hi e).2 k hk,λJm he=>?_,λJm he=>?_,λJm he way hw=>?_,λJm he way hw l k r e mx hm w hwm=>?_,λJm he=>?_,λJm he way hw k hk=>?_,?_]
 ·let#[t,ht,1]:=inm x hx;show W.pos t ht
 ·let#[t,ht,1]:=inm x hx;let e:=e;unfold bq at e;split at e
  ·cases e
  ·cases e;show Ua.sublist (List.Sublist.map _ HQ)
 ·let#[ks,g,hk,_]:=cU W.Ng hO he;show (EY.mp hk).1
 ·let#[ks,g,_,_,Ob,e,l,_]:=cU W.Ng hO he;rw[e,EV,l]
 ·let#[ks,g,_,_,Ob,e,_,wk,_]:=cU W.Ng hO he;rw[e]at hw;let#[ws,Uv,1]:=F8.mp hw;show W.whole (λt ht=>(dm ht).1) (wk ws Uv)
 ·let#[ks,g,_,_,Ob,e',_,wk,_]:=cU W.Ng hO he;rw[e']at hw;let#[ws,Uv,1]:=F8.mp hw;let#[Yg,a7u,1,e1,e2]:=List.map_eq_append_iff.mp e;let#[t,Yf,1,e3,e4]:=List.map_eq_cons_iff.mp e2;let#[A,ht]:=DD (wk _ Uv) rfl;let em:=W.one hm<|e3▸W.mem ((dm ht).1);rcases mG A with⟨rfl,eh⟩|⟨TU,t',rfl,PF,et',_⟩
  ·subst e1;rw[em,eh,W.Wq];show Fd (FS.mpr hwm)
  ·subst e1;let nh:=λz=>W.no t' (dm PF).1<|et'.trans z;rw[em,W.Up nh,Fa];rw[List.getLast?_append];rw[<- et'];show vO (dm PF).1
 ·let#[ks,g,_,_,Ob,_,_,_,nd]:=cU W.Ng hO he;show nd
 ·let#[ks,g,Si,_,Ob,e,_,wk,_]:=cU W.Ng hO he;rw[e]at hw;let#[ws,Uv,1]:=F8.mp hw;let#[t,ht,1]:=F8.mp hk;let:=(dm<|(wk ws Uv).sub t ht).2;rw[F7,Si];show this
 ·let:=oA (cC S (!h) N m ç) 0 λx hx=>by let#[ks,_,1]:=F8.mp hx;rw[EV]
  unfold Mk.Jf;rw[this];unfold cC;rw[EV];show Ka
def De (hj:j<m):(eU p ř fo ms m k).getD j 0=(bL (bM p ř (Mx.J3 m j) fo ms []) k).getD 0:=by show bT ?_;unfold eU;rw[Fb,Ha hj];rfl
def cover:∀ (m:Nat)(ps:À),(∀ q,q<m->q∈ps)->m<=ps.length:=by
 intro r'
 induction r' with
 | zero=>
  intro _ _;show FR _
 | succ m ih'=>
  intro ps h;let hm:=h m<|Gv m;let:=ih' (ps.erase m) λq hq=>(Iz<|by lia).mpr (h q<|by lia)
  grind
structure a5a (p:Int) (t:Θ) (m:Nat) (L:Nat):Prop where
 rd:(Mx.JO (red p ő m) m).length=L
 le:L<=m
 un:gr p t m=[] ↔ L=m
def EJ (hP)(S:Mx.Sh p m t):∃ L,a5a p t m L:=by
 let Qz:=((My.Jb p).mp hP).1;let#[ps,a1,a2,a3,_]:=Mx.RR.run #[] (My.PL hP) (Mx.Of #[] S) m;let#[Ul,b1,b2,b3,_]:=Mx.RR.run #[] (My.PL hP) S m;let e1:=Mx.Kn a2;let e2:=Mx.Kn b2;let el:ps.length=Ul.length:=by
  let:=Mx.Qm (p:=p) (bk:=My.bk p) (ř:=Mx.joined t) m<|Fg _;rw[Mx.Qq S]at this
  simp_all
 show#[ps.length,by rw[e1],by rw[el];show b2.Ka,?_];let eu:gr p t m=(List.range m).filter λq=>not (decide (q∈Ul)):=by unfold gr Kc;rw[e2]
 rw[eu,el];constructor
 ·intro h;let:=cover m Ul λq hq=>by
   simp_all
  let:=b2.Ka
  lia
 ·intro h;let:=b2.all h
  simp_all
abbrev rdr (p:Int)(t:Θ)(m:Nat):Θ:=((red p (Mx.joined t) m).take m).map (List.drop m)
structure oW (p:Int) (t R:Θ) (m:Nat):Prop where
 len:R.length=m
 Nm:∀ r∈R,r.length=t.length
 fit:∀ r∈R,QC p r
 ones:∀ i j,i<m->j<m->Mx.dot (R.getD i []) (Mx.col t j) % p=if i=j then 1 else 0
def zT (hP)(S:Mx.Sh p m t)(h:(Mx.JO (red p ő m) m).length=m):oW p t (rdr p t m) m:=by
 let Qz:=((My.Jb p).mp hP).1;let#[ps,a1,a2,a3,a4]:=Mx.RR.run #[] (My.PL hP) (Mx.Of #[] S) m;let e1:=Mx.Kn a2;rw[e1]at h;let hl:(red p ő m).length=t.length:=by rw[a3,Mx.KP]
 let hm:m<=(red p ő m).length:=by let h2:=a2.len;rw[h]at h2;show h2
 let mem:∀ r∈rdr p t m,∃ r0∈red p ő m,r=r0.drop m:=λr hr=>by let#[r0,h0,1]:=F8.mp hr;show#[r0,Iy h0,1]
 show#[by rw[EV,Fh];lia,λr hr=>?_,λr hr=>?_,λi j hi hj=>?_]
 ·let#[r0,h0,1]:=mem r hr;rw[Iq,a2.sh.Nm r0 h0]
  lia
 ·let#[r0,h0,1]:=mem r hr;intro z hz;show a2.sh.fit r0 h0 z (List.mem_of_mem_drop hz)
 ·let:=Mx.RL #[] S a2 (a2.all h) hl a4 i j hi hj;let eg:(rdr p t m).getD i []=((red p ő m).getD i []).drop m:=by
   let Q3:i<(red p ő m).length:=#[]
   show bT ?_;rw[Fb,FX hi,EW Q3,bT<|EW Q3];rfl
  rw[eg];show this
def DQ (hP)(S:Mx.Sh p m t)(h:gr p t m=u::rest):a02 p t (Mx.Jz p (red p t m) (Kc p t m) m u) m:=by
 let Qz:=((My.Jb p).mp hP).1;let#[ps,b1,b2,b3,b4]:=Mx.RR.run #[] (My.PL hP) S m;let e2:Kc p t m=ps:=Mx.Kn b2;let hu:u∈gr p t m:=by rw[h];show Fw
 let#[hu1,hu2]:=Fn.mp hu;let hum:=FS.mp hu1;let ZA:u∉ps:=by rw[e2]at hu2;simpa using hu2
 let#[n1,n2,n3,n4]:=Mx.RN #[] b2 hum ZA;rw[e2];generalize Mx.Jz p _ ps m u=v at n1 n2 n3 n4;show#[n3,n4,λz=>?_,λr hr=>GJ<|(b4 v).mp n1 r hr];let hv:v.getD u 0∈v:=cM #[];let:v.getD u 0∈v.filter (λz=>not (decide (z=0))):=Fn.mpr #[hv,by let n2':v.getD u 0=1:=n2;rw[n2'];rfl]
 grind
def CA (hP)(S:Mx.Sh p m t):(∃ R,dQ p t m=.tup [.str "reads",tb R]/\oW p t R m)\/∃ v,dQ p t m=.tup [.str "alike",rw C7,rw v]/\a02 p t v m:=by
 let#[L,B]:=EJ hP S;unfold dQ uG;by_cases c:(Kc p ő m).length<m
 ·rw[if_pos c];show .inr ?_;unfold mj
  cases hu:gr p t m with
  | nil=>
   let:=B.un.mp hu;let:=B.rd
   lia
  | cons u rest=>show#[_,1,DQ hP S hu]
 ·rw[if_neg c];let:=B.rd;let:=B.le;show .inl #[_,1,zT hP S<|by grind]
def oG {nm:List α}{kf:α->Key}{u:α->D}(sF:f' F H)(hJ:RC F J (nm.map u))(hl:nm.length<=1000)(ht:∀ x∈nm,∀ v H1 (Q:VK),DR H1 (u x) v->(∀ a t H2,f' H1 H2->H1 a=none->H1 t=none->H2 a=!.lst []->H2 t=!.tup [kV (kf x),.ref a]->Q (.ref t) H2)->te (some v::js.map λj=>(σ[j]?).join) H1 Q)(hd:∀ lc H' (as:υ) vs,f' H H'->H lc=none->H' lc=!.lst vs->as.length=nm.length->as.Nodup->(∀ a∈as,H' a=!.lst []/\H a=none)->Paired (λv (kv:Key×V)=>∃ t,v=.ref t/\H' t=!.tup [kV kv.1,kv.2]) vs (bu kf nm as)->G lc H'):gn 1 js (bU 0) wV te σ G J H:=by
 intro lc QQ;show#[λi m σ' H1=>m=nm.length - i/\i<=nm.length/\(∃ o,σ'=o::js.map λj=>(σ[j]?).join)/\f' H H1/\∃ as:υ,as.length=i/\as.Nodup/\(∀ a∈as,H1 a=!.lst []/\H a=none/\a≠lc)/\∃ vs,H1 lc=!.lst vs/\Paired (λv kv=>∃ t,v=.ref t/\H1 t=!.tup [kV kv.1,kv.2]) vs (bu kf (nm.take i) as),#[nm.length,by simp,FR _,#[none,1],aQ Ĩ QQ,[],1,Hg,(λa ha=>nomatch ha),[],af,.nil],?_];rintro i m σ' H1 ⟨rfl,hi,⟨o,rfl⟩,e1,as,Sk,Y2,has,vs,Ph,T7⟩;by_cases c:i<nm.length
 ·let ex:=EW c;let#[go,yl]:=hJ.go H1 i _ (sF.trans e1) (by rw[Fb,ex];rfl);show .inr #[go,λx H2 y=>?_];let#[e2,dx]:=yl x H2 y;show#[λ_=>False,λv H5=>∃ a t,v=.ref t/\f' H2 H5/\H2 a=none/\H2 t=none/\H5 a=!.lst []/\H5 t=!.tup [kV<|kf nm[i],.ref a],λ_ h=>h.elim,λv H5 h=>?_,?_]
  ·let#[a,t,1,e5,ha0,ht0,ha,ht]:=h;let UI:=e2.trans e5;let T4:(bu kf (nm.take i) as).length=i:=by
    unfold bu;rw[EV,GO,Fh,Sk]
    lia
   let alc:=(ao (e2 _ _ Ph) ha0).symm;let tlc:=(ao (e2 _ _ Ph) ht0).symm;show#[vs,UI _ _ Ph,by rw[Paired.length T7,T4];change i<2 ^ 24;lia,_,?_,1,c,#[_,1],aY (e1.trans UI) QQ,as++[a],by rw[Fj,Sk];rfl,?_,λb hb=>?_,vs++[.ref t],af,?_]
   ·lia
   ·show FE.mpr #[Y2,by simp,λb hb b' OP e=>?_];rw[Fr.mp OP]at e;rw[e]at hb;let:=e2 _ _ (has a hb).1;rw[ha0]at this
    cases this
   ·rcases FC.mp hb with hb|hb
    ·let#[b1,b2,b3]:=has b hb;show#[by rw[a8 b3];show UI _ _ b1,b2,b3]
    ·rw[Fr.mp hb];show#[by rw[a8 alc];show ha,(e1.trans e2).free ha0,alc]
   ·let er:bu kf (nm.take<|i+1) (as++[a])=bu kf (nm.take i) as++[(kf nm[i],.ref a)]:=by unfold bu;rw[aR ex,List.zip_append (by rw[Fh,Sk];lia),Fa];rfl
    rw[er];show Paired.NO (Paired.imp' (fun v kv ⟨t',e',PF⟩=>#[t',e',?_]) T7) #[t,1,by rw[a8 tlc];show ht];let:=UI _ _ PF;rw[a8 (λz=>by rw[z,UI _ _ Ph]at this;cases this)];show this
  ·show ht nm[i] (Gi c) x H2 _ (DR.mono (aM (sF.trans e1) e2) _ _ dx) λa t H3 e3 a0 t0 a1 t1=>#[a,t,1,e3,a0,t0,a1,t1]
 ·let ei:i=nm.length:=#[]
  subst ei;rw[FF]at T7;show .inl #[hJ.stop H1 _ (sF.trans e1) (by rw[EV];show Fg _),hd lc H1 as vs e1 QQ Ph Sk Y2 (λa ha=>let ⟨x,y,_⟩:=has a ha;#[x,y]) T7]
def wq [DecidableEq α](kj)(nd:nm.Nodup)(hl:nm.length<=1000)(e)(Ph:H' lc=!.lst vs)(al:as.length=nm.length)(an:as.Nodup)(has:∀ a∈as,H' a=!.lst []/\H a=none)(hp:Paired (λv (kv:Key×V)=>∃ t,v=.ref t/\H' t=!.tup [kV kv.1,kv.2]) vs (bu kf nm as))(q:∀ d H2 (LA:α->Addr),f' H H2->H d=none->H2 d=!.dK (nm.map λx=>(kf x,V.ref (LA x)))->(∀ x∈nm,H2 (LA x)=!.lst []/\H (LA x)=none/\cQ (nm.map λx=>(kf x,V.ref (LA x))) (kf x)=!.ref (LA x))->(∀ x∈nm,∀ y∈nm,LA x=LA y->x=y)->Q (.ref d) H2):∃ p ķ,[V.ref lc]=[.ref p]/\u9 H' p ķ/\ķ.length<=1000/\Lj H' ŵ Q:=by
 let T4:(bu kf nm as).length<=1000:=by
  unfold bu
  simp_all
 show#[lc,_,1,#[vs,Ph,hp],T4,λd H2 e2 h2 hd=>?_];rw[mY kj nd<|by lia]at hd;let#[LA,Uq,Zk,la3]:=mX kj nm as nd an al.symm;let ek:bu kf nm as=nm.map λx=>_:=la3▸mZ nm;rw[ek]at hd Uq;show q d H2 LA (e.trans e2) (e.free h2) hd (λx hx=>let ⟨a,b⟩:=Uq x hx;let #[c,c']:=has _ b;#[e2 _ _ c,c',a]) Zk
theorem Z4 (a:Addr)(o:HO):Hp:=λb=>if b=a then some o else none
def ql (h:H a=!o):f' (Z4 a o) H:=λb u hb=>by
 grind [Z4]
def AX {nm:List α}{kf:α->Key}{u:α->D}{ð:ι}(sF:f' F H1)(p1:Rd F dp (.dK ķ))(p2)(fz:Fz X H1 H2 dp o ķ)(hk:ð.map pK=nm.map u)(hl:nm.length<=1000)(ht:∀ x∈nm,∀ v H1 (Q:VK),DR H1 (u x) v->(∀ a t H2,f' H1 H2->H1 a=none->H1 t=none->H2 a=!.lst []->H2 t=!.tup [kV (kf x),.ref a]->Q (.ref t) H2)->te (some v::js.map λj=>(σ[j]?).join) H1 Q)(hd:∀ lc H' (as:υ) vs,f' H1 H'->H' lc=!.lst vs->as.length=nm.length->as.Nodup->(∀ a∈as,H' a=!.lst []/\H1 a=none)->Paired (λv (kv:Key×V)=>∃ t,v=.ref t/\H' t=!.tup [kV kv.1,kv.2]) vs (bu kf nm as)->Q (.ref lc) H'):gn 1 js (bU 0) wV te σ (λb H'=>Ud X Q (.ref b) H') (Itk o dp) H2:=by
 let#[f1,f2]:=fz;rcases f2 with⟨h1,f2,nf⟩|f2
 ·show oG (ql f1) (hk▸CC (if_pos rfl) p2) hl ht λlc H' as vs e' h0 Ph al an has hp=>.inl #[dp,o,ķ,nf,e' _ _ f1,?_];let nd:∀ {b:Addr},H2 b=none->b≠dp:=λhb=>(ao f1 hb).symm;subst f2;show hd lc _ as vs (zP h1 e') (by rw[a8<|nd h0];show Ph) al an (λa ha=>let ⟨x,y⟩:=has a ha;#[by rw[a8<|nd y];show x,by let:=nd y;rwa [a8 this]at y]) (Paired.imp' (λv kv gR=>(by let#[t,et,ht]:=gR;show#[t,et,by rw[a8 (λz=>by rw[z,e' _ _ f1]at ht;cases ht)];show ht])) hp)
 ·subst f2;show oG (ql f1) (hk▸CC (if_pos rfl) p2) hl ht λlc H' as vs e' h0 Ph al an has hp=>.inr (hd lc H' as vs e' Ph al an has hp)
def Wr (k:Nat)(s)(e:f' H G)(h:Jj Œ l vs)(τ:St)(hσ:σ=vs.map some++τ)(hk:k<=τ.length):Ss F H Œ σ G (l.map .fz++List.replicate k .un):=by
 let hl:=h.length;subst hσ;show#[e,s,aj s,f'.refl _,by simp;omega,λi d q=>?_,λi d q=>?_,λi j c d a n q=>?_]
 ·by_cases c:i<l.length
  ·rw[FP<|by simpa using c,Fb]at q
   cases z:l[i]? with
   | none=>rw[z]at q;cases q
   | some y=>
    rw[z]at q;cases q;let#[v,a,b]:=h.at z;show#[v,by rw[FP<|by simp[hl,c],Fb,a];rfl,b]
  ·rw[FQ<|by simpa using c]at q
   cases (GV<|F6 q)
 all_goals
  rcases FC.mp (F6 q) with z|z
  ·simp_all
  ·cases GV z
def sd1 (s)(h:DR F d v):Sd F (some v::σ) H [!d]:=#[s,by simp,λi e q=>by
 match i,q with
 | 0,q=>simp_all
 | i+1,q=>simp at q]
def qAt (F0 H0:Hp)(h:OL X ss r):Nj X ss (tQ F0 H0 r):=h F0 H0
theorem j0 (S:NS)(ns:η):Prop:=ns=bJ (bx S) S.names.length/\Be (bx S)/\(∀ t∈S.J0,t.2.2.1∈S.names)/\S.J0.length<=900/\S.J'.length<=900
def MG:ax ["self","begins","number","one","other","delay","told"] Ý (aa (ak (top 35) 17)):=Nd
def nM [Bx:Bd](O)(T:Dr Bx.mg)(J8)(M3:JB 1 "first_ready" ["begins","told"] (Pr Li)):Tm 2 "ordered" "Net.ordered" (ak (top 35) 17) Ý (Pr (oV c j0)):=by
 intro f fd F;show F.ok MG (λvs H Q E gR=>(by let#[_,_,_,_,hl,hR,_]:=gR;cases hR;show hl.length)) (λJ7 A outer s H vs Q E hr h=>?_)
 ·obtain⟨G,_,_,sF,hl,@⟨S,ns,hN⟩,q⟩:=h;let#[_,ac,a0f,htz,hpz]:=id hN;let#[1,_]:=hN;let#[v,_,1,hv,1]:=hl;let ND:=MG.nd;let bnm:(bx S).map (·.1)=S.names:=by unfold bx;rw[F9];show List.map_id _
  let Wj:S.names.Nodup:=by rw[<- bnm];show ac.nd
  let nl:S.names.length<=1000:=by unfold NS.names;rw[EV];omega
  let pk:(S.J'.map λp=>((.inr p.1:Key),gx c p)).map pK=S.names.map .str:=by unfold NS.names;rw[F9,F9];rfl
  show#[_,(ai (pS 1 ND (du (cu rfl) rfl T.L' boot_dict (a9 (PE.Ud (eL rfl (cS 1 [] ["name"]) (aw<|QA O.X8 (Đ 0))
  ė
  (λ_ _ _ _ _=>N3)
  (λ_ _ _ _ _=>eJ<|a9 (pv 0) (a9 (eK IZ) IZ))) λ_ _ _ h=>h) IZ)))
   (ai (bW Fe rfl (sw Bx.K<|gk (Đ 0) J8 hr.m) (bX Bx.K rfl<|ae (pN 2 ND) (ae (pN 3 ND)<|ae (pN 4 ND) (ae XV aB)))
  (aq<|aF (P2 Bx.K Fs FA Fy aH (pD (aK hr) (pv 1)<|pv 4)<|a9 (pv 3) IZ)))
   (qAt G H (qC (qo 6 ND<|c9 J4)
 (qC (qW Fe (dT fO cg (cD T.Jo<|Đ 6)<|cD T.Jo (Đ 1))
  (q1<|qA (aF<|P2 Bx.K Fs FA Fy aH (pv 6) (a9 (dF M3 hr.m rfl<|da (Đ 1) (da (Đ 6) J4)) IZ)) (λ_ _ _ h=>h)))
 (qr<|Đ 6)))))),?_]
  show#[λx H1=>f' H H1/\DR (grow G H H1) (BO c S) x,tP.go (sd1 sF hv) #[3] λx H1 e1 _ hx=>#[e1,hx],λx H1 h=>?_];let#[e1,dp,ķ,1,hd,hk,hds]:=h;let sF1:=aM sF e1;show#[dp,1,.inr<|.inr ⟨ķ,hd.mono sF1,λo H2 fz=>?_⟩];show AX sF1 hd hk fz pk nl (λx hx v H1 Q hv q=>#[_,1,(by change 0<=sizeLine;decide),λa H2 e2 h2 ha=>#[(by change 2<=sizeLine;decide),λt H3 e3 h3 ht=>q a t H3 (e2.trans e3) h2 (e2.free h3) (e3 _ _ ha) (by cases hv;show ht)]]) λlc H' as vs e' Ph al an has hp=>wq (λ_ _=>Sum.inr.inj) Wj nl (e1.trans e') Ph al an (λa ha=>let ⟨x,y⟩:=has a ha;#[x,e1.free y]) hp λd H3 LA e3 d0 Y1 RZ inj=>?_;show tP.go (sd1 (sF.trans e3) hv) #[2,by decide,#[by omega]] λx H4 e4 _ hx=>?_;let#[lt,xs,1,Ml,Zy]:=hx;let hp:=rK Zy;let le4:f' (grow G H3 H4) H4:=aM (sF.trans e3) e4;let laN:∀ x∈S.names,grow G H3 H4 (LA x)=none:=λx hx=>by unfold grow;rw[if_neg (by rw[(RZ x hx).1];show nofun)];show sF.free (RZ x hx).2.1
  generalize grow G H3 H4=Γ at *
  show#[lt,1,#[_,Jq.of<|le4 _ _ Ml],fQ (K:=Bx.K) (λj σ Hj=>(∃ o2 o3 o4 o5,σ=[!v,some<|.ref d,o2,o3,o4,o5,none])/\f' H Hj/\f' Γ Hj/\Hj d=!(.dK<|S.names.map λx=>(Sum.inr x,V.ref<|LA x))/\∀ x∈S.names,Hj (LA x)=!(.lst<|(cY (S.J0.take j) x).map V.str)) ⟨⟨_,_,_,_,rfl⟩,e3.trans e4,le4,e4 _ _ Y1,λx hx=>e4 _ _ (RZ x hx).1⟩ (λj σ Hj _ h=>Jq.of<|h.2.2.1 _ _ Ml) ?_ ?_]
  ·rintro j w σ Hj ev ⟨⟨o2,o3,o4,o5,rfl⟩,eH,eΓ,Y0,bj⟩;let#[t,et,b,1,hb]:=Paired.at hp ev;let hy:=a0f t<|F6 et;show#[b,_,1,LQ.of<|eΓ _ _ hb,1,_,_,1,_,_,1,_,_,1,_,[],2,?_];show#[_,1,_,1,d,.ref<|LA t.2.2.1,1,(by rw[<- (RZ _ hy).2.2];show Nl.k (k:=Sum.inr t.2.2.1) Y0),.inl #[1,_,Jq.of<|bj _ hy],_,1,LA t.2.2.1,_,_,2,bj _ hy,?_,#[_,_,_,_,1],aY eH (RZ _ hy).2.1,aY eΓ<|laN _ hy,?_,λx hx=>?_]
   ·let h3:=oO (S.J0.take j) t.2.2.1;rw[Fh]at h3;rw[EV];change (cY (S.J0.take j) t.2.2.1).length<2 ^ 24;omega
   ·rw[a8 (λz=>by rw[z,bj _ hy]at Y0;cases Y0)];show Y0
   ·rw[aR et,wD];by_cases cx:t.2.2.1=x
    ·subst cx;rw[if_pos rfl,af,Fa];rfl
    ·rw[if_neg cx,Ft,a8 λz=>cx (inj _ hx _ hy z).symm];show bj x hx
  ·rintro σ Hj ⟨⟨o2,o3,o4,o5,rfl⟩,eH,eΓ,Y0,bj⟩;rw[Paired.length hp,FF]at bj;let ebs:((bx S).map λb=>((.inr b.1:Key),aI b.2))=S.names.map λx=>(.inr x,aI<|cY S.J0 x):=by unfold bx;rw[F9];rfl
   let bsl:(bx S).length=S.names.length:=by unfold bx;rw[EV]
   show#[grow G H Hj,[.fz<|aD c S,.fz<|tJ (bx S),.un,.un,.un,.un,.un],.rt<|aI Ů,Wr (l:=[aD c S,tJ<|bx S]) 5 sF eH #[_,_,1,hv.mono<|aj sF,_,_,1,#[d,_,1,.inl<|(aA d0).trans Y0,?_,?_],1] [o2,o3,o4,o5,none] rfl<|Fg 5,?_,λx H' e' _ h=>q x H' e' h]
   ·rw[ebs,F9,F9];rfl
   ·rw[ebs,F9,F9];show iA λx hx=>#[LA x,_,1,(aA (RZ x hx).2.1).trans<|bj x hx,by change Jj _ ((cY S.J0 x).map D.str) ((cY S.J0 x).map V.str);show iA λy _=>rfl]
   show .nx #[#[1,by simp,1]] ?_;show eZ (λk ε=>ε=[.fz<|aD c S,.fz<|tJ (bx S),.un,.un,.un,.un,.ow<|aI (bJ (bx S) k)]/\k<=S.names.length) (λk=>S.names.length - k) #[1,FR _] λk ε gR=>?_;let#[he,hk]:=gR;subst he;let#[on,ol]:=nv ac k ġ;let l1:=KQ.m (g:=D.str) (x:=bJ (bx S) k);rw[ol]at l1;let l2:KQ [tJ<|bx S] (.int S.names.length):=by let:=KQ.k (ð:=(bx S).map λb=>((.inr b.1:Key),aI b.2));rwa [EV,bsl]at this
   let rd:=lt_int (ε:=[some<|aD c S,some<|tJ (bx S),none,none,none,none,some<|aI (bJ (bx S) k)]) (ra:=rF KQ<|rA (rV 6) Nq) (rb:=rF KQ<|rA (rV 1) Nq) (i:=k) (j:=S.names.length) #[#[2],l1] #[#[2],l2];by_cases g:k<S.names.length
   ·rw[EZ<|by omega]at rd;let#[x,ex,hx,hn]:=fW ac (ts:=bJ (bx S) k) (by omega);let fr:=Li.mk (bs:=bx S) (ts:=bJ (bx S) k) ac.nd λb hb=>by unfold bx at hb;let#[y,_,1]:=F8.mp hb;show Fo (oO _ _) ġ
    rw[ex]at fr;show .inr #[rd,k+1,_,#[1,by rw[EV,ol];omega,.a #[#[3],fr] rfl],#[?_,g],by omega];change _=[_,_,_,_,_,_,Sl.ow<|aI (bJ (bx S) k++[(bG (bx S)<|bJ (bx S) k).getD ""])]
    rw[ex,show aI (_++[(!x).getD ""])=.lst (List.map D.str _++[.str x]) from congrArg D.lst Fa];rfl
   ·let g:k=S.names.length:=by omega
    rw[F5<|by omega]at rd;show .inl #[rd,1,by rw[g]]
def QI (s):Sd F σ H []:=#[s,FR _,λi d q=>by simp at q]
def Ko (S:Sd F σ H ε):Sd F (o::σ) H (none::ε):=#[S.le,Nat.succ_le_succ S.len,λi d q=>by
 cases i with
 | zero=>cases q
 | succ i=>show S.rd i d q]
def LI (h:DR F d v)(S:Sd F σ H ε):Sd F (some v::σ) H (some d::ε):=#[S.le,Nat.succ_le_succ S.len,λi e q=>by
 cases i with
 | zero=>simp_all
 | succ i=>show S.rd i e q]
def br (h:H a=none):grow F H (upd G a o)=upd Œ a o:=by
 funext b;by_cases c:b=a
 ·subst c;rw[aA h,af,af]
 ·unfold grow;rw[a8 c,a8 c]
def prG (s)(e:f' H G)(hl:Jj Œ l vs)(hR:R l d)(q:∀ x G',f' G G'->DR (grow F H G') d x->Q x G'):Pr R vs G Q E0:=#[_,l,d,aM s e,hl,hR,λx G' e' h=>q x G' e'<|by rwa [ar e e']at h]
def tPG (e:f' H G)(S:Sd Œ σ G ε)(h:r ε d)(q:∀ x G',f' G G'->DR (grow F H G') d x->Q x G'):tP r σ G Q:=tP.go S h λx G' e' _ k=>q x G' e' (by rwa [ar e e']at k)
def AF (e:f' H G)(e':f' G G')(hl:G l=!o):f' (grow (bc l Œ) G G') (bc l (grow F H G')):=λb u hb=>by
 by_cases c:G b=none
 ·rw[aA c]at hb;rw[bv (ao hl c).symm,aA<|e.free c];show hb
 ·rw[show grow _ G G' b=bc l _ b from if_neg c]at hb;show kP (aT e') b u hb
theorem emp:Hp:=λ_=>none
def bZ:f' emp H:=λ_ _ h=>nomatch h
section
variable {C CE f:Addr}
abbrev pG (CE dx d l:Addr):HO:=.ins CE dx [("rows",.ref d),("probes",.ref l)]
inductive iV (CE:Addr) (vs:π) (H:Hp) (Q:VK) (E:XK):Prop
 |mk (x dx d:Addr) (m:Nat):vs=[.ref x,.ref d,.int (m:Int)]->H x=!.ins CE dx []->m<=1000->(∀ l H1,f' (upd H x (.ins CE dx [("rows",.ref d)])) H1->DR (grow emp (upd H x (.ins CE dx [("rows",.ref d)])) H1) (tb (Mx.ones m)) (.ref l)->Q .non (upd H1 x (pG CE dx d l)))->iV CE vs H Q E
def lL:ax ü ü (aa (ak (top 81) 0)):=Nd
def vc [Bx:Bd](T:LV Bx.K Bx.mg CE)(Lc):Tm 3 "__init__" "Ear.__init__" (ak (top 81) 0) ü (iV CE):=by
 intro f fd F;show F.k lL λJ7 A outer s H vs Q E hr h=>?_
 ·let#[x,dx,d,m,1,hx,hm,q]:=h;show#[_,(ai (fY (pv 0) (pv 1) rfl)
 (aq<|fY (pv 0) (aZ Lc hr.m rfl<|a9 (pv 2) IZ) rfl)),?_]
  show#[_,1,_,1,x,CE,dx,_,1,hx,T.cl,T.nR,by decide,?_];show#[_,1,emp,_,_,bZ,U5 (d:=.int m) rfl,#[hm],λl H1 e1 hN=>?_];let#[a,xs,1,hN]:=hN;show#[_,1,x,CE,dx,_,1,e1 _ _ af,T.cl,T.nB,(by change 1<1000;decide),q a H1 e1 #[a,xs,1,hN]]
inductive rS (C CE:Addr) (vs:π) (H:Hp) (Q:VK) (E:XK):Prop
 |mk (F:Hp) (a f d dx l:Addr) (p k:Int) (i:Nat) (B:Θ) (R:Mk.NJ):f' F H->vs=[.ref a,.ref f,.int (i:Int),.int k]->F a=!pG CE dx d l->DR F (av R) (.ref d)->DR F (tb B) (.ref l)->DR F (fD C p) (.ref f)->0<p->p<=1000000->k∈R.map (·.1)->i<B.length->(∀ r∈B,QC p r/\r.length<=1000)->B.length<=1000 ->
  (∀ l' H1,f' H H1->DR (grow F H H1) (tb (Mk.moved p B i A3)) (.ref l')->Q .non (upd H1 a (pG CE dx d l')))->rS C CE vs H Q E
inductive MvI (F H:Hp) (a f ml:Addr) (i:Nat) (k:Int) (ow of:V) (ps:Θ) (j:Nat) (σ:St) (G:Hp):Prop
 |mk (o7 o8 o9:Ç) (ys:π):σ=[!.ref a,!.ref f,!.int (i:Int),!.int k,!ow,!of,!.ref ml,o7,o8,o9]->f' H G->G ml=!.lst ys->Jj (bc ml Œ) ((ps.take j).map rw) ys->MvI F H a f ml i k ow of ps j σ G
def LR:ax ["self","field","way","number","own","often","moved","place","probe","less"] å (aa (ak (top 81) 2)):=Nd
def v9 [Bx:Bd](T:LV Bx.K Bx.mg CE)(Kf)(J2):Tm 5 "move_front" "Ear.move_front" (ak (top 81) 2) å (rS C CE):=by
 intro f fd F;show F.k LR λJ7 A outer s H vs Q E hr h=>?_
 ·let#[F,a,f,d,dx,l,p,k,i,B,R,sF,1,ha,hR,hB,hf,p0,p1,hk,hi,hF,hz,q]:=h;let ND:=LR.nd;let#[l',xs,el,hl,hp]:=id hB
  cases el;let hE:DR F (xX CE R B) (.ref a):=#[a,dx,_,1,ha,1,_,_,1,hR,_,_,1,hB,1]
  let Uu:=hp.length;rw[EV]at Uu;let#[vo,evo,hvo]:=hp.at (d:=rw ū) (by rw[Fb,EW hi,F7,EW hi];rfl)
  let sh:∀ {j:Nat},j<B.length->oU C CE [xX CE R B,fD C p,.int j,.int k] (.int<|Mx.Jh p (B.getD j []) (Mk.lk R k)):=λhj=>#[p0,p1,hk,hj,(hF _<|cM hj).1,(hF _<|cM hj).2]
  let rs:∀ x y:Ξ,0<=Mx.Jh p x y/\Mx.Jh p x y<p:=λx y=>by rw[Mx.JN];show#[G9 _<|by lia,FU _ p0]
  show#[_,(ai (pS 4 ND<|pI (xP Bx.K) C9 (pv 2))
   (ai (pS 5 ND<|OI (Đ 0) Kf hr.m (da (Đ 1)<|da (Đ 2) UF))
   (ai (pS 6 ND<|eK IZ)
   (ai (bW Fe rfl (sx Bx.K rfl T.Ku<|a9 C9 IZ) (bX Bx.K rfl<|ae ZB (ae (pN 8 ND) aB))
    (ai (pS 9 ND<|UO (dT aV bK (Đ 7)<|Đ 2) (dC bf) (OI (Đ 0) Kf hr.m<|da (Đ 1) (da (Đ 7)<|da (Đ 3) J4)))
    (aq (su (pT aV (pv 9) bf)
    (aq<|aF (P2 Bx.K Fs FA Fy aH (pv 6)<|a9 (pv 8) IZ))
    (aq (aF (P2 Bx.K Fs FA Fy aH (pv 6) (a9 (dL 2 rfl (cS 2 [1,5,9] ["mine","theirs","field","often","less"]) (iZ rfl T.Lq<|da (Đ 8) (da (Đ 4) J4))
     į
     (λ_ _ _ _ _=>df0)
     (λ_ _ _ _ _=>OI (Đ 2) J2 hr.m<|da (dO nC cg (dO cA LJ (Đ 3)<|Đ 0)<|dO cA LJ (Đ 4) (Đ 1)) J4)) IZ))))))))
   (aq<|fY (pv 0) (pv 6) rfl))))),?_]
  show#[_,1,a,CE,dx,_,_,1,sF _ _ ha,T.cl,T.nB,1,_,1,l,xs,_,_,2,Jq.of<|sF _ _ hl,iC evo,?_];show tP.go (ε:=[some<|xX CE R B,some<|fD C p,some<|.int i,some<|.int k]) (LI hE<|LI hf (LI rfl<|LI rfl (QI sF))) ⟨rfl,by decide,⟨rfl,rfl,rfl,rfl⟩,sh hi⟩ λx H1 e1 _ hx=>?_
  cases hx;show#[(by change 0<=sizeLine;decide),λml H2 e2 h2 ZZ=>?_];let Pq:=e1.trans e2;let Tb:H ml=none:=e1.free h2;let gF:∀ {G:Hp},f' F (bc ml<|grow F H G):=λ{G} b o hb=>by rw[bv (λz=>by rw[z]at hb;rw[sF _ _ hb]at Tb;cases Tb)];show aj sF _ _ hb
  show#[_,1,a,CE,dx,_,_,1,Pq _ _<|sF _ _ ha,T.cl,T.nB,1,l,xs,1,Pq _ _<|sF _ _ hl,vV (MvI F H a f ml i k vo (.int<|Mx.Jh p ū A3)<|Mk.moved p B i (Mk.lk R k)) ⟨none,none,none,[],rfl,Pq,ZZ,rfl⟩ (λj σ G _ gR=>(by let#[_,_,_,_,_,eG,_,_]:=gR;show Jq.of<|eG _ _ (sF _ _ hl))) ?_ ?_]
  ·rintro j v Tp σ G ev ⟨o7,o8,o9,ys,rfl,eG,Vn,Vo⟩ hTp;let hj:j<B.length:=by let:=(EY.mp ev).1;lia
   let#[v',ev',hv]:=hp.at (i:=j) (d:=rw Sc) (by rw[Fb,EW hj,F7,EW hj];rfl)
   rw[ev]at ev'
   cases ev';let eT:f' G (upd G Tp<|.tup [.int j,v]):=aQ Ĩ hTp;generalize upd G Tp (.tup [.int j,v])=G1 at eT;let e1G:=eG.trans eT;let yl:=Vo.length;rw[EV,Fh]at yl;let tk:(Mk.moved p B i<|Mk.lk R k).take (j+1)=(Mk.moved p B i<|Mk.lk R k).take j++[Mk.Mi p B i A3 j]:=by show aR ?_;unfold Mk.moved;rw[Fb,Ha hj];rfl
   let Ka:ys.length<2 ^ 24:=#[]
   let put:∀ (G2:Hp)(u:V)(o9':Ç),f' G1 G2->DR (bc ml<|grow F H G2) (rw (Mk.Mi p B i A3 j)) u->MvI F H a f ml i k vo (.int<|Mx.Jh p ū A3) (Mk.moved p B i<|Mk.lk R k) (j+1) [some<|.ref a,some<|.ref f,some<|.int (i:Int),some<|.int k,!vo,some<|.int (Mx.Jh p ū<|Mk.lk R k),some<|.ref ml,some<|.int (j:Int),!v,o9'] (upd G2 ml<|.lst (ys++[u])):=λG2 u o9' e hu=>by show#[_,_,_,_,1,aY (e1G.trans e) Tb,af,?_];rw[tk,Fa,br Tb,d8];show (Vo.mono<|kP (aT<|eT.trans e)).app (.one hu)
   let S1:Sd F [some<|.ref a,some<|.ref f,some<|.int (i:Int),some<|.int k,!vo,some<|.int (Mx.Jh p ū<|Mk.lk R k),some<|.ref ml,some<|.int (j:Int),!v,o9] G1 [some<|xX CE R B,some<|fD C p,some<|.int i,some<|.int k,none,none,none,some<|.int j]:=LI hE<|LI hf (LI rfl<|LI rfl (Ko<|Ko (Ko<|LI rfl (QI<|sF.trans e1G))));let md:Mk.Mi p B i (Mk.lk R k) j=if j=i\/Mx.Jh p (B.getD j []) (Mk.lk R k)=0 then B.getD j [] else List.zipWith (λx y=>(Mx.Jh p ū A3 * x - Mx.Jh p Sc A3 * y) % p) Sc ū:=rfl
   let r1:=eq_int (ε:=[some<|xX CE R B,some<|fD C p,some<|.int i,some<|.int k,none,none,none,some<|.int j]) (ra:=rV 7) (rb:=rV 2) rfl rfl;by_cases cj:j=i
   ·rw[EZ<|by lia]at r1;show tP.go S1 (.t r1 rfl) λx G2 NH _ hx=>?_
    cases hx;let Qr:=NH _ _<|eT _ _ Vn;show⟨_,λσ' H' h=>h,_,rfl,rfl,_,rfl,Et #[_,1,.inl #[1,_,Jq.of Qr],_,1,ml,_,_,2,Qr,Ka,put G2 v _ NH ?_]⟩;rw[md,if_pos<|.inl cj];show hv.mono gF
   ·rw[F5<|by lia]at r1;show tP.go S1 (.f r1 ⟨rfl,by decide,⟨rfl,rfl,rfl,rfl⟩,sh hj⟩) λx G2 NH _ hx=>?_
    cases hx;let Qr:=NH _ _<|eT _ _ Vn;let e2G:=e1G.trans NH;show⟨_,λσ' H' h=>h,_,rfl,rfl,_,rfl,og (λz=>?_) (λz=>?_)⟩
    ·let z:Mx.Jh p Sc A3=0:=by let:=Fq z;injection this
     show#[_,1,.inl #[1,_,Jq.of Qr],_,1,ml,_,_,2,Qr,Ka,put G2 v _ NH ?_];rw[md,if_pos<|.inr z];show hv.mono gF
    ·let z:¬ Mx.Jh p Sc A3=0:=λy=>z<|EZ (by rw[y]);let jl:(B.getD j []).length<=1000:=(hF _<|cM hj).2;let b1:=rs ū<|Mk.lk R k;let b2:=rs Sc<|Mk.lk R k;show#[_,1,.inl #[1,_,Jq.of Qr],?_];show tPG (F:=bc ml<|grow F H G2) (H:=G2) Ĩ (ε:=[none,some<|fD C p,none,none,some<|rw ū,some<|.int (Mx.Jh p ū<|Mk.lk R k),none,none,some<|rw Sc,some<|.int (Mx.Jh p Sc<|Mk.lk R k)]) ?_ (bR (xs:=(B.getD j []).zip<|B.getD i []) (u:=λz=>.tup [.int z.1,.int z.2]) (h:=λz=>.int<|(Mx.Jh p (B.getD i []) (Mk.lk R k) * z.1 - Mx.Jh p (B.getD j []) (Mk.lk R k) * z.2) % p) (d:=rw (Mk.Mi p B i (Mk.lk R k) j)) ⟨_,_,⟨rfl,rfl,rfl⟩,fT _ _⟩ (by rw[GO];lia) (λz hz=>#[_,#[2],1,by decide,#[#[#[2,#[.inl #[#[],#[]]]],#[2,#[.inl #[#[],#[]]]],#[trivial]],1],#[#[]]]) ?_) λx G3 e3 hx=>?_
     ·let gg:∀ {d:D}{v:V},DR F d v->DR (grow (bc ml<|grow F H G2) G2 G2) d v:=λh=>(h.mono gF).mono<|aj (JH.trans<|aM sF e2G);show Ko (LI (gg hf)<|Ko (Ko<|LI (gg hvo) (LI rfl<|Ko (Ko<|LI (gg hv) (LI rfl<|QI (aM (JH.trans<|aM sF e2G)<|f'.refl _))))))
     ·rw[md,if_neg λy=>y.elim cj z,<- GA];show Fl.rt.inj (Pf _ _)
     ·show#[ml,_,_,2,e3 _ _ Qr,Ka,put G3 x _ (NH.trans e3)<|hx.mono (AF e2G e3 Qr)]
  ·rintro σ G ⟨o7,o8,o9,ys,rfl,eG,Vn,Vo⟩;rw[GL (by unfold Mk.moved;rw[EV,FO];lia)]at Vo;show#[_,1,_,1,a,CE,dx,_,1,eG _ _<|sF _ _ ha,T.cl,T.nB,(by change 2<1000;decide),q ml G eG #[ml,ys,1,by rw[aA Tb];show Vn,Vo.mono JH]]
universe e
def oC {g:α->D}{l:List α}{i:Nat}(h:Jj F (l.map g) vs)(e:vs[i]?=!v):∃ y,l[i]?=!y/\DR F (g y) v:=by let#[d,h1,h2]:=h.at' e;rw[Fb]at h1;let#[y,h3,1]:=FI.mp h1;show#[y,h3,h2]
def ze {f:α->Int}:∀ {l:List α},(l.map f).Nodup->∀ r∈l,l.find? (λx=>decide (f x=f r))=!r:=by
 intro r'
 induction r' with
 | nil=>
  intro _ _ h;show (FZ h).elim
 | cons x ws ih'=>
  intro nd r h;rw[Fk,FM]at nd;rcases Fv.mp h with rfl|h
  ·simp_all
  ·let ne:¬ f x=f r:=λz=>nd.1<|z▸Fd h;rw[Gs,F5 ne];show ih' nd.2 r h
theorem jb (as:υ)(G:Hp):Hp:=λb=>if b∈as then none else G b
set_option tactic.hygienic true in def qJ (e:f' G G'):f' (jb as G) (jb as G'):=λb o h=>by
 unfold jb at h ⊢;split at h
 ·cases h
 ·rename_i c;rw[if_neg c];show e _ _ h
def vS (h:l∈as)(o:HO):jb as (upd G l o)=jb as G:=by
 funext b;unfold jb
 grind [a8]
def iw:f' (jb as G) G:=λb o h=>by
 unfold jb at h;split at h
 ·cases h
 ·show h
def sX (h:¬ b∈as):jb as G b=G b:=if_neg h
def oy:f' (grow emp H G) G:=λb o h=>by
 unfold grow at h;by_cases c:H b=none
 ·rwa [if_pos c]at h
 ·rw[if_neg c]at h;cases h
theorem TM (Ke:υ)(H)(v)(a:Mk.Ask):Prop:=∃ b ea,v=.ref b/\Ke[a.1]?=!ea/\H b=!.tup [.ref ea,.int (a.2.1:Nat),.int a.2.2]
def TM.mono (zs:υ)(e)(h:TM Ke H v a):TM (Ke++zs) H' v a:=by let#[b,ea,h1,h2,h3]:=h;show#[b,ea,h1,by rw[FP (EY.mp h2).1];show h2,e _ _ h3]
theorem Sa (CE:Addr)(JU:υ)(m)(H)(ea:Addr)(Jm:Mk.JL):Prop:=∃ d dx l,JU[Jm.1]?=!d/\H ea=!pG CE dx d l/\DR H (tb (Mx.ones m)) (.ref l)
def Sa.mono {CE:Addr}(e)(h:Sa CE JU m H ea Jm):Sa CE JU m H' ea Jm:=let ⟨d,dx,l,a,b,c⟩:=h;#[d,dx,l,a,e _ _ b,c.mono e]
abbrev _root_.Ú:=Int->Addr
abbrev Wh (ks:Ξ)(LA:Ú)(H G:Hp):Hp:=jb (ks.map LA) (grow emp H G)
def xw (h:¬ b∈ks.map LA)(h0:H b=none):Wh ks LA H G b=G b:=(sX h).trans (aA h0)
inductive Qf (CE:Addr) (H G0:Hp) (ks:Ξ) (LA:Ú) (JU:υ) (m:Nat) (es:List Mk.JL) (L:List (Int×Mk.Ask)) (Ke:υ) (G:Hp):Prop
 |mk:f' G0 (jb (ks.map LA) G)->(∀ k∈ks,H (LA k)=none/\∃ xs,G (LA k)=!.lst xs/\Paired (TM Ke (Wh ks LA H G)) xs (Mk.pick L k))->Paired (Sa CE JU m (Wh ks LA H G)) Ke es->Ke.Nodup->Qf CE H G0 ks LA JU m es L Ke G
section
variable {CE:Addr}
def Qf.mono (e:f' G G')(h:Qf CE H G0 ks LA JU m es L Ke G):Qf CE H G0 ks LA JU m es L Ke G':=by let#[h1,h2,h3,h4]:=h;let e':=qJ (as:=ks.map LA)<|aT (F0:=emp) (H0:=H) e;show#[h1.trans<|qJ e,λk hk=>?_,Paired.Lg h3 λ_ _ z=>z.mono e',h4];let#[g0,xs,g1,g2]:=h2 k hk;show#[g0,xs,e _ _ g1,Paired.Lg g2 λ_ _ z=>by let:=z.mono [] e';rwa [Ft]at this]
def Qf.out (h:Qf CE H G0 ks LA JU m es L Ke G)(hb:G b=none):¬ b∈ks.map LA:=λz=>by
 let#[_,h2,_,_]:=h;let#[k,hk,1]:=F8.mp z;let#[_,xs,g1,_]:=h2 k hk
 grind
def Qf.app (inj:∀ x∈ks,∀ y∈ks,LA x=LA y->x=y)(h:Qf CE H G0 ks LA JU m es L Ke G)(hk:k∈ks)(hx:G (LA k)=!.lst xs)(he:Ke[a.1]?=!ea)(hb0:H b=none)(hb:G b=!.tup [.ref ea,.int (a.2.1:Nat),.int a.2.2]):
  Qf CE H G0 ks LA JU m es (L++[(k,a)]) Ke (upd G (LA k) (.lst (xs++[.ref b]))):=by
 let#[h1,h2,h3,h4]:=h;let km:=Fd (f:=LA) hk;let hu:Wh ks LA H (upd G (LA k)<|.lst (xs++[.ref b]))=Wh ks LA H G:=by unfold Wh;rw[br (h2 k hk).1,vS km]
 let nb:¬ b∈ks.map LA:=λz=>by
  let#[k',Si,1]:=F8.mp z;let#[_,ys,g1,_]:=h2 k' Si;rw[hb]at g1
  cases g1
 show#[by rw[vS km];show h1,λk' Si=>?_,by rw[hu];show h3,h4];rw[hu];let#[g0,ys,g1,g2]:=h2 k' Si;show#[g0,?_];by_cases c:k=k'
 ·subst c;rw[hx]at g1
  cases g1;rw[Mk.RM];show#[_,af,Paired.NO g2 #[b,ea,1,he,(xw nb hb0).trans hb]]
 ·rw[Mk.QK _ c];show#[ys,by rw[a8 λz=>c (inj _ Si _ hk z).symm];show g1,g2]
def Qf.Jm (h:Qf CE H G0 ks LA JU m es L Ke G)(hx:G x=none)(e:f' G G')(hE:Sa CE JU m (Wh ks LA H G') x (c,ways)):Qf CE H G0 ks LA JU m (es++[(c,ways)]) L (Ke++[x]) G':=by
 let#[h1,h2,h3,h4]:=h.mono e;let#[_,_,g3,_]:=h;show#[h1,λk hk=>?_,Paired.NO h3 hE,?_]
 ·let#[g0,xs,q1,q2]:=h2 k hk;show#[g0,xs,q1,Paired.Lg q2 λ_ _ z=>z.mono [x]<|f'.refl _]
 ·show FE.mpr #[h4,by simp,λy hy z hz ez=>?_];rw[Fr.mp hz]at ez;subst ez;let#[i,hi,ei]:=FN.mp hy;let#[Jm,_,d',dx,l,_,q,_]:=Paired.at g3 (EW hi);rw[ei]at q;rw[oy _ _<|iw _ _ q]at hx
  cases hx
universe e
inductive As1 (CE:Addr) (H G0:Hp) (ks:Ξ) (LA:Ú) (JU:υ) (m:Nat) (v:V) (fa rb ls d:Addr) (found:List Δ) (i:Nat) (σ:St) (G:Hp):Prop
 |mk (o6 o7 o8 o9 NX Le Kg LK:Ç) (Ke:υ):σ=[!v,!.int (m:Int),!.ref fa,!.ref rb,!.ref ls,!.ref d,o6,o7,o8,o9,NX,Le,Kg,LK]->Qf CE H G0 ks LA JU m (Mk.Jf Wp) (Mk.Lv (Mk.Jf Wp)) Ke G->As1 CE H G0 ks LA JU m v fa rb ls d found i σ G
inductive As2 (CE:Addr) (H G0:Hp) (ks:Ξ) (LA:Ú) (JU:υ) (m:Nat) (v:V) (fa rb ls d ba rd:Addr) (e0:List Mk.JL) (i:Nat) (bl:Δ) (j:Nat) (σ:St) (G:Hp):Prop
 |mk (o8 o9 NX Le Kg LK:Ç) (Ke:υ):σ=[some v,some (.int (m:Int)),some (.ref fa),some (.ref rb),some (.ref ls),some (.ref d),some (.ref ba),some (.ref rd),o8,o9,NX,Le,Kg,LK]->Qf CE H G0 ks LA JU m (e0++(bl.take j).map λways=>(i,ways)) (Mk.Lv (e0++(bl.take j).map λways=>(i,ways))) Ke G->As2 CE H G0 ks LA JU m v fa rb ls d ba rd e0 i bl j σ G
inductive As3 (CE:Addr) (H G0:Hp) (ks:Ξ) (LA:Ú) (JU:υ) (m:Nat) (v:V) (fa rb ls d ba rd wa ea:Addr) (e1:List Mk.JL) (L:List (Int×Mk.Ask)) (n:Nat) (ways:Θ) (Ke:υ) (w:Nat) (σ:St) (G:Hp):Prop
 |mk (NX Le Kg LK:Ç):σ=[!v,!.int (m:Int),!.ref fa,!.ref rb,!.ref ls,!.ref d,!.ref ba,!.ref rd,!.ref wa,!.ref ea,NX,Le,Kg,LK]->Qf CE H G0 ks LA JU m e1 (L++Mk.LP n Re) Ke G->As3 CE H G0 ks LA JU m v fa rb ls d ba rd wa ea e1 L n ways Ke w σ G
inductive As4 (CE:Addr) (H G0:Hp) (ks:Ξ) (LA:Ú) (JU:υ) (m:Nat) (v:V) (fa rb ls d ba rd wa ea wy lz:Addr) (e1:List Mk.JL) (L:List (Int×Mk.Ask)) (n w:Nat) (way:Ξ) (Ke:υ) (k:Nat) (σ:St) (G:Hp):Prop
 |mk (Kg LK:Ç):σ=[!v,!.int (m:Int),!.ref fa,!.ref rb,!.ref ls,!.ref d,!.ref ba,!.ref rd,!.ref wa,!.ref ea,!.int (w:Int),!.ref wy,Kg,LK]->G lz=!.lst ([V.int (Mk.st w)]++way.map V.int)->¬ lz∈ks.map LA->Qf CE H G0 ks LA JU m e1 (L++(Mk.Nc n w way).take k) Ke G->As4 CE H G0 ks LA JU m v fa rb ls d ba rd wa ea wy lz e1 L n w way Ke k σ G
section
variable {c:Cl}{CE:Addr}
inductive DC (H:Hp) (ad:Addr) (ks:Ξ) (ê:List Mk.JL) (Ke:υ):Prop
 |mk (ķ:ξ) (LA:Ú):H ad=!.dK ķ->(∀ k∈ks,cQ ķ (Sum.inl k)=!.ref (LA k)/\∃ xs,H (LA k)=!.lst xs/\Paired (TM Ke H) xs (Mk.JD ê k))->DC H ad ks ê Ke
inductive rW (c:Cl) (CE:Addr) (vs:π) (H:Hp) (Q:VK) (E:XK):Prop
 |mk (F:Hp) (v x:V) (rb:Addr) (S:NS) (m:Nat) (found:List Δ) (JU:υ):f' F H->vs=[v,.int (m:Int),x,.ref rb]->DR F (aD c S) v->S.J0.length<=1000->(S.J0.map (·.1)).Nodup->DR F (SA found) x->H rb=!.lst (JU.map V.ref)->JU.length=found.length->found.length<=1000->m<=1000->(Mk.Lv (Mk.Jf found)).length<=1000000 ->
  (∀ bl∈found,bl.length<=1000/\∀ ways∈bl,ways.length<=m/\∀ way∈ways,way.length<=1000/\∀ k∈way,k∈S.J0.map (·.1)) ->
  (∀ ad H' Ke,f' H H'->DC (grow emp H H') ad ĭ (Mk.Jf found) Ke->Paired (Sa CE JU m (grow emp H H')) Ke (Mk.Jf found)->Ke.Nodup->Q (.ref ad) H')->rW c CE vs H Q E
def MF:ax ["net","many","found","rows_by_choice","starts","told","by_listener","rows","ear_ways","ear","place","way","number","ahead"] õ (aa (top 84)):=Nd
def nL [Bx:Bd](T:LV Bx.K Bx.mg CE)(TD)(JJ)(J8)(TF:Sm 3 "Ear" CE ü (iV CE)):Tk 5 "asks_by_tie" (top 84) õ (rW c CE):=by
 intro f fd F;show F.k MF λJ7 A outer s H vs Q E hr h=>?_
 ·let#[F,v,x,rb,S,m,found,JU,sF,1,hv,tz,Ua,#[fa,fs,1,XY,hfp],ZM,rl,fz,hm,hB,bnd,q]:=h;let ND:=MF.nd;let XY:=sF _ _ XY;show#[_,(ai (pS 4 ND<|aZ JJ hr.m rfl (a9 (pv 1) IZ))
   (ai (pS 5 ND (du (cu rfl) rfl TD boot_dict (a9 (eL rfl (cS 1 [] ["tie"]) (sw Bx.K<|gk (Đ 0) J8 hr.m)
  ė
  (λ_ _ _ _ _=>N3)
  (λ_ _ _ _ _=>eJ<|a9 (pI (WK Bx.K) (pv 0) bf) (a9 (eK IZ) IZ))) IZ)))
   (ai (bW Fe rfl (W4 Bx.K rfl T.Lq<|a9 (pv 2) (a9 (pv 3) IZ)) ť
  (aq (bW Fe rfl (sw Bx.K<|pv 6) (pN 8 ND)
  (ai (pS 9 ND<|gV TF hr.m rfl (a9 (pv 7)<|a9 (pv 1) IZ))
 (aq (bW Fe rfl (sx Bx.K rfl T.Ku<|a9 (pv 8) IZ) (bX Bx.K rfl<|ae (pN 10 ND) (ae (pN 11 ND) aB))
  (aq (bW Fe rfl (W4 Bx.K rfl T.Lq<|a9 (pv 11) (a9 (jx yN (eK<|a9 (pI (xP Bx.K) (pv 4)<|pv 10) IZ)<|pv 11) IZ)) (bX Bx.K rfl<|ae (pN 12 ND) (ae (pN 13 ND) aB))
  (aq<|aF (P2 Bx.K Fs FA Fy aH (pD (aK hr) (pv 5)<|pv 12)<|a9 (eJ<|a9 (pv 9) (a9 (pv 10)<|a9 (pv 13) IZ)) IZ))))))))))
   (aq<|bO (pv 5))))),?_]
  show#[_,1,emp,_,_,bZ,U5 (d:=.int m) rfl,#[hm],λls H1 e1 hls=>?_];let#[ls,us,1,hls,WQ]:=hls;rw[ja WQ]at hls;show tP.go (sd1 (sF.trans e1) hv) #[2,by decide,#[tz]] λx H2 e2 _ hx=>?_;let#[tl,ts,1,ZD,U0]:=hx;let le2:f' (grow F H1 H2) H2:=aM (sF.trans e1) e2;let ut:∀ t∈S.J0,bV ((S.J0.find? λt'=>decide (t'.1=t.1)).getD (0,"","",0))=bV t:=λt ht=>by rw[ze Ua t ht];rfl
  let eu:(S.J0.map (·.1)).map (λk=>bV<|(S.J0.find? λt=>decide (t.1=k)).getD (0,"","",0))=S.J0.map bV:=by rw[F9];show FG ut
  rw[<- eu]at U0;show#[tl,1,#[_,Jq.of<|le2 _ _ ZD],oG le2 (yV (.inl ZD) U0) (by rw[EV];show tz) (λk hk v H3 Q hv q=>?_) λlc H3 as vs e3 h0 Ph al an has hp=>wq (λ_ _=>Sum.inl.inj) Ua (by rw[EV];show tz) e3 Ph al an has hp λd H4 LA e4 d0 hd RZ inj=>?_]
  ·let#[t,ht,1]:=F8.mp hk;rw[ut t ht]at hv;let#[tp,vs,1,U0,_,_,2,_,_,2,_,_,2,_,_,3]:=hv;show#[_,1,tp,_,(0),_,2,LQ.of U0,1,(by change 0<=sizeLine;decide),λa H2 e2 h2 ha=>#[(by change 2<=sizeLine;decide),λt' H3 e3 h3 ht=>q a t' H3 (e2.trans e3) h2 (e2.free h3) (e3 _ _ ha) ht]]
  generalize hkv:(S.J0.map (·.1)).map (λx=>((Sum.inl x:Key),V.ref<|LA x))=ķ at hd RZ;generalize WW:S.J0.map (·.1)=ks at *
  let Pq:=e1.trans e2;let e04:=Pq.trans e4;let laN:∀ b∈ks.map LA,H2 b=none/\H4 b=!.lst []:=λb hb=>by let#[k,hk,1]:=F8.mp hb;let#[g1,g2,_]:=RZ k hk;show#[g2,g1]
  let hG0:∀ {b o},H2 b=!o->jb (ks.map LA) H4 b=!o:=λ{b o} hb=>by rw[sX (λz=>by rw[(laN b z).1]at hb;cases hb)];show e4 _ _ hb
  let hd0:jb (ks.map LA) H4 d=!.dK ķ:=by rw[sX (λz=>by rw[(laN d z).2]at hd;cases hd)];show hd
  let st:Qf CE H (jb (ks.map LA) H4) ks LA JU m [] [] [] H4:=#[f'.refl _,λk hk=>#[Pq.free (RZ k hk).2.1,[],(RZ k hk).1,.nil],.nil,Hg]
  generalize jb (ks.map LA) H4=G0 at st hG0 hd0;let toG:∀ {es L Ke G},Qf CE H G0 ks LA JU m es L Ke G->f' H2 G:=λ{es L Ke G} gR b o hb=>by let#[g,_,_,_]:=gR;show iw _ _ (g _ _<|hG0 hb)
  let fl:=hfp.length;rw[EV]at fl;show#[_,1,_,1,fa,rb,1,#[_,Jq.of<|e04 _ _ XY],#[_,Jq.of<|e04 _ _ ZM],t6 (As1 CE H G0 ks LA JU m v fa rb ls d found)
   #[none,none,none,none,none,none,none,none,[],1,st] (λi σ G _ gR=>(by let#[_,_,_,_,_,_,_,_,_,_,I]:=gR;show#[Jq.of<|toG I _ _ (Pq _ _ XY),Jq.of<|toG I _ _ (Pq _ _ ZM)])) ?_ ?_]
  ·rintro i x y Tz σ G ex ey ⟨o6,o7,o8,o9,NX,Le,Kg,LK,Ke,rfl,I⟩ hTz;let#[bl,ebl,ba,bs,1,hba,hbp]:=oC hfp ex;let hba:=sF _ _ hba;rw[Fb]at ey;let#[rd,Y6,1]:=FI.mp ey;let#[blz,bw]:=bnd bl<|F6 ebl;let eT:f' G (upd G Tz<|.tup [.ref ba,.ref rd]):=aQ Ĩ hTz;let Te:(upd G Tz<|.tup [.ref ba,.ref rd]) Tz=!.tup [.ref ba,.ref rd]:=af;generalize upd G Tz (.tup [.ref ba,.ref rd])=G1 at eT Te;let I1:=I.mono eT;let bl2:=hbp.length;rw[EV]at bl2;show#[Tz,_,1,LQ.of Te,1,_,_,1,_,[],2,?_];show#[_,1,ba,1,#[_,Jq.of<|toG I1 _ _ (Pq _ _ hba)],fQ (xs:=bs) (As2 CE H G0 ks LA JU m v fa rb ls d ba rd (Mk.Jf<|found.take i) i bl)
    #[_,_,_,_,_,_,Ke,1,by rw[HH,GE,Ft];show I1] (λj σ G _ gR=>(by let#[_,_,_,_,_,_,_,_,I]:=gR;show Jq.of<|toG I _ _ (Pq _ _ hba))) ?_ ?_]
   ·rintro j x σ G ex ⟨o8,o9,NX,Le,Kg,LK,Ke,rfl,I⟩;let#[ways,ew,wa,wsx,1,hwa,hwp]:=oC hbp ex;let hwa:=sF _ _ hwa;let#[wl,wb]:=bw ways<|F6 ew;let wl2:=hwp.length;rw[EV]at wl2;let hA:∀ {w i2:Nat}{way:Ξ},ways[w]?=some way->(Mk.Lv (Mk.Jf (found.take i)++(bl.take j).map λways=>(i,ways))++Mk.LP (Mk.Jf Wp++(bl.take j).map λways=>(i,ways)).length Re++(Mk.Nc (Mk.Jf Wp++(bl.take j).map λways=>(i,ways)).length w way).take i2).length<=1000000:=λhw=>Mk.room hB ebl ew hw;let tkb:Mk.Jf Wp++(bl.take<|j+1).map (λways=>(i,ways))=(Mk.Jf Wp++(bl.take j).map λways=>(i,ways))++[(i,ways)]:=by rw[aR ew,Fa,FK];rfl
    generalize (Mk.Jf Wp++(bl.take j).map λways=>(i,ways))=es at I hA tkb;show#[_,1,_,1,λea dx nx ndx nex=>#[ea,dx,rd,m,1,af,hm,λlp G2 NH hN=>?_]];let hn:∀ {b:Addr},upd (upd (upd G dx<|.own ea) ea<|.ins CE dx []) ea (.ins CE dx [("rows",.ref rd)]) b=none->b≠ea/\G b=none:=λ{b} hb=>by
     let c1:b≠ea:=λz=>by rw[z,af]at hb;cases hb
     let c2:b≠dx:=λz=>by rw[a8 c1,a8 c1,z,af]at hb;cases hb
     rw[a8 c1,a8 c1,a8 c2]at hb;show#[c1,hb]
    let eE:f' G (upd G2 ea<|pG CE dx rd lp):=λb o hb=>by let c1:b≠ea:=ao hb nx;rw[a8 c1];show NH _ _ (by rw[a8 c1,a8 c1,a8<|ao hb ndx];show hb)
    let H2G:=Pq.trans<|toG I;let I2:=I.Jm (ways:=ways) (c:=i) nx eE #[rd,dx,lp,Y6,(xw (I.out nx)<|H2G.free nx).trans af,hN.mono λb o hb=>by
     unfold grow at hb;by_cases c1:upd (upd (upd G dx<|.own ea) ea<|.ins CE dx []) ea (.ins CE dx [("rows",.ref rd)]) b=none
     ·rw[if_pos c1]at hb;let#[c2,c3]:=hn c1;rw[xw (I.out c3)<|H2G.free c3,a8 c2];show hb
     ·rw[if_neg c1]at hb;cases hb]
    let eal:(Ke++[ea])[es.length]?=!ea:=by let#[_,_,g3,_]:=I;rw[<- Paired.length g3,FQ<|Fg _,Nat.sub_self];rfl
    generalize Ke++[ea]=Xc at I2 eal;generalize upd G2 ea (pG CE dx rd lp)=G3 at I2;show#[1,_,1,wa,wsx,1,toG I2 _ _<|Pq _ _ hwa,vV (K:=Bx.K) (xs:=wsx) (As3 CE H G0 ks LA JU m v fa rb ls d ba rd wa ea (es++[(i,ways)]) (Mk.Lv es) es.length ways Xc)
     #[_,_,_,_,1,by let e:Mk.LP es.length (ways.take 0)=[]:=rfl;rw[e,Ft];show I2] (λw σ G _ gR=>(by let#[_,_,_,_,_,I]:=gR;show Jq.of<|toG I _ _ (Pq _ _ hwa))) ?_ ?_]
    ·rintro w x Tw σ G ex ⟨NX,Le,Kg,LK,rfl,I⟩ hTw;let#[way,ewy,wy,ns,1,SX,U2]:=oC hwp ex;rw[ja U2]at SX;let SX:=sF _ _ SX;let#[wyz,wyk]:=wb way<|F6 ewy;let I1:=I.mono<|aQ Ĩ hTw (o:=.tup [.int w,.ref wy]);generalize upd G Tw (.tup [.int w,.ref wy])=G1 at I1;let hwm:w<m:=by let:=(EY.mp ewy).1;omega
     let est:((Mk.starts m).map V.int)[w]?=!(.int<|Mk.st w):=by unfold Mk.starts;rw[Fb,Fb,Ha hwm];rfl
     let Zz:=toG I1 _ _<|Pq _ _ SX;show#[_,1,_,1,_,1,ls,_,_,_,2,Jq.of<|toG I1 _ _ (e2 _ _<|oy _ _ hls),iC est,(by change 1<=sizeLine;decide),λl1 G3 Y8 _ OB=>#[_,1,l1,wy,_,_,2,OB,Y8 _ _ Zz,?_,λlz G4 e4' lz0 hlz=>?_]]
     ·rw[EV];change 1+way.length<=2 ^ 24;omega
     let I4:=(I1.mono Y8).mono e4';let e14:=Y8.trans e4';show#[wy,lz,1,#[_,Jq.of<|e14 _ _ Zz],#[_,Jq.of hlz],t6 (K:=Bx.K) (xs:=way.map V.int) (ys:=[V.int<|Mk.st w]++way.map V.int) (As4 CE H G0 ks LA JU m v fa rb ls d ba rd wa ea wy lz (es++[(i,ways)]) (Mk.Lv es++Mk.LP es.length Re) es.length w way Xc)
      #[_,_,1,hlz,(I1.mono Y8).out lz0,by rw[HH,Ft];show I4] (λk σ G _ gR=>(by let#[_,_,_,hz,_,I]:=gR;show#[Jq.of<|toG I _ _ (Pq _ _ SX),Jq.of hz])) ?_ ?_]
     ·rintro k x y Tq σ G ex ey ⟨Kg,LK,rfl,hlz,nlz,I⟩ hTq;let#[num,en,1]:=xB ex;let#[ah,eah,1]:=xB<|show ((Mk.st w::way).map V.int)[k]?=some y from ey;let tkw:(Mk.Nc es.length w way).take (k+1)=(Mk.Nc es.length w way).take k++[(num,es.length,w,ah)]:=by show aR ?_;unfold Mk.Nc;rw[Fb,(@IP _ _ way (Mk.st w::way) (num,ah) k).mpr #[en,eah]];rfl
      let hk:=wyk num<|F6 en;let eq:f' G (upd G Tq<|.tup [.int num,.int ah]):=aQ Ĩ hTq;let a0u:(upd G Tq<|.tup [.int num,.int ah]) Tq=!.tup [.int num,.int ah]:=af;generalize upd G Tq (.tup [.int num,.int ah])=G5 at eq a0u;let I5:=I.mono eq;let#[g1,g2,_,_]:=id I5;let#[_,ys,Vn,hyp]:=g2 num hk;let yl:=Paired.length hyp;show#[Tq,_,1,LQ.of a0u,1,_,_,1,_,[],2,?_];show#[_,1,_,1,d,.ref<|LA num,1,(by rw[<- (RZ num hk).2.2];show Nl.k (k:=Sum.inl num)<|iw _ _ (g1 _ _ hd0)),.inl ⟨rfl,_,Jq.of Vn⟩,_,1,_,1,_,1,(by change 3<=sizeLine;decide),λtb G6 e6 h6 XO=>?_];show#[LA num,_,_,2,e6 _ _ Vn,?_,_,_,1,?_,nlz,?_]
      ·let h1:=Mk.Uo (Mk.Lv es++Mk.LP es.length Re++(Mk.Nc es.length w way).take k) num;let h2:=hA (i2:=k) ewy;change ys.length<2 ^ 24;omega
      ·rw[a8<|show lz≠LA num from λz=>nlz (by rw[z];show Fd hk)];show e6 _ _ (eq _ _ hlz)
      ·rw[tkw,<- FK];show (I5.mono e6).app inj hk (e6 _ _ Vn) eal ((Pq.trans<|toG I5).free h6) XO
     ·rintro σ G ⟨Kg,LK,rfl,_,_,I⟩;show#[_,_,_,_,1,?_];let:min (way.map V.int).length ([V.int<|Mk.st w]++way.map V.int).length=(Mk.Nc es.length w way).length:=by let:=congrArg List.length<|Mk.Pz es.length w way;rw[EV]at this;rw[Fj,EV,this];simp
      rw[this,FF]at I;rw[Mk.PJ ewy,<- FK];show I
    ·rintro σ G ⟨NX,Le,Kg,LK,rfl,I⟩;rw[wl2,FF,<- Mk.PM es (i,ways)]at I;show#[_,_,_,_,_,_,Xc,1,by rw[tkb];show I]
   ·rintro σ G ⟨o8,o9,NX,Le,Kg,LK,Ke,rfl,I⟩;show#[_,_,_,_,_,_,_,_,Ke,1,?_];rw[bl2,FF]at I;rw[Mk.OC ebl];show I
  ·rintro σ G ⟨o6,o7,o8,o9,NX,Le,Kg,LK,Ke,rfl,I⟩;let:min fs.length (JU.map V.ref).length=found.length:=by rw[EV,fl,rl,Nat.min_self]
   rw[this,FF]at I;let#[g1,g2,g3,g4]:=id I;show#[_,1,q d G Ke (Pq.trans<|toG I) ⟨ķ,LA,?_,λk hk=>#[(RZ k hk).2.2,?_]⟩ (Paired.Lg g3 λea Jm z=>z.mono iw) g4]
   ·rw[aA<|Pq.free d0];show iw _ _ (g1 _ _ hd0)
   ·let#[g0,xs,a,b]:=g2 k hk;show#[xs,by rw[aA g0];show a,Paired.Lg b λ_ _ z=>by let:=z.mono [] iw;rwa [Ft]at this]
universe e
theorem KT (H G:Hp):Prop:=(∀ b xs,H b=!.lst xs->G b=!.lst xs)/\∀ b xs,H b=!.tup xs->G b=!.tup xs
def KT.of (e:f' H G):KT H G:=#[λ_ _ h=>e _ _ h,λ_ _ h=>e _ _ h]
def KT.trans (a:KT H G)(b:KT G G'):KT H G':=#[λ_ _ h=>b.1 _ _<|a.1 _ _ h,λ_ _ h=>b.2 _ _<|a.2 _ _ h]
def KT.put (hd:G d=!o)(hl:∀ xs,o≠.lst xs)(ht:∀ xs,o≠.tup xs):KT G (upd G d o'):=
 #[λb xs h=>by rw[a8 λz=>by simp_all];show h,λb xs h=>by rw[a8 λz=>by simp_all];show h]
def uC (k:KT H G)(h:DR H (rw r) v):DR G (rw r) v:=by let#[a,vs,e,h1,h2]:=h;rw[ja h2]at h1;show#[a,_,e,k.1 _ _ h1,vN _]
def sd {g:α->Ξ}(k:KT H G):∀ {l:List α}{vs:π},Jj H (l.map λx=>rw (g x)) vs->Jj G (l.map λx=>rw (g x)) vs:=by
 intro r'
 induction r' with
 | nil=>
  intro _ h;show h
 | cons _ _ ih'=>
  intro _ y1';let#[v,ws,e,h1,h2]:=y1';show #[v,ws,e,uC k h1,ih' h2]
def yk (k:KT H G)(h:DR H (tb t) v):DR G (tb t) v:=by let#[a,vs,e,h1,h2]:=h;show#[a,vs,e,k.1 _ _ h1,sd k h2]
theorem JP (H)(d)(R:Mk.NJ):Prop:=∃ ķ,H d=!.dK ķ/\ķ.map (·.1)=R.map (λr=>(.inl r.1:Key))/\Jj H (R.map λr=>rw r.2) Ł
def JP.dr (h:JP H d R):DR H (av R) (.ref d):=by let#[ķ,h1,h2,h3]:=h;show#[d,ķ,1,.inl h1,by rw[h2,F9];rfl,?_];rw[F9];show h3
def JP.mono (e)(h:JP H d R):JP H' d R:=let ⟨ķ,h1,h2,h3⟩:=h;#[ķ,e _ _ h1,h2,h3.mono e]
def JP.kt (k:KT G G')(hd:G' d=G d)(h:JP G d R):JP G' d R:=let ⟨ķ,h1,h2,h3⟩:=h;#[ķ,hd.trans h1,h2,sd k h3]
def JP.put (h:JP Γ d R)(e:f' Γ G)(hk:¬ k∈R.map (·.1))(hv:DR Γ (rw r) v)(hz:R.length<2 ^ 24):
  ∃ o,Py G d (.int k) v (upd G d o)/\JP (upd Γ d o) d (R++[(k,r)])/\KT Γ (upd Γ d o)/\∃ ķ,Γ d=!.dK ķ:=by
 let#[ķ,h1,h2,h3]:=h;let kl:ķ.length=R.length:=by let:=congrArg List.length h2;rwa [EV,EV]at this
 let hn:cQ ķ (Sum.inl k)=none:=by
  unfold cQ;rw[Gq.mpr λq hq z=>hk ?_]
  ·rfl
  ·let:(Sum.inl k)∈ķ.map (·.1):=Fq z▸Fd hq
   simp_all
 let kt:KT Γ (upd Γ d<|.dK (dH ķ (Sum.inl k) v)):=KT.put h1 (λ_ z=>nomatch z) λ_ z=>nomatch z;show#[_,Py.k (k:=Sum.inl k) (e _ _ h1) (by rw[kl];show hz),#[_,af,?_,?_],kt,_,h1]
 ·rw[gU _ hn,Fa,h2,Fa];rfl
 ·rw[show (dH ķ _ v).map _=ķ.map _++[v] by rw[gU _ hn,Fa];rfl,Fa];show (sd kt h3).app (.one<|uC kt hv)
structure P6 (CE:Addr) (G:Hp) (JU Ke:υ) (ears:List Mk.JL) (T:Mk.Pw):Prop where
 rows:∀ c d,JU[c]?=!d->JP G d (T.R.getD c [])
 ears:∀ e ea,Ke[e]?=!ea->∃ d dx l,JU[(ears.getD e (0,[])).1]?=!d/\G ea=!pG CE dx d l/\DR G (tb (T.P.getD e [])) (.ref l)
def P6.mono {CE:Addr}{ê:List Mk.JL}{T:Mk.Pw}(e:f' G G')(h:P6 CE G JU Ke ê T):P6 CE G' JU Ke ê T:=
 #[λc d hc=>(h.rows c d hc).mono e,λi ea he=>let ⟨d,dx,l,a,b,c⟩:=h.ears i ea he;#[d,dx,l,a,e _ _ b,c.mono e]]
def P6.put {CE:Addr}{ê:List Mk.JL}{T:Mk.Pw}(h:P6 CE G JU Ke ê T)(hp:G pd=!.dK ķ)(k:KT G (upd G pd o))(np:¬ pd∈JU):P6 CE (upd G pd o) JU Ke ê T:=
 #[λc d hc=>(h.rows c d hc).kt k<|a8 λz=>np<|z▸F6 hc,λe ea he=>let ⟨d,dx,l,a,b,c⟩:=h.ears e ea he;#[d,dx,l,a,by rw[a8 λz=>by grind];show b,yk k c]]
def oz (e:f' H H1):f' (grow emp H1 H2) (grow F H H2):=λb o h=>by
 unfold grow at h;by_cases c:H1 b=none
 ·rw[if_pos c]at h;rw[aA<|e.free c];show h
 ·rw[if_neg c]at h;cases h
def iy (h:grow emp H G b=!o):H b=none/\G b=!o:=by
 unfold grow at h;by_cases c:H b=none
 ·rw[if_pos c]at h;show#[c,h]
 ·rw[if_neg c]at h;cases h
def iY:∀ {vs:π}{l:List α},Paired R vs l->(∀ v a,a∈l->R v a->DR F (g a) v)->Jj F (l.map g) vs:=by
 intro vs l h
 induction h with
 | nil=>intro _;rfl
 | cons h t ih=>intro k;show#[_,_,1,k _ _ Fw h,ih λv a ha=>k v a<|Fp _ ha]
def zM (m):(Mk.starts m).Nodup:=by unfold Mk.starts;rw[List.Nodup,Hk];show List.nodup_range.imp λn z=>n (by unfold Mk.st at z;lia)
theorem jw (m):Mk.NJ:=(List.range m).map λw=>(Mk.st w,Mx.J3 m w)
theorem cE (p)(m)(ç)(ê:List Mk.JL)(ord)(n):Mk.NJ:=(List.range n).map λi=>((ord.getD i (0,none)).1,Mk.Jg p m ê ź (ord.getD i (0,none)))
def cT (ord):(cE p m ç ê ord ord.length).map (·.1)=ord.map (·.1):=by
 unfold cE;show HF λj=>?_;by_cases hj:j<ord.length
 ·simp_all
 ·simp_all
structure Dx (S:NS) (m:Nat) (p:Int) (ç:Θ) (found:List Δ):Prop where
 ord:j0 S Ů
 mem:∀ x∈bJ (bx S) S.names.length,x∈S.names
 Ua:(S.J0.map (·.1)).Nodup
 Ka:(ag S).length<64
 mt:∀ r∈ag S,r.1∈S.J0.map (·.1)/\∀ ks,r.2=!ks->ks.length<=1000
 p1:p<=1000000
 fl:found.length=ç.length
 fz:found.length<=1000
 mz:m<=1000
 Tf:Mk.Px p m ç (Mk.Jf found) (ag S)
 all:(Mk.Lv (Mk.Jf found)).length<=1000000
 bnd:∀ bl∈found,bl.length<=1000/\∀ ways∈bl,ways.length<=m/\∀ way∈ways,way.length<=1000/\∀ k∈way,k∈S.J0.map (·.1)
 ez:(Mk.Jf found).length<=1000
inductive rG (c:Cl) (C:Addr):Ä
 |mk {S:NS}{m:Nat}{p:Int}{ç:Θ}{found:List Δ}:Dx S m p ç found->rG c C [aD c S,.int m,fD C p,tb ç,SA found] (av (QG (·.1) (cE p m ç (Mk.Jf found) (ag S) (ag S).length)))
section
variable {c:Cl}{CE:Addr}
inductive MpI (CE:Addr) (F H Γ1:Hp) (v0 vf vl vx:V) (rb ad pd:Addr) (m:Nat) (p:Int) (ç:Θ) (ê:List Mk.JL) (ord:List Mk.Kw) (RP:ξ) (JU Ke:υ) (i:Nat) (σ:St) (G:Hp):Prop
 |mk (o8 o9 NX Le Kg LK SM SK:Ç):σ=[!v0,!.int (m:Int),!vf,!vl,!vx,!.ref rb,!.ref ad,!.ref pd,o8,o9,NX,Le,Kg,LK,SM,SK]->f' H G->KT Γ1 Œ->grow F H G ad=!.dK RP->JP Œ pd (cE p m ç ê ord i)->P6 CE Œ JU Ke ê ź->MpI CE F H Γ1 v0 vf vl vx rb ad pd m p ç ê ord RP JU Ke i σ G
inductive Mp0 (H:Hp) (m:Nat) (l:Addr) (i:Nat) (H1:Hp):Prop
 |mk (JU:υ):H l=none->f' H H1->JU.length=i->JU.Nodup->(∀ d∈JU,JP (bc l (grow emp H H1)) d (jw m))->H1 l=!.lst (JU.map V.ref)->Mp0 H m l i H1
inductive Mp3 (CE:Addr) (F H G4:Hp) (v0 vx mv mx:V) (fa lc rb ad pd:Addr) (m:Nat) (RP:ξ) (JU Ke:υ) (ê:List Mk.JL) (k:Int) (LK SM SK:Ç) (pl:Mk.NJ) (X R:List Mk.NJ) (P:Δ) (c:Nat) (σ:St) (G:Hp):Prop
 |mk (Le Kg:Ç):σ=[!v0,!.int (m:Int),!.ref fa,!.ref lc,!vx,!.ref rb,!.ref ad,!.ref pd,!.int k,!mv,!mx,Le,Kg,LK,SM,SK]->f' H G->KT (grow F H G4) Œ->grow F H G ad=!.dK RP->JP Œ pd pl->P6 CE Œ JU Ke ê ⟨X.take c++R.drop c,P⟩->Mp3 CE F H G4 v0 vx mv mx fa lc rb ad pd m RP JU Ke ê k LK SM SK pl X R P c σ G
inductive Mp4 (CE:Addr) (F H G5:Hp) (v0 vx mv mx:V) (fa lc rb ad pd:Addr) (m:Nat) (RP:ξ) (JU Ke:υ) (ê:List Mk.JL) (k:Int) (Le Kg:Ç) (pl:Mk.NJ) (p:Int) (A:List Mk.Ask) (T:Mk.Pw) (j:Nat) (σ:St) (G:Hp):Prop
 |mk (LK SM SK:Ç):σ=[!v0,!.int (m:Int),!.ref fa,!.ref lc,!vx,!.ref rb,!.ref ad,!.ref pd,!.int k,!mv,!mx,Le,Kg,LK,SM,SK]->f' H G->KT (grow F H G5) Œ->grow F H G ad=!.dK RP->JP Œ pd pl->P6 CE Œ JU Ke ê ((A.take j).foldl (Mk.LS p ê k) T)->Mp4 CE F H G5 v0 vx mv mx fa lc rb ad pd m RP JU Ke ê k Le Kg pl p A T j σ G
def NP:ax ["net","many","field","chosen","found","rows_by_choice","asks","plan","number","into","mixed","choice","rows","ear","way","ahead"] ó (aa (top 88)):=Nd
def sJ [Bx:Bd](T:LV Bx.K Bx.mg CE)(TD)(JJ)(Lc)(Ma:JB 5 "asks_by_tie" õ (rW c CE))(Jv:JB 3 "mixing_ties" ["net"] (Pr (jW c j0)))(M0:JB 5 "multipliers" ["field","mixed","asks"] (Pr (gp C CE)))(MS:JB 5 "mixed_row" ["field","mixed","told","rows","many"] (Pr (jj C)))(KO:Kj 5 CE "move_front" å (rS C CE))(Jr):Tk 6 "made_plan" (top 88) ó (Pr (rG c C)):=by
 intro f fd F;show F.ok NP (λvs H Q E gR=>(by let#[_,_,_,_,hl,hR,_]:=gR;cases hR;show hl.length)) (λJ7 A outer s H vs Q E hr h=>?_)
 ·obtain⟨F,_,_,sF,hl,@⟨S,m,p,ç,found,O⟩,q⟩:=h;let#[v0,_,1,h0,_,_,2,vf,_,1,hf,vl,_,1,a3W,vx,_,1,hx,1]:=hl;let#[lc,cs,1,a3V,hcp]:=id a3W;let#[fa,_,_,1,_]:=id hf;let QQ:=sF _ _ a3V;let ND:=NP.nd;let p2:=((My.Jb p).mp O.Tf.prime).1;let cl:=hcp.length;rw[EV]at cl;let mz:=O.mz;let fl:=O.fl;let fz:=O.fz;show#[_,(ai (aO (i:=5) ND rfl rfl rfl (cS 1 [1] ["choice","many"]) (sw Bx.K<|pv 3)
  ė
  (λ_ _ _ _ _=>N3)
  (λ_ _ _ _ _=>xb Bx.K rfl rfl TD rfl T.Lq<|a9 (aZ JJ hr.m rfl<|a9 (pv 1) IZ) (a9 (aZ Lc hr.m rfl<|a9 (pv 1) IZ) IZ)))
 (ai (pS 6 ND<|aZ Ma hr.m rfl (a9 (pv 0)<|a9 (pv 1) (a9 (pv 4)<|a9 (pv 5) IZ)))
 (ai (pS 7 ND NW)
 (ai (bW Fe rfl (sw Bx.K<|aZ Jv hr.m rfl (a9 (pv 0) IZ)) (bX Bx.K rfl<|ae (pN 8 ND) (ae (pN 9 ND) aB))
  (ai (pS 10 ND<|UO (dT nE vg (Đ 9)<|dC xa) (dF JJ hr.m rfl<|da (Đ 1) J4) (Đ 9))
 (ai (bB (aK hr) (pv 7) (pv 8) (aZ M0 hr.m rfl<|a9 (pv 2) (a9 (pv 10)<|a9 (pD (aK hr) (pv 6)<|pv 8) IZ)) rfl)
 (ai (bW Fe rfl (W4 Bx.K rfl T.Lq<|a9 (pv 3) (a9 (pv 5) IZ)) (bX Bx.K rfl<|ae (pN 11 ND) (ae (pN 12 ND) aB))
  (aq<|bB (aK hr) (pv 12) (pv 8) (UO (TV (aK hr) (Đ 8)<|Đ 11) (dO kB ve ((c9<|da (dC bf) J4).p)<|Đ 1)<|dF MS hr.m rfl (da (Đ 2)<|da (Đ 10) (da (dS (aK hr) (Đ 7)<|Đ 8)<|da (Đ 12) A6))) rfl))
 (aq (bW Fe rfl (sw Bx.K<|pD (aK hr) (pv 6) (pv 8)) (bX Bx.K rfl<|ae (pN 13 ND) (ae (pN 14 ND)<|ae (pN 15 ND) aB))
  (aq<|aF (bI (pv 13) KO hr.m<|a9 (pv 2) (a9 (pv 14)<|a9 (pv 8) IZ)))))))))
 (aq<|bO (aZ Jr hr.m rfl<|a9 (pv 7) IZ)))))),?_]
  show#[_,1,lc,1,#[_,Jq.of QQ],r8 (xs:=cs) (Mp0 H m)
   (λl hl=>#[[],hl,aQ Ĩ hl,1,Hg,(λa ha=>nomatch ha),af]) (λl i H1 _ h=>let ⟨_,_,e,_,_,_,_⟩:=h;Jq.of<|e _ _ QQ) (λl i v H1 ev h=>?_) (λrb H1 h=>?_)]
  ·let#[JU,hl,e1,rl,rn,XQ,T4]:=h;let hi:i<cs.length:=(EY.mp ev).1;dsimp only[wV];rw[if_pos rfl];show#[_,1,emp,_,_,bZ,U5 (d:=.int m) rfl,#[mz],λla H2 e2 hla=>?_];show#[_,1,emp,_,_,bZ,U5 (d:=.int m) rfl,#[mz],λlo H3 e3 hlo=>?_];let#[la,us,1,hla,WQ]:=hla;let#[lo,os,1,hlo,hos]:=hlo;let UJ:=e2.trans e3;let k1:(jw m).map (λr=>D.int r.1)=(Mk.starts m).map .int:=by unfold jw Mk.starts;rw[F9,F9];rfl
   let k2:(jw m).map (λr=>rw r.2)=(Mx.ones m).map rw:=by unfold jw Mx.ones;rw[F9,F9];rfl
   let a3E:=hos.mono<|oz (F:=emp) (e1.trans e2);let#[ķ,a1,a2,a3]:=Bo (F:=grow emp H H3) (ð:=(jw m).map λr=>Ŕ) (vs:=us) (us:=os) (by rw[F9];rw[ja WQ];show k1▸vN _) (by rw[F9];show k2▸a3E);let kl:ķ.length=m:=by let:=congrArg List.length a3;rw[EV,EV,EV]at this;rw[this];simp[jw]
   show#[la,lo,ķ,1,Jq.of ?_,Jq.of ?_,by omega,λd H4 e4 h4 hd=>?_]
   ·rw[<- a1];show e3 _ _ (oy _ _ hla)
   ·rw[<- a2];show oy _ _ hlo
   rw[kK [] _ (by rw[Gm,a3];show pE (f:=λr:Int×List Int=>r.1) ?_;unfold jw;rw[F9];show zM m),Gm]at hd
   let e14:=UJ.trans e4;let a3y:=e14 _ _ T4;let ndl:d≠l:=(ao (UJ _ _ T4) h4).symm;let hd0:H d=none:=(e1.trans UJ).free h4;show#[_,a3y,by rw[EV,rl];change i<2 ^ 24;omega,JU++[d],hl,aY (e1.trans e14) hl,by rw[Fj,rl];rfl,?_,λb hb=>?_,by rw[af,Fa];rfl]
   ·show FE.mpr #[rn,by simp,λb hb b' OP e=>?_];rw[Fr.mp OP]at e;subst e;let#[WA,g1,_]:=XQ b hb;let:=UJ _ _<|oy _ _ (JH _ _ g1);rw[h4]at this
    cases this
   ·rw[br hl,d8];rcases FC.mp hb with hb|hb
    ·show (XQ b hb).mono (kP<|aT e14)
    ·rw[Fr.mp hb];show#[ķ,by rw[bv ndl,aA hd0];show hd,by rw[a3,F9];rfl,?_];rw[k2,<- a2];show hos.mono λb o hb=>?_;let#[b1,b2]:=iy hb;rw[bv (λz=>by rw[z,e2 _ _ T4]at b1;cases b1),aA<|(e1.trans e2).free b1];show e4 _ _ b2
  ·let#[JU,a3z,e1,rl,rn,XQ,ZM]:=h;let rlf:JU.length=found.length:=by omega
   show#[_,1,_,1,_,1,_,1,F,v0,vx,rb,S,m,found,JU,sF.trans e1,1,h0,by let:=O.ord.2.2.2.1;omega,O.Ua,hx,ZM,rlf,fz,mz,O.all,O.bnd,λad H2 Ke e2 hA hEN end_=>?_];intro pd ZQ;let Pp:=e1.trans e2;let RS:H pd=none:=Pp.free ZQ;let e23:f' H2 (upd H2 pd<|.dK []):=aQ Ĩ ZQ;let ZP:upd H2 pd (.dK []) pd=!.dK []:=af;generalize upd H2 pd (.dK [])=H3 at e23 ZP;let e03:=Pp.trans e23;show#[_,1,prG sF e03 (U5<|h0.mono (aj sF)) (.mk O.ord O.mem (by let:=O.ord.2.2.2.1;omega) (by let:=O.Ka;unfold ag at this;omega)) λx H4 e4 ZY=>?_];let#[l,xs,1,hl,ZY]:=ZY;let e04:=e03.trans e4;let g24:f' (grow F H H2) (grow F H H4):=aT<|e23.trans e4;let hA:=hA;let#[RP,LA,had,a4h]:=id hA;let toΓ:f' (grow emp H1 H2) (grow F H H4):=(oz e1).trans g24;generalize WU:Ja S Ů=ord at ZY;let WU:ag S=ord:=WU;let G:=O.Tf;let Ka:=O.Ka;let mt:=O.mt;rw[WU]at G Ka mt q;generalize a0g:Mk.Jf found=ê at *
   let xl:=ZY.length;rw[EV]at xl;let el:=Paired.length hEN;let rd1:∀ {d},d∈JU->H d=none/\∃ ķ,H1 d=!.dK ķ:=λ{d} hd=>by let#[ķ,g,_]:=XQ d hd;let#[g1,g2]:=iy<|JH _ _ g;show#[g1,ķ,g2]
   let nad:¬ ad∈JU:=λz=>by
    let#[_,_,g]:=rd1 z;rw[(iy had).1]at g
    cases g
   let npd:¬ pd∈JU:=λz=>by
    let#[_,_,g]:=rd1 z;rw[e2 _ _ g]at ZQ
    cases ZQ
   let nap:ad≠pd:=λz=>by
    let:=(iy had).2;rw[z,ZQ]at this
    cases this
   let eaN:∀ {e ea},Ke[e]?=!ea->H ea=none:=λhe=>by let#[_,_,_,_,_,_,g,_]:=Paired.at hEN he;show e1.free (iy g).1
   let st0:P6 CE (grow F H H4) JU Ke ê (Mk.stN p m ç ê ord 0):=by
    show#[λc d hc=>?_,λe ea he=>?_]
    ·let RW:=(EY.mp hc).1;let:(Mk.start m ç ê).R.getD c []=jw m:=bT (by change (ç.map λ_=>_)[c]?=_;rw[Fb,EW<|by omega];rfl)
     change JP _ d ((Mk.start m ç ê).R.getD c []);rw[this];show (XQ d<|F6 hc).mono (JH.trans<|(oz (F:=F)<|f'.refl H).trans (aT<|e2.trans (e23.trans e4)))
    ·let#[Jm,ee,d,dx,l,hd,g1,g2]:=Paired.at hEN he;let:(Mk.start m ç ê).P.getD e []=Mx.ones m:=bT (by change (ê.map λ_=>Mx.ones m)[e]?=_;rw[Fb,ee];rfl)
     show#[d,dx,l,by rw[bT ee];show hd,toΓ _ _ g1,?_];change DR _ (tb<|(Mk.start m ç ê).P.getD e []) (.ref l);rw[this];show g2.mono toΓ
   let hl4:=aM sF e04 _ _ hl;show#[l,1,#[_,Jq.of hl4],fQ (K:=Bx.K) (xs:=xs) (MpI CE F H (grow F H H4) v0 (.ref fa) (.ref lc) vx rb ad pd m p ç ê ord RP JU Ke) #[none,none,none,none,none,none,none,none,1,e04,KT.of<|f'.refl _,toΓ _ _ had,⟨[],by rw[aA RS];show e4 _ _ ZP,rfl,rfl⟩,st0] (λi σ G h1 h=>?_) ?_ ?_]
   ·let#[_,_,_,_,_,_,_,_,_,eG,kG,_,_,_]:=h;show Jq.of (aM sF eG _ _<|kG.1 _ _ hl)
   ·rintro i v σ G1 ev ⟨o8,o9,NX,Le,Kg,LK,SM,SK,rfl,eG,kG,X2,plG,M⟩;let#[r,er,hv]:=oC ZY ev;let#[tp,_,1,U0,_,_,2,mv,_,1,hmv,1]:=hv;let hi:i<ord.length:=(EY.mp er).1;let rm:=F6 er;let I:=Mk.PU G i ġ;let pre:=Mk.PY I G er;let ego:ord.getD i (0,none)=r:=bT er;let a3R:DR (grow F H G1) (PC r.2) mv:=by
     cases h:r.2 with
     | none=>rw[h]at hmv;show hmv
     | some ks=>rw[h]at hmv;show uC kG hmv
    show#[tp,_,1,LQ.of<|aM sF eG _ _ (kG.2 _ _ U0),1,_,_,1,_,[],2,?_];show tPG eG (ε:=[none,some<|.int m,none,none,none,none,none,none,none,some<|PC r.2]) (d:=rw (Mk.JC m r.2)) (Ko<|LI rfl (Ko<|Ko (Ko<|Ko (Ko<|Ko (Ko<|LI a3R (QI<|aM sF eG)))))) ?_ λmx G2 Pp ZX=>?_
    ·cases r.2 with
     | none=>show .t #[2,.mk] #[#[2],#[mz]]
     | some ks=>show .f #[2,.mk] rfl
    let#[hkv,axs,a0q,hap]:=a4h r.1 (mt r rm).1;let axl:=Paired.length hap;let mk:∀ R∈(Mk.stN p m ç ê ord i).R,∀ k∈Mk.JC m r.2,k∈R.map (·.1):=λR hR k hk=>by
     rw[I.keys R hR]
     cases h:r.2 with
     | none=>rw[h]at hk;show FV _ hk
     | some ks=>rw[h]at hk;show FH _ (G.ahd i r ks er h k hk)
    let mlz:(Mk.JC m r.2).length<=1000:=by
     cases h:r.2 with
     | none=>change (Mk.starts m).length<=1000;unfold Mk.starts;simpa using mz
     | some ks=>show (mt r rm).2 ks h
    let alz:(Mk.JD ê r.1).length<=1000:=Fo (Mk.Qw G.XH r.1)<|a0g▸O.ez;let pn:cE p m ç ê ord (i+1)=cE p m ç ê ord i++[(r.1,Mk.Jg p m ê ź r)]:=by unfold cE;rw[IF,Fa,Fk,ego];rfl
    let nk:¬ r.1∈(cE p m ç ê ord i).map (·.1):=λz=>by
     unfold cE at z;rw[F9]at z;let#[j,hj,ej]:=F8.mp z;let hj:=FS.mp hj;let e1:(ord.map (·.1))[j]?=!r.1:=by rw[Fb,EW<|by omega];let ej:(ord.getD j (0,none)).1=r.1:=ej;rw[bT<|EW ġ]at ej;show congrArg some ej
     let e2:(ord.map (·.1))[i]?=!r.1:=by rw[Fb,er];rfl
     let:=bD G.nd e1 e2;omega
    let st:Mk.stN p m ç ê ord (i+1)=Mk.Qj p m ç ê ź r:=by change Mk.Qj p m ç ê ź (ord.getD i (0,none))=_;rw[ego]
    let told:Mk.QN p (Mk.JC m r.2) (Mk.JD ê r.1) (Mk.shown p ê<|Mk.stN p m ç ê ord i)=Mk.Jg p m ê ź r:=rfl;let eG2:=eG.trans Pp;let k2:KT (grow F H H4) (grow F H G2):=kG.trans<|KT.of (aT Pp);let hdm:(cE p m ç ê ord i).length<2 ^ 24:=by unfold cE;rw[EV,FO];omega
    let M2:=M.mono<|aT Pp;generalize hT:Mk.stN p m ç ê ord i=Tm at *
    let one:∀ a∈Mk.JD ê r.1,∃ Jm,ê[a.1]?=!Jm/\Jm∈ê/\a.2.1<m/\ê.getD a.1 (0,[])=Jm:=λa am=>by let#[Jm,way,h1,X5,_]:=Mk.MJ.mp<|Mk.MI.mp am;let em:=F6 h1;show#[Jm,h1,em,G.ways Jm em▸(EY.mp X5).1,bT h1]
    let K1:a1f p (Mk.JD ê r.1) (λa=>Tm.R.getD (ê.getD a.1 (0,[])).1 []) (λa=>Tm.P.getD a.1 []) (Mk.shown p ê Tm):=by
     show#[λa am=>?_,λa am=>?_,λa am b bm=>?_,λa am k=>?_];all_goals let⟨Jm,h1,em,hw,eg1⟩:=one a am
     ·rw[(I.ok a.1 Jm h1).len];show hw
     ·let:=(I.ok a.1 Jm h1).at hw;show#[this.2,by rw[this.1];show mz]
     ·rw[eg1];show mk _ (Mk.Vi I G em) _ (pre.ahead b bm)
     ·unfold Mk.shown;rw[Mk.Mc h1,eg1]
    show#[_,1,_,1,_,1,_,1,ad,.ref<|LA r.1,1,(by rw[<- hkv];show Nl.k (k:=Sum.inl r.1)<|aM sF eG2 _ _ (aT Pp _ _ X2)),prG sF eG2 (dr3 (hf.mono<|aj sF) ZX (d2:=.lst<|(Mk.JD ê r.1).map (wE CE _ _)) #[LA r.1,axs,1,k2.1 _ _<|toΓ _ _ a0q,iY hap λv a am h=>?_]) (.mk O.p1 K1 pre mlz alz) λlt G3 e3 Ml=>?_]
    ·let#[b,ea,1,Rv,hb]:=h;let#[d,dx,l,hd,g1,g2]:=M2.ears a.1 ea Rv;show#[b,_,1,k2.2 _ _<|toΓ _ _ hb,_,_,1,#[ea,dx,_,1,g1,1,_,_,1,(M2.rows _ d hd).dr,_,_,1,g2,1],_,_,2,_,_,3]
    let UJ:=Pp.trans e3;let eG3:=eG.trans UJ;let#[o,WS,Ux,kp,kvp,hkp]:=(plG.mono<|aT UJ).put (aM sF eG3) nk Ml hdm;show#[_,1,_,1,pd,_,1,WS,?_];rw[told,<- pn]at Ux;let hG4:f' H (upd G3 pd o):=aY eG3 RS;let Vj:KT (grow F H G3) (grow F H<|upd G3 pd o):=by rw[br RS];show kp
    let k4:KT (grow F H H4) (grow F H<|upd G3 pd o):=(k2.trans<|KT.of (aT e3)).trans Vj;let ad4:grow F H (upd G3 pd o) ad=!.dK RP:=by rw[br RS,a8 nap];show aT UJ _ _ X2
    let M4:P6 CE (grow F H<|upd G3 pd o) JU Ke ê Tm:=by rw[br RS];show (M.mono<|aT UJ).put hkp kp npd
    let mx4:DR (grow F H<|upd G3 pd o) (rw (Mk.JC m r.2)) mx:=uC Vj<|ZX.mono (aT e3);rw[<- br RS]at Ux;generalize upd G3 pd o=G4 at hG4 k4 ad4 M4 mx4 Ux;let rbΓ:grow F H H4 rb=!(.lst<|JU.map V.ref):=by rw[aA a3z];show e4 _ _ (e23 _ _<|e2 _ _ ZM)
    let Rl:=I.rl;let Xl:(Mk.Je p m ç Tm.R r<|Mk.Jg p m ê Tm r).length=ç.length:=by unfold Mk.Je;rw[List.length_zipWith,Rl,Nat.min_self]
    show#[_,1,_,1,lc,rb,1,#[_,Jq.of<|hG4 _ _ QQ],#[_,Jq.of<|aM sF hG4 _ _ (k4.1 _ _ rbΓ)],t6 (K:=Bx.K) (xs:=cs) (ys:=JU.map V.ref) (Mp3 CE F H G4 v0 vx mv mx fa lc rb ad pd m RP JU Ke ê r.1 LK SM SK (cE p m ç ê ord<|i+1) (Mk.Je p m ç Tm.R r<|Mk.Jg p m ê Tm r) Tm.R Tm.P)
     #[_,_,1,hG4,KT.of<|f'.refl _,ad4,Ux,by rw[HH,List.drop_zero,Gm];show M4] (λc σ G _ gR=>(by let#[_,_,_,a,b,_,_,_]:=gR;show#[Jq.of<|a _ _ QQ,Jq.of<|aM sF a _ _ (b.1 _ _<|k4.1 _ _ rbΓ)])) ?_ ?_]
    ·rintro c x' y' Tz σ G5 ex ey ⟨Le,Kg,rfl,eG5,k5,ad5,Rr,M5⟩ hTz;let#[ks,eks,hca]:=oC hcp ex;rw[Fb]at ey;let#[rd,Y6,1]:=FI.mp ey;let hc:c<ç.length:=(EY.mp eks).1;let eT:f' G5 (upd G5 Tz<|.tup [x',.ref rd]):=aQ Ĩ hTz;let Te:(upd G5 Tz<|.tup [x',.ref rd]) Tz=!.tup [x',.ref rd]:=af;generalize upd G5 Tz (.tup [x',.ref rd])=G6 at eT Te;let UH:=eG5.trans eT;let mx6:=(uC k5 mx4).mono<|aT eT;let Qt:=Rr.mono<|aT eT;let eR:Tm.R[c]?=!Tm.R.getD c []:=by rw[F7,EW (by rw[Rl];show hc)];rfl
     let Rm:Tm.R.getD c []∈Tm.R:=F6 eR;let gdc:((Mk.Je p m ç Tm.R r<|Mk.Jg p m ê Tm r).take c++Tm.R.drop c).getD c []=Tm.R.getD c []:=by rw[Mk.QD _ _<|by omega,if_neg<|Ho _]
     let ZL:JP (grow F H G6) rd (Tm.R.getD c []):=gdc▸(M5.rows c rd Y6).mono (aT eT);show#[Tz,_,1,LQ.of Te,1,_,_,1,_,[],2,?_];show tPG UH (ε:=[none,some<|.int m,some<|fD C p,none,none,none,none,some<|av (cE p m ç ê ord<|i+1),some<|.int r.1,none,some<|rw (Mk.JC m r.2),some<|rw ks,some<|av (Tm.R.getD c [])]) (d:=rw (Mk.newRow p m ks (Tm.R.getD c []) r<|Mk.Jg p m ê Tm r)) (Ko<|LI rfl (LI (hf.mono<|aj sF)<|Ko (Ko<|Ko (Ko<|LI Qt.dr (LI rfl<|Ko (LI mx6<|LI (hca.mono<|aj sF) (LI ZL.dr<|QI (aM sF UH)))))))) ?_ λln G7 e67 XS=>?_
     ·let ri:=gb (n:=false) (i:=r.1) (ks:=ks);unfold Mk.newRow;by_cases Ng:r.1∈ks
      ·rw[EZ Ng]at ri;rw[if_pos Ng,si];show .t #[2,ri] #[#[#[2],by simp,1],1,#[mz]]
      ·rw[F5 Ng]at ri;rw[if_neg Ng];show .f #[2,ri] #[#[2,#[2,.k (wQ (by rw[pn,Fa];simp)) kI],3],?_];rw[pn,Mk.QO nk];show .mk ġ O.p1 (λk hk=>#[mk _ Rm k hk,I.rows _ Rm (k,_)<|Mk.SU (mk _ Rm k hk)]) mlz mz
     let a4Z:(Tm.R.getD c []).length<2 ^ 24:=by let:=congrArg List.length<|I.keys _ Rm;rw[EV,Fj,EV,Fh]at this;unfold Mk.starts at this;rw[EV,FO]at this;omega
     let eG7:=UH.trans e67;let#[o,WS,LO,k7,kk,hkk]:=(ZL.mono<|aT e67).put (aM sF eG7) (Mk.S6 I G er _ Rm) XS a4Z;let rdm:=F6 Y6;let XJ:=(rd1 rdm).1;rw[<- br XJ]at LO k7;let g57:=aT (F0:=F) (H0:=H)<|eT.trans e67;show#[_,1,_,1,rd,_,1,WS,_,_,1,aY eG7 XJ,(k5.trans<|KT.of g57).trans k7,?_,(Rr.mono g57).kt k7 ?_,?_]
     ·rw[br XJ,a8<|show ad≠rd from λz=>nad<|z▸rdm];show g57 _ _ ad5
     ·rw[br XJ,a8<|show pd≠rd from λz=>npd<|z▸rdm]
     ·let M7:=M5.mono g57;show#[λc' d' Nh=>?_,λe ea he=>?_]
      ·change JP _ d' (((Mk.Je p m ç Tm.R r<|Mk.Jg p m ê Tm r).take (c+1)++Tm.R.drop (c+1)).getD c' []);rw[Mk.QD _ _<|by omega];by_cases cc:c'=c
       ·subst cc;rw[Y6]at Nh
        cases Nh;rw[if_pos<|Gv _,Mk.OA eks<|by omega];show LO
       ·let nd':d'≠rd:=λz=>cc<|bD rn (z▸Nh) Y6;let h7:=(M7.rows c' d' Nh).kt k7 (by rw[br XJ,a8 nd']);let e7:((Mk.Je p m ç Tm.R r<|Mk.Jg p m ê Tm r).take c++Tm.R.drop c).getD c' []=if c'<c+1 then (Mk.Je p m ç Tm.R r<|Mk.Jg p m ê Tm r).getD c' [] else Tm.R.getD c' []:=by
         rw[Mk.QD _ _<|by omega];by_cases lt:c'<c
         ·rw[if_pos lt,if_pos<|by omega]
         ·rw[if_neg lt,if_neg<|by omega]
        rw[<- e7];show h7
      ·let#[d,dx,l,hd,g1,g2]:=M7.ears e ea he;show#[d,dx,l,hd,by rw[br XJ,a8 (λz=>by rw[z,hkk]at g1;cases g1)];show g1,yk k7 g2]
    ·rintro σ G5 ⟨Le,Kg,rfl,eG5,k5,ad5,Rr,M5⟩;let mn:min cs.length (JU.map V.ref).length=ç.length:=by rw[EV];omega
     rw[mn,GL<|by omega,List.drop_of_length_le<|by omega,Ft]at M5;let k05:=k4.trans k5;let a0X:=k05.1 _ _<|toΓ _ _ a0q;let nda:=Mk.Q7 G.XH r.1;show#[_,1,_,1,ad,.ref<|LA r.1,1,(by rw[<- hkv];show Nl.k (k:=Sum.inl r.1)<|aM sF eG5 _ _ ad5),LA r.1,1,#[_,Jq.of<|aM sF eG5 _ _ a0X],fQ (K:=Bx.K) (xs:=axs) (Mp4 CE F H G5 v0 vx mv mx fa lc rb ad pd m RP JU Ke ê r.1 Le Kg (cE p m ç ê ord<|i+1) p (Mk.JD ê r.1) { Tm with R:=Mk.Je p m ç Tm.R r (Mk.Jg p m ê Tm r) })
      #[_,_,_,1,eG5,KT.of<|f'.refl _,ad5,Rr,M5] (λj σ G _ gR=>(by let#[_,_,_,_,a,b,_,_,_]:=gR;show Jq.of<|aM sF a _ _ (b.1 _ _ a0X))) ?_ ?_]
     ·rintro j v σ G6 ev ⟨LK,SM,SK,rfl,UH,k6,ad6,Qt,M6⟩;let#[a,ea',b,ea,1,Rv,hb]:=Paired.at hap ev;let#[Jm,h1,em,hw,eg1]:=one a<|F6 ea';let K1:=I.ok a.1 Jm h1;let a36:=G.ech Jm em;let tka:=aR ea';let ndt:(((Mk.JD ê r.1).take j).map (·.1)).Nodup:=by rw[GU];show nda.sublist (Ib _ _)
      let#[f1,f2,f3,_]:=Mk.Oq (p:=p) (ê:=ê) r.1 ((Mk.JD ê r.1).take j) { Tm with R:=Mk.Je p m ç Tm.R r (Mk.Jg p m ê Tm r) } ndt;let fa':=f3 a.1 λa' ha' z=>by
       let#[j',XU,ej']:=IN.mp ha';let g1:((Mk.JD ê r.1).map (·.1))[j']?=!a.1:=by rw[Fb,EW<|by omega,ej'];show congrArg some z
       let g2:((Mk.JD ê r.1).map (·.1))[j]?=!a.1:=by rw[Fb,ea'];rfl
       let:=bD nda g1 g2;omega
      let hT7:((Mk.JD ê r.1).take<|j+1).foldl (Mk.LS p ê r.1) { Tm with R:=Mk.Je p m ç Tm.R r (Mk.Jg p m ê Tm r) }=Mk.LS p ê r.1 (((Mk.JD ê r.1).take j).foldl (Mk.LS p ê r.1) { Tm with R:=Mk.Je p m ç Tm.R r (Mk.Jg p m ê Tm r) }) a:=by rw[tka,IW];rfl
      generalize hT6:((Mk.JD ê r.1).take j).foldl (Mk.LS p ê r.1) { Tm with R:=Mk.Je p m ç Tm.R r (Mk.Jg p m ê Tm r) }=T6 at *
      let fa':T6.P.getD a.1 []=Tm.P.getD a.1 []:=fa';let#[d,dx,lp,hd,hx6,XO]:=M6.ears a.1 ea Rv;rw[eg1]at hd;let ekc:ç[Jm.1]?=!ç.getD Jm.1 []:=by rw[F7,EW a36];rfl
      let R6:T6.R.getD Jm.1 []=Tm.R.getD Jm.1 []++[(r.1,Mk.newRow p m C8 (Tm.R.getD Jm.1 []) r<|Mk.Jg p m ê Tm r)]:=by rw[f1];show Mk.OA ekc ġ
      let le6:=aM sF UH;show#[b,_,1,LQ.of<|le6 _ _ (k6.2 _ _<|k05.2 _ _ (toΓ _ _ hb)),1,_,_,1,_,_,1,_,[],2,?_];show#[_,1,ea,dx,_,1,le6 _ _ hx6,1,_,1,_,1,_,1,grow F H G6,ea,fa,d,dx,lp,p,r.1,a.2.1,T6.P.getD a.1 [],T6.R.getD Jm.1 [],le6,1,hx6,(M6.rows Jm.1 d hd).dr,XO,hf.mono<|aj sF,by omega,O.p1,by rw[R6,Fa];simp,by rw[fa',K1.len];show hw,λy hy=>?_,by rw[fa',K1.len];show mz,λl' G7 e7 hl'=>?_]
      ·rw[fa']at hy;show#[(K1.Nm y hy).2,by rw[(K1.Nm y hy).1];show mz]
      rw[ar UH e7]at hl';let ea0:=eaN Rv;let g67:=aT (F0:=F) (H0:=H) e7;let hx7:=g67 _ _ hx6;let k7:KT (grow F H G7) (grow F H<|upd G7 ea (pG CE dx d l')):=by rw[br ea0];show KT.put hx7 (λ_ z=>nomatch z) ņ
      let k67:=(KT.of g67).trans k7;let nea:∀ {c ķ},grow F H G6 c=!.dK ķ->c≠ea:=λhc z=>by rw[z,hx6]at hc;cases hc
      let kep:∀ {c:Addr},c≠ea->grow F H (upd G7 ea<|pG CE dx d l') c=grow F H G7 c:=λhc=>by rw[br ea0,a8 hc]
      let M7:=M6.mono g67;let YF:∀ {d' R'},JP (grow F H G6) d' R'->JP (grow F H<|upd G7 ea (pG CE dx d l')) d' R':=λh=>by let#[ķ,hk,_]:=id h;show (h.mono g67).kt k7 (kep<|nea hk)
      show#[_,_,_,1,aY (UH.trans e7) ea0,k6.trans k67,(kep<|nea ad6).trans<|g67 _ _ ad6,YF Qt,?_];rw[hT7];show⟨λc' d' Nh=>YF<|M6.rows c' d' Nh,λe ea2 he=>?_⟩;let al:a.1<T6.P.length:=by rw[f2];change a.1<Tm.P.length;rw[I.pl];show (EY.mp h1).1
      by_cases ce:e=a.1
      ·subst ce;rw[Rv]at he
       cases he;show#[d,dx,l',by rw[eg1];show hd,by rw[br ea0,af],?_];change DR _ (tb<|(T6.P.set a.1<|Mk.moved p (T6.P.getD a.1 []) a.2.1 (Mk.lk (Mk.rowsOf ê T6 a.1) r.1)).getD a.1 []) _;rw[bT (List.getElem?_set_self al),Mk.Mc h1];show yk k7 hl'
      ·let#[d2,dx2,l2,hd2,g1,g2]:=M7.ears e ea2 he;show#[d2,dx2,l2,hd2,(kep λz=>ce<|bD end_ (z▸he) Rv).trans g1,?_];change DR _ (tb<|(T6.P.set a.1 _).getD e []) _;rw[F7,List.getElem?_set_ne<|Ne.symm ce,<- F7];show yk k7 g2
     ·rintro σ G6 ⟨LK,SM,SK,rfl,UH,k6,ad6,Qt,M6⟩;rw[axl,FF]at M6;show#[_,_,_,_,_,_,_,_,1,UH,k05.trans k6,ad6,Qt,by rw[st];show M6]
   ·rintro σ G1 ⟨o8,o9,NX,Le,Kg,LK,SM,SK,rfl,eG,kG,X2,plG,M⟩;rw[xl]at plG;let pk:=cT (p:=p) (m:=m) (ç:=ç) (ê:=ê) ord;show#[_,1,prG sF eG (U5 plG.dr) (.mk (f:=λr:Int×List Int=>r.1) (g:=λr=>rw r.2) ?_ (by rw[pk];show G.nd)) λx H7 e7 hx7=>q x H7 (eG.trans e7) hx7];let:=congrArg List.length pk;rw[EV,EV]at this;omega
universe e
def wF:∀ (ê:List Mk.JL)(k:Nat),(∀ Jm∈ê,Jm.2.flatten.length<=B)->((ê.zipIdx k).flatMap λx=>Mk.LP x.2 x.1.2).length<=ê.length * B:=by
 intro r'
 induction r' with
 | nil=>
  intro _ _;simp
 | cons x l ih'=>
  intro k h;let ih:=ih' (k+1) λy hy=>h y (by simp[hy]);let hx:=h x Ğ;rw[<- Mk.PK k x.2,EV]at hx;rw[List.zipIdx_cons,GX,Fj,FW,Ia]
  grind
def eA:∀ {xs ys:Ξ},xs.Nodup->(∀ x∈xs,x∈ys)->xs.length<=ys.length:=by
 intro r'
 induction r' with
 | nil=>
  intro ys _ _;show FR _
 | cons x xs ih'=>
  intro ys nd h;let nd:=FM.mp nd;let hx:=h x Ğ;let:=ih' (ys:=ys.erase x) nd.2 λy hy=>(Iz (λz:y=x=>nd.1 (by rw[<- z];show hy))).mpr (h y<|by simp[hy])
  grind
def WN.Uc (W):S.J0.length<=40:=by let:=W.ln.RK;rw[<- W.ln.J0,EV]at this;show this
def WN.Ua (W):(S.J0.map (·.1)).Nodup:=by let pk:=W.ln.Ja.map (·.1);rw[F9]at pk;show pk.nodup_iff.mp W.ln.fits.nd
def WN.Z6 (W):∀ x∈bJ (bx S) S.names.length,x∈S.names:=λx hx=>by let:=sy W.ln.Tv S.names.length (by simp[bx]) x hx;rwa [W.ln.Q6]at this
def WN.Z0 (W)(pz:S.J'.length<=100):j0 S Ů:=#[1,W.ln.Tv,W.ln.ends,by let:=W.Uc;lia,#[]]
def WN.a27 (W)(pz:S.J'.length<=100):Dw j0 S Ů:=#[W.Z0 pz,W.Z6,by let:=W.Uc;lia,W.ln.fits]
def WN.wok (W)(pz)(fo):Su S fo 21:=by
 let sub:(aW S.J0 fo).Sublist S.J0:=by
  cases fo with
  | none=>show List.Sublist.refl _
  | some ks=>show HQ
 let nl:S.names.length<=20:=by unfold NS.names;rw[EV];show pz
 let ol:=W.ln.len;let tl:=W.Uc;let sl:=sub.length_le;let ix:∀ (i:Nat) z,ord[i]?=!z->ord.idxOf z=i:=λi z hz=>by let hl:=List.idxOf_lt_length_of_mem<|F6 hz;show bD W.ln.nd Ħ hz
 show#[#[W.Ua.sublist<|sub.map _,⟨λz=>ord.idxOf z,λt ht=>?_,λz=>?_⟩,#[],#[]],λt ht=>W.ln.Ub<|sub.subset ht,W.ln.Wj,#[],#[],#[]]
 ·let#[u,v,uv,h1,h2]:=W.ln.RG<|sub.subset ht;change ord.idxOf t.2.1<ord.idxOf t.2.2.1;rw[ix _ _ h1,ix _ _ h2];show uv
 ·grind
def WN.make (W)(hP)(hO)(Ka)(p1)(pz:S.J'.length<=100)(ez:ç.length * S.Jt.length<=1000)(fz:ç.length<=1000)(mz:m<=1000):Dx S m p ç (cC S (!h) N m ç):=by
 let G:=W.Tf hP hO Ka;let kt:∀ k∈(ag S).map (·.1),k∈S.J0.map (·.1):=λk hk=>by let#[r,hr,1]:=F8.mp hk;let#[t,ht,1]:=F8.mp<|W.ln.Ja.mem_iff.mp hr;show Fd ht
 let el:=oA (cC S (!h) N m ç) 0 λy hy=>by let#[ks,_,1]:=F8.mp hy;rw[EV]
 let fl:(cC S (!h) N m ç).length=ç.length:=EV _;let el:(Mk.Jf<|cC S (!h) N m ç).length=ç.length * S.Jt.length:=by unfold Mk.Jf;rw[el,fl]
 let a0A:=W.ln.Ka;let lz:S.Jt.length<=S.J'.length:=by unfold NS.Jt;rw[EV];show FB _ _
 show#[W.Z0 pz,W.Z6,W.Ua,a0A,λr hr=>#[kt _<|Fd hr,λks hk=>?_],p1,fl,by rw[fl];show fz,mz,G,?_,λbl hbl=>?_,by rw[el];show ez]
 ·let#[i,hi,ei]:=FN.mp hr;show (W.ln.fits.ahead i r ks Ħ hk).1
 ·let:=wF (B:=64) _ 0 λJm he=>by
   let sub:∀ k∈Jm.2.flatten,k∈(ag S).map _:=λk hk=>by let#[way,hw,hk]:=List.mem_flatten.mp hk;show (G.VB Jm he way hw).subset hk
   let:=eA (G.XH Jm he) sub;rw[EV]at this
   lia
  show Fo this ?_
  lia
 ·let#[ks,hk,1]:=F8.mp hbl;show#[by rw[EV];lia,λways hw=>?_];let#[g,hg,1]:=F8.mp hw;let#[O,hW]:=hO ks hk;let#[w,ew]:=hW g hg;let#[Ob,e1,e2,e3,e4]:=mH W.Ng O ew;let e:mI (bp (aW S.J0<|some ks) (!h) g N m)=w:=by rw[ew];rfl
  rw[e,e1];show#[by simp_all,λway hw=>?_];let#[ws,Uv,1]:=F8.mp hw;let sb:=W.whole (λt ht=>(dm ht).1)<|e3 ws Uv;let sl:=sb.length_le;rw[EV]at sl;show⟨#[],λk hk=>kt k<|sb.subset hk⟩
def WN.told (W)(n)(x:Kw)(hx:(ag S)[n]?=!x):gP (QG (·.1) (cE p m ç ê (ag S) (ag S).length)) x.1=!(x.1,Mk.Jg p m ê (Mk.stN p m ç ê (ag S) n) x):=by let nd:((QG (·.1)<|cE p m ç ê _ (ag S).length).map _).Nodup:=(Kx.map _).nodup_iff.mpr (by rw[cT];show W.ln.fits.nd);show n8 nd (x.1,_) (Kx.mem_iff.mpr ?_);show F8.mpr #[n,FS.mpr<|(EY.mp hx).1,by rw[bT hx]]
def WN.good (W)(hP)(G:Mk.Px p m ç ê (ag S))(mz:m<=1000):MM m p (ag S) (QG (·.1) (cE p m ç ê (ag S) (ag S).length)):=by
 let pm:=Kx (f:=λr:Int×List Int=>r.1) (l:=cE p m ç ê (ag S) (ag S).length);let Ka:=W.ln.Ka;let kl:=congrArg List.length<|cT (p:=p) (m:=m) (ç:=ç) (ê:=ê) (ag S);rw[EV,EV]at kl;show⟨λx hx=>?_,λr hr=>?_,?_⟩
 ·let#[n,hn]:=List.getElem?_of_mem hx;show#[_,W.told n x hn,?_];let#[h1,h2,_]:=Mk.Rh<|Mk.PY (Mk.PU G n (by let:=(EY.mp hn).1;lia)) G hn;let#[i,hi,ei]:=FN.mp hx;let mw:((Mk.JC m x.2).length)=zB m x.2/\(Mk.JC m x.2).length<=1000:=by
   cases e2:x.2 with
   | none=>
    let:(Mk.JC m none).length=m:=by change (Mk.starts m).length=m;unfold Mk.starts;simp
    rw[this];show#[1,mz]
   | some ks=>show#[1,(W.ln.fits.ahead i x ks Ħ e2).1]
  rw[<- h1]at mw;show#[mw.1,h2,mw.2]
 ·let:=Fd (f:=λr:Int×List Int=>r.1)<|pm.mem_iff.mp hr;rwa [cT]at this
 ·rw[pm.length_eq]
  lia
def Dq (h0:0<=i)(h:i<xs.length):∃ v,xs[i.toNat]?=!v/\OD xs i=!v:=by
 let hj:i.toNat<xs.length:=#[]
 show#[xs[i.toNat],EW hj,?_];let:=iC<|EW hj;rwa [Int.toNat_of_nonneg h0]at this
structure oQ (mg:Ω):Prop where
 Jo:mg "len"=none
 Ju:mg "range"=none
 MH:mg "list"=none
 Ku:mg "enumerate"=none
 SQ:mg "int"=none
 Lq:mg "zip"=none
 Rg:mg "sum"=none
abbrev B9:Int:=(10:Int) ^ (9:Int).toNat
theorem xZ:Nat->Int->Ξ
 | 0,_=>[]
 | n+1,x=>if 0<x then x % B9::xZ n (x / B9) else []
theorem xz:Nat->Int->Int->Ξ
 | 0,_,_=>[]
 | n+1,k,x=>x * (x / 1009+69621+k) % 2147483647::xz n (k+1) (x * (x / 1009+69621+k) % 2147483647+1)
def vA:∀ n k x,(xz n k x).length=n:=by
 intro r'
 induction r' with
 | zero=>
  intro _ _;show rfl
 | succ n ih'=>
  intro k x;unfold xz;rw[FW,ih']
def wj:∀ n x,(xZ n x).length<=n
 | 0,_=>Fg _
 | n+1,x=>by
  unfold xZ;split
  ·simp_all [FW,wj]
  ·show FR _
theorem wo (c:Int)(m):Ξ:=if c % 2=0 then xZ m (c / 2) else []
theorem gC (c:Int)(m):Ξ:=(wo c m++xz m 0 ((c / 2+7919) * 48271 % 2147483647)).take m
def ur (c:Int)(m):(gC c m).length=m:=by unfold gC;rw[Fh,Fj,vA];omega
section
variable {c:Cl}
def uB:ax ú ú (aa (top 95)):=Nd
inductive gM (K:Ψ) (vs:π) (H:Hp) (Q:VK) (E:XK):Prop
 |mk (a:Addr) (k:Int) (ns:Ξ):vs=[.ref a,.int k]->0<=k->Jq K H a ş->(∀ c:Int,Q (.int c) H)->gM K vs H Q E
def v8 [Bx:Bd](T:oQ Bx.mg):Tk 1 "_law_cell_at" (top 95) ú (gM Bx.K):=by
 intro f fd F;show F.k uB λJ7 A outer s H vs Q E hr h=>?_
 ·let#[a,k,ns,1,hk,hS,q]:=h;show#[_,(ai (gw (pT fO (pv 1)<|bY (Zj Bx.K) rfl T.Jo boot_len (a9 (pv 0) IZ))
  (aq<|bO (pI (xP Bx.K) (pv 0)<|pv 1))
  Kp)
 (aq<|bO bf)),?_]
  show#[_,1,_,1,a,_,1,.inl hS,_,_,2,_,1,?_];show og (λhc=>?_) (λhc=>?_)
  ·let hc:=Fq hc;let#[v,ev,e]:=Dq hk hc;rw[Fb]at ev
   cases hn:ns[k.toNat]? with
   | none=>rw[hn]at ev;cases ev
   | some z=>
    rw[hn]at ev;let:v=.int z:=by simpa using ev.symm
    subst this;show#[_,1,_,1,a,_,k,_,2,hS,e,q z]
  ·show q 0
inductive jZ:Ä
 |mk {c:Int}{m:Nat}:m<=100->jZ [.int c,.int m] (rw (gC c m))
def xv [Bx:Bd](T:oQ Bx.mg):Tk 1 "_law_stream" (top 96) ā (Pr jZ):=by
 show Ks ["_law_found","_law_number","_law_k"] ?_ λ_ _ _ _ _ _ _ hr ND=>(qC (qo 2 ND<|c9 J4)
 (qC (qs 3 ND<|dO d3 LJ (Đ 0) dI)
 (qC (qW Fe (PW.pt<|jQ (dT aV bK (dO bt LJ (Đ 0) dI) dI) (jQ (dT iM cg (Đ 3) dI)<|bS (dT fO cg (cD T.Jo<|Đ 2)<|Đ 1)))
  (qC (qA (aF<|P2 Bx.K Fs FA Fy aH (pv 2) (a9 (dO bt LJ (Đ 3)<|dO Cd LJ dI dI) IZ)) λ_ _ _ h=>h)
 (q1<|qs 3 ND (dO d3 LJ (Đ 3)<|dO Cd LJ dI dI))))
 (qC (qs 3 ND<|dO bt LJ (dO cA LJ (Pj (dO d3 LJ (Đ 0) dI) dI) dI) dI)
 (qC (qL Fe rfl (QP rfl T.Ju<|da (Đ 1) J4) (pN 4 ND) (aG 4)
  (qC (qs 3 ND<|dO bt LJ (dO cA LJ (Đ 3)<|Pj (Pj (dO d3 LJ (Đ 3) dI) dI) (Đ 4)) dI)
 (qC (qA (aF<|P2 Bx.K Fs FA Fy aH (pv 2) (a9 (Đ 3) IZ)) λ_ _ _ h=>h)
 (q1<|qs 3 ND (Pj (Đ 3) dI)))))
 (qr<|UM (Đ 2) UL (UK<|Đ 1)))))))
 rintro _ _ @⟨c,m,hm⟩;show .nx #[#[1,by simp,1]] (.nx #[#[2,#[#[by decide,by decide]]]] ?_);show eZ (b:=(([]:Ξ),c / 2)) (λb ε=>(c % 2=0->b.1++xZ (m - b.1.length) b.2=xZ m (c / 2))/\(c % 2≠0->b.1=[])/\∃ o4,ε=[.fz<|.int c,.fz<|.int m,.ow<|rw b.1,.fz<|.int b.2,o4]) (λb=>m - b.1.length) #[λ_=>rfl,λ_=>rfl,_,1] λb ε h=>?_;let#[l,x]:=b;let#[h1,h2,o4,1]:=h;dsimp only at h1 h2 ⊢;let r1:=eq_int (ε:=[some<|.int c,some<|.int m,some<|rw l,some<|.int x,o4.a]) (ra:=rO (fI (λ_ j=>0<j) λi j=>MB<|.int (i % j)) (rV 0)<|rC (.int 2)) (rb:=rC<|.int 0) #[2,#[by decide]] rfl;let r2:=gt_int (ε:=[some<|.int c,some<|.int m,some<|rw l,some<|.int x,o4.a]) (ra:=rV 3) (rb:=rC<|.int 0) rfl rfl;let r3:=lt_int (ε:=[some<|.int c,some<|.int m,some<|rw l,some<|.int x,o4.a]) (ra:=rF KQ<|rA (rV 2) Nq) (rb:=rV 1) #[#[2],KQ.m] rfl;by_cases c0:c % 2=0/\0<x/\l.length<m
 ·let#[c1,c2,c3]:=c0;rw[EZ c1]at r1;rw[EZ c2]at r2;rw[EZ<|by omega]at r3;show .inr #[.t r1<|.t r2 r3,(l++[x % B9],x / B9),_,.nx ⟨rfl,by simp;omega,.z ⟨rfl,⟨rfl,rfl,⟨⟨by decide,by decide,by decide⟩⟩⟩,⟨by decide⟩⟩⟩ ⟨⟨rfl,⟨rfl,rfl,⟨⟨by decide,by decide,by decide⟩⟩⟩,⟨⟨by decide,by decide⟩⟩⟩⟩,⟨λz=>?_,λz=>absurd c1 z,o4,?_⟩,by simp;omega]
  ·let e:m - l.length=(m - (l++[x % B9]).length)+1:=by simp;omega
   rw[<- h1 c1,e,FK];change _=l++(if 0<x then _ else _)
   rw[if_pos c2];rfl
  ·rw[show rw (l++[x % B9])=.lst (l.map .int++[.int<|x % B9]) from congrArg D.lst Fa];rfl
 ·show .inl #[?_,?_]
  ·by_cases c1:c % 2=0
   ·rw[EZ c1]at r1;by_cases c2:0<x
    ·rw[EZ c2]at r2;rw[F5 λz=>c0 #[c1,c2,by omega]]at r3;show .t r1 (.t r2 r3)
    ·rw[F5 c2]at r2;show .t r1 (.f r2)
   ·rw[F5 c1]at r1;show .f r1
  let hl:l=wo c m:=by
   unfold wo;by_cases c1:c % 2=0
   ·rw[if_pos c1,<- h1 c1]
    cases e:m - l.length with
    | zero=>show (Ft _).symm
    | succ n=>rw[show xZ (n+1) x=[] from if_neg λz=>c0 #[c1,z,by omega],Ft]
   ·rw[if_neg c1];show h2 c1
  show .nx #[#[#[#[#[2,#[#[by decide,by decide]]],1,.i],1,#[.inr #[by decide,by decide]]],1,#[by decide]]] ?_;let hz:=wj m<|c / 2;let dl:(wo c m).length<=m:=by unfold wo;split;show hz;show FR _
  show c8 (List.range m) (u:=λ(i:Nat)=>.int (i:Int)) (λi ε=>∃ ys y o4,ε=[.fz<|.int c,.fz<|.int m,.ow<|rw (wo c m++ys),.fz<|.int y,o4]/\ys.length=i/\0<=y/\y<=2147483647/\ys++xz (m - i) i y=xz m 0 ((c / 2+7919) * 48271 % 2147483647)) #[[],_,o4,by rw[hl,Ft];rfl,1,G9 _<|by decide,Int.le_of_lt<|FU _ (by decide),1] ⟨m,by omega,⟨rfl,rfl⟩,(bg _).symm⟩ (λi z ε hi h=>?_) λε h=>?_
  ·let#[ys,y,o4,1,yl,y0,y1,ym]:=h;let#[1,XW]:=gT hi;show#[_,1,_,.nx #[#[#[1,#[#[#[2,#[#[by decide,by decide]]],1,.i],1,.i],#[.inl #[by omega,by omega]]],1,#[by decide]]]<|.nx #[1,by simp;omega,.z rfl] #[2,.i],ys++[y * On % 2147483647],y * On % 2147483647+1,.fz<|.int i,?_,by simp[yl],?_,?_,?_]
   ·rw[<- FK,show rw (wo c m++ys++[y * On % 2147483647])=.lst ((wo c m++ys).map .int++[.int<|y * On % 2147483647]) from congrArg D.lst Fa];rfl
   ·let:=G9 (y * On) (show (2147483647:Int)≠0 by decide);omega
   ·let:=FU (y * On) (show (0:Int)<2147483647 by decide);omega
   ·rw[<- ym,FK,show m - i=(m - (i+1))+1 by omega];rfl
  ·let#[ys,y,o4,1,yl,_,_,ym]:=h;rw[FO]at ym;rw[Nat.sub_self,show xz 0 _ _=[] from rfl,Ft]at ym;show#[#[1,.lst,1,#[1],1],?_];unfold gC;rw[<- ym,cG,<- GU]
abbrev fh (r:LT):D:=.tup [.int r.1,.str r.2.1,.str r.2.2]
abbrev aJ (R:List LT):D:=.lst (R.map fh)
inductive l8:Ä
 |mk {R:List LT}{x:Str}:R.length<=1000->l8 [aJ R,.str x] (rw (cF R x))
def Cj [Bx:Bd]:Tk 1 "_law_into" (top 98) ò (Pr l8):=by
 show Ks [] ?_ λ_ _ _ _ _ _ _ hr ND=>(qr (O8 0 rfl (cS 1 [1] ["_law_tie","_law_name"]) K4
  ė
  (λ_ _ _ _ _=>bF<|dT aV bK ŭ (Đ 1))
  L1))
 rintro _ _ @⟨R,x,hl⟩;show#[?_,Pf (λr:LT=>r.1) _];show be (u:=fh) (λr=>decide _) #[1,.l .lst] hl λr hr=>#[_,1,eq_str #[2,.t rfl] rfl,λ_=>#[2,.t rfl]]
universe e
universe K72
namespace L2
open PySem PySem.Spec PyProof.Rows
section
variable {α:Type}[DecidableEq α]{R:Hp->V->α->Prop}{k:Nat}
theorem look (bs:List (Key×α))(k:Key):Option α:=(bs.find? λe=>decide (e.1=k)).map (·.2)
theorem pY (as bs:List (Key×α)):Bool:=(as.length==bs.length)&&as.all λd=>decide (look bs d.1=!d.2)
def vD (k:Key):∀ {kb:ξ}{vb:List (Key×Value)}{bs:List (Key×α)},KV kb vb->Paired ľ kb bs->
  (valueAt vb k=none/\look bs k=none)\/∃ x y b,valueAt vb k=!y/\look bs k=!b/\RelV x y/\R H x b:=by
 intro kb vb bs h
 induction h generalizing bs with
 | nil=>intro h;cases h;show .inl #[2]
 | @cons p q kb vb y r ih=>
  intro h
  cases h with
  | @cons _ c _ _ y' r'=>
   let#[e1,r1]:=y;let#[e2,r2]:=y';by_cases h:p.1=k
   ·show .inr #[p.2,q.2,c.2,?_,?_,r1,r2]
    ·unfold valueAt
     simp_all
    ·simp_all [look,Gs]
   ·let ih:=ih r';unfold valueAt look at ih ⊢
    simp_all
def z4 (h:S9 X.K R k)(I)(hu:A.units+k<cLine)(YH:KV kb vb)(pb:Paired ľ kb bs):
  ∀ {ka:ξ}{va:List (Key×Value)}{as:List (Key×α)},KV ka va->Paired ľ ka as->W.KeqHits A s vb va (as.all λd=>decide (look bs d.1=!d.2)):=by
 intro ka va as h'
 induction h' generalizing as with
 | nil=>intro h;cases h;show .nil
 | @cons p q _ _ y r ih=>
  intro h'
  cases h' with
  | @cons _ c _ _ y' r'=>
   let#[e1,r1]:=y;let#[e2,r2]:=y';let ih:=ih r';rw[List.all_cons];let#[qk,qv]:=q;let e1:p.1=qk:=e1;rcases vD (R:=R) qk YH pb with⟨h1,h2⟩|⟨x,y,b,h1,h2,h3,h4⟩
   ·rw[show decide (look bs c.1=!c.2)=false from F5 (by rw[<- e2,e1,h2];show λz=>nomatch z),Bool.false_and];show .miss h1
   ·let he:=h.eq X A ñ s σ H p.2 x qv y c.2 b rfl I r1 h3 r2 h4 hu;let e3:decide (look bs c.1=!c.2)=decide (c.2=b):=by
     rw[<- e2,e1,h2];by_cases z:c.2=b
     ·rw[EZ z,EZ<|by rw[z]]
     ·rw[F5 z,F5 λw=>z (Option.some.inj w).symm]
    rw[e3];show .hit h1 he ih
def zR {as bs:List (Key×α)}(r1:KV ka va)(p1:Paired ľ ka as)(r2:KV kb vb)(p2:Paired ľ kb bs):
  ((va.length==vb.length)&&as.all λd=>decide (look bs d.1=!d.2))=pY as bs:=by
 unfold pY;rw[<- KV.length r1,<- KV.length r2,Paired.length p1,Paired.length p2]
universe e
theorem Iti (o)(d):It:=
 ⟨λi H=>∃ ķ kv,H d=!.frz o (.dK ķ)/\ķ[i]?=!kv,λi H v H'=>∃ T,H T=none/\v=.ref T/\∃ kv:Key×V,(∀ ķ,H d=!.frz o (.dK ķ)->ķ[i]?=!kv)/\H'=upd H T (.tup [kV kv.1,kv.2]),λi H=>∃ ķ,H d=!.frz o (.dK ķ)/\ķ.length<=i⟩
theorem a2o (it d:Addr)(n ep:Nat)(i)(h:Heap):Prop:=∃ ok ov,IsItemIter h it d i n ep ok ov
def wT {P:É}{w:World}{K:Ψ}{elts:Ì}{x1:Nat}{LH:Pos} (it d:Addr) (o) {es:Ñ}{ep:Nat} (ed):tM P w K ŝ (Iti o d) [it] it (a2o it d es.size ep) where
 mem:=by simp
 obj:=λi h st b hb=>by
  let e:b=it:=by simpa using hb
  let#[_,_,st]:=st
  simp_all
 keep:=λi h h' gR k=>by let#[ok,ov,st]:=gR;show#[ok,ov,k it Ğ _ st]
 item:=by
  intro X hP hw hK hc i ñ s σ H E I hf st hg;subst hP hw hK;let#[ķ,kv,hd,hx]:=hg;let#[ok,ov,st]:=st;let#[vs,r,da,hl]:=I.Y5 hd ed;let#[q,hq,hr]:=Paired.at r hx;rw[<- hl]at st;show wpAny_pyNext_items_item st da hq λkey h' Tc a1 a2 a3 a4=>?_;show#[_,1,wpAny_letOwnedTupleGo_items a1 λRy b1 sb=>?_];let hT:=I.Jk.fresh<|Fg _;let V0:it≠s.heap.objs.size:=λz=>absurd (FD st) (by rw[z];show Ho _);let kk:∀ c u,c∉[it]->s.heap.get? c=!u->Ry.get? c=!u:=λc u hc z=>by
   let hc:c≠it:=by simpa using hc
   show sb.extBut _ _ hc (a4 c u hc z)
  let I1:Inv X ñ σ H { s with heap:=Ry }:=I.NK hf kk;let I2:Inv X ñ σ (upd H s.heap.objs.size<|.tup [kV kv.1,kv.2]) { s with heap:=Ry }:=by
   show I1.Sx (I.OZ (Fg _) hT) I.sz #[by change 2<=sizeLine;decide,[key,q.2],.cons ?_<|.cons hr.2 .nil,?_]
   ·rw[hr.1];show mr Tc
   ·show#[_,sb.extBut _ _ (Ne.symm V0) a2,1,_,1]
  show#[.ref s.heap.objs.size,_,I2,1,#[_,hT,1,kv,λWA Po=>?_,1],#[key,q.2,?_],λc hc=>?_]
  ·simp_all
  ·rw[hl]at b1;show b1
  ·let hc:c=it:=by simpa using hc
   subst hc;rw[a8 V0];show (hf c<|by simp).1
 done:=by intro X hP hw hK hc i ñ s σ H E I hf st hg;subst hP hw hK;let#[ķ,hd,hx]:=hg;let#[ok,ov,st]:=st;let#[vs,r,da,hl]:=I.Y5 hd ed;let#[f0,f1,f2,f3,f4,f5]:=hf it Ğ;rw[<- hl]at st;let:=KV.length r;show wpAny_pyNext_items_end Ŋ st da (Gw<|by lia) λh' eb=>#[1,I.turned ű f0 f1 f3 f4 f5]
 self:=λ_ _ _ _ _ gR h=>by let#[ok,ov,st]:=gR;show W.kcp_self st h
section
variable {K:Ψ}
def yX:∀ {as:Ξ}{vs:π},Jj F (as.map .int) vs->Paired (Og H) vs as:=by
 intro r'
 induction r' with
 | nil=>
  intro _ h
  cases h;show .nil
 | cons _ as ih'=>
  intro _ y1';let#[_,_,e,h1,h2]:=y1';subst e;show .cons h1 (ih' h2)
def gO (s)(h:DR F (rw as) v):b7 K Og H v as:=let ⟨a,vs,e,h1,h2⟩:=h;#[a,vs,e,Jq.of<|s _ _ h1,yX h2]
def yu (s):∀ {t:Θ}{vs:π},Jj F (t.map rw) vs->Paired (b7 K Og H) vs t:=by
 intro r'
 induction r' with
 | nil=>
  intro _ h
  cases h;show .nil
 | cons _ t ih'=>
  intro _ y1';let#[_,_,e,h1,h2]:=y1';subst e;show .cons (gO s h1) (ih' h2)
def kg (s)(h:DR F (tb t) v):b7 K (b7 K Og) H v t:=let ⟨a,vs,e,h1,h2⟩:=h;#[a,vs,e,Jq.of<|s _ _ h1,yu s h2]
def ju:∀ {as:η}{vs:π},Jj F (as.map .str) vs->Paired (isA H) vs (as.map (Sum.inr:Str->Key)):=by
 intro r'
 induction r' with
 | nil=>
  intro _ h
  cases h;show .nil
 | cons _ as ih'=>
  intro _ y1';let#[_,_,e,h1,h2]:=y1';subst e;show .cons h1 (ih' h2)
def rJ (s){as:η}(h:DR F (.lst (as.map .str)) v):b7 K isA H v (as.map (Sum.inr:Str->Key)):=let ⟨a,vs,e,h1,h2⟩:=h;#[a,vs,e,Jq.of<|s _ _ h1,ju h2]
def CJ {as:η}:decide (as.map (Sum.inr:Str->Key)=bs.map Sum.inr)=decide (as=bs):=by simp[List.map_inj_right]
inductive fL (n:Bool):D->D->D->Prop
 |r {as bs:Ξ}:fL n (rw as) (rw bs) (.bl (n ^^ decide (as=bs)))
 |t {as bs:Θ}:fL n (tb as) (tb bs) (.bl (n ^^ decide (as=bs)))
 |s {as bs:η}:fL n (.lst (as.map .str)) (.lst (bs.map .str)) (.bl (n ^^ decide (as=bs)))
def Vf (hr:X.A.units+2<cLine):Kz X (compareOp .Eq) (λx y H Q=>(∃ as bs,b7 X.K Og H x as/\b7 X.K Og H y bs/\Q Ŭ H)\/(∃ as bs,b7 X.K (b7 X.K Og) H x as/\b7 X.K (b7 X.K Og) H y bs/\Q Ŭ H)\/(∃ as bs,b7 X.K isA H x as/\b7 X.K isA H y bs/\Q Ŭ H)):=
 Kz.or (xh gf<|by lia) (Kz.or (xh (h8 gf) hr)<|xh zf #[])
def Vg:Pk (fL false) (λx y H Q=>(∃ as bs,b7 K Og H x as/\b7 K Og H y bs/\Q Ŭ H)\/(∃ as bs,b7 K (b7 K Og) H x as/\b7 K (b7 K Og) H y bs/\Q Ŭ H)\/(∃ as bs,b7 K isA H x as/\b7 K isA H y bs/\Q Ŭ H)):=λF H x y u v d Q s z hu hv q=>by
 cases z with
 | r=>show .inl #[_,_,gO s hu,gO s hv,tP.at s q (by rw[Bool.false_xor];rfl)]
 | t=>show .inr (.inl #[_,_,kg s hu,kg s hv,tP.at s q (by rw[Bool.false_xor];rfl)])
 | s=>show .inr (.inr #[_,_,rJ s hu,rJ s hv,tP.at s q (by rw[CJ,Bool.false_xor];rfl)])
def yO (hr:X.A.units+2<cLine):Kz X (compareOp .NotEq) (λx y H Q=>(∃ as bs,b7 X.K Og H x as/\b7 X.K Og H y bs/\Q ŏ H)\/(∃ as bs,b7 X.K (b7 X.K Og) H x as/\b7 X.K (b7 X.K Og) H y bs/\Q ŏ H)\/(∃ as bs,b7 X.K isA H x as/\b7 X.K isA H y bs/\Q ŏ H)):=
 Kz.or (xg gf<|by lia) (Kz.or (xg (h8 gf) hr)<|xg zf #[])
def yP:Pk (fL true) (λx y H Q=>(∃ as bs,b7 K Og H x as/\b7 K Og H y bs/\Q ŏ H)\/(∃ as bs,b7 K (b7 K Og) H x as/\b7 K (b7 K Og) H y bs/\Q ŏ H)\/(∃ as bs,b7 K isA H x as/\b7 K isA H y bs/\Q ŏ H)):=λF H x y u v d Q s z hu hv q=>by
 cases z with
 | r=>show .inl #[_,_,gO s hu,gO s hv,tP.at s q (by rw[Bool.true_xor];rfl)]
 | t=>show .inr (.inl #[_,_,kg s hu,kg s hv,tP.at s q (by rw[Bool.true_xor];rfl)])
 | s=>show .inr (.inr #[_,_,rJ s hu,rJ s hv,tP.at s q (by rw[CJ,Bool.true_xor];rfl)])
universe e
section
variable {α:Type}[DecidableEq α]{R:Hp->V->α->Prop}
open Classical in
theorem UG (its:θ)(as:List α)(a:α)(u):Bool:=if h:∃ b,∃ i:Nat,its[i]?=!u/\as[i]?=some b then decide (h.choose=a) else false
def oB (h:S9 X.K R k)(I){as:List α}(r:Vals vs its)(p:Paired (R H) vs as){a:α}:
  (∀ (i:Nat) u b,its[i]?=!u->as[i]?=!b->UG its as a u=decide (b=a)):=λi u b h1 h2=>by
 let ex:∃ b,∃ i:Nat,its[i]?=!u/\as[i]?=!b:=#[b,i,h1,h2]
 unfold UG;rw[dif_pos ex];let#[j,h3,h4]:=ex.choose_spec;let at':∀ (i:Nat) b,its[i]?=!u->as[i]?=!b->∃ v,RelV v u/\R H v b:=λi b h1 h2=>by
  let hi:i<vs.length:=by rw[r.length];show (EY.mp h1).1
  let#[u',g1,g2]:=r.get<|EW hi;let#[b',g3,g4]:=Paired.at p (EW hi);rw[h1]at g1;cases g1;rw[h2]at g3;cases g3;show#[_,g2,g4]
 let#[v,q1,q2]:=at' i b h1 h2;let#[v',q3,q4]:=at' j _ h3 h4;rw[q1.inj q3]at q2;rw[h.fn X ñ s σ H _ _ _ rfl I q4 q2]
def D2 (h:S9 X.K R k)(I)(hu:A.units+k<cLine){as:List α}(r:Vals vs its)(p:Paired (R H) vs as){a:α}(rx)(ra:R H x a):∀ u∈its,SeqAt.EqAt A s u v (UG its as a u):=λu hu'=>by
 let#[i,hi,e]:=FN.mp hu';let h1:its[i]?=!u:=by rw[EW hi,e]
 let hv:i<vs.length:=by rw[r.length];show hi
 let#[u',g1,g2]:=r.get<|EW hv;let#[b,g3,g4]:=Paired.at p (EW hv);rw[h1]at g1;cases g1;rw[oB h I r p i u b h1 g3];show h.eq X A ñ s σ H _ _ _ _ b a rfl I g2 rx g4 ra hu
def EM {as:List α}{a:α}(hl:its.length=as.length)(h:∀ (i:Nat) u b,its[i]?=!u->as[i]?=!b->UG its as a u=decide (b=a)):its.toArray.any (UG its as a)=decide (a∈as):=by
 rw[show its.toArray.any _=its.any (UG its as a) by simp,Go,List.any_eq_true,He];constructor
 ·rintro⟨u,hu,e⟩;let#[i,hi,eu]:=FN.mp hu;rw[h i u _ (by rw[EW hi,eu])<|EW (show i<as.length by lia)]at e;rw[<- Fq e];show Gi _
 ·intro ha;let#[i,hi,eb]:=FN.mp ha;let h1:=EW (show i<its.length by lia);show#[_,F6 h1,by rw[h i _ _ h1<|EW hi,eb];show EZ rfl]
def Ac (h:S9 X.K R k)(hu:X.A.units+(k+1)<cLine):Kz X (compareOp .NotIn) (λx y H Q=>∃ a as,R H x a/\b7 X.K R H y as/\Q L7 H):=by
 intro ñ s σ H x y v u Q I rx ry hq;let#[a,as,ra,#[p,vs,1,hs,hp],q]:=hq
 cases ry;let#[its,r,pl,hz]:=I.list hs;show SeqAt.notIn_listAt _ pl.isList (λw hw=>D2 h I #[] r hp rx ra w<|by simpa using hw) #[.bl _,H,I,1,?_];rw[EM (by rw[<- r.length,Paired.length hp])<|oB h I r hp];show q
def EE (i1 i2:Decidable p):@decide p i1=@decide p i2:=by cases i1 <;> cases i2 <;> first|rfl|contradiction
def Z2 (hu:X.A.units+2<cLine):Kz X (compareOp .NotIn) (λx y H Q=>∃ (a:Ξ)(as:Θ),b7 X.K Og H x a/\b7 X.K (b7 X.K Og) H y as/\Q L7 H):=
 (Ac (h8 gf) hu).imp λx y H Q gR=>by let#[a,as,h1,h2,q]:=gR;show#[a,as,h1,h2,(congrArg (λb=>Q (V.bl<|not b) H)<|EE _ _).mp q]
inductive fNi:D->D->D->Prop
 |mk {a:Ξ}{as:Θ}:fNi (rw a) (tb as) L7
def a22 {K:Ψ}:Pk fNi (λx y H Q=>∃ a as,b7 K Og H x a/\b7 K (b7 K Og) H y as/\Q L7 H):=λF H x y u v d Q s z hu hv q=>by obtain⟨⟩:=z;show#[_,_,gO s hu,kg s hv,tP.at s q rfl]
theorem E1 (K)(R:Hp->V->α->Prop):V->List V->Hp->VK->Prop:=λx ws H Q=>∃ (v:V)(a:α)(as:List α)(j:Nat),ws=[v]/\R H v a/\b7 K R H x as/\as[j]?=!a/\(∀ i b,i<j->as[i]?=!b->b≠a)/\Q (.int (j:Nat)) H
def Ar (h:S9 X.K R k)(hu:X.A.units+(k+1)<cLine):MtR X "list.index" (E1 X.K R):=by
 intro ñ s σ H x ws v us Q I rx rv hq;let#[w,a,as,j,1,ra,#[l,vs,1,hs,hp],hj,hno,q]:=hq
 cases rx;let#[u,1,ru]:=dD rv;let#[its,r,pl,hz]:=I.list hs;let hlen:its.length=as.length:=by rw[<- r.length,Paired.length hp]
 let sp:=oB (a:=a) h I r hp;let hjl:j<its.length:=by rw[hlen];show (EY.mp hj).1
 let hn:=kM;let#[#[oc,odi,oda,KR],ho,hc,n,hd]:=id pl.isList;subst hc hd;show Ip F.slot_list_index #[_,ho,1] F.entry_list_index (F.args_list_index_2 _ _) (SeqAt.list_indexAt l its.toArray n odi KR u _ j (hjl) ?_ ?_ ?_) #[ho,λy' Zx=>D2 h I #[] r hp ru ra y'<|by simpa using Zx,?_]
 ·let:=(EY.mp hj).1;rw[<- Paired.length hp]at this
  lia
 ·rw[List.getElem_toArray,sp j _ a (EW hjl) hj];show EZ rfl
 ·intro m hm hmj;let XR:m<its.length:=by simpa using hm
  let h2:=EW (show m<as.length by lia);rw[List.getElem_toArray,sp m _ _ (EW XR) h2];show F5 (hno m _ hmj h2)
 ·show#[.int _,H,I.tok _,#[_,1],q]
inductive YS (ra rb:Rx) (ε:En) (d:D):Prop
 |mk {as:Θ}{a:Ξ}{j:Nat}:ra ε (tb as)->rb ε (rw a)->as[j]?=!a->(∀ i b,i<j->as[i]?=!b->b≠a)->d=.int (j:Nat)->YS ra rb ε d
def dIx (hu:X.A.units+2<cLine)(ha:PE X o (tP ra))(hb:PE X e (tP rb))(Lu:attributeBase o "index" X.env (eval o X.env)=eval o X.env:=Ą)(Td:((backTo JI (starEach [e] X.env)).all (λx=>not x.1)&&(backToKw JI Ĺ).all (λx=>x.1.isSome)&&decide ([e].length+([]:List Keyword).length+ŧ<30))=true:=Ą)(Md)(hs:starEach [e] X.env=TW::starEach [] X.env:=Ą)(OY:(backTo JI (starEach ([]:Ì) X.env)).any (·.1)=false:=Ą):
  PE X (.Call (.Attribute o "index" apos) [e] [] JI) (tP (YS ra rb)):=(P2 X.K F.plainAttrs_list F.slot_list_index F.type_list_index (Ar (h8 gf) hu) ha (a9 hb IZ hs) rfl Lu Td Md hs OY).imp λσ H Q gR=>by
 let#[F,ε,d,S,h,q]:=gR;let#[h1,h2,h3,h4,1]:=h;show tP.go S h1 λx H1 e1 S1 q1=>?_;let#[p,vs,1,hp,hv]:=id q1;show#[.inl #[1,vs,Jq.of<|S1.le _ _ hp],tP.go S1 h2 λy H2 e2 S2 q2=>#[y,_,_,_,1,gO S2.le q2,kg S2.le<|q1.mono (aj S1.le),h3,h4,q _ _ Ň rfl]]
universe e
section
variable {ð:ι}
abbrev pI2 (kd:Key×D):D:=.tup [kD kd.1,kd.2]
def Zn:∀ {k:Key},DR F (kD k) (kV k)
 | .inl _=>rfl
 | .inr _=>rfl
def AB:Dy Iti pI2:=λ{F a ob ķ ð} h h1 h2=>
 #[λH i d s e=>by
  rw[Fb]at e
  cases z:ð[i]? with
  | none=>rw[z]at e;cases e
  | some kd=>
   rw[z]at e;cases e;let#[v,e1,e2]:=h2.at (show _[i]?=some kd.2 by simp_all)
   let t1:(ķ.map (·.1))[i]?=!kd.1:=by simp_all
   rw[Fb]at e1 t1
   cases y:ķ[i]? with
   | none=>simp_all
   | some kv=>
    rw[y]at e1 t1;cases e1;let e3:kv.1=kd.1:=Option.some.inj t1;show#[#[ķ,kv,s _ _ h,y],λx H' gR=>?_];let#[T,hT,ex,kv',e4,e5]:=gR;let:=e4 ķ<|s _ _ h;rw[y]at this;cases this;subst ex e5;rw[e3];show xf s hT Zn e2,λH i s z=>#[ķ,s _ _ h,by let:=h2.length;simp at this z;lia]]
def qe {x1:Nat}(hl:PE X l tl)(Lu:attributeBase l "items" X.env (eval l X.env)=eval l X.env:=Ą)(Md):PI X ŝ (.Call (.Attribute l "items" apos) [] [] JI) (Zw X Iti tl):=by
 intro ñ s σ H R I h;let#[Q,hq,h]:=h;show wpAny_Call_method0_late Lu Md (Jx (hl ñ s σ H _ I hq) λv s1 gR=>?_);let#[x,H1,I1,r1,q1]:=gR;let#[d,ķ,e,hd,q]:=h x H1 q1;subst e
 cases r1;let#[z,lo,vs,r,ob,es,ep,ho,c1,c2,c3,c4,c5]:=(hd.ok I1.Jk)
 let hsz:vs.length=es.size:=by rw[<- c4.length];simp
 let da:s1.heap.DictAt _ d vs ep:=#[ob,es,ho,c1,c2,c3,c4,c5]
 show#["dict","dict.items",F.plainAttrs_dict,F.slot_dict_items,F.type_dict_items,da.dictOf.typeIs,λa e2=>?_,Hx rfl (PySem.evalArgs_none ?_)]
 ·cases e2;show#[ob,ho,c1.2.1]
 show call_meetsIn F.slot_dict_items da.dictOf.typeIs F.entry_dict_items (F.args_dict_items_1 _) (meets_dict_items _ d lo) #[#[vs,da.dictOf],?_];let#[H2,I2,fz]:=I1.fz2 hd ho;let I2:=I2.kept (t':=s1.toks) (h':=s1.heap.push { cls:=.type "dict_items",data:=.fields [.ref d].toArray }) λb o e=>Fc _ e;show wpAny_pyIter_items #[_,Fx _ rfl,2] (da.push _) ?_;rw[hsz];show#[_,[(s1.heap.push { cls:=.type "dict_items",data:=.fields [.ref d].toArray }).objs.size],_,_,_,1,I2.kept λb o e=>Fc _ e,wT _ d ob c2,#[_,_,Fx _ rfl],λb hb=>?_,q ob H2 fz];let e:b=(s1.heap.push { cls:=.type "dict_items",data:=.fields [.ref d].toArray }).objs.size:=by simpa using hb
 subst e;show I2.OZ (Fg _) (I2.Jk.fresh<|Fg _)
def yY:∀ l:Ξ,Jj F (l.map .int) (l.map V.int):=by
 intro r'
 induction r' with
 | nil=>
  show rfl
 | cons _ l ih'=>
  show #[_,_,2,ih']
inductive rIs (r:Rx) (ε:En) (l:χ):Prop
 |mk {ð:ι}:r ε (Km ð)->l=ð.map pI2->rIs r ε l
def qLi (hp)(hc)(hi:PI X tg iter (Zw X Iti (tP rd)))(ht:PG X tg g)(hg:U6 g q)(hb:OL X ss rb)(hs):QS X K0 (iH (rIs rd) q rb):=by
 intro F0 H0 ñ s σ H E I h;obtain⟨F,ε,f,S,@⟨l,@⟨ð,h1,hl⟩,h2⟩,p⟩:=h;subst hl;let U4:Nj X ss Ŵ:=λñ s σ H E I gR=>by let#[F0,H0,h]:=gR;show hb F0 H0 ñ s σ H E I h
 show Jx (bW hp hc hi ht U4 hs ñ s σ H _ I #[λx H1=>f' H H1/\DR _ _ x,tP.go S.z h1 λx H1 e1 _ q1=>#[e1,q1],λx H1 gR=>(by let#[e1,a,ķ,ex,p1,p2,p3]:=gR;show#[a,ķ,ex,p1.mono (S.grow e1).le,λo H2 fz=>kQ AB hg (S.grow e1) p1 p2 p3 fz h2<|p.up (aj S.le)])]) λf s' q=>SP.R8 q
inductive BG (i:Nat) (re:Rx) (ε:Ev):Fl->Prop
 |mk {l:Ξ}{d:D}:re ĸ d->d=rw l->BG i re ε (.nx (ε.set i (.ow (rw l))))
def qON {st:Stmt}(h:PS X st (jt te (bU i)))(k:∀ σ H Q,tN re σ H Q->te σ H Q):QS X st (BG i re):=λF0 H0=>h.imp λE σ H gR=>by let#[F,ε,f,S,h,p]:=gR;let#[h1,1]:=h;show k _ _ _ #[_,_,_,S.a,h1,λa H1 e1 n w=>?_];let#[vs,w1,w2]:=w;let#[F',u,S']:=S.YD i n e1<|show QB _ H1 (rw _) a from #[vs,w1,by rw[ja w2];show yY _];show p _ H1 F' u S'
def a0Q (ha)(hb:PE X b (tP rb)):PE X (.BinOp a .Mult b pos) (tN (rO X' ra rb)):=(jx kB ha hb).imp λσ H Q gR=>by
 let#[F,ε,d,S,h,q]:=gR;obtain @⟨_,_,hx,hy,f⟩:=h;obtain @⟨x,k,hk⟩:=f;show tP.go S hx λu H1 e1 S1 q1=>tP.go S1 hy λv H2 e2 S2 q2=>?_;let#[a,vs,1,p1,w,ws,1,p2,1]:=q1;show#[a,k,[w],1,q2,e2 _ _<|S1.le _ _ p1,#[],#[],?_,λp n=>q p _ ((e1.trans e2).trans<|aQ Ĩ n) ((e1.trans e2).free n) #[_,af,?_]]
 ·show Fo (by simpa using hk) (by decide +kernel:1000<=sizeLine)
 ·let np:grow F H H1 p=none:=by
   cases z:grow F H H1 p with
   | none=>rfl
   | some o=>rw[e2 _ _<|S1.le _ _ z]at n;cases n
  rw[GM];let p2:=p2.mono<|kq (aT<|e2.trans (aQ (o:=.lst<|(List.replicate k [w]).flatten) Ĩ n)) np;generalize bc p _=G at p2 ⊢;clear hk hy q2 q
  induction k with
  | zero=>rfl
  | succ k ih=>show#[w,_,1,p2,ih]
inductive cInt:Ä
 |b {b:Bool}:cInt [.bl b] (.int (if b then 1 else 0))
def Xp:Cb cInt A9:=λF H l xs d Q s z hx q=>by
 obtain⟨⟩:=z;obtain⟨v,ws,rfl,h1,h2⟩:=hx
 cases h1
 cases h2;show .inr #[_,1,tP.at s q rfl]
universe e
universe L2
namespace K72
open PySem L2
open PyProof.Rows (boot_all boot_any boot_bool boot_dict boot_int boot_list boot_sorted boot_str boot_tuple)
theorem h9 (R)(col)(x):List b5:=(R.filter λr=>decide (r.2.1=x)).map λr=>(r.1,col r.1)
theorem bh (R)(col)(ord:η):List b5:=ord.flatMap (h9 R col)
def WI {R:List LT}(nd:(R.map (·.1)).Nodup)(h:r∈R)(h':r'∈R)(e:r.1=r'.1):r=r':=my nd h h' e
def N4:x∈bh R col ord ↔ ∃ r∈R,r.2.1∈ord/\x=(r.1,col r.1):=by
 unfold bh h9;rw[Hs];constructor
 ·rintro⟨y,hy,h⟩;let#[r,h1,h2]:=F8.mp h;let#[h3,h4]:=Fn.mp h1;show#[r,h3,by simp_all,h2.symm]
 ·rintro⟨r,h1,h2,rfl⟩;show#[r.2.1,h2,F8.mpr #[r,Fn.mpr #[h1,EZ rfl],1]]
def gN (nd:(R.map (·.1)).Nodup):∀ {ord:η},ord.Nodup->((bh R col ord).map (·.1)).Nodup:=by
 intro r'
 induction r' with
 | nil=>
  intro _;show .nil
 | cons x ord ih'=>
  intro h;let#[h1,h2]:=FM.mp h;rw[show bh R col (x::ord)=h9 R col x++bh R col ord from rfl,Fa,FE];show#[?_,ih' h2,λa ha b hb e=>?_]
  ·unfold h9;rw[F9];show nd.sublist (List.filter_sublist.map _)
  ·unfold h9 at ha;rw[F9]at ha;let#[r,hr,1]:=F8.mp ha;let#[hr,hx]:=Fn.mp hr;let#[y,hy,e2]:=F8.mp hb;let#[r',T5,ho,1]:=N4.mp hy;let:=WI nd hr T5 (e.trans e2.symm)
   grind
def zS (nd:(R.map (·.1)).Nodup)(h:ord.Nodup):(bh R col ord).length<=R.length:=by
 let:=eA (ys:=R.map _) (gN (col:=col) nd h) λk hk=>by let#[x,hx,1]:=F8.mp hk;let#[r,hr,_,1]:=N4.mp hx;show Fd hr
 simp_all
section
variable {r2 rb:Rs}{ε:Ev}{J:Ù}{q:Ô}{α β:Type}{u:α->D}{ri:Ri}
def a4A (h:rt ĸ true)(k:∃ ε2,rx ε (.nx ε2)/\J ε2):∃ ε2,Uh rt rx ry ε (.nx ε2)/\J ε2:=let ⟨ε2,a,b⟩:=k;#[ε2,.t h a,b]
def a0G (h:rt ĸ false)(k:∃ ε2,ry ε (.nx ε2)/\J ε2):∃ ε2,Uh rt rx ry ε (.nx ε2)/\J ε2:=let ⟨ε2,a,b⟩:=k;#[ε2,.f h a,b]
def a0E (xs)(I:β->Ù)(g){b:β}(h0:I b ε)(hl)(k:∀ b x ε,x∈xs->I b ε->∃ ε1,q (u x) ε ε1/\∃ ε2,rb ε1 (.nx ε2)/\I (g b x) ε2)(fin:∀ ε',I (xs.foldl g b) ε'->∃ ε2,r2 ε' (.nx ε2)/\J ε2):∃ ε',ku (iH ri q rb) r2 ε (.nx ε')/\J ε':=
 let #[ε',h1,h2]:=jM I g xs k h0;let #[ε2,h3,h4]:=fin ε' h2
 #[ε2,.nx (.mk hl h1) h3,h4]
universe e
theorem wH (m)(p)(col)(row:Ξ)(z:Int×Int):Ξ:=(List.range m).map λj=>(row.getD j 0+z.1 * (col z.2).getD j 0) % p
structure kZ (R:List LT) (ord:η) (pl:List b5) (m:Nat) (p:Int) (fs:Ξ) (col:Int->Ξ):Prop where
 key:(R.map (·.1)).Nodup
 Z5:ord.Nodup
 Ka:R.length<=100
 m1:m<=1000
 p0:0<p
 TY:(pl.map (·.1)).Nodup
 pin:∀ r∈R,(r.1,ca pl r.1)∈pl
 pz:∀ r∈R,∀ z∈ca pl r.1,0<=z/\z<1000000
 pln:∀ r∈R,(ca pl r.1).length<=1000
 len:∀ r∈R,(col r.1).length=m
 up:∀ t∈R,∀ (i:Nat),ord[i]?=!t.2.2->t.2.1∈ord.take i
 fix:∀ r∈R,col r.1=if r.1∈fs then List.replicate m 0 else if r.2.1="h" then ca pl r.1 else ((ca pl r.1).zip (cF R r.2.1)).foldl (wH m p col) C7
def mf {pl:List b5}(nd:(pl.map (·.1)).Nodup)(h:(k,row)∈pl):cI (pl.map λr=>(.inl r.1,rw r.2)) (.inl k)=!rw row:=by show dE ?_ (F8.mpr #[_,h,1]);rw[F9];let:=HG (S:=λa b:Key=>a≠b) (λk:Int=>_) (λa b UA e=>UA<|Sum.inl.inj e) nd;rwa [F9]at this
inductive u0:Ä
 |mk {R:List LT}{ord:η}{pl:List b5}{m:Nat}{p:Int}{fs:Ξ}{col:Int->Ξ}:kZ R ord pl m p fs col->u0 [aJ R,aI ord,av pl,.int m,.int p,rw fs] (av (bh R col ord))
def Ch [Bx:Bd](T:oQ Bx.mg)(Kq):Tk 2 "_law_rows" (top 100) á (Pr u0):=by
 show Ks ["_law_rows_here","_law_name","_law_number","_law_one","_law_other","_law_row","_law_multiplier","_law_tie"] ?_ λ_ _ _ _ _ _ _ hr ND=>(qC (qo 6 ND Xg)
 (qC (Pg Fe rfl No ZB (aG 7)
  (q1 (Pg Fe rfl K4 (bX Bx.K rfl<|ae (pN 8 ND) (ae (pN 9 ND)<|ae (pN 10 ND) aB)) (cr Bx.K [8,9,10])
  (q1 (qI (PW.pt<|jQ (dT aV bK (Đ 9)<|Đ 7) (bS<|TV (aK hr) (Đ 8) (Đ 5)))
  (q1<|qP (bB (aK hr) (pv 6) (Đ 8) (dO kB ve (c9<|da dI J4).p<|Đ 3) rfl) (λ_ _ _ h=>h))
  (q1 (qI (PW.pt<|jQ (dT aV bK (Đ 9)<|Đ 7) (bS<|dT aV bK (Đ 7) bi))
  (q1<|qP (bB (aK hr) (pv 6) (Đ 8) (Sn fS (cW rfl) rfl T.MH boot_list<|da (Js hr (Đ 2)<|Đ 8) J4) rfl) (λ_ _ _ h=>h))
  (q1 (qI (dT aV bK (Đ 9)<|Đ 7)
  (qC (qo 11 ND<|a0Q (c9<|da dI J4).p (Đ 3))
 (qC (qL Fe rfl (iZ rfl T.Lq<|da (Js hr (Đ 2)<|Đ 8) (da (dF Kq hr.m rfl<|da (Đ 0) KM) J4)) (bX Bx.K rfl<|ae (pN 12 ND) (ae (pN 13 ND) aB)) (cr Bx.K [12,13])
  (q1 (qON (pS 11 ND (dLN 0 rfl (cS 1 [4,6,11,12,13] ["_law_k","_law_prime","_law_rows_here","_law_row","_law_multiplier","_law_tie"]) (QP rfl T.Ju<|da (Đ 3) J4)
  ė
  Mf
  (λ_ _ _ _ _=>dO bt LJ (Pj (Js hr (Đ 3)<|Đ 0)<|dO cA LJ (Đ 4) (Js hr (Js hr (Đ 2)<|Đ 5)<|Đ 0))<|Đ 1))) λ_ _ _ h=>h)))
 (qZ 11<|q1 (qP (bB (aK hr) (pv 6) (Đ 8) (Đ 11) rfl) λ_ _ _ h=>h))))
  q0)))))))))
 (qr<|Đ 6)))
 rintro _ _ @⟨R,ord,pl,m,p,fs,col,O⟩;show .nx #[1] ?_;show c8 ord (λi ε=>∃ o7 o8 o9 NX Le Kg LK,ε=[.fz<|aJ R,.fz<|aI ord,.fz<|av pl,.fz<|.int m,.fz<|.int p,.fz<|rw fs,.ow<|av (bh R col<|ord.take i),o7,o8,o9,NX,Le,Kg,LK]) ⟨_,_,_,_,_,_,_,rfl⟩ ⟨rfl,.l .lst⟩ (λi x ε hi gR=>?_) λε gR=>?_
 ·let#[o7,o8,o9,NX,Le,Kg,LK,he]:=gR;subst he;show#[_,1,AQ R (λj ε=>∃ o8 o9 NX Le Kg LK,ε=[.fz<|aJ R,.fz<|aI ord,.fz<|av pl,.fz<|.int m,.fz<|.int p,.fz<|rw fs,.ow<|av (bh R col (ord.take i)++h9 (R.take j) col x),.fz<|.str x,o8,o9,NX,Le,Kg,LK]) ⟨_,_,_,_,_,_,by rw[show h9 (R.take 0) col x=[] from rfl,Ft];rfl⟩ ⟨rfl,.l .lst⟩ (λj r ε hj gR=>?_) λε' gR=>?_]
  ·let#[o8,o9,NX,Le,Kg,LK,he]:=gR;subst he;let hr:=F6 hj;let xm:=F6 hi;let sub:∀ j,(bh R col (ord.take i)++h9 (R.take j) col x).Sublist (bh R col<|ord.take (i+1)):=λj=>by rw[aR hi,show bh R col (ord.take i++[x])=bh R col (ord.take i)++h9 R col x by unfold bh;rw[Gn];simp];show (List.Sublist.refl _).append (((Ib _ _).filter _).map _)
   let nd1:=O.Z5.sublist<|Ib (i+1) ord;let ndb:=(gN O.key nd1).sublist<|(sub<|j+1).map (·.1);let ndj:=(gN O.key nd1).sublist<|(sub j).map (·.1);let rl:(bh R col (ord.take i)++h9 (R.take j) col x).length<=1000:=Fo (sub j).length_le<|Fo (zS O.key nd1) (Fo O.Ka<|by decide);let inb:∀ k∈cF R x,(k,col k)∈bh R col (ord.take i)++h9 (R.take j) col x/\(col k).length=m:=λk hk=>by let#[t,ht,1]:=F8.mp hk;let#[ht,e]:=Fn.mp ht;let e:=Fq e;show#[FV _<|N4.mpr #[t,ht,O.up t ht i (by rw[e];show hi),1],O.len t ht]
   generalize hb:bh R col (ord.take i)++h9 (R.take j) col x=b at rl ndj inb ⊢;let eb:r.2.1=x->bh R col (ord.take i)++h9 (R.take<|j+1) col x=b++[(r.1,col r.1)]:=λe=>by rw[<- hb,aR hj];unfold h9;rw[GS,Fa,Gp,if_pos<|EZ e,FK];rfl
   let en:r.2.1≠x->bh R col (ord.take i)++h9 (R.take<|j+1) col x=b:=λe=>by rw[<- hb,aR hj];unfold h9;rw[GS,Fa,Gp,if_neg (by rw[F5 e];show nofun),List.filter_nil,GE,Ft]
   let r1:=eq_str (ε:=[some<|aJ R,some<|aI ord,some<|av pl,some<|.int m,some<|.int p,some<|rw fs,some<|av b,some<|.str x,some<|.int r.1,some<|.str r.2.1,some<|.str r.2.2,Le.a,Kg.a,LK.a]) (ra:=rV 9) (rb:=rV 7) rfl rfl;let r2:=eq_str (ε:=[some<|aJ R,some<|aI ord,some<|av pl,some<|.int m,some<|.int p,some<|rw fs,some<|av b,some<|.str x,some<|.int r.1,some<|.str r.2.1,some<|.str r.2.2,Le.a,Kg.a,LK.a]) (ra:=rV 7) (rb:=rC<|.str "h") rfl rfl;show#[_,#[_,3],?_];by_cases c1:r.2.1=x
   ·rw[eb c1]at ndb;let nk:(.inl r.1:Key)∉(b.map λr=>Ŕ).map (·.1):=λz=>by rw[F9]at z;let#[y,hy,e]:=F8.mp z;rw[Fa]at ndb;show (FE.mp ndb).2.2 y.1 (Fd hy) r.1 Ğ (Sum.inl.inj e)
    rw[eb c1];rw[EZ c1]at r1;let put:∀ {Le Kg LK:Sl},[Sl.fz<|aJ R,.fz<|aI ord,.fz<|av pl,.fz<|.int m,.fz<|.int p,.fz<|rw fs,.ow<|Km (ng (b.map λr=>(.inl r.1,rw r.2)) (.inl r.1)<|rw (col r.1)),.fz<|.str x,.fz<|.int r.1,.fz<|.str r.2.1,.fz<|.str r.2.2,Le,Kg,LK]=[Sl.fz<|aJ R,.fz<|aI ord,.fz<|av pl,.fz<|.int m,.fz<|.int p,.fz<|rw fs,.ow<|av (b++[(r.1,col r.1)]),.fz<|.str x,.fz<|.int r.1,.fz<|.str r.2.1,.fz<|.str r.2.2,Le,Kg,LK]:=λ{_ _ _}=>by rw[cf nk,show av (b++[(r.1,col r.1)])=Km (b.map _++[(.inl r.1,rw (col r.1))]) from congrArg Km Fa]
    let bl:(b.map λr=>Ŕ).length<=1000:=by rw[EV];show rl
    let fx:=O.fix r hr;by_cases c2:r.1∈fs
    ·rw[if_pos c2]at fx;let r3:=gb (n:=false) (i:=r.1) (ks:=fs);rw[if_neg FJ,EZ c2]at r3;show#[_,.t (.t r1 #[2,r3]) #[1,bl,.z (d:=rw (col r.1)) (by rw[fx,show rw (List.replicate m (0:Int))=.lst (List.replicate m<|.int 0) from congrArg D.lst IM];show#[#[#[2],by simp,1],1,.mk O.m1]),1,kI],_,_,_,_,_,_,put]
    ·rw[if_neg c2]at fx;let r3:=gb (n:=false) (i:=r.1) (ks:=fs);rw[if_neg FJ,F5 c2]at r3;by_cases c3:x="h"
     ·rw[c1,if_pos c3]at fx;rw[EZ c3]at r2;show#[_,.f (.t r1 #[2,r3])<|.t (.t r1 r2) #[1,bl,.z (d:=rw (col r.1)) ?_,1,kI],_,_,_,_,_,_,put];rw[fx];show#[#[#[2,.k (mf O.TY<|O.pin r hr) kI],1],.s<|.sq .lst]
     ·rw[c1,if_neg c3]at fx;rw[F5 c3]at r2;show a0G (.t r1 #[2,r3])<|a0G (.t r1 r2) (a4A r1 (oq (ε1:=[.fz<|aJ R,.fz<|aI ord,.fz<|av pl,.fz<|.int m,.fz<|.int p,.fz<|rw fs,.ow<|av b,.fz<|.str x,.fz<|.int r.1,.fz<|.str r.2.1,.fz<|.str r.2.2,.ow<|rw C7,Kg,LK]) (.mk (d:=rw C7) (by rw[show rw (List.replicate m (0:Int))=.lst (List.replicate m<|.int 0) from congrArg D.lst IM];show#[#[#[2],by simp,1],1,.mk O.m1])) ?_));show a0E ((ca pl r.1).zip<|cF R x) (u:=λz=>.tup [.int z.1,.int z.2]) (λrow ε=>row.length=m/\∃ Kg LK,ε=[.fz<|aJ R,.fz<|aI ord,.fz<|av pl,.fz<|.int m,.fz<|.int p,.fz<|rw fs,.ow<|av b,.fz<|.str x,.fz<|.int r.1,.fz<|.str r.2.1,.fz<|.str r.2.2,.ow<|rw row,Kg,LK]) (wH m p col) (b:=List.replicate m 0) #[by simp,_,_,1] #[_,_,#[#[2,.k (mf O.TY<|O.pin r hr) kI],#[#[3],.mk<|Fo O.Ka (by decide)],1],fT _ _] (λrow z ε hz h=>?_) λε' h=>?_
      ·let#[hl,Kg,LK,1]:=h;let#[z1,z2]:=GN hz;let#[k1,k2]:=inb z.2 z2;let zb:=O.pz r hr z.1 z1;show#[_,#[_,3],_,.mk (l:=wH m p col row z) (bR (xs:=List.range m) (u:=λ(j:Nat)=>.int (j:Int)) (h:=λj=>.int<|(row.getD j 0+z.1 * (col z.2).getD j 0) % p) ⟨m,O.m1,⟨rfl,rfl⟩,(bg _).symm⟩ (by rw[FO];show O.m1) (λj hj=>#[_,1,?_])<|Fl.rt.inj (Pf _ _)) rfl,by unfold wH;rw[EV,FO],.fz<|.int z.1,.fz<|.int z.2,1];let hj:=FS.mp hj;show#[#[#[2,.l .lst<|bC #[]],#[1,#[#[2,.k (mf ndj k1) kI],1,.l .lst<|bC #[]],#[.inl #[#[],#[]]]],.i],1,#[O.p0]]
      ·let#[hl,Kg,LK,1]:=h;rw[<- fx];show#[_,#[_,2,bl,.z rfl,1,kI],_,_,_,_,_,_,put]
   ·rw[F5 c1]at r1;rw[en c1];show#[_,.f (.f r1)<|.f (.f r1) (.f r1 rfl),_,_,_,_,_,_,1]
  ·let#[o8,o9,NX,Le,Kg,LK,he]:=gR;subst he;rw[FF];show#[.fz<|.str x,o8,o9,NX,Le,Kg,LK,?_];rw[aR hi,show bh R col (ord.take i++[x])=bh R col (ord.take i)++h9 R col x by unfold bh;rw[Gn];simp]
 ·let#[_,_,_,_,_,_,_,he]:=gR;rw[FF]at he;subst he;show#[2]
def yr (h1:xs.length=n)(h2:ys.length=n):((List.range n).map λi=>xs.getD i 0 * ys.getD i 0).sum=Mx.dot xs ys:=by
 rw[<- gj];congr 1;show HF λi=>?_;by_cases c:i<n
 ·simp_all
 ·simp_all
def CO (h:i<t.length):(Mx.col t j).getD i 0=(t.getD i []).getD j 0:=by
 unfold Mx.col
 simp_all
def Cq (h:QC p l):l.filter (λz=>decide (z<0) || decide (p<=z))=[]:=Hb.mpr λz hz=>by
 let:=h z hz
 grind
inductive u5:Ä
 |mk {T ř:Θ}{m:Nat}{p:Int}:oW p ř T m->m<=100->ř.length<=1000->(∀ r∈ř,r.length=m)->0<p->p<=1000000->u5 [tb T,tb ř,.int m,.int p] Ŗ
def nu (hr:r ε (rw l))(hl:l.length<=1000)(hf:QC p l)(hp:(js.map λj=>(ε[j]?).join)=[!.int p]):rL 0 js (Sb r) (VX (λε b=>rO (fI Ū λi j=>MB (.bl (decide (i<j)))) (rV 0) (rC (.int 0)) ε (.bl b)) λε b=>rO (fI Ū λi j=>MB (.bl (decide (j<=i)))) (rV 0) (rV 1) ε (.bl b)) (rV 0) ε (D.lst []):=by
 let:=be (n:=0) (js:=js) (ri:=Sb r) (re:=rV 0) (rt:=VX (λε b=>rO (fI Ū λi j=>MB<|.bl (decide (i<j))) (rV 0) (rC<|.int 0) ε<|.bl b) λε b=>rO (fI Ū λi j=>MB<|.bl (decide (j<=i))) (rV 0) (rV 1) ε<|.bl b) (λz=>decide (z<0) || decide (p<=z)) ⟨hr,.l .lst⟩ hl λz hz=>#[_,1,?_,λ_=>rfl]
 ·rw[Cq hf]at this;show this
 ·rw[hp];by_cases c:z<0
  ·rw[show (decide (z<0) || decide (p<=z))=true by rw[EZ c];rfl];let r1:=lt_int (ε:=[some<|.int z,some<|.int p]) (ra:=rV 0) (rb:=rC<|.int 0) rfl rfl;rw[EZ c]at r1;show .t r1
  ·rw[show (decide (z<0) || decide (p<=z))=decide (p<=z) by rw[F5 c];rfl];let r1:=lt_int (ε:=[some<|.int z,some<|.int p]) (ra:=rV 0) (rb:=rC<|.int 0) rfl rfl;rw[F5 c]at r1;show .f r1 #[2,#[trivial]]
def An [Bx:Bd](T:oQ Bx.mg):Tk 2 "_law_reads" (top 101) ø (Pr u5):=by
 show Ks ["_law_k","_law_line_of","_law_j","_law_made"] ?_ λ_ _ _ _ _ _ _ hr ND=>(qC (qI (dT fM kH (cD T.Jo<|Đ 0)<|Đ 2)
  (qr OQ)
  q0)
 (qC (qL Fe rfl (iE rfl T.Ku<|da (Đ 0) J4) (bX Bx.K rfl<|ae (pN 4 ND) (ae XV aB)) (cr Bx.K [4,5])
  (qC (qI (PW.pt (UN (dT fM kH (cD T.Jo<|Đ 5)<|cD T.Jo (Đ 1)) (fX (dT (yO<|sV hr) yP (O8 0 rfl (cS 1 [3] ["_law_one","_law_prime"]) (aw<|Đ 5)
  ė
  ST
  ł) (c9 J4).p))))
  (qr OQ)
  q0)
 (q1 (qL Fe rfl SZ (pN 6 ND) (aG 6)
  (qC (qs 7 ND (dO bt LJ (dB y8 (kW rfl) rfl T.Rg oM (da (dL 0 rfl (cS 1 [1,5,6] ["_law_i","_law_rows_here","_law_line_of","_law_j"]) (QP rfl T.Ju<|da (cD T.Jo<|Đ 1) J4)
  ė
  Mf
  (λ_ _ _ _ _=>dO cA LJ (Js hr (Đ 2)<|Đ 0)<|Js hr UV (Đ 3))) J4))<|Đ 3))
 (q1 (qI (dT fM kH (Đ 7)<|Sn Xp B4 rfl T.SQ boot_int (da (dM aV bK (Đ 4)<|Đ 6) J4))
  (qr OQ)
  q0)))))))
 (qr OQ)))
 rintro _ _ @⟨T,ř,m,p,R,hm,hl,hw,p0,p1⟩;let r1:=ne_int (ε:=[some<|tb T,some<|tb ř,some<|.int m,some<|.int p,none,none,none,none]) (ra:=rF KQ<|rA (rV 0) Nq) (rb:=rV 2) ⟨⟨rfl,rfl⟩,KQ.m⟩ rfl;rw[F5 (by rw[R.len];show λz=>z rfl)]at r1;show .nx (.f r1 rfl) ?_;show c8 T.zipIdx (u:=λz=>.tup [.int (z.2:Int),rw z.1]) (λi ε=>∃ o4 o5 o6 o7,ε=[.fz<|tb T,.fz<|tb ř,.fz<|.int m,.fz<|.int p,o4,o5,o6,o7]) ⟨_,_,_,_,rfl⟩ ⟨_,⟨rfl,rfl⟩,?_⟩ (λi z ε hi gR=>?_) λε gR=>by let#[_,_,_,_,he]:=gR;subst he;show#[2]
 ·rw[List.zipIdx_map,F9];rfl
 ·let#[o4,o5,o6,o7,he]:=gR;subst he;rw[HI]at hi;let#[l,h1,1]:=FI.mp hi;let km:=(EY.mp h1).1;rw[R.len]at km;let lm:=F6 h1;let lw:=R.Nm l lm;let eD:T.getD i []=l:=by rw[F7,h1];rfl
  show#[_,#[_,3],oq (ε1:=[.fz<|tb T,.fz<|tb ř,.fz<|.int m,.fz<|.int p,.fz<|.int ((0+i:Nat):Int),.fz<|rw l,o6,o7]) ?_ ?_]
  ·let r2:=ne_int (ε:=[some<|tb T,some<|tb ř,some<|.int m,some<|.int p,some<|.int ((0+i:Nat):Int),some<|rw l,o6.a,o7.a]) (ra:=rF KQ<|rA (rV 5) Nq) (rb:=rF KQ<|rA (rV 1) Nq) ⟨⟨rfl,rfl⟩,KQ.m⟩ ⟨⟨rfl,rfl⟩,KQ.m⟩;rw[F5 (by rw[lw];show λz=>z rfl)]at r2;show .f (.f r2 #[nu (l:=l) rfl ġ (R.fit l lm) rfl,#[1,by simp,1],fL.r (as:=[]) (bs:=[])]) rfl
  ·show AQ (List.range m) (u:=λ(j:Nat)=>.int (j:Int)) (λj ε=>∃ o6 o7,ε=[.fz<|tb T,.fz<|tb ř,.fz<|.int m,.fz<|.int p,.fz<|.int ((0+i:Nat):Int),.fz<|rw l,o6,o7]) ⟨_,_,rfl⟩ ⟨m,by omega,⟨rfl,rfl⟩,(bg _).symm⟩ (λj x ε hj gR=>?_) fun ε' ⟨o6,o7,he⟩=>#[_,_,_,_,he]
   let#[o6,o7,he]:=gR;subst he;let#[1,jm]:=gT hj;let on:=R.ones i j km jm;rw[eD]at on;let es:=yr (n:=ř.length) (xs:=l) (ys:=Mx.col ř j) lw (by unfold Mx.col;rw[EV]);show#[_,1,_,.nx (.mk (d:=.int<|Mx.dot l (Mx.col ř j) % p) ⟨⟨⟨aU (xs:=List.range ř.length) (u:=λ(i:Nat)=>.int (i:Int)) (h:=λi=>.int<|l.getD i 0 * (Mx.col ř j).getD i 0) ⟨ř.length,hl,⟨⟨⟨rfl,rfl⟩,KQ.m⟩,rfl⟩,(bg _).symm⟩ (by rw[FO];show hl) λy hy=>#[_,1,?_],rfl⟩,?_⟩,rfl,#[p0]⟩) (.f ?_ rfl),_,_,1]
   ·let hy:=FS.mp hy;let lz:=R.fit l lm (l.getD y 0)<|cM ġ;rw[CO hy];show#[#[2,.l .lst<|bC ġ],#[#[2,.l .lst<|tK hy],1,.l .lst<|bC (by rw[hw _<|cM hy];show jm)],#[.inl #[by omega,by omega]]]
   ·rw[<- es,show D.lst (List.map (λi=>D.int<|l.getD i 0 * (Mx.col ř j).getD i 0)<|List.range ř.length)=rw ((List.range ř.length).map λi=>l.getD i 0 * (Mx.col ř j).getD i 0) from (Fl.rt.inj<|Pf _ _).symm];show .mk rfl
   ·let r3:=ne_int (ε:=[some<|tb T,some<|tb ř,some<|.int m,some<|.int p,some<|.int ((0+i:Nat):Int),some<|rw l,some<|.int j,some<|.int (Mx.dot l (Mx.col ř j) % p)]) (ra:=rV 7) (rb:=rF cInt<|rA (rO K2 (rV 4)<|rV 6) Nq) (j:=if decide (((0+i:Nat):Int)=(j:Int))=true then 1 else 0) rfl #[#[eq_int rfl rfl,1],.b];rw[F5]at r3
    ·show r3
    ·rw[on];show λz=>z ?_;by_cases e:i=j
     ·subst e;rw[if_pos rfl,if_pos<|by simp]
     ·rw[if_neg e,if_neg (by simp;omega)]
structure p7 (p:Int) (ř:Θ) (a b:Ξ) (m:Nat):Prop where
 ne:a≠b
 la:a.length=m
 lb:b.length=m
 fa:QC p a
 fb:QC p b
 eq:∀ r∈ř,((List.range m).map λk=>r.getD k 0 * (a.getD k 0 - b.getD k 0)).sum % p=0
inductive u8:Ä
 |mk {a b:Ξ}{ř:Θ}{m:Nat}{p:Int}:p7 p ř a b m->m<=100->ř.length<=1000->(∀ r∈ř,r.length=m)->0<p->p<=1000000->u8 [rw a,rw b,tb ř,.int m,.int p] Ŗ
def Ao [Bx:Bd](T:oQ Bx.mg):Tk 2 "_law_alike" (top 102) ì (Pr u8):=by
 show Ks ["_law_row"] ?_ λ_ _ _ _ _ _ _ hr ND=>(qC (qI (PW.pt<|UN (dT (Vf<|sV hr) Vg (Đ 0)<|Đ 1) (UN (dT fM kH (cD T.Jo<|Đ 0)<|Đ 3)<|fX (dT fM kH (cD T.Jo<|Đ 1)<|Đ 3)))
  (qr OQ)
  q0)
 (qC (qI (dT (yO<|sV hr) yP (O8 0 rfl (cS 1 [4] ["_law_number","_law_prime"]) (aw<|Pj (Đ 0) (Đ 1))
  ė
  ST
  ł) (c9 J4).p)
  (qr OQ)
  q0)
 (qC (Pg Fe rfl (aw<|Đ 2) XV (aG 5)
  (q1 (qI (dT fM kH (dO bt LJ (dB y8 (kW rfl) rfl T.Rg oM (da (dL 0 rfl (cS 1 [0,1,5] ["_law_k","_law_one","_law_other","_law_row"]) (QP rfl T.Ju<|da (Đ 3) J4)
  ė
  Mf
  (λ_ _ _ _ _=>dO cA LJ (Js hr (Đ 3)<|Đ 0)<|dO nC cg UV (Js hr (Đ 2)<|Đ 0))) J4))<|Đ 4) dI)
  (qr OQ)
  q0)))
 (qr OQ))))
 rintro _ _ @⟨a,b,ř,m,p,M,hm,hl,hw,p0,p1⟩;let r1:=ne_int (ε:=[some<|rw a,some<|rw b,some<|tb ř,some<|.int m,some<|.int p,none]) (ra:=rF KQ<|rA (rV 0) Nq) (rb:=rV 3) ⟨⟨rfl,rfl⟩,KQ.m⟩ rfl;rw[F5 (by rw[M.la];show λz=>z rfl)]at r1;let r2:=ne_int (ε:=[some<|rw a,some<|rw b,some<|tb ř,some<|.int m,some<|.int p,none]) (ra:=rF KQ<|rA (rV 1) Nq) (rb:=rV 3) ⟨⟨rfl,rfl⟩,KQ.m⟩ rfl;rw[F5 (by rw[M.lb];show λz=>z rfl)]at r2;let r0:rO (fL false) (rV 0) (rV 1) [some<|rw a,some<|rw b,some<|tb ř,some<|.int m,some<|.int p,none] L5:=#[2,by let:=fL.r (n:=false) (as:=a) (bs:=b);rwa [F5 M.ne]at this]
 let la:=M.la;let lb:=M.lb;show .nx (.f (.f r0<|.f r1 r2) rfl) (.nx (.f ⟨nu (l:=a++b) (js:=[4]) ⟨rfl,rfl,?_⟩ (by rw[Fj];omega) (λz hz=>(FC.mp hz).elim (M.fa z)<|M.fb z) rfl,#[1,by simp,1],fL.r (as:=[]) (bs:=[])⟩ rfl) ?_)
 ·rw[show rw (a++b)=.lst (a.map .int++b.map .int) from congrArg D.lst Fa];show .l (by rw[EV,EV];omega)
 show c8 ř (u:=rw) (λi ε=>∃ o5,ε=[.fz<|rw a,.fz<|rw b,.fz<|tb ř,.fz<|.int m,.fz<|.int p,o5]) ⟨_,rfl⟩ ⟨rfl,.l .lst⟩ (λi r ε hi gR=>?_) λε gR=>by let#[_,he]:=gR;subst he;show#[2]
 let#[o5,he]:=gR;subst he;let rm:=F6 hi;let rl:=hw r rm;let r3:=ne_int (ε:=[some<|rw a,some<|rw b,some<|tb ř,some<|.int m,some<|.int p,some<|rw r]) (ra:=rO (fI (λ_ j=>0<j) λi j=>MB<|.int (i % j)) (rF Xr<|rA (rL 0 [0,1,5] (λε l=>∃ n:Nat,n<=1000/\rA (rV 3) Nq ε [.int n]/\l=p8 0 n) uJ<|rO (fI R7 λi j=>MB<|.int (i * j)) (rO Sub (rV 3)<|rV 0) (rO (fI (λ_ _=>True) λi j=>MB<|.int (i - j)) (rO Sub (rV 1)<|rV 0)<|rO Sub (rV 2) (rV 0))) Nq)<|rV 4) (rb:=rC<|.int 0) (i:=((List.range m).map λk=>r.getD k 0 * (a.getD k 0 - b.getD k 0)).sum % p) #[#[#[aU (xs:=List.range m) (u:=λ(k:Nat)=>.int (k:Int)) (h:=λk=>.int<|r.getD k 0 * (a.getD k 0 - b.getD k 0)) ⟨m,by omega,⟨rfl,rfl⟩,(bg _).symm⟩ (by rw[FO];omega) λk hk=>#[_,1,?_],1],?_],1,#[p0]] rfl
 ·rw[F5 (by rw[M.eq r rm];show λz=>z rfl)]at r3;show#[_,1,_,.f r3 rfl,_,1]
 ·let hk:=FS.mp hk;let za:=M.fa (a.getD k 0)<|cM ġ;let zb:=M.fb (b.getD k 0)<|cM ġ;show#[#[2,.l .lst<|bC ġ],#[#[2,.l .lst<|bC ġ],#[2,.l .lst<|bC ġ],#[trivial]],#[.inr #[by omega,by omega]]]
 ·rw[show D.lst (List.map (λk=>D.int<|r.getD k 0 * (a.getD k 0 - b.getD k 0))<|List.range m)=rw ((List.range m).map λk=>r.getD k 0 * (a.getD k 0 - b.getD k 0)) from (Fl.rt.inj<|Pf _ _).symm];show .mk rfl
def rq (ch):∀ (nums:Ξ)(b:Θ),nums.foldl (m7 ch) b=b++(nums.filter (okN ch)).map λn=>ch++[n]:=by
 intro r'
 induction r' with
 | nil=>
  intro b;simp
 | cons n ns ih'=>
  intro b;rw[GD,ih',Gp];unfold m7
  grind
def gY (nums):∀ (ç b:Θ),ç.foldl (λb ch=>nums.foldl (m7 ch) b) b=b++ç.flatMap λch=>(nums.filter (okN ch)).map λn=>ch++[n]:=by
 intro r'
 induction r' with
 | nil=>
  intro b;simp
 | cons ch cs ih'=>
  intro b;rw[GD,ih',rq,GX,FK]
def Cv (nums):g9 nums 1=nums.map λn=>[n]:=by change cB [[]] nums=_;unfold cB;rw[gY,Gm,GX,List.flatMap_nil,Ft,show nums.filter (okN [])=nums from List.filter_eq_self.mpr λn _=>rfl];rfl
theorem fK (nums ms:Ξ):Θ:=ms.flatMap λa=>(nums.filter λb=>decide (a<b)).map λb=>[a,b]
def Zh (nums):g9 nums 2=fK nums nums:=by change cB _ nums=_;rw[Cv];unfold cB fK;rw[gY,Gm,List.flatMap_map];rfl
def kA (nums):∀ ms:Ξ,(fK nums ms).length<=ms.length * nums.length:=by
 intro r'
 induction r' with
 | nil=>
  show FR _
 | cons a ms ih'=>
  let:=ih';let h2:=FB (λb=>decide (a<b)) nums;unfold fK at this ⊢;rw[GX,Fj,EV,FW,Ia];omega
inductive iG:Ä
 |mk {R:List LT}{k:Nat}:R.length<=20->k<=2->iG [aJ R,.int k] (tb (de (R.map (·.1)) k))
def v7 [Bx:Bd]:Tk 2 "_law_choices" (top 103) ["_law_ties","_law_falls"] (Pr iG):=by
 show Ks ["_law_numbers","_law_found","_law_one"] ?_ λ_ _ _ _ _ _ _ hr ND=>(qC (SI (n:=0) (aO (i:=2) ND rfl rfl rfl (cS 1 [] ["_law_tie"]) K4
  ė
  Mf
  L1) rfl)
 (qC (qs 3 ND (c9<|da (c9 J4).p J4).p)
 (qC (qI (dT iM cg (Đ 1) dI)
  (q1 (qs 3 ND (Pj (Đ 3) (O8 0 rfl (cS 1 [] ["_law_number"]) (aw<|Đ 2)
  ė
  Mf
  (λ_ _ _ _ _=>(c9<|da (Đ 0) J4).p)))))
  q0)
 (qC (qI (dT iM cg (Đ 1) dI)
  (q1 (Pg Fe rfl (aw<|Đ 2) (pN 4 ND) (aG 4)
  (q1 (qs 3 ND (Pj (Đ 3) (O8 0 rfl (cS 1 [4] ["_law_other","_law_one"]) (aw<|Đ 2)
  ė
  (λ_ _ _ _ _=>bF<|dT iM cg (Đ 0) (Đ 1))
  (λ_ _ _ _ _=>(c9<|da (Đ 1) š).p)))))))
  q0)
 Uf))))
 rintro _ _ @⟨R,k,hl,hk⟩;show .nx (.mk<|bR ⟨rfl,.l .lst⟩ #[] (λr _=>#[_,3,.t rfl]) (Fl.rt.inj<|Pf (λr:LT=>r.1) _)) (.nx #[#[#[#[1,by simp,1],1],by simp,1]] ?_);let nl:(R.map (·.1)).length<=20:=by rw[EV];show hl
 generalize R.map (·.1)=nums at nl;let r1:=λ(d:D)=>gt_int (ε:=[some<|aJ R,some<|.int k,some<|rw nums,!d,none]) (ra:=rV 1) (rb:=rC<|.int 0) rfl rfl;let r2:=λ(d:D)=>gt_int (ε:=[some<|aJ R,some<|.int k,some<|rw nums,!d,none]) (ra:=rV 1) (rb:=rC<|.int 1) rfl rfl;by_cases k0:k=0
 ·subst k0;rw[show decide ((0:Int)<((0:Nat):Int))=false from rfl]at r1;rw[show decide ((1:Int)<((0:Nat):Int))=false from rfl]at r2;show .nx (.f (r1 _) rfl) (.nx (.f (r2 _) rfl) #[2])
 ·let one:rO wL (rV 3) (rL 0 [] (Sb<|rV 2) uJ<|YT .lst (rA (rV 0) Nq)) [some<|aJ R,some<|.int k,some<|rw nums,some<|tb [[]],none] (tb<|de nums 1):=by
   rw[show de nums 1=[[]]++g9 nums 1 from rfl,Cv,show tb ([[]]++nums.map λn=>[n])=.lst ([D.lst []]++(nums.map λn=>.lst [.int n])) by rw[show tb _=.lst (List.map rw _) from rfl,Fa,F9];rfl]
   show#[1,aU (h:=λn=>.lst [.int n]) #[1,.l .lst] #[] λn _=>#[_,1,#[2],by simp,1],.l (by simp;lia)]
  let k1:decide ((0:Int)<(k:Int))=true:=EZ #[];rw[k1]at r1;show .nx (.t (r1 _) #[one]) ?_;by_cases k2:k=1
  ·subst k2;rw[show decide ((1:Int)<((1:Nat):Int))=false from rfl]at r2;show .nx (.f (r2 _) rfl) #[2]
  ·obtain rfl:k=2:=#[]
   rw[show decide ((1:Int)<((2:Nat):Int))=true from rfl]at r2;let cl:(de nums 1).length<=21:=by rw[show de nums 1=[[]]++g9 nums 1 from rfl,Cv];simp;lia
   obtain⟨ε',h1,h2⟩:∃ ε',iH (Sb<|rV 2) (λd ε ε'=>ε'=ε.set 4 (.fz d)) (BI 3<|rO wL (rV 3) (rL 0 [4] (Sb<|rV 2) (λε b=>rO (fI Ū λi j=>MB<|.bl (decide (j<i))) (rV 0) (rV 1) ε<|.bl b)<|YT .lst (rA (rV 1)<|rA (rV 0) Nq))) [.fz<|aJ R,.fz<|.int (2:Nat),.fz<|rw nums,.fz<|tb (de nums 1),.un] (.nx ε')/\∃ o4,ε'=[.fz<|aJ R,.fz<|.int (2:Nat),.fz<|rw nums,.fz<|tb (de nums 1++fK nums nums),o4]:=by
    show AQ nums (u:=.int) (λi ε=>∃ o4,ε=[.fz<|aJ R,.fz<|.int (2:Nat),.fz<|rw nums,.fz<|tb (de nums 1++fK nums (nums.take i)),o4]) ⟨_,by rw[show fK nums (nums.take 0)=[] from rfl,Ft]⟩ ⟨rfl,.l .lst⟩ (λi x ε hi gR=>?_) λε' gR=>by let#[o4,he]:=gR;show#[o4,by rw[FF]at he;show he]
    let#[o4,he]:=gR;subst he;show#[_,1,_,.mk (d:=tb<|de nums 1++fK nums (nums.take<|i+1)) ?_,.fz<|.int x,1];rw[aR hi,show fK nums (nums.take i++[x])=fK nums (nums.take i)++(nums.filter λb=>decide (x<b)).map λb=>[x,b] by unfold fK;rw[Gn];simp,<- FK,show tb (de nums 1++fK nums (nums.take i)++(nums.filter λb=>decide (x<b)).map λb=>[x,b])=.lst ((de nums 1++fK nums (nums.take i)).map rw++(nums.filter λb=>decide (x<b)).map λb=>.lst [.int x,.int b]) by rw[show tb _=.lst (List.map rw _) from rfl,Fa,F9];rfl]
    show#[1,be (xs:=nums) (u:=.int) (h:=λb=>.lst [.int x,.int b]) (λb=>decide (x<b)) #[1,.l .lst] #[] λb _=>#[_,1,gt_int rfl rfl,λ_=>#[#[3],by simp,1]],.l ?_];let p1:=kA nums<|nums.take i;let p2:=FB (λb=>decide (x<b)) nums;let p3:(nums.take i).length * nums.length<=20 * 20:=Nat.mul_le_mul (by rw[Fh];lia) nl;rw[EV,EV,Fj]
    lia
   let#[o4,1]:=h2;show .nx (.t (r2 _) h1) #[1,?_];rw[show de nums 2=de nums 1++g9 nums 2 from rfl,Zh]
abbrev b8 (n:D)(R:List LT)(ord:η)(pl:List b5)(m:Nat)(p:Int)(gs:η):D:=Km [(.inr "net",n),(.inr "ties",aJ R),(.inr "order",aI ord),(.inr "plan",av pl),(.inr "many",.int m),(.inr "prime",.int p),(.inr "listeners",aI gs)]
theorem eY (R)(col)(g:Str):Θ:=(cF R g).map col
structure mE (R:List LT) (ord:η) (pl:List b5) (m:Nat) (p:Int) (chs:Θ) (gs:η) (col:List Int->Int->Ξ):Prop where
 rows:∀ ch∈chs,kZ R ord pl m p ch (col ch)
 st:∀ r∈R,r.2.1∈ord
 m1:m<=100
 p1:p<=1000000
 c1:chs.length<=1000
 g1:gs.length<=1000
 gnd:gs.Nodup
section
variable {col:List Int->Int->Ξ}
def vP (O:kZ R ord pl m p ch (col ch))(g:Str):(cF R g).length<=100:=by let:=FB (λr:LT=>decide (r.2.2=g)) R;let:=O.Ka;unfold cF;rw[EV];lia
def yv (O:kZ R ord pl m p ch (col ch))(st:∀ r∈R,r.2.1∈ord)(hk:k∈cF R g):cI ((bh R (col ch) ord).map λr=>(.inl r.1,rw r.2)) (.inl k)=!rw (col ch k):=by let#[t,ht,1]:=F8.mp hk;let#[ht,e]:=Fn.mp ht;show mf (gN O.key O.Z5) (N4.mpr #[t,ht,st t ht,1])
def uq (O:kZ R ord pl m p ch (col ch)):∀ r∈eY R (col ch) g,r.length=m:=λr hr=>by let#[k,hk,1]:=F8.mp hr;let#[t,ht,1]:=F8.mp hk;show O.len t (Fn.mp ht).1
universe e
inductive mF:Ä
 |mk {n:D}{R:List LT}{ord:η}{pl:List b5}{m:Nat}{p:Int}{chs:Θ}{gs:η}{col:List Int->Int->Ξ}{J:List Int->Str->Jd}:mE R ord pl m p chs gs col->(∀ ch∈chs,∀ g∈gs,∃ T,J ch g=.r (tb T)/\oW p (eY R (col ch) g) T m)->mF [.tup [.str "stands",.lst (chs.map λch=>.tup [rw ch,jq gs (J ch)])],b8 n R ord pl m p gs,tb chs] Ŗ
def Am [Bx:Bd](T:oQ Bx.mg)(Kq)(Nb)(Pd:JB 2 "_law_reads" ø (Pr u5)):Tk 3 "_law_stood" (top 104) æ (Pr mF):=by
 show Ks ["_law_choice","_law_tables","_law_rows_here","_law_name","_law_table","_law_into_here"] ?_ λ_ _ _ _ _ _ _ hr ND=>(qC (qI (dT (yO<|sV hr) yP (O8 0 rfl (cS 1 [] ["_law_pair"]) (aw<|Js hr (Đ 0) dI)
  ė
  Mf
  L1)<|Đ 2)
  (qr OQ)
  q0)
 (qC (Pg Fe rfl (aw<|Js hr (Đ 0) dI) (bX Bx.K rfl<|ae (pN 3 ND) (ae (pN 4 ND) aB)) (cr Bx.K [3,4])
  (qC (qs 5 ND<|dF Nb hr.m rfl (da İ<|da İ (da İ<|da İ (da İ<|da (Đ 3) J4))))
 (qC (qI (dT (yO<|sV hr) yP (Sn fS (cW rfl) rfl T.MH boot_list<|da (Đ 4) J4)<|Js hr (Đ 1) bi)
  (qr OQ)
  q0)
 (q1 (qLi Fe rfl (qe<|Đ 4) ť (cr Bx.K [6,7])
  (qC (SI (n:=0) (aO (i:=8) ND rfl rfl rfl (cS 1 [5] ["_law_number","_law_rows_here"]) (aw<|dF Kq hr.m rfl (da İ<|da (Đ 6) J4))
  ė
  Mf
  ũ) rfl)
 (q1 (qI (AT<|dV (cL<|dF Pd hr.m rfl (da (Đ 7)<|da (Đ 8) (da İ<|da İ J4))))
  (qr OQ)
  q0))))))))
 (qr OQ)))
 rintro _ _ @⟨n,R,ord,pl,m,p,chs,gs,col,J,W,hT⟩;generalize hD:D.tup [.str "stands",.lst<|chs.map λch=>.tup [rw ch,jq gs<|J ch]]=dT;let f1:=fL.t (n:=true) (as:=chs) (bs:=chs);rw[EZ rfl]at f1;let f2:=fL.s (n:=true) (as:=gs) (bs:=gs);rw[EZ rfl]at f2;show .nx (.f ⟨bR (d:=tb chs) (xs:=chs) (u:=λch=>.tup [rw ch,jq gs<|J ch]) (h:=rw) ⟨⟨rfl,rfl,by rw[<- hD];show .t rfl⟩,.l .lst⟩ W.c1 (λch _=>#[_,3,.t rfl]) rfl,rfl,f1⟩ rfl) ?_;show c8 chs (u:=λch=>.tup [rw ch,jq gs<|J ch]) (λi ε=>∃ o3 o4 o5 o6 o7 o8,ε=[.fz dT,.fz<|b8 n R ord pl m p gs,.fz<|tb chs,o3,o4,o5,o6,o7,o8]) ⟨_,_,_,_,_,_,rfl⟩ ⟨⟨rfl,rfl,by rw[<- hD];show .t rfl⟩,.l .lst⟩ (λi ch ε hi gR=>?_) λε gR=>by let#[_,_,_,_,_,_,he]:=gR;subst he;show#[2]
 let#[o3,o4,o5,o6,o7,o8,he]:=gR;subst he;let hc:=F6 hi;let O:=W.rows ch hc;let hk:D.lst ((gs.map λg=>((.inr g:Key),(J ch g).one)).map pK)=aI gs:=congrArg D.lst (by rw[F9];rfl);let hk2:=cLi.k (ð:=gs.map λg=>((.inr g:Key),(J ch g).one));rw[hk]at hk2;show#[_,#[_,3],oq (ε1:=[.fz dT,.fz<|b8 n R ord pl m p gs,.fz<|tb chs,.fz<|rw ch,.fz<|jq gs (J ch),.fz<|av (bh R (col ch) ord),o6,o7,o8]) ⟨⟨⟨rfl,rfl,.k rfl kS⟩,⟨rfl,rfl,.k rfl kS⟩,⟨rfl,rfl,.k rfl kS⟩,⟨rfl,rfl,.k rfl kS⟩,⟨rfl,rfl,.k rfl kS⟩,rfl,rfl⟩,.mk O⟩ (oq (.f ⟨⟨⟨rfl,rfl⟩,hk2⟩,⟨rfl,rfl,.k rfl kS⟩,f2⟩ rfl) ?_)];show AQ gs (u:=λg=>pI2 (.inr g,(J ch g).one)) (λi ε=>∃ o6 o7 o8,ε=[.fz dT,.fz<|b8 n R ord pl m p gs,.fz<|tb chs,.fz<|rw ch,.fz<|jq gs (J ch),.fz<|av (bh R (col ch) ord),o6,o7,o8]) ⟨_,_,_,rfl⟩ ⟨rfl,by rw[F9];rfl⟩ (λj g ε hj gR=>?_) λε' gR=>by let#[o6,o7,o8,he]:=gR;show#[_,_,_,_,_,_,he]
 let#[o6,o7,o8,he]:=gR;subst he;let#[T,eT,hR]:=hT ch hc g<|F6 hj;let e1:(J ch g).one=tb T:=by rw[eT];rfl
 let il:=vP O g;show#[_,#[_,3],_,.nx (.mk (d:=tb<|eY R (col ch) g)<|bR (xs:=cF R g) (u:=.int) (h:=λk=>rw (col ch k)) #[#[#[#[2,.k rfl kS],2],.mk<|Fo O.Ka (by decide)],.l .lst] (by omega) (λk hk=>#[_,3,.k (yv O W.st hk) kI]) (Fl.rt.inj<|tbm (λk=>col ch k) _))<|.f #[#[2,#[2,.k rfl kS],#[2,.k rfl kS],1],?_] rfl,_,_,_,1];rw[e1];show .mk hR W.m1 (by unfold eY;rw[EV];omega) (uq O) O.p0 W.p1
inductive u7 (Rj:Ä):Ä
 |mk {n:D}{R:List LT}{ord:η}{pl:List b5}{m:Nat}{p:Int}{chs:Θ}{gs:η}{col:List Int->Int->Ξ}{J:List Int->Str->Jd}{ch a b:Ξ}{g:Str}{j k:Nat}:mE R ord pl m p chs gs col->(∀ ch∈chs,Rj [n,av pl,.int m,.int p,rw ch] (Qy gs (J ch)))->chs[j]?=!ch->(∀ i y,i<j->chs[i]?=!y->∀ g∈gs,(J y g).bad=false)->gs[k]?=!g->(∀ i y,i<k->gs[i]?=!y->(J ch y).bad=false)->(J ch g).bad=true->p7 p ž a b m->u7 Rj [.tup [.str "falls",rw ch,.str g,rw a,rw b],b8 n R ord pl m p gs,tb chs] Ŗ
def Ck [Bx:Bd](T:oQ Bx.mg)(Lz)(Kq)(Nb)(Pe:JB 2 "_law_alike" ì (Pr u8)):Tk 9 "_law_fell" (top 105) æ (Pr (u7 Rj)):=by
 show Ks ["_law_word","_law_choice","_law_listener","_law_one","_law_other","_law_rows_here","_law_into_here","_law_early","_law_answers","_law_name"] ?_ λ_ _ _ _ _ _ _ hr ND=>(qC (qT (x6 (Đ 0)<|bX Bx.K rfl (ae (pN 3 ND)<|ae (pN 4 ND) (ae XV<|ae (pN 6 ND) (ae ZB aB))))<|cr Bx.K [3,4,5,6,7])
 (qC (qI (PW.pt<|UN (dT (Z2<|sV hr) a22 (Đ 4) (Đ 2)<|by with_unfolding_all rfl) (fX<|RI (aK hr) (Đ 5) İ))
  (qr OQ)
  q0)
 (qC (qs 8 ND<|dF Nb hr.m rfl (da İ<|da İ (da İ<|da İ (da İ<|da (Đ 4) J4))))
 (qC (SI (n:=0) (aO (i:=9) ND rfl rfl rfl (cS 1 [8] ["_law_number","_law_rows_here"]) (aw<|dF Kq hr.m rfl (da İ<|da (Đ 5) J4))
  ė
  Mf
  ũ) rfl)
 (qC (qI (AT<|dV (cL<|dF Pe hr.m rfl (da (Đ 6)<|da (Đ 7) (da (Đ 9)<|da İ (da İ J4)))))
  (qr OQ)
  q0)
 (qC (Pg Fe rfl (aw<|UM (Đ 2) UL (UK<|Pj (dIx (sV hr) (Đ 2)<|Đ 4) dI)) (pN 10 ND) (aG 10)
  (qC (qs 11 ND<|dF Lz hr.m rfl (da İ<|da İ (da İ<|da İ (da (Sn fS (cW rfl) rfl T.MH boot_list<|da (Đ 10) J4) J4))))
 (q1 (Pg Fe rfl (aw<|Js hr (Đ 1) bi) (pN 12 ND) (aG 12)
  (qC (qI (PW.pt<|jQ (dT (Vf<|sV hr) Vg (Đ 10)<|Đ 4) (bS<|dT aV bK (Đ 12) (Đ 5)))
  (qr OQ)
  q0)
 (q1 (qI (dT fM kH (Js hr (Js hr (Đ 11)<|Đ 12) dI) bi)
  (qr OQ)
  q0)))))))
 (qr OQ)))))))
 rintro _ _ @⟨n,R,ord,pl,m,p,chs,gs,col,J,ch,a,b,g,j,k,W,hJ,hj,hb,hk,hg,bad,M⟩;let hc:=F6 hj;let hgm:=F6 hk;let O:=W.rows ch hc;let il:=vP O g;let jl:=(EY.mp hj).1;generalize hD:D.tup [.str "falls",rw ch,.str g,rw a,rw b]=dT;let n1:=fNi.mk (a:=ch) (as:=chs);rw[EZ hc]at n1;let n2:=ip (n:=true) (i:=g) (ks:=gs);rw[if_pos rfl,EZ hgm]at n2;let nf:∀ i y,i<j->chs[i]?=!y->y≠ch:=λi y hi hy e=>by let:=hb i y hi hy g hgm;rw[e,bad]at this;cases this
 show .nx (ε1:=[.fz dT,.fz<|b8 n R ord pl m p gs,.fz<|tb chs,.fz<|.str "falls",.fz<|rw ch,.fz<|.str g,.fz<|rw a,.fz<|rw b,.un,.un,.un,.un,.un]) #[1,by rw[<- hD];show#[_,3]] (.nx (.f (.f #[2,n1] #[1,#[2,.k rfl kS],n2]) rfl)<|.nx #[#[#[2,.k rfl kS],#[2,.k rfl kS],#[2,.k rfl kS],#[2,.k rfl kS],#[2,.k rfl kS],2],.mk O] (.nx (.mk (d:=tb<|eY R (col ch) g)<|bR (xs:=cF R g) (u:=.int) (h:=λk=>rw (col ch k)) #[#[#[#[2,.k rfl kS],2],.mk<|Fo O.Ka (by decide)],.l .lst] (by omega) (λk hk=>#[_,3,.k (yv O W.st hk) kI]) (Fl.rt.inj<|tbm (λk=>col ch k) _)) (.nx (.f #[#[3,#[2,.k rfl kS],#[2,.k rfl kS],1],.mk M W.m1 (by unfold eY;rw[EV];omega) (uq O) O.p0 W.p1] rfl) ?_)));show rZ (chs.take<|j+1) (u:=rw) (λi ε=>i<=j/\∃ NX Le Kg,ε=[.fz dT,.fz<|b8 n R ord pl m p gs,.fz<|tb chs,.fz<|.str "falls",.fz<|rw ch,.fz<|.str g,.fz<|rw a,.fz<|rw b,.fz<|av Ű,.fz<|tb (eY R (col ch) g),NX,Le,Kg]) ⟨FR _,_,_,_,rfl⟩ ⟨⟨rfl,.lst,rfl,⟨⟨⟨rfl,rfl,hj,nf,rfl⟩,rfl,.i⟩⟩,rfl⟩,?_⟩ (λi y ε hi gR=>?_) λε gR=>?_
 ·rw[show ((j:Nat):Int)+1=((j+1:Nat):Int) from rfl,cG,<- GU];show .l .lst
 ·let#[hij,NX,Le,Kg,he]:=gR;subst he;let yi:chs[i]?=!y:=by rwa [FX<|by omega]at hi
  let hv:=λ{x:Str} (hx:x∈gs)=>vI (V:=λg=>(J y g).D) W.gnd hx;let e1:=fL.r (n:=false) (as:=y) (bs:=ch);let good:∀ x,x∈gs->(J y x).bad=false->rO (fE true) K6 (rC<|.str "reads") [!dT,some<|b8 n R ord pl m p gs,some<|tb chs,some<|.str "falls",some<|rw ch,some<|.str g,some<|rw a,some<|rw b,some<|av Ű,some<|tb ž,some<|rw y,some<|Qy gs (J y),some<|.str x] (.bl false):=λx hx U4=>by
   let hv:=hv hx
   cases ej:J y x with
   | a _ _=>rw[ej]at U4;cases U4
   | r t=>
    rw[ej]at hv;let:=ne_str (ε:=[!dT,some<|b8 n R ord pl m p gs,some<|tb chs,some<|.str "falls",some<|rw ch,some<|.str g,some<|rw a,some<|rw b,some<|av Ű,some<|tb ž,some<|rw y,some<|Qy gs (J y),some<|.str x]) (ra:=rO Sub (rO Sub (rV 11)<|rV 12)<|rC (.int 0)) (rb:=rC<|.str "reads") (x:="reads") #[#[2,.k hv kS],1,.t rfl] rfl;rwa [F5<|by decide]at this
  show#[_,1,?_];by_cases c:i=j
  ·subst c;rw[hj]at yi;cases yi;rw[EZ rfl]at e1;show .inl #[.bl true,.nx #[#[#[2,.k rfl kS],#[2,.k rfl kS],#[2,.k rfl kS],#[2,.k rfl kS],#[#[2],.s<|.sq .lst],1],hJ ch hc] ?_,1];let lp:=t8 (q:=λd ε ε'=>ε'=ε.set 12 (.fz d)) (u:=.str) (ok:=λd=>d=.bl true) (rb:=ku ś<|Uh (λε b=>rO (fE true) K6 (rC<|.str "reads") ε<|.bl b) (wZ<|rC (.bl false)) λε f=>f=.nx ε) gs (λi ε=>i<=k/\∃ Kg,ε=[.fz dT,.fz<|b8 n R ord pl m p gs,.fz<|tb chs,.fz<|.str "falls",.fz<|rw ch,.fz<|.str g,.fz<|rw a,.fz<|rw b,.fz<|av Ű,.fz<|tb ž,.fz<|rw ch,.fz<|Qy gs (J ch),Kg]) ⟨FR _,Kg,rfl⟩ (λi x ε hi gR=>by
    let#[hik,Kg,he]:=gR;subst he;show#[_,1,?_];let r1:=eq_str (ε:=[!dT,some<|b8 n R ord pl m p gs,some<|tb chs,some<|.str "falls",some<|rw ch,some<|.str g,some<|rw a,some<|rw b,some<|av Ű,some<|tb ž,some<|rw ch,some<|Qy gs (J ch),some<|.str x]) (ra:=rV 12) (rb:=rV 5) rfl rfl;by_cases e:x=g
    ·rw[EZ e]at r1;show .inl #[.bl true,.rt<|.t (.t #[2,e1] r1) #[2],1]
    ·rw[F5 e]at r1;let ik:i<k:=by show Nat.lt_of_le_of_ne hik λz=>e ?_;rw[z,hk]at hi;show (Option.some.inj hi).symm
     show .inr #[_,.nx (.f (.t #[2,e1] r1) rfl)<|.f (good x (F6 hi)<|hg i x ik hi) rfl,ik,_,1])
   rcases lp with⟨d,h1,rfl⟩|⟨ε',_,hle,_⟩
   ·show .mk #[#[2,.k rfl kS],.l .lst] h1
   ·let:=(EY.mp hk).1;omega
  ·let ij:i<j:=by omega
   rw[F5<|nf i y ij yi]at e1;show .inr ?_;obtain⟨ε',h1,h2⟩:∃ ε',iH (Sb<|rO Sub (rV 1) (rC<|.str "listeners")) (λd ε ε'=>ε'=ε.set 12 (.fz d)) (ku ś<|Uh (λε b=>rO (fE true) K6 (rC<|.str "reads") ε<|.bl b) (wZ<|rC (.bl false)) λε f=>f=.nx ε) [.fz dT,.fz<|b8 n R ord pl m p gs,.fz<|tb chs,.fz<|.str "falls",.fz<|rw ch,.fz<|.str g,.fz<|rw a,.fz<|rw b,.fz<|av Ű,.fz<|tb ž,.fz<|rw y,.fz<|Qy gs (J y),Kg] (.nx ε')/\∃ Kg,ε'=[.fz dT,.fz<|b8 n R ord pl m p gs,.fz<|tb chs,.fz<|.str "falls",.fz<|rw ch,.fz<|.str g,.fz<|rw a,.fz<|rw b,.fz<|av Ű,.fz<|tb ž,.fz<|rw y,.fz<|Qy gs (J y),Kg]:=
    t7 gs (u:=.str) (λi ε=>∃ Kg,ε=[.fz dT,.fz<|b8 n R ord pl m p gs,.fz<|tb chs,.fz<|.str "falls",.fz<|rw ch,.fz<|.str g,.fz<|rw a,.fz<|rw b,.fz<|av Ű,.fz<|tb ž,.fz<|rw y,.fz<|Qy gs (J y),Kg]) ⟨_,rfl⟩ ⟨⟨rfl,rfl,.k rfl kS⟩,.l .lst⟩ λi' x ε hi gR=>by let#[Kg,he]:=gR;subst he;show#[_,1,_,.nx (.f (.f #[2,e1]) rfl)<|.f (good x (F6 hi)<|hb i y ij yi x (F6 hi)) rfl,_,1]
   let#[Kg,1]:=h2;show#[_,.nx #[#[#[2,.k rfl kS],#[2,.k rfl kS],#[2,.k rfl kS],#[2,.k rfl kS],#[#[2],.s<|.sq .lst],1],hJ y<|F6 yi] h1,ij,_,_,_,1]
 ·let#[hij,_]:=gR;rw[Fh]at hij;omega
theorem fF (R)(m)(x):Nat:=if x="h" then m else (cF R x).length
theorem uF (R)(m)(p cell:Int)(z:LT×Nat):b5:=(z.1.1,(List.range (fF R m z.1.2.1)).map λj=>(gC (cell+z.2) 10).getD j 0 % p)
theorem lu (R)(m)(p cell:Int):List b5:=R.zipIdx.map (uF R m p cell)
def dP (R)(m)(p cell:Int):(lu R m p cell).map (·.1)=R.map (·.1):=by
 unfold lu;rw[F9];show HF λi=>?_;rw[Fb,Fb,HI]
 cases R[i]? <;> rfl
section
variable {C aC aS:Addr}
inductive oZ (K:Ψ) (aC aS:Addr) (Rp:Ä) (Zp:List D->Addr->Prop):Ä
 |mk {n d:D}{R:List LT}{m:Nat}{p cell:Int}:R.length<=10->(R.map (·.1)).Nodup->m<=10->0<p->(d=av (lu R m p cell)/\(cell % 2=1 \/ cell % 2≠1/\∃ C,Zp [n,.int m,.int p,.int 0] C/\W.exmAny K (.ref C) [.ref aC,.ref aS]=!true) \/ cell % 2≠1/\Rp [n,.int m,.int p,.int 0] d)->oZ K aC aS Rp Zp [n,aJ R,.int m,.int p,.int cell] d
def Ci [Bx:Bd](T:oQ Bx.mg)(hC:Bx.mg "Cut"=!.ref aC)(hS:Bx.mg "SmallPrime"=!.ref aS)(Lm)(Kq)(MR:D7 7 "plan_for" Þ [.int 0] (λvs H Q E=>Pr Rp vs H Q E\/QY Zp vs H Q E)):Tk 8 "_law_plan" (top 99) í (Pr (oZ Bx.K aC aS Rp Zp)):=by
 show Ks ["_law_plan_here","_law_k","_law_tie","_law_xs","_law_wide"] ?_ λ_ _ _ _ _ _ _ hr ND=>(qC (qo 5 ND Xg)
 (qC (qL Fe rfl (iE rfl T.Ku<|da (Đ 1) J4) ť (cr Bx.K [6,7])
  (qC (qs 8 ND<|dF Lm hr.m rfl (da (Pj (Đ 4)<|Đ 6)<|da dI J4))
 (qC (qs 9 ND<|Đ 2)
 (qC (qI (dT fM kH (Js hr (Đ 7) dI) bi)
  (q1<|qs 9 ND (cD T.Jo<|dF Kq hr.m rfl (da (Đ 1)<|da (Js hr (Đ 7) dI) J4)))
  q0)
 (q1 (qP (bB (aK hr) (pv 5) (Js hr (Đ 7) dI) (dL 0 rfl (cS 1 [3,8] ["_law_j","_law_prime","_law_xs"]) (QP rfl T.Ju<|da (Đ 9) J4)
  ė
  Mf
  (λ_ _ _ _ _=>dO bt LJ (Js hr (Đ 2)<|Đ 0)<|Đ 1)) rfl) λ_ _ _ h=>h))))))
 (qC (qI (dT aV bK (dO bt LJ (Đ 4) dI) dI)
  (qr<|Đ 5)
  q0)
 (q1<|YV (dl:=[.int 0]) Bx.K ⟨rfl,rfl,rfl⟩ rfl hC rfl hS (λ_=>#[_,_,3]) (λpn W=>Ab Wc MR hr.m rfl<|da (Đ 0) (da (Đ 2)<|da (Đ 3) J4)) (λea pn=>q1<|qR (Đ 5))))))
 rintro _ _ @⟨n,d,R,m,p,cell,rl,nd,hm,p0,hd⟩;show .nx #[1] ?_;show c8 R.zipIdx (u:=λz=>.tup [.int (z.2:Int),fh z.1]) (λi ε=>∃ o6 o7 o8 o9,ε=[.fz n,.fz<|aJ R,.fz<|.int m,.fz<|.int p,.fz<|.int cell,.ow<|av WF,o6,o7,o8,o9]) ⟨_,_,_,_,rfl⟩ ⟨_,⟨rfl,rfl⟩,?_⟩ (λi z ε hi gR=>?_) λε gR=>?_
 ·rw[List.zipIdx_map,F9];rfl
 ·let#[o6,o7,o8,o9,he]:=gR;subst he;let hz:=hi;rw[HI]at hi;let#[r,h1,1]:=FI.mp hi;let ir:=(EY.mp h1).1;let wd:fF R m r.2.1<=10:=by
   let:=FB (λt:LT=>decide (t.2.2=r.2.1)) R;unfold fF cF;split
   ·show hm
   ·rw[EV];omega
  let sl:=ur (cell+((0+i:Nat):Int)) 10;let r1:=ne_str (ε:=[!n,some<|aJ R,some<|.int m,some<|.int p,some<|.int cell,some<|av WF,some<|.int ((0+i:Nat):Int),some<|fh r,some<|rw (gC (cell+((0+i:Nat):Int)) 10),some<|.int m]) (ra:=rO Sub (rV 7)<|rC (.int 1)) (rb:=rC<|.str "h") (x:=r.2.1) #[2,.t rfl] rfl;show#[_,#[_,3],oq #[#[#[2,.i],2],.mk (m:=10)<|by decide]<|oq #[1] (oq (ε1:=[.fz n,.fz<|aJ R,.fz<|.int m,.fz<|.int p,.fz<|.int cell,.ow<|av WF,.fz<|.int ((0+i:Nat):Int),.fz<|fh r,.fz<|rw (gC (cell+((0+i:Nat):Int)) 10),.fz<|.int (fF R m r.2.1:Nat)]) ?_ #[_,#[1,?_,.z (d:=rw (uF R m p cell (r,0+i)).2) ?_,#[2,.t rfl],kI],.fz<|.int ((0+i:Nat):Int),.fz<|fh r,.fz<|rw (gC (cell+((0+i:Nat):Int)) 10),.fz<|.int (fF R m r.2.1:Nat),?_])]
  ·by_cases e:r.2.1="h"
   ·rw[F5 λz=>z e]at r1;rw[show fF R m r.2.1=m from if_pos e];show .f r1 rfl
   ·rw[EZ e]at r1;rw[show fF R m r.2.1=(cF R r.2.1).length from if_neg e];show .t r1 #[#[#[#[#[1,#[2,.t rfl],1],.mk<|by omega],1],KQ.m]]
  ·rw[EV,EV,Fh];omega
  ·show bR (xs:=List.range<|fF R m r.2.1) (u:=λ(j:Nat)=>.int (j:Int)) (h:=λj=>.int<|(gC (cell+((0+i:Nat):Int)) 10).getD j 0 % p) ⟨_,by omega,⟨rfl,rfl⟩,(bg _).symm⟩ (by rw[FO];omega) (λj hj=>#[_,1,#[2,.l .lst<|bC (by let:=FS.mp hj;omega)],1,#[p0]]) (Fl.rt.inj<|Pf _ _)
  ·let nk:(.inl r.1:Key)∉(((R.zipIdx.take i).map<|uF R m p cell).map λr=>Ŕ).map (·.1):=λz=>by
    rw[F9,F9]at z;let#[y,hy,e]:=F8.mp z;let#[j,hj,ey]:=FN.mp hy;rw[Fh]at hj;rw[IV,List.getElem_zipIdx]at ey;let hjR:j<R.length:=by rw[List.length_zipIdx]at hj;omega
    let e1:(R.map (·.1))[j]?=!r.1:=by rw[Fb,EW hjR];let:y.1.1=r.1:=Sum.inl.inj e;rw[<- ey]at this;show congrArg some this
    let:=bD nd e1 (by rw[Fb,h1];rfl);omega
   rw[aR hz,Fa]
   simp_all [uF,Fa,cf]
 ·let#[o6,o7,o8,o9,he]:=gR;rw[FF]at he;subst he;let r2:=eq_int (ε:=[!n,some<|aJ R,some<|.int m,some<|.int p,some<|.int cell,some<|av (lu R m p cell),o6.a,o7.a,o8.a,o9.a]) (ra:=rO (fI (λ_ j=>0<j) λi j=>MB<|.int (i % j)) (rV 4)<|rC (.int 2)) (rb:=rC<|.int 1) (i:=cell % 2) #[2,#[by decide]] rfl;rcases hd with⟨rfl,h|⟨h,C,hZ,hx⟩⟩|⟨h,hR⟩
  ·rw[EZ h]at r2;show .rt (.t r2 #[2])
  ·rw[F5 h]at r2;show .nx (.f r2 rfl) (.no #[4] hZ hx #[2])
  ·rw[F5 h]at r2;show .nx (.f r2 rfl) (.ok #[4] hR)
universe e
def BC (f:Nat->Int)(h:j<m):((List.range m).map f).getD j 0=f j:=bT (by rw[Fb,Ha h];rfl)
def wG:∀ (l:List (Int×Int))(b:Ξ),b.length=m->(∀ j,j<m->b.getD j 0 % p=b.getD j 0)->l.foldl (wH m p col) b=(List.range m).map λj=>(b.getD j 0+(l.map λz=>z.1 * (col z.2).getD j 0).sum) % p:=by
 intro r'
 induction r' with
 | nil=>
  intro b hb h;show (Mx.Lr b m hb).symm.trans (FG λj hj=>?_);rw[GE,List.sum_nil,Int.add_zero,h j<|FS.mp hj]
 | cons z l ih'=>
  intro b hb h;rw[GD,ih' _ (by unfold wH;simp) λj hj=>by unfold wH;rw[BC _ hj,Int.emod_emod]];show FG λj hj=>?_;unfold wH;rw[BC _<|FS.mp hj,Int.emod_add_emod,Fk,List.sum_cons,Int.add_assoc]
def mD:∀ {l:List α}{x:α},l.find? p=!x->∃ i:Nat,l[i]?=!x/\(∀ j y,j<i->l[j]?=!y->p y=false)/\p x=true:=by
 intro l
 induction l with
 | nil=>intro x h;cases h
 | cons y l ih=>
  intro x h;rw[Gs]at h
  cases hy:p y with
  | true=>rw[hy]at h;cases h;show#[(0),1,λj y h=>absurd h<|HA _,hy]
  | false=>
   rw[hy]at h;let#[i,h1,h2,h3]:=ih h;show#[i+1,h1,λj z hj hz=>?_,h3]
   cases j with
   | zero=>cases hz;show hy
   | succ j=>show h2 j z #[] hz
section
variable {S:NS}{R:List LT}{p:Int}{m:Nat}{pl:List b5}
theorem oH (S:NS)(p)(pl:List b5)(m)(ch)(k:Int):Ξ:=eU p WP (!ch) (ag S) m k
def WN.key (W:WN S "h" ord R):(R.map (·.1)).Nodup:=W.ln.asc.imp λz=>Int.ne_of_lt z
def WN.Sz (W:WN S "h" ord R)(h:r∈R):(r.1,bq S r.2.1)∈ag S:=by rw[<- W.ln.J0]at h;let#[t,ht,1]:=F8.mp h;show W.mem ht
def WN.rows (W:WN S "h" ord R)(hp:0<p)(p1)(m1)(G:MM m p (ag S) pl)(TY)(ch):kZ R ord pl m p ch (oH S p pl m ch):=by
 let rl:=W.ln.RK;let row:∀ r∈R,(r.1,ca pl r.1)∈pl/\((ca pl r.1).length:Int)=zB m (bq S r.2.1)/\QC p (ca pl r.1)/\(ca pl r.1).length<=1000:=λr hr=>by
  let#[q,h1,h2,h3,h4]:=G.row _<|W.Sz hr;let e:ca pl r.1=q.2:=by unfold ca;rw[h1];rfl
  let e1:=Fq<|GH (p:=λx:b5=>decide (x.1=r.1)) h1;rw[e];show#[by rw[<- e1];show FT h1,h2,h3,h4]
 show#[W.key,W.ln.nd,#[],#[],hp,TY,λr hr=>(row r hr).1,λr hr z hz=>?_,λr hr=>(row r hr).2.2.2,λr hr=>by unfold oH eU;simp,λt ht i hi=>?_,λr hr=>?_]
 ·let:=(row r hr).2.2.1 z hz;lia
 ·let#[u,v,uv,h1,h2]:=W.ln.ok t ht;let:=bD W.ln.nd h2 hi;subst this;show F6 (by rw[FX uv,h1])
 ·let#[_,h2,h3,_]:=row r hr;let one:∀ j,(bL (bM p WP (Mx.J3 m j) (!ch) (ag S) []) r.1).getD 0=if r.1∈ch then 0 else Mx.dot (ca pl r.1) (inc (Mx.J3 m j) (bM p WP (Mx.J3 m j) (!ch) (ag S) [])<|bq S r.2.1) % p:=λj=>by
   rw[CU W.ln.fits<|W.Sz hr];let eg:ca WP r.1=ca pl r.1:=by let:=vT (ř:=pl) W.ln.fits.nd<|W.Sz hr;change ((gP WP r.1).map (·.2)).getD []=_;rw[this];rfl
   change (if decide (r.1∈ch)=true then _ else Mx.Jh p (ca _ r.1) _)=_;rw[eg,Mx.JN]
   grind
  by_cases Ng:r.1∈ch
  ·rw[if_pos Ng];let:oH S p pl m ch r.1=(List.range m).map λ_=>(0:Int):=FG λj _=>by rw[one j,if_pos Ng]
   rw[this,List.map_const',FO]
  ·rw[if_neg Ng];let ec:oH S p pl m ch r.1=(List.range m).map λj=>Mx.dot (ca pl r.1) (inc (Mx.J3 m j) (bM p WP (Mx.J3 m j) (!ch) (ag S) [])<|bq S r.2.1) % p:=FG λj _=>by rw[one j,if_neg Ng]
   rw[ec];by_cases e:r.2.1="h"
   ·rw[e,W.Wq]at h2 ⊢;let hl:=Int.ofNat.inj h2;show Eq.trans (FG λj hj=>?_)<|Mx.Lr (ca pl r.1) m hl;change Mx.dot _ (Mx.J3 m j) % p=_;rw[Mx.KW,Mx.Kv _ _ _ hl];let hj:=FS.mp hj;let hm:(ca pl r.1).getD j 0∈ca pl r.1:=cM #[];show Gz (h3 _ hm).1 (h3 _ hm).2
   ·rw[if_neg e,W.Up e,W.ln.into];rw[wG _ _ Ğ λj hj=>by rw[bT<|IC hj];rfl];show FG λj hj=>?_;let hj:=FS.mp hj;rw[bT<|IC hj,IK];congr 1;change Mx.dot _ ((cF R r.2.1).map _)=_;rw[<- gj,List.zip_map_right,F9];congr 1;show FG λz hz=>?_;change z.1 * _=z.1 * (eU _ _ _ _ _ _).getD j 0;rw[De hj];rfl
def Ep (hP)(Sh:Mx.Sh p m t):∃ j:Jd,dQ p t m=j.D/\((∃ T,j=.r (tb T)/\oW p t T m)\/∃ a b,j=.a (rw a) (rw b)/\p7 p t a b m):=by
 let Qz:=((My.Jb p).mp hP).1;rcases CA hP Sh with⟨T,e,h⟩|⟨v,e,h⟩
 ·show#[.r _,e,.inl #[T,1,h]]
 ·show#[.a _ _,e,.inr #[_,_,1,λz=>h.some ?_,by simp,h.len,λz hz=>?_,h.fit,λr hr=>?_]]
  ·grind
  ·rw[(List.mem_replicate.mp hz).2];lia
  ·let e2:((List.range m).map λk=>r.getD k 0 * ((List.replicate m<|0).getD k 0 - v.getD k 0)).sum=Mx.dot r (v.map λt=>-t):=by
    rw[<- yr (Sh.Nm r hr) (by rw[EV];show h.len)];congr 1;show FG λk hk=>?_;let hl:=h.len
    simp_all
   rw[e2,Mx.Q5];show GJ (Int.dvd_neg.mpr<|Gj (h.ker r hr))
structure JW (c:Cl) (S:NS) (R:List LT) (pl:List b5) (m:Nat) (p:Int) (J:List Int->Str->Jd):Prop where
 js:∀ ch,Kh c j0 [aD c S,av pl,.int m,.int p,rw ch] (Qy S.Jt (J ch))
 at':∀ ch g,(∃ T,J ch g=.r (tb T)/\oW p (eY R (oH S p pl m ch) g) T m) \/ ∃ a b,J ch g=.a (rw a) (rw b)/\p7 p (eY R (oH S p pl m ch) g) a b m
def WN.judge (W:WN S "h" ord R)(pz)(hP)(p1)(m1)(G:MM m p (ag S) pl):∃ J,JW c S R pl m p J:=by
 let Qz:=((My.Jb p).mp hP).1;let tz:∀ g,(S.into g).length<=100:=λg=>by
  rw[W.ln.into];unfold cF;rw[EV];let:=FB (λr:LT=>decide (r.2.2=g)) R;let:=W.ln.RK
  lia
 let all:∀ ch g,∃ j:Jd,dQ p _ m=j.D/\((∃ T,j=.r (tb T)/\oW p (eY R (oH S p pl m ch) g) T m)\/∃ a b,j=.a (rw a) (rw b)/\p7 p (eY R (oH S p pl m ch) g) a b m):=λch g=>by
  let e:eY R (oH S p pl m ch) g=gv S p WP (!ch) (ag S) m g:=by unfold eY gv;rw[W.ln.into];rfl
  rw[e];show Ep hP (yn #[] (tz g) m1).1
 show#[λch g=>Classical.choose<|all ch g,λch=>?_,λch g=>(Classical.choose_spec<|all ch g).2];let:=Kh.mk (c:=c) (fo:=!ch) (W.a27<|by lia) hP p1 G m1 #[] W.ln.Wj λt ht=>Fd<|W.mem ht;let e:(S.Jt.map λg=>((.inr g:Key),dQ p _ m))=S.Jt.map λg=>(.inr g,(Classical.choose<|all ch g).D):=FG λg _=>by rw[<- (Classical.choose_spec<|all ch g).1]
 change Kh _ _ _ (Km _);rw[<- e];show this
def WN.Yh (W:WN S "h" ord R)(hp:0<p)(p1)(m1)(G:MM m p (ag S) pl)(TY)(c1:chs.length<=1000)(pz):mE R ord pl m p chs S.Jt (oH S p pl m):=by
 let lz:S.Jt.length<=S.J'.length:=by unfold NS.Jt;rw[EV];show FB _ _
 show#[λch _=>W.rows hp p1 m1 G TY ch,λr hr=>W.ln.nin _ (W.ln.mem r hr).1,m1,p1,c1,#[],?_];let:=W.ln.Wj;show this.sublist (List.filter_sublist.map _)
def DG (Wd:mE R ord pl m p chs S.Jt (oH S p pl m))(hJ:JW c S R pl m p J)(hn:n=aD c S):
  (∃ t,gJ S.Jt J chs=.tup [.str "stands",t]/\mF [.tup [.str "stands",t],b8 n R ord pl m p S.Jt,tb chs] Ŗ)\/∃ a b x y,gJ S.Jt J chs=.tup [.str "falls",a,b,x,y]/\u7 (Kh c j0) [.tup [.str "falls",a,b,x,y],b8 n R ord pl m p S.Jt,tb chs] Ŗ:=by
 subst hn;unfold gJ
 cases hf:chs.find? λch=>(S.Jt.find? λg=>(J ch g).bad).isSome with
 | none=>
  show .inl #[_,1,.mk Wd λch hc g hg=>?_];rcases hJ.at' ch g with h|⟨a,b,e,_⟩
  ·show h
  ·exfalso;let h1:=Gq.mp hf ch hc;let h2:(S.Jt.find? λg=>(J ch g).bad).isSome=true:=Hm.mpr #[g,hg,by rw[e];rfl];show h1 h2
 | some ch=>
  let#[j,h1,h2,h3]:=mD hf;let#[g,hg]:=Gu.mp h3;let#[k,k1,k2,k3]:=mD hg;dsimp only;rw[hg];rcases hJ.at' ch g with⟨T,e,_⟩|⟨a,b,e,M⟩
  ·rw[e]at k3;cases k3
  ·show .inr #[_,_,_,_,1,?_];rw[show (J ch g).one=rw a by rw[e];rfl,show (J ch g).two=rw b by rw[e];rfl];show .mk Wd (λch _=>hJ.js ch) h1 (λi y hi hy x hx=>?_) k1 k2 k3 M;let:=h2 i y hi hy
   cases hb:(J y x).bad with
   | false=>rfl
   | true=>
    let h2:(S.Jt.find? λg=>(J y g).bad).isSome=true:=Hm.mpr #[x,hx,hb];rw[this]at h2;cases h2
def WN.a0w (W:WN S "h" ord R)(hp:0<p)(hm:m<=100):MM m p (ag S) (lu R m p cell):=by
 let nd:((lu R m p cell).map (·.1)).Nodup:=by rw[dP];show W.key
 let rl:=W.ln.RK;let kl:=congrArg List.length<|dP R m p cell;rw[EV,EV]at kl;show⟨λx hx=>?_,λr h=>?_,#[]⟩
 ·let#[t,ht,1]:=F8.mp<|W.ln.Ja.mem_iff.mp hx;let hR:=W.ln.J0▸Fd ht;let#[j,hj,ej]:=FN.mp hR;let Ng:uF R m p cell ((t.1,t.2.1,t.2.2.1),j)∈lu R m p cell:=Fd<|F6 (i:=j) (by simp_all);let wl:fF R m t.2.1<=1000:=by unfold fF cF;let:=FB (λr:LT=>decide (r.2.2=t.2.1)) R;rw[EV];split <;> lia
  show#[_,n8 nd _ Ng,?_,λz hz=>?_,?_]
  ·change (((List.range _).map _).length:Int)=_;rw[EV,FO];unfold fF;by_cases c:t.2.1="h"
   ·rw[if_pos c,c,W.Wq];rfl
   ·rw[if_neg c,W.Up c,W.ln.into];rfl
  ·let#[k,_,1]:=F8.mp hz;show#[G9 _<|by lia,FU _ hp]
  ·change ((List.range<|fF R m t.2.1).map _).length<=1000
   simp_all
 ·let:=Fd (f:=λr:b5=>r.1) h;rw[dP]at this;show W.ln.keys.mem_iff.mpr this
def Xh (h:¬ ∀ g∈S.Jt,∃ w,bp (aW S.J0 ![]) Ļ g N m=.inr w):zx S m N:=by
 show let q:=λg=>match bp A8 Ļ g N m with|.inl _=>true|.inr _=>false;?_
 cases hf:S.Jt.find? q with
 | none=>
  exfalso;show h λg hg=>?_;let:=Gq.mp hf g hg
  cases e:bp _ _ g N m with
  | inr w=>show#[w,1]
  | inl ks=>show (this (by show ((match bp _ _ g N m with|.inl _=>true|.inr _=>false)=true);rw[e])).elim
 | some g=>
  let#[n,h1,h2,h3]:=mD hf;let h3:(match bp _ _ g N m with|.inl _=>true|.inr _=>false)=true:=h3
  cases e:bp A8 Ļ g N m with
  | inr w=>simp_all
  | inl ks=>
   show .mk h1 e λi x hi hx=>?_;let h4:(match bp _ Ļ x N m with|.inl _=>true|.inr _=>false)=false:=h2 i x hi hx
   cases e:bp A8 Ļ x N m with
   | inr w=>show#[w,1]
   | inl ks=>simp_all
def WN.a2T (W:WN S "h" ord R)(pz)(hP)(p1)(m1:1<=m)(m2:m<=10)(rl)(e1:PySem.W.exmAny K (.ref aC) [.ref aC,.ref aS]=!true)(e2:PySem.W.exmAny K (.ref aS) [.ref aC,.ref aS]=!true)(cell:Int):
  ∃ pl,MM m p (ag S) pl/\(pl.map (·.1)).Nodup/\pl.length<=100/\oZ K aC aS (cH c C (rG c C)) (λl A=>wI c aC l A\/i4 c aS l A) [aD c S,aJ R,.int m,.int p,.int cell] (av pl):=by
 let Qz:=((My.Jb p).mp hP).1;let kl:=congrArg List.length<|dP R m p cell;rw[EV,EV]at kl;let O:=W.wok pz<|some [];let own:∀ h,∃ pl,MM m p _ pl/\(pl.map _).Nodup/\pl.length<=100/\oZ K aC aS (cH c C<|rG c C) (λl A=>wI c aC l A\/i4 c aS l A) [aD c S,aJ R,.int m,.int p,.int cell] _:=λh=>#[lu R m p cell,W.a0w #[]<|by lia,by rw[dP];show W.key,#[],.mk rl W.key m2 #[]<|.inl #[1,h]]
 by_cases hc:cell % 2=1
 ·show own (.inl hc)
 by_cases hw:∀ g∈S.Jt,∃ w,bp A8 Ļ g 21 m=.inr w
 ·by_cases Ka:p<(S.Jt.length)
  ·show own (.inr #[hc,_,.inr<|.mk hP p1 O hw #[] m1 #[] #[] Ka,e2])
  ·let hO:∀ ks∈[([]:Ξ)],Su S _ 21/\∀ g∈S.Jt,∃ w,bp (aW S.J0<|some ks) (some "h") g 21 m=.inr w:=λks hk=>by rw[Fr.mp hk];show#[O,by rw[<- W.JR];show hw]
   let lz:S.Jt.length<=S.J'.length:=by unfold NS.Jt;rw[EV];show FB _ _
   let M:=W.make hP hO Ħ p1 #[] (by simp;lia) Ğ #[];let e:[c6 S 21 m []]=cC S (some "h") 21 m [[]]:=by unfold c6 cC;rw[W.JR];rfl
   let pm:=Kx (f:=λr:Int×List Int=>r.1) (l:=cE p m [[]] (Mk.Jf<|cC S (some "h") 21 m [[]]) (ag S) (ag S).length);let kl2:=congrArg List.length<|cT (p:=p) (m:=m) (ç:=[[]]) (ê:=Mk.Jf<|cC S (some "h") 21 m [[]]) (ag S);rw[EV,EV]at kl2;let:=W.ln.Ka;show#[_,W.good hP M.Tf<|by lia,(pm.map _).nodup_iff.mpr (by rw[cT];show W.ln.fits.nd),by rw[pm.length_eq];lia,.mk rl W.key m2 #[]<|.inr #[hc,.mk hP p1 O hw #[] m1 #[] #[] #[] ?_]];rw[e];show .mk M
 ·show own (.inr #[hc,_,.inl<|.mk hP p1 O (Xh hw) #[] m1 #[] #[],e1])
def B0 {k:Nat}(tl:S.J0.length<=10)(k2:k<=2):eX c [aD c S,.int k] (tb (de ĭ k))/\(de ĭ k).length<=1000:=by
 let l1:(g9 ĭ 1).length<=10:=by rw[Cv,EV,EV];show tl
 let l2:(g9 ĭ 2).length<=100:=by rw[Zh];show Fo (kA _ _) ?_;rw[EV];show Nat.mul_le_mul tl tl
 let c1:(de ĭ 1).length<=11:=by change ([[]]++g9 _ 1).length<=11;rw[Fj];let:([[]]:Θ).length=1:=rfl;lia
 show#[.mk #[] #[] λj hj=>?_,?_]
 ·match j,hj with
  | 0,_=>show#[by change 1 * _<=1000;lia,λch h=>by rw[Fr.mp h];decide,by change 1<=1000;decide]
  | 1,_=>
   show#[Fo (Nat.mul_le_mul l1 tl)<|by decide,λch h=>?_,#[]];rw[Cv]at h;let#[x,_,1]:=F8.mp h;change 1<=1000;decide
  | j+2,h=>lia
 ·match k,k2 with
  | 0,_=>change 1<=1000;decide
  | 1,_=>lia
  | 2,_=>change (de _ 1++g9 _ 2).length<=1000;rw[Fj];lia
  | k+3,h=>lia
universe e
open L2.Wy
theorem NT:η:=["h","b","a","ab","c","ba"]
theorem Se (fi:Int)(k:Nat):Kd:=if k=0 then .house else if k=2\/(fi / (4+((k - 1:Nat):Int)) % 3=1/\k<5) then .listener else .post
theorem bP (fi:Int)(m):List (Str×Kd):=(List.range m).map λk=>(NT.getD k "",Se fi k)
structure Tx (fi:Int) (m:Nat) (S:NS) (R:List LT):Prop where
 J':S.J'=bP fi m
 J0:S.J0.map (λt=>(t.1,t.2.1,t.2.2.1))=R
 up:∀ r∈R,∃ u v:Nat,u<v/\v<m/\NT[u]?=!r.2.1/\NT[v]?=!r.2.2
 key:R.map (·.1)=(List.range R.length).map λ(i:Nat)=>(i:Int)
 next:S.next=R.length
def vh:∀ m,m<=6->(List.range m).map (λk=>NT.getD k "")=NT.take m/\(NT.take m).Nodup:=by decide
def jC:∀ k,k<6->j7 (NT.getD k "")=true/\NT.getD k ""∉NT.take k/\(NT.getD k "").length<=1000/\(NT.getD k ""="h"->k=0)/\NT[k]?=!NT.getD k "":=by decide +kernel
def yQ:NT.Nodup:=by decide
def sS (h:NT[k]?=!x)(hk:k<m):x∈NT.take m:=F6 (i:=k) Ħ
section
variable {S:NS}
def eI (h:m<=6)(hp:S.J'=bP fi m):S.names=NT.take m:=by unfold NS.names;rw[hp,<- (vh m h).1];unfold bP;rw[F9];rfl
def ky (hp:S.J'=bP fi m):S.J'.length=m:=by rw[hp];unfold bP;rw[EV,FO]
def yR (S:NS):S.Jt.length<=S.J'.length:=by unfold NS.Jt;rw[EV];show FB _ _
def vH (h:k≠0):Se fi k=.listener\/Se fi k=.post:=by
 unfold Se;rw[if_neg h];split
 ·show .inl rfl
 ·show .inr rfl
def zX (h:m<6):may #[bP fi m,[],(0)] (NT.getD m "") (Se fi m)/\NS.put #[bP fi m,[],(0)] (NT.getD m "") (Se fi m)=#[bP fi (m+1),[],(0)]:=by
 let#[a1,a2,a3,_]:=jC m h;let pl:=ky (S:=#[bP fi m,[],(0)]) rfl;let ll:=yR #[bP fi m,[],(0)];show#[#[a1,by rw[eI #[] rfl];show a2,λgR=>?_,?_],?_]
 ·let#[z1,z2]:=gR;by_cases c:m=0
  ·subst c;cases z2
  ·rcases vH c with y|y <;> rw[y]at z1 <;> cases z1
 ·unfold Ey;rw[F5<|by lia,F5<|by lia];simp
 ·unfold NS.put bP;rw[IF,Fa];rfl
def Tx.Ka (L:Tx fi m S R):S.J0.length=R.length:=by rw[<- L.J0,EV]
def Tx.wn (L:Tx fi m S R)(m2:2<=m)(m6:m<=6)(rl):WN S "h" (NT.take m) R:=by
 let#[n1,n2]:=vh m m6;let nm:=eI m6 L.J';show#[#[by rw[nm];show n2,by rw[nm];show λx h=>h,n2,by rw[FX<|by lia];rfl,L.J0,λr hr=>?_,λr hr=>?_,?_,by rw[Fh];lia,#[]],?_,?_,λt ht z=>?_,λt ht=>?_]
 ·let#[u,v,h1,h2,h3,h4]:=L.up r hr;rw[nm];show#[sS h3<|by lia,sS h4 h2]
 ·let#[u,v,h1,h2,h3,h4]:=L.up r hr;show#[u,v,h1,by rw[FX<|by lia];show h3,by rw[FX h2];show h4]
 ·rw[L.key,Hk];show List.pairwise_lt_range.imp λh=>Int.ofNat_lt.mpr h
 ·obtain⟨k,rfl⟩:∃ k,m=k+1:=#[m - 1,#[]]
  unfold NS.JR;rw[L.J'];unfold bP;rw[List.range_succ_eq_map];rfl
 ·rw[nm];obtain⟨k,rfl⟩:∃ k,m=k+1:=#[m - 1,#[]]
  show Fw
 ·let#[u,v,uv,_,_,hv]:=L.up _<|L.J0▸Fd ht;let hv:=hv.trans<|congrArg some z;let:=bD yQ hv (show NT[0]?=some _ from rfl)
  lia
 ·let:t.1∈R.map (·.1):=F8.mpr #[_,L.J0▸Fd ht,1];rw[L.key]at this;let#[i,_,e]:=F8.mp this
  lia
def Tx.Kc (L:Tx fi m S R)(hy:NT[i]?=!y)(h:iR S.J0 y z):∃ j:Nat,i<=j/\NT[j]?=!z:=by
 induction h with
 | refl=>show#[i,Fg _,hy]
 | step ht _ ih=>
  let#[j,ij,hj]:=ih;let#[u,v,uv,_,hu,hv]:=L.up _<|L.J0▸Fd ht;let:=bD yQ hu hj;show#[v,#[],hv]
def Tx.RG (L:Tx fi m S R)(uv:u<v)(vm:v<m)(hx:NT[u]?=!x)(hy:NT[v]?=!y)(m6:m<=6):
  Tx fi m (S.RG x y 1) (R++[(S.next,x,y)])/\¬ iR S.J0 y x/\(∀ t∈S.J0,t.1<S.next)/\∀ p∈S.J',p.1=y->U1 p.2=true:=by
 show#[#[L.J',?_,λr hr=>?_,?_,?_],λz=>?_,λt ht=>?_,λp hp z=>?_]
 ·unfold NS.RG;rw[Fa,L.J0];rfl
 ·rcases FC.mp hr with hr|hr
  ·show L.up r hr
  ·rw[Fr.mp hr];show#[u,v,uv,vm,hx,hy]
 ·rw[Fa,L.key,Fj,Gf,IF,Fa,L.next];rfl
 ·change S.next+1=_;rw[L.next,Fj];rfl
 ·let#[j,h1,h2]:=L.Kc hy z;let:=bD yQ hx h2
  lia
 ·let:t.1∈R.map (·.1):=F8.mpr #[_,L.J0▸Fd ht,1];rw[L.key]at this;let#[i,hi,e]:=F8.mp this;let:=FS.mp hi;rw[L.next]
  lia
 ·rw[L.J']at hp;let#[k,hk,1]:=F8.mp hp;by_cases c:k=0
  ·subst c;let hv:=hy.trans<|congrArg some z.symm;let:=bD yQ hv (show NT[0]?=some _ from rfl)
   lia
  ·rcases vH c with y|y <;> rw[y] <;> rfl
universe e
def Do (h:H d=none)(e:f' H G)(b:Qx d G G'):f' H G':=λa o ha=>b a o (ao ha h) (e _ _ ha)
def B6 (h1:H n=none)(h:H d=none)(e:f' H G)(b:EU n d G G'):f' H G':=λa o ha=>b a o (ao ha h1) (ao ha h) (e _ _ ha)
theorem P5 (G:Hp)(l:Addr)(R):Prop:=∃ xs,G l=!.lst xs/\Paired (λv (r:LT)=>∃ b,v=.ref b/\G b=!.tup [.int r.1,.str r.2.1,.str r.2.2]) xs R
def P5.mono (e:f' G G')(h:P5 G l R):P5 G' l R:=let ⟨xs,a,b⟩:=h;#[xs,e _ _ a,Paired.Lg b λ_ _ gR=>(by let#[x,y,z]:=gR;show#[x,y,e _ _ z])]
def P5.a4U (N:JS c G n dp dt S)(b:EU n dt G G')(h:P5 G l R):P5 G' l R:=by let#[#[dx,h1],_,#[kt,h3,_],_]:=N;let#[xs,a1,a2]:=h;show#[xs,b _ _ (cP a1 h1 λz=>nomatch z) (cP a1 h3 λz=>nomatch z) a1,Paired.Lg a2 λ_ _ gR=>(by let#[x,y,z]:=gR;show#[x,y,b _ _ (cP z h1 λz=>nomatch z) (cP z h3 λz=>nomatch z) z])]
def P5.snoc (h:G l=!.lst xs)(hp:Paired (λv (r:LT)=>∃ b,v=.ref b/\G b=!.tup [.int r.1,.str r.2.1,.str r.2.2]) xs R)(hb:G b=!.tup [.int r.1,.str r.2.1,.str r.2.2]):P5 (upd G l (.lst (xs++[.ref b]))) l (R++[r]):=
 #[_,af,Paired.NO (Paired.Lg hp λ_ _ gR=>(by let#[x,y,z]:=gR;show#[x,y,by rw[a8<|cP z h (λz=>nomatch z)];show z])) #[b,1,by rw[a8<|cP hb h (λz=>nomatch z)];show hb]]
def JS.Yj (N:JS c G n dp dt S)(h:G l=!.lst xs):JS c (upd G l o) n dp dt S:=by
 let#[#[dx,h1],#[kp,h2,p2],#[kt,h3,p3],h4]:=N;let k:∀ {b:Addr}{u:HO},G b=!u->(∀ ys,u≠.lst ys)->upd G l o b=!u:=λhb hu=>by rw[a8<|cP hb h (hu _)];show hb
 show#[#[dx,k h1 λ_ z=>nomatch z],#[kp,k h2 ņ,Paired.Lg p2 λ_ _ gR=>(by let#[x,b,y,e,z]:=gR;show#[x,b,y,e,k z λ_ z=>nomatch z])],#[kt,k h3 ņ,Paired.Lg p3 λ_ _ gR=>(by let#[x,b,e,z]:=gR;show#[x,b,e,k z λ_ z=>nomatch z])],h4]
def D9 (ns:Ξ)(lo hi:Ó):∃ cs:Ξ,pH ş lo hi=cs.map V.int:=by unfold pH;rw[<- Ir,<- GU];show#[_,1]
def D8 (xs:π):(pH xs (!2) !11).length<=9:=by
 unfold pH;rw[show (some<|2)=some ((2:Nat):Int) from rfl,show (some<|11)=some ((11:Nat):Int) from rfl,HT.OM,HT.OM,Fh,Iq]
 lia
def xM (h:P5 G l R):DR G (.lst (R.map fh)) (.ref l):=by let#[xs,a1,a2]:=h;show#[l,xs,1,a1,iY a2 λv r _ gR=>(by let#[b,e,hb]:=gR;show#[b,_,e,hb,_,_,2,_,_,2,_,_,3])]
section
variable {c:Cl}
inductive rX (K:Ψ) (c:Cl) (vs:π) (H:Hp) (Q:VK) (E:XK):Prop
 |mk (a:Addr) (fi:Int) (ns:Ξ):vs=[.int fi,.ref a]->Jq K H a ş->(∀ x H' m S R,f' H H'->DR H' (.tup [aD c S,aJ R,aI (NT.take m)]) x->3<=m->m<=6->R.length<=9->Tx fi m S R->Q x H')->rX K c vs H Q E
inductive Ln1 (c:Cl) (H:Hp) (fi:Int) (a Ln n dp dt:Addr) (i:Nat) (σ:St) (G:Hp):Prop
 |mk (o4 o5:Ç):σ=[!.int fi,!.ref a,!.ref n,!.ref Ln,o4,o5,none,none,none,none]->f' H G->G Ln=!.lst ((NT.take (i+1)).map V.str)->JS c G n dp dt ⟨bP fi (i+1),[],0⟩->Ln1 c H fi a Ln n dp dt i σ G
inductive Ln2 (c:Cl) (H:Hp) (fi:Int) (m:Nat) (cs:Ξ) (a Ln n dp dt tl sl:Addr) (i:Nat) (σ:St) (G:Hp):Prop
 |mk (o0 o4 o5 o7 o8 o9:Ç) (S:NS) (R:List LT):σ=[o0,!.ref a,!.ref n,!.ref Ln,o4,o5,!.ref tl,o7,o8,o9]->f' H G->G Ln=!.lst ((NT.take m).map V.str)->G sl=!.lst (cs.map V.int)->JS c G n dp dt S->P5 G tl R->Tx fi m S R->R.length<=i->Ln2 c H fi m cs a Ln n dp dt tl sl i σ G
def Ra:ax ["_law_cell","_law_script","_law_net_here","_law_order","_law_k","_law_name","_law_ties","_law_xs","_law_one","_law_other"] þ (aa (top 97)):=Nd
def Eh [Bx:Bd](T:oQ Bx.mg)(TC:Sm 1 "Net" c.JQ Ý (mR c))(Lm)(MY:Kj 4 c.JQ "house" Ü (fU c .house))(LD:Kj 4 c.JQ "listener" Ü (fU c .listener))(NB:Kj 4 c.JQ "post" Ü (fU c .post))(NA:Xd 3 c.JQ "tie" ô [.int 1] (rR c)):Tk 6 "_law_net" (top 97) þ (rX Bx.K c):=by
 intro f fd F;show F.k Ra λJ7 A outer s H vs Q E hr h=>?_
 ·let#[a,fi,ns,1,hS,q]:=h;let ND:=Ra.nd;show#[_,(ai (pS 2 ND<|Aa TC hr.m rfl)
   (ai (aF<|bI (pv 2) MY hr.m (a9 x9 IZ))
   (ai (pS 3 ND<|eK (a9 x9 IZ))
   (ai (bW Fe rfl (qd rfl T.Ju<|a9 (jx xi bf<|jx bt (pv 0) bf) IZ) (pN 4 ND)
   (ai (pS 5 ND<|Js hr (c9<|da bi (da bi<|da bi (da bi<|da bi J4))).p (Đ 4))
   (ai (su (PW.pt<|UN (dT aV bK (Đ 4) dI) (fX<|PW.pt (jQ (dT aV bK (dO bt LJ (dO d3 LJ (Đ 0)<|Pj dI (Đ 4)) dI) dI)<|bS (dT fO cg (Đ 4) dI))))
    (aq<|aF (bI (pv 2) LD hr.m<|a9 (pv 5) IZ))
    (aq<|aF (bI (pv 2) NB hr.m<|a9 (pv 5) IZ)))
   (aq<|aF (P2 Bx.K Fs FA Fy aH (pv 3)<|a9 (pv 5) IZ)))))
   (ai (pS 6 ND<|eK IZ)
   (ai (bW Fe rfl (sw Bx.K<|uM (YB Bx.K) (pv 1) (sv bf) (sv bf)) (pN 0 ND)
   (ai (pS 7 ND<|dF Lm hr.m rfl (da (Đ 0)<|da dI J4))
   (ai (pS 8 ND<|dO bt LJ (Js hr (Đ 7) dI) (cD T.Jo<|Đ 3))
   (ai (pS 9 ND<|dO bt LJ (Js hr (Đ 7) dI) (cD T.Jo<|Đ 3))
   (aq (su (dT fO cg (Đ 8)<|Đ 9)
    (aq<|aF (P2 Bx.K Fs FA Fy aH (pv 6)<|a9 (eJ<|a9 (BQ (pv 2) NA hr.m<|a9 (pI (xP Bx.K) (pv 3)<|pv 8) (a9 (pI (xP Bx.K) (pv 3)<|pv 9) IZ)) (a9 (pI (xP Bx.K) (pv 3)<|pv 8)<|a9 (pI (xP Bx.K) (pv 3)<|pv 9) IZ)) IZ))
    Kp))))))
   (aq<|bO (eJ<|a9 (pv 2) (a9 (pv 6)<|a9 (pv 3) IZ))))))))),?_]
  obtain⟨m,em,m2,m6⟩:∃ m:Nat,2+fi % 4=(m:Int)/\2<=m/\m<=5:=by let b1:=G9 fi (show (4:Int)≠0 by decide);let b2:=FU fi (show (0:Int)<4 by decide);show#[(2+fi % 4).toNat,by omega,by omega,by omega]
  intro n dx hn WZ nd;show#[n,dx,1,af,λdp dt H2 p1 p2 p3 b1 hi hp ht=>?_];let x1:dp≠n:=λz=>by rw[z,af]at p1;cases p1
  let x2:dt≠n:=λz=>by rw[z,af]at p2;cases p2
  let p1:H dp=none:=by
   rw[a8 x1]at p1;by_cases z:dp=dx
   ·rw[z];show WZ
   ·rwa [a8 z]at p1
  let p2:H dt=none:=by
   rw[a8 x2]at p2;by_cases z:dt=dx
   ·rw[z];show WZ
   ·rwa [a8 z]at p2
  let e2:f' H H2:=λa o ha=>b1 a o (ao ha hn) (by rw[a8<|ao ha hn,a8<|ao ha WZ];show ha);let N2:JS c H2 n dp dt #[bP fi 0,[],(0)]:=#[#[dx,hi],#[[],hp,.nil],#[[],ht,.nil],p3]
  let put:∀ (k:Nat)(kd:Kd)(G:Hp),Se fi k=kd->k<6->f' H G->JS c G n dp dt #[bP fi k,[],(0)]->∀ {Q:VK},(∀ G',f' H G'->Qx dp G G'->JS c G' n dp dt #[bP fi<|k+1,[],(0)]->Q .non G')->fU c kd [.ref n,.str<|NT.getD k ""] G Q E0:=λk kd G ek hk eG NG Q q=>by let#[h1,h2]:=zX ġ;rw[ek]at h1 h2;show#[n,dp,dt,_,_,1,NG,(jC k<|by omega).2.2.1,?_,h1,λG' b N'=>q G' (Do p1 eG b) b<|h2▸N'];rw[ky rfl];omega
  show#[1,?_];show#[_,1,n,dx,_,1,hi,1,put 0 .house H2 rfl ġ e2 N2 λG1 eG1 _ N1=>?_];show#[(by change 1<=sizeLine;decide),λLn G2 NH X5 hLn=>?_];let Ln0:H Ln=none:=eG1.free X5;show#[_,1,fi,(4),2,show (0:Int)<4 by decide,(2),fi % 4,2,2+fi % 4,1,by omega,by omega,?_];rw[em,GM];let snoc:∀ {k:Nat},k<6->NT.take (k+1)=NT.take k++[NT.getD k ""]:=λ{k} hk=>by rw[Gy,(jC k hk).2.2.2.2];rfl
  show AJ (lo:=0) (n:=m) (Ln1 c H fi a Ln n dp dt) #[none,none,1,eG1.trans NH,hLn,N1.mono NH] ?_ ?_
  ·rintro i σ G him ⟨o4,o5,rfl,eG,Ol,NG⟩;rw[IK];let at5:∀ i,i<5->OD ((NT.drop 1).map D.str) ((i:Nat):Int)=!(.str<|NT.getD (i+1) ""):=λi h=>iC (by rw[Fb,Hh,Nat.add_comm,(jC (i+1)<|by omega).2.2.2.2];rfl)
   show tP.go (F:=emp) (ε:=[none,none,none,none,some<|.int i]) (Ko<|Ko (Ko<|Ko (LI rfl<|QI bZ))) (d:=.str<|NT.getD (i+1) "") #[#[#[6],by simp,1],1,.l .lst<|at5 i (by omega)] λx Ga ea _ hx=>?_
   cases hx;let r1:=eq_int (ε:=[some<|.int fi,none,none,none,some<|.int (i:Int)]) (ra:=rV 4) (rb:=rC<|.int 1) rfl rfl;let r2:=eq_int (ε:=[some<|.int fi,none,none,none,some<|.int (i:Int)]) (ra:=rO (fI (λ_ j=>0<j) λi j=>MB<|.int (i % j)) (rO (fI ET λi j=>MB<|.int (i / j)) (rV 0)<|rO wL (rC<|.int 4) (rV 4))<|rC (.int 3)) (rb:=rC<|.int 1) (i:=fi / (4+(i:Int)) % 3) #[#[1,#[2,.i],#[#[by omega,by omega]]],1,#[by decide]] rfl;let r3:=lt_int (ε:=[some<|.int fi,none,none,none,some<|.int (i:Int)]) (ra:=rV 4) (rb:=rC<|.int 4) rfl rfl;obtain⟨b,hb,hk⟩:∃ b,VX (λε b=>rO K2 (rV 4) (rC<|.int 1) ε<|.bl b) (sk (λε b=>rO K2 (rO (fI (λ_ j=>0<j) λi j=>MB<|.int (i % j)) (rO (fI ET λi j=>MB<|.int (i / j)) (rV 0)<|rO wL (rC<|.int 4) (rV 4))<|rC (.int 3)) (rC<|.int 1) ε<|.bl b) λε b=>rO (fI Ū λi j=>MB<|.bl (decide (i<j))) (rV 4) (rC<|.int 4) ε<|.bl b) [some<|.int fi,none,none,none,some<|.int (i:Int)] b/\Se fi (i+1)=if b=true then .listener else .post:=by
    let kl:Se fi (i+1)=if i+1=2\/(fi / (4+(i:Int)) % 3=1/\i+1<5) then .listener else .post:=by unfold Se;rw[if_neg<|by omega,Nat.add_sub_cancel]
    rw[kl];by_cases c1:i=1
    ·rw[EZ<|by omega]at r1;show#[true,.t r1,by rw[if_pos<|.inl ġ,if_pos rfl]]
    ·rw[F5<|by omega]at r1;by_cases c2:fi / (4+(i:Int)) % 3=1
     ·rw[EZ c2]at r2;by_cases c3:i<4
      ·rw[EZ<|by omega]at r3;show#[true,.f r1<|.t r2 r3,by rw[if_pos<|.inr #[c2,by omega],if_pos rfl]]
      ·rw[F5<|by omega]at r3;show#[false,.f r1<|.t r2 r3,by rw[if_neg λz=>z.elim (λy=>c1<|by omega) λy=>c3<|by omega,if_neg FJ]]
     ·rw[F5 c2]at r2;show#[false,.f r1<|.f r2,by rw[if_neg λz=>z.elim (λy=>c1<|by omega) λy=>c2 y.1,if_neg FJ]]
   show#[λσ G'=>σ=[some<|.int fi,some<|.ref a,some<|.ref n,some<|.ref Ln,some<|.int (i:Int),some<|.str (NT.getD (i+1) ""),none,none,none,none]/\f' H G'/\G' Ln=!(.lst<|(NT.take<|i+1).map V.str)/\JS c G' n dp dt #[bP fi<|i+1+1,[],(0)],?_,emp,[some<|.int fi,none,none,none,some<|.int (i:Int)],b,LI rfl<|Ko (Ko<|Ko (LI rfl<|QI bZ)),hb,λG' e=>?_]
   ·rintro σ G' ⟨rfl,eG',hL,NG'⟩;show#[_,1,.inl #[1,_,Jq.of hL],_,1,Ln,_,_,2,hL,(by rw[EV,Fh];let:sizeLine=2 ^ 24:=rfl;let:NT.length=6:=rfl;omega),_,_,1,aY eG' Ln0,?_,NG'.Yj hL];rw[af,snoc<|show i+1<6 by omega,Fa];rfl
   ·let e:=ea.trans e;let NG:=NG.mono e;let#[dxG,hNG]:=id NG.ins;let Ol:=e _ _ Ol;let#[kp,a37,_]:=id NG.J';let fin:∀ {kd:Kd},Se fi (i+1)=kd->fU c kd [.ref n,.str<|NT.getD (i+1) ""] G' (λ_ G2=>[some<|V.int fi,some<|.ref a,some<|.ref n,some<|.ref Ln,some<|.int (i:Int),some<|.str (NT.getD (i+1) ""),none,none,none,none]=[some<|V.int fi,some<|.ref a,some<|.ref n,some<|.ref Ln,some<|.int (i:Int),some<|.str (NT.getD (i+1) ""),none,none,none,none]/\f' H G2/\G2 Ln=!(.lst<|(NT.take<|i+1).map V.str)/\JS c G2 n dp dt #[bP fi<|i+1+1,[],(0)]) E0:=λek=>put (i+1) _ G' ek ġ (eG.trans e) NG λG2 e2 b N2=>#[1,e2,b _ _ (cP Ol a37 λz=>nomatch z) Ol,N2]
    show og (λg=>?_) (λg=>?_)
    ·show#[_,1,n,dxG,_,1,hNG,1,_,1,fin<|by rw[hk,if_pos g]]
    ·show#[_,1,n,dxG,_,1,hNG,1,_,1,fin<|by rw[hk,if_neg g]]
  ·rintro σ G ⟨o4,o5,rfl,eG,Ol,NG⟩;show#[(by change 0<=sizeLine;decide),λtl G3 e3 h3 ZD=>?_];let#[cs,ec]:=D9 ns (!2)<|some 11;let cl:cs.length<=9:=by let:=D8<|ns.map V.int;rwa [ec,EV]at this
   show#[_,1,(2),1,(11),1,a,_,1,(eG.trans e3).seq hS,λsl G4 e4 h4 ZH=>?_];rw[ec]at ZH;let tl0:H tl=none:=eG.free h3;let sl0:sl≠tl:=λz=>by rw[z,ZD]at h4;cases h4
   let lnt:Ln≠tl:=λz=>by rw[<- z,Ol]at h3;cases h3
   let e34:=e3.trans e4;let a3c:(NT.take<|m+1).length=m+1:=by rw[Fh];change min (m+1) 6=m+1;omega
   let US:∀ {k:Nat},k<m+1->OD ((NT.take<|m+1).map V.str) (k:Int)=!(.str<|NT.getD k ""):=λ{k} hk=>iC (by rw[Fb,FX hk,(jC k<|by omega).2.2.2.2];rfl);let mem:∀ r:Int,∃ u:Nat,r % ((m+1:Nat):Int)=(u:Int)/\u<m+1:=λr=>by let#[u,eu]:=Int.eq_ofNat_of_zero_le<|G9 r (show ((m+1:Nat):Int)≠0 by omega);let:=FU r (show (0:Int)<((m+1:Nat):Int) by omega);show#[u,eu,by omega]
   let l1:=KQ.m (g:=D.str) (x:=NT.take<|m+1);rw[a3c]at l1;let nNT:NT.length=6:=rfl;show#[sl,1,#[_,Jq.of ZH],fQ (K:=Bx.K) (xs:=cs.map V.int) (Ln2 c H fi (m+1) cs a Ln n dp dt tl sl)
    #[_,_,_,_,_,_,_,[],1,eG.trans e34,e34 _ _ Ol,ZH,NG.mono e34,#[[],e4 _ _ ZD,.nil],#[2,(λr h=>nomatch h),2],Fg _] (λi σ G _ h=>let ⟨_,_,_,_,_,_,_,_,_,_,_,h,_,_,_,_⟩:=h;Jq.of h) ?_ ?_]
   ·rintro i v σ G ev ⟨o0,o4,o5,o7,o8,o9,S,R,rfl,eG,Ol,ZF,NG,TG,L,rl⟩;let#[cell,ec,1]:=xB ev;let i9:i<9:=by let:=(EY.mp ec).1;omega
    show tP.go (F:=emp) (ε:=[some<|.int cell]) (sd1 bZ rfl) (d:=rw (gC cell 2)) #[#[3],.mk<|by decide] λx Ga ea _ hx=>?_;let#[xl,us,1,Uu,WQ]:=hx;rw[ja WQ]at Uu;let Uu:=(iy Uu).2;let sl2:=ur cell 2;let dN:∀ {G:Hp},G Ln=!(.lst<|(NT.take<|m+1).map V.str)->DR G (aI<|NT.take (m+1)) (.ref Ln):=λh=>#[Ln,_,1,h,iA λ_ _=>rfl]
    let dX:∀ {G:Hp},G xl=!(.lst<|(gC cell 2).map V.int)->DR G (rw (gC cell 2)) (.ref xl):=λh=>#[xl,_,1,h,vN _]
    let aX:∀ {k:Nat},k<2->OD ((gC cell 2).map D.int) ((k:Nat):Int)=!(.int<|(gC cell 2).getD k 0):=λh=>bC ġ;let#[u,eu,hu]:=mem<|(gC cell 2).getD 0 0;let#[v,ev',hv]:=mem<|(gC cell 2).getD 1 0;show tP.go (F:=Ga) (ε:=[none,none,none,some<|aI (NT.take<|m+1),none,none,none,some<|rw (gC cell 2)]) (Ko<|Ko (Ko<|LI (dN<|ea _ _ Ol) (Ko<|Ko (Ko<|LI (dX Uu) (QI<|f'.refl _))))) (d:=.int (u:Int)) (by rw[<- eu];show#[#[2,.l .lst<|aX (k:=0) (by decide)],⟨⟨rfl,rfl⟩,l1⟩,⟨by omega⟩]) λx Gb eb _ hx=>?_
    cases hx;show tP.go (F:=Gb) (ε:=[none,none,none,some<|aI (NT.take<|m+1),none,none,none,some<|rw (gC cell 2)]) (Ko<|Ko (Ko<|LI (dN<|eb _ _ (ea _ _ Ol)) (Ko<|Ko (Ko<|LI (dX<|eb _ _ Uu) (QI<|f'.refl _))))) (d:=.int (v:Int)) (by rw[<- ev'];show#[#[2,.l .lst<|aX (k:=1) (by decide)],⟨⟨rfl,rfl⟩,l1⟩,⟨by omega⟩]) λx Gc ec' _ hx=>?_
    cases hx;let r3:=lt_int (ε:=[none,none,none,none,none,none,none,none,some<|.int u,some<|.int v]) (ra:=rV 8) (rb:=rV 9) rfl rfl;show⟨_,λσ' G' h=>h,emp,[none,none,none,none,none,none,none,none,some<|.int u,some<|.int v],_,Ko<|Ko (Ko<|Ko (Ko<|Ko (Ko<|Ko (LI rfl<|LI rfl (QI bZ))))),r3,λG8 e8=>?_⟩;let Y7:=(ea.trans<|eb.trans ec').trans e8;let N8:=NG.mono Y7;let T8:=TG.mono Y7;let UB:=Y7 _ _ Ol;let ZG:=Y7 _ _ ZF;show og (λg=>?_) λg=>#[_,_,_,_,_,_,S,R,1,eG.trans Y7,UB,ZG,N8,T8,L,by omega];let uv:u<v:=by let:=Fq g;omega
    let#[L2,nl,a2n,thr]:=L.RG uv hv (jC u<|by omega).2.2.2.2 (jC v<|by omega).2.2.2.2 ġ;let#[dx8,hN8]:=id N8.ins;let#[ts8,a3t,_]:=id T8;let#[kt,ht8,_]:=id N8.J0;let nm:=eI ġ L.J';let tl8:=L.Ka;show#[_,1,.inl #[1,_,Jq.of a3t],_,1,n,dx8,_,1,hN8,1,_,1,_,1,Ln,_,_,_,2,Jq.of UB,US hu,_,1,_,1,Ln,_,_,_,2,Jq.of UB,US hv,?_];show#[n,dp,dt,S,_,_,(1),1,N8,by rw[nm];show sS (jC u<|by omega).2.2.2.2 hu,by rw[nm];show sS (jC v<|by omega).2.2.2.2 hv,a2n,thr,nl,by decide,by decide,by omega,λH9 b9 N9=>?_];let T9:=T8.a4U N8 b9;let e9:=B6 hn p2 (eG.trans Y7) b9;let k9:∀ {b:Addr}{xs:π},G8 b=!.lst xs->H9 b=!.lst xs:=λh=>b9 _ _ (cP h hN8 λz=>nomatch z) (cP h ht8 λz=>nomatch z) h;let X4:=k9 UB;show#[_,1,_,1,Ln,_,_,_,2,Jq.of X4,US hu,_,1,_,1,Ln,_,_,_,2,Jq.of X4,US hv,(by change 3<=sizeLine;decide),λT' H10 e10 h10 hT=>?_];let#[Ym,SY,ZR]:=T9.mono e10;let Pl:Ym.length=R.length:=Paired.length ZR;show#[tl,Ym,_,2,SY,(by rw[Pl];let:sizeLine=2 ^ 24:=rfl;omega),_,_,_,_,_,_,_,_,1,aY (e9.trans e10) tl0,by rw[a8 lnt];show e10 _ _ X4,by rw[a8 sl0];show e10 _ _<|k9 ZG,(N9.mono e10).Yj SY,P5.snoc SY ZR hT,L2,by rw[Fj,Gf];omega]
   ·rintro σ G ⟨o0,o4,o5,o7,o8,o9,S,R,rfl,eG,Ol,ZF,NG,TG,L,rl⟩;rw[EV]at rl;show#[_,1,_,1,_,1,(by change 3<=sizeLine;decide),λt G2 NH X5 ht=>q _ G2 (m+1) S R (eG.trans NH) #[t,_,1,ht,_,_,1,(NG.mono NH).dr,_,_,1,xM<|TG.mono NH,_,_,1,⟨Ln,_,rfl,NH _ _ Ol,iA λ_ _=>rfl⟩,1] ġ ġ ġ L]
universe e
universe K72
namespace L2
open PySem PySem.Spec PyProof.Rows
section
variable {K:Ψ}{H:Hp}
theorem CI (K)(H)(x:V)(as:List (Key×Ξ)):Prop:=∃ d ķ,x=.ref d/\Rd H d (.dK ķ)/\Paired (λ(kv:Key×V) (a:Key×Ξ)=>kv.1=a.1/\b7 K Og H kv.2 a.2) ķ as
def Wa (hu:X.A.units+2<cLine):Kz X (compareOp .NotEq) (λx y H Q=>∃ as bs,CI X.K H x as/\CI X.K H y bs/\Q (.bl (not (pY as bs))) H):=by
 intro ñ s σ H x y v u Q I rx ry hw;let#[as,bs,#[a,ka,1,ha,pa],#[b,kb,1,hb,pb],q]:=hw
 cases rx
 cases ry;let#[_,la,va,ra,da]:=ha.ok I.Jk;let#[_,lb,vb,rb,db]:=hb.ok I.Jk;show W.keq_ne la lb da db ġ (λ_=>z4 (h8 gf) I ġ rb pb ra pa) ?_;rw[zR ra pa rb pb];show#[.bl _,H,I,1,q]
def zQ {as:List (Key×Ξ)}(nd:(as.map (·.1)).Nodup):pY as as=true:=by
 let key:∀ (as:List (Key×Ξ)),(as.map _).Nodup->∀ d∈as,look as d.1=!d.2:=λas=>by
  induction as with
  | nil=>show λ_ _ h=>(FZ h).elim
  | cons x as ih=>
   intro nd d hd;let#[h1,h2]:=FM.mp nd;unfold look;rw[Gs];rcases Fv.mp hd with rfl|hd
   ·simp_all
   ·rw[F5 λz=>h1 (by change x.1∈_;rw[z];show Fd hd)];show ih h2 d hd
 unfold pY;rw[beq_self_eq_true,Bool.true_and,GI];show λd hd=>EZ (key as nd d hd)
def zh (s):∀ {as:List (Key×Ξ)}{ķ:ξ},ķ.map (·.1)=as.map (·.1)->Jj F (as.map λa=>rw a.2) Ł->Paired (λ(kv:Key×V) (a:Key×Ξ)=>kv.1=a.1/\b7 K Og H kv.2 a.2) ķ as:=by
 intro as
 induction as with
 | nil=>
  intro ķ h _
  cases ķ with
  | nil=>show .nil
  | cons _ _=>cases h
 | cons a as ih=>
  intro ķ h y
  cases ķ with
  | nil=>cases h
  | cons kv ķ=>
   let#[v,ws,e,h1,h2]:=y;rw[Fk,Fk]at h;injection h with ha hb;rw[Fk]at e;injection e with e1 e2;subst e1 e2;show .cons #[ha,gO s h1] (ih hb h2)
inductive fDr:D->D->D->Prop
 |mk {as:List (Key×Ξ)}{x y:D}:x=Km (as.map λa=>(a.1,rw a.2))->y=x->(as.map (·.1)).Nodup->fDr x y L5
set_option tactic.hygienic true in def Z8:Pk fDr (λx y H Q=>∃ as bs,CI K H x as/\CI K H y bs/\Q (.bl (not (pY as bs))) H):=λF H x y u v d Q s z hu hv q=>by
 let#[e1,e2,nd]:=z;rename_i as;subst e2 e1;let get:∀ {u:V},DR F (Km<|as.map λa=>(a.1,rw a.2)) u->CI K H u as:=λh=>by let#[a,ķ,e,h1,h2,h3]:=h;rw[F9]at h2 h3;show#[a,ķ,e,h1.mono s,zh s h2 h3]
 show#[as,as,get hu,get hv,tP.at s q (by rw[zQ nd];rfl)]
inductive XM (ε:En):List (Rx×Rx)->List (Key×D)->Prop
 |nil:XM ε [] []
 |cons {ra rb:Rx}{rs:List (Rx×Rx)}{k:Key}{v:D}{ð:ι}:ra ε (kD k)->rb ε v->XM ε rs ð->XM ε ((ra,rb)::rs) ((k,v)::ð)
inductive rDn (rs:List (Rx×Rx)) (ε:En) (d:D):Prop
 |mk {ð:ι}:XM ε rs ð->(ð.map (·.1)).Nodup->d=Km ð->rDn rs ε d
set_option tactic.hygienic true in def uP:∀ {rs:List (Rx×Rx)}{ð:ι}{F H:Hp}{Q:List (V×V)->Ø},Sd F σ H ε->XM ε rs ð->(∀ (ķ:ξ) H',f' H H'->ķ.map (·.1)=ð.map (·.1)->Jj ŗ Ř Ł->Q (ķ.map λkv=>(kV kv.1,kv.2)) H')->rP (rs.map λr=>(tP r.1,tP r.2)) σ H Q:=by
 intro rs ð F H Q S h
 induction h generalizing F H Q with
 | nil=>intro k;show k [] H Ĩ rfl rfl
 | cons h1 h2 h3 ih=>
  rename_i key _ _ _ _;intro k;show tP.go S h1 λx H1 e1 S1 q1=>tP.go S1 h2 λy H2 e2 S2 q2=>ih S2 λķ H3 e3 a b=>by rw[ar e1 e2]at q2 b S2;let Pp:=e1.trans e2;rw[ar Pp e3]at b;let:=k ((_,y)::ķ) H3 (Pp.trans e3) (congrArg (_::·) a) #[y,_,1,DR.mono (by rw[<- ar Pp e3];show aj S2.le) _ _ q2,b];rw[lC q1];show this
def dDn (h:PPs X pos keys values (rs.map λr=>(tP r.1,tP r.2)))(QT)(hl:keys.length=values.length)(h0:keys≠[])(h15)(hn:rs.length<=15):PE X (.Dict keys values pos) (tN (rDn rs)):=
 (yH h QT hl h0 h15).imp fun σ H Q ⟨F,ε,d,S,.mk (ð:=ð) h1 nd h3,q⟩ p hp=>by
  let S0:Sd F σ (upd H p<|.dK []) ε:=⟨λb o y=>by rw[a8 (λz=>by rw[z]at y;rw[S.le _ _ y]at hp;cases hp)];show S.le _ _ y,S.len,S.rd⟩
  show uP S0 h1 λķ H2 e a b=>#[e _ _ af,ķ,1,?_,?_]
  ·let len:∀ {rs:List (Rx×Rx)}{ð:ι},XM ε rs ð->ð.length=rs.length:=λh=>by
    induction h with
    | nil=>rfl
    | cons _ _ _ ih=>simp_all
   let:=congrArg List.length a;rw[EV,EV,len h1]at this
   lia
  ·subst h3;let mono:f' (grow F (upd H p<|.dK []) H2) (bc p<|grow F H (upd H2 p<|.dK (b6 [] ķ))):=λb o w=>by
    unfold grow at w;by_cases z:b=p
    ·subst z;rw[if_neg<|by grind [af]]at w;rw[S.le _ _ w]at hp;cases hp
    ·rw[bv z];unfold grow;rw[a8 z]at w ⊢;show w
   let m:=jH a (Jj.mono mono _ _ b) (ð:=[]) (ķ:=[]) rfl rfl;let e2:fe [] ð=ð:=ig nd;rw[e2]at m;show q p _ (aY ((aQ Ĩ hp).trans e) hp) hp #[b6 [] ķ,by rw[af],m.1,m.2]
universe e
universe L2
namespace K72
open PySem L2 L2.Wy
open PyProof.Rows (boot_all boot_bool boot_dict boot_int boot_list boot_sorted boot_str boot_tuple)
def dFd (Dd:Dfd X.prog X.w X.K X.mg X.base k x ps dvs (Pr R)/\∀ F,Jj F dl dvs)(hr)(hg:Gl X x)(ha:PA X (e::es) (LG rs))(Mm)(he:Ĕ X e es:=Ą)(LM):
  PE X Ģ (tP (rF (λl=>R (l++dl)) rs)):=(BX Dd.1 hr hg ha Mm he LM).imp λσ H Q h=>LG.call Dd.2 h
theorem zOf:Option D->Sl
 | none=>.un
 | some d=>.fz d
def Sd.ss (S:Sd F σ H ε):Ss F H F σ H (ε.map zOf):=by
 let old:∀ {i:Nat}{s:Sl},(ε.map zOf)[i]?=!s->∃ o,ε[i]?=!o/\zOf o=s:=λq=>by
  simp_all
 show#[f'.refl _,S.le,f'.refl _,aj S.le,by simpa using S.len,λi d q=>?_,λi d q=>?_,λi j c d a n q=>?_];all_goals
  let#[o,h1,h2]:=old q
  cases o with
  | none=>cases h2
  | some d'=>cases h2 <;> show S.rd i _ h1
def a2O (h:OL X ss r):Nj X ss (λE σ H=>∃ F0 H0,tQ F0 H0 r E σ H):=λñ s σ H D I gR=>by let#[F0,H0,q]:=gR;show h F0 H0 ñ s σ H D I q
def zW:∀ p∈([2,3,5,7,13,999983]:Ξ),My.LL p=true:=by intro p hp;simp only[Fv,FZ,Iv]at hp;rcases hp with rfl|rfl|rfl|rfl|rfl|rfl <;> show My.Us (by decide +kernel) ż
def Wx {S:NS}(nd:S.names.Nodup):S.names.filter (λx=>decide (x∈S.Jt))=S.Jt:=by
 conv=>lhs;unfold NS.names
 rw[List.filter_map];congr 1;show Ii λx hx=>?_;rw[Go,Function.comp_apply,He];constructor
 ·intro h;let#[y,hy,e]:=F8.mp h;let#[h1,h2]:=Fn.mp hy;let:=my nd h1 hx e;rwa [this]at h2
 ·show λh=>Fd (Fn.mpr #[hx,h])
def E5 [Bx:Bd](h1:O7 Ky k f fd Þ (Pr (cH c C Rm)))(h2:O7 L0 k f fd Þ (QY (wI c aC)))(h3:O7 L0 k f fd Þ (QY (i4 c aS))):O7 L0 k f fd Þ (λvs H Q E=>Pr (cH c C Rm) vs H Q E\/QY (λl A=>wI c aC l A\/i4 c aS l A) vs H Q E):=
 (h1.qx.or<|h2.or h3).imp λvs H Q E h=>h.imp id λgR=>by let#[F,l,A,s,h1,h2,q]:=gR;show h2.elim (λz=>.inl #[F,l,A,s,h1,z,q]) λz=>.inr #[F,l,A,s,h1,z,q]
inductive mS (K:Ψ) (vs:π) (H:Hp) (Q:VK) (E:XK):Prop
 |mk (a:Addr) (ns:Ξ):vs=[.ref a]->Jq K H a ş->(∀ H',Q Ŗ H')->mS K vs H Q E
def SG:ax ["_law_script","_law_cell","_law_net_here","_law_ties","_law_order","_law_prime","_law_many","_law_falls","_law_plan_here","_law_world","_law_kept","_law_number","_law_row","_law_told"] ["_law_script"] (aa (top 106)):=Nd
def Wf [Bx:Bd](T:oQ Bx.mg)(e1:PySem.W.exmAny Bx.K (.ref aC) [.ref aC,.ref aS]=!true)(e2:PySem.W.exmAny Bx.K (.ref aS) [.ref aC,.ref aS]=!true)(Mv:JB 1 "_law_cell_at" ú (gM Bx.K))(R5:JB 6 "_law_net" þ (rX Bx.K c))(Qa:JB 8 "_law_plan" í (Pr (oZ Bx.K aC aS (cH c C (rG c C)) (λl A=>wI c aC l A\/i4 c aS l A))))(J1)(P7:JB 9 "stands" ä (Pr (Mo (eX c) (Kh c j0))))(Ov:Xf 9 "stands" ä [.int 0] (Pr (Mo (eX c) (Kh c j0)))/\∀ F,Jj F [.int 0] [.int 0])(Pb:JB 3 "_law_stood" æ (Pr mF))(Qb:JB 9 "_law_fell" æ (Pr (u7 (Kh c j0))))(Mu:JB 2 "_law_choices" ["_law_ties","_law_falls"] (Pr iG)):Tk 10 "law" (top 106) ["_law_script"] (mS Bx.K):=by
 intro f fd F;show F.k SG λJ7 A outer s H vs Q E hr h=>?_
 ·let#[a,ns,1,hS,q]:=h;let ND:=SG.nd;show#[_,(ai (pS 1 ND<|jx bt (aZ Mv hr.m rfl<|a9 (pv 0) (a9 bf IZ)) bf) (ai (x6 (aZ R5 hr.m rfl<|a9 (jx d3 (pv 1) bf) (a9 (pv 0) IZ))<|bX Bx.K (n:=3) rfl (ae (pN 2 ND)<|ae (pN 3 ND) (ae (pN 4 ND) aB))) (ai (pS 5 ND<|Js hr (c9<|da dI (da dI<|da dI (da dI<|da dI (da dI J4)))).p (dO bt LJ (Đ 1) dI)) (ai (pS 6 ND<|Pj dI (dO bt LJ (dO d3 LJ (Đ 1) dI) dI)) (ai (pS 7 ND<|dO bt LJ (dO d3 LJ (Đ 1) dI) dI)
   (ai (su (PW.pt<|jQ (dT aV bK (Đ 7) dI) (bS<|dT iM cg (cD T.Jo<|Đ 3) dI)) (aq<|pS 7 ND bf) Kp)
   (ai (pS 8 ND<|aZ Qa hr.m rfl (a9 (pv 2)<|a9 (pv 3) (a9 (pv 6)<|a9 (pv 5) (a9 (jx bt (aZ Mv hr.m rfl<|a9 (pv 0) (a9 bf IZ)) bf) IZ))))
   (a2O (qC (qo 9 ND<|dDn (rs:=[(_,_),(_,_),(_,_),(_,_),(_,_),(_,_)]) (dJ bi (Đ 2)<|dJ bi (Đ 3) (dJ bi (Đ 4)<|dJ bi (Đ 8) (dJ bi (Đ 6)<|dJ bi (Đ 5) yD))) rfl rfl (λz=>nomatch z) (Im rfl) (Im rfl))
 (qC (qP (bB (aK hr) (pv 9) bi (O8 0 rfl (cS 1 [2] ["_law_name","_law_net_here"]) (aw<|Đ 4)
  ė
  (λ_ _ _ _ _=>bF<|TV (aK hr) (Đ 0) (gk (Đ 1) J1 hr.m))
  ł) rfl) λ_ _ _ h=>h)
 (qC (qo 10 ND Xg)
 (qC (qLi Fe rfl (qe<|Đ 8) (bX Bx.K (n:=2) rfl<|ae (pN 11 ND) (ae (pN 12 ND) aB)) (cr Bx.K [11,12])
  (q1<|qP (bB (aK hr) (pv 10) (Đ 11) (Sn fS (cW rfl) rfl T.MH boot_list<|da (Đ 12) J4) rfl) (λ_ _ _ h=>h)))
 (qC (qI (PW.pt<|jQ (dT aV bK (Đ 7) dI) (bS<|dT aV bK (dO bt LJ (dO d3 LJ (Đ 1) dI) dI) dI))
  (q1<|qs 13 ND (dFd Ov hr.m rfl<|da (Đ 2) (da (Đ 8)<|da (Đ 6) (da (Đ 5) J4))))
  (q1<|qs 13 ND (dF P7 hr.m rfl<|da (Đ 2) (da (Đ 8)<|da (Đ 6) (da (Đ 5)<|da (Đ 7) J4)))))
 (qC (qI (dT (Wa<|sV hr) Z8 (Đ 8)<|Đ 10)
  (qr OQ)
  q0)
 (qC (qI (PW.pt<|jQ (dT aV bK (Js hr (Đ 13) dI) bi) (bS<|dT aV bK (cD T.Jo<|Đ 13) dI))
  (qr<|dF Pb hr.m rfl (da (Đ 13)<|da (Đ 9) (da (dF Mu hr.m rfl<|da (Đ 3) KM) J4)))
  q0)
 (qr<|zm (dM aV bK (Js hr (Đ 13) dI) bi) (kz<|dF Qb hr.m rfl (da (Đ 13)<|da (Đ 9) (da (dF Mu hr.m rfl<|da (Đ 3) KM) J4))))))))))))))))))),?_]
  show#[_,1,a,(0),ns,1,by decide,hS,λc1=>#[c1,(2147483647),2,show (0:Int)<2147483647 by decide,?_]];generalize hx:(λ(i j:Int)=>V.int<|i % j) c1 2147483647=vx;obtain⟨x,rfl⟩:∃ x:Int,vx=.int x:=#[_,hx.symm]
  clear hx;show#[_,1,x,(108),2,#[by decide,by decide],_,1,a,x / 108,ns,1,hS,λy H2 k S R NH hy k3 k6 rl L=>?_];let#[tp,_,1,U0,vn,_,1,hn,vt,_,1,ht,vo,_,1,ho,1]:=hy;show#[tp,_,1,LQ.of U0,1,_,_,1,_,_,1,_,[],2,?_];let W:=L.wn ġ k6 ġ;let pz:=ky L.J';let ll:=yR S;obtain⟨p,ep,hp⟩:∃ p:Int,OD ([2,3,5,7,13,999983].map D.int) (x % 6)=!.int p/\p∈([2,3,5,7,13,999983]:Ξ):=by let#[v,h1,h2]:=Dq (xs:=([2,3,5,7,13,999983]:Ξ).map D.int) (i:=x % 6) (G9 x<|by decide) (by let:=FU x (show (0:Int)<6 by decide);show this);rw[Fb]at h1;let#[p,h3,1]:=FI.mp h1;show#[p,h2,F6 h3]
  let hP:=zW p hp;let Qz:2<=p:=((My.Jb p).mp hP).1;let p1:p<=1000000:=by simp only[Fv,FZ,Iv]at hp;omega
  obtain⟨m,em,m1,m3⟩:∃ m:Nat,1+x / 6 % 3=(m:Int)/\1<=m/\m<=3:=by let b1:=G9 (x / 6) (show (3:Int)≠0 by decide);let b2:=FU (x / 6) (show (0:Int)<3 by decide);show#[(1+x / 6 % 3).toNat,by omega,by omega,by omega]
  obtain⟨k0,ek,k02⟩:∃ k0:Nat,x / 18 % 3=(k0:Int)/\k0<=2:=by let b1:=G9 (x / 18) (show (3:Int)≠0 by decide);let b2:=FU (x / 18) (show (0:Int)<3 by decide);show#[(x / 18 % 3).toNat,by omega,by omega]
  show tP.go (F:=emp) (ε:=[none,some<|.int x]) (Ko<|LI rfl (QI bZ)) (d:=.int p) ⟨⟨⟨rfl,rfl,rfl,rfl,rfl,rfl,rfl⟩,by simp,rfl⟩,⟨rfl,rfl,⟨by decide⟩⟩,.l .lst ep⟩ λ_ H3 e3 _ hx=>?_
  cases hx;show tP.go (F:=emp) (ε:=[none,some<|.int x]) (Ko<|LI rfl (QI bZ)) (d:=.int (m:Int)) (by rw[<- em];show⟨rfl,⟨⟨rfl,rfl,⟨⟨by decide,by decide⟩⟩⟩,rfl,⟨by decide⟩⟩,.i⟩) λ_ H4 e4 _ hx=>?_
  cases hx;show tP.go (F:=emp) (ε:=[none,some<|.int x]) (Ko<|LI rfl (QI bZ)) (d:=.int (k0:Int)) (by rw[<- ek];show⟨⟨rfl,rfl,⟨⟨by decide,by decide⟩⟩⟩,rfl,⟨by decide⟩⟩) λ_ H5 e5 _ hx=>?_
  cases hx;let UI:=e3.trans<|e4.trans e5;show⟨λσ G=>(∃ k1:Nat,k1<=2/\σ=[some<|.ref a,some<|.int x,!vn,!vt,!vo,some<|.int p,some<|.int (m:Int),some<|.int (k1:Int),none,none,none,none,none,none])/\f' H2 G,?_,?_⟩
  case refine_2=>
   let r1:=eq_int (ε:=[none,none,none,some<|aJ R,none,none,none,some<|.int (k0:Int)]) (ra:=rV 7) (rb:=rC<|.int 2) rfl rfl;let r2:=gt_int (ε:=[none,none,none,some<|aJ R,none,none,none,some<|.int (k0:Int)]) (ra:=rF KQ<|rA (rV 3) Nq) (rb:=rC<|.int 6) ⟨⟨rfl,rfl⟩,KQ.m (g:=fh) (x:=R)⟩ rfl;obtain⟨b,hb⟩:∃ b,sk (λε b=>rO K2 (rV 7) (rC<|.int 2) ε<|.bl b) (λε b=>rO (fI Ū λi j=>MB<|.bl (decide (j<i))) (rF KQ<|rA (rV 3) Nq) (rC<|.int 6) ε<|.bl b) [none,none,none,some<|aJ R,none,none,none,some<|.int (k0:Int)] b:=by
    cases h:decide ((k0:Int)=2) with
    | true=>rw[h]at r1;show#[_,.t r1 r2]
    | false=>rw[h]at r1;show#[_,.f r1]
   show#[H5,[none,none,none,some<|aJ R,none,none,none,some<|.int (k0:Int)],b,Ko<|Ko (Ko<|LI (DR.mono UI _ _ ht) (Ko<|Ko (Ko<|LI rfl (QI<|f'.refl _)))),hb,λG e=>og (λg=>?_) (λg=>?_)]
   ·show#[#[(1),by decide,1],UI.trans e]
   ·show#[#[k0,k02,1],UI.trans e]
  rintro σ G ⟨⟨k1,k12,rfl⟩,eG⟩;show#[_,1,_,1,_,1,_,1,_,1,a,(1),ns,1,by decide,(NH.trans eG).seq hS,λc2=>#[c2,(2147483647),2,show (0:Int)<2147483647 by decide,?_]];let#[pl,GP,TY,pll,hPL]:=W.a2T (c:=c) (C:=C) (K:=Bx.K) ġ hP p1 m1 ġ ġ e1 e2<|c2 % 2147483647;show#[G,[aD c S,aJ R,.int m,.int p,.int<|c2 % 2147483647],_,f'.refl _,⟨_,_,rfl,DR.mono eG _ _ hn,_,_,rfl,DR.mono eG _ _ ht,_,_,rfl,rfl,_,_,rfl,rfl,_,_,rfl,rfl,rfl⟩,hPL,λvp H6 e6 hvp=>?_];let hvp:DR H6 (av pl) vp:=DR.mono (aM Ĩ e6) _ _ hvp;let e26:=eG.trans e6;show#[H6,H6,H6,[.un,.fz<|.int x,.fz<|aD c S,.fz<|aJ R,.fz<|aI Ņ,.fz<|.int p,.fz<|.int (m:Int),.fz<|.int (k1:Int),.fz<|av pl,.un,.un,.un,.un,.un],.rt<|.bl true,?_,?_,λy H' e' _ hy=>by cases hy;show q H']
  ·show Sd.ss (ε:=[none,some<|.int x,some<|aD c S,some<|aJ R,some<|aI Ņ,some<|.int p,some<|.int (m:Int),some<|.int (k1:Int),some<|av pl,none,none,none,none,none]) (Ko<|LI rfl (LI (DR.mono e26 _ _ hn)<|LI (DR.mono e26 _ _ ht) (LI (DR.mono e26 _ _ ho)<|LI rfl (LI rfl<|LI rfl (LI hvp<|Ko (Ko<|Ko (Ko<|Ko (QI<|f'.refl _))))))))
  let c0:=B0 (c:=c) (S:=S) (k:=k1) (by rw[L.Ka];omega) k12;rw[show S.J0.map (·.1)=R.map (·.1) by rw[<- L.J0,F9];rfl]at c0;generalize a4b:de (R.map (·.1)) k1=chs at c0;let#[J,hJ]:=W.judge (c:=c) ġ hP p1 (m:=m) ġ GP;let Wd:=W.Yh (chs:=chs) ġ p1 ġ GP TY c0.2 ġ;let Pm:=Mo.mk (Rj:=Kh c j0) (m:=m) (p:=p) (J:=J) c0.1 c0.2 Wd.g1 Wd.gnd λch _=>hJ.js ch;let RX:iG [aJ R,.int k1] (tb chs):=by rw[<- a4b];show .mk ġ k12
  let a3T:(NT.take k).filter (λx=>decide (x∈S.Jt))=S.Jt:=by rw[<- (eI k6 L.J')];show Wx W.ln.Wj
  show .nx (.mk (d:=Km [K8,Op,Ť,(.inr "plan",av pl),(.inr "many",.int m),(.inr "prime",.int p)])<|.mk (ð:=[K8,Op,Ť,(.inr "plan",av pl),(.inr "many",.int m),(.inr "prime",.int p)]) (.cons rfl rfl<|.cons rfl rfl (.cons rfl rfl<|.cons rfl rfl (.cons rfl rfl<|.cons rfl rfl .nil))) (by change ([.inr "net",.inr "ties",.inr "order",.inr "plan",.inr "many",.inr "prime"]:List Key).Nodup;decide) rfl) ?_;show .nx (ε1:=[.un,.fz<|.int x,.fz<|aD c S,.fz<|aJ R,.fz<|aI Ņ,.fz<|.int p,.fz<|.int (m:Int),.fz<|.int (k1:Int),.fz<|av pl,.ow<|b8 (aD c S) R Ņ pl m p S.Jt,.un,.un,.un,.un]) ?_ ?_
  ·let hn:ng ([K8,Op,Ť,(.inr "plan",av pl),(.inr "many",.int m),(.inr "prime",.int p)]:ι) (.inr "listeners") (aI S.Jt)=[K8,Op,Ť,(.inr "plan",av pl),(.inr "many",.int m),(.inr "prime",.int p)]++[(.inr "listeners",aI S.Jt)]:=cf λz=>(FE.mp<|show ([.inr "net",.inr "ties",.inr "order",.inr "plan",.inr "many",.inr "prime"]++[.inr "listeners"]:List Key).Nodup by decide).2.2 _ z _ Fw rfl;let e:b8 (aD c S) R Ņ pl m p S.Jt=Km (ng [K8,Op,Ť,(.inr "plan",av pl),(.inr "many",.int m),(.inr "prime",.int p)] (.inr "listeners")<|aI S.Jt):=by rw[hn];rfl
   rw[e];let Q2:aI S.Jt=.lst (((NT.take k).filter λx=>decide (x∈S.Jt)).map .str):=by rw[a3T]
   show .mk (ð:=[K8,Op,Ť,(.inr "plan",av pl),(.inr "many",.int m),(.inr "prime",.int p)]) (k:=.inr "listeners") (d:=aI S.Jt) rfl (by simp) (.z ?_) rfl rfl;rw[Q2];show be (xs:=NT.take k) (u:=.str) (h:=.str) (λx=>decide (x∈S.Jt)) #[1,.l .lst] (by rw[Fh];omega) λy hy=>#[_,1,?_,λ_=>rfl]
   let in1:=ip (n:=false) (i:=y) (ks:=S.Jt);rw[if_neg FJ]at in1;show#[1,#[2,by decide,#[by omega]],in1]
  show .nx #[1] ?_;show c8 pl (u:=λr:b5=>pI2 (.inl r.1,rw r.2)) (λi ε=>∃ Le Kg,ε=[.un,.fz<|.int x,.fz<|aD c S,.fz<|aJ R,.fz<|aI Ņ,.fz<|.int p,.fz<|.int (m:Int),.fz<|.int (k1:Int),.fz<|av pl,.ow<|b8 (aD c S) R Ņ pl m p S.Jt,.ow<|av (pl.take i),Le,Kg,.un]) ⟨_,_,rfl⟩ ⟨rfl,by rw[F9];rfl⟩ (λi r ε hi gR=>?_) λε gR=>?_
  ·let#[Le,Kg,he]:=gR;subst he;let il:=(EY.mp hi).1;let nw:(.inl r.1:Key)∉((pl.take i).map λr=>Ŕ).map (·.1):=λz=>by rw[F9]at z;let#[y,h1,h2]:=F8.mp z;let h2:y.1=r.1:=Sum.inl.inj h2;let nd:=TY;rw[<- Ge i pl,Fa,FE]at nd;show nd.2.2 _ (Fd h1) _ (Fd<|F6 (i:=0) (by rw[Hh];show hi)) h2
   show#[_,#[_,3],_,#[1,by rw[EV,Fh];omega,.z #[#[2],.s<|.sq .lst],1,kI],.fz<|.int r.1,.fz<|rw r.2,?_];rw[cf nw,aR hi,show av (pl.take i++[r])=Km ((pl.take i).map (λr=>Ŕ)++[(.inl r.1,rw r.2)]) by unfold av;rw[Fa];rfl];rfl
  let#[Le,Kg,he]:=gR;rw[FF]at he;subst he;show .nx (ε1:=[.un,.fz<|.int x,.fz<|aD c S,.fz<|aJ R,.fz<|aI Ņ,.fz<|.int p,.fz<|.int (m:Int),.fz<|.int (k1:Int),.fz<|av pl,.ow<|b8 (aD c S) R Ņ pl m p S.Jt,.ow<|av pl,Le,Kg,.fz<|gJ S.Jt J chs]) ?_ ?_
  ·let r1:=eq_int (ε:=[none,some<|.int x,some<|aD c S,some<|aJ R,some<|aI Ņ,some<|.int p,some<|.int (m:Int),some<|.int (k1:Int),some<|av pl,some<|b8 (aD c S) R Ņ pl m p S.Jt,some<|av pl,Le.a,Kg.a,none]) (ra:=rV 7) (rb:=rC<|.int 0) rfl rfl;let r2:=eq_int (ε:=[none,some<|.int x,some<|aD c S,some<|aJ R,some<|aI Ņ,some<|.int p,some<|.int (m:Int),some<|.int (k1:Int),some<|av pl,some<|b8 (aD c S) R Ņ pl m p S.Jt,some<|av pl,Le.a,Kg.a,none]) (ra:=rO (fI (λ_ j=>0<j) λi j=>MB<|.int (i % j)) (rO (fI ET λi j=>MB<|.int (i / j)) (rV 1)<|rC (.int 54))<|rC (.int 2)) (rb:=rC<|.int 1) (i:=x / 54 % 2) #[#[2,#[#[by decide,by decide]]],1,#[by decide]] rfl;by_cases z1:k1=0
   ·rw[EZ<|by omega]at r1;by_cases z2:x / 54 % 2=1
    ·rw[EZ z2]at r2;subst z1;show .t (.t r1 r2) #[#[#[5],Pm]]
    ·rw[F5 z2]at r2;show .f (.t r1 r2) #[#[#[6],Pm]]
   ·rw[F5<|by omega]at r1;show .f (.f r1) #[#[#[6],Pm]]
  let kn:((pl.map λr:b5=>((.inl r.1:Key),r.2)).map (·.1)).Nodup:=by let:=pE (g:=λr:b5=>rw r.2) TY;rw[F9]at this ⊢;show this
  show .nx (.f #[2,.mk (as:=pl.map λr:b5=>((.inl r.1:Key),r.2)) (by rw[F9];rfl) rfl kn] rfl) ?_;let h13:=DG (c:=c) (n:=aD c S) Wd hJ rfl;generalize gJ S.Jt J chs=dT at h13 ⊢;rcases h13 with⟨t,rfl,hs⟩|⟨a1,a2,a3,a4,rfl,hs⟩
  ·let r1:=eq_str (ε:=[none,some<|.int x,some<|aD c S,some<|aJ R,some<|aI Ņ,some<|.int p,some<|.int (m:Int),some<|.int (k1:Int),some<|av pl,some<|b8 (aD c S) R Ņ pl m p S.Jt,some<|av pl,Le.a,Kg.a,some<|.tup [.str "stands",t]]) (ra:=rO L2.Sub (rV 13)<|rC (.int 0)) (rb:=rC<|.str "stands") (x:="stands") #[2,.t rfl] rfl;rw[EZ rfl]at r1;let r2:=eq_int (ε:=[none,some<|.int x,some<|aD c S,some<|aJ R,some<|aI Ņ,some<|.int p,some<|.int (m:Int),some<|.int (k1:Int),some<|av pl,some<|b8 (aD c S) R Ņ pl m p S.Jt,some<|av pl,Le.a,Kg.a,some<|.tup [.str "stands",t]]) (ra:=rF KQ<|rA (rV 13) Nq) (rb:=rC<|.int 2) (i:=2) #[#[2],KQ.s (m:=[.str "stands",t]) .tup] rfl;rw[EZ rfl]at r2;show .rt (.t (.t r1 r2) #[#[#[2,#[#[3],RX],1],hs],1])
  ·let r1:=eq_str (ε:=[none,some<|.int x,some<|aD c S,some<|aJ R,some<|aI Ņ,some<|.int p,some<|.int (m:Int),some<|.int (k1:Int),some<|av pl,some<|b8 (aD c S) R Ņ pl m p S.Jt,some<|av pl,Le.a,Kg.a,some<|.tup [.str "falls",a1,a2,a3,a4]]) (ra:=rO L2.Sub (rV 13)<|rC (.int 0)) (rb:=rC<|.str "stands") (x:="falls") #[2,.t rfl] rfl;rw[F5<|by decide]at r1;let r3:=eq_str (ε:=[none,some<|.int x,some<|aD c S,some<|aJ R,some<|aI Ņ,some<|.int p,some<|.int (m:Int),some<|.int (k1:Int),some<|av pl,some<|b8 (aD c S) R Ņ pl m p S.Jt,some<|av pl,Le.a,Kg.a,some<|.tup [.str "falls",a1,a2,a3,a4]]) (ra:=rO L2.Sub (rV 13)<|rC (.int 0)) (rb:=rC<|.str "falls") (x:="falls") #[2,.t rfl] rfl;rw[EZ rfl]at r3;show .nx (.f (.f r1) rfl) #[.t r3 #[#[2,#[#[3],RX],1],hs],1]
section
variable {h:Heap}
theorem Vz (K)(C)(ğ:Str)(st):Prop:=∃ f fd,Mk K C f/\MN K "__init__" ğ st f fd
def in0_mk {kV:Value}(mk:W.makesIn K C=true)(a:W.findIn K (.ref C) "__init__"=!some (.ref f))(i:W.isFn K (.ref f)=true)(kc)(l)(c)(k:W.keepIn K (.ref f)=true):Vz K C ğ st:=#[f,_,#[mk,a,i,kc],sZ l c k]
theorem XF (K)(C)(m ğ:Str)(st):Prop:=∃ (f T:Addr)(t:Tok)(kV doc pm:Value)(an:ψ)(J7 ct:Value)(oc:Value)(od:ψ)(KR:ω)(tc:Value)(td:ψ)(n:Nat)(Pl:ω),ye K C m f/\
 K.lookup f=some ⟨oc,od,.func (W.fnOf m ğ (aP st) (ay st) (aa st) (.ref T) kV doc pm an J7 ct),KR⟩/\W.codeIn K J7 ğ=true/\W.keepIn K (.ref f)=true/\K.lookup T=some ⟨tc,td,.seq [.int 1 t].toArray n,Pl⟩
def meD0_mk {C:Addr}{m ğ:Str}{st:Stmt}{f T:Addr}{t:Tok}{oc tc:Value}{od an td:ψ}{KR Pl:ω}{n:Nat}{kV doc pm J7 ct:Value} (a:W.findIn K (.ref C) m=!some (.ref f)) (i:W.isFn K (.ref f)=true)
  (l:K.lookup f=some #[oc,od,.func (W.fnOf m ğ (aP st) (ay st) (aa st) (.ref T) kV doc pm an J7 ct),KR])
  (c) (k:W.keepIn K (.ref f)=true) (d:K.lookup T=some #[tc,td,.seq [.int 1 t].toArray n,Pl]):XF K C m ğ st:=#[f,T,t,kV,doc,pm,an,J7,ct,oc,od,KR,tc,td,n,Pl,#[a,i,k],l,c,k,d]
def Ct [Bx:Bd](F:XF Bx.K C x ğ st)(cl)(hb:∀ (T:Addr)(t:Tok)(kV doc pm:Value)(an:ψ)(J7 ct:Value)(us:θ),us.length+1=ps.length->∃ kk,bindArgs ħ #[us,[]]=seqItems? (.ref T) >>= kk/\kk (some [.int 1 t].toArray)=pure (ps.zip (us++[.int 1 t])))(ok):Xd k C x ps [.int 1] sp:=by let#[f,T,t,kV,doc,pm,an,J7,ct,oc,od,KR,tc,td,n,Pl,m,l,c,kp,d]:=F;show#[f,_,[.int 1 t],cl,m,λs us Ng hl=>?_,.cons #[t,1] .nil,ok f _ #[#[oc,od,.ref T,kV,doc,pm,an,J7,ct,KR,1,l,c],kp]];let#[kk,h1,h2]:=hb T t kV doc pm an J7 ct us Ħ;show HS rfl (Ng _ _ d) rfl h1 h2
theorem Dz (K)(x ğ:Str)(st):Prop:=∃ (f T:Addr)(kV doc pm:Value)(an:ψ)(J7 ct:Value)(oc:Value)(od:ψ)(KR:ω)(tc:Value)(td:ψ)(n:Nat)(Pl:ω),W.nsIn K mainGlobals x=!some (.ref f)/\
 K.lookup f=some ⟨oc,od,.func ħ,KR⟩/\W.codeIn K J7 ğ=true/\W.keepIn K (.ref f)=true/\K.lookup T=some ⟨tc,td,.seq [.none].toArray n,Pl⟩
def fnD0_mk {x ğ:Str}{st:Stmt}{f T:Addr}{oc tc:Value}{od an td:ψ}{KR Pl:ω}{n:Nat}{kV doc pm J7 ct:Value} (a)
  (l:K.lookup f=some #[oc,od,.func ħ,KR])
  (c) (k:W.keepIn K (.ref f)=true) (d:K.lookup T=some #[tc,td,.seq [.none].toArray n,Pl]):Dz K x ğ st:=#[f,T,kV,doc,pm,an,J7,ct,oc,od,KR,tc,td,n,Pl,a,l,c,k,d]
def t9 [Bx:Bd](F:Dz Bx.K x ğ st)(X:Bx.K.In h)(G)(hb:∀ (T:Addr)(kV doc pm:Value)(an:ψ)(J7 ct:Value)(us:θ),us.length=ps.length->∃ kk,bindArgs ħ #[us,[]]=seqItems? (.ref T) >>= kk/\kk (some [.none].toArray)=pure A2)(ok):JB k x ps sp:=by let#[f,T,kV,doc,pm,an,J7,ct,oc,od,KR,tc,td,n,Pl,a,l,c,kp,d]:=F;show#[f,_,Gk X G a,kp,λs us Ng hl=>?_,ok f _ #[#[oc,od,.ref T,kV,doc,pm,an,J7,ct,KR,1,l,c],kp]];rw[Ft]at hl ⊢;let#[kk,h1,h2]:=hb T kV doc pm an J7 ct us hl;show HS rfl (Ng _ _ d) rfl h1 h2
theorem Bc (K)(x ğ:Str)(st):Prop:=∃ (f T:Addr)(t:Tok)(kV doc pm:Value)(an:ψ)(J7 ct:Value)(oc:Value)(od:ψ)(KR:ω)(tc:Value)(td:ψ)(n:Nat)(Pl:ω),W.nsIn K mainGlobals x=!some (.ref f)/\
 K.lookup f=some ⟨oc,od,.func ħ,KR⟩/\W.codeIn K J7 ğ=true/\W.keepIn K (.ref f)=true/\K.lookup T=some ⟨tc,td,.seq [.int 0 t].toArray n,Pl⟩
def fnI0_mk {x ğ:Str}{st:Stmt}{f T:Addr}{t:Tok}{oc tc:Value}{od an td:ψ}{KR Pl:ω}{n:Nat}{kV doc pm J7 ct:Value} (a)
  (l:K.lookup f=some #[oc,od,.func ħ,KR])
  (c) (k:W.keepIn K (.ref f)=true) (d:K.lookup T=some #[tc,td,.seq [.int 0 t].toArray n,Pl]):Bc K x ğ st:=#[f,T,t,kV,doc,pm,an,J7,ct,oc,od,KR,tc,td,n,Pl,a,l,c,k,d]
def CS [Bx:Bd](F:Bc Bx.K x ğ st)(X:Bx.K.In h)(G)(hb)(ok):Xf k x ps [.int 0] sp:=by let#[f,T,t,kV,doc,pm,an,J7,ct,oc,od,KR,tc,td,n,Pl,a,l,c,kp,d]:=F;show#[f,_,[.int 0 t],Gk X G a,kp,λs us Ng hl=>?_,.cons #[t,1] .nil,ok f _ #[#[oc,od,.ref T,kV,doc,pm,an,J7,ct,KR,1,l,c],kp]];let#[kk,h1,h2]:=hb T t kV doc pm an J7 ct us Ħ;show HS rfl (Ng _ _ d) rfl h1 h2
def AK [Bx:Bd](F:Bc Bx.K x ğ st)(X:Bx.K.In h)(G)(hb)(ok:∀ f fd,Kb Bx.K x ğ st f fd->O7 L0 k f fd ps sp):D7 k x ps [.int 0] sp:=by let#[f,T,t,kV,doc,pm,an,J7,ct,oc,od,KR,tc,td,n,Pl,a,l,c,kp,d]:=F;show#[f,_,[.int 0 t],Gk X G a,kp,λs us Ng hl=>?_,.cons #[t,1] .nil,ok f _ #[#[oc,od,.ref T,kV,doc,pm,an,J7,ct,KR,1,l,c],kp]];let#[kk,h1,h2]:=hb T t kV doc pm an J7 ct us Ħ;show HS rfl (Ng _ _ d) rfl h1 h2
def Ez [Bx:Bd](F:Bc Bx.K x ğ st)(X:Bx.K.In h)(G)(hb:∀ (T:Addr)(t:Tok)(kV doc pm:Value)(an:ψ)(J7 ct:Value)(us:θ),us.length=ps.length->∃ kk,bindArgs ħ #[us,[]]=seqItems? (.ref T) >>= kk/\kk (some [.int 0 t].toArray)=pure A2)(ok):JB k x ps sp:=by let#[f,T,t,kV,doc,pm,an,J7,ct,oc,od,KR,tc,td,n,Pl,a,l,c,kp,d]:=F;show#[f,_,Gk X G a,kp,λs us Ng hl=>?_,ok f _ #[#[oc,od,.ref T,kV,doc,pm,an,J7,ct,KR,1,l,c],kp]];rw[Ft]at hl ⊢;let#[kk,h1,h2]:=hb T t kV doc pm an J7 ct us hl;show HS rfl (Ng _ _ d) rfl h1 h2
theorem Xi0 (K)(C)(ğ:Str)(st):Prop:=∃ f fd,VA K C f/\MN K "__init__" ğ st f fd
def xi0_mk {kV:Value}(a:W.findIn K (.ref C) "__init__"=!some (.ref f))(own:yL K C f=true)(i:W.isFn K (.ref f)=true)(kc)(l)(c)(k:W.keepIn K (.ref f)=true):Xi0 K C ğ st:=#[f,_,#[own,i,kc],sZ l c k]
def Bi [Bx:Bd](F:Xi0 Bx.K C ğ st)(X:Bx.K.In h)(G)(aC)(hb:∀ (kV doc pm:Value)(an:ψ)(J7 ct:Value)(us:θ),us.length=ps.length->bindArgs (W.fnOf "__init__" ğ (aP st) (ay st) (aa st) .none kV doc pm an J7 ct) #[us,[]]=pure A2)(ok:∀ f fd,MN Bx.K "__init__" ğ st f fd->O7 Ky k f fd ps sp):D6 k x C ps sp:=by let#[f,fd,m,F]:=F;show#[f,fd,Gk X G aC,m,F.binds hb,ok f fd F]
def EA [Bx:Bd](F:Kk Bx.K x ğ st)(X:Bx.K.In h)(G)(hb:∀ (kV doc pm:Value)(an:ψ)(J7 ct:Value)(us:θ),us.length=ps.length->bindArgs ĩ #[us,[]]=pure A2)(ok:∀ f fd,MN Bx.K x ğ st f fd->O7 L0 k f fd ps sp):Xe k x ps sp:=by let#[f,fd,a,F]:=F;show#[f,fd,Gk X G a,F.kp,F.binds hb,ok f fd F]
@[elab_as_elim] def len1 {α:Type}{P:List α->Prop}:∀ (us:List α),us.length=1->(∀ a,P [a])->P us
 | [_],_,f=>f _
@[elab_as_elim] def Em {α:Type}{P:List α->Prop}:∀ (us:List α),us.length=2->(∀ a b,P [a,b])->P us
 | [_,_],_,f=>f _ _
@[elab_as_elim] def Ax {α:Type}{P:List α->Prop}:∀ (us:List α),us.length=3->(∀ a b c,P [a,b,c])->P us
 | [_,_,_],_,f=>f _ _ _
@[elab_as_elim] def Aw {α:Type}{P:List α->Prop}:∀ (us:List α),us.length=4->(∀ a b c d,P [a,b,c,d])->P us
 | [_,_,_,_],_,f=>f _ _ _ _
@[elab_as_elim] def Av {α:Type}{P:List α->Prop}:∀ (us:List α),us.length=5->(∀ a b c d e,P [a,b,c,d,e])->P us
 | [_,_,_,_,_],_,f=>f _ _ _ _ _
@[elab_as_elim] def len6 {α:Type}{P:List α->Prop}:∀ (us:List α),us.length=6->(∀ a b c d e f,P [a,b,c,d,e,f])->P us
 | [_,_,_,_,_,_],_,f=>f _ _ _ _ _ _
def X9 [Bx:Bd](X:Bx.K.In h)(G){x ğ:Str}{st:Stmt}{ps:η}{sp:Sp}{k:Nat} (F:Kk Bx.K x ğ st) (ok:∀ f fd,MN Bx.K x ğ st f fd->O7 Ky k f fd ps sp) (hb:∀ (kV doc pm:Value)(an:ψ)(J7 ct:Value)(us:θ),us.length=ps.length->bindArgs ĩ #[us,[]]=pure A2:=ē):JB k x ps sp:=by let#[f,fd,a,F]:=F;show#[f,fd,Gk X G a,F.kp,F.binds hb,ok f fd F]
def Ws [Bx:Bd]{C:Addr}{x ğ:Str}{st:Stmt}{ps:η}{sp:Sp}{k:Nat} (F:O9 Bx.K C x ğ st) (cl) (ok:∀ f fd,MN Bx.K x ğ st f fd->O7 Ky k f fd ps sp) (hb:∀ (kV doc pm:Value)(an:ψ)(J7 ct:Value)(us:θ),us.length=ps.length->bindArgs ĩ #[us,[]]=pure A2:=ē):Kj k C x ps sp:=by let#[f,fd,m,F]:=F;show#[f,fd,cl,m,F.binds hb,ok f fd F]
def WM [Bx:Bd](X:Bx.K.In h)(G){C:Addr}{x ğ:Str}{st:Stmt}{ps:η}{sp:Sp}{k:Nat} (F:Vz Bx.K C ğ st) (aC) (ok:∀ f fd,MN Bx.K "__init__" ğ st f fd->O7 Ky k f fd ps sp) (hb:∀ (kV doc pm:Value)(an:ψ)(J7 ct:Value)(us:θ),us.length=ps.length->bindArgs (W.fnOf "__init__" ğ (aP st) (ay st) (aa st) .none kV doc pm an J7 ct) #[us,[]]=pure A2:=ē):Sm k x C ps sp:=by let#[f,fd,m,F]:=F;show#[f,fd,Gk X G aC,m,F.binds hb,ok f fd F]
universe e
def all_mk {l:W.OpenLaw}{CE:Addr}(X:K.In h)(G:h.Ns mainGlobals mg)(XY:mg "law"=!.ref fa)(ab:W.nsIn K mainGlobals "Net"=!some (.ref CN))(ac:W.nsIn K mainGlobals "Post"=!some (.ref CP))(ad:W.nsIn K mainGlobals "House"=!some (.ref CH))(ah:W.nsIn K mainGlobals "Listener"=!some (.ref CL))(al:W.nsIn K mainGlobals "Field"=!some (.ref CF))(am:W.nsIn K mainGlobals "Ear"=!some (.ref CE))(ap:W.plainGet K CN Str.empty=true)(az:W.hasDictIn K CN=true)(aC:W.plainOver K CN=true)(aS:W.findIn K (.ref CN) "__setattr__"=!some Ī)(a0:W.plainGet K CP Str.empty=true)(a1:W.hasDictIn K CP=true)(a2:W.plainOver K CP=true)(a3:W.findIn K (.ref CP) "__setattr__"=!some Ī)(a4:W.plainGet K CH Str.empty=true)(a5:W.hasDictIn K CH=true)(a6:W.plainOver K CH=true)(a7:W.findIn K (.ref CH) "__setattr__"=!some Ī)(ba:W.plainGet K CL Str.empty=true)(bj:W.hasDictIn K CL=true)(bl:W.plainOver K CL=true)(bm:W.findIn K (.ref CL) "__setattr__"=!some Ī)(bs:W.plainGet K CF Str.empty=true)(bw:W.hasDictIn K CF=true)(b0:W.plainOver K CF=true)(b1:W.findIn K (.ref CF) "__setattr__"=!some Ī)(b3:W.plainGet K CE Str.empty=true)(b4:W.hasDictIn K CE=true)(b9:W.plainOver K CE=true)(cb:W.findIn K (.ref CE) "__setattr__"=!some Ī)(cc:W.findIn K (.ref CN) "kept_posts"=!none)(cd:W.findIn K (.ref CN) "kept_ties"=!none)(ce:W.findIn K (.ref CN) "next_number"=!none)(ch:W.findIn K (.ref CP) "name"=!none)(ci:W.findIn K (.ref CH) "name"=!none)(cj:W.findIn K (.ref CL) "name"=!none)(ck:W.findIn K (.ref CF) "prime"=!none)(cl:W.findIn K (.ref CE) "rows"=!none)(cm:W.findIn K (.ref CE) "probes"=!none)(cn:W.nsIn K mainGlobals "LETTERS"=!some (.str "abcdefghijklmnopqrstuvwxyz" RH))(co:W.nsIn K mainGlobals "LONGEST_NAME"=!some (.int 8 OT))(cp:W.nsIn K mainGlobals "MOST_POSTS"=!some (.int 20 PQ))(cs:W.nsIn K mainGlobals "MOST_LISTENERS"=!some (.int 8 Oc))(cx:W.nsIn K mainGlobals "MOST_TIES"=!some (.int 40 Qg))(cz:W.nsIn K mainGlobals "LONGEST_DELAY"=!some (.int 99 OG))(c0:W.nsIn K mainGlobals "GREATEST_PRIME"=!some (.int 1000000 Od))(c1:W.kitOne K (.type "str") (.type "str")=!true)(c2:W.kitOne K Ps Ps=!true)(c3:W.kitOne K Ps (.type "bool")=!false)(c4:W.kitOne K Ş Ş=!true)(c5:CP≠CH)(db:CP≠CL)(dd:CH≠CL)(a_Cut:W.nsIn K mainGlobals "Cut"=!some (.ref Qd))(cu_sa:W.findIn K (.ref Qd) "__setattr__"=!some Ī)(cu_ov:jN K Qd=true)(cu_hd:W.hasDictIn K Qd=true)(cu_tk_fallen:W.takerIn K Qd "fallen"=!none)(cu_tk_name:W.takerIn K Qd "name"=!none)(cu_tk_numbers:W.takerIn K Qd "numbers"=!none)(cu_ex:W.exmAny K (.ref Qd) [.ref Qd,.ref RE]=!true)(a_SmallPrime:W.nsIn K mainGlobals "SmallPrime"=!some (.ref RE))(sp_sa:W.findIn K (.ref RE) "__setattr__"=!some Ī)(sp_ov:jN K RE=true)(sp_hd:W.hasDictIn K RE=true)(sp_tk_needed:W.takerIn K RE "needed"=!none)(sp_ex:W.exmAny K (.ref RE) [.ref Qd,.ref RE]=!true)(dk:W.nsIn K mainGlobals "len"=!none)(dl:W.nsIn K mainGlobals "isinstance"=!none)(dn:W.nsIn K mainGlobals "str"=!none)(dp:W.nsIn K mainGlobals "all"=!none)(dr:W.nsIn K mainGlobals "list"=!none)(ds:W.nsIn K mainGlobals "int"=!none)(dt:W.nsIn K mainGlobals "bool"=!none)(dx:W.nsIn K mainGlobals "enumerate"=!none)(dy:W.nsIn K mainGlobals "range"=!none)(dz:W.nsIn K mainGlobals "min"=!none)(dK:W.nsIn K mainGlobals "dict"=!none)(dN:W.nsIn K mainGlobals "sorted"=!none)(d0:W.nsIn K mainGlobals "zip"=!none)(d1:W.nsIn K mainGlobals "sum"=!none)(d2:W.nsIn K mainGlobals "any"=!none)(f0:Kk K "is_name" "is_name" ie)(f1:O9 K CP "reads" "Post.reads" dh)(f2:O9 K CH "reads" "Post.reads" dh)(f3:O9 K CL "reads" "Listener.reads" cR)(f4:O9 K CP "hears" "Post.hears" di)(f5:O9 K CH "hears" "House.hears" fc)(f6:O9 K CL "hears" "Post.hears" di)(f7:Vz K CP "Post.__init__" bH)(f8:Vz K CH "Post.__init__" bH)(f9:Vz K CL "Post.__init__" bH)(f10:Vz K CN "Net.__init__" dG)(f11:O9 K CN "check_new_name" "Net.check_new_name" (ak (top 35) 4))(f12:O9 K CN "listeners" "Net.listeners" (ak (top 35) 12))(f13:O9 K CN "home" "Net.home" (ak (top 35) 13))(f14:O9 K CN "put_in" "Net.put_in" (ak (top 35) 5))(f15:O9 K CN "post" "Net.post" (ak (top 35) 2))(f16:O9 K CN "listener" "Net.listener" (ak (top 35) 3))(f17:O9 K CN "house" "Net.house" (ak (top 35) 1))(f18:Kk K "is_whole" "is_whole" (top 28))(f19:Kk K "is_delay" "is_delay" (top 29))(f20:O9 K CN "ties" "Net.ties" (ak (top 35) 14))(f21:O9 K CN "names" "Net.names" (ak (top 35) 11))(f22:Kk K "led_to" "led_to" (top 30))(f23:O9 K CN "check_there" "Net.check_there" (ak (top 35) 8))(f24:O9 K CN "check_ends" "Net.check_ends" (ak (top 35) 7))(f25:XF K CN "tie" "Net.tie" (ak (top 35) 6))(f26:O9 K CN "into" "Net.into" (ak (top 35) 15))(f27:O9 K CN "out_of" "Net.out_of" (ak (top 35) 16))(f28:Kk K "first_ready" "first_ready" (top 31))(f29:O9 K CN "ordered" "Net.ordered" (ak (top 35) 17))(f30:Kk K "mixing_ties" "mixing_ties" (top 57))(f31:Kk K "by_number" "by_number" (top 58))(f32:Kk K "wanted_lengths" "wanted_lengths" (top 59))(f33:Kk K "is_number_of" "is_number_of" (top 60))(f34:Kk K "is_row_of" "is_row_of" (top 61))(f35:Kk K "is_prime" "is_prime" (top 38))(f36:Vz K CF "Field.__init__" (ak (top 39) 0))(f37:Kk K "checked_plan" "checked_plan" (top 62))(f38:O9 K CF "fit" "Field.fit" (ak (top 39) 1))(f39:O9 K CF "times" "Field.times" (ak (top 39) 4))(f40:O9 K CF "minus" "Field.minus" (ak (top 39) 3))(f41:O9 K CF "back" "Field.back" (ak (top 39) 5))(f42:Kk K "row_sum" "row_sum" (top 41))(f43:Kk K "column" "column" (top 42))(f44:Kk K "ones_row" "ones_row" (top 44))(f45:Kk K "ones" "ones" (top 45))(f46:Kk K "coming_in" "coming_in" (top 63))(f47:Kk K "flow" "flow" (top 64))(f48:Dz K "carried" "carried" (top 65))(f49:Kk K "fitted_row" "fitted_row" (top 46))(f50:Kk K "row_with" "row_with" (top 47))(f51:Kk K "scaled" "scaled" (top 48))(f52:Kk K "without" "without" (top 49))(f53:Kk K "cleared" "cleared" (top 50))(f54:Kk K "reduced" "reduced" (top 51))(f55:Kk K "first_place" "first_place" (top 52))(f56:Kk K "lead_places" "lead_places" (top 53))(f57:Kk K "reader" "reader" (top 54))(f58:Kk K "nought" "nought" (top 55))(f59:Kk K "judgement" "judgement" (top 67))(f60:Dz K "judged" "judged" (top 68))(f61:Kk K "longer_by_one" "longer_by_one" (top 2))(f62:Kk K "choices" "choices" (top 3))(f63:Kk K "standing_ties" "standing_ties" (top 70))(f64:Kk K "ties_by_post" "ties_by_post" (top 71))(f65:Kk K "step_over" "step_over" (top 72))(f66:Kk K "reached_from" "reached_from" (top 73))(f67:Kk K "used_with" "used_with" (top 74))(f68:Kk K "ties_between" "ties_between" (top 75))(f69:Kk K "tie_out_of" "tie_out_of" (top 76))(f70:Kk K "one_way" "one_way" (top 77))(f71:Kk K "parted_ways" "parted_ways" (top 78))(f72:Dz K "ways" "ways" (top 79))(f73:Vz K CE "Ear.__init__" (ak (top 81) 0))(f74:O9 K CE "shown" "Ear.shown" (ak (top 81) 1))(f75:O9 K CE "move_front" "Ear.move_front" (ak (top 81) 2))(f76:Kk K "ways_by_choice" "ways_by_choice" (top 82))(f77:Kk K "message_ties" "message_ties" (top 83))(f78:Kk K "asks_by_tie" "asks_by_tie" (top 84))(f79:Kk K "unbarred" "unbarred" (top 85))(f80:Kk K "multipliers" "multipliers" (top 86))(f81:Kk K "times_row" "times_row" (top 43))(f82:Kk K "mixed_row" "mixed_row" (top 87))(f83:Kk K "made_plan" "made_plan" (top 88))(f84:Kk K "kept" "kept" (top 5))(f85:Xi0 K Qd "Cut.__init__" (ak (top 18) 0))(f86:Xi0 K RE "SmallPrime.__init__" (ak (top 19) 0))(f88:Bc K "plan_for" "plan_for" (top 89))(f89:Kk K "first_deaf" "first_deaf" (top 91))(f90:Kk K "tables_of" "tables_of" (top 92))(f91:Bc K "stands" "stands" (top 93))(f92:Kk K "_law_cell_at" "_law_cell_at" (top 95))(f93:Kk K "_law_stream" "_law_stream" (top 96))(f94:Kk K "_law_net" "_law_net" (top 97))(f95:Kk K "_law_into" "_law_into" (top 98))(f96:Kk K "_law_plan" "_law_plan" (top 99))(f97:Kk K "_law_rows" "_law_rows" (top 100))(f98:Kk K "_law_reads" "_law_reads" (top 101))(f99:Kk K "_law_alike" "_law_alike" (top 102))(a4y:Kk K "_law_choices" "_law_choices" (top 103))(a4x:Kk K "_law_stood" "_law_stood" (top 104))(a4w:Kk K "_law_fell" "_law_fell" (top 105))(fl:Kk K "law" "law" (top 106)):
  ∃ fd:È,(∀ (s:Ê)(v:Value),BindsTo s fd #[[v],[]] [("_law_script",v)])/\∀ base:Heap,K.In base->base.Ns mainGlobals mg->Jy l.prog w K mg base Ky 10 fa fd ["_law_script"] (mS K):=by
 let#[fL,fdL,aL,FL]:=fl;let e:=XY.symm.trans (Gk X G aL)
 cases e;let Ni:MZ K CN:=#[ap,az,aC,aS]
 let Xj:MZ K CP:=#[a0,a1,a2,a3]
 let Xm:MZ K CH:=#[a4,a5,a6,a7]
 let Xk:MZ K CL:=#[ba,bj,bl,bm]
 let S8:MZ K CF:=#[bs,bw,b0,b1]
 let Xn:MZ K CE:=#[b3,b4,b9,cb]
 let O:Cl.Ok K #[CN,CP,CH,CL]:=#[Ni,Xj,Xm,Xk,cc,cd,ce,ch,ci,cj,c5,db,dd]
 let TL:jT mg:=#[Fm X G dk,Fm X G dl,Fm X G dn,Fm X G dp,Fm X G dr]
 let TG:ER mg:=#[#[_,Gk X G cn],#[_,Gk X G co],#[_,Gk X G cp],#[_,Gk X G cs]]
 let TK:Xv K:=#[c1]
 let TN:EQ mg:=#[Fm X G dl,Fm X G ds,Fm X G dt,Fm X G dk]
 let TH:Xx mg:=#[#[_,Gk X G cx],#[_,Gk X G cz]]
 let TI:Xw K:=#[c2,c3]
 let TS:EO mg:=#[Fm X G dK,Fm X G dN]
 let TD:Dr mg:=#[Fm X G dK,Fm X G dk,Fm X G dr,Fm X G dz]
 let TX:Txt K mg CF:=#[S8,ck,Fm X G dy,Fm X G d0,Fm X G d1,Fm X G dk]
 let TP:a01 K mg CF:=#[S8,ck,#[_,Gk X G c0]]
 let TR:Xu mg:=#[Fm X G dy]
 let TA:oQ mg:=#[Fm X G dk,Fm X G dy,Fm X G dr,Fm X G dx,Fm X G ds,Fm X G d0,Fm X G d1]
 let TYy:a00 mg:=#[Fm X G dK]
 let EF1:m8 K Qd "fallen":=#[cu_sa,cu_ov,cu_tk_fallen,cu_hd]
 let EF2:m8 K Qd "name":=#[cu_sa,cu_ov,cu_tk_name,cu_hd]
 let EF3:m8 K Qd "numbers":=#[cu_sa,cu_ov,cu_tk_numbers,cu_hd]
 let EF4:m8 K RE "needed":=#[sp_sa,sp_ov,sp_tk_needed,sp_hd]
 let TE:LV K mg CE:=#[Xn,cl,cm,Fm X G dy,Fm X G d0,Fm X G d2,Fm X G dk,Fm X G dx]
 show#[fdL,λs v=>?_,λbase _ _=>?_]
 ·let#[oc,od,kV,doc,pm,an,J7,ct,KR,1,lk,Qe]:=FL.ex;show .of_eq rfl
 ·
  letI Bx:Bd:=#[l.prog,w,K,mg,base]
  let fq:=@X9 h Bx X G;let mq:=@Ws Bx;let iq:=@WM h Bx X G;let Ox:=fq f0 λf fd F=>uX F TL TG TK;let XA:Kj 1 CP "reads" Ý (Pr<|iI (decide ((CP:Addr)=(⟨CN,CP,CH,CL⟩:Cl).Nf))):=mq f1 Xj λf fd F=>by rw[show decide ((CP:Addr)=(#[CN,CP,CH,CL]:Cl).Nf)=false from gS O .post];show dA (iN F)
  let UW:Kj 1 CH "reads" Ý (Pr<|iI (decide ((CH:Addr)=(⟨CN,CP,CH,CL⟩:Cl).Nf))):=mq f2 Xm λf fd F=>by rw[show decide ((CH:Addr)=(#[CN,CP,CH,CL]:Cl).Nf)=false from gS O .house];show dA (iN F)
  let QW:Kj 1 CL "reads" Ý (Pr<|iI (decide ((CL:Addr)=(⟨CN,CP,CH,CL⟩:Cl).Nf))):=mq f3 Xk λf fd F=>by rw[show decide ((CL:Addr)=(#[CN,CP,CH,CL]:Cl).Nf)=true from gS O .listener];show dA (jB F)
  let XG:Kj 1 CP "hears" Ý (Pr<|iI (not (decide ((CP:Addr)=(⟨CN,CP,CH,CL⟩:Cl).house)))):=mq f4 Xj λf fd F=>by rw[show (not (decide ((CP:Addr)=(#[CN,CP,CH,CL]:Cl).house)))=true from gZ O .post];show dA (iO F)
  let UZ:Kj 1 CH "hears" Ý (Pr<|iI (not (decide ((CH:Addr)=(⟨CN,CP,CH,CL⟩:Cl).house)))):=mq f5 Xm λf fd F=>by rw[show (not (decide ((CH:Addr)=(#[CN,CP,CH,CL]:Cl).house)))=false from gZ O .house];show dA (nN F)
  let R0:Kj 1 CL "hears" Ý (Pr<|iI (not (decide ((CL:Addr)=(⟨CN,CP,CH,CL⟩:Cl).house)))):=mq f6 Xk λf fd F=>by rw[show (not (decide ((CL:Addr)=(#[CN,CP,CH,CL]:Cl).house)))=true from gZ O .listener];show dA (iO F)
  let R4:=iq f7 ac λf fd F=>g6 F O;let Qc:=iq f8 ad λf fd F=>g6 F O;let NC:=iq f9 ah λf fd F=>g6 F O;let TC:=iq f10 ab λf fd F=>v5 F O;let N7:∀ C,jn (#[CN,CP,CH,CL]:Cl) C->Kj 1 C "reads" Ý (Pr<|iI (decide (C=(#[CN,CP,CH,CL]:Cl).Nf))):=by
   rintro _ ⟨k,rfl⟩
   cases k with
   | house=>show UW
   | listener=>show QW
   | post=>show XA
  let Na:∀ C,jn (#[CN,CP,CH,CL]:Cl) C->Kj 1 C "hears" Ý (Pr<|iI (not (decide (C=(#[CN,CP,CH,CL]:Cl).house)))):=by
   rintro _ ⟨k,rfl⟩
   cases k with
   | house=>show UZ
   | listener=>show R0
   | post=>show XG
  let J9:=mq f11 Ni<|gD O Ox;let J1:=mq f12 Ni<|kF O N7;let JV:=mq f13 Ni<|v6 O Na;let JF:=mq f14 Ni<|pA O TL TG N7 J1;let NB:=mq f15 Ni<|v3 O J9 JF R4;let LD:=mq f16 Ni<|lU O J9 JF NC;let MY:=mq f17 Ni<|sQ O J9 JF JV Qc;let KJ:=fq f18 λf fd F=>uV F TN TI;let Ny:=fq f19<|uY TH KJ;let J8:=mq f20 Ni<|uZ O;let MX:=mq f21 Ni<|sP O TL;let Pa:=fq f22<|Ai TL;let Jc:=mq f23 Ni<|j4 O;let KN:=mq f24 Ni<|jA O Na Jc J8 Pa;let NA:Xd 3 CN "tie" ô [.int 1] (rR ⟨CN,CP,CH,CL⟩):=Ct f25 Ni (λ_ _ _ _ _ _ _ _ us hl=>Ax us (Nat.succ.inj hl) λ_ _ _=>#[_,2]) λf fd F=>xu F O TN TH KN Ny;let KL:=mq f26 Ni<|v4 Jc J8 (c:=#[CN,CP,CH,CL]);let Mt:=mq f27 Ni<|pB Jc J8 (c:=#[CN,CP,CH,CL]);let M3:=fq f28<|nJ TL;let Mb:=mq f29 Ni<|nM O TD J8 M3;let Jv:=fq f30<|nH JV Mb KL Mt (c:=#[CN,CP,CH,CL]);let Jr:=fq f31<|sO TS;let KH:=fq f32<|jz TD Jv Jr (c:=#[CN,CP,CH,CL]);let LB:=fq f33<|lS TX KJ;let MV:=fq f34<|sM TL LB;let Nx:=fq f35 uW;let JK:=iq f36 al<|Ee TP Nx;let LC:=fq f37<|lT TD JK KH MV (c:=#[CN,CP,CH,CL]);let J2:=mq f38 S8<|Wg TX;let Jw:=mq f39 S8<|Cf J2;let JY:=mq f40 S8<|Cg J2;let Mz:=mq f41 S8<|Eg TX J2 Jw;let Ki:=fq f42<|xk TX J2;let Mh:=fq f43 Ak;let KI:=fq f44<|uU TX;let Lc:=fq f45<|Ec TX KI;let MW:=fq f46 sN;let R3:=fq f47<|Ef Ki MW Jr;let Oz:JB 5 "carried" à (Pr<|jY ⟨CN,CP,CH,CL⟩ j0):=t9 f48 X G (λ_ _ _ _ _ _ _ us hl=>Av us hl λ_ _ _ _ _=>#[_,2]) λf fd F=>xt F TS JK Jv R3 Lc Mh Jr (c:=#[CN,CP,CH,CL]);let Mr:=fq f49<|px J2;let Nw:=fq f50<|uS TX;let P8:=fq f51<|Af Jw;let Ou:=fq f52<|xj TX Jw JY;let Oy:=fq f53<|xr TX P8 Ou Mz;let Ll:=fq f54<|xo TX Mr Nw Oy;let M':=fq f55<|nK TX;let JX:=fq f56<|nI M';let P9:=fq f57<|Ag TX Lc JX Ll;let P':=fq f58<|Ah TX JX Ll KI JY;let MU:=fq f59<|sK P9 P';let Lz:JB 8 "judged" à (Pr<|Kh ⟨CN,CP,CH,CL⟩ j0):=t9 f60 X G (λ_ _ _ _ _ _ _ us hl=>Av us hl λ_ _ _ _ _=>#[_,2]) λf fd F=>Aj F LC JK Oz J1 KL MU (c:=#[CN,CP,CH,CL]);let Ld:=fq f61<|kE TL;let JT:=fq f62<|Al TR J8 Ld (c:=#[CN,CP,CH,CL]);let Nz:=Dg JT;let Lb:=fq f63<|kC J8 (c:=#[CN,CP,CH,CL]);let Lw:=fq f64<|lO TD;let MQ:=fq f65 sH;let Ly:=fq f66<|lQ TL MQ;let MO:=fq f67<|sD TS;let Lx:=fq f68 lP;let Mq:=fq f69 pq;let Ow:=fq f70<|xp Mq;let LZ:=fq f71<|nF TL Ow;let Nu:JB 4 "ways" î (Pr<|OE ⟨CN,CP,CH,CL⟩):=t9 f72 X G (λ_ _ _ _ _ _ _ us hl=>Aw us hl λ_ _ _ _=>#[_,2]) λf fd F=>Eb F TL TR.Ju J1 JV MX Lb Lw Ly MO Lx LZ (c:=#[CN,CP,CH,CL]);let TF:=iq f73 am<|vc TE Lc;let Kf:=mq f74 Xn<|sR TE Ki;let KO:=mq f75 Xn<|v9 TE Kf J2;let Jp:=fq f76<|jy J1 Nu (c:=#[CN,CP,CH,CL]);let JJ:=fq f77<|lR TE;let Ma:=fq f78<|nL TE TD.L' JJ J8 TF (c:=#[CN,CP,CH,CL]);let Nv:=fq f79<|uR TE J2;let M0:=fq f80<|nG TE Kf J2 Nv;let MP:=fq f81<|sE Ki;let MS:=fq f82<|sI TE MP Mh;let MT:=fq f83<|sJ TE TD.L' JJ Lc Ma Jv M0 MS KO Jr (c:=#[CN,CP,CH,CL]);let Q9:=fq f84<|Ed (Fm X G dl) (Fm X G dr) c4;let TJ:D6 2 "Cut" Qd è (XC Qd λl=>∃ xs z ys,l=[.lst xs,.str z,.lst ys]):=Bi f85 X G a_Cut (λ_ _ _ _ _ _ us hl=>Aw us hl λ_ _ _ _=>rfl)<|(vd EF1 EF2 EF3 Q9);let Ms:D6 1 "SmallPrime" RE Ā (XC RE λl=>∃ i:Int,l=[.int i]):=Bi f86 X G a_SmallPrime (λ_ _ _ _ _ _ us hl=>Em us hl λ_ _=>rfl)<|(j3 EF4);let a48:Xe 5 "ways_by_choice" ë (QY<|zu ⟨CN,CP,CH,CL⟩ Qd):=EA f76 X G (λ_ _ _ _ _ _ us hl=>Ax us hl λ_ _ _=>rfl) λf fd F=>jD F J1 Nu TJ;let MR:D7 7 "plan_for" Þ [.int 0] (λvs H Q E=>Pr (cH #[CN,CP,CH,CL] CF<|rG ⟨CN,CP,CH,CL⟩ CF) vs H Q E\/QY (λl A=>wI #[CN,CP,CH,CL] Qd l A\/i4 #[CN,CP,CH,CL] RE l A) vs H Q E):=AK f88 X G (λ_ _ _ _ _ _ _ _ us hl=>Ax us (Nat.succ.inj hl) λ_ _ _=>#[_,2]) λf fd F=>E5 (uT (c:=#[CN,CP,CH,CL]) F TL JK Nz Jp J1 MT) (vk (c:=#[CN,CP,CH,CL]) F JK Nz a48)<|mU (c:=#[CN,CP,CH,CL]) F TL JK Nz Jp J1 Ms;let Lk:=fq f89 py;let LX:=fq f90<|sG TYy;let P7:JB 9 "stands" ä (Pr<|Mo (eX ⟨CN,CP,CH,CL⟩) (Kh ⟨CN,CP,CH,CL⟩ j0)):=Ez f91 X G (λ_ _ _ _ _ _ _ _ us hl=>Av us hl λ_ _ _ _ _=>#[_,2]) λf fd F=>qm F JT Lz Lk LX;let Ov:Xf 9 "stands" ä [.int 0] (Pr<|Mo (eX ⟨CN,CP,CH,CL⟩) (Kh ⟨CN,CP,CH,CL⟩ j0)):=CS f91 X G (λ_ _ _ _ _ _ _ _ us hl=>Aw us (Nat.succ.inj hl) λ_ _ _ _=>#[_,2]) λf fd F=>qm F JT Lz Lk LX;let Mv:=fq f92<|v8 TA;let Lm:=fq f93<|xv TA;let R5:=fq f94<|Eh TA TC Lm MY LD NB NA (c:=#[CN,CP,CH,CL]);let Kq:=fq f95 Cj;let Qa:=fq f96<|Ci TA (Gk X G a_Cut) (Gk X G a_SmallPrime) Lm Kq MR;let Nb:=fq f97<|Ch TA Kq;let Pd:=fq f98<|An TA;let Pe:=fq f99<|Ao TA;let Mu:=fq a4y v7;let Pb:=fq a4x<|Am TA Kq Nb Pd;let Qb:=fq a4w<|Ck TA Lz Kq Nb Pe;show Wf (c:=⟨CN,CP,CH,CL⟩) (C:=CF) TA cu_ex sp_ex Mv R5 Qa J1 P7 ⟨Ov,λ_=>#[_,_,3]⟩ Pb Qb Mu _ _ FL
def walk {l:W.OpenLaw}{K:Params->Ψ}(hn:l.most=!63)(hdf)(hY)(F:∀ (w:World)(mg:Ω)(fa:Addr)(h:Heap),(K w.params).In h->h.Ns mainGlobals mg->mg d.name=!.ref fa->
   ∃ fd:È,(∀ (s:Ê)(v:Value),BindsTo s fd #[[v],[]] [("_law_script",v)])/\∀ base:Heap,(K w.params).In base->base.Ns mainGlobals mg->Jy l.prog w (K w.params) mg base Ky 10 fa fd ["_law_script"] (mS (K w.params))):
  W.WalkO q loose XP YP l.row.toRowW d [] (λf vs=>PySem.call f vs):=
 L2.U8 hn ż hdf #[1,by decide,by decide] hY F (λ_ _ a ns hl _ hS=>#[a,ns,1,hS,λ_=>rfl]) λ_ _ _ _ _ z=>z
universe K72
end
open PySem PySem.W PyProof.Rows L2
set_option maxRecDepth 100000 in
set_option tactic.hygienic true in
set_option maxHeartbeats 0 in
theorem PySem.Challenge.cw_mixposts_k72_a_plan_judged_by_its_falls_holds : PySem.Challenge.rw_mixposts_k72_a_plan_judged_by_its_falls.Holds := by
  refine topOfIt ?_
  k_fill
  refine K72.walk (l := PySem.Challenge.rw_mixposts_k72_a_plan_judged_by_its_falls) rfl rfl (λw h Y => PySem.W.kIn_of Y) ?F
  case F =>
    intro w mg fa h KX G hmg
    apply K72.all_mk KX G hmg
    all_goals first|(first|apply au|apply bb|apply K72.in0_mk|apply K72.fnD0_mk|apply K72.fnI0_mk|apply K72.meD0_mk|apply K72.xi0_mk)<;>(first|k_is|kit_is|kernel_rfl)|k_is|kit_is|skip
    all_goals first|decide|omega|kernel_rfl|(intro h;cases h)
