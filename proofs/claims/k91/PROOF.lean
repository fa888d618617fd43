import PyProof.Rows.All
import Wide.All
import KE.KItem
import KE.RegKTryMore
import KE.RegKIsAll
import KE.KNestM
import KE.KTopLam
import Wide.FinOn
import Lean
import PySem.Challenge.RW_mixposts_k91_whole_plans_or_cuts
import KE.KIntText
import KE.KDictOf
import KE.KDictSum
import KE.KListMore
import KE.KEqDict
import KE.KPairComp
set_option Elab.async false
set_option linter.all false
set_option maxRecDepth 100000
set_option maxHeartbeats 0
set_option autoImplicit true
set_option compiler.extract_closed false
set_option genSizeOf false
section
open Lean in
local macro_rules|`(command|lay_quick x)=>do
 let t:=`topOfIt
 let ns:=(List.range 1116).map (λi=>t.str s!"o_{i+43}")++[49,90,105,120,135,150,165,180,195,210,225,247,269,291,313,354,368,426,462,498,720,729,794,870,946,992,1044,1123].map (λi:Nat=>t.str s!"sts_{i}")++[t.str "heap_39",t.str "heap_46",t.str "heap_1159",t.str "view_39",`PySem.Challenge.pw_mixposts_k91_whole_plans_or_cuts]
 return mkNullNode (←ns.toArray.mapM λn=>do return (←`(command|theorem $(mkIdent (.str `PySem.W.Fast s!"tw{n.hash}")):ident:True:=trivial)).raw)
lay_quick x
open PySem PySem.W PyProof.Rows
open_top topOfIt for PySem.Challenge.rw_mixposts_k91_whole_plans_or_cuts
end
def ß(h:True:=by first|exact .inl rfl|exact .inr rfl|assumption):=h
def ö(h:True:=by decide):=h
def Ă(h:True:=by intro _;rfl):=h
def ă(h:True:=by rfl):=h
def Ą(h:True:=by with_unfolding_all rfl):=h
def ć(h:True:=by decide +kernel):=h
def Ĉ(h:True:=by first|exact Or.inl rfl|exact Or.inr rfl):=h
def ċ(h:True:=by exact b4S _):=h
def đ(h:True:=by intro _ _ _ _ _ _ us hl;first|exact b2I us hl λ_=>rfl|exact Gs us hl λ_ _=>rfl|exact zg us hl λ_ _ _=>rfl|exact BU us hl λ_ _ _ _=>rfl|exact Eb us hl λ_ _ _ _ _=>rfl|exact a4e us hl λ_ _ _ _ _ _=>rfl):=h
open Lean Parser Tactic in
local macro_rules|`(mutual $cs* end)=>do
 let R:=[Syntax.rewriteBottomUp].getLast!
 let C:=(R (·.setInfo .none) (mkNullNode cs)).getArgs
 let f:=C[0]![1]
 if !f.isOfKind ``Command.example then Macro.throwUnsupported
 let N:=Syntax.node .none
 let J:=λ(a:Array Syntax)=>N `null (mkSepArray a (mkAtom ","))
 let T:=f[2][1][1][0][0].getSepArgs
 let p:=λu:Syntax=>if u.isIdent then N ``rcasesPat.one #[u] else if u.isOfKind ``Term.hole then u.setKind ``rcasesPat.ignore else if u.isOfKind ``Term.anonymousCtor then N ``rcasesPat.tuple #[u[0],J (u[1].getSepArgs.map λv=>N ``rcasesPatLo #[N ``rcasesPatMed #[mkNullNode #[v]],mkNullNode]),u[2]] else u
 let O:=λq e=>N ``obtain #[mkAtom "let",mkNullNode #[N ``rcasesPatMed #[mkNullNode #[R p q]]],mkNullNode,mkNullNode #[mkAtom ":=",mkNullNode #[e]]]
 let B:=λ(t:Array Syntax) b=>N ``Term.byTactic #[mkAtom "by",N ``tacticSeq #[N ``tacticSeq1Indented #[mkNullNode (mkSepArray (T.extract 0 1++t++(T.extract 1 3).push (N ``refine #[mkAtom "refine",b])) mkNullNode)]]]
 let F:=λ(M:NameMap Syntax)(s:Syntax)=>
  let k:=s.getKind
  if s.isIdent then(M.find? s.getId).getD s else
  if k==``Term.explicitBinder then
   if s[2].isNone&&s[3].isNone then(M.find? (.str s[1][0].getId "b")).getD s else
   if s[3][0].isOfKind ``Term.binderDefault then(s.setArg 3 mkNullNode).setArg 2 (mkNullNode #[s[2][0],N ``Term.app #[mkIdent `autoParam,mkNullNode #[s[2][1],mkIdent (s[3][0][1].getId.str "_auto_1")]]]) else s else
  if k==`term!_ then N ``Term.app #[mkIdent `some,mkNullNode #[s[1]]] else
  if k==``Parser.Tactic.show&&!s[1].isOfKind ``Term.paren then
   let s:=s.setKind ``refine
   let a:=s[1]
   match a[0].isNatLit? with
   |some j=>
    let c:=a[1][0]
    let e:=c[1].getSepArgs
    let r:=e.extract j
    s.setArg 1 (N ``Term.app #[mkIdent (.str `El s!"i{j}"),mkNullNode ((e.extract 0 j).push (if r.size==1 then r[0]! else c.setArg 1 (J r)))])
   |_=>s
  else
  let X:=λ_:Unit=>s[1].getSepArgs.flatMap λx=>match if x.isIdent then M.find? (.str x.getId "b") else none with|some b=>if b[2][1].isOfKind `«term[_]» then b[2][1][1].getSepArgs else #[x]|_=>#[x]
  if k==`«term[_]» then s.setArg 1 (J (X ())) else
  if k==`«term#[_,]» then
   let e:=X ()
   if e.isEmpty then f[1][1][0][1] else if e[0]!.isNatLit?==some 0 then T[3]![1] else N ``Term.anonymousCtor #[s[0],J (e.flatMap λx=>match x.isNatLit? with|some n=>.replicate n (mkIdent `rfl)|_=>#[x]),s[2]] else
  if k==``tacticLet__ then
   let q:=s[2][0]
   if q[0].isOfKind ``Term.anonymousCtor then O q[0] q[4] else s.setKind ``tacticHave__ else
  if k==``Term.let&&s[2][0][0].isOfKind ``Term.anonymousCtor then B #[O s[2][0][0] s[2][0][4]] s[4] else
  if k==``Term.fun&&s[0].isToken "λ" then
   let b:=s[1]
   let(x,t):=b[0].getArgs.foldl (λ(x,t) a=>if a.isOfKind ``Term.anonymousCtor then let z:=mkIdent (.mkSimple s!"ĥ{x.size}");(x.push z,t.push (O a z)) else(x.push (if a.isOfKind ``Term.hole then mkIdent `ĥ else a),t)) (#[],#[])
   s.setArg 1 ((b.setArg 0 (mkNullNode x)).setArg 3 (if t.isEmpty then b[3] else B t b[3])) else
  if k==``tacticSeq1Indented then
   let(o,_):=(s[0].getSepArgs.push .missing).foldl (λ(o,r,n,w) t=>
    if t.isOfKind ``obtain&&t[0].isToken "let" then(o,r.push t,r.size+1,w+t[1][0][0][0][1].getNumArgs)
    else if n>0&&(t.isOfKind ``tacticHave__||(t.getArgs.back?.getD t)[0].isOfKind ``location&&!t.isOfKind ``generalize) then(o,r.push t,n,w)
    else((o++if w<4 then r else T[0:1].toArray++r[0:n].toArray++T[1:3].toArray++r[n:].toArray).push t,#[],0,0)) (#[],#[],0,0)
   s.setArg 0 (mkNullNode (mkSepArray o.pop mkNullNode)) else
  if k==``omega&&s[1][0].getNumArgs==0 then T[3]![1][1][0][0][0] else
  if k==``Command.universe then N ``Command.end #[s[0],if s[1][0].getId==`e then mkNullNode else mkNullNode #[s[1][0],mkNullNode]] else
  if k==``Command.declaration then
   let x:=s[1];let t:=x[2]
   if x.isOfKind ``Command.instance&&!x[3].isNone then Unhygienic.run `(command|set_option tactic.hygienic true in $(⟨s.setArg 1 (N ``Command.theorem #[mkAtom "theorem",x[3][0],x[4],x[5]])⟩)) else
   if x.isOfKind ``Command.definition then s.setArg 1 (N ``Command.theorem #[x[0],x[1],N ``Command.declSig #[t[0],t[1][0]],x[3]]) else
   let b:=x.isOfKind ``Command.theorem
   let s:=if b then s.setArg 1 (N ``Command.definition #[x[0],x[1],N ``Command.optDeclSig #[t[0],mkNullNode #[t[1]]],x[3],mkNullNode]) else s
   if b||x.isOfKind ``Command.abbrev then s.setArg 0 (s[0].setArg 4 (mkNullNode #[N ``Command.noncomputable #[mkAtom "noncomputable"]])) else s
  else s
 let G:=λ(M:NameMap Syntax)(s:Syntax)=>
  let k:=s.getKind
  let L:=λx:Syntax=>(M.find? x.getId).getD .missing
  if k==``tacticSeq1Indented then s.setArg 0 (mkNullNode (mkSepArray (s[0].getSepArgs.flatMap λt=>let u:=if t.isOfKind ``Elab.Tactic.Ext.ext then L ((t[1].find? (·.isIdent)).getD t) else t;if u.isOfKind ``Term.byTactic then u[1][0][0].getSepArgs else #[t]) mkNullNode)) else
  if k==`null then mkNullNode (s.getArgs.flatMap λt=>let u:=if t.isOfKind ``Term.explicitBinder&&t[2].isNone&&t[3].isNone then L t[1][0] else if t.isIdent then L t else .missing;if t.isIdent then if u.isOfKind ``Term.fun then u[1][0].getArgs else #[t] else if u.isOfKind ``Term.forall then u[1].getArgs else #[t]) else
  let t:=L s[0]
  if k==``Term.app&&t.isOfKind ``Term.fun then R (λx=>match if x.isIdent then t[1][0].getArgs.findIdx? (·.getId==x.getId) else none with|some i=>s[1][i]|_=>x) t[1][3] else if k==``Term.app&&t.isOfKind ``Term.app then N ``Term.app #[t[0],mkNullNode (t[1].getArgs++s[1].getArgs)] else s
 let a:=f[1][0].getArgs
 let g:=a.foldl (λM t=>if t.isOfKind ``Term.instBinder then M.insert t[1][0].getId (R (G M) t[2]) else M) {}
 let M:=a.foldl (λM t=>if t.isOfKind ``Term.instBinder then M else let s:=R (F M) t;let n:=t[1][0].getId;if s.isOfKind ``Term.explicitBinder then M.insert (.str n "b") s else M.insert n s[2][1]) {}
 return R (F M) (R (G g) (mkNullNode (C.extract 1)))
set_option tactic.hygienic false
mutual
example(w:World)(i:Nat)(t:qX (ps++N).length ps.length r R)(x:Str)(a:Addr)(b:∀ (f:Addr)(LR:Value)(A:Ë)(outer:List Env)(s:Ê)(H:Hp)(E:XK),Mg B.base k (A.deeper (envOfC ğ (aa st) s.heap.objs.size f LR))->(ps++N).Nodup->SE (eZ NP B.P B.w B.K B.mg B.base (ps++N) ğ (aa st) f LR A outer s H E).Vg (aD st) r)(prog:É)(r:V->List V->Hp->VK->Prop)(H:Hp)(o:Obj)(h:autoParam (X.K=K) ă._auto_1)(h':DR H d' v')(d:Addr)(f:Str)(k:∀ i x ε,xs[i]?=some x->I i ε->∃ ε1,q (u x) ε ε1/\∃ ε2,rb ε1 (.nx ε2)/\I (i+1) ε2)(ho:NK X (compareOp op) r)(ht:∀ cells C s H fp,Ql (aH X scope N' cells C s H fp) ifs tt)(e:gR H H')(hp:PassesOwn (model X.prog X.w) X.A X.env X.xe)(u:Value)(ok:∀ f fd,Nc Bx.K x ğ st f fd->SR NP k f fd ps sp)(mu:sk (H x))(he:autoParam (starEach (e::es) X.env=(false,eval e X.env)::starEach es X.env) ă._auto_1)(heo:∃ u,h'.get? e=some u)(q:∀ x H',gR H H'->DR (grow F H H') d x->Q x H')(n:Nat)(hx:Ey X.env.scope x)(hn:Bx.base.err=none)(ea:Addr)(A:List Ask)(it:Addr)(c:W.codeIn K LR ğ=true)(ha:PE X a (tP ra))(hd:autoParam ((x==("__debug__":Str))=false) ö._auto_1)(hz:a96 s.heap z TI TO T b)(hh:Ca A s.heap it)(hl:ri (ε.map Sl.z) (xs.map u))(hQ:∀ h',Heap.ExtBut it s.heap h'->Q none { s with heap:=h' })(l:K.lookup f=some ⟨oc,od,.func (W.fnOf "__init__" ğ (b8 st) (aD st) (aa st) .none kV doc pm an LR ct),O4⟩)(sc:Scope)(m:Nat)(I:Inv X ñ σ H s)(hc:X.calm=true)(XW:∀ b∈ch,(b∈X.ex\/X.s₀.heap.objs.size<=b)/\b≠X.env.locals/\(∀ x c,X.env.cells.lookup x=some c->c≠b)/\∀ p∈X.pn++ñ,p.1≠b)(slot:Slot T name id)(ns:Ξ)(LY:Po X.prog X.w H' h')(hg:∀ cells C s H fp,PG (aH X scope N' cells C s H fp) tg g)(h1:s.heap.IsListIter i1 l1 k1)(h2:∀ xs,u≠.tup xs)(hN:X.N.Nodup)(hs:autoParam (∀ x,foldedSetIterable iter X.env x=pure x) Ă._auto_1)(hi:∀ s:Ê,OK s.heap->S≠s.heap.objs.size->∃ (oI:Obj)(St:Nat->Heap->Prop)(fp:υ),S∉fp/\(∀ (E:ρ)(Q:ρ),Q (.ref s.heap.objs.size) { s with heap:=s.heap.push oI }->wpAny (model prog w) A.in1 (pyIter (.ref r)) Q E s)/\Walks prog w A.in1 s.heap.objs.size fp [s.heap.objs.size] n P St/\St 0 (s.heap.push oI))(hf:autoParam (X.fn x=true\/X.env.scope.names.lookup x=some .local) ß._auto_1)(X:Cx)(ñ:ζ)(σ:St)(Q:VK)(s':Ê)(us:θ)(D:ZipApart z TI TO i1 i2 l1 l2)(es:Array (Int×Value))(st:Stmt)(v:V)(hv:PE X value tv)(Tr:autoParam ((x==("__classdict__":Str))=false) ö._auto_1)(hm:autoParam (behindInMarks op b=false) ċ._auto_1)(hb:PE X b (tP rb))(ta:TE)(K:Ψ)(xs:List α)(E:Ends ts nm)(te:TE)(ts:List (T ν))(U5:autoParam (starEach (e::es) X.env=(false,eval e X.env)::starEach es X.env) ă._auto_1)(g:Pw H a y o)(hw:w<m)(R:List LT)(lo:(d==sysModules)=false)(J:Obj->Addr->It)(tl:TE)(T:Dn Bx.K Bx.mg C)(S7:autoParam (starEach [e2] X.env=[(false,eval e2 X.env)]) ă._auto_1)(Pv:Nat->Υ)(h0:Pv 0 σ H)(C:Addr)(ry:ue y u)(rx:ue x v)(hr:Mg X.base k X.A)(outer:List Env)(P:É)(s:gR F H)(F:Mq X.prog X.w X.K X.mg X.base CX k f fd ps sp)(sp:Sp)(dvs:π)(ps:η)(hk:X.env.scope.names.lookup n=some .local)(OW:autoParam ((x==("__debug__":Str))=false) ö._auto_1)(uz:autoParam ((backTo pos (starEach es X.env)).any (·.1)=false) ă._auto_1)(M:Mk X.K C f)(N:MA c H n dp dt S)(mg:Ω)(base:mL)(scope:Scope)(S:Ss F0 H0 F σ H ε)(len:∀ vs H Q E,sp vs H Q E->vs.length=ps.length)(hu:X.A.units+1<cLine)(fx:eY x=true)(pa:PlainAttrs T)(Yn:typeOf (.builtin id)=pure (.type "method_descriptor"))(OY:autoParam (attributeBase o name X.env (eval o X.env)=eval o X.env) ă._auto_1)(QT:autoParam ((apos.endLine==MV.line)=true) ă._auto_1)(Vm:autoParam ((backTo MV (starEach es X.env)).any (·.1)=false) ă._auto_1)(hdf:d.params.defaults=[])(hY:∀ (w:World)(h:Heap),YP w h->(K w.params).In h)(j:Nat)(XT:er=none)(nT:Nat)(js:À)(fin:∀ ε,I xs.length ε->r2 ε f)(hsw:autoParam (swapsWith (.ListComp elt [⟨tg,iter,ifs,0⟩] scope pos) (some (.Name x pos')) WY.line X.env=pure true) ă._auto_1)(hK:autoParam (X.K=K) ă._auto_1)(r1:A8 vs its)(r2:A8 ws NI)(p1:p<=1000000)(p2:ķ.map (·.1)=ð.map (·.1))(US:A.frames=some (env::outer))(SY:Mf s.heap e od)(Xo:base.StaysIn s.heap)(Yw:base.get? e=none)(hfl:Heap.FlyingW base (env::outer) e cls a0 s.heap)(hB2:B.StaysIn h2)(O:Cl.Ok Bx.K c)(W:WN S h ord R)(hC:s.heap.get? C=some (excClassObj nm q C N bs tl hd sn sub ab col dd k0 k1 k2 k3 k5 newId))(hI:mN "__init__"=some (.ref fI))(hfc:oI.cls=.type "function")(V6:ox.cls=.ref C)(Rk:ox.data=.fields vs)(G:PX p m ç ê ord)(cls:Value)(dx:Addr)(ķ:List (κ×V))(Y4:List (TE×TE))(el:υ)(V5:it∉el)(ed:o.data=.dict es ep)(hS:P1 prog w s.heap a S)(ne:a≠it)(p:Int)(ř:List bx)(bk:Int->Int)(RH:ps.length<=1000)(hP:My.OJ p=true)(Dd:Dm X.prog X.w X.K X.mg X.base k C m ps (Pr R))(hJ:W2 F1 J l)(hT:s.heap.get? T=some oT)(knd:KeyKind prog w κ)(k':WR o' ķ)(p3:Md F1 (ð.map (·.2)) (ķ.map (·.2)))(fz:Fz X H1 H2 a o ķ)(WK:IsPair s.heap TI (.ref i1) (.ref i2))(U9:s.heap.IsList l1 xs)(WH:s.heap.IsList l2 ys)(Z:ZS s.heap z TI TO i1 i2 l1 l2 d k)(nd:EV ts)(cl:Cl A el s.heap)(bs:List (Str×η))(LM:N6 1 C "fit" á (Pr (RW C)))(Mp:N6 2 C "times" æ (Pr (qH C)))(O8:MR 2 "ones" ["many"] (Pr b9a))(OE:∀ C,jW c C->N6 1 C "reads" Þ (Pr (j8 (decide (C=c.Qh)))))(OG:∀ C,jW c C->N6 1 C "hears" Þ (Pr (j8 (not (decide (C=c.house))))))(LX:N6 1 c.MJ "check_there" Ý (Pr (cN c)))(LP:N6 1 c.MJ "ties" Þ (Pr (kZ c)))(Mz:N6 2 c.MJ "home" Þ (Pr (yo c)))(Nl:N6 2 c.MJ "into" Ý (Pr (tY c NS.into)))(MP:MR 1 "is_whole" ý (Pr b99))(msg:Ξ)(fo:Λ)(N7:MR 3 "row_sum" ü (Pr (iO C)))(Mj:MR 1 "by_number" ["told"] (Pr a4f))(ms:List Nf)(MH:Wv 2 "Field" C î (dQ C))(Mo:MR 3 "mixing_ties" ["net"] (Pr (l6 c ord)))(P2:MR 1 "column" ["table","place"] (Pr l7))(LJ:N6 2 c.MJ "listeners" Þ (Pr (bG c)))(U:Int->Bool)(L:R8 nl S R)(way:Ξ)(ê:List MB)(ç:Θ)(ord:List Mk.Nf)(N5:N6 4 CE "shown" ã (Pr (qJ C CE)))(OL:MR 4 "ways" â (Pr (Pn c)))(Na:MR 2 "choices" ["net","falls"] (Pr (iP c)))(Mh:MR 5 "ways_by_choice" é (Pr (cy c)))(LU:N6 2 c.MJ "check_new_name" Ý (Pr (bR c)))(MG:N6 3 c.MJ "put_in" ÿ (eJ c))(TH:a19 Bx.mg)(kj:∀ a b,kf a=kf b->a=b)(P4:h∈S.names)(hO:∀ ks∈ç,V1 S (some ks) N/\∀ g∈S.Mi,∃ w,bb (aP S.LK (some ks)) (some h) g N m=.inr w)(MW:((ç.length * S.Mi.length:Nat):Int)<=p)(TD:Bx.mg "dict"=none)(MK:MR 1 "message_ties" ["many"] (Pr c0L))(pz:S.LO.length<=100)(col:Int->Ξ)(Oe:MR 1 "_law_into" ú (Pr b2m))(m2:m<=10)(TF:Wv 1 "Net" c.MJ Þ (i8 c))(Nr:N6 4 c.MJ "house" Ý (cR c .house))(MS:N6 4 c.MJ "listener" Ý (cR c .listener))(NM:N6 4 c.MJ "post" Ý (cR c .post))(Nk:GN 3 c.MJ "tie" ë [.int 1] (jw c))(kc:W.keepIn K (.ref C)=true)(aC:W.nsIn Bx.K mainGlobals x=some (some (.ref C))){Ē:(model prog w)}{ē:(model X.prog X.w)}{Ĕ:(by simp)}{ĕ:(λ_ _ _ _ _=>pC 0)}{Ė:(A.deeper (envOfC ğ (aa st) s.heap.objs.size f LR))}{ė:(aH X scope N' cells C s H fp)}{Ę:(.Call (.Name x p) (e::es) [] pos)}{ę:(W.fnOf x ğ (b8 st) (aD st) (aa st) (.ref T) kV doc pm an LR ct)}{Ě:(gR.refl _)}{ě:(W.fnOf x ğ (b8 st) (aD st) (aa st) .none kV doc pm an LR ct)}{Ĝ:(.Call (.Attribute o m apos) [] [] pos)}{ĝ:(.Attribute o m apos)}{Ğ:(·.setIfInBounds 1 (Value.ref h₁.objs.size))}{Ġ:(∀ σ' H',N σ' H'->∃ m',m'<m/\W (i+1) m' σ' H')}{ġ:(by simp_all)}{Ģ:(backToKw pos (keywordEach [] X.env))}{ģ:(ts.filter λt=>U t.1)}{Ĥ:(by decide +kernel)}{Ħ:(if pl.isEmpty then List.replicate 6 Value.none else pl)}{ħ:(S.Mt.map (·.1))}{Ĩ:(ř.getD a [])}{ĩ:(λ_ _ _ _ _=>bZ Bx.K rfl<|af (pC 0) (af (pC 1) aG))}{Ī:(hQ _ λb o hb x=>hk b o<|(HY ..).extBut b o hb x)}{ī:(aH X scope N' cells C s3 (upd H2 l<|.lst []) fp)}{Ĭ:(keywordEach [] X.env)}{ĭ:(ε.map Sl.a)}{Į:(λ_ _ _ _ _=>bZ Bx.K rfl<|af (pC 0) (af (pC 1)<|af (pC 2) (af (pC 3) aG)))}{į:(.ref s.heap.objs.size)}{İ:(pyNext (.ref it))}{Ĵ:(λ_ z=>nomatch z)}{ĵ:(upd H2 l<|.lst [])}{Ķ:(by simpa using hl)}{ĸ:(.ref it)}{Ĺ:(λz=>nomatch z)}{ĺ:(by decide)}{Ļ:(.inl rfl)}{ļ:(.bl (not (decide (as=bs))))}{Ľ:(EP X ñ σ Q)}{ľ:(he ñ s σ H _ I h)}{Ł:(.type "list")}{ł:(ns.map V.int)}{Ń:(w.params.setOrder a ep)}{ń:(eZ (RX P w) P w K mg base N ğ (aa st) f LR A outer s H E)}{Ņ:(ķ.map (·.2))}{ņ:(.bl true)}{Ň:(Mx.joined t)}{ň:(s.heap.objs.size+1)}{Ŋ:(false,eval e X.env)}{ŋ:(q1<|qA (aw<|Rb Bx.K HJ HQ HP aF (pv 6) (a8 (MU hr (Đ 8) dI) K')) (λ_ _ _ h=>h))}{Ō:(ř.getD i [])}{ō:(λb o hb e=>(sb.2 b hb).trans e)}{Ŏ:(e1.trans e2)}{ŏ:(λ(kv:vm×V) (t:Mv)=>kv.1=Sum.inl t.1/\NC H kv.2 t)}{Ő:(λ_ _ _ _ _=>Đ 0)}{ő:(grow F H G)}{Œ:(λxs H Q=>(∃ p ķ,xs=[.ref p]/\Rd H p (.dK ķ)/\O7 H (.dK (bn [] ķ)) Q)\/∃ p ķ,xs=[.ref p]/\b7i H p ķ/\ķ.length<=1000/\O7 H (.dK (bn [] ķ)) Q)}{œ:(ha ñ s σ H _ I h)}{Ŕ:(qs 8 ND<|dF OL hr.m rfl (da (Đ 0)<|da (Đ 7) (da (Đ 1)<|da (Đ 5) LS)))}{ŕ:(.Compare a [op] [b] pos)}{Ŗ:(getMethod ov m pl)}{ŗ:(λb o Ro=>(other b λq=>by rw[q,hnT]at Ro;cases Ro).trans<|Xo b o Ro)}{Ř:(ha pos ñ s σ H _ I h)}{Ś:(grow F H H')}{ś:(P.getD i [])}{Ŝ:(P.getD w [])}{ŝ:(by kernel_rfl)}{Ş:(λw hw=>c5U rx fx r fs w<|by simpa using hw)}{ş:(LV S ns)}{Š:((ç.take i).map<|b7 S N m)}{š:(B.getD i [])}{Ţ:(.type "dict")}{ţ:(ķ.map λkv=>kV kv.1)}{Ť:(da (Đ 2) LS)}{ť:(da (Đ 0) LS)}{Ŧ:(MU hr (Đ 0) dI)}{ŧ:(bP (bD S) S.names.length)}{Ũ:(ð.map (·.2))}{ũ:(.builtin "object.__setattr__")}{Ū:(s3.heap.push { cls:=.type "dict",data:=.dict [].toArray })}{ū:(λ_ _ _ _ _=>bZ Bx.K (n:=2) rfl<|af (pC 0) (af (pC 1) aG))}{Ŭ:(.dK (bn [] ķ))}{ŭ:(fm ts (O9 U) N h)}{Ů:(iH Bx.K)}{ů:(σ2.set i none)}{Ű:(starEach (e::es) X.env)}{ű:((.inl k:vm),D.bl true)}{Ų:(Mk.stN p m ç ê ord i)}{ų:(model P w)}{Ŵ:(rS Bx.K (pv 0) rfl)}{ŵ:(pZ Bx.K (pv 9) rfl)}{Ŷ:(e1.trans<|e2.trans e3)}{ŷ:(Nat.succ.inj hl)}{Ÿ:(∀ vs,o.data≠.fields vs)}{Ź:(.Tuple elts x1 QG)}{ź:(env::outer)}{Ż:(.Name x pos)}{ż:(.type "int")}{Ž:(Mk.lk R k)}{ž:(eZ CX P w K mg base N ğ scope f LR A outer s H E)}{Id:(pN 5 ND)}{IO:(List.zipWith (λm t=>(m - c * t % p) % p) r lead)}{No:(da (Đ 1) LS)}{NE:(dm (ts.filter λt=>Ui t.1) g N h)}{c3u:(false,eval e1 X.env)}{Op:(λh=>hb<|by simp[h])}{Os:(λz=>hb<|by simp[z])}{c3O:(λxs H Q=>(∃ i,xs=[.int i]/\Q (.int i) H)\/∃ k,xs=[.bl k]/\Q (.int (if k then 1 else 0)) H)}{Pi:(λ_ _ _ _ _=>MU hr (Đ 1)<|Đ 0)}{a5e:(λb o hb e=>eb b o hb e)}{PP:((intKind prog w).hash k)}{Re:((ord.take n).map (·.1))}{Sc:(bz hb hd λz=>nomatch z)}{SB:(a * u - b * v)}{SC:(LW p m ê T x)}{SL:(ps.zip us)}{ST:(start N vs)}{SZ:(aw<|Rb Bx.K HJ HQ HP aF (pv 4) (a8 (Đ 6) K'))}{Tl:(ç.getD M'.1 [])}{a7D:(λr s'=>r=.ok (.ret (.bool true))/\OldK s₁.heap s'.heap/\s'.os=s₁.os/\AllBare s'.gens)}{a2C:(λxs H Q=>∃ (p:Addr)(bs:Ñ),xs=[.ref p]/\Ma K H p (bs.map V.bl)/\Q (.bl (bs.all id)) H)}{b25:(λxs H Q=>∃ (p:Addr)(bs:Ñ),xs=[.ref p]/\Ma K H p (bs.map V.bl)/\Q (.bl (bs.any id)) H)}{UF:(av<|Đ 1)}{UV:(.BoolOp .And (a::b::rest) pos)}{b3i:((e::es).length+([]:List Keyword).length+(if ([]:List Keyword).isEmpty then 0 else 1)<30)}{Wp:(dT bo cK (MU hr (Đ 8) dI) gr)}{WF:(λz=>decide (z=x))}{WP:(.Assign [.Name x pos'] e pos)}{b4h:(.builtin "len")}{XV:(da (Đ 5) LS)}{ZB:((.inl r.1:vm),rw r.2)}{BH:#[CN,CP,CH,CL]}{a0q:(.ListComp elt [#[tg,iter,ifs,(0)]] scope pos)}{vZ:(∀ b o,s.heap.get? b=!o->h'.get? b=!o)}{Bq:(aA λZ hZ=>?_)}{oh:(.ref f)}{Cv:(.dK ķ)}{wj:#[2,by show⟨⟩]}{kX:(.ref a)}{Ei:[none,none,none,none,none,some<|.int (i:Int),none,some<|.int (kn % 2)]}{mH:(top 36)}{v7:(λfin s'=>match fin with|.done f=>R (.ok f) s'|.again c'=>c'.quiet=true/\codeAny Ē A c' R s')}{vh:(e::es)}{Ba:(aN hr)}{m4:#[2,.t rfl]}{a7b:(hv ñ s σ H _ I h)}{a13:(thE a7b λu s1 y H1 I1 ry q=>Mn (ha ñ s1 σ H1 _ I1 q) λov s2 J'=>?_)}{xp:#[1,.l .lst]}{sA:[head,.ref L,.none,rawInt L,.none]}{vY:#[by decide,by decide]}{a2m:[some<|aT R,some<|aQ ord,some<|aI pl,some<|.int m,some<|.int p,some<|aI b,some<|.str x,some<|.int r.1,some<|.str r.2.1,some<|.str r.2.2,OI.a,Og.a,Of.a]}{qQ:#[_,HD _ rfl,2]}{a2o:[some<|aK c S,some<|.int m,some<|.int p,some<|.int 0,some<|fD C p,some<|tb P',some<|Td (P'.map<|b7 S N m),some<|.int (S.Mi.length * P'.length:Int)]}{a2p:[none,some<|.int x,some<|aK c S,some<|aT R,some<|aQ nl,some<|.int p,some<|.int (m:Int),some<|aQ S.Mi,some<|aI pl,none,none,none,none,none,none]}{FX:#[#[oc,od,.ref T,kV,doc,pm,an,LR,ct,O4,1,l,c],kp]}{Zk:(λvs H Q E J'=>(by let#[_,_,_,_,hl,hR,_]:=J';cases hR;show hl.length))}{lr:(pv 0)}{uf:(.ref C)}{Du:(Jw #[o,ho,hc] b6H ?_)}{a2v:#[ok.mod,ok.kind,ok.glob,ok.blt,ok.above,ok.inj,ok.has,ok.cab,ok.hd,ok.frames,ok.VD,ok.exf,ok.bs,ok.WL,ok.U2,ok.Ws,ok.Qs,ok.Xu]}{cJ:(λLR A outer s H vs Q E hr h=>?_)}{jX:(Ng.map aB)}{a2x:[some<|aK c S,some<|aT R,some<|.str g,some<|.int m,some<|.str "ways",some<|tb jX,none,none,none,none,none,none,none]}{BJ:(.builtin "type.__call__" #[.ref C::us,kw])}{zV:(aa st)}{EI:#[I1.Oh,?_]}{a2A:(thA Ř λus s1 vs H1 I1 r q=>EI)}{xo:[kV kv.1,kv.2]}{a2B:(λv (kv:vm×V)=>∃ t,v=.ref t/\H' t=!.tup xo)}{Zl:#[1,I.turned a5e f0 f1 f3 f4 f5]}{sM:[s1.heap.objs.size]}{a5E:#[2,by decide,#[hl]]}{rH:#[a5E,.l .lst]}{a2E:#[bB (u:=bY) (λt=>decide _) rH hl λt _=>#[_,#[2],eq_str rfl rfl,λ_=>rfl],TY _ _]}{yw:(l.map some++js.map λj=>(ε[j]?).join)}{yW:#[#[2],Oc.m]}{rT:(.ref t)}{a2H:(∀ a t H2,gR H1 H2->H1 a=none->H1 t=none->H2 a=!.lst []->H2 t=!.tup [kV (kf x),.ref a]->Q rT H2)}{FM:(Hr ?_)}{Cd:[.ref p]}{mr:(aP S.LK !ks)}{pQ:#[1,by simp,1]}{wF:#[#[2],by simp,1]}{nY:(Hz _)}{Fe:(some x::js.map λj=>(σ[j]?).join)}{BC:(pv 1)}{pG:(.nx ε2)}{a2R:[!v0,!.int (m:Int),!.ref fa,!.ref lc,!vx,!.ref rb,!.ref ad,!.ref pd,!.int k,!mv,!mx,OI,Og,Of,VH,X3]}{tV:(.int i)}{BV:(∀ b o,¬ own b->s.heap.get? b=!o->h'.get? b=!o)}{a2U:[c3u,(false,eval e2 X.env)]}{iM:(.ref e)}{Ez:(cL I hg hm ?_ OW)}{xX:(λi v=>(es[i]?).map (·.key)=!v)}{xA:#[#[],#[]]}{Eh:#[.inl xA]}{Bu:(bv S (!h) N m ç)}{a3g:(X.env.scope.kind==.class || (X.env.scope.kind==.module&&X.env.locals != X.env.globals))}{a3t:(Mn Ř λus s1 J'=>(by let#[vs,H1,I1,r1,q1]:=J';show hc ñ s1 σ H1 vs us Q I1 r1 q1))}{a3u:#[ok,I.os,I.bare,I.base,I.loc,I.cell,I.free,I.Nd,λp hp=>I.pin p<|Ir _ hp,I.LY,I.len]}{a6X:((Ut.of e1).trans b')}{pR:(λH' b' N'=>q2 H' a6X N')}{jF:(pv 2)}{yb:(λ_ _ _ _ _=>MU hr (Đ 0) dI)}{a3R:[some<|zB CE R B,some<|fD C p,some<|.int i,some<|.int k,none,none,none,some<|.int j]}{uF:(by first|show Or.inl rfl|show Or.inr rfl)}{a35:(a10 ha hb I h λv u s2 x y H2 I2 rx ry q=>ho ñ s2 σ H2 x y v u Q I2 rx ry q)}{yA:(.Assign [.Attribute o f pos'] value pos)}{sP:(OH rs)}{oB:(qr Sz)}{EB:(.BoolOp .And (b::rest) pos)}{fO:#[.int _,H,I.tok _,#[_,1],q]}{oO:(by simpa using h)}{Gn:(ε.set i (.fz d))}{Gm:(o * a+if k=h then 1 else 0)}{oJ:(y / 1009+69621+i)}{ZH:(λE σ H=>∃ F0 H0,tQ F0 H0 rb E σ H)}{DO:(Mn ľ λu s1 J'=>?_)}{wR:(envOfC ğ scope s.heap.objs.size f cd)}{sr:(aD st)}{Ac:(k _ _ _ q)}{nK:(.nx ε')}{jh:(λq=>decide (q.1=y))}{vg:[aK c S,aT R,.str g,.int m]}{a4T:(λvs H Q E J'=>(by let#[_,l,C,_,hl,hR,_]:=J';rw[hl.length,(t l C hR).1]))}{a4W:[none,none,none,some<|aQ nl,none,none,none,none,none,some<|rw (fg cell 3)]}{a4Y:(IR ho hd rfl ?_)}{Bn:[.Tuple [.Name x px,.Name y py] kt pt]}{rf:[.ref a]}{D9:#[us,[]]}{Ar:[e1,e2]}{xB:(.Call (.Name "zip" p) Ar [] pos)}{jO:(λ_ _ _ _ _=>b2i)}{sy:(List.take m)}{fT:(.ref z)}{yB:(pyNext fT)}{lG:(av<|Đ 0)}{yu:(ways.take w)}{EG:(B.getD j [])}{A6:(lV S p pl m)}{yZ:(ai S)}{a5v:(.Attribute e f pos)}{a5A:(.Subscript a b pos)}{VE:(.inl (by rw[e];show λz=>nomatch z))}{tU:(tP re)}{a5D:(∀ c o,c≠z->c≠TO->c≠i1->c≠i2->s.heap.get? c=!o->h'.get? c=!o)}{a5F:(q1<|qA (aw<|Rb Bx.K HJ HQ HP aF (pv 3) (a8 (Đ 7) K')) (λ_ _ _ h=>h))}{a5M:(j9 (match dG ts (!q.1) g N m [] with|.inl ks=>.inl ks|.inr U=>.inr _))}{eV:(eval e X.env)}{a5U:#[x1,x2,x3,λb o hb PN=>x4 b o ((other b<|MM b o hb PN).trans hb) PN]}{a5Z:(·.setIfInBounds 1 (rawInt<|(i)+1))}{ql:(da (Đ 3) LS)}{a51:(qS (pS 5 ND<|dF Na hr.m rfl (da (Đ 0)<|da (Đ 3) LS)) λ_ _ _ h=>h)}{gN:(found.take i)}{zp:(.bl false)}{NZ:(I1.LY.fresh<|Hz _)}{jD:(starEach [] X.env)}{gU:(by simpa using h1)}{a6d:(not t.plain&&decide (es.size > 1))}{vj:[.int z.1,.int z.2]}{vM:(t.1,t.2.1,t.2.2.1)}{vE:(Mk.LW p m ê Tm r)}{pJ:(λ_ _ q=>#[_,1,q])}{a6j:(.Attribute o name apos)}{a6k:(hl.of_keeps λb o hb PN=>#[o,(other b<|MM b o hb PN).trans hb,1])}{y9:#[trivial]}{zi:(pN 7 ND)}{yV:(pN 8 ND)}{a6m:(bZ Bx.K (n:=3) rfl<|af zi (af yV<|af (pN 9 ND) aG))}{AM:(ord.take i)}{T5:(i∈ks)}{a6o:(.bl (if n=true then not (decide T5) else decide T5))}{a6p:(∀ (s:Ê)(v:Value),BindsTo s fd #[[v],[]] [("_law_script",v)])}{wf:(.type "StopIteration")}{wH:(λz=>?_)}{BM:(.ok (.ret .none))}{zR:(.type "BaseException")}{uD:(QD rt)}{pA:(ε.map Sl.z)}{GB:(S.LO.map λp=>(.inr p.1,gW c p))}{lE:(av<|gS (Đ 0) LP hr.m)}{AE:(pN 6 ND)}{mm:(pv 3)}{Es:(grow F H<|upd G3 pd o)}{jk:[.str r.2.1,.str r.2.2]}{a6C:(Hk<|Hk (wpAny_loadPart hx<|Hk ((looks_clsIn X hc2).here ?_)))}{a6D:(I.type.here<|Hk ((looks_findIn X ha).here<|Hk (L3.here ?_)))}{FO:(xs.map u)}{ng:(qr<|Đ 3)}{Ep:(bL i)}{nE:(kg te Ep)}{QW:[.ref d]}{B3:(scaled p r k)}{a6K:(qS (pS 4 ND<|a24 MH hr.m rfl (da (Đ 2) LS)) λ_ _ _ h=>h)}{lu:(i,ways)}{a6M:(cE (UA (lA K) (cP jo) t1) (cE (UA (lA K) (cP jo) t2) ju))}{A4:(.UnaryOp .Not a pos)}{QY:#[xs,xs[i],q,by simp]}{jd:(UA r ta tb)}{D7:(ja wi nT js g tt te)}{uA:(RX P w)}{a6R:(eZ uA P w K mg base N ğ scope f cd A outer s H E)}{Aq:(kv.1=k)}{AN:(ķ.any λkv=>decide Aq)}{a6T:(IF Nh T a2V ?_<|a6x _)}{lH:(λ_ _ _ h=>#[_,_,h])}{EM:(y,!(t.1,x))}{gx:(stN p m ç ê ord n)}{pF:(Mx.LL m j)}{wE:(bH p ř pF fo ms [])}{a6Z:(W.fnOf name ğ params body scope dV kV doc pm an LR ct)}{a60:#[.int ys.length,H,I.tok _,#[s.toks+1,by rw[IV,hlen]],q]}{a61:[("numbers",.lst ys),("name",.str z),("fallen",.lst xs)]}{a62:[some<|.int c,some<|.int m,some<|rw l,some<|.int x,o4.a]}{m5:(.builtin "object.__class__")}{wU:(.int ys.length)}{Fb:(MI p ř ps m u)}{a66:(∀ σ',σ'.length=σ.length->Sd F σ' H ε'->Q σ' H)}{Oy:[aK c S,.int m,.int p,.int 0]}{a68:(Paired.imp' (fun v kv ⟨t',e',UP⟩=>#[t',e',?_]) Xk)}{a7a:(λx y H Q=>y=.non/\Q (.bl (not (decide (x=.non)))) H)}{r6:(ho ñ s σ H _ I h)}{wI:#[.inl #[#[0],#[0]]]}{zA:(pv 4)}{uL:(Uh p m ç ê ord c)}{CQ:(pN 11 ND)}{a7g:(bZ Bx.K (n:=2) rfl<|af CQ (af (pN 12 ND) aG))}{vX:(("h":Str),Kd.house)}{z8:(.ref l)}{yv:(grow F H H1)}{Bb:(λ_ _=>True)}{a7n:(top 40)}{a7p:#[#[1,by decide,#[2],#[hx]]]}{cY:(o * T.2.getD i 0+s b a.2.2)}{wK:(0,none)}{vi:((T.P.getD e []).getD w0 [])}{Gy:(Mk.LQ found)}{iG:(grow F H H4)}{BQ:(fE false)}{zj:(upd H a o)}{xq:(g i j)}{a7H:(eZ CX P w K mg base N ğ scope f cd A outer s H E)}{xV:(.lst ys)}{sd:(iZ rfl T.Oz<|da (Đ 1) Ť)}{BO:(We rfl T.Ml<|da (Đ 0) LS)}{EZ:(We rfl T.Ml<|da (Đ 1) LS)}{ZZ:(We rfl T.Ml<|da (Đ 2) LS)}{qi:(List.map rw _)}{Bm:(ms.take i)}{Ao:(O9 U)}{a7X:(dr2 N.dr (d':=.str x) rfl)}{vA:(as=bs)}{P3:(.bl (n ^^ decide vA))}{a74:(by simpa using (show p∈(X.pn++ñ)++[] from hp))}{a75:(λ(kv:vm×V) p=>kv.1=Sum.inr p.1/\Nj c H kv.2 p)}{a76:(∃ o,h'.get? e=!o/\o.cls=.type "AttributeError")}{a79:(cS 4 [1] ["number","one","other","delay","name"])}{a8d:(λ_ s'=>∃ σ' H',Inv X ñ σ' H' s'/\Q σ' H')}{a8e:#[_,ε,c,S.step e1,h2,λH2 e2=>q H2<|e1.trans e2]}{a8g:(not (VX w)&&(not t.plain&&decide (es.size > 1)))}{PB:((.inl x.1:vm),D.int x.2)}{wX:(c2U<|Sb (Đ 0) LX hr.m No)}{Qm:(∃ m,W 0 m σ H)}{a8k:(compareOp .NotEq)}{a8l:(λx y H Q=>y=.non/\Q (.bl (decide (x=.non))) H)}{Do:(I.LY.fresh<|Hz _)}{KG:#[base,none]}{nZ:(Obj.mapFields Ğ)}{se:(Value.ref ea::us)}{j7:(rL n js ri rt re)}{a8u:(mR ri q rb)}{Zm:[.int num,.int ah]}{xS:(.int i t)}{a8x:(f xS (.int j u))}{wP:(λf vs=>PySem.call f vs)}{a8A:(∀ b o,b≠S->s.heap.get? b=!o->h'.get? b=!o)}{Lm:(λe s'=>R (.error e) s')}{a8C:[.int t.1,.str t.2.1,.str t.2.2.1,.int t.2.2.2]}{a8D:(ř,ps.length)}{a8E:#[F,ε,d,S,h,λx H' e q=>k x H' e (S.step e) q]}{iQ:(.lst l)}{a8H:(.nx ((ε.set j (.ow iQ)).set i (.fz d)))}{Lz:(q1 qN)}{oX:(Mx.LL many j)}{Bl:(da (Đ 0)<|da (Đ 2) LS)}{dL:(aB ws)}{sN:(found.take c)}{nC:(R.map (·.1))}{uH:(nl.map V.str)}{wJ:(bz Ov Wj λz=>nomatch z)}{a80:(if r.2.1="h" then m else (dP R r.2.1).length)}{vO:(.Call ĝ vh [] pos)}{a87:(h₁.push { cls:=.type "traceback",dict:=none,data:=.fields (sA++Ħ).toArray })}{a88:(∀ ks∈P',V1 S (!ks) N/\∀ g∈S.Mi,∃ w,bb mr ħ g N m=.inr w)}{a9a:(λxs H Q=>∃ p ys,xs=Cd/\(Ma K H p ys\/Oi K H p ys)/\O7 H xV Q)}{a9c:(λxs H Q=>∃ p ys,xs=Cd/\(Ma K H p ys\/Oi K H p ys)/\Q wU H)}{XJ:(b8 st)}{a9d:(W.fnOf "__init__" ğ XJ sr zV .none kV doc pm an LR ct)}{BD:(a8 BC K')}{lj:(aw<|bh lr LU hr.m BD)}{a9j:(∀ a H',gR H H'->H a=none->V8 (aU a Ś) H' d a->Q kX H')}{nr:(.ref T)}{a9k:(W.fnOf m ğ XJ sr zV nr kV doc pm an LR ct)}{a9n:(setFlight iM none)}{qK:(.call (.ref fa) #[rf,[]])}{a9p:(.Raise (!.Call (.Name x np) vh [] MV) none pos)}{a9q:(λv (kv:vm×V)=>∃ t,v=.ref t/\H t=!.tup xo)}{a9r:(wpAny_typeNameOfWhole_valiter hit.typeIs FM)}{a9s:(λks hk=>#[O' ks hk,by rw[HH.mp hk];show Rp])}{mD:(λ_ q=>q)}{a9u:(field _ 0 >>= _)}{uj:(.Name "range" p)}{vW:(hb ñ s1 σ H1 _ I1 q1)}{vL:((p,w)::P.zip vs)}{TW:(.type T)}{ia:#[.bl _,H,I,1,?_]}{a9A:(wpAny_frameOf_fun US hl hf λh₁ hs₁=>?_)}{a9B:(hh.at λea o ne q=>(HY ..).extBut ea o ne q)}{EL:(.For tg iter ss [] pos)}{F8:#[_,1,?_]}{BW:(f x,g x)}{wu:#[#[4],c1]}{Lb:#[#[3],by simp,1]}{PC:(dg S p rs fo ş many g)}{Cg:(lk (rowsOf ê T a.1) k)}{iL:(pN 4 ND)}{v6:[.ref ba,.ref rd]}{a9V:#[_,H9,Inv.S6 I.ok YR,q]}{a9W:(codeAny_handlers_test (cL J5 hg1 Vo ?_ a48))}{a9X:["field","mixing","plan","message","fallen"]}{a9Z:#[#[#[#[2,by decide,#[hp]],1],Oc.m],yW,Eh]}{a90:(UD (·.1) (cq p m ç ê yZ (ai S).length))}{a91:[some<|.int cell,none,none,none,some<|aQ nl]}{qL:(aZ P w)}{Bc:(List vm×Addr×Value)}{lJ:(σ.set i !v)}{yC:(.bl b)}{wD:(.type "str")}{sU:(.builtin "isinstance")}{oq:["name"]}{fW:((ř.getD i []).drop m)}{AC:(rL n js (Yc rd) rt re)}{iC:(t.getD a [])}{b0j:((.inr q.1:vm),jb q.2)}{FD:(st w,LL m w)}{b0l:(dO LET OU (Đ 3)<|Đ 0)}{Gq:(bC kf nm as)}{mE:(nm.take i)}{Fd:(Mx.M9 p š<|Mk.lk R k)}{xG:(ks.map LA)}{wq:(cq p m ç ê ord<|i+1)}{b0u:(rB Bx.K<|iA (Db Bx.K) BC (gA aJ) (gA aJ))}{b0v:(λg=>#[_,1,n,YH,_,1,Yx,1,_,1,fin rfl rfl])}{xj:[2,3,5,7,13,101,999983]}{b0x:(λu s1 ⟨v,H,a,b,c⟩=>k u s1 v H a b c)}{Gu:(IR he hd h1 ?_)}{b0z:(λb o hb e=>kk b o (by simpa using hb) e)}{yM:(.int ķ.length)}{VV:(bD S)}{b0C:(λY=>Y.calm=true/\Y.base.err=X.base.err)}{b0D:(!.Attribute o f pos')}{wS:(upd H T (.tup [x,y]))}{sv:(HG e)}{Fv:(Ip sv I.ok.above)}{b0G:(wpAny_typeNameOf_keyiter hit.typeIs FM)}{b0H:(wpAny_typeNameOf_valiter hit.typeIs FM)}{De:(bH p ř msg fo ms [])}{b0J:(λr=>not (decide (r.1∈gs.map (·.1))))}{kx:[.str "reads",tb<|T g]}{b0L:(λh' c' kp e=>fin its r' hz h' c' kp e)}{b0M:(.call ũ #[[.ref x,.str name tk,v],[]])}{b0N:(x * z+dot r v - c * (y * z+dot lead v))}{b0O:(Tn n (js.map λj=>(ε[j]?).join) rt re)}{b0P:(λa b _ _ h3 h4=>Int.le_antisymm h3 h4)}{b0Q:[some<|vq bs,some<|aQ ts,some<|.str b.1]}{b0R:(upd H x (.ins CE dx [("rows",.ref d)]))}{b0S:(Mk.LQ gN++(bl.take j).map λways=>lu)}{b0U:["_law_ties","_law_without","_law_name"]}{b0W:(Mn (hc ñ s σ H _ I h) λd s1 J'=>?_)}{CZ:(.If c a b pos)}{Zj:(Mn ľ λv s1 J'=>?_)}{b0Z:(!.Name x pos')}{sO:(.Tuple [a,b] k2 pt2)}{b01:(binaryOp .Add)}{Cp:(vs++dvs)}{wL:(I.Qn hc hn)}{b04:(λa b c=>h.fn X ñ s σ H a b c rfl I)}{oy:(as[j]?=bs[j]?)}{b07:(λc v' hc q=>in1 c v' q wH (.inr ?_))}{za:(.ref ea)}{b09:#[_,HD _ rfl,1]}{b1a:(by simp[m])}{Ay:(x - c * y % p)}{GC:#[.type T,none,dt,sl]}{vk:(.lst (PH.map V.int))}{ye:(not (VX w))}{b1f:(setNext a slot i ep)}{C9:(l.map λx=>rw (g x))}{Zn:(rV 0)}{gO:(My.bk p)}{zP:(cu T.Me<|Đ 1)}{tL:[t.2.2.1]}{zJ:(cu T.Me<|Đ 4)}{uG:(T.P.getD e [])}{xU:(pv 6)}{yp:#[ps,[],(0)]}{FU:(.ref aC)}{qk:["_law_script"]}{AD:(.ref x)}{Zc:(.str x)}{b1v:(Mn (ha ñ s σ H Q I h) λc s1 e=>?_)}{b1w:(ho ñ s2 σ H2 x y v u _ I2 r1 r2 q2)}{b1y:(λb o hb hn=>#[o.slots,k4 b o hb hn])}{E6:(·<=·)}{oZ:(k,bt S x)}{GD:(Im _ _)}{b1E:#[#[#[1,#[#[3],#[UJ]],1],by simp,1],1]}{FG:(top 79)}{b1G:["field","mixed","told","rows","many"]}{wM:(h ñ s σ H _ I hw)}{b1I:(·.push Value.none)}{Bg:(without p r lead q)}{b1K:(∀ x H',gR H H'->DR Ś d x->Q x H')}{b1L:(∀ z H',gR H H'->DR Ś d z->Q z H')}{b1M:["field","rows","start","at","place"]}{FF:[fD C p,tb t,.int m]}{wQ:(MU hr (Đ 1)<|Đ 0)}{E7:(dT b1O b8U (Đ 1) Tx)}{b1Q:#[m4,1,.k rfl kI (by rw[fZ,hu];rfl)]}{AT:(List.replicate n 0)}{b1S:(λy=>if y=name then some v else m y)}{b1T:(λa ha=>nomatch ha)}{b1U:[.ref ea,.int (a.2.1:Nat),.int a.2.2]}{Fh:(List.replicate m 0)}{si:(neC b o e hx)}{b1X:(MM b o hb PN)}{jv:#[k1,f2,k2,k3]}{nX:(grow F0 H0 H)}{b10:(wpAny_notOrdered_dict Pp.typeIs ?_)}{pB:(C5 X (tP rd))}{b12:(by first|show .inl Ĥ|show .inr Ĥ)}{FQ:["many","own"]}{yq:["row","many"]}{oW:(List.range m)}{zE:(pv 8)}{b17:[some<|bY t,some<|.str x,some<|cg U]}{GU:(da (Đ 7) LS)}{b19:((HX.mp wn).2.2 x.1 Ĕ x.1<|by simp)}{b2a:(RX Bx.P Bx.w)}{gy:(fh ea cls od)}{GE:(IR hit rfl rfl ?_)}{b2d:(starEach es X.env)}{KW:(by simpa using h2)}{b2f:(λc w' Pq z=>hk c w' (λz2=>?_) z)}{r9:(tP ra)}{Ps:(S.step e1)}{Ld:(.rt d)}{b2j:(wpAny_newList ?_<|HU (Km hlen) ĺ)}{rg:(ð.map pK)}{vC:(by simpa using hm)}{b2n:(λ_ _ _ _ _=>bU<|Vc Ba Ŧ (Đ 1))}{b2o:((stN p m ç ê ord n).R.getD c [])}{mP:[("needed",.int i)]}{b2q:(bi a8z rfl T.Me boot_len<|a8 Ŵ K')}{yF:(LA x)}{b2r:(kf x,V.ref yF)}{b2s:(some v::js.map λj=>(σ[j]?).join)}{ud:(Sum.inl k)}{b2u:((c / 2+7919) * 48271 % 2147483647)}{zS:(R++[(S.next,x,y)])}{lW:[none,some<|.int x]}{b2x:(λc w' hc q=>(hs.2 c ?_).trans q)}{b2y:(λx y H Q=>r x y H Q\/r' x y H Q)}{b2z:(q h' tk d acc.toList ms hk h2 h3)}{b2A:(qr<|YI (dT bo cK Ŧ<|Đ 1) Ŧ Tx)}{b2B:((("h":Str)::NT.take i).map V.str)}{b2C:(dO bf OU (dO bW OU (Đ 1) dI) dI)}{EA:(by simpa using e)}{dE:(List vm×V)}{fK:(.inl k)}{KI:(I.LY a _ ea)}{b2H:(.builtin id)}{A5:(.ref p)}{rZ:(compareOp .NotIn)}{Di:(.bl (decide vA))}{b2L:(wpAny_entryPlaceOf λpl uz=>?_)}{xH:(aU ea H)}{we:(kv.1,v)}{b2O:[s.heap.objs.size]}{Ck:(c.of k)}{CO:(· % p)}{uY:(bk (e Ĩ q))}{DN:(Pr R)}{uh:(pV K n)}{v8:(ao S.le)}{Co:(ε.set i (.ow d))}{AA:(.int j)}{lR:(.inr #[o,1])}{AF:(Obj.putSet UY t')}{qG:(.ref D)}{gC:(l.map g)}{xO:(pN 3 ND)}{ku:#[_,_,#[3],gu _ _]}{AV:(pN 2 ND)}{xJ:#[1,.lst,1,#[1],1]}{um:(.nx #[1] ?_)}{b29:(.lst<|List.map _ (List.map _ _))}{b3a:(not (decide (c.of p.2=c.house)))}{uM:(by simp[hy])}{ux:(Sum.inr p.1)}{b3d:(∀ p∈S.LO,p.1=y->SV p.2=true)}{Gj:(ws++[t])}{b3f:["ties","home","listener","many"]}{b3g:(Rg p mixed A s n)}{yP:(mixed.map f)}{vS:#[#[#[2],p1,hP,1]]}{b3k:(pD Ba jF<|pI (Gw Bx.K) mm aJ)}{b3l:#[han,by simp,λb hb b' RI e=>?_]}{v4:(sF.trans e1)}{b3o:(pI Ů zA<|pv 10)}{FI:(Mk.MD m r.2)}{p8:(r.1,col r.1)}{b3s:#[2,.k (kq O.pnd<|O.pin r hr) kI]}{b3t:(aP S.LK ![])}{b3u:(aP S.LK<|some [])}{Su:(λg=>?_)}{b3w:(MU hr (MU hr (Đ 12)<|Đ 13) dI)}{b3x:#[xs.length - (i+1),#[],1,NU,p']}{b3y:((other e<|Ne.symm UU).trans he)}{b3z:(λi h=>h.IsStrIter it ty x t i)}{b3A:(λε=>∃ o,ε=[.fz _,.fz _,o])}{b3B:#[2,.k rfl kS (by rw[fc,z];rfl)]}{b3C:["value","step","field","often"]}{b3D:[.int r.1,.str r.2.1,.str r.2.2]}{b3E:(.t #[2,n1]<|.t #[2,n2] #[2,n3])}{b3F:#[k,c,e,z.sameBut hs<|XA y c e]}{Bt:(λx=>x.1.isSome)}{At:(λx1 x2=>x1++x2)}{dR:(λ_ _ q=>Hn _ q)}{b3J:(ak<|aw (bh jF MS hr.m<|a8 xU K'))}{b3K:(ak<|aw (bh jF NM hr.m<|a8 xU K'))}{b3L:(∀ xs,Ma K H a xs->xs[i]?=!x)}{b3M:(.Assign [.Name x pos'] a0q WY)}{b3N:(leaving env iM)}{b3O:(Ix T JB (IF JB T b6u ?_<|b53 _))}{mW:(tP (rO f ra rb))}{pP:(xs.map some++cs)}{tw:(os.filterMap id)}{b3S:#[u,u1,u2]}{lY:(t.map rw)}{BP:(qr<|Đ 2)}{Dq:(My.TB hP)}{Fr:(.inl r.1,rw r.2)}{F9:(av<|Đ 5)}{m8:(MU hr (Đ 4) dI)}{b31:#[hx,hm.1,hm.2.1]}{AU:(hs t' UP)}{b33:(λa b Xr e=>Xr<|Sum.inl.inj e)}{b34:(aw<|bh jF Nr hr.m (a8 jB K'))}{FC:(MU hr (Đ 9) dI)}{b36:(.BoolOp .Or (a::b::rest) pos)}{Z':#[xs,q,Hz _]}{b39:(W.instObj C s.heap.objs.size)}{vT:(K w.params)}{b4b:(I.type.here<|Hk (hm.here ?_))}{mM:(n5 n)}{Cz:(kv.1=y)}{b4e:(ð.any λkv=>decide Cz)}{b4f:["field","row","lead","place"]}{AH:(rV 1)}{qt:(pv 5)}{b4i:(s.1++[(z,!(t.1,x))],s.2++[z])}{W1:(dm L g N h)}{DG:(aP S.LK fo)}{tE:(nj a b x q)}{xi:(pv 7)}{uI:[x',.ref rd]}{qw:#[by decide]}{uQ:#[.bl _,H,I,1,q]}{xx:(.cons rfl .nil)}{b4s:(.Call (.Name x p) [] [] pos)}{b4t:(call (.ref fI) (.ref e::us))}{b4u:#[KO _<|by decide +kernel,?_]}{b4v:(∀ ea,eh=!.ref ea->Ox h ea)}{xF:(l.map λx=>BW)}{yc:(.inl (f x),g x)}{b4y:(cS 1 [0] ["number","field"])}{Ax:#[#[3],c47 _ _ _]}{b4A:((pm.map _).nodup_iff.mpr nd)}{b4B:["message","mixed","carries"]}{b4C:["net","plan","many","prime"]}{pX:["names","ties"]}{GA:(ord.getD n wK)}{b4F:(e,w0,l.getLast?.getD<|st w0)}{jp:(t.1,bt S t.2.1)}{EY:(Tm.R.getD c [])}{jK:(Mk.OA p ê r.1)}{mT:(.inr x)}{b4K:(λi h=>h.IsListIter it a i)}{b4L:#[xs.length,by simp,Iv _,h0]}{nH:#[_,e,1]}{su:(.ref r)}{pU:(.ref b)}{b4O:(λb H'=>Y' X Q pU H')}{FZ:(.int 0)}{AZ:[aK c S]}{sw:(c,ways)}{b4T:(cu T.Me<|gS (Đ 0) LJ hr.m)}{b4U:#[#[4],.mk ĺ O hp Vo hm hz]}{b4V:(rB Bx.K<|gS (Đ 0) LP hr.m)}{b4W:(not (bb _ _ g N m).isRight)}{b4X:(I.base.keep b o e n hb hx)}{b4Y:(.BoolOp .Or (b::rest) pos)}{lO:(.lst xs)}{vK:(compareOp .Eq)}{Aw:(compareOp .In)}{Fn:(I.tok _)}{b44:(by with_unfolding_all rfl)}{b45:(upd H5 l (.lst (ys++[v])))}{oF:(SY.other UU _)}{b47:(Heap.get?_push_at rfl rfl)}{b48:(X.more ñ)}{oN:(λ_=>?_)}{zK:(ak<|br b5d)}{b5c:(cleared p bk ř start a q)}{oP:(fH p u rest _)}{FT:(Ne.symm c)}{GM:(S.grow e1)}{Et:(NB a o' F)}{BI:(Nt (iF [] ð))}{jj:(.mk hl h1)}{DX:[fD C p,.int n]}{zL:(x.1=k)}{lF:(cu T.Me<|Đ 0)}{Dp:(red p t i)}{pM:[aK c S,.str x]}{nN:(t.2.1=x)}{tF:(lK nm)}{qU:(ak b6l)}{CU:(gV ts x)}{b5s:#[_,1,#[m4,1,gL],λ_=>rfl]}{b5t:(OA p ê k)}{Gv:(cu T.Me<|Đ 2)}{qz:(aq (top 20) 0)}{Dg:(aq (top 19) 0)}{EC:(cu T.Me<|Đ 5)}{b5y:#[1,_,Ma.of UN]}{D8:(a8 lr K')}{b5A:(λY=>Y.A.handled=!.ref ea)}{yS:#[2,#[vY]]}{b5C:(as.map (Sum.inr:Str->vm))}{GS:(r.1,bF pl r.1)}{b5E:(c21<|C6 hr)}{FK:[.non]}{kW:(b5 yZ pl)}{BL:(iS Bx.K c)}{b5I:#[aj h hn,aj h p2,aj h tl0]}{v9:(.ref aS)}{b5K:(λv H2=>v=.non/\Q AD H2)}{b5L:(IM hT WI (Jv.mp h3).1 ?_)}{b5M:(setField _ 0 .none >>= _)}{b5N:(dot r v - c * dot lead v)}{b5O:(λvs H Q E h=>(t.ok h).1)}{b5P:(.Compare a [.In] [b] pos)}{b5Q:#[ob,es,ho,c1,c2,c3,c4,c5]}{b5R:(da (Đ 1)<|da (Đ 2) ql)}{b5S:["ties","home","listener"]}{b5T:["used","came","listener"]}{b5U:["home","touching","used"]}{b5V:["field","values","steps"]}{b5W:[(Sum.inl S.next,.ref tp)]}{b5X:(HU (by rw[HF];omega) htz)}{b5Y:[aT R,.str g,rw ns,.int m]}{b5Z:[aT R,aI pl,.int m,.int p]}{DY:(TP X ñ σ Q)}{Gr:(eval a X.env)}{b52:(letOwnedTupleGo tg ĸ u)}{vJ:(by rw[hs,S7])}{kH:(.type "bool")}{C3:(λx=>not x.1)}{Eo:(λc v _ q=>q)}{b57:(k * x % p * y+dot B3 v)}{sG:(tP (rF R rs))}{b59:(zt K is.length (gNs is))}{rp:(merged [] ps)}{b6b:(kt_code_dict_new _ #[2])}{Eg:(L2.NB a o' F)}{tT:(L2.NB a o' H)}{JZ:(xs.foldl g b)}{b6f:(da (Đ 0)<|da (Đ 3) Ť)}{b6g:(da (Đ 2)<|da (Đ 3) LS)}{b6h:(da (Đ 0)<|da (Đ 3) LS)}{b6i:(da (Đ 0)<|da (Đ 1) XV)}{b6j:(bz h1 hd λz=>nomatch z)}{b6k:(hk▸b2T (if_pos rfl) p2)}{rE:(Mk.ME ê r.1)}{b6m:["_law_cell","_law_many"]}{b6n:(pS 2 ND<|c34 TF hr.m rfl)}{b6o:#[Ln,_,1,h,fB λ_ _=>rfl]}{b6p:(da (Đ 6)<|da (Đ 5) LS)}{b6q:(da (Đ 8)<|da (Đ 6) XV)}{D3:(Jm _)}{b6t:(I.base.free b o e n hx)}{xc:(Ib<|HG e)}{b6v:(∀ b∈fp,c0i X ñ H b)}{b6w:(gH I hg hm hv ?_ hn OW)}{mU:(rawInt L)}{b6y:(ho ñ s1 σ H1 _ I1 q1)}{Gi:[.int i,x]}{b6A:(rF (λl=>R (l++dl)) rs)}{b6B:(pV X.K n)}{b6C:(F.kt_typeCall_dict_1 _)}{b6D:#[Zx,out.toList,e,UO,?_]}{nF:(WO false)}{b6F:(!.ref s.heap.objs.size)}{b6G:(SetTable.grown Vr.size)}{C0:(cl.ca V5)}{b6I:(pS i hN he hi hx hs hf)}{b6J:["field","row","number"]}{b6K:["rows","start","place"]}{Bh:(av<|Đ 2)}{b6M:#[1,#[_,1],by decide,hb]}{b6N:((.inr y:vm),D.bl true)}{uV:(.t r1 r2)}{b6P:["field","row","length"]}{b6Q:(dD p rs fo ş many m.1)}{sX:[(h,none)]}{b6S:#[x,by simp,by simp[O6]]}{FH:(st w)}{b6U:#[m,hm,#[2],(bI m).symm]}{b6W:["field","mixed","asks"]}{b6X:[.lst xs,.str z,.lst ys]}{b6Y:#[#[#[pQ,1],by simp,1]]}{b6Z:(R.take j)}{b60:(bz h hN λz=>nomatch z)}{b61:(bz h ht λz=>nomatch z)}{b62:(UA (lA Bx.K) (cP 4) t1)}{b63:(UA (lA Bx.K) (cP 4) t2)}{b64:((Sum.inr x:vm)=.inr g)}{b65:(P4 _ _ d)}{qV:(fs.lookup f)}{b67:(JY WE XU ?_)}{b68:(.Constant .none j pos)}{x0:(2 ^ 62)}{b7a:(getAttr AD name expr)}{b7b:(.ins C dx (lB f y fs))}{b7c:(call oh us)}{uX:(upd H l xV)}{mB:[.int i]}{z6:(.int ns.sum)}{mS:(.dK [])}{kR:(.ref d)}{b7j:#[qQ,pl.isList.push _]}{uN:#[o,ho,hx,Rk]}{db:[.int n]}{n8:(ns.map .int)}{zH:(lo+hi)}{b7q:(pyNext (.ref I) >>= _)}{oU:(.type "set")}{BY:#[ε,.done,h]}{BS:(ps++N)}{kE:(V7 P0<|Đ 0)}{GT:(qr Tx)}{b7w:(List.Sublist.map _ KJ)}{b7x:(((x:Int) * v+s) % p=0)}{b7y:(by simp[hr.subset hx])}{b7z:["field","table","row"]}{pY:(TY _ _)}{xg:(top 87)}{E9:#[_,3,.t rfl]}{gD:#[#[3],.mk R]}{b7E:(dT gf dq (Đ 2)<|Đ 7)}{Ya:(aK c S)}{b7G:(bH p ř msg fo Bm [])}{b7H:((.inr b.1:vm),aQ b.2)}{b7I:(grow F H G')}{b7J:(Int×Mk.Ask)}{Ge:(as.map .str)}{b7L:(dT bo cK (Đ 8)<|Đ 6)}{b7M:((PL.take j).map V.str)}{GG:[.int 0]}{b7O:(.Slice lo hi none p2)}{b7P:(Mn r6 λv s1 J'=>?_)}{b7Q:#[rQ s₁.heap H,none]}{b7R:(λ_ _ _ _ _=>#[hc,1])}{b7S:(Hr<|Hk (Kc u1 u3 ?_))}{b7T:(upd H d (.frz o Cv))}{b7U:(pI Ů zA<|c6 lD qt aJ)}{b7V:("kept_posts",.ref dp)}{b7W:(if i=j then 1 else 0)}{b7X:#[c,q,by rw[if_neg c]]}{b7Y:#[F,ε,f,S.Nb e1,h2,p]}{b7Z:(es.toList.map (·.2))}{b70:((HY ..).trans<|HY ..)}{b71:(λi=>bs.getD i false)}{b72:((k==i) || decide T5)}{b73:[fD C p,.int a,.int b]}{b74:#[h1,h3,by show⟨⟩]}{b75:(bH p ř oX fo ms [])}{b76:(λt ht=>(HN.mp ht).1)}{b77:(λv x=>(o * v+x) % p)}{b78:[y * oJ % 2147483647]}{b79:(cS 1 [] ["_law_tie"])}{b8a:(("h":Str)::NT.take m)}{b8b:((fg cell 3).getD 0 0)}{b8c:((fg cell 3).getD 1 0)}{b8d:(("h":Str)::PL.take j)}{b8e:(some [.none].toArray)}{b8f:(Jc ?_<|by size_fits)}{b8g:(storeName X.env x u)}{jg:#[v,H,I,r,h]}{b8i:(.Constant Zc j pos)}{b8j:(Mn œ λc s1 J'=>?_)}{b8k:(Mn œ λv s1 J'=>?_)}{b8l:(∃ xs,Ma K H1 a xs)}{b8m:(intBits_le_64 h1 h2)}{b8n:(∀ v,(x,v)∉binds)}{Cy:(Vs x)}{b8p:(.Call a6j vh [] MV)}{b8q:(.Pass ⟨0,0,0,0⟩)}{b8r:#[none,1]}{b8s:(Obj.mapSeq (·.pop))}{b8t:(hd.ok I.LY)}{b8u:(.Name "enumerate" p)}{b8v:("kept_ties",.ref dt)}{b8w:(without p Ō lead k)}{lP:(ř.map sy)}{fV:(m+t.length)}{Cu:(col t j)}{iN:(fH p u l v)}{b8B:(List.range' 0 (n+1))}{E5:(tQ F0 H0 r)}{oV:(h F0 H0)}{So:(.ins C n l)}{b8F:(hl ñ s σ H _ I hq)}{lT:(.ref tp)}{y8:#[ha,hb,y9]}{rG:(red p Ň m)}{b8J:#[2,by decide,⟨⟩]}{b8K:(.bl (decide (i<=j)))}{AJ:(.f wj rfl)}{b8M:#[2,by decide,#[#[]]]}{vF:(λ_=>false)}{zc:(s.1++[EM])}{uW:(z∈keys c)}{b8Q:(gZ ŭ N U (cG ŭ g))}{b8R:["tie","name","used"]}{wc:(rV 4)}{Ff:(L++[(k,a)])}{uJ:(rC<|.int 0)}{b8V:#[#[#[2,Eh],1,.i],1]}{b8W:((B a).getD a.2.1 [])}{b8X:[aK c S,.int m,tb ç]}{yR:["value"]}{DU:(List Mv)}{b80:(.int<|Mx.M9 p š Ž)}{b81:(Mm.trans<|aO sF e2G)}{Dl:(LA k)}{b83:(upd G5 Tz<|.tup uI)}{tW:(X.NJ ea pn)}{b85:[.Name x p2]}{vU:(yj m p col)}{Al:(vQ R A6 g)}{kM:(S.Vb x y 1)}{sT:(.ref CN)}{BT:(.ref V3)}{vD:(.ref WT)}{b9c:(hl ñ s σ H _ I h)}{b9d:(false,eval a X.env)}{b9e:(false,eval b X.env)}{b9f:(hi ñ s σ H _ I h)}{b9g:(.bl (decide (x=y)))}{b9h:(I2.Xx.make C us [])}{b9i:(.lst (kU xs lo hi))}{b9j:(if b then 1 else 0)}{b9k:(.Call a6j [] [] MV)}{b9l:#[oc,od,.func ě,O4]}{b9m:(by simpa using ew1)}{b9n:(ForInStep.yield ok)}{b9o:(upd H1 l (.lst []))}{b9p:(.Subscript o i pos)}{b9q:(starEach [e] X.env)}{b9r:[s.heap.objs.size,p]}{b9s:#[c,_,1,z,p2.mono e]}{b9t:(λz=>hD<|W.sub _ z)}{b9u:(List.range es.size)}{b9v:(.bl (decide (j<i)))}{b9w:(.bl (decide (i<j)))}{b9x:#[2,.l .lst<|cM #[]]}{b9y:(MU hr (Đ 1)<|Đ 3)}{b9z:(dT gf dq (Đ 0) dI)}{b9A:(dT a7G b3T (Đ 4) Tx)}{b9B:(λx hx=>nomatch hx)}{b9C:(λ_ _=>Sum.inr.inj)}{b9D:(upd G Tz<|.tup v6)}{b9E:(upd G Tq<|.tup Zm)}{b9F:(σ'.set i !.ref ea)}{b9G:(dO bW OU (Đ 0) dI)}{b9H:(fh ea FU<|some dx)}{b9I:#[oc,od,.func ę,O4]}{zr:(upd H x o)}{Ec:(pyIter ĸ)}{b9L:(by simpa using hu)}{b9M:(.BinOp a op b pos)}{mG:(λ_=>none)}{b9O:(λv _=>v=.bl true)}{b9Q:(ForInStep.yield r)}{tS:(Hk ?_)}{b9S:(noteFrame iM env)}{xv:(kL ry)}{xb:(upd H d v)}{b9W:(Jz hit.typeIs FM)}{b9X:((t+a * b % p) % p)}{b9Y:(tI ri)}{b9Z:(.builtin "sorted")}{ZV:(Nt ð)}{b91:(tP (rO Sub ra rb))}{b92:(I2.LY.fresh<|Hz _)}{u7:(ð.map pr)}{b94:(iD2 X Itv (tP rd))}{b95:(Obj.mapFields a5Z)}{sf:[Nt ð]}{b97:(by simpa using hk)}{b98:(by simpa using hn)}{Em:(.f rd rfl)}{c0a:(cS 1 [] ["place"])}{Pz:(red p t m)}{Zq:(ts.map bY)}{E3:(t.2.2.1=x)}{c0e:(b.1++tL,b.2++tL)}{GQ:(ns.take i)}{ve:(ME ê x.1)}{c0h:(XZ (N.mono e1).dr)}{Bz:(N.mono e1)}{Ak:(a8 mm K')}{c0k:(∀ x∈xs,x∈ys)}{Ea:(Mk.LQ Bu)}{c0m:(λt ht=>(cQ ht).1)}{vN:(aq mH 17)}{c0o:(upd G dx<|.own ea)}{c0p:(.inl r.1,.tup jk)}{An:(Pr (m9 c))}{c0r:(U++(aB ws).take j)}{c0t:[(NT.getD i "",kd)]}{c0v:(e1.trans e2.symm)}{D0:(cP i)}{c0x:(.IfExp c a b pos)}{c0y:(.Return (!e) pos)}{xP:(K7 _ _)}{c0A:(call b2H (v::us))}{c0B:(ns.map WData.int)}{Fy:(bL 0)}{c0D:(.Tuple es x1 pos)}{Ew:(λ_=>E)}{c0F:(storeTaker? attr)}{mY:(kV k)}{AW:(.nx ε)}{yD:(.tup l)}{zN:(.lst m)}{xz:[.ref l]}{c0M:#[ķ,kv,s _ _ h,y]}{u0:#[e1,q1]}{c0O:(IR hz rfl rfl ?_)}{c0P:[.Return (!e) pos]}{c0Q:(b7N<|V7 M8 (Đ 0))}{Uf:(y∈ts)}{kz:(rV 2)}{c0T:(fe rfl)}{c0U:["field","number"]}{F5:(k∈ks)}{c0W:#[2,.k (i4 h1) kI]}{c0X:#[#[#[2],hp,hP,1]]}{c0Y:(T.R.getD M'.1 [])}{c0Z:(A.map<|yf CE R B)}{c00:(aP S.LK<|some ks)}{c01:(λvs H Q E h=>?_)}{c02:("fallen",.ref la)}{Fp:(top 29)}{c04:(kf p.1,V.ref p.2)}{c05:(x / 1009+69621+k)}{c06:(pI Ů mm<|pv 10)}{c07:(pI Ů mm<|pv 11)}{c08:(λ_ _ _ _ _=>rfl)}{sI:(·.frame)}{yx:(Ze b o e)}{c1b:(.Tuple es k pos)}{c1c:(.int xq s.toks)}{c1d:(gM I q<|by simp)}{c1e:(λb u q=>Hn _ q)}{c1f:(hb s us I.Oh hl)}{c1g:(hr.make C us [])}{Gx:(!(k:Int))}{c1i:(setAttr za f u)}{c1j:(.dK (eO ķ k v))}{c1k:(.Dict [] [] pos)}{c1l:#[1,λa4g Sx=>?_]}{yg:(r.take m)}{gv:(joined t)}{GR:(Option D)}{c1p:(rMe C m R ra rs)}{c1q:(NK.or a7v<|c4s hu)}{c1r:(Pr (tY c NS.Oj))}{c1s:["begins","told"]}{mV:#[1,EN.m]}{yh:(aq a7n 0)}{uu:(b5 ş ř)}{c1w:["number","rows"]}{ni:(rR U t.1)}{c1y:(.inl k,.bl true)}{Ee:#[#[4],so]}{c1A:(mixed.map (s a))}{mO:(st a.2.1)}{c1C:(T.P.getD a.1 [])}{qu:(x.2,ways)}{c1E:(.ref C.1)}{c1F:(.xd ((f,y)::fs))}{c1G:(cS 1 [] ["tie"])}{sg:(aq mH 5)}{FJ:(aq mH 2)}{Cq:(aq mH 3)}{vw:(aq mH 1)}{CV:(aq mH 6)}{c1M:(LA t.2.1)}{c1N:(bb mr ho g N m)}{c1O:(nm.map λx=>b2r)}{zu:(aq FG 0)}{BZ:(aq FG 2)}{yL:(pN 13 ND)}{c1T:(d8 Bx.K [7,8,9])}{c1U:(ord.take i++[x])}{mF:(some "h")}{GX:(aq mH 9)}{c1X:(pI Ů (pv 9) aJ)}{c1Y:(pI Ů zA<|pv 5)}{c1Z:(pI Ů zA<|pv 9)}{c10:#[vX::ps,[],(0)]}{c11:(cS 1 [2,3,6] ø)}{c12:(λq=>nomatch q)}{c13:#[Z',hd σ H p]}{c14:(binaryOp .Mult)}{c15:#[[],H,I,.nil,h]}{c16:(λ_ _ _=>False)}{c17:(IR hT WI h3 ?_)}{c18:#[.ref C::us,[]]}{c19:(isInstance _ _)}{c2a:[.str name tk,v]}{c2b:(Hk (Kv a b ?_))}{c2c:(Hk (Lv a b ?_))}{c2d:(wpAny_letGo ?_)}{c2e:(IM ho hd Ĕ ?_)}{c2f:(.ok (.ret res))}{c2g:(Obj.mapSeq b1I)}{c2h:(I1.LY.fresh le)}{c2i:(x.map (· * k))}{c2j:#[r0,h1,h2.symm]}{c2k:(R.sh.fit _ hmi)}{c2l:(l.map some++cs)}{c2m:#[1,vs,Ma.of p4]}{c2n:(.Name "dict" p)}{c2o:(intKind prog w)}{c2p:(.fresh 0 0 ye)}{c2q:(ret Value.none)}{c2r:(.frz o<|.dK ķ)}{c2s:(Mx.e iC q≠0)}{c2t:["ties","start"]}{c2u:(qo 2 ND<|cO LS)}{c2v:(inc msg cs m.2)}{c2w:(c.map λq=>b0j)}{c2x:["net","fallen"]}{c2y:(qo 4 ND<|cO LS)}{c2z:(λk a=>Gm % p)}{c2A:(mixed.map<|s b)}{c2B:(Vj p mixed A s)}{c2C:(ord.map (·.1))}{c2D:(qo 6 ND<|cO LS)}{c2E:#[1,by show rfl]}{c2F:(Sum.inl S.next)}{c2G:(tb (Mx.ones m))}{c2H:[.int w,.ref wy]}{c2I:[V.int<|Mk.st w]}{c2J:(grow xw H1 H2)}{c2K:(ord.getD i wK)}{c2L:(hf.mono<|ao sF)}{c2M:#[hr5.dp,hr5.un]}{c2N:(S.Mi.map V.str)}(xT:[_,_,_,_])(Lq:[_,_,_])(yi:[h1,h2])(Ty:[kV,doc,pm,an,LR,ct,oc,od,O4,tc,td,n,RM])(x6:[s1.heap.objs.size,sM,_,_,H1,1,I1.kept λb o e=>Hn _ e])(c2T:[kV,doc,pm,an,LR,ct])(sx:[H1,I1,r1,q1])(P8:[_,_,1])(tu:[f0,f1,f2,f3,f4,f5])(Bp:[F,ε,f,S,h,p])(vP:[1,by decide])(p9:[none,none,none])(Fs:[f1,f2,f3,f4])(uO:[.int lo t,.int hi u,.int 1 v])(Ap:[I.os,I.bare,I.base,I.loc,I.cell,I.free,I.Nd,I.pin,I.LY,I.len])(gG:[a,vs,1,p1,p2])(yH:[o,es,ep])(xD:["_law_number","_law_one","_law_other"])(yX:[p1,p2,p3])(c27:["_law_one","_law_other"])(c28:[!v,!.int (m:Int),!.ref fa,!.ref rb,!.ref ls,!.ref d])(c29:[λb o q n hb hx=>?_,λb o q n hb hx=>?_,λb o q n hx=>?_,λb o q hx=>?_,λb xs q=>?_,λb o u q=>?_])(c3a:[1,Walks.list (A:=X.A.in1) wL _ p hpn its.toArray,b7j,λi v s' Q' E' hv hQ=>?_,λh' tk hk=>?_])(jM:["one","other","delay"])(QK:[_,1,n,dx,_,1,h1,1,_,1,pr a7X b31 λ_ H1 e1 _=>?_])(M1:[_,1,xw,_,_,c9,XZ (d:=.int m) rfl])(Ai:[x,H1,I1])(Ed:[H1,I1])(vb:[1,_,1])(c3h:[_,1,n,dx,_,1,e1 _ _ h1,1])(zh:[h3,h4])(uK:["net","many"])(yN:[its,rv,p,hz])(qB:[.ref s.heap.objs.size,_])(c3m:[#[o,ho],λh1 h2 J' k=>(by let#[o1,vs1,q1,q2,q3]:=J';show#[o1,vs1,k o1 q1,q2,q3])])(c3n:[_,b LR A outer s H E hr F H,F,_,C,qe N s1 hl,(t l C hR).2,λ_ dx H' e=>q dx H' e])(oQ:[es,ep])(Cj:[Uu,λb hb=>(hf b hb).1])(oM:[_,1,n,dx,_,1,e1 _ _ h1])(c3r:[I.ok.frames,I.ok.VD,I.ok.exf,I.ok.bs,I.ok.WL,I.ok.U2,I.ok.Ws,I.ok.Qs,I.ok.Xu])(c3s:[I.ok.mod,I.ok.kind,I.ok.glob,I.ok.blt,I.ok.above,I.ok.inj,I.ok.has,I.ok.cab])(c3t:[_,b LR A outer s H E hr F H])(Av:[_,_,2,_,_])(Eu:[g1,g2,g3])(xN:[F,ε,d,S])(AI:[o5,o6,o7])(c3y:[_,1,n,c.MJ,dx])(Dc:[o8,o9,Pm,OI,Og,Of])(mK:[_,_,2,_])(jU:[F.binds hb,ok f fd F])(c3C:[B.Pu,λx hx=>B.done x (by let:=B.ks;rw[HV]at this;rw[<- this];show hx)])(Dr:[I.ok,I.os,I.bare])(cT:[H,I.tok _,#[_,1]])(c3F:[by decide,by decide])(jV:[σ',H',Inv.U1 I.ok I'.NH])(DW:[_,_,2])(oR:[_,1,"set_iterator",_,b09,Nh.lookup])(vz:[q1,q2,q3])(AS:[a,vs,1])(jz:[F,ε])(BN:[#[dx,h1],#[kp,h2,p2],#[kt,h3,p3]])(Fq:[1,(by change 0<=sizeLine;decide)])(jT:[dx,_,1])(QJ:[_,1,?_])(Pl:[v,ws,1])(c3R:[λi m σ H=>m=xs.length - i/\i<=xs.length/\Pv i σ H,b4L,?_])(C4:[?_,?_,?_,?_])(uC:[z,hd,vs,rel,dd])(rM:[z,its,n,r])(oj:[g1,g2])(DT:[(6),2,show (0:Int)<6 by decide])(zW:[aK c S,aI ř,.int many,.int p])(uP:[t,ht,1])(c3Z:[λj c q=>?_,λj c q=>?_,λj k c e b n q1 q2 z1 z2=>?_])(gk:[Jb X G a,kp,λs us P4 hl=>?_])(zq:[its,r,pl,hz])(cW:[?_,?_])(As:["_law_net_here","_law_ties"])(B2:[by simp,1])(c35:[n,dp,dt,S,x,1,N,hx,hz,hm,q2])(Ab:[yi,zh])(c37:[Pl,#[a,ķ,1,yX],1])(xu:[yi,h3])(c39:[z,lo,vs,rel,yH,ho,hx,Rk,hk,hp,Zw])(DV:[c2T,O4,1,lk,Tr])(wZ:[p,vs,1,yi])(Ah:[yH,t,ms,Eu,g4,g5,g6,g7,g8])(c4d:[oe,vs,T,oT,ts,he,#[Ua,h0],hd,h1,hnT,UU,hT,WI,h3])(c4e:["_law_cell","_law_script"])(c4f:[_,1,.inl b5y,_,1,ml,DW,UN,MW,put G2 v _ Qj ?_])(c4g:[u,u1,u2,u3])(c4h:[s.heap.objs.size,b9r,b2O,its.toArray.size,_,_])(jS:["_law_many","_law_prime"])(zd:["field","chosen","found"])(c4k:["found","rows_by_choice"])(tM:[!.ref a,!.ref n,!.ref Ln])(F7:[dx,fs,ex])(yd:[a,vs,ex,ha,hv])(c4o:[λi d q=>?_,λi d q=>?_])(On:[xT,_,_])(EE:[by simp,Iv _,b8r])(wx:[I.free,I.Nd,λp hp=>?_])(wN:[oD,esD,epD,hoD,hdD,hcD])(c4t:[_,vb,_,1,(by change 3<=sizeLine;decide)])(mh:[k _ _ Ļ e,c])(kh:[o,ho,hc])(qp:[n,ne,nf,d])(c4x:[λb o e n hb hx=>?_,λb o e n hb hx=>?_])(A7:[hp,g,d,tk,os])(lI:[λr hr=>?_,λr hr=>?_])(c4A:[jz,.bl c,S,h,λ_ H' e z=>#[c,z,q H' e]])(c4B:[c28,!.ref ba,!.ref rd,!.ref wa,!.ref ea])(c4C:["_law_row","_law_multiplier","_law_tie"])(oS:[_,1,n,YH,_,1,Yx])(iR:[yH,ho,r])(t6:[g,d,t,os])(l9:[aK c S,.int m,fD C p])(zf:[t1,t2,t3,t4,t5])(c4I:[fo,Hz _,λb o e=>Hn _ e,λacc OZ=>?_])(Fa:[_,#[2]])(Ej:[H2,I2])(CI:[i1,i2])(c4M:[yi,#[u,v,h3],h4,h5])(GV:[q1,e _ _ q2])(xa:[jz,c,S,h,q])(c4P:[Pp.typeIs,F.args_dict_init_2 _ _,?_])(ze:[ε',yi])(rP:[#[],#[]])(jN:[_,vb,n,c.MJ,dx,P8])(c4T:[xs.length - (i+1),#[],1,NU,#[!x,1]])(c4U:[z,lo,vs,r,ob,oQ,ho,c1,c2,c3,c4,c5])(C8:[a,b,c])(zw:[e1,e2])(WZ:[#[0],#[0]])(wO:[k1,k2,k3])(c4Z:[λa v e=>?_,λb o e hb hB=>#[cW]])(kB:[oc,odi,oda,O4])(Dj:[i,hi,1])(yY:[_,vb])(xE:[lead,hl,d])(c44:[b,vs,q1,a6F h k k' q2 λ_ _=>nofun])(kO:[AI,o8,he])(yT:[b,dxb,eb])(nU:[.int m,.int p])(c48:[λb o q=>?_,by simpa using S.len])(c49:[O.cn,O.fp,vb,a,c.of p.2,dxa,P8])(zG:[x,sx])(c5b:[ea,cls,a0,B,H',od])(c5c:[hv,tP.at s q (by rw[b69 hu];rfl)])(c5d:[.next k1 k2 h1,h2])(c5e:["mine","theirs","field","often"])(rJ:[pre,post,e])(c5g:[aY Ě Vp,[],1,Jt,b1T,[],ae,.nil])(c5h:[Tz,_,1,Oi.of Xs,1,P8,_,[],2,?_])(c5i:[its,r',pl,hz])(c5j:[its,r1,pl,hz])(c5k:[ox,vs,a0,hx,hc,hd,h0,h1,Wk,h22])(Gk:[Pl,#[gG],1])(Aa:["number",jM])(c5n:["self","field","way","number"])(c5o:[Lq,1,I2.kept λb o e=>Hn _ e])(c5p:["number","mixed"])(c5q:[1,os,bare,u,LY,Sa,hsc,fl,old])(AO:[a1,a2,a3])(c5s:[h3,tP.at s q (by rw[h4];rfl)])(c5t:[o6,o7,he])(c5u:[_,#[_,3]])(c5v:[Vp,e1,as,WJ,han,has,vs,SQ,Xk])(c5w:[.cons #[t,1] .nil,ok f _ FX])(GH:[σ',H'])(CY:[o,e,c,d])(c5z:[v,H',os,bare,un])(c5A:[u,1,rx])(wB:[NI,r2,XN,VN])(uE:[x1,x2,x3,x4])(By:[a,ķ,ex,yX])(wW:[O.cn,O.ft])(XL:[ea,_,_,ws,1])(Fc:[ks,g,_,_,Ng])(xR:[vn,vt,vo,nl,S,R])(Ek:[Ty,a,l,c])(c5J:[a,vs,GV,Md.mono e l vs q3])(tR:[?_,λx c e=>?_])(c5L:[(hs.2 p.1 ne).trans e,qp])(w4:[f,fd])(nJ:[Lq,1])(zO:[st,cl])(c5P:["mine","field"])(c5Q:[dy,x,1,ae,1,?_])(c5R:[d,dx,l,a,e _ _ b,c.mono e])(sW:[Ed,q1])(c5T:[ķ,k,e,1,l])(fX:[ea,m,a])(c5V:[od,es,Uv,Tr,hdd,hk,hp,hn])(cf:[vs,r,da,hl])(de:[ws,vz])(sQ:[1,#[3]])(Go:[o,vs,a,c,d])(pH:[oe,ws])(FV:[ol,WE,_,nl,XU])(og:[Ai,rx,a])(c53:[rM,hl,e])(AQ:["rows","many"])(c55:[c4o,λi j c d a n q=>?_])(qE:[xN,h,q])(mJ:[b1,b2,b3])(Az:[o8,o9,he])(vy:[.ref n,.str x])(tD:[i,hi,ei])(c6b:[ws,Wf,1])(c6c:[d,dx,l,hd,oj])(c6d:["_law_line_of","_law_j"])(c6e:[vP,by decide])(c6f:[#[o,e,ex.1],λa e2=>?_])(c6g:[dd.typeIs,λb q=>?_,hd])(c6h:[Xi,λd H2 e2 h2 hd=>?_])(c6i:[e,k z λ_ z=>nomatch z])(xM:[Ej,r2,q2])(c6k:[σ3,H3,I3])(FE:[q1,q2])(c6m:[σ7,H7,I7.Py])(lg:[oc,od])(c6o:[its,rv,pl,hz])(c6p:[#[old,h1],h2])(eM:[AS,ha,hv])(c6r:[S,h1,λH1 e1=>q H1 e1])(c6s:[R,(0),.done,I.ld,I.MW])(c6t:[zw,e3,e4])(c6u:[σ9,H9,I9])(sL:[1,trivial])(c6w:[e8,VU,Xt,N8,T8,L8,#[]])(c6x:[S9.le,hv0,?_])(c6y:[h1,λa H1 e1 n w=>?_])(c6z:[c,_,1,.inl z,m.1,m.2])(c6A:["_law_k","_law_name"])(jQ:[o,ho,hd])(c6C:[m,hn,hl])(lZ:[u,hu,ru])(c6E:[z,TI,TO,CI])(c6F:[NI,Z2,p2,VN])(c6G:[w4,cl,hm,b,F])(c6H:[_,1,.int i,nJ,.int i])(c6I:[w4,Jb X G a,F.kp,jU])(c6J:[ea,a,un _ _ b _,pH])(c6K:[yi,λ_ hp=>q.at hp])(c6L:[_,keep b _ b1X hs,1])(c6M:[o',e',c',d'])(c6N:[uK,"prime","falls"])(c6O:[q3,Md.mono e l _ q4])(c6P:[F',_,f,S',h2,p.up u])(c6Q:[S.a,h1,λH1 e1=>b7Y])(c6R:[a,yX,vs,p4])(c6S:[fD C p,rw r])(c6T:[_,.f rd rfl])(c6U:[C8,λu hu z hz=>?_])(c6V:["ear","way","ahead"])(c6W:[Av,2,Av,3])(x8:[n,dp,dt])(Bs:[c3y,P8])(mX:[xT,xT])(c60:[seen,nJ,hs])(c61:[c4e,"_law_net_here"])(c62:[e2,U7,ht,ho,l1,l2,L])(c63:[w4,Jb X G aC,m,jU])(c64:[HI X G RY,HI X G WS])[c65:∀(hg:∀ cells C s H fp,PG ė tg b6B)(ht:∀ cells C s H fp,Ql ė ifs uD)(he:∀ cells C s H fp,PE ė elt tU)(hs),0][c66:∀(hb:Lx X.K fd ps ds)(hd:A8 dvs ds)(hx:c3E CX X E),0][c67:∀(H:Hp)(Q:VK),0][c68:∀(hn:X.base.err=none:=by assumption),0][c69:∀(x:Ru s.heap a es ep t)(hf:t.fits es.size=true),0][c7a:∀{ts:List (T ν)},0][c7b:∀(ha:PE X a ta)(hb:PE X b tb),0][c7c:∀(US)(hl:s.heap.FunFrames base ź)(hf:env.frame=!L)(SY)(he:s.heap.get? e=!oe)(Xo)(Yw)(hd:oe.data=.fields vs),0][c7d:∀(X:Bx.K.In h)(G:h.Ns mainGlobals Bx.mg),0][c7e:∀(hi:X.N[i]?=!x:=ă)(hx:Ey X.env.scope x:=Ĉ)(hs:swapsWith e b0Z pos.line X.env=pure false:=ă)(hf),0][c7f:∀(S:au N ps zV)(t:qX N.length ps.length r R)(b:∀ (LR:Value)(A:Ë)(outer:List Env)(s:Ê)(H:Hp)(E:XK),Mg base k Ė->SE (eZ NP P w K mg base N ğ zV f LR A outer s H E).Vg sr r),0][c7g:∀(N:η)(t)(b:∀ (LR:Value)(A:Ë)(outer:List Env)(s:Ê)(H:Hp)(E:XK),Mg base k Ė->(ps++N).Nodup->SE (eZ NP P w K mg base BS ğ zV f LR A outer s H E).Vg sr r)(S:au BS ps zV:=by exact PD),0][c7h:∀(hg:Gl X x)(ha:PA X vh t)(OW)(he)(uz),0][c7i:∀(CE:Addr)(H G0:Hp)(ks:Ξ)(LA:Û)(MT:υ)(m:Nat),0][c7j:∀(he:PE X e ta)(hb:attributeBase e f X.env eV=eval e X.env),0][c7k:∀(ok:∀ f fd,PY Bx.K x ğ st f fd->SR NP k f fd ps sp)(hb:∀ (kV doc pm:Value)(an:ψ)(LR ct:Value)(us:θ),us.length=ps.length->bindArgs ě D9=pure SL:=đ),0][c7l:∀(T:OB Bx.K Bx.mg CE),0][c7m:∀(k:∀ σ H Q,t' σ H Q->t σ H Q),0][c7n:∀(hr:Mg X.base (k+1) X.A),0][c7o:∀(hs:starEach vh X.env=Ŋ::starEach es X.env:=ă),0][c7p:∀{o value:Expr}{f:Str}{pos pos':Pos}{ta tv:TE}{C:Addr}(T:eX X.K C f)(ha:PE X o ta)(hv)(hs:swapsWith value b0D pos.line X.env=pure false),0][c7q:∀(xs)(I:β->Ú)(g:β->α->β){b:β}(h0:I b ε)(hl)(k:∀ b x ε,x∈xs->I b ε->∃ ε1,q (u x) ε ε1/\∃ ε2,rb ε1 pG/\I (g b x) ε2),0][c7r:∀(F:ExcBaseFacts B newId Xc bm)(T:OwnTail s.heap bm tl)(hC)(hN:s.heap.Ns N mN)(hI)(hf:s.heap.get? fI=!oI)(hfc)(hz:us.length<=sizeLine),0][c7s:∀(S:au N ps zV)(t:b4l N.length ps.length z R)(b:∀ (LR:Value)(A:Ë)(outer:List Env)(s:Ê)(H:Hp)(E:XK),Mg base k Ė->CW ń Ew sr z),0][c7t:∀(P)(w)(K)(mg)(base)(k:Nat),0][c7u:∀{rk:ν->Nat}(hr:∀ t∈ts,rk t.2.1<rk t.2.2.1),0][c7v:∀{oc tc:Value}{od an td:ψ}{O4 RM:ω}{n:Nat}{kV doc pm LR ct:Value},0][c7w:∀(hs:starEach Ar X.env=a2U:=ă)(S7),0][c7x:∀(ts:List Mv),0][c7y:∀(vs:π)(c67),0][c7z:∀(hg)(ht)(he:∀ cells C s H fp,PE ė elt te),0][c7A:∀(I:Rv s.heap it a lT i es.size ep)(c69)(ht:∃ o c,s.heap.get? tp=!o/\o.data=.seq (ps.map λ(j:Nat)=>rawInt j).toArray c),0][c7B:∀(pa)(slot)(Yn)(hm:Za X id r)(ho:PE X o to),0][c7C:∀(F:PY K x ğ st f fd),0][c7D:∀{R:Hp->V->α->Prop}(h:Uw K R k)(hu:X.A.units+(k+1)<cLine)(hK),0][c7E:∀(el)(he:∀ b∈el,b<s.heap.objs.size)(cl),0][c7F:∀(hg:Gl X x)(hm:X.mg x=none),0][c7G:∀(c:A.handled=none\/∃ ea,A.handled=!.ref ea/\Ox s.heap ea),0][c7H:∀(hn:x≠"__name__":=ö),0][c7I:∀(hh:Ca A s.heap s.heap.objs.size)(ht:IsTup s.heap t items),0][c7J:∀(hg:Gl X "range")(hm:X.mg "range"=none),0][c7K:∀{xs:List α}{u h:α->D}(hi:ri ε FO)(hl:xs.length<=1000)(k:∀ x∈xs,∃ l,zX n (u x) l/\re yw (h x)),0][c7L:∀(C:Addr),0][c7M:∀(h0:vs[0]?=!a0)(h:∀ h',Heap.LeftW base ź e oe.cls a0 s.heap h'->Mf h' e od->Q () { s with heap:=h' }),0][c7N:∀(S:Sd F σ H ε),0][c7O:∀(hQ:∀ h',Heap.FlyingW base l e cls a0 h'->s.heap.UpToSlots h'->Mf h' e od->Q () { s with heap:=h' }),0][c7P:∀(k:∀ b u,h.get? b=!u->h'.get? b=!u),0][c7Q:∀{P:É}{w:World}{K:Ψ},0][c7R:∀(σ:St)(G:Hp),0][c7S:∀{st:Stmt}{k:Nat}(F:Nc K x ğ st f fd)(S:au N ps zV),0][c7T:∀(ha:ra ε tV)(hb:rb ε AA),0][c7U:∀(W:WN S "h" ord R),0][c7V:∀(ha:PA X vh t),0][c7W:∀(US)(hl:s.heap.FunFrames base ź)(hf:env.frame=!L)(SY)(ht:s.heap.TracedW base e cls a0)(Xo)(Yw),0][c7X:∀(h:LN S ord R),0][c7Y:∀(h:Ux CE H G0 ks LA MT m es L N0 G),0][c7Z:∀(I:b84 p m ç ê ord n T)(G),0][c70:∀(hn:(assignEach es X.env).length=n:=ă)(U5:(assignEach es X.env).findIdx? (·.1)=none:=ă),0][c71:∀(ε:En)(d:D),0][c72:∀(ha:PA X vh sP),0][c73:∀{x ğ:Str}{st:Stmt},0][c74:∀{K:Ψ}{C:Addr}{ğ:Str}{st:Stmt}{f:Addr}{oc:Value}{od an:ψ}{O4:ω}{kV doc pm LR ct:Value},0][c75:∀{α:Type}{P:List α->Prop},0][c76:∀(p:Int)(mixed:Ξ)(A:List Ask)(s:Ask->Int->Int),0][c77:∀(p:Int)(m:Nat)(ç:Θ)(ê:List MB)(ord:List Nf),0][c78:∀(h:Heap),0][c79:∀(re:Rx)(ε:Ev),0][c8a:∀(σ:St)(H:Hp),0][c8b:∀(x:Qk s.heap d es ep),0][c8c:∀{ps:List (κ×Value)},0][c8d:∀(xs)(I:Ö)(h0:I 0 ε)(hl),0][c8e:∀(Q:VK)(x:V)(H1:Hp),0][c8f:∀(x:V)(y:V)(c67),0][c8g:∀(n)(hc)(S:bM X scope mM js N'),0][c8h:∀(ht:PG X tg g)(hg:YN g q)(hb:SE X ss rb)(hs),0][c8i:∀(hl:nm.length<=1000)(ht:∀ x∈nm,∀ v H1 (Q:VK),DR H1 (u x) v->a2H->te b2s H1 Q),0][c8j:∀{as bs:List α}(hK:X.K=K)(I)(r1)(r2)(p1:Paired (R H) vs as)(p2:Paired (R H) ws bs),0][c8k:∀(v0 vx mv mx:V)(fa lc rb ad pd:Addr)(m:Nat)(Wb:ξ)(MT N0:υ)(ê:List Mk.MB)(k:Int),0][c8l:∀(hc:∀ cells C s H fp,Cc ė)(S:bM X scope nT js N')(hi:xI Cc X tg iter wi)(c7z),0][c8m:∀(F:Nc Bx.K "plan_for" "plan_for" xg f fd),0][c8n:∀(hN)(hi:X.N[i]?=!x)(hx),0][c8o:∀{kindOf:Str->Option NameKind},0][c8p:∀(ts:List (T ν))(U:Int->Bool),0][c8q:∀(he:H ea=!fh ea cls od),0][c8r:∀{tb:TS}{D:Ends}(Pv)(h0)(hl:∀ i σ H,i<=xs.length->Pv i σ H->Ma K H a xs),0][c8s:∀(h:Uw X.K R k)(hu:X.A.units+(k+1)<cLine),0][c8t:∀(T:a6E Bx.mg),0][c8u:∀(F:Flow ts U h g v),0][c8v:∀(T:a7e Bx.mg),0][c8w:∀(mu)(he:e=x\/H e=!.own x)(k:∀ b u,b≠e->h.get? b=!u->h'.get? b=!u)(heo),0][c8x:∀(hx:X.env.scope.names.lookup x=!.local),0][c8y:∀(f:Str)(D:Ends)(σ:St)(y:V)(x:V)(H2:Hp),0][c8z:∀(X:K.In s.heap)(I:Vv s.heap x dx C mA),0][c8A:∀(K:LdS prog w T r d OK)(LY:OK s.heap)(S:Addr)(hi)(hSr:S≠r)(hSd:S≠d),0][c8B:∀(k:∀ σ H Q,tP re σ H Q->te σ H Q),0][c8C:∀(c:Cl)(ord:NS->Æ),0][c8D:∀(I)(e:H a=!.ins C dx fs)(c:ua X.K C),0][c8E:∀(OW)(he)(uz),0][c8F:∀(hl:PE X l tl),0][c8G:∀{knd:PySem.KeyKind prog w K}{d:Addr}{ep:Nat}{ķ:List (K×Value)}(hh),0][c8H:∀(a:W.nsIn K mainGlobals x=!some oh),0][c8I:∀(c7a){h:ν}{cs:Cm ν}(C:Ou ts U h cs),0][c8J:∀(F:Mq X.prog X.w X.K X.mg X.base (RX X.prog X.w) k f fd ps sp)(hr),0][c8K:∀(hp:a7E K C=true)(ht:takerIn K C name=!none)(hh:hasDictIn K C=true),0][c8L:∀(hg:Gl X x),0][c8M:∀(l:fs.lookup f=!v)(h:∀ u s',Inv X ñ σ H s'->ue v u->Q u s'),0][c8N:∀{st:Stmt}{k:Nat}(c7C)(S:au N ps zV),0][c8O:∀(hg:Gl X "zip")(hm:X.mg "zip"=none),0][c8P:∀(h:F a=!o)(k:WR o ķ)(k'),0][c8Q:∀{l:List α},0][c8R:∀(hc:ç[c]?=!ks),0][c8S:∀(he:PE X o ta)(D:Dm X.prog X.w X.K X.mg X.base k C m ps sp)(hr),0][c8T:∀(q:∀ h',Heap.ExtBut it s.heap h'->Q none { s with heap:=h' }),0][c8U:∀(ok:∀ f fd,PY Bx.K "__init__" ğ st f fd->SR NP k f fd ps sp),0][c8V:∀(x:Ca A h it)(k:∀ ea o,ea≠it->h.get? ea=!o->h'.get? ea=!o),0][c8W:∀(R:It->Ù)(vs:π)(H1:Hp),0][c8X:∀(p:ν->Bool),0][c8Y:∀(p)(mixed:Ξ)(A)(s:Ask->Int->Int),0][c8Z:∀(ha:a<ř.length),0][c80:∀(he:PE X e te),0][c81:∀(hu:A.units+1<cLine)(I),0][c82:∀(hu)(ho:PE X o td)(hi:PE X i ty),0][c83:∀(r:KV ķ vs)(k:κ),0][c84:∀(c7y)(E:XK),0][c85:∀(i)(hN:X.N[i]?=!x:=ă)(hv:F6 X.env.scope x:=by first|exact Or.inl rfl|exact Or.inr (Or.inl rfl)|exact Or.inr (Or.inr rfl))(hd)(Tr),0][c86:∀(ok:Po P w H h),0][c87:∀(len:∀ vs H Q E,sp vs H Q E->vs.length=ps.length:=by intro _ _ _ _ h;first|(cases h;subst_vars;rfl;done)|repeat first|(obtain⟨rfl,_⟩:=h;rfl;done)|obtain⟨_,h⟩:=h),0][c88:∀{as:List α}(r:A8 vs its)(p:Paired (R H) vs as){a:α},0][c89:∀(he:PE X o ta)(c:ua X.K C)(hm:zQ X.K C m f)(F)(hr)(c66),0][c9a:∀(K:Ψ)(mg:Ω),0][c9b:∀(i:W.isFn K oh=true),0][c9c:∀{K:Frag}(X:K.In s.heap)(hx:s.heap.get? x=!ox)(V6)(Rk),0][c9d:∀(OW)(U5)(uz:(backTo MV b2d).any (·.1)=false:=ă)(c68),0][c9e:∀(h:PS X st nE)(k:∀ σ H Q,tN re σ H Q->te σ H Q),0][c9f:∀{tg:Expr}{er:ψ}(c7Q)(it d:Addr)(o){es:Ò}{ep:Nat}(ed),0][c9g:∀(hs:swapsWith e none pos.line X.env=pure false:=ă),0][c9h:∀(x:Po P w H h),0][c9i:∀(hc:Ms X b2H r)(c7F)(hv:bootBuiltins x=!.builtin id),0][c9j:∀(hc)(S:bM X scope nT js N')(hi:PI X tg iter wi)(c7z),0][c9k:∀(hm:s.heap.DictAt knd d ķ ep)(hx:ķ[i]?=none)(hQ),0][c9l:∀{f:α->vm}{g:α->D},0][c9m:∀(p:Int)(t:Θ)(m:Nat),0][c9n:∀(l:K.lookup f=some b9l)(c)(k:W.keepIn K oh=true),0][c9o:∀(ha:PA X [e] sP)(hs:starEach [e] X.env=[Ŋ]:=ă),0][c9p:∀(W:Qo ts x ws y),0][c9q:∀(D:Dk X.prog X.w X.K X.mg X.base k x C ps sp)(c7n),0][c9r:∀(I:Rv s.heap it a (rawInt slot) i es.size ep)(c69),0][c9s:∀(R:Hp->V->α->Prop),0][c9t:∀(hh:A.handled=none),0][c9u:∀(hg:Gl X "enumerate")(hm:X.mg "enumerate"=none),0][c9v:∀(hp:0<p),0][c9w:∀(h:DR F d v),0][c9x:∀(L:List (Int×Ask)),0][c9y:∀(hP)(S:Mx.Sh p m t),0][c9z:∀(hc:Ms X TW r)(c7F)(hv:bootBuiltins x=!.type T),0][c9A:∀(hu)(ha)(hb)(hm:behindInMarks .In b=false:=Ą),0][c9B:∀(I)(k:∀ b u,s.heap.get? b=!u->h'.get? b=!u),0][c9C:∀(W:St->XK),0][c9D:∀(hb:VX w=false)(hd:a6d=false)(hg:BK t true),0][c9E:∀(ř)(msg)(fo),0][c9F:∀(C:Ou ts U h c),0][c9G:∀(nd:(R.map (·.1)).Nodup),0][c9H:∀(c73){ps:η}{sp:Sp}{k:Nat},0][c9I:∀(x:Mc P w H h a o),0][c9J:∀(k:Ul f r)(ha)(hb),0][c9K:∀(r:List V->Hp->VK->Prop),0][c9L:∀(r:V->Option Int->Option Int->Hp->VK->Prop),0][c9M:∀(h:P1 prog w s.heap a S),0][c9N:∀(hf:t.fits es.size=true),0][c9O:∀(hd:∀ σ H,Pv xs.length σ H->D.nx σ H),0][c9P:∀(c7a){V:Int->Bool},0][c9Q:∀(hx:items[i]?=none)(hQ),0][c9R:∀(ha:PT X a tA),0][c9S:∀(I)(r:A8 vs us),0][c9T:∀(I:s.heap.IsKeyIter it d i es.size ep)(c8b),0][c9U:∀(e:gR H H1),0][c9V:∀(hb:S.length<scanBound),0][c9W:∀(E)(hh:h∈nm),0][c9X:∀(h:∀ M'∈ê,M'.2.flatten.Nodup)(k:Int),0][c9Y:∀(CE:Addr),0][c9Z:∀(hc:PT X c tc)(ha:Qe X a t)(hb:Qe X b u),0][c90:∀(K:Ψ)(x ğ:Str)(st:Stmt)(f:Addr)(fd:È),0][c91:∀(h:Uw K R k),0][c92:∀(c:Cl)(H:Hp),0][c93:∀(hp:OJ p=true)(h1:0<r)(h2:r≠1)(h3:r<p),0][c94:∀{TI TO:Addr},0][c95:∀(q:∀ x G',gR G G'->DR b7I d x->Q x G'),0][c96:∀(Cs:Addr->Prop)(m:Str),0][c97:∀(a:W.findIn K uf "__init__"=!some oh),0][c98:∀(hr:∀ b:Heap,Mg #[b,none] k callerA),0][c99:∀{ws:List (T ν)},0][d0a:∀(hi:PI X tg iter b9Y),0][d0b:∀(F:Nc K x ğ st f fd),0][d0c:∀(ps:List (κ×Value)),0][d0d:∀(S:NS)(ns:η),0][d0e:∀(U:Ξ)(k:Int),0][d0f:∀(ht:t∈S.LK),0][d0g:∀(ho)(c7b)(hm:behindInMarks op b=false),0][d0h:∀(F:Mq P w K mg base CX k f fd ps sp),0][d0i:∀(hd:H d=!u)(h1:∀ b,u≠.own b)(h2),0][d0j:∀(uv:u<v)(hx:nl[u]?=!x)(hy:nl[v]?=!y),0][d0k:∀(I)(h:Ma X.K H a xs),0][d0l:∀(r:Mg base k A),0][d0m:∀(hu:A.units+k<cLine),0][d0n:∀(e:H a=!.dK ķ),0][d0o:∀(e:gR F F'),0][d0p:∀(k:∀ o,h.get? a=!o->h'.get? a=!o),0][d0q:∀(c73){ps:η}{k:Nat}{r:Rs}{R:Ä}(N:η),0][d0r:∀{p:ν->Bool}{t:T ν},0][d0s:∀{s:Option (Int×ν)},0][d0t:∀(h:k∈R.map (·.1)),0][d0u:∀(hx:ord[n]?=!x),0][d0v:∀(found:List Δ),0][d0w:∀(R:List D->Er->Prop),0][d0x:∀(R:List LT),0][d0y:∀(pz:S.LO.length<=20),0][d0z:∀(M)(F)(c7n)(c8L)(hm:X.mg x=!.ref C)(c66),0][d0A:∀(k:∀ E σ H,t' E σ H->t E σ H),0][d0B:∀(r:ue v u),0][d0C:∀(h:Q v { s with toks:=s.toks+1 }),0][d0D:∀{α:Type},0][d0E:∀{st:Stmt},0][d0F:∀(a:W.findIn K uf m=!some oh)(c9b),0][d0G:∀(ha:ra ε Zc)(hb:rb ε (.str y)),0][d0H:∀(c:Cm ν),0][d0I:∀{c:Cm ν},0][d0J:∀{nm:List α}{kf:α->vm}{u:α->D},0][d0K:∀{CE:Addr}{ê:List Mk.MB}{T:Mk.T7},0][d0L:∀(ps:List (Str×Kd)),0][d0M:∀(c8z)(hg:W.plainGet K C name=true),0][d0N:∀(h:Inv p a r m)(hp:2<=p)(hr:0<r),0][d0O:∀(h:Ok p m P F),0][d0P:∀{p:κ×V}{r:List (κ×V)}{k:κ},0][d0Q:∀(c7y)(x3:XK),0][d0R:∀(R:RR p w m ř ps),0][d0S:∀(i:Nat)(c79),0][d0T:∀(h:ķ.map (·.1)=ð.map (·.1)),0][d0U:∀(fo)(ms)(many:Nat),0][d0V:∀{t:T ν}{x z:ν}(h:Qq t x U=!z),0][d0W:∀(R:Mk.Ask->Mk.Qu)(B:Mk.Ask->Θ),0][d0X:∀(R:List D->List (Str×D)->Prop),0][d0Y:∀(lo hi:Ô),0][d0Z:∀(US)(hf:env.frame=!L)(SY)(hfl),0][d00:∀(e:gR H G),0][d01:∀(c92)(fi:Int)(a Ln n dp dt:Addr),0][d02:∀(hs:Heap.SameBut a s.heap h'),0][d03:∀{g:TG}{tb:TS}{D:Ends}(Pv)(h0),0][d04:∀(P:É)(w:World)(c9a)(base:mL),0][d05:∀{id:String},0][d06:∀(l:List α),0][d07:∀(cells:Ã)(C)(s:Ê)(H)(fp:υ),0][d08:∀(K)(x ğ:Str)(st),0][d09:∀(x:Mf h e od),0][d1a:∀(O:CM X),0][d1b:∀(K:Frag),0][d1c:∀(hs:c42 b:=by exact λ_ _=>rfl),0][d1d:∀(O:Cl.Ok K c),0][d1e:∀(S:Sh p w ř),0][d1f:∀(q:Õ)(rb:Rs),0][d1g:∀(n:Bool)(x y d:D),0][d1h:∀{f:α->Int},0][d1i:∀(ε:Ev)(C:Er),0][d1j:∀(hf:∀ k,zx fo k=decide F5),0][d1k:∀(G:R9 m p yZ pl),0][d1l:∀(K:Ψ)(x:V)(lo:Ô)(hi:Ô)(c67),0][d1m:∀(c7Q){elts:Ì}{x1:Nat}{QG:Pos},0][d1n:∀{as bs:List α}(hK:X.K=K)(I),0][d1o:∀(p1:Rd F1 a Cv)(p2)(p3)(fz),0][d1p:∀(h:(l.map f).Nodup){g:α->D},0][d1q:∀{M:Model}{A:Ë}{E:ρ}{s:Ê},0][d1r:∀{l:W.OpenLaw}{K:Params->Ψ},0][d1s:∀{x1:Nat}(c8O)(ha:PA X Ar ta),0][d1t:∀(hd:H d=!.dK ķ),0][d1u:∀(hn:n<=sizeLine),0][d1v:∀(h:∀ i j,eY xq=true:=by intro _ _;rfl),0][d1w:∀{ð:ι}(h:F a=!.frz ob Cv),0][d1x:∀(I:Ú)(c:α->Bool)(h:α->D),0][d1y:∀(T:List Int×Ξ),0][d1z:∀(e:Nat)(ways:Θ),0][d1A:∀(W)(hs:∀ t∈ts,t∈S.LK),0][d1B:∀(e1:List Mk.MB)(L:List b7J),0][d1C:∀(hl:s.heap.IsList l items),0][d1D:∀(t:Θ)(v:Ξ),0][d1E:∀(S:Sh p m t),0][d1F:∀(ms:List Nf),0][d1G:∀(T:c3p Bx.mg),0][d1H:∀(c7F)(hv:bootBuiltins x=!u),0][d1I:∀(ho:NK X (binaryOp op) r),0][d1J:∀(hh:W.hasDictIn K C=true),0][d1K:∀(outer)(P)(w)(H)(s:Ê)(Q),0][d1L:∀(sp)(dvs)(E:XK),0][d1M:∀(T:String),0][d1N:∀{l:OpenLaw}(hn:l.most=!n),0][d1O:∀(nT)(js)(g:TG)(tt:TT)(te),0][d1P:∀(ķ)(k:κ),0][d1Q:∀(ha:PT X a uD),0][d1R:∀(he:PE X o r9),0][d1S:∀(h:Qq t x U=!y),0][d1T:∀(T:Ha Bx.mg)(TI:a18 Bx.K),0][d1U:∀(W)(hP)(hO)(MW),0][d1V:∀(ê:List Mk.MB),0][d1W:∀(hz:ys.length<=sizeLine),0][d1X:∀(c7t)(x)(ps),0][d1Y:∀(h:lead.length=r.length),0][d1Z:∀(rs:Á)(c71),0][d10:∀(h:¬ k∈cs.map (·.1)),0][d11:∀(i:Nat)(c7R),0][d12:∀(X)(ñ)(σ),0][d13:∀(ha:PE X a ta),0][d14:∀(vs:π)(H1:Hp),0][d15:∀(d0E){kV:Value},0][d16:∀(hx:b1Y X W),0][d17:∀(hN)(hi:X.N[i]?=!n)(hk),0][d18:∀(I)(hd:H d=!.frz o Cv),0][d19:∀(c9v)(h:O3 p r),0][d2a:∀(p)(bk)(ř:Θ),0][d2b:∀(hp:1<p),0][d2c:∀(hP:OJ p=true),0][d2d:∀(ra rb:Rx)(c71),0][d2e:∀(h:PE X e tU),0][d2f:∀(ha)(hb),0][d2g:∀(ð:ι)(y:vm),0][d2h:∀(xs:Array Nat),0][d2i:∀(h:i<t.length),0][d2j:∀(c7a){h:ν}(d0I),0][d2k:∀(ts)(h:Option ν)(g:ν),0][d2l:∀(e:gR G G'),0][d2m:∀(m:Nat)(p:Int),0][d2n:∀(r:Paired F l₁ l₂),0][d2o:∀(c7P)(hp:h.objs.size<=a),0][d2p:∀(hN)(SW:X.N[i]?=!x)(c8x),0][d2q:∀{R:Hp->V->α->Prop}(c8s),0][d2r:∀(hd:o.data=.fields vs),0][d2s:∀(p)(P:Θ)(w:Nat)(t:Ξ),0][d2t:∀(ht:¬ p ∣ dot Ŝ t),0][d2u:∀(p:Int)(A:List Mk.Ask),0][d2v:∀(c8m)(c8t)(MH)(Na)(Mh)(LJ),0][d2w:∀(h:SH CE G MT N0 ê T),0][d2x:∀(F:CC Bx.K x ğ st)(c7d),0][d2y:by intro ñ s σ H Q I h][d2z:by let sub:Looks Ē s.heap c19 true:=I.type.andThen<|looks_mroIn X (by unfold mroIn;rw[hc,Option.bind_some,if_neg (by rw[ne];decide),yr _ ho]);show Li SF.slot.plain SF.entry (@check_slot _ _ _ s "object.__setattr__" "object" "__setattr__" _ c2a [] _ SF.kind SF.split sub (SF.args _ _ v) ?_);let#[attr,ha,hr]:=Option.bind_eq_some_iff.mp ht;let hm:Looks Ē s.heap (mroOf<|.ref C) cd.mro:=(looks_clsIn X hc).andThen .now][d2A:by change wpAny _ _ a9u _ _ s;show Hk a4Y;show Hk a4Y;show Hk b67;simp only[Il,hx];show Hk<|Kw (Hk (IM ho hd (by simp) ?_));show dh (hh.at λea o ne q=>(HY ..).extBut ea o ne q) fun h' e hk ⟨o,ho,hc⟩=>Hk Du][d2B:by show Hk a9A;show Hk b2L;unfold EntryCells.newEntry newFields;show Hk (Jc ?_<|uz.sizeOk5 _ _ _ _ _);let he₁:h₁.get? e=some oe:=(hs₁.2.1 e Xq).trans he;let kb₁:base.StaysIn h₁:=λb o Ro=>(hs₁.2.1 b λhm=>by rw[(hl.mem hm).1]at Ro;cases Ro).trans<|Xo b o Ro;let he₂:=Hn (h:=h₁) { cls:=.type "traceback",dict:=none,data:=.fields (sA++Ħ).toArray } he₁][d2C:by show callType_codes (Q₁:=λobj s₁=>obj=.ref s.heap.objs.size/\s₁={ s with heap:=s.heap.push { cls:=.type "dict",data:=.dict [].toArray } }) F.kt_called_dict b6C F.entry_dict_init b6b ?_;rintro obj s₁ ⟨rfl,rfl⟩;let Pp:(s.heap.push { cls:=.type "dict",data:=.dict [].toArray }).DictOf knd s.heap.objs.size []:=Heap.DictOf.new s.heap][d2D:by intro ñ s σ H xs us Q I r h][d2E:by intro ñ s σ H x y v u Q I rx ry h][d2F:by subst ex;obtain rfl:u=Value.ref a:=rx][d2G:by show Hk (Jl<|Ix hTy F.slot_zip_next (IF F.slot_zip_next hTy F.entry_zip_next ?_<|F.args_zip_next_1 _));change wpAny _ _ (field _ 2 >>= _) _ _ _;show Hk (IR hz rfl rfl ?_);show Hk (IR hz rfl rfl ?_);show Hk (JY WK rfl ?_);show Hk (vH hz hT λh₁ hz₁ hs₁=>?_);show Hk ?_][d2H:by apply Hk;show Hr ?_;apply Hk;show Kc u1 u3 ?_;apply Hk;show a9v g1 g3 hf ?_;rw[if_neg<|by simp]][d2I:by intro ñ s σ H D I h][d2J:by let l1:=r1.length;let l2:=r2.length;let l3:=Paired.length h2;let l4:=Paired.length h4][d2K:by intro X hP hw hK hc i ñ s σ H E I hf st hg;subst hP hw hK][d2L:by rw[HL,HL]at h;rw[HL]at q1;injection h with h1 h2;injection q1 with q1 Ye][d2M:by let#[c4g]:=id I;let T:s.TypeIs ĸ "set_iterator":=b3S][d2N:by subst e;let#[CY]:=st;show#[o,e,λv z=>by rw[d]at z;cases z]][d2O:by repeat (any_goals (first|assumption|wp_step))][d2P:by let#[x,ex,rx]:=r1.at' (i:=j) (u:=its[j]) Ĕ;let#[y,ey,ry]:=r2.at' (i:=j) (u:=NI[j]) Ĕ;let#[a,ea,ra]:=Paired.at p1 ex;let#[b,eb,rb]:=Paired.at p2 ey][d2Q:by let#[a,us,1]:=List.exists_cons_of_length_eq_add_one hl][d2R:by show Hk<|IL (IF slot_list_sort ⟨_,XS,rfl⟩ entry_list_sort (list_sort_tree XS hI hlen λout PH a1 a2 a3=>F8)<|args_list_sort _);show Hr F8][d2S:by show hZ _ _ Bq][d2T:by rw[a7P<|Ne.symm hj]at e2;let#[u',r',q]:=hl j y v' e1 e2 e3;show#[u',r',?_]][d2U:by show False.elim hq][d2V:by apply Hk;apply Jl;show Ix T Nh a6T;ext d2H;apply Hk][d2W:by let hf:=I1.LY.fresh<|Hz _;show⟨.ref s1.heap.objs.size,upd H1 s1.heap.objs.size _,I1.laid (λb u e=>Hn _ e) nY ?_,rfl,q.at hf⟩][d2X:by ext d2y;show Je Ez;show Kk (h₀:=X.base) I.ok.mod.Wa hk a2A he uz][d2Y:by let Vn:=((My.M3 p).mp hP).1][d2Z:by show Hk<|Jl b3O;show Hk<|Hr (Hk tS);show Hk<|Jz T b7S;show Hk<|Hr c2b;rw[if_neg<|by simp];show Hk<|Hr c2c;rw[if_neg<|by simp]][d20:by let#[w1,e1,r1]:=rv.get hb;rw[hv]at e1;cases e1;obtain rfl:v=Value.bool bs[i]:=r1;dsimp only at hQ;rw[Hq,Hm hi]at hQ;show JK hQ][d21:by let#[c6u,q]:=q9;show b40 (X:=X.NJ ea ñ) I9 hN hi hk λs10 YR=>a9V][d22:by show#[λb o Ro=>keep b o (λq=>by rw[q,Yw]at Ro;cases Ro)<|kb₁ b o Ro,hl.of_keeps λb o hb PN=>?_,?_,λb o hb PN=>?_]][d23:by let e:b=it:=by simpa using hb][d24:by apply Hk;show Kt g1 g3 hf ?_;apply Hk;apply Hk;apply Ky;show Hr ?_][d25:by let#[j,Ab,h5]:=a9o he;let#[w,ew,TZ]:=r.get h2;let hl:=r.length;let hn:=pE;let fin:EP X ñ σ Q w s:=#[z,H,I,TZ,q]][d26:by let#[t,1]:=rx;let#[t',1]:=ry][d27:by intro f fd F][d28:by show c1n lk Tr S len λA outer s H vs Q E hr VQ=>?_;let#[t,h,q]:=OX LR A outer s H vs Q E hr VQ;show#[t,h.Vg,q]][d29:by show absurd (show false=true from hs) Ig][d3a:by intro ñ s σ H R I h][d3b:by intro ñ s σ H x y v u Q I rx ry hw;let#[as,bs,ha,hb,q]:=hw;let#[wZ]:=ha;let#[p',ws,1,zh]:=hb][d3c:by rw[osa_eq,refuse_eq];show Hk<|Hk b4b;rw[ly _ _ ho];show Hr<|Hk a6D;let#[cd2,hc2,Sx]:=any_some hh][d3d:by let S2:=S1.NB p1 Ļ<|.inr #[o,1];let eF:NB a _ F1 a=!(.frz o<|.dK ķ):=cA (by rw[p1];show nofun)][d3e:by injection hb with hb;subst hb][d3f:by change wpAny _ _ b5M _ _ s;show Hk c2e;show dh a9B fun h' e hk ⟨o,ho,hc⟩=>Hk Du;show Hr Ī][d3g:by intro value slice ñ s σ H x y v u Q I rx ry h hs][d3h:by let UU:h₁.objs.size≠e:=J9<|HG he₁;let hd₃:=Iy hd Ğ;let he₃:=Io nZ he₂<|IY hd₃][d3i:by show wpAny_handleBy_cons a9W (by intro q;cases q);show (PySem.W.exm_one J5.Oh LT w1).here ?_][d3j:by cases ry;let#[c5j]:=I.list h1;let#[wB]:=I.list h3;ext d2J;by_cases hl:its.length=NI.length][d3k:by let#[v,1,q]:=h;show#[_,ak<|br b5d,q]][d3l:by show JP PyProof.Rows.F.entry_set_update_loop ?_;rw[Kx b5F _];change wpAny _ A.in1 b7q _ _ s;apply Hk][d3m:by rw[if_neg (by rw[hsz];simp)];show Hk FM;show Hk (Lv Uv hdd ?_);rw[if_neg<|by simp];show Hr ?_][d3n:by let Ze:∀ b o,X.s₀.heap.get? b=!o->b≠X.env.locals:=λb o e=>Ib<|Ip (HG e) I.ok.above][d3o:by show#[c3R];rintro i m σ H ⟨rfl,hi,p⟩;let q:=hl i σ H hi p;by_cases NU:i<xs.length][d3p:by let h2:=((My.M3 p).mp hP).1][d3q:by show aA λZ hZ=>?_;intro n dx hn UT nd;show c5Y hn UT λdp dt H2 p1 p2 e2 N2=>?_;ext d2S][d3r:by let nel:∀ x,s.heap.objs.size<=x->x∉el:=λx h z=>absurd (he x z)<|Nat.not_lt.mpr h][d3s:by let⟨t,rfl⟩:=rx][d3t:by let⟨_,rfl⟩:=rx;let#[_,1]:=ry][d3u:by rw[a9 (λz=>by rw[z,e]at Pq;cases Pq),a9 (λz=>by rw[z,dn]at Pq;cases Pq)];show Pq][d3v:by show call_function_entry kind_sorted plain_sorted entry_sorted (args_sorted1 _) ?_][d3w:by let e:b=s1.heap.objs.size:=by simpa using hb][d3x:by rw[e]at e';cases e';rw[d]at d';injection d' with d1 _;let:its=its':=by simp_all][d3y:by show c1n lk Tr S len λA outer s H vs Q E hr VQ=>OX LR A outer s H vs Q E hr VQ][d3z:by let dN:∀ {G:Hp},G Ln=!(.lst<|nl.map V.str)->DR G (aQ nl) (.ref Ln):=λh=>b6o][d3A:by let⟨t,rfl⟩:=r;rfl][d3B:by rw[old b (by rw[q];show λz=>nomatch z) (λz=>by rw[z,e]at q;cases q)];show q][d3C:by let#[dx,h1]:=id N.ins][d3D:by cases h3;let qa:=λ{H':Hp} (s:gR (grow F H H1) H')=>Ma.of (K:=X.K)<|s _ _ ha][d3E:by let#[z,z0,z1,z2]:=a1H hP hp a.toNat a 1 nY h0 h1<|SD hp hf;rw[XE z0 z1 z2]][d3F:by let#[zG]:=J'][d3G:by let⟨σ',H',I,q⟩:=h;show#[GH,I.NH,q]][d3H:by show False.elim S8][d3I:by let#[sl,hs]:=hs₁.2.2 b o hb][d3J:by intro _ y1';let#[_,_,e,yi]:=y1';subst e][d3K:by show#[.bl _,H,I.kept λb o e=>hk b o wH<|Hn _ e,1,q];show absurd sv ġ][d3L:by let ih:=ih';unfold Xd at ih ⊢;rw[HL,HL,Lg,ih,Jk];change b72=true ↔ _][d3M:by rw[Iu]at he;subst he][d3N:by let#[c5A]:=df r][d3O:by intro R W hn I h;rcases List.eq_nil_or_concat W with rfl|⟨W,nm,rfl⟩][d3P:by let#[kk,yi]:=hb T t kV doc pm an LR ct us ġ;show c3k rfl b65 rfl h1 h2][d3Q:by cases this][d3R:by intro X A ñ s σ H x y v u as bs hK I rx ry ha hb hu;by_cases hxy:x=y][d3S:by rw[c45 (by rw[h.len];show hi)];let#[a,b,na,hb,hd,hz]:=c4u hP h hw ht hi][d3T:by grind [List.flatMap_append,List.zipIdx_append,List.take_append_drop]][d3U:by show Hk ?_][d3V:by let⟨t,e⟩:=r;cases e;rfl][d3W:by intro ñ s σ H x vs v us Q I rx rv h][d3X:by let T:=I.typeIs;let#[c4g]:=id I;let#[o,a,_,b]:=x;ext d2Z;show Hr ?_][d3Y:by let#[c6b]:=Ht.mp hw][d3Z:by let#[c5z,LY,r,q]:=h;let#[hh,g,d,t,os']:=s';obtain rfl:os'=s.os:=os][d30:by let#[c6k,n3]:=q3;let#[m',hm,w3]:=hN σ3 H3 n3;show#[m',hm,c6k,w3]][d31:by show call_zip_2 p1.isList p2.isList λh' a1 a2 a3 a4 a5 a6 a7=>?_][d32:by let#[o,he]:=J';subst he][d33:by intro ñ s σ H y x iv u Q I ry rx h;let#[a,ov,ex,g,q]:=h;ext d2F][d34:by rw[if_pos hg,hg];simp only[List.lookup,beq_self_eq_true];show ry][d35:by let#[xE]:=a2W ha hs i #[0]][d36:by rw[show its.toArray.any Cy=its.any Cy by simp,Fn0 r fs];show q][d37:by rw[Hl];show Im _ _][d38:by let#[o',e1]:=I.base.there b o e hx][d39:by simp only[sliceBounds,HT.Te,Option.getD_none];by_cases h:i<0][d4a:by let#[kh,hd]:=id hit][d4b:by let#[b,hb,e]:=HZ.mp hr;show (looks_takesIn X hb).andThen ?_][d4c:by let#[c5T]:=g;let#[uC]:=tH I.LY e][d4d:by let l2:=fL.r (n:=true) (as:=[]) (bs:=[]);rw[Hu rfl]at l1 l2][d4e:by show Hr ?_][d4f:by intro wh ñ s σ H Q I h][d4g:by simp only[HK,Iz,Ke]at hc][d4h:by let sb:scanBound=4096:=rfl;let#[el,he,cl]:=Ca.el<|I.caN hc][d4i:by let#[w',z]:=I.cell y c e;show#[w',z.sameBut hs<|XA y c e]][d4j:by ext d2E;let#[i,j,2,q]:=h;ext d26][d4k:by apply Hk;apply Hk][d4l:by let h2:=((My.M3 p).mp h.prime).1][d4m:by rw[show its.toArray.any _=its.any Cy by simp,Fn0 r fs];show q][d4n:by let#[og,F7,ea,l,q]:=J';ext d2F;show b35 I1 ea c hm l ?_][d4o:by show Hk (Kc ho hd ?_);show Hk FM;show Hk (Kv Uv hdd ?_)][d4p:by subst hK;ext d2D;let#[p,bs,1,hq,q]:=h;let#[u,1,r1]:=df r][d4q:by by_cases c:i=j][d4r:by rw[g2];rcases b49 nd g3 FH with⟨_,z⟩|⟨l',r',z,_⟩][d4s:by let#[e,qp]:=I.pin p hp][d4t:by let#[c4M]:=st;let#[yN]:=I.list hx;let#[c6F]:=I.list hy][d4u:by rw[he]at ho;injection ho with ho;subst ho;show PN vs hd][d4v:by rw[a9 λz=>by simp_all]][d4w:by unfold leaving noteFrame;simp only[hf];show Hk<|Hk Gu][d4x:by rw[hd b (λz=>by rw[z,e]at this;cases this)];show this][d4y:by rw[Jq,h,Kn,Jo];simp[Nat.min_eq_left<|Km ((Ho.mp h).1)]][d4z:by let rd:=lt_int (ε:=a2o) (ra:=rV 2) (rb:=rV 7) rfl rfl][d4A:by rw[er];show Paired.QI a68 #[t,1,by rw[a9 tlc];show ht]][d4B:by let#[zw]:=b7v (A:=X.A.in1) h rfl I r1 r2 h2 h4 hl #[]][d4C:by show LI λt _=>?_;unfold Wy.without;rw[Bool.and_comm]][d4D:by let#[vs,sx]:=J'][d4E:by let nd:=Ii.mp nd][d4F:by let#[c5t]:=J';subst he][d4G:by rcases hX A with⟨rfl,_⟩|⟨VA,t',rfl,UP,e',A'⟩][d4H:by let#[c53]:=I.Vk hH][d4I:by cases r1;let#[c6o]:=I.list hq][d4J:by cases ry;let U8:p≠q:=λe=>hxy (by rw[e]);subst hK][d4K:by let#[kB]:=ox;subst V6 Rk Wk;show Hk<|Hr a6C;rw[Sx]][d4L:by constructor][d4M:by cases q;rw[hb];show#[_,V4,λg=>?_];by_cases hg:g=f][d4N:by let#[kv',e4,1]:=e3 ķ<|s _ _ h;rw[y]at e4;cases e4][d4O:by let e1:(ones m).getD i []=LL m i:=by simp[ones,hi]][d4P:by let#[xT,o,_,_,e,ex,_]:=I.LY p _ hk;show#[o,e,ex]][d4Q:by intro X A ñ s σ H x y v u a b _ I rx ry ha hb _][d4R:by let hb:(bs.map V.bl)[i]?=!V.bl bs[i]:=by simp_all][d4S:by let#[h2]:=z;let#[Pl,p,1]:=hx;rcases h2 with h2|_][d4T:by by_cases z:b=a][d4U:by apply Hk;show IM u1 u3 Ĕ ?_][d4V:by let#[u,de]:=y';ext d2L;let#[CI]:=ih h2<|Ye▸q3][d4W:by rw[hd c (λz=>by rw[z,e]at hc;cases hc)];show hc][d4X:by show hx ñ σ H s e s' I hq][d4Y:by rintro i m σ' H2 ⟨rfl,hi,⟨o,rfl⟩,e,hl⟩][d4Z:by show#[IW _<|by lia,IJ _ hp]][d40:by rw[if_neg c]][d41:by rwa [Hv]at this][d42:by rw[old b (λz=>by rw[z,ed]at q;cases q)];show q][d43:by rcases hq with hq|hq][d44:by rw[q]at this;ext d3Q][d45:by let Yy:=S1.le _ _ p1][d46:by cases q;let#[ob,_,_,yi,_]:=dd;show#[ob,h1,h2.2.1]][d47:by show HU b97 (by decide +kernel:1000<=sizeLine)][d48:by let#[w,ew]:=hW g hg;let#[Ng,c6t]:=a8p W.P4 O ew][d49:by let#[YH,Yx]:=id NG.ins;let#[kp,Wj,_]:=id NG.LO][d5a:by subst e;show I1.Ud nY NZ][d5b:by let#[Ai,r1,ty,q1]:=J';let#[yi]:=c3Y I1 r1 ty][d5c:by rw[z,ho]at ho';cases ho';rw[Sx]at hd;cases hd][d5d:by unfold cleared;simp only[]][d5e:by let Vn:2<=p:=((My.M3 p).mp hP).1;let MW:=S.MW][d5f:by intro ñ s σ H x y v u Q I rx ry ⟨hs,q⟩][d5g:by let#[lZ]:=PV.some_of (by rw[<- l];show r f)][d5h:by show JA W.kitx_dict I.Oh #[o,h1,h2.1] e Ĺ h][d5i:by rcases psk i q hq with⟨c,hq⟩|⟨c,rfl⟩][d5j:by let#[f1,f2]:=fz;rcases p1 with p1|⟨r,p1⟩][d5k:by apply Hk;ext d4e;show Jd tail fin λ_ _ q=>q][d5l:by rintro _ _ @⟨S,x,hl,hx⟩;show .nx a7p a2E][d5m:by show absurd (fx) Ig][d5n:by let hlen:=r'.length][d5o:by let#[sl',e2]:=slots b _ e1 hb;show#[sl',e2]][d5p:by show λz=>nomatch z][d5q:by simpa using this][d5r:by let M8:=O.fp'][d5s:by show HX.mpr b3l;rw[HH.mp RI]at e;rw[e]at hb][d5t:by let hj:=IB.mp hj][d5u:by let⟨σ7,H7,I7,n7⟩:=q7;show again I7 n7][d5v:by rw[if_pos h1]at h;let e:=Option.some.inj h][d5w:by cases ry;rw[Hu rfl];show SeqAt.EqAt.same _][d5x:by let z:=old b o e hb q;rcases hn with hn|hn][d5y:by rw[e]at this][d5z:by let#[o,Eu]:=x][d5A:by apply Hk;show wpAny_load h1 ?_;show Hr b2z][d5B:by rw[aR λz=>by rw[z,he]at n;cases n];show n][d5C:by rcases l with⟨hk,hm⟩|⟨hk,c,hc,VT⟩][d5D:by let⟨t,q⟩:=rx;cases q][d5E:by show JA W.kitx_list I.Oh #[_,h1,1] e Ĺ h][d5F:by let#[sl,e2]:=slots b o' e1 hb;show#[_,e2]][d5G:by show hQ h' s.toks λb o hb e=>eb b o Os e][d5H:by unfold fC;rw[a7c];intro ks hks k hk;rw[ck]][d5I:by let bl:(bD S).length=S.names.length:=Hl _][d5J:by rw[if_neg c]at h;cases h][d5K:by let⟨_,_,_,_,o,_,_,e,_⟩:=x;show#[_,e]][d5L:by show (I.LY b ob e).Nb b2x mD λ_ _ q=>q][d5M:by subst this][d5N:by rw[hz]at e;cases e][d5O:by let pm:=Nu (f:=λm:Nf=>m.1) (l:=LV S ns)][d5P:by let#[C8,e]:=b0h r s Xj C k hx;show#[c6U]][d5Q:by let#[w,_,e]:=Ht.mp z;let:=G.pos x<|Hs hx][d5R:by rw[HL,Ii]at nd;rcases HK.mp h with rfl|h][d5S:by let⟨σ',H',I',q⟩:=q][d5T:by subst ex;obtain rfl:ov=Value.ref ea:=rx][d5U:by rw[<- (rel.val k).To,<- l];show h _ Fn][d5V:by cases rx;let#[c39]:=b8t][d5W:by rcases HW.mp h with h|h][d5X:by rw[h]at hk;show Ir _ hk][d5Y:by let#[sl,e1]:=I.base.slot b o e n hb hx][d5Z:by simp only[Jn,Kj,Bool.not_eq_true']at q][d50:by have e':=e;injection e' with e';rw[e']][d51:by let:=q1 vs<|qa s;rw[x1]at this;ext d3Q][d52:by show#[c4P];ext d3U;show Hk b10;ext d4e][d53:by let⟨σ,H,I,q⟩:=h;show False.elim q][d54:by rw[z]at e;cases e][d55:by intro ñ s σ H Q I hw][d56:by ext d2I;show b5j a13 hs][d57:by show SeqAt.EqAt.of_refs U8 ?_;ext d2J][d58:by rw[z]at q;cases q][d59:by let hTy:s.TypeIs fT "zip":=#[_,hz,1]][d6a:by rintro _ _ @⟨S,hl⟩][d6b:by let#[Ui,Az,nd,ul,Fi,eW]:=J';subst he][d6c:by unfold P9;by_cases c:i=w\/M9 p ś t=0][d6d:by rcases h with⟨h1,h2⟩|⟨h1,h2⟩][d6e:by rw[F.len _ _ _ _ hq]at e;show e.symm][d6f:by cases rx;let#[t,1]:=ry][d6g:by ext d2D;let#[p,ys,1,hq,q]:=h;ext d3N][d6h:by intro F0 H0 F H σ ε l xs Q S h r q][d6i:by show absurd (Hu rfl) (Jh.mp hf r hr)][d6j:by show (HX.mp nd).2.2 x.1 z x.1 Ĕ rfl][d6k:by unfold grow at h;by_cases c:H b=none][d6l:by rw[if_pos rfl]][d6m:by show Hk FM][d6n:by let#[od,J,hl]:=I.look][d6o:by ext d2y;show W.methodCall_KW DO ht][d6p:by ext d3g;let#[p,xs,i,z,2,hq,he,q]:=h][d6q:by let#[zq]:=I.tuple hq][d6r:by ext d3e;show PN ts WI][d6s:by let e':¬ q.1=k:=λz=>e<|h1.trans z][d6t:by unfold without][d6u:by let#[yi]:=List.pairwise_cons.mp hp][d6v:by ext d2V;show JY t1 t2 ?_;dsimp only][d6w:by intro b hb;simp only[HK,Iz,Ke]at hb][d6x:by rw[Hu c1]at r1][d6y:by rw[Hl];show HU GD hp][d6z:by show hZ _ _ ?_][d6A:by rw[ih' λw hw=>h w<|HM _ hw];split][d6B:by ext d2E;let#[p,xs,1,hq,fx,fs,q]:=h][d6C:by ext d2D;let#[d,ķ,1,hd,q]:=h;ext d3N][d6D:by rcases hc with rfl|rfl|rfl|rfl|rfl][d6E:by let#[wZ]:=ha;let#[q,ws,e,zh]:=hb][d6F:by by_cases e:p.1=k][d6G:by let#[c6p]:=st;let#[yN]:=I.list hx][d6H:by intro _;show rfl][d6I:by intro F H σ ε ε' l xs Q S h r q][d6J:by rw[if_neg c]at q][d6K:by rw[show tb _=.lst qi from rfl,Hv]][d6L:by cases hx;let UN:=Qj _ _<|eT _ _ Zs][d6M:by ext d3a;show Mn b9c λv s1 J'=>?_][d6N:by show F.len _ _ _ _ h][d6O:by let#[Lq,q]:=hs;show False.elim q][d6P:by let#[zq]:=I.list hq][d6Q:by rw[a9<|zne c hc];show (hf c hc).1][d6R:by ext d3I;show#[sl,keep b _ b1X hs]][d6S:by let#[q',S8,Xj]:=Paired.at rel ekv][d6T:by rw[List.range'_succ]][d6U:by rw[show _=[] from h]][d6V:by unfold grow at q ⊢][d6W:by let Zy:=KV.length k1][d6X:by rw[List.getElem_take];rw[HF]at hi][d6Y:by let#[c35]:=h;ext d3C][d6Z:by ext d3N;obtain rfl:u=Value.ref p:=rx][d60:by rcases I.ok.VD with e|⟨e,hf⟩][d61:by rw[if_pos z]][d62:by ext d5z;ext d2V;show hn _ _ _ ?_][d63:by rw[if_pos c]][d64:by let p2:=((My.M3 p).mp G.prime).1][d65:by show#[_,e]][d66:by let#[tu]:=hf it Ĕ][d67:by let#[lg,DV]:=F.ex][d68:by simp only[HK,Iz,Ke,not_or]at hc][d69:by show#[QJ]][d7a:by rw[d];show (wz i' lead d2 hl).1][d7b:by unfold grow][d7c:by show Hk<|Hk (IL ?_)][d7d:by apply Hk;show Jc ?_][d7e:by show .inl rfl][d7f:by by_cases c:(Om p Ň m).length<m][d7g:by let#[r,hr,1]:=Ht.mp h;unfold lk][d7h:by ext d3C;let#[ķ,hd,hp]:=id N.LK][d7i:by rw[ix _ _ h1,ix _ _ h2];show uv][d7j:by let l1:=Oc.m (g:=D.str) (x:=nl)][d7k:by show hb wh ñ s1 σ H1 Q I1 q1][d7l:by rintro i m σ H ⟨rfl,hi,p⟩][d7m:by let#[c5k]:=id<|(I.LY ea _ e).1][d7n:by let MW:=N.fits.MW;let tz:=N.tz][d7o:by let#[od,es0,ep0,Uv,a4F]:=id WG][d7p:by rw[JF,Hw ne];show ih' nd.2 r h][d7q:by let hw:=hw;rw[e1]at hw;ext d3Y][d7r:by ext d2A;show Hr Ī][d7s:by subst hj;rw[hi]at e1;cases e1][d7t:by intro ñ s σ H vs us Q I r h][d7u:by intro _ _;show rfl][d7v:by let#[c5i]:=I.tuple hq;ext d5n][d7w:by cases rx;let#[u,1,ru]:=rv.one][d7x:by rw[K3]at h1;rw[LG]][d7y:by show (Hw λz=>nomatch z).symm][d7z:by subst f2;rw[Yy]at f1;cases f1][d7A:by apply Hk;apply wpAny_runValue][d7B:by ext d5z;let#[ot,ct,t1,t2]:=ht][d7C:by show hb F0 H0 ñ s σ H E I h][d7D:by subst he;let lt:=(Ho.mp hk).1][d7E:by show Fl.rt.inj pY][d7F:by rw[hw]at e;cases e][d7G:by show Ia λj hj=>?_][d7H:by show aA λZ hZ=>?_][d7I:by rw[if_neg e,W.Yi e,W.ln.into]][d7J:by let:=congrArg List.length h.1][d7K:by injection e with e1 _;rw[e1]][d7L:by cases (rx)][d7M:by let#[c5i]:=I.list hq;ext d5n][d7N:by let SF:=PySem.F.store_object][d7O:by rw[hb];show eB][d7P:by let⟨t,q⟩:=ry;subst q;rfl][d7Q:by simp only[Il,JV hge];ext d3U][d7R:by generalize scaled p _ _=lead][d7S:by rwa [ay e1 e2,ay Ŏ e3]at q3][d7T:by by_cases c:j=w][d7U:by intro _ _ h;show (Iz h).elim][d7V:by intro ws y hn A t i ht ey hi][d7W:by let#[o4,AI,he]:=J';subst he][d7X:by show hb ñ s1 σ H1 Q I1 q1][d7Y:by let⟨_,rfl⟩:=rx;cases ry][d7Z:by rcases q with q|q][d70:by let#[mA,O,r,Lq]:=b7h I.LY e][d71:by show False.elim h][d72:by rw[e2];show#[.bl _,H,I,1,q]][d73:by let#[cd,hc,ho]:=any_some hp][d74:by simp only[List.lookup,this]][d75:by let#[yi]:=h][d76:by change (a==b)=_;rw[Jk];simp][d77:by rw[if_neg z]][d78:by ext d58;let#[v,a,b]:=h.at z][d79:by intro F0 H0 ñ s σ H E I h][d8a:by cases r;rfl][d8b:by show (Ho.mp h1).1][d8c:by cases h;show .nil][d8d:by let#[w4,m,F]:=F;show#[c63]][d8e:by let#[w4,a,F]:=F;show#[c6I]][d8f:by intro e;subst e;rw[h]at h'][d8g:by let#[m,#[iR],_]:=id I.loc][d8h:by let#[k,x]:=hd';let ih:=ih'][d8i:by cases e2;show#[o,e,ex.2.1]][d8j:by let#[w1,ew1,r1]:=rv.get ex][d8k:by let f1:=sub_AttributeError][d8l:by let#[Ej,fz]:=I1.fz2 hd ho][d8m:by simp only[HK,Iz,Ke,not_or]][d8n:by rw[c]at rd;show .t rd #[2]][d8o:by rcases HW.mp hq with hq|hq][d8p:by rcases HW.mp hy with hy|hy][d8q:by rcases HW.mp hz with hz|hz][d8r:by show Jc ?_ (by size_fits)][d8s:by let#[v,jQ]:=I.cell x c e][d8t:by let#[c6C]:=I.loc][d8u:by cases r1;show JK #[Ed,q]][d8v:by let#[sW]:=J'][d8w:by show (r).elim][d8x:by subst e;show I2.Ud nY b92][d8y:by cases (r);rfl][d8z:by unfold cellsFrom][d8A:by ext d5M;show a2f b04 h2 h4][d8B:by cases e';show up b o e hd][d8C:by rw[Hl]at this][d8D:by apply JN;intro i][d8E:by let#[Dj]:=b32 hr][d8F:by intro k l q p cs hl hq hp][d8G:by rw[K9]at q;rw[K9];ext d4q][d8H:by let#[qE]:=J'][d8I:by by_cases z:p.1=y][d8J:by funext b;ext d4T][d8K:by let#[zO]:=J'][d8L:by apply Hk;ext d4e][d8M:by let#[c37]:=hx][d8N:by rw[c]at rd;show#[c6T,_,1]][d8O:by show .nx #[1] ?_][d8P:by show#[c5u,?_]][d8Q:by ext d3M;show#[2]][d8R:by unfold Mk.starts][d8S:by let#[Dc,he]:=J';subst he][d8T:by let#[seen,o4,AI,1,hs]:=h][d8U:by show c3k rfl b65 rfl h1 h2][d8V:λΑ Β=>ak<|aw (Rb Bx.K HJ HQ HP aF Α<|a8 Β K')][d8W:λΑ Β Ε Ζ=>upd (upd Α Β (.own Ε)) Ε (.ins Ζ Β [])][d8X:λΑ=>Pr (Α C)][d8Y:λΑ=>λ_ _ _ _ _=>qm<|da (Đ 0) (da Α LS)][d8Z:λΑ=>HT.Te Α Α hi - HT.Te Α 0 lo][d80:λΑ Β Ε Ζ Η=>JI (F.run X.A X.stack s H D9 Α Β Q Ε hr I.Xx Ζ Η h) λr s' hq=>?_][d81:λΑ Β=>bz Α Β λz=>nomatch z][d82:λΑ Β=>λv s₁=>wpAny ē X.A (eval b X.env) (λu s₂=>wpAny ē X.A Α Β X.xe s₂) X.xe s₁][d83:λΑ Β=>a8 Α<|a8 Β K'][d84:λΑ Β=>Value.type Α==Value.type Β][d85:λΑ=>match Α with|true=>rule "set.scan.the-table-gave-way"|false=>pure ()][d86:λΑ Β=>upd H Α Β][d87:λΑ=>eval Α X.env][d88:λΑ=>Pr (Α c ord)][d89:λΑ=>Α (envOfC ğ scope s.heap.objs.size f cd).kindOf SL λ_=>none][d9a:λΑ Β=>Rb Bx.K HJ PySem.F.slot_list_pop PySem.F.type_list_pop c6q Α<|a8 Β K'][d9b:λΑ=>grow F H Α][d9c:λΑ Β Ε=>IF Α hit.typeIs Β ?_<|Ε _][d9d:λΑ=>ak<|aw (bh lr MG hr.m<|a8 Α K')][d9e:λΑ=>aq mH Α][d9f:λΑ Β Ε=>PW.pt<|Α Β Ε][d9g:λΑ Β=>·.setIfInBounds Α Β][d9h:λΑ=>X.env.kindOf Α=some .cell \/ X.env.kindOf Α=!.free][d9i:λΑ=>aa (top Α)][d9j:λΑ=>λ_ Yb=>RX X.prog X.w X.outer X.H₀ X.s₀ E Α Yb][d9k:λΑ=>.nx (ε.set i Α)][d9l:λΑ Β=>DR.mono Α _ _ Β][d9m:λΑ=>Pr (Α c)][d9n:λΑ=>λi h=>Α/\Cl A el h][d9o:λΑ=>Α { cls:=.type "dict",data:=.dict [].toArray }][d9p:λΑ Β=>.builtin "list.extend.loop" #[[.ref Α,.ref Β,res],[]]][d9q:λΑ Β=>rI Α λi j=>.int Β][d9r:λΑ=>fI Bb λi j=>RO Α][d9s:λΑ Β=>qr<|Sb (Đ 0) LM hr.m (da (dO Α Β (Đ 1)<|Đ 2) LS)][d9t:λΑ=>MU hr (Đ 2)<|Đ Α][d9u:λΑ Β=>L4 (p:=λx:Int×Int=>decide zL) |>.mpr #[x,Α,Hu Β]][d9v:λΑ=>da Α<|da Α (da Α<|da Α (da Α<|da Α LS))][d9w:λΑ Β Ε Ζ Η=>λr s₃=>wpAny Α Β (letTemporaryGo value Ε r >>= λ_=>pure r) Ζ Η s₃][d9x:λΑ=>List.Sublist.append Α<|List.Sublist.refl _][d9y:λΑ Β=>cS 1 [1] [Α,Β]][d9z:λΑ=>ML<|ML (ML<|ML (ML<|NY Α (TV<|gR.refl _)))][d9A:λΑ=>.Constant Α j pos][d9B:λΑ=>tP (rC (RO Α))][d9C:λΑ Β=>Α ñ s2 Β H2 _ I2 q2][d9D:λΑ Β Ε=>λb o hb e=>Α b o Β<|Ε b o hb e][d9E:λΑ=>da (Đ 0)<|da (Đ 1) Α][d9F:λΑ=>(λx:vm×D=>x.1) ∘ λx=>(Α<|f x,g x)][d9G:λΑ=>.ref Α][d9H:λΑ=>Α ñ s1 σ H1 _ I1 q1][d9I:λΑ=>bZ Bx.K rfl<|af Id (af AE<|af zi Α)][d9J:λΑ=>λ_ _ _ _ _=>cI<|a8 Α (a8 (bV K') K')][d9K:λΑ Β=>q1<|qs Α ND Β][d9L:λΑ=>A.under (.builtin "type.__call__" Α)][d9M:λΑ Β=>qs Α ND<|gS (Đ 0) Β hr.m][d9N:λΑ Β=>bZ Bx.K (n:=2) rfl<|af (pN Α ND) (af Β aG)][d9O:λΑ Β=>MU hr (V7 Α<|Đ 0)<|Đ Β][d9P:λΑ=>grow xw H Α][d9Q:λΑ=>ps.zip (us++Α)][d9R:λΑ Β=>Α λkv=>if kv.1=k then (kv.1,Β) else kv][d9S:λΑ Β=>bi (Ex Α) rfl T.MC bQ<|a8 lr (a8 Β K')][d9T:λΑ=>c.of Α=c.house][d9U:λΑ=>QD λε c=>rO Α ra rb ε (.bl c)][d9V:λΑ Β Ε=>Α p m ç ê Β Ε][d9W:λΑ=>.Call Α [e] [] pos][d9X:λΑ=>qs Α ND (cO<|da (cO LS).p LS).p][d9Y:λΑ Β=>Α ñ s σ H Β I h][d9Z:λΑ=>.BoolOp Α [a] pos][d90:λΑ=>Α F H _ xs _ Q s (.mk h) hx q][d91:λΑ=>cu T.Me<|Đ Α][d92:λΑ=>rB Bx.K<|pv Α][d93:λΑ=>.f Α rfl][d94:λΑ Β=>qs Α ND<|dO c0H a2b (cO<|da dI LS).p Β][d95:λΑ Β=>cI<|a8 (oA jF Nk hr.m<|a8 Α (a8 Β K')) (a8 Α<|a8 Β K')][d96:λΑ Β=>Α Ba (Đ 7)<|Đ Β][d97:λΑ=>ak<|br Α][d98:λΑ=>dT bo cK Α dI][d99:λΑ=>cH<|rX (dV<|bA Α)][e0a:λ_ _ _ _=>0][e0b:λe0a _ _ _ hr ND=>0][e0c:Inv X ñ σ][e0d:λLR A outer s H vs Q E hr=>0][e0e:Mq P w K mg base][e0f:wpAny Ē A][e0g:congrArg List.length][e0h:wpAny ē X.A][e0i:λσ H Q=>0][e0j:λ_ _ _=>0][e0k:W.nsIn K][e0l:λF H x y u v d Q s=>0][e0m:λe0a _=>0][e0n:Mk.M0 p m ç Tm.R][e0o:λH1 e1 S1 q1=>0][e0p:λF H l xs d Q s z hx=>0][e0q:e0e NP (k+1) f fd ps][e0r:Jp (Mn (ha pos ñ s σ H _ I h) λus s1 J'=>?_)][e0s:Rb Bx.K HJ HQ HP aF][e0t:λE σ H J'=>0][e0u:λb o hb=>0][e0v:stN p m ç ê ord][e0w:fI.mk (C:=λ_ _=>True) (g:=λi j=>RO<|.bl (decide (i<=j)))][e0x:wpAny M A][e0y:eZ NP P w K mg base N ğ zV f][e0z:da (Đ 1)][e0A:Tf HB rfl][e0B:Mk.LW p m ê][e0C:h ñ s σ H][e0D:λb o e=>0][e0E:λx H1 e1 _ q1=>0][e0F:HI X G][e0G:SetTable.below t.place][e0H:RU 0 rfl][e0I:A8 xs][e0J:W.findIn K][e0K:without p r lead][e0L:newRow p m][e0M:λLR A outer s H E hr=>0][e0N:bJ HB rfl][e0O:bC (Sum.inr:Str->vm)][e0P:DR.mono (Wu.trans RT) _ _][e0Q:λe0l z hu hv q=>0][e0R:tP.at s q][e0S:I.turned ō f0 f1 f3 f4][e0T:cleared p bk ř start a][e0U:grow F H][e0V:λñ s e0i I=>0][e0W:bH p ř msg fo][e0X:e0f İ Q E][e0Y:ZN b0o c0T rfl T.O5 boot_dict][e0Z:Inv X ñ σ' H'][e00:LW p m ê T][e01:backTo pos][e02:dO bf OU][e05:λouter s H args us vs Q E hr=>0][e06:PE X e][e07:Mg base k][e09:xs.getD i][e1a:List.replicate k][e1b:dT bo cK][e1c:dT a2X a94][e1d:Heap.ExtBut s.heap.objs.size s.heap][e1e:F.run A outer s H args us vs Q E hr][e1f:upd (upd c0o ea<|.ins CE dx []) ea (.ins CE dx [("rows",.ref rd)])][e1g:envOfC ğ scope s.heap.objs.size f][e1h:λx hx=>0][e1i:λñ s σ H=>0][e1j:λe0j h=>0][e1k:Ma K H a][e1l:PS X st][e1m:scaled p][e1n:S1.le _ _][e1o:Ss F0 H0][e1p:Sb (Đ 0)][e1q:da (Đ 0)][e1r:a3l HB rfl][e1s:da (Đ 3)][e1t:da (Đ 5)][e1u:e0e NP 1 f fd][e1v:e0y LR A outer s H][e1w:λxs H Q=>0][e1x:e2 _ _][e1y:PI X tg][e1z:QS X st][e1A:SetTable.below xs][e1B:sb.extBut ea o (λz=>V5<|z▸m)][e1C:λb hb=>0][e1D:b1i er P w K tg][e1E:SeqAt.EqAt A s][e1F:Mx.run p][e1H:Md.NB h k k' l][e1I:sp vs H Q][e1J:e1 _ _][e1K:cF (a:=a) (o:=.dK ķ)][e1L:nO (tb:=λE σ H=>∃ F0 H0,tQ F0 H0 rb E σ H) lH hg S1][e1M:da (Đ 4)][e1N:cq p m ç ê][e1O:e0e uA (k+1) f fd ps][e1P:.seq its.toArray][e1Q:Mx.step p bk a8D][e1R:bZ Bx.K][e1S:c5S X.base s.heap][e1T:λf fd F=>0][e1U:λe0i J'=>0][e1V:SetTable.insertAt xs][e1W:Mk.stN p m ç ê ord][e1X:λi h h' st k=>0][e1Y:λe0a e0j=>0][e1Z:Mc X.prog X.w][e10:min xs.length][e12:M0 p m ç T.R][e13:bT R col][e14:IntsAre vs][e15:λH2 e2=>0][e17:λF H σ ε ε' d x Q S=>0][e18:λF0 H0=>0][e19:k b o (λz=>hc<|by simp[z])][e2a:base.Ns mainGlobals][e2b:Md F l][e2c:dY hc S hi hg ht he][e2d:P1 prog w][e2e:da (Đ 2)][e2f:.k rfl][e2g:Mk.lk R][e2h:λσ2 H2=>0][e2i:λa1 a2 a3 a4 a5 a6 a7=>0][e2j:pickOrder Ń][e2k:dO LET OU][e2l:look U x][e2m:a5B (K:=Bx.K)][e2n:NY rfl][e2o:aH X scope N' cells C s H][e2p:mi q rb ε FO][e2q:fg cell][e2r:λx y H Q=>0][e2s:λ_ _ J'=>0][e2t:λH1 e1=>0][e2u:λb H3 vs e3 hb hv hd=>0][e2v:λe0d h=>0][e2w:wpAny ē A][e2x:Heap.MadeExcOf s.heap h'][e2y:model prog][e2z:bd (i:=3) ND rfl rfl rfl][e2A:Mk.Rg p mixed A s][e2B:sF _ _][e2C:W.ln.fits.ahead i][e2D:Mk.Qg es.length w][e2E:rO L2.Sub][e2F:rO (fI (λ_ j=>0<j) λi j=>RO<|.int (i % j))][e2H:λh1 h2=>0][e2I:Ix hit.typeIs][e2J:s.heap.FunFrames X.base][e2K:run p bk ř][e2L:LL t.length][e2M:congrArg D.bl][e2N:ZN c4H (jR rfl) rfl T.Qr][e2O:d7 ts U g c][e2P:Mk.ME ê][e2Q:ue x][e2R:List.replicate m][e2S:a2w (Cc:=λY=>Y.A.handled=!.ref ea) c08 c11][e2T:sliceBounds lo hi none][e2U:Heap.SameBut it s.heap][e2V:Dfd X.prog X.w X.K X.mg X.base k x ps dvs][e2W:cv (xs:=R) (u:=gI) (h:=λr=>.int r.1) xp][e2X:a7x (p:=p) (ř:=ř) (msg:=msg) (fo:=fo) F][e2Y:Heap.SameBut a s.heap][e2Z:EP X ñ σ Q][e20:c0i X ñ][e21:Q .non][e22:DiX X.prog X.w X.K X.mg X.base k x C ps][e25:q _ H1 e1][e26:rq a8u r2 ε][e27:rO Sub][e28:MU hr (Đ 1)][e29:Yd (n:=0)][e3a:da (Đ 6)][e3b:us.foldl tF][e3c:Flow ts][e3d:Ux CE H G0 ks LA MT m][e3e:Paired F][e3f:W.keepIn K][e3g:Dm X.prog X.w X.K X.mg X.base k C m ps][e3h:q (u x) ε][e3i:ua Bx.K][e3j:gX h g N][e3k:start m ç][e3l:b1x W.P4 hO][e3m:λε J'=>0][e3n:λe0j H _ I h=>0][e3o:λe0D n hb hx=>0][e3p:wpAny_lookBehind hoD][e3q:fQ 1 js Fy yz te σ][e3r:dB c4n (lX Bx.K rfl) rfl T.X6 boot_all][e3s:λσ H=>0][e3t:λi s Q E hi J' hQ=>0][e3u:I.base.QF b xs][e3v:I.base.there b][e3w:Df X.prog X.w X.K X.mg X.base k x ps][e3x:congrArg D.lst][e3y:a24 MH hr.m rfl][e3z:hk ea b1a o][e3A:fr ((ord.take n).map (·.1)) (st w)][e3B:dg S p (b5 (ai S) pl) none (ai S) m][e3C:λx H1=>0][e3D:λy hy=>0][e3E:rO (fI WA λi j=>RO<|.int (i * j))][e3F:eQ (p:=p) (m:=m) (ç:=ç) (ê:=ê)][e3G:b3V F TL TR.Ml LJ Mz Nq Ni Nw Ny OD][e3H:λb o _ _ hc e=>0][e3I:λr hr=>0][e3J:λSQ al an has hp=>0][e3K:λσ G _ J'=>0][e3L:λe0u e=>0][e3M:λe15 S2 q2=>0][e3N:k _ _ Ļ][e3O:I.base.free b][e3P:k it Ĕ o][e3Q:sb.extBut _ _][e3R:InstAt s.heap][e3S:DR F d][e3T:b LR A outer s H E][e3U:Sb (Đ 2)][e3V:dT gf dq][e3W:Vc Ba][e3X:gS (Đ 0)][e3Y:b1t A (ts:=bP bs k)][e3Z:Mk.start m ç][e30:Mx.col ř][e31:e1F bk ř][e32:λea m o e=>0][e33:λi h st e1C=>0][e35:Y0.m (f:=λm:Nf=>(.inl m.1:vm))][e36:Mc P w H h][e37:Un fs ex H][e38:gH I hg hm][e39:Md F Ũ][e4a:bJ hp hc hi ht hbx hs ñ s σ H][e4b:congrArg Prod.fst][e4c:Mx.M9 p][e4d:Mk.moved p][e4e:W.exmOne K][e4f:W.kitOne K][e4g:e1R (n:=3)][e4h:e1R (n:=2)][e4i:Un (Ra X.stack) ch H H' s.heap][e4j:Walks prog w][e4k:ja b9Y mM js uh uD tU σ H][e4l:h'.DictOf knd s.heap.objs.size][e4m:HY s.heap it][e4n:SR NP 1 f fd][e4o:c2S Ba][e4p:gK (n:=true)][e4q:dm (ts.filter λt=>Ui t.1) g N][e4r:cU (cw rfl) rfl T.O5 boot_dict][e4s:Nu (f:=λr:Int×List Int=>r.1)][e4t:b1B Bx.K T.MC][e4u:Classical.choose_spec (this g)][e4v:a63 O.parts.nd O.ends W.P4 O.hN][e4w:Ef c H nl b7M a Nn Ln n dp dt][e4x:Jb X G][e4y:h.Ns mainGlobals][e4z:sb.extBut a o ne][e4A:sb.extBut b o Os][e4B:b84 p m ç ê ord][e4C:Im (λr:LT=>decide (r.2.2=g))][e4D:Ln2 c H nl cs a Ln n dp dt tl][e4E:W i m σ][e4F:PE X a0q][e4G:b.getD j][e4H:tP.go S1][e4I:S.le _ _][e4J:IsPair h' s.heap.objs.size x][e4K:I.keys R][e4L:toΓ _ _][e4M:a2j c H fi a Ln n dp dt kn i][e4N:Ll1 c H fi a Nn Ln n dp dt j][e4O:λvs H Q E=>0][e4P:λe0a st hQ=>0][e4Q:λe0m st h=>0][e4R:assignEach elts][e4S:I.base.keep b o][e4T:I.ok.bs b o][e4U:I.base.Qi b][e4V:t σ H][e4W:SP X ñ][e4X:g x σ][e4Y:.cons rfl][e4Z:upd H2][e40:Mf h' e][e41:old b o2 e2][e42:MA c H' n dp dt][e43:a65 lr][e44:without p][e45:OH.go S][e46:kp _ _][e47:SetTable.below.go xs j f lo][e48:.of (owner:="set_iterator")][e49:q _ _ s.drawn _ _ _ es.size][e5a:.mk rfl rfl][e5b:rO BQ ra rb ε][e5c:b1Z Ba][e5d:MJ ts U][e5e:Bf ts U h][e5f:List.replicate mixed.length][e5g:G.ways M'][e5h:I.ok a.1 M'][e5i:A.foldl b5t][e5j:a8 jF][e5k:T4 _ _][e5l:Mk.P9 p B i][e5m:nwL ks LA H][e5n:toG I _ _][e5o:Mk.Ow es.length][e5p:upd H' ea][e5q:MA c G' n dp dt][e5r:upd RK ea][e5s:bindArgs ę][e5t:e0h b7c Ľ X.xe][e5u:e0k mainGlobals][e5v:e1F gO t][e5w:e2f kS][e5x:V2 P w K mg base A outer s][e5y:h.eq X A ñ s σ H x y _ _][e5z:k _ _ _ _ u v _ _ S2.le h1][e5A:dB c5M (tO rfl) rfl T.X5 c1m][e5B:upd H3 c1M (.lst<|ys++Cd)][e5C:MU hr (MU hr (Đ 6)<|Đ 7)][e5D:oE (ea:=ea) NX rfl c2M rfl][e5E:hb T kV doc pm an LR ct us][e5F:λh' tk=>0][e5G:λb o q=>0][e5H:λc G e z=>0][e5I:λA e05 he hb hv hs=>0][e5J:u.keep b o e n][e5K:isTrue e X.env][e5L:CX outer H s E][e5M:h.IsKeyIter I d i es.size][e5N:List.pairwise_singleton _][e5O:fC p ř msg fo][e5P:dF Mj hr.m rfl][e5Q:c5O p ř msg fo][e5R:MA c G n dp dt][e5S:looks_findIn (M:=e2y w) X][e5T:λi x ε hx J'=>0][e5U:λxs e2t S1 hx=>0][e5V:ue v][e5W:Po P w][e5X:I.cell x c][e5Y:codeAny Ē][e5Z:IntsAre us][e50:Ma X.K H p][e51:ZipApart z TI TO i1 i2 a][e52:c8 K R H x][e53:I.LY a][e54:I.turned b0z f0 f1 f3 f4][e55:fQ mM js uh uD tU σ][e56:grow F0 H0][e57:NB a o][e58:rb ε1][e59:aq a7n][e6a:bd (i:=2) ND rfl rfl rfl][e6b:bd (i:=7) ND rfl rfl rfl][e6c:Qo ģ h ws][e6d:dm L g][e6e:bd (i:=5) ND rfl rfl rfl][e6f:Mk.ub p us][e6g:a8 BC][e6h:iK b6Z col][e6i:DfU Bx.P Bx.w Bx.K Bx.mg][e6j:e0B Tm][e6k:e5y a b hK I rx ry ra rb][e6l:λs1 J'=>0][e6m:λus hl=>0][e6n:λD e3s=>0][e6o:Ca X.A s.heap][e6p:I.Nd x c][e6q:D.nx σ][e6r:PA X es][e6s:mj C m sp dvs][e6t:kP xs.length][e6u:PE X a5A][e6v:Ms X b4h][e6w:absurd z][e6x:subscripted slice false][e6y:Nj c H v][e6z:au Þ Þ][e6A:List.range' s][e6B:YQ F0 H0][e6C:tP.go S][e6D:S.chg (d:=.lst l) h1 p1][e6E:l.getD i][e6F:mR ri q rb ε][e6G:f2T xs I h0 hl][e6H:fin ε'][e6I:Df P w K mg base k x ps][e6J:dO bW OU][e6K:red p Ň][e6L:dB b6e (gY rfl) rfl T.QQ][e6M:dD p ř fo ms][e6N:List.replicate A.length][e6O:bC kf nm][e6P:Paired a2B vs][e6Q:rW CE dx][e6R:ik (col:=col)][e6S:e0e CX k f fd][e6T:e0A lG][e6U:e0L Tl R][e6V:e1o F σ][e6W:e1y iter][e6X:e5z (q1.mono<|ao S1.le)][e6Y:λε hi J'=>0][e6Z:λa ha e1C=>0][e60:V2 X.prog X.w X.K X.mg][e61:Mq l.prog w vT mg KG][e62:fQ 1 js Fy tt te σ F][e63:h1.extBut hs₁.extBut][e64:U9.extBut hs₁.extBut][e65:W.fits.ahead i m ks hm][e66:List.zipWith c2z mixed][e68:bi (a05 Bx.K) rfl T.Me][e69:c4V F Nz MH Qf LJ Nl OF][e7a:e2m (xs:=cs.map V.int)][e7b:λj y v' e1 e2 e3=>0][e7c:λvs H1=>0][e7d:λσ' H'=>0][e7e:λk hk=>0][e7f:λH3 e3=>0][e7g:λH i d s e=>0][e7h:λs Q E J' hQ=>0][e7i:Rd H a][e7j:u.there b][e7k:CE X.stack X.prog X.w][e7l:BindsTo s fd][e7m:cellsFrom ň][e7n:c8 X.K][e7o:Heap.NotedW base ź e][e7p:RX X.prog X.w X.stack][e7q:hk b o][e7r:mk.keeps b o][e7s:eO ķ p.1][e7t:Qk h d es][e7u:.int 0][e7v:.int es.size][e7w:ItemsOf P][e7x:bs.getD i][e7y:cleared p bk][e7z:wz i lead][e7A:S.ro i][e7B:tP.go S.z][e7C:ja pB mM js uh uD][e7D:intKind prog][e7E:b00 st.2.2 hf hb hd hg][e7F:rO (fE true) ra rb ε][e7G:.mk ha hb][e7H:bc xp][e7I:.t wj][e7J:Qq t x][e7K:Wy.without U][e7L:B.Pu.names E][e7M:gZ c n][e7N:bb (aP S.LK<|some ks)][e7O:eX Bx.K][e7P:c2Z (K:=Bx.K)][e7Q:MvI F H a f ml i k vo][e7R:a0I Bx.K rfl][e7S:b0V (K:=Bx.K)][e7T:I.LY ea _][e7U:starEach b85][e7V:dT b5E c5G][e7W:lV S p pl][e7X:dg S p kW none yZ m][e7Y:e0c H'][e7Z:Inv (X.RL E) ñ σ H][e70:CE outer P w H s Q u][e71:dY rfl (cS 1 [] oq)][e72:iK (R.take<|j+1) col][e73:bv S (some "h") 21 m][e74:c0f (a5z Bx.K kQ hu1)][e75:Pb ⟨CN,CP,CH,CL⟩][e76:λb o _=>0][e77:λA i s Q E st h=>0][e78:λy dy ny ndy ne=>0][e79:λlc H' as vs e'=>0][e8a:λe3s R=>0][e8b:.cons _][e8c:.cons r][e8d:A8 ys][e8e:Ca A s.heap][e8f:I.base.slot b o e n][e8g:PE X Ż][e8h:.Name x][e8i:I.pin p][e8j:Pv i σ][e8k:W.instObj C][e8l:eval Ĝ][e8m:F.run _ X.stack _ _][e8n:Ms X Ł][e8o:h pos ñ s σ H _ I][e8p:PE X (.List es pos)][e8q:Looks Ē s.heap c0F][e8r:tq e' c' d'][e8s:aq (top 33)][e8t:MY ř start][e8u:Inv p a][e8v:Sd F σ][e8w:rL n js ri yG re ε][e8x:Pr R vs H Q][e8y:NB a o'][e8z:hs₁.extBut _ _ c1][e8A:Tm (k+1) x ğ st ps][e8B:red p (Mx.joined t)][e8C:uR (f:=λm:Nf=>m.1)][e8D:cu T.Me][e8E:List.append_inj' e'][e8F:Int.dvd_mul_right p][e8G:moved p][e8H:OA p ê][e8I:nv Bx.K rfl][e8J:bb b3t ħ g][e8K:bb b3u ħ g][e8L:e0f b1f R E][e8M:e0h a8x Q E][e8N:e0x a9n Q E][e8O:e0x b3N Q E][e8P:e0C Q I][e8Q:e1N ord][e8R:λj hj=>0][e8S:λt ht=>0][e8T:λX e1i x as bs hK I ha hb=>0][e8U:PT X e][e8V:PT X c][e8W:ue y][e8X:Oi K H a][e8Y:NK X b01][e8Z:NK X a8k][e80:PE X a5v][e81:eval vO][e82:wpAny ų][e83:Ma K H p][e84:I.LY d _][e85:I.frd hd][e86:gB (v:=.int 8) rfl][e87:au Ý Ý][e88:V8 F H d][e89:IntsAre acc.toList][e9a:e3 _ _][e9b:a2F hb hv][e9c:bn (eO ķ q.1 q.2)][e9d:c3Q 2 rfl][e9e:c3Q 0 rfl][e9f:dT a7G b3T][e9g:dT b4q dq][e9h:Nat.le_add_right _][e9i:A.getD n][e9j:QR p mixed A s b3g][e9k:G.ech M'][e9l:SS _ _][e9m:Jh.mp hf][e9n:bP VV][e9o:e9 _ _][e9p:e2f kI][e9q:e4t T.Qr boot_list][e9r:λb u q=>0][e9s:λi H x H'=>0][e9t:λq hq=>0][e9u:λi d q=>0][e9v:λz hz=>0][e9w:λJ' ε Yl=>0][e9x:λe0u PN q=>0][e9y:λe1C o e=>0][e9z:λe15 _ q2=>0][e9A:HU I.ok.WL][e9B:Oi X.K H a][e9C:I.caF hc.1][e9D:absurd rfl][e9E:b0n (vs:=rf) F hr][e9F:fitsIndex_both h1][e9G:List.replicate nT][e9H:h.update a][e9I:Heap.FlyingW base][e9J:Inv b48 QO][e9K:K.keep _ _][e9L:Int.fmod p][e9M:Int.fmod a][e9N:grow F1 H1][e9O:tP re σ H][e9P:DJ knd A.handled][e9Q:s.heap.DictOf knd][e9R:Fz X H1 H2][e9S:.set es ep][e9T:Rv h' it a][e9U:hk it Ĕ o][e9V:c2S (aN hr)][e9W:dF N7 hr.m][e9X:Rea ts U h][e9Y:Qo ts x ws][e9Z:a4r _ _ _ _][e90:ub p (T.2.take n)][e91:shown p ê][e92:G.Y2 M' em][e93:da (VW b0l<|Đ 1)][e94:Sd F (some v::σ)][e95:Wz CE MT m][e96:c8 K isA H][e97:dF Oe hr.m][e98:c7 L.LO.XO][e99:a8 (c6 bW BC aJ)][f0a:e0x t Q' E][f0b:behindInMarks op][f0c:bM X scope nT js][f0d:hs.extBut d o U8][f0e:hs.extBut b o Op][f0f:hs₃.extBut _ _][f0g:hs₂.extBut _ _][f0h:Heap.push s.heap][f0i:tQ F0 H0 rb E σ][f0j:b1H (c:=c) (S:=S)][f0k:dG ts (!h) g N m][f0l:eq_str (ε:=b17)][f0m:List.zipWith b77][f0n:CW X W (st::ss)][f0o:bi (Ex Bx.K) rfl][f0p:SR b2a 7 f fd ä][f0q:Paired (NC G) vs][f0r:cZ (S.LK.take j)][f0s:c8 K (c8 K Wd) H][f0t:eq_str (ε:=a2m)][f0u:Q (.int (u:Int))][f0v:Q (.int (v:Int))][f0w:eq_int (ε:=Ei)][f0x:SR b2a k f fd ps][f0y:e0h (d87 Ż) Q E][f0z:λp hp=>0][f0A:λ_ _ x=>0][f0B:λs₁ h₁=>0][f0C:λi j hi hj=>0][f0D:λM' he way hw=>0][f0E:λe0j J' hk=>0][f0F:λe0p q=>0][f0G:λe17 h r q=>0][f0H:λs1 e3C I1=>0][f0I:upd H a][f0J:Mc P w][f0K:F6 X.env.scope][f0L:PT X ŕ][f0M:NK X f][f0N:lB f v][f0O:PE X o][f0P:swapsWith value][f0Q:Mg base][f0R:PE X Ę][f0S:A8 ł][f0T:Ms X f][f0U:backTo MV][f0V:Itz K a][f0W:Heap.HeldW base][f0X:c5W h C][f0Y:X.NJ ea][f0Z:fh ea cls][f00:eO ķ k][f01:valueAt (q::qs)][f02:aZ X.prog][f03:hk I Ĕ o][f04:.seq PR][f05:NC H v][f06:dot (x.map CO)][f07:R.sh.QE _][f08:q x H2][f09:S.ro j][f1a:SE X ss][f1b:tP.go S.a][f1c:rIf rt rx][f1d:b50 is l][f1e:I.kept (t':=tk)][f1f:a96 h' z TI TO T][f1g:a7 _ _][f1h:.cons n t][f1i:.int k][f1j:putSet_of UY t'][f1k:Cl A el][f1l:ns.getD j][f1m:Rv h it a][f1n:hk a Ĕ o][f1o:Qe X ss][f1p:iZ rfl][f1q:af AE][f1r:da (Đ 9)][f1s:bfs ts][f1t:Ou ts U h][f1u:fm ts Ao][f1v:O6 p k vs][f1w:h.off w j hw hj][f1x:yf CE R][f1y:W σ' c1E (!dx)][f1z:W.InstAt s.heap][f1A:hF _ _][f1B:a8 (pv 3)][f1C:a8 mm][f1D:cZ S.LK][f1E:Mk.PX p m ç ê][f1F:bC kf mE][f1G:af iL][f1H:bP (bD S)][f1I:da (Đ 8)][f1J:eG _ _][f1K:Mk.MD m][f1L:Paired ŏ][f1M:b1 _ _][f1N:b9 _ _][f1O:EK K][f1P:.int 1][f1Q:e1e he hb][f1R:e1m Ĩ][f1S:e1o F' σ][f1T:e1u Þ][f1U:k b u (hb b n)][f1V:W.of_hideAll _][f1W:u.slot b o e n][f1X:Inv X ñ lJ H][f1Y:seqIndex_of h0][f1Z:hQ _ h' s.toks][f2a:Int.fmod_def p][f2b:gNs is xs σ H][f2c:oi rt rb n ε][f2d:.set UY (ep+1)][f2e:a0t X.prog X.w][f2f:congrArg V.str][f2g:dF Mo hr.m rfl][f2h:Pn.mk (c:=c) O][f2i:Md.mono sm _ _][f2j:dF Mh hr.m rfl][f2k:xI b5A X tg l][f2l:uZ K (Hh K ea)][f2m:fL.r (n:=true)][f2n:bi a2g rfl T.Me][f2o:e38 boot_range][f2p:λ_ _ q=>0][f2q:λb o n e=>0][f2r:λea o ne=>0][f2s:λ_ _ h=>0][f2t:λs3 I3=>0][f2u:λH i s z=>0][f2v:λa H2 vs e2 ha hv hd=>0][f2w:λH4 e4=>0][f2x:λo H2 fz=>0][f2y:λe0m _=>0][f2z:λa e15 h2 ha=>0][f2A:λe1Y e6m=>0][f2B:λe7d F' u S'=>0]:by lia:=by
 refine Classical.byContradiction fun ĥ=>?_
 refine ĥ ?_
 try clear ĥ
 exact by first|assumption|(simp_all;done)|lia
abbrev Hk:=@PySem.wpAny_bind
abbrev Hl:=@List.length_map
abbrev Hm:=@List.getElem?_eq_getElem
abbrev Hn:=@PySem.Heap.get?_push_of_some
abbrev Ho:=@List.getElem?_eq_some_iff
abbrev Hq:=@List.getD_eq_getElem?_getD
abbrev Hr:=@PySem.wpAny_pure
abbrev Hs:=@List.mem_of_getElem?
abbrev Ht:=@List.mem_map
abbrev Hu:=@decide_eq_true
abbrev Hv:=@List.map_map
abbrev Hw:=@decide_eq_false
abbrev Hx:=@List.map_append
abbrev Hy:=@List.getElem?_map
abbrev Hz:=@Nat.le_refl
abbrev HA:=@List.mem_map_of_mem
abbrev HB:=@PySem.PassesOwn.never
abbrev HD:=@PySem.Heap.get?_push_size
abbrev HE:=@List.length_append
abbrev HF:=@List.length_take
abbrev HG:=@PySem.Heap.lt_size
abbrev HH:=@List.mem_singleton
abbrev HI:=@PySem.W.mg_none_of
abbrev HJ:=@PySem.F.plainAttrs_list
abbrev HK:=@List.mem_cons
abbrev HL:=@List.map_cons
abbrev HM:=@List.mem_cons_of_mem
abbrev HN:=@List.mem_filter
abbrev HP:=@PySem.F.type_list_append
abbrev HQ:=@PySem.F.slot_list_append
abbrev HR:=@of_decide_eq_true
abbrev HS:=@List.mem_cons_self
abbrev HU:=@Nat.le_trans
abbrev HV:=@List.append_nil
abbrev HW:=@List.mem_append
abbrev HX:=@List.nodup_append
abbrev HY:=@PySem.Heap.SameBut.update
abbrev HZ:=@Option.map_eq_some_iff
abbrev I0:=@List.length_cons
abbrev Ia:=@List.map_congr_left
abbrev Ib:=@Nat.ne_of_lt
abbrev Ie:=@PySem.Heap.get?_update_other
abbrev Ig:=@Bool.false_ne_true
abbrev Ih:=@List.mem_append_right
abbrev Ii:=@List.nodup_cons
abbrev Ij:=@List.getElem?_append_left
abbrev Ik:=@List.append_assoc
abbrev Il:=@Int.toNat_natCast
abbrev Im:=@List.length_filter_le
abbrev Io:=@PySem.Heap.get?_update_self
abbrev Ip:=@Nat.lt_of_lt_of_le
abbrev Iq:=@List.getElem?_append_right
abbrev Ir:=@List.mem_append_left
abbrev Iu:=@List.take_length
abbrev Iv:=@Nat.zero_le
abbrev Iw:=@List.mem_of_find?_eq_some
abbrev Ix:=@PySem.wpAny_callSpecial?_slot
abbrev Iy:=@PySem.Obj.data_mapFields
abbrev Iz:=@List.not_mem_nil
abbrev IB:=@List.mem_range
abbrev IC:=@Array.length_toList
abbrev ID:=@List.length_range
abbrev IE:=@Array.getElem?_eq_getElem
abbrev IF:=@PySem.wpAny_call_entry
abbrev IG:=@List.mem_iff_getElem
abbrev IH:=@List.getElem_mem
abbrev II:=@List.getElem?_eq_none
abbrev IJ:=@Int.emod_lt_of_pos
abbrev IK:=@List.filter_cons
abbrev IL:=@PySem.wpAny_holding
abbrev IM:=@PySem.wpAny_setField
abbrev IN:=@List.length_singleton
abbrev IP:=@Int.fmod_eq_emod_of_nonneg
abbrev IQ:=@List.take_append_drop
abbrev IR:=@PySem.wpAny_field
abbrev IS:=@Option.isSome_iff_exists
abbrev IT:=@List.getElem?_take_of_lt
abbrev IU:=@Int.dvd_mul_of_dvd_right
abbrev IV:=@List.size_toArray
abbrev IW:=@Int.emod_nonneg
abbrev IX:=@Bool.false_eq_true
abbrev IY:=@PySem.Obj.isFreed_of_fields
abbrev IZ:=@Int.dvd_of_emod_eq_zero
abbrev J3:=@Nat.lt_succ_self
abbrev J4:=@List.mem_zipIdx_iff_getElem?
abbrev J9:=@Nat.ne_of_gt
abbrev Ja:=@PySem.Heap.size_push
abbrev Jb:=@PySem.W.mg_of
abbrev Jc:=@PySem.wpAny_newObj_type
abbrev Jd:=@PySem.wpAny_mono
abbrev Je:=@PySem.wpAny_Call_Name_kw
abbrev Jf:=@List.take_of_length_le
abbrev Jg:=@List.map_nil
abbrev Jh:=@List.find?_eq_none
abbrev Ji:=@List.nil_append
abbrev Jj:=@List.find?_some
abbrev Jk:=@Bool.eq_iff_iff
abbrev Jl:=@PySem.wpAny_attempt
abbrev Jm:=@Nat.lt_irrefl
abbrev Jn:=@Bool.and_eq_true
abbrev Jo:=@List.flatMap_append
abbrev Jp:=@PyProof.Rows.callWith_type1
abbrev Jq:=@List.take_add_one
abbrev Jr:=@Int.emod_eq_of_lt
abbrev Js:=@List.map_uncurry_zip_eq_zipWith
abbrev Jt:=@List.nodup_nil
abbrev Ju:=@List.filter_append
abbrev Jv:=@Array.getElem?_eq_some_iff
abbrev Jw:=@PySem.wpAny_isInstance
abbrev Jx:=@List.filter_eq_nil_iff
abbrev Jy:=@List.drop_eq_getElem_cons
abbrev Jz:=@PySem.wpAny_typeNameOfWhole_keyiter
abbrev JA:=@PySem.W.kia_one
abbrev JB:=@PySem.F.slot_dict_keyiterator_next
abbrev JC:=@List.all_eq_true
abbrev JD:=@List.map_take
abbrev JE:=@List.length_zip
abbrev JF:=@List.find?_cons
abbrev JG:=@Int.emod_add_mul_ediv
abbrev JH:=@Array.getElem?_toList
abbrev JI:=@PySem.codeAny_mono
abbrev JJ:=@List.eq_of_mem_replicate
abbrev JK:=@PySem.wpAny_truthy_bool
abbrev JL:=@Nat.lt_succ_of_lt
abbrev JM:=@List.length_eq_zero_iff
abbrev JN:=@List.ext_getElem?
abbrev JO:=@Int.emod_eq_zero_of_dvd
abbrev JP:=@PySem.codeAny_builtin
abbrev JQ:=@Nat.not_lt_zero
abbrev JR:=@List.foldl_cons
abbrev JS:=@if_false
abbrev JT:=@List.replicate_succ
abbrev JU:=@List.getElem_of_mem
abbrev JV:=@Array.getElem?_eq_none
abbrev JW:=@Int.dvd_add
abbrev JX:=@List.mem_flatMap
abbrev JY:=@PySem.wpAny_seqItems
abbrev b6H:=@PySem.isSubtype_stop
abbrev K0:=@True.intro
abbrev K2:=@List.of_mem_zip
abbrev K3:=@List.length_nil
abbrev K4:=@PySem.wpAny_loadPart_at
abbrev K5:=@PySem.Obj.cls_mapFields
abbrev K6:=@Nat.le_succ
abbrev K7:=@List.take_sublist
abbrev K8:=@List.pairwise_map
abbrev K9:=@List.getElem?_set
abbrev Ka:=@Int.dvd_sub
abbrev Kb:=@List.getElem?_range
abbrev Kc:=@PySem.wpAny_fieldsOf
abbrev Ke:=@or_false
abbrev Kf:=@List.take_append_of_le_length
abbrev Kg:=@List.getElem?_replicate_of_lt
abbrev Kh:=@Int.mul_le_mul_of_nonneg_left
abbrev Ki:=@decide_eq_true_iff
abbrev Kj:=@beq_iff_eq
abbrev Kk:=@PySem.W.callWith_K
abbrev Kl:=@Nat.lt_of_le_of_lt
abbrev Km:=@Nat.le_of_lt
abbrev Kn:=@List.zipIdx_append
abbrev Ko:=@List.getElem?_drop
abbrev Kp:=@PySem.wpAny_passesOwn
abbrev Kq:=@PySem.wpAny_ite_split
abbrev Kr:=@PySem.builtinLookup_eq_fast
abbrev Ks:=@List.getElem?_zipWith
abbrev Kt:=@PySem.wpAny_setState_of
abbrev Ku:=@PySem.wpAny_pyIter_list
abbrev Kv:=@PySem.wpAny_dictEntries
abbrev Kw:=@PySem.wpAny_rule
abbrev Kx:=@PySem.Around.under_plainId
abbrev Ky:=@PySem.wpAny_askSetting
abbrev Kz:=@List.lookup_cons
abbrev KA:=@List.length_drop
abbrev KB:=@Int.zero_add
abbrev KC:=@Int.emod_eq_emod_iff_emod_sub_eq_zero
abbrev KD:=@PySem.F.plain_extend_loop
abbrev KF:=@List.mem_take_iff_getElem
abbrev a9v:=@PySem.wpAny_setEntries_of
abbrev KH:=@PySem.mem_of_lookup
abbrev b5F:=@PyProof.Rows.F.plain_set_update_loop
abbrev KJ:=@List.filter_sublist
abbrev KK:=@List.filter_eq_self
abbrev KL:=@List.filterMap_cons
abbrev KM:=@PySem.plainId_quiet
abbrev KN:=@PySem.wpAny_call
abbrev KO:=@PySem.Code.quiet_builtin
abbrev KP:=@Int.dvd_mul_of_dvd_left
abbrev KQ:=@PySem.wpAny_typeOf
abbrev KR:=@Nat.le_of_eq
abbrev KS:=@List.take_zero
abbrev KU:=@List.getElem?_set_self
abbrev c5E:=@List.forIn_nil
abbrev KY:=@List.flatten_cons
abbrev KZ:=@List.flatMap_cons
abbrev L4:=@List.find?_isSome
abbrev L5:=@List.find?_append
abbrev L6:=@List.drop_zero
abbrev L7:=@List.drop_of_length_le
abbrev L9:=@List.Pairwise.map
abbrev La:=@PySem.Calls.callWith_builtin
abbrev b5j:=@PySem.plainObj_wpAny_Assign_Attribute
abbrev Lc:=@List.mem_iff_getElem?
abbrev b53:=@PySem.F.args_dict_keyiterator_next_1
abbrev Le:=@PySem.wpAny_standAt
abbrev Lf:=@List.map_drop
abbrev Lg:=@List.any_cons
abbrev Lh:=@Int.le_of_dvd
abbrev Li:=@PySem.codeAny_call_builtin
abbrev Lj:=@List.mem_of_mem_take
abbrev Lk:=@List.mem_erase_of_ne
abbrev Ll:=@List.getElem_zipWith
abbrev a7P:=@List.getElem?_set_ne
abbrev Lo:=@List.eq_nil_of_length_eq_zero
abbrev b6u:=@PySem.F.entry_dict_keyiterator_next
abbrev Lr:=@PySem.wpAny_updateSeq
abbrev Ls:=@PySem.wpAny_specialOf
abbrev Lu:=@PySem.wpAny_execs_nil
abbrev Lv:=@PySem.wpAny_dictEpoch
abbrev Lw:=@PySem.typeLookup_type
abbrev b1q:=@List.forIn_cons
abbrev Ly:=@beq_eq_false_iff_ne
abbrev c3k:=@PySem.BindsTo.of_defaults
abbrev LB:=@And.intro
abbrev LC:=@PySem.call_meets
abbrev LD:=@List.zip_cons_cons
abbrev LF:=@List.getElem?_zip_eq_some
abbrev LG:=@PySem.sizeLine_eq
abbrev LH:=@PySem.fits_of_scanBound
abbrev LI:=@List.filter_congr
namespace L2
open PySem PySem.Spec PyProof.Rows
abbrev vm:=Sum Int Str
theorem sV:vm->Value->Bool
 | .inl k,v=>Value.isInt k v
 | .inr x,v=>Value.isStrOf x v
theorem a8f (w):vm->Int
 | .inl k=>hashInt k
 | .inr x=>hashStr w x
def bq:∀ {k:vm}{v:Value},sV k v=true->(∃ i t,k=Sum.inl i/\v=Value.int i t)\/(∃ x t,k=Sum.inr x/\v=Value.str x t)
 | .inl i,v,h=>by let#[t,e]:=Value.isInt_shape h;show .inl #[i,t,1,e]
 | .inr x,v,h=>by let#[t,e]:=Value.isStrOf_shape h;show .inr #[x,t,1,e]
def a9h (i:Int)(t:Tok):sV (.inl i) xS=true:=by simp[sV,Value.isInt]
def a8V (x)(t:Tok):sV mT (.str x t)=true:=by simp[sV,Value.isStrOf]
def a1e (a b:Int):decide ((Sum.inl a:vm)=Sum.inl b)=(a==b):=by grind
def a1a (a b:Str):decide ((Sum.inr a:vm)=Sum.inr b)=decide (a=b):=by grind
def a1d (a:Int)(b:Str):decide ((Sum.inl a:vm)=Sum.inr b)=false:=Hw c12
def a1b (a:Str)(b:Int):decide ((Sum.inr a:vm)=Sum.inl b)=false:=Hw c12
abbrev _root_.É:=Program
theorem aZ (prog)(w):PySem.KeyKind prog w vm where
 is:=sV
 hash:=a8f w
 inj:=λv a b ha hb=>by
  rcases bq ha with⟨i,t,rfl,rfl⟩|⟨x,t,rfl,rfl⟩
  ·rcases bq hb with⟨j,u,rfl,e⟩|⟨y,u,rfl,e⟩
   ·ext d7K
   ·show nomatch e
  ·rcases bq hb with⟨j,u,rfl,e⟩|⟨y,u,rfl,e⟩
   ·show nomatch e
   ·ext d7K
 byValue:=λk v h=>by
  rcases bq h with⟨i,t,rfl,rfl⟩|⟨x,t,rfl,rfl⟩ <;> rfl
 pyHash:=λhv h=>by
  rcases bq hv with⟨i,t,rfl,rfl⟩|⟨x,t,rfl,rfl⟩
  ·show wpAny_pyHash_int h
  ·show wpAny_pyHash_str h
 eqBool:=λhu hv h=>by
  rcases bq hu with⟨i,t,rfl,rfl⟩|⟨x,t,rfl,rfl⟩
  ·rcases bq hv with⟨j,u,rfl,rfl⟩|⟨y,u,rfl,rfl⟩
   ·rw[a1e]at h;show wpAny_eqBool_int h
   ·rw[a1d]at h;show SeqAt.EqAt.int_str i t y u _ _ _ _ h
  ·rcases bq hv with⟨j,u,rfl,rfl⟩|⟨y,u,rfl,rfl⟩
   ·rw[a1b]at h;show SeqAt.EqAt.str_int x t j u _ _ _ _ h
   ·rw[a1a]at h;show wpAny_eqBool_str h
 «strs»:=λk x t v h=>by
  rcases bq h with⟨i,u,rfl,e⟩|⟨y,u,rfl,e⟩
  ·show nomatch e
  ·injection e with e1 _
   subst e1
   cases v <;> rfl
def c1W (prog)(w)(i:Int)(t:Tok):(aZ prog w).is (.inl i) xS=true:=a9h i t
def a6s (prog)(w)(x)(t:Tok):(aZ prog w).is mT (.str x t)=true:=a8V x t
inductive V where
 |non|bl (b:Bool)|int (i:Int)|str (x:Str)|byt (b:Array UInt8)|flt (b:UInt64)|ref (a:Addr)|ty (n:String)
 deriving DecidableEq
theorem ue:V->Value->Prop
 | .non,u=>u=Value.none
 | .bl b,u=>u=Value.bool b
 | .int i,u=>∃ t,u=Value.int i t
 | .str x,u=>∃ t,u=Value.str x t
 | .byt b,u=>∃ t,u=Value.bytes b t
 | .flt b,u=>∃ t,u=Value.float b t
 | .ref a,u=>u=Value.ref a
 | .ty n,u=>u=Value.type n
abbrev A8:List V->List Value->Prop:=Paired ue
def A8.length (r:e0I us):xs.length=us.length:=Paired.length r
abbrev _root_.π:=List V
abbrev _root_.θ:=List Value
def A8.get:∀ {xs:π}{us:θ}{i:Nat}{x:V},e0I us->xs[i]?=!x->∃ u,us[i]?=!u/\ue x u:=by
 intro xs us i x h
 induction h generalizing i with
 | nil=>intro e;simp at e
 | cons r t ih=>
  intro e
  cases i with
  | zero=>simp_all
  | succ i=>show ih EA
def A8.set (r:e2Q u):∀ {xs:π}{us:θ} (i:Nat),e0I us->A8 (xs.set i x) (us.set i u)
 | _,_,_,.nil=>.nil
 | _,_,0,e8b t=>e8c t
 | _,_,i+1,.cons q t=>.cons q (A8.set r i t)
def A8.append:∀ {xs ys:π}{us ws:θ},e0I us->e8d ws->A8 (xs++ys) (us++ws):=by
 intro xs ys us ws h s
 induction h with
 | nil=>show s
 | cons r _ ih=>show .cons r ih
def A8.take:∀ {xs:π}{us:θ} (n:Nat),e0I us->A8 (xs.take n) (us.take n)
 | _,_,0,_=>.nil
 | _,_,_+1,.nil=>.nil
 | _,_,n+1,e8c t=>e8c (A8.take n t)
def A8.drop:∀ {xs:π}{us:θ} (n:Nat),e0I us->A8 (xs.drop n) (us.drop n)
 | _,_,0,r=>r
 | _,_,_+1,.nil=>.nil
 | _,_,n+1,e8b t=>A8.drop n t
theorem PV:Option V->Option Value->Prop
 | some v,some u=>e5V u
 | none,none=>True
 | _,_=>False
theorem KV {κ:Type}:List (κ×V)->List (κ×Value)->Prop:=Paired λ(p:κ×V) (q:κ×Value)=>p.1=q.1/\ue p.2 q.2
theorem kV:vm->V
 | .inl i=>.int i
 | .inr x=>.str x
abbrev _root_.Ó:=Array Value
abbrev _root_.Ï:=List (Str×V)
abbrev _root_.ξ:=List (vm×V)
inductive HO where
 |lst (xs:π)
 |tup (xs:π)
 |dK (ķ:ξ)|dT (ķ:List dE)
 |set (S:Int->Bool) (n:Nat)
 |ins (C dx:Addr) (fs:Ï)
 |own (x:Addr)
 |xd (fs:Ï)
 |met (f x:Addr)
 |rng (lo hi:Int)
 |frz (o:Obj) (u:HO)
 |tbl (ps:Ó)
 |ext (φ:Heap->Prop)
abbrev Hp:=Addr->Option HO
theorem upd (H)(a)(o:HO):Hp:=λb=>if b=a then some o else H b
def ae:f0I o a=!o:=by unfold upd;ext d6l
def a9 (h:b≠a):f0I o b=H b:=by unfold upd;rw[if_neg h]
def bz {H:Hp}(h:H a=!o)(h':H b=!u)(d:o≠u):a≠b:=by ext d8f;show d (Option.some.inj h')
def aj {H:Hp}(h:H a=!o)(h':H b=none):a≠b:=by ext d8f;cases h'
section
variable (P:É)(w:World)
theorem Mc (H)(c78)(a):HO->Prop
 | .lst xs=>xs.length<=sizeLine/\∃ (its:θ)(n:Nat),e0I its/\h.get? a=!{ cls:=.type "list",data:=e1P n }
 | .tup xs=>xs.length<=sizeLine/\∃ its:θ,e0I its/\IsTup h a its.toArray
 | .dK ķ=>ķ.length<=sizeLine/\(a==sysModules)=false/\∃ vs,KV ķ vs/\h.DictOf qL a vs
 | .dT ķ=>ķ.length<=sizeLine/\(a==sysModules)=false/\∃ xs:List Bc,
   Paired (λ(p:List vm×V) (q:List vm×Addr×Value)=>p.1=q.1/\H q.2.1=!.tup (p.1.map kV)/\ue p.2 q.2.2) ķ xs/\
   ∃ o es ep,h.get? a=!o/\o.ExactDict/\o.data=.dict es ep/\es.toList=xs.map (entryOfKey (tupleKind qL))/\(xs.map (·.1)).Nodup
 | .set S n=>h.SetOf (intKind P w) a S n
 | .ins C dx fs=>H dx=!.own a/\fs.length<=1000/\dx≠a/\h.get? a=!W.instObj C dx/\
   ∃ mA,h.Ns1 dx mA/\(∀ f,PV qV (mA f))/\PySem.Within mA (fs.map (·.1))
 | .own _=>∃ o,h.get? a=!o
 | .xd fs=>∃ mA,h.Ns1 a mA/\∀ f,PV qV (mA f)
 | .rng lo hi=>∃ t u v,h.get? a=!{ cls:=.type "range",data:=.fields [uO].toArray }
 | .frz o u=>h.get? a=!o/\Mc H h a u
 | .tbl ps=>h.get? a=!{ cls:=.none,data:=.fields ps }
 | .met f x=>h.get? a=!W.methodObj oh AD
 | .ext φ=>φ h/\(∃ o,h.get? a=!o)/\∀ h1 h2:Heap,φ h1->(∀ o,h1.get? a=!o->h2.get? a=!o)->φ h2
theorem Po (H)(c78):Prop:=∀ a o,H a=!o->e36 a o
universe e
def fA (c9I):∃ ob,h.get? a=!ob:=by
 cases o with
 | lst xs=>let⟨_,_,_,_,e⟩:=x;ext d65
 | tup xs=>let⟨_,_,_,ob,e,_⟩:=x;ext d65
 | dK ķ=>ext d5K
 | dT ķ=>ext d5K
 | set S n=>let⟨o,_,_,_,e,_⟩:=x;ext d65
 | ins C dx fs=>let⟨_,_,_,e,_⟩:=x;ext d65
 | own y=>let⟨_,e⟩:=x;ext d65
 | xd fs=>let⟨_,⟨_,_,_,e,_⟩,_⟩:=x;ext d65
 | rng lo hi=>let⟨_,_,_,e⟩:=x;ext d65
 | frz ob u=>let⟨e,_⟩:=x;ext d65
 | tbl ps=>show#[_,x]
 | met f y=>show#[_,x]
 | ext φ=>let⟨_,⟨_,e⟩,_⟩:=x;ext d65
def Mc.lt (c9I):a<h.objs.size:=let ⟨_,e⟩:=fA x;HG e
def Paired.O2:∀ {l₁:List α}{l₂:List β},e3e l₁ l₂->(∀ a b,F a b->G a b)->Paired G l₁ l₂:=by
 intro l m h f
 induction h with
 | nil=>show .nil
 | cons r _ ih=>show .cons (f _ _ r) ih
def Paired.imp' (f:∀ a b,F a b->G a b)(d2n):Paired G l₁ l₂:=Paired.O2 r f
def Mc.Nb (c9I)(k:∀ b u,(b=a\/H b=!.own a)->h.get? b=!u->h'.get? b=!u)(ho:∀ b,H b=!.own a->H' b=!.own a)(ht:∀ b xs,H b=!.tup xs->H' b=!.tup xs):f0J H' h' a o:=by
 induction o with
 | lst xs=>let⟨z,its,n,r,e⟩:=x;show#[rM,e3N e]
 | tup xs=>let⟨z,its,r,ob,e,c⟩:=x;show#[z,its,r,ob,mh]
 | dK ķ=>let⟨z,y,vs,r,ob,es,ep,e,c⟩:=x;show#[z,y,vs,r,ob,oQ,mh]
 | dT ķ=>
  let#[z,y,xs,r,ob,oQ,e,c]:=x;show#[z,y,xs,Paired.O2 r λp q z=>#[z.1,ht _ _ z.2.1,z.2.2],ob,oQ,mh]
 | set S n=>let⟨ob,es,ep,t,e,c⟩:=x;show#[ob,oQ,t,mh]
 | ins C dx fs=>
  let#[d,z,ne,e,mA,#[od,oQ,e2,c],r]:=x;show#[ho _ d,z,ne,e3N e,mA,#[od,oQ,k _ _ (.inr d) e2,c],r]
 | own y=>let⟨ob,e⟩:=x;show#[ob,e3N e]
 | xd fs=>let⟨mA,⟨od,es,ep,e,c⟩,r⟩:=x;show#[mA,#[od,oQ,mh],r]
 | rng lo hi=>let⟨t,u,v,e⟩:=x;show#[t,u,v,e3N e]
 | frz ob u ih=>let⟨e,q⟩:=x;show#[e3N e,ih q]
 | tbl ps=>
  let e:=x;show k a _ Ļ e
 | met f y=>
  let e:=x;show k a _ Ļ e
 | ext φ=>let⟨p,⟨o,e⟩,st⟩:=x;show#[st _ _ p λo q=>e3N q,#[o,e3N e],st]
def Po.lt (c9h)(e:H a=!o):a<h.objs.size:=(x a o e).lt
def Po.fresh (c9h)(e:h.objs.size<=a):H a=none:=by
 cases q:H a with
 | none=>rfl
 | some u=>show absurd (Ip (x.lt q) e) D3
def Po.kept (c9h)(c7P):e5W H h':=λa o e=>
 (x a o e).Nb (λb u _ q=>k b u q) mD λf2p=>q
def Po.laid (c9h)(d2o)(new:f0J zj h' a o):e5W zj h':=λb u e=>by
 let hn:=x.fresh hp;by_cases hb:b=a
 ·grind [ae]
 ·rw[a9 hb]at e;show (x b u e).Nb (λc v _ q=>k c v q) (λc q=>by rw[a9<|aj q hn];show q) λc xs q=>by rw[a9<|aj q hn];show q
theorem Rd (H)(a)(u:HO):Prop:=H a=!u\/∃ o,H a=!.frz o u
def Rd.ok (r:e7i u)(c9h):e36 a u:=by
 rcases r with r|⟨o,r⟩
 ·show x a u r
 ·let#[_,q]:=x a _ r;show q
theorem sk:Option HO->Prop
 | some (.lst _)=>True
 | some (.dK _)=>True
 | some (.dT _)=>True
 | some (.set _ _)=>True
 | some (.ins _ _ _)=>True
 | some (.ext _)=>True
 | _=>False
def Po.write (c86)(c8w)(new:f0J (d86 x o') h' x o'):e5W (d86 x o') h':=λe9r=>by
 let a73:∀ c y,H c=!.own y->c≠x:=λc y r z=>by subst z;rw[r]at mu;show mu
 let a72:∀ c xs,H c=!.tup xs->c≠x:=λc xs r z=>by subst z;rw[r]at mu;show mu
 by_cases hb:b=x
 ·grind [ae]
 ·rw[a9 hb]at q;by_cases Wm:b=e
  ·let q':H b=!.own x:=by
    simp_all
   rw[q]at q';cases q';let#[v,hv]:=heo;show#[v,by rw[Wm];show hv]
  ·show (ok b u q).Nb (λc v hc r=>k c v ?_ r) (λc r=>by rw[a9<|a73 c b r];show r) λc xs r=>by rw[a9<|a72 c xs r];show r
   grind
abbrev _root_.υ:=List Addr
structure Un (fs ex:υ)(H H':Hp)(h h':Heap):Prop where
 keep:∀ b o,h.get? b=!o->H b=none->b∉fs->b∉ex->h'.get? b=!o
 slot:∀ b o,h.get? b=!o->H b=none->b∈fs->b∉ex->∃ sl,h'.get? b=!{ o with slots:=sl }
 free:∀ b o,h.get? b=!o->H b=none->b∉ex->H' b=none
 there:∀ b o,h.get? b=!o->b∉ex->∃ o',h'.get? b=!o'
 QF:∀ b xs,H b=!.tup xs->H' b=!.tup xs
 Qi:∀ b o u,H b=!.frz o u->H' b=!.frz o u
section
variable {fs ex:υ}{H:Hp}{h h':Heap}{a:Addr}{o:HO}
def Un.any (u:e37 H1 h h1)(q:h.get? b=!ob)(n:H b=none)(hx:b∉ex):∃ sl,h1.get? b=!{ ob with slots:=sl }:=by
 by_cases hb:b∈fs
 ·show u.slot b ob q n hb hx
 ·show#[ob.slots,u.keep b ob q n hb hx]
def Un.kept (c7P):e37 H h h':=
 #[λb ob q e0j=>k b ob q,λb ob q e0j=>#[ob.slots,k b ob q],λe0j n _=>n,λb ob q _=>#[ob,k b ob q],λf2p=>q,λe0j q=>q]
def Un.refl:e37 H h h:=Un.kept λf2p=>q
def Un.laid (d2o)(hn:H a=none):e37 zj h h' where
 keep:=λe9r e0j=>k b u q
 slot:=λe9r e0j=>#[u.slots,k b u q]
 free:=λe9r n _=>by rw[a9<|Ib (Ip (HG q) hp)];show n
 there:=λe9r _=>#[u,k b u q]
 QF:=λb xs q=>by rw[a9<|aj q hn];show q
 Qi:=λb u xs q=>by rw[a9<|aj q hn];show q
def Un.write (c8w):e37 zr h h':=by
 let hx:∀ b,H b=none->b≠x:=λb n z=>by subst z;rw[n]at mu;show mu
 let hb:∀ b,H b=none->b≠e:=λb n z=>by
  simp_all
 let hm:∀ b u,H b=!u->¬ sk !u->b≠x:=λe9r nm z=>by simp_all
 show#[λe9r n _ _=>f1U q,λe9r n _ _=>#[u.slots,f1U q],λe9r n _=>by rw[a9<|hx b n];show n,λe9r _=>?_,
  λb xs q=>by rw[a9<|hm b _ q λz=>z];show q,λb u xs q=>by rw[a9<|hm b _ q λz=>z];show q]
 by_cases Wm:b=e
 ·subst Wm;show heo
 ·show#[u,k b u Wm q]
universe e
theorem trk (c78)(H):υ:=(List.range h.objs.size).filter λa=>(H a).isSome
theorem rQ (c78)(H):Heap:=W.hideAll h (trk h H)
def b89 (c78)(H):(rQ h H).objs.size=h.objs.size:=W.hideAll_size _ _
def a8q (e:h.get? b=!o)(n:H b=none):(rQ h H).get? b=!o:=
 W.hideAll_get _ e λhm=>by
  let q:=(HN.mp hm).2
  simp_all
def b5J (e:(rQ h H).get? b=!o):h.get? b=!o/\H b=none:=by
 let e':=f1V e;show#[e',?_]
 cases q:H b with
 | none=>rfl
 | some x=>
  let hm:b∈trk h H:=HN.mpr #[IB.mpr<|HG e',by simp[q]];let z:(rQ h H).get? b=none:=W.hideAll_none _ hm;ext d54
theorem Ox (c78)(ea):Prop:=∃ oe ws,h.get? ea=!oe/\oe.data=.fields ws/\ws[2]?=!.none
def Ox.at (x:Ox h ea)(k:∀ o,h.get? ea=!o->h'.get? ea=!o):Ox h' ea:=let ⟨oe,ws,a,b,c⟩:=x;#[pH,k _ a,b,c]
def c6v:entryFor table "proto.unchain"=some Builtin.«proto.unchain»:=entryFor_of_tree ŝ
abbrev _root_.Ë:=Around
theorem Ca (A:Ë)(c78)(it):Prop:=A.handled=none\/∃ ea,A.handled=!.ref ea/\ea≠it/\Ox h ea
def Ca.at (c8V):A.handled=none\/∃ ea,A.handled=!.ref ea/\Ox h' ea:=x.imp id λJ'=>by let#[ea,C8]:=J';show#[ea,a,c.at λo=>k ea o b]
def Ca.to (c8V):Ca A h' it:=x.imp id λJ'=>by let#[ea,C8]:=J';show#[ea,a,b,c.at λo=>k ea o b]
def a64 (c:e8e a)(ha:s.heap.get? a=!oa)(hd:oa.data=.fields vs)(hz:2<vs.size)(h:∀ h',(∀ b o,b≠a->s.heap.get? b=!o->h'.get? b=!o)->(∃ o,h'.get? a=!o/\o.cls=oa.cls)->E kX { s with heap:=h' }):e0f (raiseNew kX:Sem α) Q E s:=by
 show Hk (wpAny_handled ?_);rcases c with hh|⟨ea,hh,ne,oe,ws,he,hde,h2⟩
 ·rw[hh];show Hk (Hr<|wpAny_throw (h _ (λe76 e=>e) #[_,ha,1]))
 ·rw[hh];change wpAny _ _ (if _=true then _ else throw _) _ _ s;rw[if_pos<|by simpa using ne];show Hk<|IL (wpAny_runValue (JP c6v ?_));show Hk (IR he hde h2 ?_);ext d4e;ext d3U;show IM ha hd hz (wpAny_throw<|h _ (λf2q=>(Ie _ _<|Ne.symm n).trans e) #[_,Io _ ha<|IY (Iy hd _),K5 ..])
def dh (c7G)(h:∀ h' e,vZ->(∃ o,h'.get? e=!o/\o.cls=.type "StopIteration")->E iM { s with heap:=h' }):e0f (newExc wf [] >>= λx=>(raiseNew x:Sem α)) Q E s:=by
 ext d3U;show Hk b8f;show Hk (wpAny_of_eq (by first|rfl|(rfl)) ?_);ext d8r;let un:∀ b o,s.heap.get? b=some o->∀ p,b≠(s.heap.push p).objs.size:=λe0D p=>by rw[Ja];show Ib (JL<|HG e)
 let up:∀ b o,s.heap.get? b=!o->∀ p q,((s.heap.push p).push q).get? b=!o:=λe0D p q=>Hn _<|Hn _ e;show a64 (c.imp id λJ'=>(by let#[ea,a,pH,b,d]:=J';show#[c6J,up _ _ b _ _,d])) (HD _ rfl) rfl (by simp only[Array.size_append,IV,I0];lia)
  λh' k t=>h _ _ (λe0D=>k b o (un b o e _)<|up b o e _ _) t
def a45 {items}(hh)(hit:s.heap.IsListIter it l i)(d1C)(c9Q):e0X s:=by
 ext d4a;let#[FV]:=hl;show Hk (Jl (e2I slot_listiter_next
  (d9c slot_listiter_next entry_listiter_next args_listiter_next)))
 ext d7r
def b1h {items}(hh)(hit:s.heap.IsTupleIter it t i)(ht:s.heap.IsTuple t items)(c9Q):e0X s:=by
 ext d4a;let#[FV]:=ht;show Hk (Jl (e2I F.slot_tuple_iterator_next
  (d9c F.slot_tuple_iterator_next F.entry_tuple_iterator_next F.args_tuple_iterator_next_1)))
 ext d7r
def b0B {step:Int}(hh)(hit:IsRangeIter s.heap it x left step)(a4V:left<=0)(hQ):e0X s:=by
 let hT:s.TypeIs ĸ "range_iterator":=#[_,hit,1]
 show Hk (Jl (Ix hT F.slot_range_iterator_next
  (IF F.slot_range_iterator_next hT F.entry_range_iterator_next ?_<|F.args_range_iterator_next_1 _)))
 change wpAny _ _ a9u _ _ s;show Hk GE;show Hk GE;show Hk GE;change wpAny _ _ (if left<=0 then _ else _) _ _ s;rw[if_pos a4V];show Hk (Kw ?_);ext d3U;show dh (hh.at λf2r q=>q) fun h' e hk ⟨o,ho,hc⟩=>Hk Du;show Hr (hQ _ λe0u x=>hk b o<|x)
def Ft {items}(hh)(hit:IsTupIter s.heap it t i)(ht:IsTup s.heap t items)(c9Q):e0X s:=by
 ext d4a;let#[FV]:=ht;show Hk (Jl (e2I slot_tupleiter_next
  (d9c slot_tupleiter_next entry_tupleiter_next args_tupleiter_next)))
 ext d7r
def ka (c7I)(hQ:∀ h',e1d h'->Q items.toList { s with heap:=h' }):e0f (unpackItems rT items.size none) Q E s:=by
 let NU:t≠s.heap.objs.size:=by let#[o,ho,_]:=ht;show Ib (HG ho)
 ext d3U
 ·show Hk (Ls ht.typeIs slot_tuple_iter.lookup ?_);ext d4e;show Hk<|IL (iter_tuple ht ?_);show Hk<|IL (draw_tuple NU items.size 0 _ _ ⟨_,HD _ rfl,rfl,rfl⟩ (ht.push _) #[0] λh₁ hit₁ hs₁=>?_);let Rp:List.take items.size (List.drop 0 items.toList)=items.toList:=by show Jf Ĕ
  rw[Rp];rw[if_neg<|by simp];let ht₁:=(ht.push _).extBut hs₁.extBut NU;show Hk<|IL (Ft (hh.to λf2r q=>hs₁.extBut ea o ne<|Hn _ q) hit₁ ht₁ (by simp) λh₂ he₂=>?_);show Hr (hQ h₂ λe3L=>he₂ b o hb<|hs₁.extBut b o hb (Hn _ e))
def a2K (c7I)(hn:targets.length=items.size)(Xf:targets.findIdx? (·.1)=none)(h:∀ h',e1d h'->e0f (assignInOrder (targets.map (·.2)) items.toList) Q E { s with heap:=h' }):
  wpAny Ē A (unpack rT targets) Q E s:=by
 unfold unpack;rw[hn,Xf];show Hk (IL<|ka hh ht h)
def f2H {x1}(c7I)(hn:(e4R env).length=items.size)(Xf:(e4R env).findIdx? (·.1)=none)(h:∀ h',e1d h'->e0f (assignInOrder ((e4R env).map (·.2)) items.toList) Q E { s with heap:=h' }):
  wpAny Ē A (assign (.Tuple elts x1 pos) env rT) Q E s:=by
 show Hk (Le<|a2K hh ht hn Xf h)
abbrev _root_.ψ:=Option Addr
structure mL extends Heap where
 err:ψ
instance : CoeOut mL Heap := ⟨mL.toHeap⟩
abbrev Hd (b:mL)(A:Ë):Prop:=A.handled=b.err.map Value.ref
abbrev _root_.Î:=Option Value
abbrev _root_.Ω:=Str->Î
abbrev _root_.Ψ:=W.Frag
structure Mod (c9a)(base:mL):Prop where
 Wa:K.In base
 glob:base.Ns mainGlobals mg
 blt:∃ mb,base.Ns builtinsNs mb/\∀ x:Str,x≠"__name__"->mb x=bootBuiltins x
 nolimit:base.NoLimit
 a8b:∀ ea,base.err=!ea->Ox base ea
abbrev _root_.Ê:=Shared
abbrev _root_.ρ:=Value->Shared->Prop
abbrev _root_.η:=List Str
abbrev _root_.ζ:=List (Addr×Obj)
structure Cx where
 prog:É
 w:World
 K:Ψ
 mg:Ω
 base:mL
 A:Ë
 N:η
 s₀:Ê
 H₀:Hp
 env:Env
 outer:List Env
 stack:List Env
 ex:υ
 fn:Str->Bool
 calm:Bool
 pn:ζ
 xe:ρ
theorem Ra (l:List Env):υ:=l.filterMap sI
abbrev Cx.fs (X:Cx):υ:=Ra X.outer
theorem F6 (sc)(x):Prop:=sc.names.lookup x=!.local\/sc.names.lookup x=!.cell\/sc.names.lookup x=!.free
theorem Ey (sc)(x):Prop:=sc.names.lookup x=!.local\/sc.names.lookup x=!.cell
theorem b8C (env:Env)(c78)(m:Ω)(x)(u):Prop:=
 (env.kindOf x=!.local/\m x=!u)\/((env.kindOf x=!.cell\/env.kindOf x=!.free)/\∃ c,env.cells.lookup x=!c/\h.IsCell c !u)
structure Cx.Ok (X:Cx):Prop where
 mod:Mod X.K X.mg X.base
 kind:X.env.scope.kind=.function
 glob:X.env.globals=mainGlobals
 blt:X.env.builtins=builtinsNs
 above:X.s₀.heap.objs.size<=X.env.locals
 inj:∀ x y c,X.env.cells.lookup x=!c->X.env.cells.lookup y=!c->x=y
 has:∀ x,(d9h x)->∃ c,X.env.cells.lookup x=!c
 cab:∀ x c,X.fn x=true->X.env.cells.lookup x=!c->X.s₀.heap.objs.size<=c
 hd:X.calm=true->Hd X.base X.A
 frames:X.A.frames=!X.stack
 VD:X.stack=X.outer \/ (X.stack=X.env::X.outer/\X.env.frame=!X.env.locals)
 exf:∀ b∈X.ex,b≠X.env.locals/\∀ x c,X.env.cells.lookup x=!c->c≠b
 bs:∀ b o,X.base.get? b=!o->X.s₀.heap.get? b=!o/\X.H₀ b=none
 WL:X.base.objs.size<=X.s₀.heap.objs.size
 U2:∀ b o,X.base.get? b=!o->b∉X.ex
 Ws:∀ b∈X.ex,b∉X.fs
 Qs:X.s₀.heap.FunFrames X.base X.outer
 Xu:∀ b∈X.fs,X.H₀ b=none
abbrev _root_.Ç:=Option V
structure Inv (X:Cx)(ñ:ζ)(σ:List Ç)(H:Hp)(s:Ê):Prop where
 ok:X.Ok
 os:s.os=X.s₀.os
 bare:AllBare s.gens
 base:Un X.fs X.ex X.H₀ H X.s₀.heap s.heap
 loc:∃ m,s.heap.Ns X.env.locals m/\∀ (i:Nat)(x:Str)(v:V),X.N[i]?=!x->σ[i]?=!some v->F6 X.env.scope x->∃ u,ue v u/\b8C X.env s.heap m x u
 cell:∀ x c,X.env.cells.lookup x=!c->∃ v,s.heap.IsCell c v
 free:H X.env.locals=none
 Nd:∀ x c,X.env.cells.lookup x=!c->H c=none
 pin:∀ p∈X.pn++ñ,s.heap.get? p.1=!p.2/\H p.1=none/\p.1≠X.env.locals/\p.1∉X.fs/\∀ v,p.2.data≠.cell v
 LY:Po X.prog X.w H s.heap
 len:σ.length=X.N.length
def Cx.Ok.X4 {X:Cx}(ok:X.Ok)(e:X.base.get? b=!o):b∉X.fs:=λhb=>by
 let:=(ok.Qs.mem hb).1
 grind
def Inv.bs (I):∀ b o,X.base.get? b=!o->s.heap.get? b=!o/\H b=none:=λe0D=>
 #[e4S (e4T e).1 (e4T e).2 (I.ok.X4 e)<|I.ok.U2 b o e,e3O o (e4T e).1 (e4T e).2<|I.ok.U2 b o e]
def Inv.bk (I):∀ b o,X.base.get? b=!o->s.heap.get? b=!o:=λe0D=>(I.bs b o e).1
def Inv.ca (I)(hc)(n:∀ o,X.base.get? it≠!o):e6o it:=by
 let:=I.ok.hd hc
 cases q:X.base.err with
 | none=>show .inl (by rw[this,q];rfl)
 | some ea=>
  let#[pH,a,b]:=I.ok.mod.a8b ea q;show .inr #[ea,by rw[this,q];rfl,λz=>n oe<|z▸a,oe,ws,(I.bs _ _ a).1,b]
def Inv.caN (I)(hc):e6o s.heap.objs.size:=I.ca hc λo e=>absurd (HG (I.bs _ _ e).1) D3
def Inv.caF (I)(hc)(f:it∈X.ex\/X.s₀.heap.objs.size<=it):e6o it:=I.ca hc λo e=>f.elim (I.ok.U2 _ _ e) λz=>absurd (Ip (HG (I.ok.bs _ _ e).1) z) D3
def Inv.Qn (I)(hc)(hn:X.base.err=none):X.A.handled=none:=by rw[I.ok.hd hc,hn];rfl
def Inv.mod (I):Mod X.K X.mg X.base:=I.ok.mod
def Inv.Oh (I):X.K.In s.heap:=I.ok.mod.Wa.keeps I.bk
def Inv.lt (I):X.env.locals<s.heap.objs.size:=let ⟨_,hn,_⟩:=I.loc;hn.lt
def Inv.sz (I):X.s₀.heap.objs.size<=s.heap.objs.size:=HU I.ok.above (Km I.lt)
def Inv.a3X (I)(h:s.heap.objs.size<=a):a∉X.fs:=λhb=>by let#[_,o,ho,_]:=I.ok.Qs.mem hb;show absurd (Ip (HG ho)<|HU I.sz h) D3
def Inv.XA (I):∀ x c,X.env.cells.lookup x=!c->c≠X.env.locals:=λx c e z=>by
 ext d8s;let#[m,#[o',oQ,ho',Sx,_],_]:=I.loc
 grind
def Inv.Qs (I):e2J X.outer:=by
 let all:∀ (l:List Env),(∀ b∈Ra l,b∈X.fs)->X.s₀.heap.FunFrames X.base l->e2J l:=by
  intro l
  induction l with
  | nil=>intro _ _;trivial
  | cons env r ih=>
   intro hs hl;let#[hk,#[L,o,hf,hn,ho,hd],hr]:=hl;let hL:=hs L (by unfold Ra;rw[KL,hf];show HS);let#[sl,e]:=I.base.slot L o ho (I.ok.Xu L hL) hL λz=>I.ok.Ws L z hL;show#[hk,#[L,_,hf,hn,e,hd],ih (λe1C=>hs b (by unfold Ra;rw[KL,hf];show HM _ hb)) hr]
 show all X.outer (λ_ hb=>hb) I.ok.Qs
def Inv.stack (I):e2J X.stack:=by
 ext d60
 ·rw[e];show I.Qs
 ·rw[e];let#[m,hn,_]:=I.loc;show .cons (by rw[I.ok.kind];decide) hf hn ?_ I.Qs;show Heap.get?_none_of_le (e9A I.ok.above)
def Inv.Ve (I):∀ b∈Ra X.stack,b∈X.env.locals::X.fs:=λe1C=>by
 ext d60
 ·simp_all
 ·rw[e]at hb;unfold Ra at hb;rw[KL,hf]at hb;show hb
def Inv.P6 (I):∀ b∈Ra X.stack,H b=none:=λe1C=>by
 rcases HK.mp (I.Ve b hb) with e|hb
 ·rw[e];show I.free
 ·let#[_,o,ho,_]:=I.ok.Qs.mem hb;show I.base.free b o ho (I.ok.Xu b hb) λz=>I.ok.Ws b z hb
def Inv.step {ch:υ}(I)(XW)(keep:∀ b o,b≠X.env.locals->b∉X.fs->b∉ch->s.heap.get? b=!o->H b=none->h'.get? b=!o)(slot:∀ b o,b≠X.env.locals->b∈X.fs->b∉ch->s.heap.get? b=!o->H b=none->∃ sl,h'.get? b=!{ o with slots:=sl })(free:∀ b o,b∉ch->s.heap.get? b=!o->H b=none->H' b=none)(there:∀ b o,b∉ch->s.heap.get? b=!o->∃ o',h'.get? b=!o')(QF:∀ b xs,H b=!.tup xs->H' b=!.tup xs)(Qi:∀ b o u,H b=!.frz o u->H' b=!.frz o u)(ns:∀ m,s.heap.Ns X.env.locals m->h'.Ns X.env.locals m)(LY)(hg:AllBare g'):
  Inv X ñ σ H' { s with heap:=h',gens:=g',drawn:=d',toks:=t' }:=by
 ext d3n;let neC:∀ b o,X.s₀.heap.get? b=some o->b∉X.ex->b∉ch:=λe0D hx hb=>by
  rcases (XW b hb).1 with z|z
  ·show hx z
  ·show absurd (Ip sv z) D3
 let cellK:∀ x c,X.env.cells.lookup x=!c->∀ v,s.heap.IsCell c v->h'.IsCell c v:=λx c e v J'=>by
  let#[jQ]:=J';let nch:=λz=>(XW c z).2.2.1 x c e rfl;by_cases hc:c∈X.fs
  ·let#[sl,q]:=slot c o (I.XA x c e) hc nch ho<|e6p e;show#[_,q,hd]
  ·show#[o,keep c o (I.XA x c e) hc nch ho<|e6p e,hd]
 show#[I.ok,I.os,hg,#[λe3o=>?_,λe3o=>?_,λe0D n hx=>?_,λe0D hx=>?_,λb xs e=>QF b xs<|e3u e,λb o xs e=>Qi b o xs<|e4U o xs e],tR,tR,λf0z=>?_,LY,I.len]
 ·show keep b o yx hb si b4X b6t
 ·ext d5Y;let#[sl',e2]:=slot b _ yx hb si e1<|e3O o e n hx;show#[sl',e2]
 ·ext d38;show free b o' si e1 b6t
 ·ext d38;show there b o' si e1
 ·ext d8t;show#[m,ns m hn,λi x v e1 e2 e3=>?_];let#[u,r,l]:=hl i x v e1 e2 e3;show#[u,r,?_];rcases l with l|⟨k,c,e,z⟩
  ·show .inl l
  ·show .inr #[k,c,e,cellK x c e _ z]
 ·let#[v,z]:=e5X e;show#[v,cellK x c e v z]
 ·let#[m,#[o,_,_,ho,_],_]:=I.loc;show free _ o (λz=>(XW _ z).2.1 rfl) ho I.free
 ·ext d8s;show free c o (λz=>(XW c z).2.2.1 x c e rfl) ho (e6p e)
 ·ext d4s;let nch:=λz=>(XW p.1 z).2.2.2 p hp rfl;show#[keep p.1 p.2 ne nf nch e n,free p.1 p.2 nch e n,ne,nf,d]
def Inv.un (I)(u:Un X.fs [] H H' s.heap h')(LY):e0c H' { s with heap:=h',toks:=t' }:=by
 ext d8g;let#[sl,hL]:=u.any ho I.free Ĕ;show I.step (ch:=[]) Ĵ (λe76 hb _ e n=>e5J hb<|by simp) (λe76 hb _ e n=>f1W hb<|by simp) (λe76 e n=>u.free b o e n<|by simp) (λe76 e=>e7j o e<|by simp) u.QF u.Qi (λm' hm=>by let#[o',UY,ZG,ho',r']:=hm;rw[ho]at ho';cases ho';show#[_,UY,ZG,hL,r']) LY I.bare
def Inv.call (I)(u:e4i h')(LY)(hg:AllBare g')(XW):
  Inv X ñ σ H' { s with heap:=h',gens:=g',drawn:=d',toks:=t' }:=by
 ext d8g;let#[sl,hL]:=u.any ho I.free λz=>(XW _ z).2.1 rfl;show I.step XW (λb o hL hb hc e n=>e5J (λz=>(HK.mp<|I.Ve b z).elim hL hb) hc) (λe3H n=>u.any e n hc) (λb o hc e n=>u.free b o e n hc) (λb o hc e=>e7j o e hc) u.QF u.Qi (λm' hm=>by let#[o',UY,ZG,ho',r']:=hm;rw[ho]at ho';cases ho';show#[_,UY,ZG,hL,r']) LY hg
def Inv.turned (I)(k:∀ b o,b≠it->s.heap.get? b=!o->h'.get? b=!o)(hn:H it=none)(hL:it≠X.env.locals)(h1:it∈X.ex\/X.s₀.heap.objs.size<=it)(h2:∀ x c,X.env.cells.lookup x=!c->c≠it)(h3:∀ p∈X.pn++ñ,p.1≠it):e0c H { s with heap:=h',toks:=t' }:=by
 let nit:∀ b u,H b=!u->b≠it:=λb u e z=>by grind
 show I.step (ch:=[it]) (λe1C=>?_) (λe3H _=>e19 e) (λe3H _=>#[o.slots,e19 e]) (λe0a n=>n)
  (λb o hc e=>#[o,e19 e]) (λ_ _ e=>e) (λe0j e=>e) (λm hm=>?_) (λb u e=>?_) I.bare
 ·let e:b=it:=by simpa using hb
  subst e;show#[h1,hL,h2,h3]
 ·let#[iR]:=hm;show#[yH,k _ o (Ne.symm hL) ho,r]
 ·show (I.LY b u e).Nb (λc v hc q=>k c v ?_ q) mD λf2p=>q;rcases hc with z|z
  ·rw[z];show nit b u e
  ·show nit c _ z
def Inv.tok (I)(t:Nat):e0c H { s with toks:=t }:=I.un (h':=s.heap) (t':=t) Un.refl I.LY
def Inv.kept (c9B):e0c H { s with heap:=h',toks:=t' }:=I.un (Un.kept k) (I.LY.kept k)
def Inv.laid (c9B)(hp:s.heap.objs.size<=a)(new:e1Z zj h' a o):
  Inv X ñ σ zj { s with heap:=h',toks:=t' }:=I.un (Un.laid k hp<|I.LY.fresh hp) (I.LY.laid k hp new)
def Inv.write (I)(mu)(he:e=x\/H e=!.own x)(k:∀ b u,b≠e->s.heap.get? b=!u->h'.get? b=!u)(heo)(new:e1Z zr h' x o):e0c zr { s with heap:=h',toks:=t' }:=I.un (Un.write mu he k heo) (I.LY.write mu he k heo new)
def Inv.VG (I)(h:∀ p∈QO,s.heap.get? p.1=!p.2/\H p.1=none/\p.1≠X.env.locals/\p.1∉X.fs/\∀ v,p.2.data≠.cell v):Inv X QO σ H s:=
 #[I.ok,I.os,I.bare,I.base,I.loc,I.cell,I.free,I.Nd,λf0z=>(HW.mp hp).elim (λz=>I.pin p<|Ir _ z)<|h p,I.LY,I.len]
def p7 {N:η}(hN:N.Nodup){i:Nat}(a:N[i]?=!x)(b:N[j]?=!x):i=j:=by let#[h1,e1]:=Ho.mp a;let#[h2,e2]:=Ho.mp b;show (List.getElem_inj hN).mp c0v
def Inv.unS (I)(ha:∀ b o,X.s₀.heap.get? b=!o->b≠a)(d02):Un X.fs X.ex X.H₀ H X.s₀.heap h':=
 #[λe3o=>(hs.2 b<|ha b o e).trans<|e4S e n hb hx,λe3o=>let ⟨sl,e1⟩:=e8f hb hx;#[sl,(hs.2 b<|ha b o e).trans e1],I.base.free,λe0D hx=>let ⟨o',e1⟩:=e3v o e hx;#[o',(hs.2 b<|ha b o e).trans e1],I.base.QF,I.base.Qi]
def a4Q (I)(c8n)(d0B)(h:∀ s',f1X s'->(∃ a,e2Y s'.heap/\(a=X.env.locals\/X.env.cells.lookup x=!a))->Q () s')(hf):e0x b8g Q E s:=by
 let#[c6C]:=id I.loc;let Ua:a3g=false:=by rw[I.ok.kind];rfl
 let hiσ:i<σ.length:=by rw[I.len];show (Ho.mp hi).1
 let XA:=I.XA;let tracked:∀ {a:Addr}{h':Heap},(∃ o,s.heap.get? a=!o/\H a=none)->e2Y h'->Po X.prog X.w H h':=λ{a h'} ha hs b ob e=>by
  let#[_,_,Xp]:=ha;ext d5L
  grind
 rcases hx with hk|hk
 ·show wpAny_storeName_local hk hn (λh' V4 hs=>?_) Ua;let#[oL,_,_,XS,_]:=id hn;show h _ #[Dr,I.unS (λe0D=>Ib<|Ip (HG e) I.ok.above) hs,⟨_,V4,λe7b=>?_⟩,λy c e=>?_,wx,tracked #[oL,XS,I.free] hs,by simpa using I.len] #[_,hs,.inl rfl]
  ·by_cases hj:j=i
   ·ext d7s;rw[KU hiσ]at e2
    cases e2;show#[u,r,.inl #[hk,by simp]]
   ·ext d2T;rcases q with⟨k,e⟩|⟨k,c,e,z⟩
    ·show .inl #[k,?_];let:y≠x:=λe=>hj<|p7 hN e1 (e▸hi);simp[this,e]
    ·show .inr b3F
  ·ext d4i
  ·ext d4s;show#[c5L]
 ·let hfn:X.fn x=true:=by
   grind
  let#[c,hc]:=I.ok.has x<|.inl hk;let#[w',z]:=e5X hc;show wpAny_storeName_cell I.ok.kind hk hc z (λh' Pq hs=>?_);let#[oc,hoc,b38]:=id z;show h { s with heap:=h' } #[Dr,I.unS (λe0D=>Ib<|Ip sv (I.ok.cab x c hfn hc)) hs,#[m,hn.sameBut hs<|Ne.symm (XA x c hc),λe7b=>?_],λy c' e=>?_,wx,tracked #[oc,hoc,e6p hc] hs,by simpa using I.len] #[c,hs,.inr hc]
  ·by_cases hj:j=i
   ·ext d7s;rw[KU hiσ]at e2
    cases e2;show#[u,r,.inr #[.inl hk,c,hc,Pq]]
   ·ext d2T;rcases q with q|⟨k,c',e,z'⟩
    ·show .inl q
    ·show .inr #[k,c',e,z'.sameBut hs ?_];rintro rfl;show hj (p7 hN e1<|I.ok.inj _ _ _ e hc▸hi)
  ·by_cases hcc:c'=c
   ·subst hcc;show#[_,Pq]
   ·let#[w2,z2]:=I.cell y c' e;show#[w2,z2.sameBut hs hcc]
  ·ext d4s;show#[(hs.2 p.1 ?_).trans e,qp];intro q
   simp_all
def g9 (I)(c8n)(d0B)(h:∀ s',f1X s'->Q () s')(hf):e0x b8g Q E s:=
 a4Q I hN hi hx r (λs' I' _=>h s' I') hf
def Inv.SA (I)(ho:s'.os=s.os)(u:e4i s'.heap)(LY:Po X.prog X.w H' s'.heap)(hg:AllBare s'.gens)(XW):e7Y s':=by let#[h',g',d',t',o']:=s';let e:=ho;subst e;show I.call u LY hg XW
abbrev _root_.Ù:=Hp->Prop
abbrev XK:=Value->Option Addr->Ù
abbrev St:=List Ç
abbrev VK:=V->Ù
abbrev TE:=St->Hp->VK->Prop
abbrev _root_.Ø:=Bool->Ù
abbrev TT:=St->Hp->Ø->Prop
abbrev TA:=St->Hp->(List V->Ù)->Prop
abbrev _root_.Υ:=St->Ù
structure Ends where
 nx:Υ
 rt:VK
 bk:Υ:=λ_ _=>False
 ct:Υ:=λ_ _=>False
abbrev TS:=Ends->Υ
theorem EP (d12)(Q)(u)(s'):Prop:=∃ v H',e7Y s'/\ue v u/\Q v H'
theorem TP (d12)(Q:Ø)(b:Bool)(s'):Prop:=∃ H',e7Y s'/\Q b H'
theorem AP (d12)(Q:List V->Ù)(us)(s'):Prop:=∃ vs H',e7Y s'/\A8 vs us/\Q vs H'
theorem SP (X)(ñ)(D:Ends)(f:Flow)(s'):Prop:=
 match f with
 | .next=>∃ σ' H',e0Z s'/\D.nx σ' H'
 | .brk=>∃ σ' H',e0Z s'/\D.bk σ' H'
 | .cont=>∃ σ' H',e0Z s'/\D.ct σ' H'
 | .ret u=>∃ v σ' H',e0Z s'/\ue v u/\D.rt v H'
theorem PE (X)(e:Expr)(t:TE):Prop:=
 ∀ (ñ:ζ)(s:Ê)(σ:St)(H:Hp)(Q:VK),e0c H s->e4V Q->e0h eV Ľ X.xe s
theorem PT (X)(e:Expr)(t:TT):Prop:=
 ∀ (ñ:ζ)(s:Ê)(σ:St)(H:Hp)(Q:Ø),e0c H s->e4V Q->e0h (e5K eV) DY X.xe s
theorem PW (X)(e:Expr)(t:TT):Prop:=
 ∀ (whole:Sem Value)(ñ:ζ)(s:Ê)(σ:St)(H:Hp)(Q:Ø),e0c H s->e4V Q->e0h (e5K whole) DY X.xe s
def PW.pt (h:PW X e t):e8U t:=h _
abbrev _root_.Ì:=List Expr
theorem PA (X)(es:Ì)(t:TA):Prop:=
 ∀ (pos:Pos)(ñ:ζ)(s:Ê)(σ:St)(H:Hp)(Q:List V->Ù),e0c H s->e4V Q->e0h (spliced (e01 b2d)) (AP X ñ σ Q) X.xe s
theorem PS (X)(st)(t:TS):Prop:=
 ∀ (ñ:ζ)(s:Ê)(σ:St)(H:Hp)(D:Ends),e0c H s->t D σ H->e0h (exec st X.env) (e4W D) X.xe s
abbrev _root_.Í:=List Stmt
theorem Qe (X)(st:Í)(t:TS):Prop:=
 ∀ (ñ:ζ)(s:Ê)(σ:St)(H:Hp)(D:Ends),e0c H s->t D σ H->e0h (execs st X.env) (e4W D) X.xe s
def Mn (h:e0x t Q E s)(hQ:∀ a s,Q a s->Q' a s):f0a s:=Jd h hQ λf0A=>x
def thE {X:Cx}{ñ:ζ}{σ:St}{Q:VK}{t:Sem Value}{Q':ρ}(d1q)(h:e0x t Ľ E s)(k:∀ u s1 v H,e0c H s1->e5V u->Q v H->Q' u s1):f0a s:=wpAny_mono h b0x λf0A=>x
def thA {X:Cx}{ñ:ζ}{σ:St}{Q:List V->Ù}{t:Sem θ}{Q':List Value->Shared->Prop}(d1q)(h:e0x t (AP X ñ σ Q) E s)(k:∀ u s1 v H,e0c H s1->A8 v u->Q v H->Q' u s1):f0a s:=wpAny_mono h b0x λf0A=>x
section
variable {X:Cx}
inductive cP (i:Nat)(σ:St)(c67):Prop
 |mk:∀ v,σ[i]?=!some v->Q v H->cP i σ H Q
theorem tC (v):TE:=λ_ H Q=>Q v H
def a0K (hN:X.N[i]?=!x)(hv:f0K x)(hd)(Tr):e8g D0:=by
 ext d2y;let#[v,e,h]:=h;ext d8t;let#[u,r,l]:=hl i x v hN e hv;let fin:e2Z u s:=jg
 ext d5C
 ·show wpAny_Name (wpAny_loadName_local I.ok.kind hk hn hm fin) hd
 ·rcases hk with hk|hk
  ·show wpAny_Name (wpAny_loadName_cell I.ok.kind hk hc VT fin) hd
  ·show wpAny_Name (wpAny_loadName_free I.ok.kind hk hc VT fin Tr) hd
def aJ {i j pos}:PE X (d9A tV) (tC tV):=λe3n=>wpAny_Constant_int #[.int i,cT,h]
def b5d {b j pos}:PE X (d9A (.bool b)) (tC yC):=λe3n=>Constant_bool #[.bl b,H,I,1,h]
def b1j {j pos}:PE X b68 (tC .non):=λe3n=>Constant_none #[.non,H,I,1,h]
def jB {x j pos}:PE X b8i (tC Zc):=λe3n=>Calls.Constant_str #[.str x,cT,h]
theorem Gl (X)(x):Prop:=X.env.kindOf x=!.globalImplicit
def cL (I)(c8L)(hm:X.mg x=!u)(h:Q u s)(hd):f0y s:=
 Calls.Name_function_global I.ok.kind hg (Calls.loadGlobal_global (by rw[I.ok.glob];show I.mod.glob.keeps I.bk) hm h) hd
def gH (I)(d1H)(h:Q u s)(c7H)(hd):f0y s:=by let#[mb,yi]:=I.mod.blt;show Calls.Name_function_global I.ok.kind hg (Calls.loadGlobal_builtin (by rw[I.ok.glob];show I.mod.glob.keeps I.bk) hm (by rw[I.ok.blt];show h1.keeps I.bk) ((h2 x hn).trans hv) h) hd
def gB (c8L)(hm:X.mg x=!u)(d0B)(hd):e8g (tC v):=
 λe3n=>cL I hg hm jg hd
def kr (d1H)(d0B)(c7H)(hd):e8g (tC v):=
 λe3n=>e38 hv jg hn hd
variable {a b:Expr}{ta tb:TE}
theorem a1v (X)(op:CmpOp)(a b:Expr)(t:TE):Prop:=
 ∀ (ñ:ζ)(s:Ê)(σ:St)(H:Hp)(Q:VK),e0c H s->e4V Q->
  wpAny ē X.A Gr (d82 (compareOp op v u) Ľ) X.xe s
inductive kTB (Q:Ø)(x:V)(H1:Hp):Prop
 |mk:∀ c,x=.bl c->Q c H1->kTB Q x H1
theorem tB (t:TE):TT:=λe0i=>t σ H λe3C=>kTB Q x H1
def a0E (h:a1v X op a b t)(h1:f0b b=false:=by first|exact a3Z _ (by decide) (by decide)|rfl):f0L (tB t):=by
 ext d55;show wpAny_isTrue_Compare1 (Mn wM λv s1 h1=>Mn h1 λu s2 h2=>Mn h2 λc s3 J'=>?_) h1;ext d3F;let#[d,1,q]:=q1
 ext d8u
def bA (h:e06 t)(he:∀ whole,e5K whole=(do let v <- whole;standAt e.pos;holding [v] (truthy v)):=Ă):e8U (tB t):=by
 ext d55;show isTrue_plain (Mn wM λv e6l=>?_)<|he _;ext d3F;let#[d,1,q]:=q1
 ext d8u
theorem a7w (t u:TT):TT:=λe0i=>t σ H λc H1=>if c=true then u σ H1 Q else Q false H1
theorem tOr (t u:TT):TT:=λe0i=>t σ H λc H1=>if c=true then Q true H1 else u σ H1 Q
theorem a3n (t:TT):TT:=λe0i=>t σ H λc H1=>Q (not c) H1
def dc (c9R):PW X (d9Z .And) tA:=by
 ext d4f;show isTrue_and b1v
 cases c with
 | true=>show isTrue_and_nil e
 | false=>show e
def cH (c9R):PW X (d9Z .Or) tA:=by
 ext d4f;show isTrue_or b1v
 cases c with
 | false=>show isTrue_or_nil e
 | true=>show e
def yI (c9R)(hb:PW X EB tB'):PW X UV (a7w tA tB'):=by
 ext d4f;show isTrue_and b8j;ext d8v
 cases c with
 | true=>ext d7k
 | false=>show#[sW]
def ww (c9R)(hb:PW X b4Y tB'):PW X b36 (tOr tA tB'):=by
 ext d4f;show isTrue_or b8j;ext d8v
 cases c with
 | true=>show#[sW]
 | false=>ext d7k
def iy (c9R):PT X A4 (a3n tA):=by ext d2y;show isTrue_not (d9Y ha (λc H1=>Q (not c) H1))
inductive El (tb:TE)(σ:St)(c8e):Prop
 |mk:∀ c,x=.bl c->(if c=true then tb σ H1 Q else Q zp H1)->El tb σ Q x H1
theorem a3s (ta tb:TE):TE:=λe0i=>ta σ H λe3C=>El tb σ Q x H1
inductive a4S (c8e):Prop
 |mk:∀ c,x=.bl c->Q (.bl (not c)) H1->a4S Q x H1
theorem a3m (ta):TE:=λe0i=>ta σ H λe3C=>a4S Q x H1
def oz {op}(h:PE X a t):PE X (d9Z op) t:=λe0V hw=>BoolOp_one (e8P hw)
def yO (d13)(hb:PE X EB tb):PE X UV (a3s ta tb):=by
 ext d2y;show BoolOp_and b8k;ext d3F;let#[c,1,q1]:=q1
 cases r1;show JK ?_
 cases c with
 | true=>ext d7X
 | false=>show#[.bl false,Ed,1,q1]
def DH (d13):PE X A4 (a3m ta):=by
 ext d2y;show UnaryOp_ b8k;ext d3F;let#[c,1,q1]:=q1
 cases r1;show not_of (JK #[.bl<|not c,H1,I1,1,q1])
theorem tIf (t:TT)(ta tb:TE):TE:=λe0i=>t σ H λc H1=>if c=true then ta σ H1 Q else tb σ H1 Q
def DK (hc:e8V tA)(c7b):PE X c0x (tIf tA ta tb):=by
 ext d2y;show wpAny_IfExp b0W;ext d8v
 cases d with
 | true=>show ha ñ s1 σ H1 Q I1 q1
 | false=>ext d7X
universe e
theorem Ma (K)(H)(a)(xs:π):Prop:=
 Rd H a lO \/
  ∃ (o:Obj)(its:Ó)(n:Nat),K.lookup a=!o/\o.cls=.type "list"/\o.dict=none/\o.data=.seq its n/\its.size<=sizeLine/\A8 xs its.toList
theorem Oi (K)(H)(a)(xs:π):Prop:=
 Rd H a (.tup xs) \/
  ∃ (o:Obj)(its:Ó)(n:Nat),K.lookup a=!o/\o.cls=.type "tuple"/\o.data=.seq its n/\its.size<=sizeLine/\A8 xs its.toList
theorem a99:Value->Ç
 | .none=>!.non
 | .bool b=>!.bl b
 | .int i _=>!.int i
 | .str x _=>!.str x
 | .bytes b _=>!.byt b
 | .float b _=>!.flt b
 | .ref a=>!.ref a
 | .type n=>!.ty n
 | _=>none
def ue.abs (r:e2Q u):a99 u=!x:=by
 cases x with
 | non=>ext d8a
 | bl _=>ext d8a
 | int _=>ext d3A
 | str _=>ext d3A
 | byt _=>ext d3A
 | flt _=>ext d3A
 | ref _=>ext d8a
 | ty _=>ext d8a
def ue.inj (r:e2Q u)(q:e8W u):x=y:=Option.some.inj (r.abs.symm.trans q.abs)
def A8.inj:∀ {xs ys:π}{us:θ},e0I us->e8d us->xs=ys:=by
 intro xs ys us h
 induction h generalizing ys with
 | nil=>intro h;cases h;rfl
 | cons r t ih=>intro h;cases h with|cons r' t'=>rw[r'.inj r,ih t']
def Ma.of {K:Ψ}(h:H a=!.lst xs):e1k xs:=.inl (.inl h)
def Oi.of {K:Ψ}(h:H a=!.tup xs):e8X xs:=.inl (.inl h)
def Inv.list (d0k):∃ its:θ,e0I its/\PlainL s.heap a its.toArray/\xs.length<=sizeLine:=by
 rcases h with h|⟨o,its,n,hk,hc,hd,hs,hz,r⟩
 ·let#[rM,e]:=h.ok I.LY;show#[its,r,#[_,n,e,3],z]
 ·show#[its.toList,r,#[o,n,I.Oh a o hk,hc,hd,by simpa using hs],?_];let e:=r.length
  simp_all
def Inv.tuple (I)(h:e9B xs):∃ its:θ,e0I its/\IsTup s.heap a its.toArray/\xs.length<=sizeLine:=by
 rcases h with h|⟨o,its,n,hk,hc,hs,hz,r⟩
 ·let#[z,its,r,p]:=h.ok I.LY;show#[its,r,p,z]
 ·show#[its.toList,r,#[o,I.Oh a o hk,hc,n,by simpa using hs],?_];let e:=r.length
  simp_all
def Inv.PM (d0k)(h':Ma X.K H a ys):xs=ys:=by
 let#[its,r,#[o,n,e,_,_,d],_]:=I.list h;let#[its',r',#[o',n',e',_,_,d'],_]:=I.list h';ext d3x
 ext d5M;show r.inj r'
def Inv.Tc (I)(h:e9B xs)(h':e9B ys):xs=ys:=by
 let#[its,r,#[o,e,_,n,d],_]:=I.tuple h;let#[its',r',#[o',e',_,n',d'],_]:=I.tuple h';ext d3x
 ext d5M;show r.inj r'
abbrev Cx.RL (X:Cx)(E:ρ):Cx:={ X with xe:=E }
abbrev Cx.Vg (X:Cx):Cx:=X.RL λ_ _=>False
def Cx.Ok.RL {X:Cx}(ok:X.Ok)(E:ρ):(X.RL E).Ok:=
 a2v
def Cx.Ok.NH {X:Cx}(ok:(X.RL E).Ok):X.Ok:=
 a2v
def Inv.RL (I)(E:ρ):e7Z s:=#[I.ok.RL E,Ap]
def Inv.NH (I:e7Z s):e0c H s:=#[I.ok.NH,Ap]
def SP.NH {D:Ends}(h:SP (X.RL E) ñ D f s'):e4W D f s':=by
 cases f with
 | next=>ext d3G
 | brk=>ext d3G
 | cont=>ext d3G
 | ret u=>let⟨v,σ',H',I,r,q⟩:=h;show#[v,GH,I.NH,r,q]
def Qe.Vg {st:Í}(h:Qe X.Vg st t):Qe X st t:=λe1i D I hw=>
 Jd (e0C D (I.RL _) hw) (λf2p=>q.NH) λ_ _ z=>False.elim z
section
variable {st:Stmt}{t u:TS}{te:TE}
theorem a3o:TS:=λe6n=>e6q H
theorem a3j (t u:TS):TS:=λe6n=>t { D with nx:=u D } σ H
def MQ:Qe X [] a3o:=λ_ _ e3s _ I h=>Lu #[σ,H,I,h]
def ag (h1:e1l t)(h2:Qe X rest u):Qe X (st::rest) (a3j t u):=by
 ext d2I;show wpAny_execs_cons (Mn (h1 ñ s σ H { D with nx:=u D } I h) λf s1 q=>?_)
 cases f with
 | next=>
  let#[GH,I',q]:=q;show h2 ñ s1 σ' H' D I' q
 | ret v=>show q
 | brk=>show q
 | cont=>show q
def ak (h1:e1l t):Qe X [st] t:=by
 ext d2I;show wpAny_execs_cons (Mn (d9Y h1 D) λf s1 q=>?_)
 cases f with
 | next=>show Lu q
 | ret v=>show q
 | brk=>show q
 | cont=>show q
def Inv.quiet (I):interactive X.env=false:=by simp[interactive,I.ok.kind]
theorem vR (te):TS:=λe6n=>te σ H λ_ H1=>e6q H1
def aw (c80)(c9g):PS X (.Expr e pos) (vR te):=by ext d2I;show wpAny_Expr_any (Mn ľ λv e6l=>(by let#[zG]:=J';show#[σ,sW])) I.quiet hs
theorem a7q (te):TS:=λe6n=>te σ H D.rt
def br (c80):PS X c0y (a7q te):=by ext d2I;show wpAny_Return_some (Mn ľ λv e6l=>(by let#[zG]:=J';show#[x,σ,sx]))
theorem a7t (c:TT)(t u:TS):TS:=λe6n=>c σ H λb H1=>if b=true then t D σ H1 else u D σ H1
def dJ (c9Z):PS X CZ (a7t tc t u):=by
 ext d2I;show wpAny_If b0W;ext d8v
 cases d with
 | true=>show ha ñ s1 σ H1 D I1 q1
 | false=>show hb ñ s1 σ H1 D I1 q1
theorem a6J:TS:=λe0j=>False
def b6l:e1l a6J:=λf2y h=>h.elim
def Q9:Qe X sts a6J:=λf2y h=>h.elim
universe e
abbrev TG:=V->St->Hp->Υ->Prop
abbrev ZQ:=List V->St->Hp->Υ->Prop
theorem PG (X)(target:Expr)(t:TG):Prop:=
 ∀ (ñ:ζ)(s:Ê)(σ:St)(H:Hp)(v:V)(u:Value)(Q:Υ),e0c H s->e5V u->t v σ H Q->
  wpAny ē X.A (assign target X.env u) a8d X.xe s
theorem BA (X)(ts:Ì)(t:ZQ):Prop:=
 ∀ (ñ:ζ)(s:Ê)(σ:St)(H:Hp)(vs:π)(us:θ)(Q:Υ),e0c H s->A8 vs us->t vs σ H Q->
  wpAny ē X.A (assignInOrder ((assignEach ts X.env).map (·.2)) us) a8d X.xe s
abbrev TIp:=V->V->Hp->VK->Prop
theorem PIp (X)(op:Operator)(t:TIp):Prop:=
 ∀ (ñ:ζ)(s:Ê)(σ:St)(H:Hp)(x y:V)(v u:Value)(Q:VK),e0c H s->e2Q v->e8W u->t x y H Q->
  wpAny ē X.A (inplaceOp op v u) Ľ X.xe s
theorem bL (i):TG:=λv e0i=>Q lJ H
def c3z (c8n)(hf):PG X Ż Ep:=by intro ñ s σ H v u Q I r h;show wpAny_assign_Name (g9 I hN hi hx r (λs' I'=>#[_,H,I',h]) hf)
theorem Af:ZQ:=λvs e0i=>vs=[]/\Q σ H
inductive xy (t:TG)(u:ZQ)(vs:π)(c8a)(Q:Υ):Prop
 |mk:∀ v r,vs=v::r->(t v σ H λσ' H'=>u r σ' H' Q)->xy t u vs σ H Q
def aG:BA X [] Af:=by
 ext d7t;let#[e,h]:=h;subst e
 cases r;show assignInOrder_nil #[σ,H,I,h]
def af (h1:PG X e t)(h2:BA X es u)(hs:(assignEach vh X.env).map (·.2)=assign e X.env::(assignEach es X.env).map (·.2):=ă):BA X vh (xy t u):=by
 ext d7t;let#[v,vr,e1,h]:=h;subst e1
 cases r with
 | cons r rr=>
  rw[hs];show assignInOrder_cons (Mn (h1 ñ s σ H _ _ _ I r h) λ_ e6l=>?_);let#[σ1,sW]:=J';show h2 ñ s1 σ1 H1 _ _ Q I1 rr q1
inductive zt (K:Ψ)(n:Nat)(t:ZQ)(v:V)(c8a)(Q:Υ):Prop
 |mk:∀ a xs,v=.ref a->Oi K H a xs->xs.length=n->t xs σ H Q->zt K n t v σ H Q
def a0J (hc)(h:BA X es t)(c70):PG X c1b (zt X.K n t):=by
 intro ñ s σ H v u Q I r hw;let#[a,xs,e1,hq,hl,hw]:=hw;subst e1
 cases r;let#[its,rv,ht,hz]:=I.tuple hq;show f2H (I.caN hc) ht (by simp[hn,<- hl,rv.length]) U5 λh' hx=>?_;let I1:e0c H { s with heap:=h' }:=I.kept λe0D=>hx b o xc e;show h ñ _ σ H xs _ Q I1 (rv) hw
theorem kg (te)(g:TG):TS:=λe6n=>te σ H λe3C=>e4X H1 D.nx
def yK (c80)(hg:PG X tg g)(hs:swapsWithSole [tg] e pos.line X.env=pure false:=ă)(hw:swappedStores [tg] e X.env=pure none:=ă)(h1:(assignEach [tg] X.env).map (·.2)=[assign tg X.env]:=ă):PS X (.Assign [tg] e pos) (kg te g):=by ext d2I;show wpAny_Assign_stores Zj hs hw;ext d3F;rw[h1];show Mn (hg ñ s1 σ H1 x v _ I1 r1 q1) λ_ s2 q=>q
def a0F (c8n)(c80)(hs:swapsWith e b0Z pos.line X.env=pure false:=ă)(hf):
  PS X WP nE:=by
 ext d2I;show wpAny_Assign_Name Zj hs;let#[y,sx]:=J';show g9 I1 hN hi hx r1 (λs2 I2=>#[_,H1,I2,q1]) hf
inductive c0S (i j:Nat)(D:Ends)(σ:St)(d14):Prop
 |mk:∀ v w,vs=[v,w]->D.nx ((σ.set i !v).set j !w) H1->c0S i j D σ vs H1
theorem a7r (i j:Nat)(ta:TA):TS:=λe6n=>ta σ H λe7c=>c0S i j D σ vs H1
def a0G {kt k2 pt2}(hc)(hN)(hi:X.N[i]?=!x)(hj:X.N[j]?=!y)(hij:i≠j)(c8x)(hy:X.env.scope.names.lookup y=!.local)(ha:PA X [a,b] ta)(hw:swappedStores Bn sO X.env=pure ![x,y])(hs:swapsWithSole Bn sO pos.line X.env=pure false:=ă):
  PS X (.Assign Bn sO pos) (a7r i j ta):=by
 ext d2I;show Hk (Le ?_);ext d6m;show Hk<|Tuple_ (Mn (ha _ ñ s σ H _ I h) λus e6l=>?_);ext d4D;let#[v,w,e1,q1]:=q1;subst e1;obtain⟨u1,u2,rfl,rv,TZ⟩:∃ u1 u2,us=[u1,u2]/\ue v u1/\ue w u2:=by
  cases r1 with
  | cons p q=>
   cases q with
   | cons p' q'=>
    cases q';show#[P8,p,p']
 show Jc ?_ (by change 2<=sizeLine;decide);let I2:e0c H1 { s1 with heap:=s1.heap.push { cls:=.type "tuple",data:=.seq [u1,u2].toArray } }:=I1.kept λe0D=>Hn _ e;rw[hw];ext d6m;show Hk<|Kw (Hk (ka (items:=[u1,u2].toArray) (I2.caN hc) (IsTup.new s1.heap _) λh' WC=>?_));let I3:=I2.kept (t':=s1.toks) λe0D=>WC b o xc e;show Hk<|assignInOrder_cons (wpAny_bindName<|g9 I3 hN hj (.inl hy) TZ (λs2 I4=>?_) (.inr hy));show assignInOrder_cons<|wpAny_bindName (g9 I4 hN hi (.inl hx) rv (λs3 I5=>assignInOrder_nil FM)<|.inr hx);rw[List.set_comm _ _<|Ne.symm hij]at I5;show#[_,H1,I5,q1]
inductive a0p (i:Nat)(te:TE)(ti:TIp)(D:Ends)(c8a):Prop
 |mk:∀ x,σ[i]?=some (some x)->(te σ H λy H1=>ti x y H1 λz H2=>D.nx (σ.set i !z) H2)->a0p i te ti D σ H
def yJ (c8n)(c80)(ho:PIp X op ti)(hf):
  PS X (.AugAssign (e8h pos') op e pos) (a0p i te ti):=by
 ext d2I;let#[v,e1,h]:=h;ext d8t;let vis:f0K x:=by rcases hx with k|k;show .inl k;show .inr fK
 let#[u,r,l]:=hl i x v hi e1 vis;show wpAny_AugAssign_Name ?_;let go:e0h eV (λw s₂=>e0h (inplaceOp op u w) (λr s₃=>e0h (storeName X.env x r) (λ_=>e4W D .next) X.xe s₃) X.xe s₂) X.xe s:=by show Mn ľ λw e6l=>?_;let#[y,sx]:=J';show Mn (ho ñ s1 σ H1 v y u w _ I1 r r1 q1) λz s2 J'=>?_;let#[zv,xM]:=J';show g9 I2 hN hi hx r2 (λf2t=>#[_,H2,I3,q2]) hf
 ext d5C
 ·show wpAny_loadName_local I.ok.kind hk hn hm go
 ·rcases hk with hk|hk
  ·show wpAny_loadName_cell I.ok.kind hk hc VT go
  ·rcases hx with k|k
   ·let:X.env.scope.names.lookup x=!.free:=hk
    simp_all
   ·let:X.env.scope.names.lookup x=!.free:=hk
    simp_all
inductive ipI (f:Int->Int->Int)(c8f):Prop
 |mk:∀ i j,x=.int i->y=.int j->Q (.int (f i j)) H->ipI f x y H Q
def c1z:PIp X .Add (ipI λi j=>i+j):=by intro ñ s σ H x y v u Q I r1 r2 h;let#[i,j,zw,q]:=h;subst e1;subst e2;let#[t,1]:=r1;let#[t',1]:=r2;show iadd_int fO
theorem a0l (c:TT)(tb:TS):TS:=λe6n=>∃ W:Nat->Υ,(∃ m,W m σ H)/\∀ m σ H,W m σ H->
 c σ H λb H1=>if b=true then ∃ N:Υ,(∀ σ' H',N σ' H'->∃ m',m'<m/\W m' σ' H')/\tb { D with nx:=N,ct:=N,bk:=D.nx } σ H1 else D.nx σ H1
def Dz {tb:TS}(hp)(hc:e8V tc)(hb:Qe X body tb):PS X (.While c body [] pos) (a0l tc tb):=by
 ext d2I;let#[W,#[m0,w0],turn]:=h;show wpAny_While (codeAny_whileLoop (λn s'=>∃ σ' H',e0Z s'/\W n σ' H') ?_ m0 #[σ,H,I,w0]);rintro n s1 ⟨σ1,H1,I1,w1⟩;show Kp hp (Mn (hc ñ s1 σ1 H1 _ I1<|turn n σ1 H1 w1) λb s2 J'=>?_);let#[Ej,q2]:=J'
 cases b with
 | true=>
  let#[N,hN,q2]:=q2;show Kp hp (Mn (d9C hb σ1) λf s3 q3=>?_)
  cases f with
  | next=>
   ext d30
  | cont=>
   ext d30
  | brk=>show q3
  | ret v=>show q3
 | false=>
  show Lu #[σ1,Ej,q2]
structure It where
 go:Nat->Ù
 W4:Nat->Hp->V->Ù
 stop:Nat->Ù
theorem c0i (X)(ñ)(H)(b:Addr):Prop:=
 H b=none/\b≠X.env.locals/\b∉X.fs/\(b∈X.ex\/X.s₀.heap.objs.size<=b)/\(∀ x c,X.env.cells.lookup x=!c->c≠b)/\∀ p∈X.pn++ñ,p.1≠b
def Inv.Ud (I)(hb:s.heap.objs.size<=b)(hn:H' b=none):e20 H' b:=by
 show#[hn,J9<|Ip I.lt hb,I.a3X hb,.inr<|HU I.sz hb,λx c e z=>?_,λf0z z=>?_]
 ·let#[v,q]:=e5X e;show absurd (Ip q.lt (by rw[z];show hb)) D3
 ·show absurd (Ip (HG (e8i hp).1) (by rw[z];show hb)) D3
structure B5 (Cc:Cx->Prop)(P:É)(w:World)(K:Ψ)(tg:Expr)(J:It)(fp:υ)(it:Addr)(tn:Nat->Heap->Prop):Prop where
 mem:it∈fp
 obj:∀ i h,tn i h->∀ b∈fp,∃ o,h.get? b=!o/\∀ v,o.data≠.cell v
 keep:∀ i h h',tn i h->(∀ b∈fp,∀ o,h.get? b=!o->h'.get? b=!o)->tn i h'
 item:∀ (X:Cx),X.prog=P->X.w=w->X.K=K->Cc X->∀ (i:Nat)(ñ:ζ)(s:Ê)(σ:St)(H:Hp)(E:ρ),Inv X ñ σ H s->b6v->tn i s.heap->J.go i H ->
  wpAny ų X.A İ (λr s1=>∃ u,r=some u /\
   wpAny ų X.A b52 (λ_ s2=>∃ x H',Inv X ñ σ H' s2/\ue x u/\J.W4 i H x H'/\tn (i+1) s2.heap/\∀ b∈fp,H' b=none) E s1) E s
 done:∀ (X:Cx),X.prog=P->X.w=w->X.K=K->Cc X->∀ (i:Nat)(ñ:ζ)(s:Ê)(σ:St)(H:Hp)(E:ρ),Inv X ñ σ H s->b6v->tn i s.heap->J.stop i H ->
  wpAny ų X.A İ (λr s1=>r=none/\Inv X ñ σ H s1) E s
 self:∀ (A:Ë)(i:Nat)(s:Ê)(Q:ρ)(E:ρ),tn i s.heap->Q ĸ s->wpAny ų A Ec Q E s
abbrev b1i (e:ψ):=B5 λX=>X.calm=true/\X.base.err=e
abbrev TI:=St->Hp->(It->Ù)->Prop
theorem a5Y (Cc:Cx->Prop)(d12)(tg:Expr)(R:It->Ù)(itv:Value)(s2:Ê):Prop:=
 ∃ (it:Addr)(fp:υ)(tn:Nat->Heap->Prop)(J:It)(H':Hp),itv=.ref it/\Inv X ñ σ H' s2/\B5 Cc X.prog X.w X.K tg J fp it tn/\tn 0 s2.heap/\(∀ b∈fp,e20 H' b)/\R J H'
theorem xI (Cc:Cx->Prop)(X)(tg iter:Expr)(wi:TI):Prop:=
 ∀ (ñ:ζ)(s:Ê)(σ:St)(H:Hp)(R:It->Ù),e0c H s->wi σ H R->
  wpAny ē X.A (d87 iter) (λv s1=>e0h (pyIter v) (a5Y Cc X ñ σ tg R) X.xe s1) X.xe s
abbrev PIE (X:Cx):=a5Y b0C X
abbrev PI (X:Cx):=xI b0C X
def tq (ho : s.heap.get? it = !o)(hc : o.cls = .type n)(hd : o.data = .fields vs)(hn : ["enumerate", "zip", "dict_itemiterator", "dict_reverseitemiterator", "odict_iterator", "itertools.zip_longest", "itertools.pairwise"].contains n = false)(hQ : Q () s): wpAny M A b52 Q E s := by
  cases tg <;> first
    | show Hr hQ
    | (cases u <;> first
        | show Hr hQ
        | (show Hk (wpAny_load ho ?_)
           rw [hc, hd];change wpAny M A (if _ = true then _ else _) Q E s;rw [if_neg (by intro h; rw [hn, Bool.false_and] at h; cases h)];show Hr hQ))
theorem W0 (K)(a):It:=
 ⟨λi H=>∃ xs x,e1k xs/\xs[i]?=!x,λe9s=>H'=H/\∀ xs,e1k xs->xs[i]?=!x,λi H=>∃ xs,e1k xs/\xs.length<=i⟩
theorem Itt (K)(a):It:=
 ⟨λi H=>∃ xs x,e8X xs/\xs[i]?=!x,λe9s=>H'=H/\∀ xs,e8X xs->xs[i]?=!x,λi H=>∃ xs,e8X xs/\xs.length<=i⟩
theorem ZX (lo:Int)(n):It:=⟨λi _=>i<n,λe9s=>H'=H/\x=.int (lo+i),λi _=>n<=i⟩
def b2X (c7Q){tg:Expr}{Cc:Cx->Prop}{J:It}(a it:Addr)(h1:J.go=(W0 K a).go)(h2:J.W4=(W0 K a).W4)(hs:∀ X ñ σ H s i,X.K=K->Cc X->e0c H s->H it=none->(it∈X.ex\/X.s₀.heap.objs.size<=it)->J.stop i H->(W0 K a).stop i H/\Ca X.A s.heap it):B5 Cc P w K tg J [it] it b4K where
 mem:=by simp
 obj:=λe33=>by
  ext d23
  ext d2N
 keep:=λe1X=>st.at λo e=>e3P e
 item:=by intro X hP hw hK hc i ñ s σ H E I hf st hg;subst hP hw hK;rw[h1]at hg;rw[h2];let#[xs,x,hq,hx]:=hg;let#[yN]:=I.list hq;let#[lZ]:=rv.get hx;let#[tu]:=hf it Ĕ;show wpAny_pyNext_list_item st p.isList b9L λh' Uu sb=>?_;let I1:e0c H { s with heap:=h' }:=e0S f5;let#[CY]:=id Uu;show#[u,1,tq e c d ĺ #[x,H,I1,ru,#[1,λys hy=>by rw[I.PM hy hq];show hx],Cj]]
 done:=by intro X hP hw hK hc i ñ s σ H E I hf st hg;subst hP hw hK;let#[tu]:=hf it Ĕ;let#[#[xs,hq,hx],ca]:=hs X ñ σ H s i rfl hc I f0 f3 hg;let#[yN]:=I.list hq;let hl:=rv.length;show a45 ca st p.isList (by simp;lia) λh' eb=>Zl
 self:=λe4Q=>wpAny_pyIter_listiter st h
def a6h {K:Ψ}(a it:Addr):e1D (W0 K a) [it] it b4K:=b2X a it rfl rfl λe1Y hc I _ f h=>#[h,e9C f]
def a9y (c7Q){tg:Expr}{er:ψ}(a it:Addr):e1D (Itt K a) [it] it (λi h=>h.IsTupleIter it a i) where
 mem:=by simp
 obj:=λe33=>by
  ext d23
  ext d2N
 keep:=λe1X=>st.at λo e=>e3P e
 item:=by intro X hP hw hK ⟨hc,XT⟩ i ñ s σ H E I hf st hg;subst hP hw hK;let#[xs,x,hq,hx]:=hg;let#[yN]:=I.tuple hq;let#[lZ]:=rv.get hx;let#[tu]:=hf it Ĕ;show wpAny_pyNext_tuple_item st (p) b9L λh' Uu sb=>?_;let I1:e0c H { s with heap:=h' }:=e0S f5;let#[CY]:=id Uu;show#[u,1,tq e c d ĺ #[x,H,I1,ru,#[1,λys hy=>by rw[I.Tc hy hq];show hx],Cj]]
 done:=by intro X hP hw hK ⟨hc,XT⟩ i ñ s σ H E I hf st hg;subst hP hw hK;let#[xs,hq,hx]:=hg;let#[yN]:=I.tuple hq;let#[tu]:=hf it Ĕ;let hl:=rv.length;show b1h (I.caF hc f3) st (p) (by simp;omega) λh' eb=>Zl
 self:=λe4Q=>wpAny_pyIter_tupleiter st h
def b5o (c7Q){tg:Expr}{er:ψ}(it)(lo:Int)(n):e1D (ZX lo n) [it] it (λi h=>IsRangeIter h it (lo+(i:Nat) * 1) ((n:Int) - (i:Nat)) 1) where
 mem:=by simp
 obj:=λe33=>by
  ext d23
  subst e;show#[_,st,λv z=>by
   let z':=z
   cases z']
 keep:=λe1X=>k it Ĕ _ st
 item:=by
  intro X hP hw hK ⟨hc,XT⟩ i ñ s σ H E I hf st hg;ext d66;show wpAny_pyNext_range_item st (by let:i<n:=hg;omega) λh' Uu sb=>?_;let I1:e0c H { s with heap:=h',toks:=s.toks+1 }:=e0S f5;let st2:IsRangeIter h' it (lo+(i+1) * 1) ((n) - (i+1)) 1:=by rw[show lo+_ * 1=lo+(i) * 1+1 by omega,show (n:Int) - _=n - (i) - 1 by omega];show Uu
  show#[_,1,tq st2 rfl rfl ĺ #[.int _,H,I1,#[s.toks,?_],#[2],st2,λe1C=>(hf b hb).1]];rw[Int.mul_one]
 done:=by intro X hP hw hK ⟨hc,XT⟩ i ñ s σ H E I hf st hg;let#[tu]:=hf it Ĕ;show b0B (I.caF hc f3) st (by let:n<=i:=hg;omega) λh' eb=>Zl
 self:=λe4Q=>wpAny_pyIter_rangeiter st h
inductive a5N (K:Ψ)(J:Addr->It)(R:It->Ù)(x:V)(H1:Hp):Prop
 |mk:∀ a,x=.ref a->b8l->R (J a) H1->a5N K J R x H1
theorem uZ (K)(J:Addr->It)(tl):TI:=λe8a=>tl σ H λe3C=>a5N K J R x H1
theorem Zr (K)(tl):TI:=λe8a=>tl σ H λe3C=>a5N K (W0 K) R x H1
def b5H (T:∀ a it,B5 Cc X.prog X.w X.K tg (J a) [it] it λi h=>h.IsListIter it a i)(c8F):xI Cc X tg l (uZ X.K J tl):=by
 ext d6M;ext d3F;let#[a,e,#[xs,hq],q]:=q1;subst e
 cases r1;let#[yN]:=I1.list hq;show Ku p.isList ?_;show#[x6,T a _,qQ,λe1C=>?_,q];ext d3w
 ext d5a
def Ag (c8F):e1y l (Zr X.K tl):=b5H (λa it=>a6h a it) hl
def wv {lo:Int}(I)(h1:-x0<=lo)(h2:lo<2 ^ 62)(h3:-x0<=hi)(h4:hi<2 ^ 62)(q:R (ZX lo (hi - lo).toNat) H):e0h (pyIter į) (PIE X ñ σ tg R) E { s with heap:=s.heap.push { cls:=.type "range",data:=.fields [uO].toArray },toks:=tk }:=by
 show wpAny_pyIter_range (IsRange.new ..) (small_one h1 h2 h3 h4) ?_;let I1:e0c H { s with heap:=s.heap.push { cls:=.type "range",data:=.fields [uO].toArray },toks:=tk }:=I.kept λe0D=>Hn _ e;show#[(s.heap.push { cls:=.type "range",data:=.fields [uO].toArray }).objs.size,[(s.heap.push { cls:=.type "range",data:=.fields [uO].toArray }).objs.size],_,_,H,1,
  I1.kept λe0D=>Hn _ e,b5o _ lo (hi - lo).toNat,?_,λe1C=>?_,q]
 ·let e1:lo+((0:Nat)) * 1=lo:=by simp
  let e2:((hi - lo).toNat) - ((0:Nat))=Builtin.Range.rangeSize lo hi 1:=by rw[rangeSize_one];split <;> lia
  rw[e1,e2];show HD _ rfl
 ·let e:b=(s.heap.push { cls:=.type "range",data:=.fields [uO].toArray }).objs.size:=by simpa using hb
  ext d5a
inductive c23 (c8W):Prop
 |mk:∀ j:Int,vs=[.int j]->-x0<=j->j<2 ^ 62->R (ZX 0 j.toNat) H1->c23 R vs H1
theorem a4o (ta:TA):TI:=λe8a=>ta σ H λe7c=>c23 R vs H1
inductive a2G (c8W):Prop
 |mk:∀ i j:Int,vs=[.int i,.int j]->(-x0<=i/\i<2 ^ 62/\-x0<=j/\j<2 ^ 62)->R (ZX i (j - i).toNat) H1->a2G R vs H1
theorem a4n (ta:TA):TI:=λe8a=>ta σ H λe7c=>a2G R vs H1
def iU (c7J)(ha:PA X [a] ta)(hs:starEach [a] X.env=[b9d]:=ă):e1y (.Call uj [a] [] pos) (a4o ta):=by
 ext d3a;show Call_<|f2o (e0r hs rfl);ext d4D;let#[j,e,FE,q]:=q1;subst e
 cases r1 with
 | cons r rr=>
  cases rr;let#[t,1]:=r;show call_range_1 (wv I1 #[0] #[0] q1 q2<|by simpa using q)
def BE (c7J)(ha:PA X [a,b] ta)(hs:starEach [a,b] X.env=[b9d,b9e]:=ă)(S7:starEach [b] X.env=[b9e]:=ă):
  PI X tg (.Call uj [a,b] [] pos) (a4n ta):=by
 ext d3a;show Call_<|f2o (e0r vJ (by rw[S7];rfl));ext d4D;let#[i,j,e,#[vz,q4],q]:=q1;subst e
 cases r1 with
 | cons r rr=>
  cases rr with
  | cons r' rr=>
   cases rr;let#[t,1]:=r;let#[t',1]:=r';show call_range_2 (wv I1 q1 q2 q3 q4 q)
theorem a7u (wi:TI)(g:TG)(tb:TS):TS:=λe6n=>wi σ H λJ H1=>∃ W:Nat->Nat->Υ,(∃ m,W 0 m σ H1)/\∀ i m σ H,e4E H->
 (J.stop i H/\D.nx σ H)\/(J.go i H/\∃ N:Υ,Ġ/\∀ x H',J.W4 i H x H'->e4X H' λe2h=>tb { D with nx:=N,ct:=N,bk:=D.nx } σ2 H2)
theorem ou (fp:υ)(c78):ζ:=fp.filterMap λb=>(h.get? b).map λo=>(b,o)
def gE (hb:b∈fp)(e:h.get? b=!o):(b,o)∈ou fp h:=List.mem_filterMap.mpr #[b,hb,by rw[e];rfl]
def c4R (hp:p∈ou fp h):p.1∈fp/\h.get? p.1=!p.2:=by
 let#[b,hb,e]:=List.mem_filterMap.mp hp
 cases q:h.get? b with
 | none=>rw[q]at e;cases e
 | some o=>
  rw[q]at e;let e':=Option.some.inj e;subst e';show#[hb,q]
def Inv.pinned (I)(hf:∀ b∈fp,e20 H b)(ho:∀ b∈fp,∃ o,s.heap.get? b=!o/\∀ v,o.data≠.cell v):Inv X (ñ++ou fp s.heap) σ H s:=
 I.VG λf0z=>(HW.mp hp).elim (λz=>I.pin p<|Ih _ z) λz=>by
  let#[hb,e]:=c4R z;let#[f0,f1,f2,_]:=hf p.1 hb;let#[o,e',d]:=ho p.1 hb
  simp_all
def Inv.Py (I:Inv X (ñ++pl) σ H s):e0c H s:=I.VG λf0z=>e8i (Ih _<|Ir _ hp)
def bJ {tb:TS}(hp)(hc)(hi:e6W wi)(hg:PG X tg g)(hb:Qe X body tb)(hs):PS X (.For tg iter body [] pos) (a7u wi g tb):=by
 ext d2I;show wpAny_For (Mn b9f λv s1 h1=>Mn h1 λitv s2 h2=>?_) hs;let#[it,fp,tn,J,H2,e,I2,T,st2,f2,W,#[m0,w0],turn]:=h2;subst e;let stat:∀ {H':Hp},(∀ b∈fp,H' b=none)->∀ b∈fp,e20 H' b:=λhn e1C=>#[hn b hb,(f2 b hb).2]
 show codeAny_forLoop_any (λn s'=>∃ i σ' H',e0Z s'/\tn i s'.heap/\(∀ b∈fp,H' b=none)/\W i n σ' H') ?_ m0 #[(0),σ,Ej,st2,λe1C=>(f2 b hb).1,w0];rintro n s3 ⟨i,σ3,H3,I3,st3,fr3,w3⟩;rcases turn i n σ3 H3 w3 with⟨stop,qn⟩|⟨go,N,hN,step⟩
 ·show Kp hp (Mn (T.done X rfl rfl rfl #[hc,1] i ñ s3 σ3 H3 X.xe I3 (stat fr3) st3 stop) λr s4 J'=>?_);let#[hr,I4]:=J';subst hr;show Lu #[σ3,H3,I4,qn]
 ·show Kp hp (Mn (T.item X rfl rfl rfl #[hc,1] i ñ s3 σ3 H3 X.xe I3 (stat fr3) st3 go) λr s4 J'=>?_);let#[u,hr,h4]:=J';subst hr;show Kp hp (Mn h4 λ_ s5 J'=>?_);let#[x,H5,I5,r5,y5,st5,fr5]:=J';show Kp hp (Mn (hg _ s5 σ3 H5 x u _ (I5.pinned (stat fr5)<|T.obj _ _ st5) r5<|step x H5 y5) λ_ s6 J'=>?_);let#[σ6,H6,I6,q6]:=J';show Kp hp (Mn (hb _ s6 σ6 H6 _ I6 q6) λf s7 q7=>?_);let again:∀ {σ7:St}{H7:Hp},Inv X _ σ7 H7 s7->N σ7 H7->∃ m,m<n/\∃ i σ' H',e0Z s7/\tn i s7.heap/\(∀ b∈fp,H' b=none)/\W i m σ' H':=λ{σ7 H7} I7 n7=>by let#[m',hm,w7]:=hN σ7 H7 n7;show#[m',hm,i+1,c6m,T.keep _ _ _ st5 λe9y=>(I7.pin (b,o)<|Ih _ (Ih _<|gE hb e)).1,λe1C=>?_,w7];let#[o,e,d]:=T.obj _ _ st5 b hb;show (I7.pin (b,o)<|Ih _ (Ih _<|gE hb e)).2.1
  cases f with
  | next=>ext d5u
  | cont=>ext d5u
  | brk=>let⟨σ7,H7,I7,q7⟩:=q7;show#[c6m,q7]
  | ret v=>let⟨x7,σ7,H7,I7,r7,q7⟩:=q7;show#[x7,c6m,r7,q7]
abbrev _root_.Φ:=PySem.W.Frag
def a5B {K:Φ}{g:TG}(c8r)(hs:∀ i x σ H,xs[i]?=!x->e8j H->e4X H λe2h=>tb { D with nx:=Pv (i+1),ct:=Pv (i+1),bk:=D.nx } σ2 H2)(c9O):
  ∃ W:Nat->Nat->Υ,Qm/\∀ i m σ H,e4E H->
   ((W0 K a).stop i H/\D.nx σ H)\/((W0 K a).go i H/\∃ N:Υ,Ġ/\∀ x H',(W0 K a).W4 i H x H'->e4X H' λe2h=>tb { D with nx:=N,ct:=N,bk:=D.nx } σ2 H2):=by
 ext d3o
 ·show .inr #[QY,Pv<|i+1,λe7d p'=>b3x,λx H' y=>?_];let#[e,y]:=y;subst e;show hs i x σ _ (y xs q) p
 ·let e:i=xs.length:=#[]
  subst e;show .inl c13
def tyD {lo:Int}(d03)(hs:∀ i σ H,i<n->e8j H->g (.int (lo+i)) σ H λe2h=>tb { D with nx:=Pv (i+1),ct:=Pv (i+1),bk:=D.nx } σ2 H2)(hd:∀ σ H,Pv n σ H->e6q H):
  ∃ W:Nat->Nat->Υ,Qm/\∀ i m σ H,e4E H->
   ((ZX lo n).stop i H/\D.nx σ H)\/((ZX lo n).go i H/\∃ N:Υ,Ġ/\∀ x H',(ZX lo n).W4 i H x H'->e4X H' λe2h=>tb { D with nx:=N,ct:=N,bk:=D.nx } σ2 H2):=by
 show#[λi m e3s=>m=n - i/\i<=n/\Pv i σ H,#[n,by simp,Iv _,h0],?_];ext d7l;by_cases NU:i<n
 ·show .inr #[NU,Pv<|i+1,λe7d p'=>#[n - (i+1),#[],1,NU,p'],λx H' y=>?_];let#[e,y]:=y;subst e y;show hs i σ _ NU p
 ·let e:i=n:=#[]
  subst e;show .inl #[Hz _,hd σ H p]
abbrev R2:=V->V->Hp->VK->Prop
theorem NK (X)(f:Value->Value->Sem Value)(r:R2):Prop:=
 ∀ (ñ:ζ)(s:Ê)(σ:St)(H:Hp)(x y:V)(v u:Value)(Q:VK),e0c H s->e2Q v->e8W u->r x y H Q->
  wpAny ē X.A (f v u) Ľ X.xe s
theorem yE (X)(f:Value->Sem Value)(r:V->Hp->VK->Prop):Prop:=
 ∀ (ñ:ζ)(s:Ê)(σ:St)(H:Hp)(x:V)(v:Value)(Q:VK),e0c H s->e2Q v->r x H Q->
  wpAny ē X.A (f v) Ľ X.xe s
theorem Ms (X)(f:Value)(c9K):Prop:=
 ∀ (ñ:ζ)(s:Ê)(σ:St)(H:Hp)(xs:π)(us:θ)(Q:VK),e0c H s->e0I us->r xs H Q->
  wpAny ē X.A (call f us) Ľ X.xe s
theorem UA (r:R2)(ta tb:TE):TE:=λe0i=>ta σ H λe3C=>tb σ H1 λy H2=>r x y H2 Q
theorem tUn (r:V->Hp->VK->Prop)(ta):TE:=λe0i=>ta σ H λe3C=>r x H1 Q
inductive rI (C:Int->Int->Prop)(g:Int->Int->V)(c8f):Prop
 |mk:∀ i j,x=.int i->y=.int j->C i j->Q xq H->rI C g x y H Q
inductive XM (g:Int->Int->V)(c8f):Prop
 |mk:∀ i j,x=.int i->y=.int j->Q xq H->XM g x y H Q
inductive rU (g:Int->V)(x:V)(c67):Prop
 |mk:∀ i,x=.int i->Q (g i) H->rU g x H Q
section
variable {tb:TE}
def a10 (c7b){R:V->V->Ù}(I)(h:ta σ H λe3C=>tb σ H1 λy H2=>R x y H2){f:Value->Value->Sem Value}(hf:∀ v u s2 x y H2,e0c H2 s2->e2Q v->e8W u->R x y H2->e0h (f v u) Q X.xe s2):
  wpAny ē X.A Gr (d82 (f v u) Q) X.xe s:=by
 show Mn œ λv e6l=>?_;ext d3F;show Mn vW λu s2 J'=>?_;let#[y,xM]:=J';show hf v u s2 x y H2 I2 r1 r2 q2
def c6 (d1I)(c7b):PE X b9M jd:=by ext d2y;show wpAny_BinOp a35
def a3L (ho:yE X (unaryOp op) r)(d13):PE X (.UnaryOp op a pos) (tUn r ta):=by ext d2y;show UnaryOp_ (Mn œ λv e6l=>(by let#[zG]:=J';show ho ñ s1 σ H1 x v Q I1 r1 q1))
def AX {g:Int->Int->Int}(rule:∀ (i j:Int)(t u:Tok)(s:Ê)(Q:ρ)(E:ρ),C i j->Q c1c { s with toks:=s.toks+1 }->e8M s):
  NK X f (d9q C xq):=by
 ext d2E;let#[i,j,2,hc,q]:=h;ext d26;show rule i j t t' s _ _ hc fO
def a3P {g:Int->Int->Int}(rule:∀ (i j:Int)(t u:Tok)(s:Ê)(Q:ρ)(E:ρ),Q c1c { s with toks:=s.toks+1 }->e8M s):
  NK X f (XM λi j=>.int xq):=by
 ext d4j;show rule i j t t' s _ _ fO
def Gg {g:Int->Int->Bool}(rule:∀ (i j:Int)(t u:Tok)(s:Ê)(Q:ρ)(E:ρ),Q (.bool xq) s->e8M s):
  NK X f (XM λi j=>.bl xq):=by
 ext d4j;show rule i j t t' s _ _ uQ
theorem a58 (i j:Int):Prop:=0<j/\j<1073741824
theorem b0s (i j:Int):Prop:=0<=j/\j<=1000000/\i.natAbs<2 ^ 64
theorem WA (i j:Int):Prop:=(-(2 ^ 64)<i/\i<2 ^ 64)\/(-(2 ^ 64)<j/\j<2 ^ 64)
def WA.ok (h:WA i j):IntMulOk i j:=by
 ext d6d
 ·show .of_left b8m
 ·show .of_right b8m
def lD:e8Y (XM λi j=>.int (i+j)):=a3P λe1Y q=>add_int q
def uy:NK X (binaryOp .Sub) (XM λi j=>.int (i - j)):=a3P λe1Y q=>sub_int q
def LET:NK X c14 (d9q WA (i * j)):=AX λe1Y hc q=>mul_int q hc.ok
def bW:NK X (binaryOp .FloorDiv) (d9q a58 (i / j)):=AX λi j e0m hc q=>by let h1:=hc.1;let h2:=hc.2;show floordiv_int #[] (by rw[Int.fdiv_eq_ediv_of_nonneg i<|by lia];show q) (.inl<|PyProof.noPylong_small #[])
def bf:NK X (binaryOp .Mod) (d9q (λ_ j=>0<j) (i % j)):=AX λi j e0m hc q=>by show mod_int' #[] (by rw[IP i<|by lia];show q)
def c0J:NK X (binaryOp .Pow) (d9q b0s (i ^ j.toNat)):=AX λe1Y hc q=>pow_int_small hc.1 hc.2.1 hc.2.2 q
def unI {g:Int->Int}(rule:∀ (i:Int)(t:Tok)(s:Ê)(Q:ρ)(E:ρ),Q (.int (g i) s.toks) { s with toks:=s.toks+1 }->e0h (f xS) Q E s):
  yE X f (rU λi=>.int (g i)):=by
 intro ñ s σ H x v Q I rx h;let#[i,1,q]:=h;let#[t,1]:=rx;show rule i t s _ _ #[.int<|g i,H,I.tok _,#[_,1],q]
def a0d:yE X (unaryOp .USub) (rU λi=>.int (-i)):=unI λe0m q=>neg_int q
universe e
theorem qF:V->V->Bool
 | .int _,.int _=>true
 | .str _,.str _=>true
 | .str _,.non=>true
 | _,_=>false
theorem rEq:R2:=λe2r=>qF x y=true/\Q b9g H
theorem rNe:R2:=λe2r=>qF x y=true/\Q (.bl (not (decide (x=y)))) H
def c0w:decide (V.int i=V.int j)=(i==j):=by rw[Jk];simp
def a2i:decide (V.str i=V.str j)=(i==j):=by rw[Jk];simp
section
variable {X:Cx}{ta tb tc:TE}
def gM (I)(q:Q (.bl k) H)(e:k=k'):e2Z (.bool k') s:=by subst e;show#[.bl k,H,I,1,q]
def bo:NK X vK rEq:=by
 ext d5f
 cases x with
 | int i=>
  cases y with
  | int j=>ext d3t;show eq_int (gM I q c0w)
  | _=>ext d29
 | str i=>
  cases y with
  | str j=>ext d3t;show eq_str (gM I q a2i)
  | non=>ext d7Y;show PySem.EqNone.eq_str_none c1d
  | _=>ext d29
 | _=>cases y <;> show absurd (show false=true from hs) Ig
def a2X:e8Z rNe:=by
 ext d5f
 cases x with
 | int i=>
  cases y with
  | int j=>ext d3t;show ne_int (gM I q<|congrArg not c0w)
  | _=>ext d29
 | str i=>
  cases y with
  | str j=>ext d3t;show ne_str (gM I q<|congrArg not a2i)
  | non=>ext d7Y;show PySem.EqNone.ne_str_none c1d
  | _=>ext d29
 | _=>cases y <;> show absurd (show false=true from hs) Ig
def gf:NK X (compareOp .Lt) (XM λi j=>.bl (decide (i<j))):=Gg λe1Y q=>lt_int q
def sH:NK X (compareOp .LtE) (XM λi j=>.bl (decide (i<=j))):=Gg λe1Y q=>le_int q
def b4q:NK X (compareOp .Gt) (XM λi j=>.bl (decide (j<i))):=Gg λe1Y q=>gt_int q
def sJ:NK X (compareOp .GtE) (XM λi j=>.bl (decide (j<=i))):=Gg λe1Y q=>ge_int q
def a8R:NK X Aw (λe2r=>∃ i j,x=.str i/\y=.str j/\Q (.bl (not (Builtin.Str.occurrences j i 0 j.length 1).isEmpty)) H):=by ext d4j;show in_str (gM I q rfl)
def b1O:NK X (compareOp .Is) a8l:=by
 ext d2E;let#[1,q]:=h
 cases ry;show is_none_gen (gM I q ?_)
 cases x <;> first
  | (cases rx;rfl)
  | (let#[t,1]:=rx;rfl)
def a7G:NK X (compareOp .IsNot) a7a:=by
 ext d2E;let#[1,q]:=h
 cases ry;show isnot_none_gen (gM I q ?_)
 cases x <;> first
  | (cases rx;rfl)
  | (let#[t,1]:=rx;rfl)
def NK.or (h:f0M r)(h':f0M r'):f0M b2y:=by
 intro ñ s σ H x y v u Q I rx ry q;ext d7Z
 ·show h ñ s σ H x y v u Q I rx ry q
 ·show h' ñ s σ H x y v u Q I rx ry q
def b4S (b:Expr)(h:op≠.In:=ö)(h2:op≠.NotIn:=ö):f0b b=false:=by
 let e1:(op==CmpOp.In)=false:=by grind
 let e2:(op==CmpOp.NotIn)=false:=by grind
 cases b <;> simp[behindInMarks,e1,e2]
def Aj (d0g):PE X ŕ jd:=by ext d2y;show wpAny_Compare1 a35 hm
theorem D2 (t:TE):TT:=λe0i=>t σ H λx H'=>kTB Q x H'
def Ad (d0g):f0L (D2 jd):=by
 ext d2y;show wpAny_isTrue_Compare1 (thE œ λv f0H r1 q1=>thE vW λu s2 y H2 I2 r2 q2=>
  Mn b1w fun c s3 ⟨z,H3,I3,r3,k,e,q3⟩=>?_) hm
 subst e
 cases r3;show JK #[H3,I3,q3]
theorem D5 (r r':R2)(ta tb tc:TE):TE:=λe0i=>ta σ H λe3C=>tb σ H1 λy H2=>r x y H2 λz H3=>∃ k,z=.bl k/\
 (if k=true then tc σ H3 λw' H4=>r' y w' H4 Q else Q zp H3)
def oC (ho)(ho':NK X (compareOp op') r')(c7b)(hc:PE X c tc)(hm:lastMarks [op,op'] [b,c]=false:=Ą):PE X (.Compare a [op,op'] [b,c] pos) (D5 r r' ta tb tc):=by
 ext d2y;show Compare_chain (thE œ λv f0H r1 q1=>chain_link (thE vW λu s2 y H2 I2 r2 q2=>
  Mn b1w fun d s3 ⟨z,H3,I3,r3,k,e,q3⟩=>?_)) hm
 subst e
 cases r3;show JK ?_
 cases k with
 | false=>show ite_ff #[.bl false,H3,I3,1,q3]
 | true=>show ite_tt (chain_last<|Mn (hc ñ s3 σ H3 _ I3 q3) λw' s4 J'=>(by let#[z',H4,I4,r4,q4]:=J';show ho' ñ s4 σ H4 y z' u w' Q I4 r2 r4 q4))
def pE:(sizeLine:Nat)<2 ^ 63:=by rw[LG];decide
def c5X:e8Y (λe2r=>∃ i j,x=.str i/\y=.str j/\i.length+j.length<=sizeLine/\Q (.str (i++j)) H):=by ext d2E;let#[i,j,2,hz,q]:=h;ext d26;show add_str (λt' tk=>#[.str _,cT,q]) hz
def df (r:A8 [x] us):∃ u,us=[u]/\ue x u:=by
 cases r with
 | cons r1 r2=>cases r2;show#[_,1,r1]
def CS (r:A8 [x,y] us):∃ u w',us=[u,w']/\ue x u/\ue y w':=by
 cases r with
 | cons r1 r2=>
  cases r2 with
  | cons r3 r4=>cases r4;show#[P8,r1,r3]
def emp:Ms X ż c3O:=by
 ext d2D;rcases h with⟨i,rfl,q⟩|⟨k,rfl,q⟩
 ·let#[u,1,t,1]:=df r;show call_int_int #[.int i,H,I,#[_,1],q]
 ·let#[u,1,r1]:=df r
  cases r1;show call_int_bool fO
universe e
structure Vv (c78)(x dx C:Addr)(mA:Ω):Prop where
 obj:h.get? x=!W.instObj C dx
 ns:h.Ns1 dx mA
 ne:dx≠x
instance sR {h:Heap}(n:h.Ns1 dx mA):∃ od,h.get? dx=!od/\∀ name,W.lookIn name od=!mA name:=by
 let#[o,es,ep,ho,hd,hk,_,hm]:=n;show#[o,ho,λname=>?_];let e:=hm name;unfold nsFind findBy at e;rw[<- Array.find?_toList]at e;unfold W.lookIn;rw[hd];dsimp only;split
 ·simp_all
 ·rename_i q;let a:es.toList.any (·.refKey)=false:=by rw[List.any_eq_false];intro y hy;let#[z,t,Wh]:=hk y<|Array.mem_toList_iff.mp hy;simp[DictEntry.refKey,Wh]
  grind
def Vv.look (I:Vv h x dx C mA):∃ od,W.InstAt h x (e8k dx) C !od/\∀ name,W.lookIn name od=!mA name:=
 let #[od,ho,hl]:=sR I.ns
 #[od,#[I.obj,2,ho],hl]
section
variable {K:Ψ}
def b2c (d0M)(d1J)(ha:e0J uf name=!none)(hv:mA name=!v)(hv':W.handedIn v=true)(d0C):
  wpAny Ē A b7a Q E s:=by
 ext d6n;show W.get_value X J (W.plainGet_of hg).1 (W.findObj_own hh ha rfl<|by rw[hl,hv]) hv' h
def c0c (d0M)(hf:e0J uf name=!some oh)(ht:W.isFn K oh=true)(hv:mA name=none)(h:Q (.ref f,[.ref x]) s):
  wpAny Ē A (getMethod AD name pl) Q E s:=by
 ext d6n;show W.method_fn X J (W.plainGet_of hg).1 (W.plainGet_of hg).2 hf (Kj.mp ht) (by change (W.lookIn name od).map _=!false;rw[hl,hv];rfl) h
def c3l (c8z)(hs:e0J uf "__setattr__"=!some ũ)(hp:W.plainOver K C=true)(ht:W.takerIn K C name=!none)(d1J)(hw:PySem.Within mA ns)(hsz:ns.length<=sizeLine)(h:∀ h',Vv h' x dx C (λy=>if y=name then some v else mA y)->Heap.SameBut dx s.heap h'->Q () { s with heap:=h',toks:=s.toks+2 }):
  wpAny Ē A (setAttr AD name v) Q E s:=by
 ext d6n;show W.set_plain X J hs (W.osa_open X J hp ht λb=>?_);let#[cd,hc,Sx]:=W.any_some hh;let hx:=I.obj;show Hk<|Hr (Hk<|Hk (wpAny_loadPart hx<|Hk (W.Looks.here (W.looks_clsIn X hc) ?_)));rw[Sx];show Hr<|Hk (Hr (Hk ?_));show wpAny_nsSet1 I.ns λh' hn2 S7=>?_;let#[wN]:=hn2.count<|PySem.Within.cons name v hw;show Hk (e3p (by rw[hdD];show pastItsLine_dict<|HU hcD ġ) ?_);show Hr (h _ #[(S7.2 _<|Ne.symm I.ne).trans I.obj,hn2,I.ne] S7)
def E8 (X:K.In s.heap)(hm:W.makesIn K C=true)(hi:e0J uf "__init__"=!some oh)(hf:W.typeIn K oh=!.type "function")(h:e5Y (d9L #[.ref C::vs,kw]) (.call oh #[.ref ň::vs,kw]) (W.InitBack ň R)
   { s with heap:=(s.heap.push W.emptyDict).push b39 }):
  codeAny Ē A (.call uf #[vs,kw]) R s:=by
 let#[hh,t6]:=s;show W.make_core (W.makes_of X hm) (W.looks_findIn X hi) (λself=>W.bind_fn X self hf) Ļ h
universe e
theorem lB (f)(v):List (Str×V)->Ï
 | []=>[(f,v)]
 | (g,x)::r=>if g=f then (g,v)::r else (g,x)::f0N r
def Xi0 (f g:Str)(v):∀ fs:Ï,(f0N fs).lookup g=if g=f then some v else fs.lookup g:=by
 intro r'
 induction r' with
 | nil=>
  change List.lookup g [(f,v)]=_
  grind
 | cons hd' r ih'=>
  ext d8h
  grind [lB,List.lookup]
def lL (f)(v):∀ fs:Ï,f∈(f0N fs).map (·.1)/\∀ g,g∈fs.map (·.1)->g∈(f0N fs).map (·.1):=by
 intro r'
 induction r' with
 | nil=>
  show #[by simp[lB],λg h=>by simp at h]
 | cons hd' r ih'=>
  let#[k,x]:=hd';let#[CI]:=ih'
  grind [lB,List.map_cons,List.mem_cons_of_mem,List.mem_cons]
def c3j (f)(v):∀ fs:Ï,(f0N fs).length<=fs.length+1:=by
 intro r'
 induction r' with
 | nil=>
  simp[lB]
 | cons hd' r ih'=>
  ext d8h
  grind [lB,List.length_cons]
def PV.some_of (r:PV (!v) o):∃ u,o=!u/\ue v u:=by
 cases o with
 | none=>ext d8w
 | some u=>show#[u,1,r]
def PV.none_of (r:PV none o):o=none:=by
 cases o with
 | none=>rfl
 | some u=>ext d8w
def tj (d0B):W.handedIn u=true:=by
 cases v with
 | non=>ext d8y
 | bl b=>ext d8y
 | int i=>ext d3V
 | str x=>ext d3V
 | byt b=>ext d3V
 | flt b=>ext d3V
 | ref a=>ext d8y
 | ty n=>ext d8y
def b7h (LY:e5W H h)(e:H a=!.ins C dx fs):∃ mA,Vv h a dx C mA/\(∀ f,PV qV (mA f))/\PySem.Within mA (fs.map (·.1))/\fs.length<=1000/\H dx=!.own a:=by
 let#[d,z,ne,ob,mA,n,r,q]:=(LY a _ e)
 show#[mA,#[ob,n,ne],r,q,z,d]
structure ua (K:Ψ)(c7L):Prop where
 pg:W.plainGet K C Str.empty=true
 hd:W.hasDictIn K C=true
 po:W.plainOver K C=true
 sa:W.findIn K uf "__setattr__"=!some ũ
def ua.get {K:Ψ}(c:ua K C)(f):W.plainGet K C f=true:=c.pg
theorem MF (K)(C)(f):Prop:=e0J uf f=!none
def MF.a3h {K:Ψ}(n:MF K C f):W.takerIn K C f=!none:=by unfold W.takerIn;rw[n];rfl
structure zQ (K:Ψ)(c7L)(m:Str)(f:Addr):Prop where
 at_:W.findIn K uf m=!some oh
 fn:W.isFn K oh=true
 kp:W.keepIn K oh=true
def f2S (c8D)(n:MF X.K C f)(c8M):e2w (getAttr kX f b) Q E s:=by ext d70;ext d5g;show b2c I.Oh O (c.get f) c.hd n hu (tj ru) (h u _ Fn ru)
def b35 (c8D)(k:zQ X.K C m g)(l:fs.lookup m=none)(h:Q (.ref g,rf) s):e2w (getMethod kX m pl) Q E s:=by ext d70;let hn:=PV.none_of (by rw[<- l];show r m);show c0c I.Oh O (c.get m) k.at_ k.fn hn h
def a5g (c8D)(n:MF X.K C f)(hl:fs.length<1000)(ry)(h:∀ s',e0c (d86 a b7b) s'->Q () s'):e2w (setAttr kX f u) Q E s:=by
 let#[mA,O,r,wi,_,ho]:=b7h I.LY e;let hz:(fs.map (·.1)).length<=sizeLine:=by rw[Hl,LG];lia
 show c3l I.Oh O c.sa c.po n.a3h c.hd wi hz λh' O' sb=>h _ ?_;let hd:∃ o,h'.get? dx=!o:=let ⟨o,_,_,e',_⟩:=O'.ns;#[o,e'];show I.write (by rw[e];show K0) (.inr ho) (λb q hb z=>(sb.2 b hb).trans z) hd ?_;show#[by rw[a9 O.ne];show ho,?_,O.ne,O'.obj,_,O'.ns,λg=>?_,λg hg=>?_]
 ·let:=c3j f y fs;lia
 ·rw[Xi0];by_cases q:g=f
  ·rw[if_pos q,if_pos q];show ry
  ·simp_all
 ·by_cases q:g=f
  ·rw[q];show (lL f y fs).1
  ·show (lL f y fs).2 g (wi g λz=>hg ?_)
   simp_all
def Inv.made (I):e0c (d8W H s.heap.objs.size ň C)
  { s with heap:=(s.heap.push W.emptyDict).push b39 }:=by
 let e1:(s.heap.push W.emptyDict).get? s.heap.objs.size=!W.emptyDict:=HD s.heap rfl;let e2:((s.heap.push W.emptyDict).push<|e8k s.heap.objs.size).get? ň=!W.instObj C s.heap.objs.size:=by
  let:=HD (s.heap.push W.emptyDict) (o:=e8k s.heap.objs.size) rfl
  simp_all
 let e3:(s.heap.push W.emptyDict).Ns s.heap.objs.size mG:=#[W.emptyDict,[].toArray,_,e1,1,λe he=>absurd he<|by simp,λ_=>rfl]
 show (I.laid (o:=.own _) (t':=s.toks) c1e nY #[_,e1]).laid c1e (KR<|Ja _ _) ?_;let ne:s.heap.objs.size≠s.heap.objs.size+1:=Ib<|J3 _;show⟨by rw[a9 ne,ae],Iv _,ne,e2,λ_=>none,(Heap.Ns1.of_empty e3).at λo q=>Hn _ q,λ_=>K0,λe3D=>e9D hy⟩
def a52 (hb:attributeBase e f env (eval e env)=eval e env)(h:e0f (eval e env) (λo s₁=>e0f (getAttr o f true) Q E s₁) E s):e0f (eval a5v env) Q E s:=
 Attribute_any_ h (by rw[arm_eval_Attribute,hb])
inductive a5q (K:Ψ)(f:Str)(c8e):Prop
 |mk:∀ a C dx fs v,x=.ref a->H1 a=!.ins C dx fs->ua K C->MF K C f->fs.lookup f=!v->Q v H1->a5q K f Q x H1
theorem a3q (K)(ta)(f):TE:=λe0i=>ta σ H λe3C=>a5q K f Q x H1
inductive b66 (K:Ψ)(c8y):Prop
 |mk:∀ a C dx fs,x=.ref a->H2 a=!.ins C dx fs->ua K C->MF K C f->fs.length<1000->D.nx σ (upd H2 a b7b)->b66 K f D σ y x H2
theorem a7z (K)(ta tv:TE)(f):TS:=λe6n=>tv σ H λy H1=>ta σ H1 λx H2=>b66 K f D σ y x H2
def DL (c7j):e80 (a3q X.K ta f):=by ext d2y;show a52 hb DO;let#[og,C,dx,fs,v,ex,ea,c,n,l,q]:=J';ext d2F;show f2S I1 ea c n l λu' s2 I2 ru=>#[v,H1,I2,ru,q]
def a65 (ha:f0O ta)(hv)(hs:f0P b0D pos.line X.env=pure false):PS X yA (a7z X.K ta tv f):=by ext d56;let#[x,Ej,rx,a,C,F7,ea,c,n,l,q2]:=J';subst ex;obtain rfl:ov=Value.ref a:=rx;show a5g I2 ea c n l ry λf2t=>#[σ,_,I3,q2]
section
variable {H:Hp}
inductive kY (K:Ψ)(H:Hp):V->Value->Prop where
 |non:kY K H .non (.type "NoneType")
 |bl (x:Bool):kY K H (.bl x) kH
 |int (i:Int):kY K H tV ż
 |str (x:Str):kY K H Zc wD
 |flt (x:UInt64):kY K H (.flt x) (.type "float")
 |lst {a:Addr}{xs:π} (e:H a=!.lst xs):kY K H kX Ł
 |frz {a:Addr}{o:Obj}{xs:π} (e:H a=!.frz o lO):kY K H kX Ł
 |tup {a:Addr}{xs:π} (e:H a=!.tup xs):kY K H kX (.type "tuple")
 |dK {a:Addr}{ķ:ξ} (e:Rd H a Cv):kY K H kX Ţ
 |dT {a:Addr}{ķ:List dE} (e:H a=!.dT ķ):kY K H kX Ţ
 |ins {a C dx:Addr}{fs:Ï} (e:H a=!.ins C dx fs) (cl:ua K C) (ha:W.findIn K uf "__class__"=!some m5)
   (hn:W.specialIn K m5 "__get__"=!some (.builtin "getset_descriptor.__get__")) (htk:W.takesIn K m5=!true)
   (hm:W.mroIn K C (.type "object")=!true):kY K H kX uf
def c5x (I)(rx:e2Q u)(ty:kY X.K H x t)(e:W.kitOne X.K t c=!b)(h:∀ tk,Q (.bool b) { s with toks:=tk }):
  wpAny ē A (call sU [u,c]) Q E s:=by
 cases ty with
 | non=>ext d7L;show JA W.kitx_none I.Oh K0 e Ĺ h
 | bl y=>ext d7L;show JA W.kitx_bool I.Oh K0 e Ĺ h
 | int i=>ext d5D;show JA W.kitx_int I.Oh K0 e Ĺ h
 | str y=>ext d5D;show JA W.kitx_str I.Oh K0 e Ĺ h
 | flt y=>ext d5D;show JA W.kitx_float I.Oh K0 e Ĺ h
 | @lst a xs ea=>
  ext d7L;let#[_,_,n,_,h1]:=KI
  ext d5E
 | @frz a ob xs ea=>
  ext d7L;let#[Lq,n,_,h1]:=KI
  ext d5E
 | @tup a xs ea=>
  ext d7L;let#[Lq,p]:=KI
  let#[o,yi,_]:=p;show JA W.kitx_tuple I.Oh #[o,yi] e Ĺ h
 | @dK a ķ ea=>
  ext d7L;let#[_,_,vs,_,p]:=ea.ok I.LY;let#[yH,yi,_]:=p;ext d5h
 | @dT a ķ ea=>
  ext d7L;let#[_,_,xs,_,yH,yi,_]:=KI
  ext d5h
 | @ins a C dx fs ea cl ha hn htk hm=>
  ext d7L;let#[mA,O,_]:=b7h I.LY ea;let#[od,J,_]:=O.look;show JA (W.kitx_own (cl.get _) cl.hd ha hn htk hm) I.Oh J e Ĺ h
universe e
structure Mg (base:mL)(k:Nat)(A:Ë):Prop where
 hd:Hd base A
 dp:A.depth+3 * k+5<recursionLimit
 un:A.units+16 * k+200<cLine
def Mg.mono (d0l)(h:j<=k):f0Q j A:=#[r.hd,by let:=r.dp;lia,by let:=r.un;lia]
def Mg.deeper (r:f0Q (k+1) A)(env:Env):e07 (A.deeper env):=
 #[r.hd,by let:=r.dp;change A.depth+1+3 * k+5<_;lia,by let:=r.un;change A.units+3+16 * k+200<_;lia]
def f2K {A:Ë}:(A.under BJ).depth=A.depth+1:=by first|rfl|simp
def f2J {A:Ë}:(A.under BJ).units=A.units+1:=by first|rfl|simp
abbrev _root_.Ü:=List (Str×Value)
def Mg.make (r:f0Q (k+1) A)(C)(us)(kw:Ü):e07 (A.under BJ):=
 #[r.hd,by let:=r.dp;rw[f2K];lia,by let:=r.un;rw[f2J];lia]
def Mg.depth (d0l):A.depth<recursionLimit:=by let:=r.dp;lia
def Mg.units (d0l):A.units+64<cLine:=by let:=r.un;lia
theorem ju:TA:=λ_ H Q=>Q [] H
theorem cE (ta)(tr:TA):TA:=λe0i=>ta σ H λe3C=>tr σ H1 λxs H2=>Q (x::xs) H2
def K':PA X [] ju:=λe0a H Q I h=>Calls.spliced_nil c15
def a8 (ha:e06 te)(hr:e6r t)(c7o):PA X vh (cE te t):=by intro pos ñ s σ H Q I h;rw[hs];show Calls.spliced_cons (Mn œ λu e6l=>?_);ext d3F;show Mn (hr pos ñ s1 σ H1 _ I1 q1) λus s2 J'=>by let#[xs,xM]:=J';show#[x::xs,Ej,.cons r1 r2,q2]
abbrev Sp:=List V->Hp->VK->XK->Prop
abbrev W3:=List Env->Hp->Shared->XK->ρ
structure V2 (d04)(A:Ë)(outer:List Env)(s:Ê)(H:Hp):Prop where
 frames:A.frames=!outer
 mod:Mod K mg base
 bs:∀ b o,base.get? b=!o->s.heap.get? b=!o/\H b=none
 WL:base.objs.size<=s.heap.objs.size
 Qs:s.heap.FunFrames base outer
 Xu:∀ b∈Ra outer,H b=none
 LY:Po P w H s.heap
 bare:AllBare s.gens
theorem CE (d1K)(u)(s'):Prop:=
 ∃ v H',s'.os=s.os/\AllBare s'.gens/\Un (Ra outer) [] H H' s.heap s'.heap/\Po P w H' s'.heap/\ue v u/\Q v H'
theorem CR (CX:W3)(d1K)(E:XK)(r:Result)(s'):Prop:=
 match r with
 | .ok (.ret u)=>e70 s'
 | .ok _=>False
 | .error e=>e5L e s'
abbrev _root_.È:=FuncData
structure Mq (d04)(CX:W3)(k:Nat)(f:Addr)(fd:È)(ps:η)(sp:Sp):Prop where
 len:∀ vs H Q E,sp vs H Q E->vs.length=ps.length
 run:∀ (A:Ë)(outer:List Env)(s:Ê)(H:Hp)(args:Args)(us:θ)(vs:π)(Q:VK)(E:XK),Mg base k A->V2 P w K mg base A outer s H->BindsTo s fd args SL->A8 vs us->sp vs H Q E ->
  codeAny ų A (.call oh args) (CR CX outer P w H s Q E) s
def Mq.imp {K:Ψ}(d0h)(h:∀ vs H Q E,sp' vs H Q E->e1I E):e6S ps sp':=
 #[λe4O q=>F.len vs H Q E<|h _ _ _ _ q,λe5I=>f1Q hv<|h _ _ _ _ hs]
def V2.make {K:Ψ}(e:e5x H)(C)(us)(kw:Ü):
  V2 P w K mg base (A.under BJ) outer s H:=#[by first|show e.frames|(simpa [Around.under,Code.envs,Code.isFrame,pushEnvs] using e.frames),e.mod,e.bs,e.WL,e.Qs,e.Xu,e.LY,e.bare]
def Inv.Xx (I):e60 X.base X.A X.stack s H:=
 #[I.ok.frames,I.ok.mod,I.bs,e9A I.sz,I.stack,I.P6,I.LY,I.bare]
def Inv.after (I)(h:e7k H s Q u s'):e2Z u s':=by ext d3Z;show#[v,H',I.call un LY bare λb z=>absurd z<|by simp,r,q]
theorem A2 (d1L)(t:TA):TE:=λe0i=>t σ H λe7c=>sp Cp H1 Q E
inductive c3b (c7L)(m:Str)(sp:Sp)(dvs:π)(E:XK)(t:TA)(σ:St)(c8e):Prop
 |mk:∀ a dx fs,x=.ref a->H1 a=some (.ins C dx fs)->fs.lookup m=none->(t σ H1 λvs H2=>sp (x::Cp) H2 Q E)->c3b C m sp dvs E t σ Q x H1
theorem mj (C)(m:Str)(d1L)(ta)(t:TA):TE:=λe0i=>ta σ H λe3C=>c3b C m sp dvs E t σ Q x H1
theorem A0 (C)(d1L)(t:TA):TE:=λe0i=>t σ H λe7c=>∀ x dx,H1 x=none->H1 dx=none->dx≠x->
 sp (.ref x::Cp) (d8W H1 dx x C) b5K E
theorem Lx (K)(fd:È)(ps)(ds:θ):Prop:=
 ∀ (s:Ê)(us:θ),K.In s.heap->(us++ds).length=ps.length->e7l ⟨us,[]⟩ (d9Q ds)
def Lx.all {K:Ψ}(h:∀ us:θ,us.length=ps.length->bindArgs fd D9=pure SL):Lx K fd ps []:=λs us _ hl=>by rw[HV]at hl ⊢;show .of_eq (h us hl)
theorem c3E (CX:W3)(X)(E:XK):Prop:=∀ (ñ:ζ)(σ:St)(H:Hp)(s:Ê)(e:Value)(s':Ê),e0c H s->CX X.stack H s E e s'->X.xe e s'
section
variable {f C:Addr}
def b0n (F)(hr)(c66)(c9S)(h:sp Cp H Q E):e5t s:=by
 let r2:=r.append hd;let hl:(us++ds).length=ps.length:=by rw[<- r2.length];ext d6N
 show KN (d80 _ _ E c1f r2)
 cases r with
 | error e=>ext d4X
 | ok fl=>
  cases fl with
  | ret u=>show I.after hq
  | next=>ext d2U
  | brk=>ext d2U
  | cont=>ext d2U
def c4l (F)(hr)(c8L)(hm:X.mg x=!.ref f)(hk:W.keepIn X.K oh=true)(c66)(c7V)(c8E):
  PE X Ę (A2 sp dvs E t):=by
 ext d2X;show b0n F hr hb hd hx I1 r q
def a0D (c89)(c7V)(U5)(uz)(ht:e81 X.env=(do
   let ov <- eval o X.env
   standAt apos.atName
   let (f,first) <- holding [ov] Ŗ
   callWith pos f first (e01 Ű) Ģ):=ă):
  PE X vO (e6s E ta t):=by
 ext d2y;show W.methodCall_KW (pl:=pl) DO ht;ext d4n;show Kk (first:=rf) (h₀:=X.base) I.ok.mod.Wa hm.kp (thA (ha pos ñ s1 σ H1 _ I1 q) λus s2 vs H2 I2 r q2=>#[I2.Oh,?_]) U5 uz;show b0n (us:=.ref a::us) (vs:=.ref a::vs) F hr hb hd hx I2 (e4Y r) q2
def a8y (c89)(ht:e8l X.env=(do
   let ov <- eval o X.env
   standAt apos.atName
   let (f,first) <- holding [ov] Ŗ
   callWith pos f first (e01 jD) Ģ):=ă):
  PE X Ĝ (e6s E ta ju):=by
 ext d6o;ext d4n;show W.callWith_K0 I1.Oh hm.kp (e9E hb hd hx I1 xx q)
structure Mk (K:Ψ)(C f:Addr):Prop where
 makes:W.makesIn K C=true
 init:W.findIn K uf "__init__"=!some oh
 fn:W.isFn K oh=true
 kp:W.keepIn K uf=true
def w8 (M)(F)(c7n)(c66)(c9S)(h:∀ x dx,H x=none->H dx=none->dx≠x->sp (.ref x::Cp) (d8W H dx x C) b5K E):
  wpAny ē X.A (call uf us) Ľ X.xe s:=by
 let hq:=h _ s.heap.objs.size (I.LY.fresh<|K6 _) Do<|Ib (J3 _);let I2:=Inv.made (C:=C) I;let r2:A8 (V.ref ň::_) _:=.cons rfl<|r.append hd;let hl:(Value.ref ň::us++ds).length=ps.length:=by let e:=r2.length;ext d6e
 show KN (E8 I.Oh M.makes M.init (Kj.mp M.fn) (JI (e8m #[Value.ref _::us,[]] _ _ _ E c1g
  b9h (hb _ _ I2.Oh hl) r2 hq) λr s' S8=>?_))
 cases r with
 | error e=>show hx ñ σ _ _ e s' I2 S8
 | ok fl=>
  cases fl with
  | ret u=>
   let#[v,H',I3,rv,ev,q3]:=I2.after S8;subst ev;show#[rv,#[V.ref _,H',I3,1,q3]]
  | next=>ext d3H
  | brk=>ext d3H
  | cont=>ext d3H
def a6P (d0z)(c7V)(c8E):
  PE X Ę (A0 C sp dvs E t):=by
 ext d2y;show Je Ez;show Kk (h₀:=X.base) I.ok.mod.Wa M.kp a2A he uz;show w8 M F hr hb hd hx I1 r q
def a0u (d0z)(OW):PE X b4s (A0 C sp dvs E ju):=by ext d2y;show Je Ez;show W.callWith_K0 I.Oh M.kp (w8 M F hr hb hd hx I .nil h)
universe e
structure au (N P:η)(sc:Scope):Prop where
 kind:sc.kind=.function
 co:sc.isCoroutine=false
 gen:sc.isGenerator=false
 nd:N.Nodup
 pre:N.take P.length=P
 par:∀ x∈P,sc.names.lookup x=some .local \/ sc.names.lookup x=!.cell
 a0W:∀ y∈sc.names,y.2≠.free
def c4v (c8o):∀ {binds:Ü}{m:Ω},b8n->bindL kindOf binds m x=m x:=by
 intro r'
 induction r' with
 | nil=>
  ext d7u
 | cons hd' r ih'=>
  let#[n,v]:=hd';intro m h;unfold bindL;ext d6A
  ·grind
  ·rfl
def b2e (c8o):∀ {binds:Ü}{m:Ω},b8n->bindC kindOf binds m x=m x:=by
 intro r'
 induction r' with
 | nil=>
  ext d7u
 | cons hd' r ih'=>
  let#[n,v]:=hd';intro m h;unfold bindC;ext d6A
  ·rfl
  ·grind
def b2Y (c8o):∀ {P:η}{vs:θ}{i:Nat}{m:Ω},P.Nodup->P[i]?=!x->vs[i]?=!v->kindOf x=!.local->
  bindL kindOf (P.zip vs) m x=!v
 | [],_,_,_,_,h,_,_=>by simp at h
 | _::_,[],_,_,_,_,h,_=>by simp at h
 | p::P,w::vs,0,m,nd,h1,h2,hk=>by simp at h1 h2;subst h1;subst h2;change bindL kindOf vL m p=_;unfold bindL;rw[c4v λv hv=>(Ii.mp nd).1 (K2 hv).1,if_pos hk];simp
 | p::P,w::vs,i+1,m,nd,h1,h2,hk=>by change bindL kindOf vL m x=_;unfold bindL;show b2Y (i:=i) (Ii.mp nd).2 gU KW hk
def b3Y (c8o):∀ {P:η}{vs:θ}{i:Nat}{m:Ω},P.Nodup->P[i]?=!x->vs[i]?=!v->kindOf x≠!.local->
  bindC kindOf (P.zip vs) m x=!v
 | [],_,_,_,_,h,_,_=>by simp at h
 | _::_,[],_,_,_,_,h,_=>by simp at h
 | p::P,w::vs,0,m,nd,h1,h2,hk=>by simp at h1 h2;subst h1;subst h2;change bindC kindOf vL m p=_;unfold bindC;rw[b2e λv hv=>(Ii.mp nd).1 (K2 hv).1,if_neg hk];simp
 | p::P,w::vs,i+1,m,nd,h1,h2,hk=>by change bindC kindOf vL m x=_;unfold bindC;show b3Y (i:=i) (Ii.mp nd).2 gU KW hk
theorem start (N:η)(vs:π):St:=vs.map some++List.replicate (N.length - vs.length) none
theorem eZ (CX:W3)(P)(w)(K)(mg)(base)(N:η)(ğ:Str)(scope)(f:Addr)(cd:Value)(A:Ë)(outer)(s:Ê)(H)(E:XK):Cx where
 prog:=P
 w:=w
 K:=K
 mg:=mg
 base:=base
 A:=A.deeper wR
 N:=N
 s₀:=s
 H₀:=H
 env:=e1g cd
 outer:=outer
 stack:=e1g cd::outer
 ex:=[]
 calm:=true
 fn:=λ_=>true
 pn:=[]
 xe:=λe s'=>e82 (A.deeper wR) (leaving wR e) (λ_ Yb=>e5L e Yb) (λe' Yb=>e5L e' Yb) s'
def a6Q {sc:Scope}(h:sc.names.lookup x=!.cell):∃ c,(cellsFrom n sc.names []).lookup x=!c:=by show IS.mp (W.cellsFrom_some sc.names n []<|.inl h)
def c3f {K:Ψ}(S:au N ps scope)(hd:Hd base A)(e0:e5x H)(hl:vs.length=ps.length)(r:A8 vs us)(x:InCallC s s.heap.objs.size (d89 bindL) (e7m scope.names []) (d89 bindC) s1):
  Inv a7H [] ST H s1:=by
 let uz:ps.length<=N.length:=by let:=e0g S.pre;rw[HF]at this;omega
 let#[h1,tk,1,hk]:=x.done;let noA:∀ b:Addr,b∉(eZ CX P w K mg base N ğ scope f cd A outer s H E).ex:=λb z=>absurd (show b∈([]) from z) Ĕ;show#[#[e0.mod,S.kind,2,Hz _,λy z c e2H=>?_,λe3D=>?_,λy c _ h=>?_,λ_=>hd,Around.frames_deeper e0.frames,.inr #[2],λb z=>absurd z<|noA b,e0.bs,e0.WL,λb _ _=>noA b,λb z=>absurd z<|noA b,e0.Qs,e0.Xu],1,e0.bare,Un.kept hk,#[_,x.toInCall.ns,λi y v e2H h3=>?_],λy c h=>#[_,x.cell y c h],e0.LY.fresh<|Hz _,λy c h=>?_,λf0z=>absurd (show p∈([]) from hp)<|by simp,e0.LY.kept hk,?_]
 ·show name_of_addr x.apart (KH h1) (KH h2)
 ·let hy:=hy;rcases hy with hy|hy
  ·show a6Q hy
  ·show absurd rfl (S.a0W _<|KH hy)
 ·show Km (x.above y c<|KH h)
 ·let ha:vs[i]?=!v:=by unfold start at h2;grind
  let hi:=(Ho.mp ha).1;let#[u,hu,rv]:=r.get ha;let hp:ps[i]?=!y:=by rw[<- S.pre,IT<|by omega];show h1
  let ndP:ps.Nodup:=by rw[<- S.pre];show S.nd.sublist xP
  show#[u,rv,?_];rcases S.par y (Hs hp) with k|k
  ·show .inl #[k,b2Y ndP hp hu k]
  ·let#[c,e]:=a6Q k;show .inr #[.inl k,c,e,?_];let q:=x.cell y c e;rw[b3Y ndP hp hu (by change scope.names.lookup y≠_;rw[k];decide)]at q;show q
 ·show e0.LY.fresh (Km<|x.above y c (KH h))
 ·unfold start;change _=N.length
  grind
def c1n {K:Ψ}{dV kV:Value}(lk:K.lookup f=some #[lg,.func a6Z,O4])(Tr:W.codeIn K LR ğ=true)(S:au N ps scope)(len)(OX:∀ (A:Ë)(outer:List Env)(s:Ê)(H:Hp)(vs:π)(Q:VK)(E:XK),e07 (A.deeper (e1g LR))->e1I E->
   ∃ t,Qe ž body t/\t { nx:=λ_ H'=>e21 H',rt:=Q } ST H):
  Mq P w K mg base CX (k+1) f a6Z ps sp:=by
 show#[len,λA e05 e0 hb r VQ=>?_];let KX:=e0.mod.Wa.keeps λe0D=>(e0.bs b o e).1;let lim:=e0.mod.nolimit.keeps λe0D=>(e0.bs b o e).1;let a4X:∀ y∈ps.zip us,scope.names.lookup y.1=!.local\/(scope.names.lookup y.1=!.cell/\((e7m scope.names []).lookup y.1).isSome=true):=λJ' hy=>by
  let#[n,v]:=J';rcases S.par n (K2 hy).1 with q|q
  ·show .inl q
  ·show .inr #[q,W.cellsFrom_some _ _ _<|.inl q]
 show codeAny_call_function hr.depth (KX _ _ lk) rfl S.co S.gen rfl (W.codeRec_of KX Tr) (hb _ _ _ _ ?_);show wpAny_newFunctionEnv_cells S.kind a4X λenv he s1 x=>?_;subst he;show#[lim.keeps x.toInCall.keep,codeAny_func ?_];let#[t,ht,hq]:=OX A outer s H vs Q E (hr.deeper _) VQ;let I:Inv ž [] _ H s1:=c3f S hr.hd e0 (len _ _ _ _ VQ) r x;show Jd (ht [] s1 _ H _ I hq) (λfl s' hs=>?_) λe s' hs=>hs;let fin:∀ {σ':St}{H':Hp}{v:V}{u:Value},Inv ž [] σ' H' s'->e5V u->Q v H'->e70 s':=
  λ{σ' H' v u} J rv q=>#[v,H',J.os,J.bare,J.base,J.LY,rv,q]
 cases fl with
 | ret u=>
  let#[v,GH,J,rv,q]:=hs;show fin J rv q
 | next=>
  let#[GH,J,q]:=hs;show fin (v:=V.non) J rfl q
 | brk=>
  ext d6O
 | cont=>
  ext d6O
section
variable {t:TA}{r:List V->Hp->VK->Prop}
theorem tCB (c9K)(t:TA):TE:=λe0i=>t σ H λe7c=>r vs H1 Q
def bi (d05)(c9i)(c7V)(c7H)(c8E):f0R (tCB r t):=by ext d2y;show Je b6w;show PyProof.Rows.callWith_builtin1 a3t he uz
def cU (c9z)(c7V)(c7H)(c8E):f0R (tCB r t):=by ext d2y;show Je b6w;show Jp a3t he uz
universe e
universe L2
namespace HT
open PySem PyProof.Rows
def Xw (A:Ë)(s:Ê)(a:Int)(t:Tok)(c:Int)(u:Tok):∃ e,e1E (.int a t) (.int c u) e/\(e=true ↔ a=c):=
 #[_,SeqAt.EqAt.int_int a t c u,by simp]
theorem Te (n d:Nat):Option Int->Nat
 | none=>d
 | some v=>if v<0 then (v+(n:Int)).toNat else min v.toNat n
def QL (n d:Nat):Te n d none=d:=rfl
def Q8 (n d k:Nat):Te n d Gx=min k n:=by change (if (k)<0 then ((k)+(n:Int)).toNat else min (k:Int).toNat n)=min k n;rw[if_neg<|by omega,Il]
universe HT
namespace L2
open PySem PySem.Spec PyProof.Rows
abbrev TO:=St->Hp->(Option Int->Ù)->Prop
theorem PO (X)(e:Option Expr)(t:TO):Prop:=
 ∀ (ñ:ζ)(s:Ê)(σ:St)(H:Hp)(Q:Option Int->Ù),e0c H s->e4V Q->
  wpAny ē X.A (evalPart e X.env) (λu s'=>∃ o H',e7Y s'/\IsPart u o/\Q o H') X.xe s
theorem c5I:TO:=λ_ H Q=>Q none H
inductive c4E (Q:Option Int->Ù)(x:V)(H1:Hp):Prop
 |mk:∀ i,x=.int i->Q (!i) H1->c4E Q x H1
theorem a3k (t:TE):TO:=λe0i=>t σ H λe3C=>c4E Q x H1
def f2R:∀ {us:θ},f0S us->e5Z ns:=by
 induction ns with
 | nil=>intro us r;cases r;show .nil
 | cons n ns ih=>
  intro us r
  cases r with
  | cons r1 r2=>
   let#[t,e]:=r1;subst e;show .cons n t (ih r2)
section
variable {X:Cx}{te:TE}{lo hi:Option Expr}{tl th:TO}
def U0:PO X none c5I:=by ext d2y;rw[evalPart_none];show Hr #[none,H,I,.none,h]
def gA (h:e06 te):PO X (!e) (a3k te):=by ext d55;show Mn wM λu e6l=>?_;ext d3F;let#[i,1,q]:=q1;let#[t,1]:=r1;show#[!i,Ed,.int i t,q]
abbrev _root_.Ô:=Option Int
theorem uU (X)(c9L):Prop:=
 ∀ (ñ:ζ)(s:Ê)(σ:St)(H:Hp)(x:V)(v vl vu:Value)(lo hi:Ô)(sl:Addr)(Q:VK),e0c H s->e2Q v->s.heap.IsSliceOf sl vl vu .none->IsPart vl lo->IsPart vu hi->r x lo hi H Q->
  ∃ T id,typeLookup TW "__getitem__"=pure !.builtin id/\s.TypeIs v T/\wpAny ē X.A (getItem v (d9G sl)) Ľ X.xe s
theorem tSl (c9L)(te)(tl th:TO):TE:=λe0i=>te σ H λe3C=>tl σ H1 λl H2=>th σ H2 λu H3=>r x l u H3 Q
def iA (hr:uU X r)(c80)(hl:PO X lo tl)(hu:PO X hi th):PE X (.Subscript e b7O pos) (tSl r te tl th):=by ext d2y;show Subscript_ Zj;ext d3F;show wpAny_Slice (Mn (d9H hl) fun vl s2 ⟨l,H2,I2,pl,q2⟩=>Mn (d9C hu σ) λvu s3 J'=>?_);let#[u,H3,I3,pu,q3]:=J';ext d4e;let I4:e0c H3 { s3 with heap:=s3.heap.push { cls:=.type "slice",data:=.fields [vl,vu,.none].toArray } }:=I3.kept λb ob q=>Hn _ q;let#[T,id,hT,ht,hg]:=hr ñ { s3 with heap:=s3.heap.push { cls:=.type "slice",data:=.fields [vl,vu,.none].toArray } } σ H3 x v vl vu l u s3.heap.objs.size Q I4 r1 (Heap.IsSliceOf.new ..) pl pu q3;show tail_any ht hT hg b44
theorem kU (xs:π)(d0Y):π:=(xs.drop (HT.Te xs.length 0 lo)).take (d8Z xs.length)
def xY (xs:π)(d0Y):(kU xs lo hi).length<=xs.length:=by
 unfold kU;rw[HF,KA]
 lia
universe e
theorem kP (n)(i:Int):Option Nat:=if 0<=i then (if i<n then some i.toNat else none) else if -(n:Int)<=i then some (i+n).toNat else none
theorem RV (d0D)(xs)(i:Int):Option α:=(e6t i).bind λj=>xs[j]?
def c5Z (h:kP n i=!j):seqIndex? i n=!j/\j<n/\-(n:Int)<=i/\i<n:=by
 unfold kP at h;by_cases h0:0<=i
 ·rw[if_pos h0]at h;by_cases h1:i<n
  ·ext d5v;show#[by rw[f1Y h1,e],WZ,h1]
  ·simp_all
 ·rw[if_neg h0]at h;by_cases h1:-(n)<=i
  ·ext d5v;show#[by rw[seqIndex_neg #[0] h1,e],#[0],h1,#[0]]
  ·simp_all
def a9o (h:RV xs i=!v):∃ j,seqIndex? i xs.length=!j/\xs[j]?=!v/\j<xs.length/\-(xs.length:Int)<=i/\i<xs.length:=by
 unfold RV at h
 cases e:e6t i with
 | none=>rw[e]at h;cases h
 | some j=>
  rw[e]at h;let#[Ab]:=c5Z e;show#[j,h1,h,h2,zh]
def fG {xs:List α}{j:Nat}{v:α}(h:xs[j]?=!v):RV xs (j:Int)=!v:=by
 let hj:=(Ho.mp h).1;let e:e6t (j)=!j:=by
  unfold kP
  simp_all
 unfold RV;rw[e];show h
theorem c42 (b:Expr):Prop:=∀ o i,subscripted b false o i=operate [o,i] (getItem o i)
theorem VZ (X)(r:R2):Prop:=
 ∀ (value slice:Expr)(ñ:ζ)(s:Ê)(σ:St)(H:Hp)(x y:V)(v u:Value)(Q:VK),e0c H s->e2Q v->e8W u->r x y H Q->
  subscripted slice false v u=operate [v,u] (getItem v u)->e0h (subscriptTail value slice v u) Ľ X.xe s
theorem Za (X)(id:String)(r):Prop:=
 ∀ (ñ:ζ)(s:Ê)(σ:St)(H:Hp)(x:V)(xs:π)(v:Value)(us:θ)(Q:VK),e0c H s->e2Q v->e0I us->r x xs H Q->
  wpAny ē X.A c0A Ľ X.xe s
section
variable {a b:Expr}
def VZ.or (h:VZ X r)(h':VZ X r'):VZ X b2y:=by
 intro value slice ñ s σ H x y v u Q I rx ry q hs;ext d7Z
 ·show h value slice ñ s σ H x y v u Q I rx ry q hs
 ·show h' value slice ñ s σ H x y v u Q I rx ry q hs
def Zb {tb:TE}(hr:VZ X r)(c7b)(hs:c42 b):e6u jd:=by ext d2y;show Subscript_ (a10 ha hb I h λv u s2 x y H2 I2 rx ry q=>hr a b ñ s2 σ H2 x y v u Q I2 rx ry q<|hs _ _)
inductive lA (K:Ψ)(c8f):Prop
 |mk:∀ p xs i v,x=.ref p->y=.int i->Ma K H p xs->RV xs i=!v->Q v H->lA K x y H Q
inductive Dv (K:Ψ)(c8f):Prop
 |mk:∀ p xs i v,x=.ref p->y=.int i->Oi K H p xs->RV xs i=!v->Q v H->Dv K x y H Q
def b3Q:VZ X (lA X.K):=by
 ext d6p
 ext d6f;ext d6P;ext d25
 by_cases h0:0<=i
 ·let hj:i.toNat=j:=by
   rw[f1Y h5]at h1
   simp_all
  show item_listR pl.isList h0 #[0] (by rw[hj];simpa using ew) fin hs
 ·let hj:(i+(its.toArray.size)).toNat=j:=by
   rw[seqIndex_neg #[0] h4]at h1
   simp_all
  show subscriptTail_builtinR pl.isList.typeIs slot_list_getitem.lookup
   (wpAny_getItem_list_neg pl.isList #[0] ġ #[0] (by rw[hj];simpa using ew) #[1,fin]) hs
def a8I:VZ X (Dv X.K):=by
 ext d6p
 ext d6f;ext d6q;ext d25
 show subscriptTail_builtinR pl.typeIs slot_tuple_getitem.lookup
  (getItem_tuple (j:=j) pl #[] #[] ġ (by simpa using ew) #[1,fin]) hs
def Inv.lst (I)(h:H p=!.lst xs):
  ∃ (its:θ)(n:Nat),e0I its/\s.heap.get? p=!{ cls:=.type "list",data:=e1P n }/\xs.length<=sizeLine:=by
 let#[rM,e]:=I.LY p _ h;show#[its,n,r,e,z]
def b5a (d0Y)(n):(e2T n).1=((HT.Te n 0 lo:Nat):Int)/\(e2T n).2.1=((HT.Te n n hi:Nat):Int)/\(e2T n).2.2=1:=by
 show#[cW,1]
 ·cases lo with
  | none=>simp[sliceBounds,HT.Te]
  | some i=>
   ext d39
   ·simp only[h] <;> lia
   ·simp only[h] <;> lia
 ·cases hi with
  | none=>simp[sliceBounds,HT.Te]
  | some i=>
   ext d39
   ·simp only[h,if_true] <;> lia
   ·simp only[h,JS] <;> lia
def a37 (its:θ)(d0Y):slicePick its.toArray lo hi none=((its.drop (HT.Te its.length 0 lo)).take (d8Z its.length)).toArray:=by let#[xu]:=b5a lo hi its.toArray.size;unfold slicePick;rw[h1,h2,h3];simp only[sliceRange_one,pick_run] <;> rfl
inductive a3D (d1l):Prop
 |mk:∀ a xs,x=.ref a->Ma K H a xs->(∀ p,H p=none->Q A5 (d86 p b9i))->a3D K x lo hi H Q
def b8G:uU X (a3D X.K):=by
 intro ñ s σ H x v vl vu lo hi sl Q I rx hs pl pu h;let#[a,xs,1,hx,q]:=h
 cases rx;let#[its,r,ht,hz]:=I.list hx;let hlen:=r.length;show#["list",_,slot_list_getitem.lookup,ht.isList.typeIs,?_];show wpAny_getItem_list_slice ht.isList hs pl pu .none Ĕ ?_ ġ;rw[a37,<- hlen];show#[.ref s.heap.objs.size,_,I.laid (λb ob q=>Hn _ q) nY ?_,1,q _<|I.LY.fresh nY];show#[HU (xY xs lo hi) hz,_,(0),(r.drop _).take _,HD _ rfl]
theorem eY:V->Bool
 | .non=>true
 | .bl _=>true
 | .int _=>true
 | .str _=>true
 | _=>false
theorem YC:V->V->Bool
 | .non,.non=>true
 | .bl a,.bl b=>a==b
 | .bl a,.int b=>(if a then 1 else 0)==b
 | .int a,.bl b=>a==b9j
 | .int a,.int b=>a==b
 | .str a,.str b=>a==b
 | _,_=>false
def b9U (ry)(rx)(fy:eY y=true)(fx):e1E u v (YC y x):=by
 cases y with
 | non=>
  cases ry
  cases x with
  | non=>cases rx;show SeqAt.EqAt.same _
  | bl b=>cases rx;show SeqAt.EqAt.none_bool b
  | int b=>ext d3s;show SeqAt.EqAt.none_int b t
  | str b=>ext d3s;show SeqAt.EqAt.none_str b t
  | _=>ext d5m
 | bl a=>
  cases ry
  cases x with
  | non=>cases rx;show SeqAt.EqAt.bool_none a
  | bl b=>cases rx;show SeqAt.EqAt.bool_bool a b
  | int b=>ext d3s;show SeqAt.EqAt.bool_int a b t
  | str b=>ext d3s;show SeqAt.EqAt.bool_str a b t
  | _=>ext d5m
 | int a=>
  let#[t',1]:=ry
  cases x with
  | non=>cases rx;show SeqAt.EqAt.int_none a t'
  | bl b=>cases rx;show SeqAt.EqAt.int_bool a t' b
  | int b=>ext d3s;show SeqAt.EqAt.int_int a t' b t
  | str b=>ext d3s;show SeqAt.EqAt.int_str a t' b t
  | _=>ext d5m
 | str a=>
  let#[t',1]:=ry
  cases x with
  | non=>cases rx;show SeqAt.EqAt.str_none a t'
  | bl b=>cases rx;show SeqAt.EqAt.str_bool a t' b
  | int b=>ext d3s;show SeqAt.EqAt.str_int a t' b t
  | str b=>ext d3s;show SeqAt.EqAt.str_str a t' b t
  | _=>ext d5m
 | _=>show absurd (fy) Ig
theorem Vs (x:V)(u):Bool:=match u with
 | .none=>YC .non x
 | .bool b=>YC yC x
 | .int i _=>YC tV x
 | .str z _=>YC (.str z) x
 | _=>false
def c5f (r:e8W u)(f:eY y=true):Vs x u=YC y x:=by
 cases y with
 | non=>ext d8a
 | bl b=>ext d8a
 | int i=>ext d3A
 | str z=>ext d3A
 | _=>show absurd (f) Ig
def Fn0:∀ {xs:π}{us:θ},e0I us->xs.all eY=true->us.any Cy=xs.any λy=>YC y x:=by
 intro xs us h
 induction h with
 | nil=>intro _;rfl
 | cons r t ih=>
  intro f;rw[List.all_cons,Jn]at f;rw[Lg,Lg,c5f r f.1,ih f.2]
def c5U (rx)(fx):∀ {xs:π}{us:θ},e0I us->xs.all eY=true->∀ u∈us,e1E u v (Vs x u):=by
 intro xs us h
 induction h with
 | nil=>intro _ u hu;cases hu
 | cons r t ih=>
  intro f u' hu;rw[List.all_cons,Jn]at f;rcases HK.mp hu with rfl|hu
  ·rw[c5f r f.1];show b9U r rx f.1 fx
  ·show ih f.2 u' hu
theorem Xd (x:V)(xs:π):Bool:=xs.any λy=>YC y x
inductive rIn (K:Ψ)(neg:Bool)(c8f):Prop
 |mk:∀ p xs,y=.ref p->(Ma K H p xs \/ Oi K H p xs)->eY x=true->xs.all eY=true->(Q (.bl (if neg then not (Xd x xs) else Xd x xs)) H)->rIn K neg x y H Q
def a7v:NK X Aw (rIn X.K false):=by
 ext d6B
 cases ry;ext d43
 ·ext d6P;show SeqAt.in_listAt _ pl.isList Ş ia;ext d4m
 ·ext d6q;show SeqAt.in_tupleAt _ pl Ş ia;ext d36
def b1z:NK X rZ (rIn X.K true):=by
 ext d6B
 cases ry;ext d43
 ·ext d6P;show SeqAt.notIn_listAt _ pl.isList Ş ia;ext d4m
 ·ext d6q;show SeqAt.notIn_tupleAt _ pl Ş ia;ext d36
def a3f:e6v (λe1w=>∃ p ys,xs=Cd/\(e50 ys\/Oi X.K H p ys)/\Q wU H):=by
 ext d6g
 cases rx;let hn:=pE;ext d43
 ·ext d7M;show Calls.call_len_list pl.isList (by simp only[IV] <;> lia) a60
 ·ext d7v;show len_tuple pl (by simp only[IV] <;> lia) a60
def b1g:e6v (λe1w=>∃ z,xs=[.str z]/\z.length<=sizeLine/\Q (.int z.length) H):=by ext d2D;let#[z,1,hz,q]:=h;let#[u,1,t,1]:=df r;let hn:=pE;show len_str #[] #[.int z.length,cT,q]
def Ms.or (h:f0T r)(h':f0T r'):f0T (λe1w=>r xs H Q\/r' xs H Q):=by
 intro ñ s σ H xs us Q I rs q;ext d7Z
 ·show h ñ s σ H xs us Q I rs q
 ·show h' ñ s σ H xs us Q I rs q
def a6H:e8n (λe1w=>∃ p ys,xs=Cd/\(e50 ys\/Oi X.K H p ys)/\∀ l,H l=none->Q z8 uX):=by
 ext d6g
 cases rx;let fin:∀ (its:θ),e8d its->ys.length<=sizeLine->∀ (h':Heap)(c':Nat),_->
   h'.get? s.heap.objs.size=!{ cls:=.type "list",dict:=none,data:=e1P c',slots:=[].toArray }->e2Z _ { s with heap:=h' }:=λits r' hz h' c' kp e=>
  #[.ref s.heap.objs.size,_,I.laid kp nY<|show Mc X.prog X.w _ h' _ xV from #[hz,its,c',r',e],1,q _<|I.LY.fresh nY]
 ext d43
 ·ext d7M;let#[kh,n,hd]:=pl.isList;show call_list_seq p Ļ ho hc hd b0L ġ
 ·ext d7v;let#[kh,n,hd]:=pl;show call_list_seq p (.inr rfl) ho hc hd b0L ġ
theorem tyV (K)(d1M)(x:V)(H):Prop:=match x with
 | .str _=>T="str"
 | .int _=>T="int"
 | .ref p=>(T="list"/\∃ xs,e83 xs)\/(T="tuple"/\∃ o,K.lookup p=!o/\o.cls=.type "tuple"/\o.dict=none) \/
   (T="dict"/\((∃ ķ,H p=!.dK ķ)\/∃ ķ,H p=!.dT ķ))\/(T="set"/\∃ S n,H p=!.set S n)
 | _=>False
def c3Y (I)(r:e2Q v)(ty:tyV X.K T x H):
  s.TypeIs v T/\∀ a,v=.ref a->∃ ob,s.heap.get? a=!ob/\ob.dict=none:=by
 cases x with
 | str z=>
  let#[t,1]:=r
  cases (ty);show#[typeIs_str s z t,λ_ e=>nomatch e]
 | int i=>
  let#[t,1]:=r
  cases (ty);show#[typeIs_int s i t,λ_ e=>nomatch e]
 | ref p=>
  cases r;rcases ty with⟨rfl,xs,hq⟩|⟨rfl,o,hk,hc,hd⟩|⟨rfl,hk⟩|⟨rfl,S,n,hk⟩
  ·let#[its,_,pl,_]:=I.list hq;show#[pl.isList.typeIs,λa e=>?_]
   cases e;let#[o,n,e,c,hd,_]:=pl;show#[o,e,hd]
  ·show#[#[o,I.Oh p o hk,hc],λa e=>?_]
   cases e;show#[o,I.Oh _ o hk,hd]
  ·let z:∃ o,s.heap.get? p=!o/\o.ExactDict:=by
    rcases hk with⟨ķ,hk⟩|⟨ķ,hk⟩
    ·ext d4P
    ·ext d4P
   let#[o,e,ex]:=z;show#[c6f]
   ext d8i
  ·let#[o,Lq,e,ex,_]:=I.LY p _ hk;show#[c6f]
   ext d8i
 | _=>show False.elim ty
theorem a0o (K)(d1M)(r)(to:TE):TE:=λe0i=>to σ H λe3C=>tyV K T x H1/\r x [] H1 Q
theorem tBM (K)(d1M)(r)(to:TE)(t:TA):TE:=λe0i=>to σ H λe3C=>tyV K T x H1/\t σ H1 λxs H2=>r x xs H2 Q
variable {id:String}
def a0L (c7B)(OY)(QT):PE X b9k (a0o X.K T r to):=by ext d2y;show wpAny_Call_method0_late OY QT b7P;ext d5b;show#[T,id,pa,slot,Yn,h1,h2,La rfl<|PySem.evalArgs_none (hm ñ s1 σ H1 x [] v [] Q I1 r1 .nil q1)]
def a3M (c7B)(c7V)(OY)(a1y:((f0U Ű).all C3&&(backToKw MV Ĭ).all Bt
   && decide b3i)=true:=ă)(QT)(c7o)(Vm):
  PE X b8p (tBM X.K T r to t):=by
 ext d2y;show wpAny_Call_method_late OY a1y QT rfl b7P;ext d5b;show#[T,id,pa,slot,Yn,yi,?_];let hA:=ha MV ñ s1 σ H1 _ I1 q1;rw[hs]at hA ⊢;show La (by change (false || (f0U _).any _)=false;rw[Vm] <;> rfl) (Calls.evalArgs_plain ?_);show Mn hA λus s2 J'=>by let#[vs,xM]:=J';show hm ñ s2 σ H2 x vs v us Q I2 r1 r2 q2
universe e
theorem Bj (X)(id:String)(r):Prop:=
 ∀ (ñ:ζ)(s:Ê)(σ:St)(H:Hp)(x:V)(xs:π)(v:Value)(us:θ)(Q:VK),e0c H s->e2Q v->e0I us->r x xs H Q->
  wpAny ē X.A c0A Ľ X.xe s
def A8.one:∀ {x:V}{us:θ},A8 [x] us->∃ u,us=[u]/\ue x u:=by
 intro x us h
 cases h with|cons r t=>cases t;show#[_,1,r]
def A8.zero:∀ {us:θ},A8 [] us->us=[]
 | _,.nil=>rfl
def A8.dropLast (h:e0I us):A8 xs.dropLast us.dropLast:=by
 induction h with
 | nil=>show .nil
 | cons r t ih=>
  cases t with
  | nil=>show .nil
  | cons q t'=>show .cons r ih
def A8.eraseIdx:∀ {xs:π}{us:θ} (i:Nat),e0I us->A8 (xs.eraseIdx i) (us.eraseIdx i)
 | _,_,_,.nil=>.nil
 | _,_,0,e8b t=>t
 | _,_,i+1,e8c t=>e8c (A8.eraseIdx i t)
def A8.rep (h:e0I us):∀ k:Nat,A8 (e1a xs).flatten (e1a us).flatten:=by
 intro r'
 induction r' with
 | zero=>
  show .nil
 | succ k ih'=>
  rw[JT,JT,KY,KY];show A8.append h (ih')
def a1L (d06):l.eraseIdx (l.length - 1)=l.dropLast:=by grind
def sS:∀ (l:List α)(i:Nat),(l.eraseIdx i).length<=l.length
 | [],_=>Hz _
 | _::_,0=>K6 _
 | _::r,i+1=>Nat.succ_le_succ (sS r i)
def c32 (its:θ):∀ (k:Nat)(acc:θ),
  List.foldl At acc.toArray (e1a its.toArray)=(acc++(e1a its).flatten).toArray
 | 0,acc=>by simp
 | k+1,acc=>by simp[List.replicate,c32,JT,JR]
def Inv.a03 {its:θ}(I)(hH:H l=!.lst xs)(e:s.heap.get? l=!{ cls:=.type "list",data:=e1P n })(hf:f its.toArray=its'.toArray)(hv:e8d its')(d1W):
  Inv X ñ σ uX { s with heap:=s.heap.update l (Obj.mapSeq f),toks:=t' }:=by
 let q:=PySem.IsL.update e f;rw[hf]at q;show I.write (by rw[hH];show trivial) Ļ (λb' u hb hu=>(Ie s.heap _<|Ne.symm hb).trans hu) #[_,q] ?_;show#[hz,its',_,hv,q]
def Inv.a04 (I)(hv:e8d its)(d1W):
  Inv X ñ σ (d86 s.heap.objs.size xV) { s with heap:=s.heap.push { cls:=.type "list",data:=.seq its.toArray },toks:=t' }:=
 I.laid dR nY #[hz,its,(0),hv,HD _ rfl]
def Inv.fresh (I):H s.heap.objs.size=none:=I.LY.fresh nY
def Inv.Vk (I)(hH:H l=!.lst xs):xs.length<=sizeLine/\∃ (its:θ)(n:Nat),e0I its/\xs.length=its.length/\s.heap.get? l=!{ cls:=.type "list",data:=e1P n }:=by let#[rM,e]:=I.LY l _ hH;show#[rM,r.length,e]
def b9J (h:n<=sizeLine):Builtin.List.listTooLong n=false:=by show Hw #[0]
inductive ko (x:V)(c7y):Prop
 |mk:∀ l xs y,x=.ref l->vs=[y]->H l=!.lst xs->xs.length<sizeLine->Q .non (d86 l (.lst (xs++[y])))->ko x vs H Q
def aF:Bj X "list.append" ko:=by
 ext d3W;let#[l,xs,y,2,hH,hz,q]:=h
 ext d7w;ext d4H;show LC F.slot_list_append nH F.entry_list_append (F.args_list_append_2 _ _) (PySem.list_append l its.toArray n u<|by simp_all) #[e,?_];show#[.non,_,I.a03 hH e Ĕ (r.append<|.cons ru .nil) ?_,1,q];rw[HE,IN];omega
inductive EF (x:V)(c7y):Prop
 |mk:∀ l xs y,x=.ref l->vs=[]->H l=!.lst xs->xs[xs.length - 1]?=!y->Q y (d86 l (.lst xs.dropLast))->EF x vs H Q
def a00:Bj X "list.pop" EF:=by
 ext d3W;let#[l,xs,y,2,hH,hy,q]:=h
 cases rx;let hus:=rv.zero;subst hus;ext d4H;let#[lZ]:=r.get hy;let hy':its.toArray[its.toArray.size - 1]?=!u:=by
  simp_all
 show LC F.slot_list_pop nH F.entry_list_pop (F.args_list_pop_1 _) (MeetsSeq.list_pop_last l its.toArray n u hy'<|by simp_all) #[e,?_];show#[y,_,I.a03 hH e ?_ r.dropLast ?_,ru,q]
 ·simp_all
 ·rw[List.length_dropLast]
  lia
inductive a9U (x:V)(c7y):Prop
 |mk:∀ l xs i k y,x=.ref l->vs=mB->H l=!.lst xs->-(2 ^ 63)<=i->i<2 ^ 63->seqIndex? i xs.length=!k->xs[k]?=!y->Q y (d86 l (.lst (xs.eraseIdx k)))->a9U x vs H Q
def c6q:Bj X "list.pop" a9U:=by
 ext d3W;let#[l,xs,i,k,y,2,hH,yi,hk,hy,q]:=h
 ext d7w;let#[t,1]:=ru;ext d4H;let#[w,hw,TZ]:=r.get hy;show LC F.slot_list_pop nH F.entry_list_pop (F.args_list_pop_2 _ _)
  (MeetsSeq.list_pop_at l its.toArray n i t k w (e9F h2) ġ ġ<|by simp_all) #[e,?_]
 show#[y,_,I.a03 hH e ?_ (r.eraseIdx k) ?_,TZ,q]
 ·simp_all
 ·let:=sS xs k
  lia
inductive a3G (c8f):Prop
 |mk:∀ l b xs zs,x=.ref l->y=.ref b->H l=!.lst xs->H b=!.lst zs->xs.length+zs.length<=sizeLine->(∀ p,H p=none->Q A5 (d86 p (.lst (xs++zs))))->a3G x y H Q
def a0P:e8Y a3G:=by
 ext d2E;let#[l,b,xs,zs,2,hH,hB,hz,q]:=h
 cases rx
 cases ry;ext d4H;let#[z2,NI,n2,r2,WH,e2]:=I.Vk hB;show PySem.P.add_list e e2 ?_ (by grind);let ea:its.toArray++NI.toArray=(its++NI).toArray:=by simp
 rw[ea];show#[.ref _,_,I.a04 (r.append r2)<|by simp_all,1,q _ I.fresh]
inductive DI (c8f):Prop
 |mk:∀ l k xs,x=.ref l->y=.int k->H l=!.lst xs->-(2 ^ 63)<=k->k<2 ^ 63->xs.length * k.toNat<=sizeLine->(∀ p,H p=none->Q A5 (d86 p (.lst (List.replicate k.toNat xs).flatten)))->DI x y H Q
def Cls (xs)(k:Nat):(e1a xs).flatten.length=k * xs.length:=by simp_all
def c0H:NK X c14 DI:=by
 ext d2E;let#[l,k,xs,2,hH,yi,hz,q]:=h
 ext d6f;ext d4H;let hlen:its.toArray.size * k.toNat<=sizeLine:=by simp_all
 let a9i:¬ its.toArray.size * k.toNat > (2 ^ 63 - 1) / 8:=by
  let:(sizeLine:Nat)<=(2 ^ 63 - 1) / 8:=by decide
  lia
 let a9b:¬ (not (Builtin.List.listFitsIndex k))=true:=by rw[e9F h2];show Ig
 let a4U:¬ Builtin.List.listTooLong (its.toArray.size * k.toNat)=true:=by
  rw[b9J hlen]
  simp_all
 let Pp:List.foldl At [].toArray (List.replicate (if its.toArray.isEmpty=true then 0 else k.toNat) its.toArray)=(List.replicate k.toNat its).flatten.toArray:=by
  let f0:∀ m:Nat,List.foldl At [].toArray (e2R its.toArray)=(e2R its).flatten.toArray:=λm=>by simp[c32,Ji]
  rw[f0]
  cases its with
  | nil=>simp
  | cons a r'=>rw[if_neg<|by simp]
 show wpAny_binaryOp_repeat_ref ĺ nH (λs'=>typeIs_int s' k t) noFill_list_mul F.fills_int_mul F.slot_int_rmul repeat_list F.slot_int_index.lookup
  (LC F.slot_int_rmul (typeIs_int s k t) F.entry_int_rmul (F.args_int_rmul_2 _ _) (int___rmul___int_list k t l its.toArray n)
   #[e,1,nH,LC F.slot_list_mul nH F.entry_list_mul (F.args_list_mul_2 _ _) (AutoListH.list___mul___list_int_3 l its.toArray n k t a9b a9i a4U) #[e,?_]])
 rw[Pp];show#[.ref _,_,I.a04 (r.rep k.toNat) (by rw[Cls,Nat.mul_comm];show hz),1,q _ I.fresh]
universe L2
namespace Att
open PySem PySem.W PySem.Calls PyProof.Rows
abbrev _root_.Ξ:=List Int
def b3X:∀ (ns:Ξ)(vs:θ),WellAll P h vs c0B->e14 ns:=by
 intro ns
 induction ns with
 | nil=>
  intro vs w
  cases w;show .nil
 | cons n ns ih=>
  intro vs w
  cases w with
  | cons a b=>
   cases a;show .cons _ _ (ih _ b)
def a2y (d1N)(Yt:l.row.toRowW.claim.pre args=true)(hwl:WellAll P h vals args):
  ∃ a vs ns,vals=[Value.ref a]/\args=[WData.list c0B]/\h.get? a=!{ cls:=.type "list",data:=.seq vs.toArray }/\IntsAre vs ns/\ns.length<=n:=by
 let hsh:=(pre_splitW Yt).1;let hc:l.pre.holds [] { args:=args }=true:=(pre_splitW Yt).2;let#[d,r,1,yi]:=hasAllW_cons hsh;obtain rfl:=hasAllW_nil h2;let#[xs,1,h3]:=hasW_list h1;let#[ns,1]:=items_int h3;let hlen:ns.length<=n:=by
  let h4:(WTm.not<|.lt (.lit<|.int (n)) (.len<|.arg 0)).holds [] { args:=[.list<|ns.map .int] }=true:=by let h4:=(holds_andW hc).1;rw[hn]at h4;show h4
  let h5:=condW_of h4 (w_not<|w_lt w_lit (w_len_list<|w_arg rfl))
  simp_all
 cases hwl with
 | cons w1 w2=>
  cases w2
  cases w1 with
  | list ho Rp=>show#[_,_,ns,2,ho,b3X ns _ Rp,hlen]
def a1m (l:OpenLaw)(args:List WData):l.row.toRowW.claim.post args (.bool true) args=true:=
 postW_of
  (show WShape.has [] _ .bool=true by first|rfl|decide|simp)
  (w_eq_bool (w_res rfl) w_lit) rfl
def UZ (d1N)(hdf)(call:∀ (w:World)(s₀ s₁:Ê)(mg mb:Ω)(fa:Addr)(o:Obj)(pm cd doc:Value)(a:Addr)(vs:θ)(ns:Ξ),
   Ground q loose [] XP w s₀ mg mb s₁.heap->YP w s₁.heap->
   s₁.heap.get? fa=!o->o.data=.func (docDef d.name d.params d.body d.scope pm cd doc)->s₁.heap.CodeRec cd d.name->mg d.name=!.ref fa->
   s₁.heap.get? a=!{ cls:=.type "list",data:=.seq vs.toArray }->e14 ns->ns.length<=n->s₁.gens=[].toArray->
   codeAny (model l.prog w) callerA qK a7D s₁):
  WalkO q loose XP YP l.row.toRowW d [] wP:=by
 intro w s₀ s₁ mg mb G Y fa o pm cd doc dV kV ho hd Tr hD hmg hg args vals as Yt b4j Yr hwl hlo;obtain rfl:dV=.none:=Dflts.none hD hdf;obtain rfl:kV=.none:=Dflts.noKw hD;let#[a,vs,ns,2,a1t,hints,hlen]:=a2y hn Yt hwl;show enter_call (JI (call w s₀ s₁ mg mb fa o pm cd doc a vs ns G Y ho (fd_plain hd) Tr hmg a1t hints hlen hg) λr s' hq=>?_);let#[1,h2,zh]:=hq;show#[.inl #[.bool true,.bool true,[],1,λ_=>rfl,.bool true,a1m l _,λ_=>#[List.Pairwise.nil,λ_ hm=>nomatch hm]],h2,zh]
universe Att
namespace L2
open PySem PySem.Spec PyProof.Rows
def b2v:∀ {vs:θ}{ns:Ξ},e14 ns->f0S vs:=by
 intro vs ns h
 induction h with
 | nil=>show .nil
 | cons n t _ ih=>show .cons #[t,1] ih
theorem xK (H):Prop:=∀ b,H b=none\/∃ o xs,H b=!.frz o lO
abbrev _root_.Ò:=Array DictEntry
def a8h {K:Ψ}(KX:K.In s₁.heap)(WG:s₁.heap.Ns mainGlobals mg)(hb:s₁.heap.Ns builtinsNs mb)(hbb:∀ x:Str,x≠"__name__"->mb x=bootBuiltins x)(a82:s₁.heap.NoLimit)(hg:s₁.gens=[].toArray)(ha:s₁.heap.get? a=!{ cls:=.type "list",data:=.seq vs.toArray })(hi:e14 ns)(hl:ns.length<=sizeLine)(c98)(F:∀ base:Heap,K.In base->e2a mg->Mq P w K mg KG CX k fa fd [x] sp)(a5h:∀ (s:Ê)(u:Value),e7l #[[u],[]] [(x,u)])(VQ:∀ H:Hp,xK H->e1k ł->sp rf H b9O λe0j=>False)(hCX:∀ H e s',CX [] H s₁ c16 e s'->False):
  codeAny ų callerA qK a7D s₁:=by
 let rv:=b2v hi;let a8c:=hi.length;let core:∀ H:Hp,xK H->e1k ł->e5W H s₁.heap->(∀ b,H b≠none->b=a)->(H a≠none->K.lookup a=none)->
   codeAny ų callerA qK (λr s'=>r=.ok (.ret<|.bool true)/\OldK s₁.heap s'.heap/\s'.os=s₁.os/\AllBare s'.gens) s₁:=by
  intro H hO hS LY hA hK;let VY:∀ {b:Addr}{o:Obj},s₁.heap.get? b=!o->H b=none->(rQ s₁.heap H).get? b=!o:=λe n=>a8q e n;let noA:∀ {b:Addr}{o:Obj}{es:Ò}{ep:Nat},s₁.heap.get? b=!o->o.data=.dict es ep->H b=none:=λ{b o es ep} e d=>by
   grind
  let nsK:∀ {b:Addr}{m:Ω},s₁.heap.Ns b m->(rQ s₁.heap H).Ns b m:=λ{b m} J'=>by let#[yH,e,d,r]:=J';show#[o,es,ep,VY e<|noA e d,d,r]
  let hKb:=λe0D=>VY (KX b o e) (by
   cases q:H b with
   | none=>rfl
   | some u=>
    let e':=hA b (by rw[q];simp);subst e';rw[hK (by rw[q];simp)]at e;cases e)
  let hM:Mod K mg b7Q:=#[hKb,nsK WG,#[mb,nsK hb,hbb],(let #[mc,yi]:=a82;#[mc,nsK h1,h2]),λ_ z=>nomatch z]
  let e0:V2 P w K mg b7Q callerA [] s₁ H:=#[1,hM,λe0D=>b5J e,KR<|b89 _ _,trivial,λe1C=>absurd (show b∈([]) from hb)<|by simp,LY,.of_eq hg]
  show JI ((F _ hKb<|nsK WG).run callerA [] s₁ H #[rf,[]] rf rf _ _ (hr _) e0 (a5h s₁ _) xx<|VQ H hO hS) λr s' h=>?_
  cases r with
  | error e=>show (hCX H e s' h).elim
  | ok fl=>
   cases fl with
   | next=>ext d71
   | brk=>ext d71
   | cont=>ext d71
   | ret u=>
    let#[c5z,a8O,r',q]:=h;let q':=q;subst q';obtain rfl:u=Value.bool true:=r';show#[1,OldK.of_keep λe0D=>?_,os,bare]
    cases q:H b with
    | none=>show un.keep b o e q (by intro z;show absurd (show b∈([]:υ) from z)<|by simp) Ĕ
    | some u=>
     rcases hO b with z|⟨ob,xs,z⟩
     ·rw[q]at z;cases z
     ·let z2:=un.Qi b ob _ z;let#[e1,_]:=LY b _ z;let#[e2,_]:=a8O b _ z2;rw[e]at e1;cases e1;show e2
 cases hk:K.lookup a with
 | some o=>
  let e:=KX a o hk;rw[ha]at e
  cases e;show core mG (λ_=>.inl rfl) (.inr #[_,vs.toArray,_,hk,3,by rw[IV,a8c];show hl,by simpa using rv]) (λb u z=>by let z':=z;cases z') (λb z=>e9D z) λz=>e9D z
 | none=>
  show core (λb=>if b=a then some _ else none) (λb=>?_) (.inl<|.inr ⟨{ cls:=.type "list",data:=.seq vs.toArray },if_pos rfl⟩) (λb u z=>?_) (λb z=>?_) λ_=>hk
  ·by_cases hb:b=a
   ·show .inr #[_,_,if_pos hb]
   ·show .inl (if_neg hb)
  ·by_cases hb:b=a
   ·let z':=(if_pos hb).symm.trans z
    cases z';subst hb;show#[ha,by rw[Hl];show hl,vs,_,rv,ha]
   ·let z':=(if_neg hb).symm.trans z
    cases z'
  ·by_cases hb:b=a
   ·show hb
   ·show absurd (if_neg hb) z
def Y3 (d1r){CX:World->W3}{sp:World->Sp}(hn:l.most=!n)(hn2:n<=sizeLine)(hdf)(c98)(hY)(F:∀ (w:World)(mg:Ω)(fa:Addr)(h:Heap),(K w.params).In h->e4y mg->mg d.name=!.ref fa->
   ∃ fd:È,(∀ (s:Ê)(u:Value),e7l #[[u],[]] [(x,u)])/\
    ∀ base:Heap,(K w.params).In base->e2a mg->e61 (CX w) k fa fd [x] (sp w))(VQ:∀ (w:World)(H:Hp)(a:Addr)(ns:Ξ),ns.length<=n->xK H->Ma vT H a ł->sp w rf H b9O λe0j=>False)(hCX:∀ (w:World)(H:Hp)(s:Ê)(e:Value)(s':Ê),CX w [] H s c16 e s'->False):
  W.WalkO q loose XP YP l.row.toRowW d [] wP:=by
 show Att.UZ hn hdf λw s₀ s₁ mg mb fa o pm cd doc a vs ns G Y ho hd Tr hmg a1t hints hlen hg=>?_;let KX:=hY w _ Y;let#[fd,hb,hF]:=F w mg fa _ KX G.T.g hmg;show a8h KX G.T.g G.T.b G.T.builtins G.T.nolimit hg a1t hints (HU hlen hn2) hr hF hb (λH hO hS=>VQ w H a ns hlen hO hS) λH e s'=>hCX w H s₁ e s'
theorem aq (s:Stmt)(j):Stmt:=match s with
 | .ClassDef _ _ _ body _ _ _ _ _ _ _=>body.getD j b8q
 | _=>.Pass ⟨0,0,0,0⟩
theorem b8 (s:Stmt):Arguments:=match s with
 | .FunctionDef _ a _ _ _ _ _ _ _ _=>a
 | _=>{ posonlyargs:=[],args:=[],vararg:=none,kwonlyargs:=[],kw_defaults:=[],kwarg:=none,defaults:=[] }
theorem aD (s:Stmt):Í:=match s with
 | .FunctionDef _ _ b _ _ _ _ _ _ _=>b
 | _=>[]
theorem aa (s:Stmt):Scope:=match s with
 | .FunctionDef _ _ _ _ _ _ sc _ _ _=>sc
 | _=>{ kind:=.function,names:=[],isGenerator:=false,isCoroutine:=false }
abbrev NP:W3:=λf2y=>False
abbrev E0:XK:=λe0j=>False
def mC:c3E NP X E0:=λe0a e1j=>h.elim
abbrev _root_.ω:=Array Î
structure PY (c90):Prop where
 ex:∃ (oc:Value)(od:ψ)(kV doc pm:Value)(an:ψ)(LR ct:Value)(O4:ω),
  fd=W.fnOf x ğ XJ sr zV .none kV doc pm an LR ct/\K.lookup f=some ⟨oc,od,.func fd,O4⟩/\W.codeIn K LR ğ=true
 kp:W.keepIn K oh=true
section
variable {K:Ψ}
def PY.ok (c8N)(len)(OX:∀ (LR:Value)(A:Ë)(outer:List Env)(s:Ê)(H:Hp)(vs:π)(Q:VK)(E:XK),e07 Ė->e1I E->
   ∃ t,Qe (e1v E).Vg sr t/\t { nx:=λ_ H'=>e21 H',rt:=Q } ST H):e0q sp:=by
 ext d67;ext d28
def PY.binds (d0E)(c7C)(h:∀ (kV doc pm:Value)(an:ψ)(LR ct:Value)(us:θ),us.length=ps.length->bindArgs ě D9=pure SL):Lx K fd ps []:=by ext d67;show .all (h kV doc pm an LR ct)
def v5 (d15)(c9n):PY K x ğ st f ě:=#[#[lg,c2T,O4,1,l,c],k]
universe e
def aN (hr:e07 A):A.units+1<cLine:=Kl (Nat.add_le_add_left (by decide:1<=64) _) hr.units
def pv (c85):e8g D0:=a0K hN hv hd Tr
def jH {A:Prop}(h:B):if false=true then A else B:=by rw[if_neg Ig];show h
def Gz {A:Prop}(h:A):if true=true then A else B:=by ext d6l;show h
def jI {A:Prop}[Decidable c](h1:c->A)(h2:¬ c->B):if c then A else B:=by simp_all
def a4k {A:Prop}[Decidable c](hc:c)(h:B):if (not (decide c))=true then A else B:=by rw[Hu hc];show jH h
theorem gR (H H':Hp):Prop:=∀ b o,H b=!o->H' b=!o
def gR.refl (H):gR H H:=λf2s=>h
def gR.trans (a:gR H H1)(b:gR H1 H2):gR H H2:=λc o h=>b c o (a c o h)
def gR.free (e)(h:H' l=Option.none):H l=Option.none:=by
 cases q:H l with
 | none=>rfl
 | some o=>
  rw[e l o q]at h
  cases h
def gR.seq {K:Ψ}(e)(h:e1k xs):Ma K H' a xs:=by
 rcases h with (h|⟨o,h⟩)|h
 ·show .inl (.inl<|e _ _ h)
 ·show .inl (.inr #[o,e _ _ h])
 ·show .inr h
theorem Itz (K)(a b:Addr):It:=
 ⟨λi H=>∃ xs ys x y,e1k xs/\Ma K H b ys/\xs[i]?=!x/\ys[i]?=!y,
  λi H v H'=>∃ T,H T=none/\v=.ref T/\∃ x y,b3L/\(∀ ys,Ma K H b ys->ys[i]?=!y)/\H'=upd H T (.tup [x,y]),
  λi H=>∃ xs ys,e1k xs/\Ma K H b ys/\(xs.length<=i\/ys.length<=i)⟩
def Inv.RZ {ch:υ}(I)(hf:∀ b∈ch,e20 H b)(k:∀ b o,b∉ch->s.heap.get? b=!o->h'.get? b=!o):e0c H { s with heap:=h',toks:=t' }:=by
 show I.step (λe1C=>#[(hf b hb).2.2.2.1,(hf b hb).2.1,(hf b hb).2.2.2.2.1,(hf b hb).2.2.2.2.2]) (λe3H _=>k b o hc e) (λe3H _=>#[o.slots,k b o hc e]) (λe0a n=>n)
  (λb o hc e=>#[o,k b o hc e]) (λ_ _ e=>e) (λe0j e=>e) (λm hm=>?_) (λb u e=>?_) I.bare
 ·let#[iR]:=hm;show#[yH,k _ o (λz=>(hf _ z).2.1 rfl) ho,r]
 ·show (I.LY b u e).Nb (λc v hc q=>k c v wH q) mD λf2p=>q;let n:=(hf c z).1
  grind
def Inv.YW (I)(hf:e20 H T)(hs:X.s₀.heap.objs.size<=T)(new:e1Z (d86 T o) s.heap T o):e0c (d86 T o) s:=by
 let hn:=hf.1;let:=I.step (H':=upd H T o) (d':=s.drawn) (t':=s.toks) (ch:=[T]) (λe1C=>by
   let e:b=T:=by simpa using hb
   subst e;show#[.inr hs,hf.2.1,hf.2.2.2.2.1,hf.2.2.2.2.2]) (λb o e0j e _=>e) (λb o e0j e _=>#[o.slots,e]) (λe0u _ n=>by rw[a9<|by simpa using hb];show n)
  (λe76 e=>#[o,e]) (λb xs e=>by rw[a9<|aj e hn];show e) (λb ob xs e=>by rw[a9<|aj e hn];show e) (λm hm=>hm)
  (λb u e=>by
   by_cases hb:b=T
   ·grind [ae]
   ·rw[a9 hb]at e;show (I.LY b u e).Nb Eo (λc q=>by rw[a9<|aj q hn];show q) λc xs q=>by rw[a9<|aj q hn];show q) I.bare
 show this
def dH (d0k)(hf:e20 H b):a≠b:=by
 rintro rfl;rcases h with (h|⟨o,h⟩)|⟨o,its,n,hk,_⟩
 ·rw[hf.1]at h;cases h
 ·rw[hf.1]at h;cases h
 ·let e:=I.ok.mod.Wa a o hk;rcases hf.2.2.2.1 with z|z
  ·show I.ok.U2 a o e z
  ·show absurd (Ip sv<|e9A z) D3
theorem a3e (z TI TO i1 i2 a b:Addr)(i)(c78):Prop:=IsZip h z TI TO .none/\IsPair h TI (d9G i1) (d9G i2)/\(∃ u v,IsPair h TO u v)/\h.IsListIter i1 a i/\h.IsListIter i2 b i
structure a5V (z TI TO i1 i2:Addr):Prop where
 TIz:TI≠z
 TOz:TO≠z
 i1z:i1≠z
 i2z:i2≠z
 TITO:TI≠TO
 TIi1:TI≠i1
 TIi2:TI≠i2
 TOi1:TO≠i1
 TOi2:TO≠i2
 i12:i1≠i2
def c6Y (d1m)(a b z TI TO i1 i2:Addr)(D:a5V z TI TO i1 i2){er:ψ}(XT):
  b1i er P w K Ź (f0V b) [c6E] z (a3e z TI TO i1 i2 a b) where
 mem:=by simp
 obj:=λi h st c hc=>by
  let#[yi,#[u,v,h3],#[o4,e4,c4,d4],#[o5,e5,c5,d5]]:=st;ext d4g;ext d6D
  ·show#[_,h1,λv z=>by cases z]
  ·show#[_,h2,λv z=>by cases z]
  ·show#[_,h3,λv z=>by cases z]
  ·show#[_,e4,λv z=>by rw[d4]at z;cases z]
  ·show#[_,e5,λv z=>by rw[d5]at z;cases z]
 keep:=λe1X=>by let#[c4M]:=st;show#[k z Ĕ _ h1,k TI Ĕ _ h2,#[u,v,k TO Ĕ _ h3],h4.at λo e=>k i1 Ĕ o e,h5.at λo e=>k i2 Ĕ o e]
 item:=by
  ext d2K;let#[xs,ys,x,y,hx,hy,ex,ey]:=hg;ext d4t;ext d8j;let#[w2,ew2,r2]:=Z2.get ey;let ap:e51 b:=#[D.TIz,D.TOz,D.i1z,D.i2z,D.TITO,D.TIi1,D.TIi2,D.TOi1,D.TOi2,D.i12,
   dH I hx (hf z<|by simp),dH I hx<|hf TO Ĕ,dH I hx<|hf i1 Ĕ,dH I hx<|hf i2 Ĕ,dH I hy<|hf z Ĕ,dH I hy<|hf TO Ĕ,dH I hy<|hf i1 Ĕ,dH I hy<|hf i2 Ĕ]
  show wpAny_pyNext_zip_item ap h1 h2 h3 h4 h5 p.isList p2.isList b9m (by simpa using ew2) λh' e2i=>?_;show#[_,1,wpAny_letOwnedTupleGo_zip a1 λXY b1 sb=>?_];let hT:=I.LY.fresh<|Hz _;let zne:∀ c∈[c6E],c≠s.heap.objs.size:=λc hc e=>by
   let:∃ o,s.heap.get? c=!o:=by
    ext d4g;let#[o4,e4,_]:=h4;let#[o5,e5,_]:=h5;ext d6D
    ·show#[_,h1]
    ·show#[_,h2]
    ·show#[_,h3]
    ·show#[_,e4]
    ·show#[_,e5]
   let#[o,q]:=this;show absurd (HG q) (by rw[e];show Jm _)
  let kk:∀ c o,c∉[c6E]->s.heap.get? c=!o->XY.get? c=!o:=λc o hc e=>by simp only[HK,Iz,Ke,not_or]at hc;show sb.extBut _ _ hc.1 (a7 c o hc.1 hc.2.2.1 hc.2.2.2.1 hc.2.2.2.2 e)
  let I1:e0c H { s with heap:=XY }:=I.RZ hf kk;let I2:e0c (upd H s.heap.objs.size<|.tup [x,y]) { s with heap:=XY }:=by show I1.YW (I.Ud nY hT) I.sz #[by change 2<=sizeLine;decide,[w1,w2],.cons r1<|.cons r2 .nil,?_];show#[_,e3Q (Ne.symm<|zne z Ĕ) a5,vb]
  show#[qB,I2,1,#[_,hT,1,x,y,λxs' WC=>by rw[I.PM WC hx];show ex,λys' hy'=>by rw[I.PM hy' hy];show ey,1],?_,λc hc=>?_]
  ·show#[b1,e3Q D.TIz<|a7 TI _ D.TIz D.TITO D.TIi1 D.TIi2 h2,#[_,_,e3Q D.TOz a2],a3.extBut sb.extBut D.i1z,a4.extBut sb.extBut D.i2z]
  ·ext d6Q
 done:=by
  ext d2K;let#[xs,ys,hx,hy,hl]:=hg;ext d4t;let l1:=rv.length;let l2:=Z2.length;let ap:e51 b:=#[D.TIz,D.TOz,D.i1z,D.i2z,D.TITO,D.TIi1,D.TIi2,D.TOi1,D.TOi2,D.i12,
   dH I hx (hf z<|by simp),dH I hx<|hf TO Ĕ,dH I hx<|hf i1 Ĕ,dH I hx<|hf i2 Ĕ,dH I hy<|hf z Ĕ,dH I hy<|hf TO Ĕ,dH I hy<|hf i1 Ĕ,dH I hy<|hf i2 Ĕ]
  show wpAny_pyNext_zip_end (I.Qn hc.1<|hc.2.trans XT) ap h1 h2 h3 h4 h5 p.isList p2.isList ?_ λh' kk=>#[1,I.RZ hf λc o hc e=>?_]
  ·rcases hl with q|q
   ·show .inl (by simp;omega)
   ·show .inr (by simp;omega)
  ·ext d68;show kk c o hc.1 hc.2.2.1 hc.2.2.2.1 hc.2.2.2.2 e
 self:=λe4Q=>wpAny_pyIter_zip st.1 h
def c1x:bootBuiltins "zip"=!.type "zip":=by decide +kernel
inductive c3M (K:Ψ)(c8W):Prop
 |mk:∀ a b,vs=[.ref a,.ref b]->b8l->(∃ ys,Ma K H1 b ys)->R (Itz K a b) H1->c3M K R vs H1
theorem a4m (K)(ta:TA):TI:=λe8a=>ta σ H λe7c=>c3M K R vs H1
def DE (d1s)(c7w)(c68):
  PI X Ź xB (a4m X.K ta):=by
 ext d3a;show Call_<|e38 c1x (e0r vJ (by rw[S7];rfl));ext d4D;let#[a,b,e,#[xs,hx],#[ys,hy],q]:=q1;subst e
 cases r1 with
 | cons r rr=>
  cases rr with
  | cons r' rr=>
   cases rr
   cases r
   cases r';let#[its,rv,p1,hz]:=I1.list hx;let#[c6F]:=I1.list hy;ext d31;show wpAny_pyIter_zip a1 ?_;let I2:e0c H1 { s1 with heap:=h' }:=I1.kept a7;show#[_,[s1.heap.objs.size+4,s1.heap.objs.size+2,s1.heap.objs.size+3,s1.heap.objs.size,s1.heap.objs.size+1],_,_,H1,1,I2,c6Y a b _ _ _ _ _ #[C4,C4,cW] hn,#[a1,a2,#[_,_,a3],a4,a5],λc hc=>?_,q];all_goals try (intro z;let z':@Eq Nat _ _:=z;lia)
   let le:@LE.le Nat _ s1.heap.objs.size c:=by simp only[HK,Iz,Ke]at hc;rcases hc with rfl|rfl|rfl|rfl|rfl <;> lia
   let:=I1.Ud le<|I1.LY.fresh le;show this
def b0V {K:Φ}(d03)(hl:∀ i σ H,i<=e10 ys.length->e8j H->e1k xs/\Ma K H b ys)(hs:∀ i x y T σ H,xs[i]?=!x->ys[i]?=!y->e8j H->H T=none->g nr σ wS λe2h=>tb { D with nx:=Pv (i+1),ct:=Pv (i+1),bk:=D.nx } σ2 H2)(hd:∀ σ H,Pv (e10 ys.length) σ H->e6q H):
  ∃ W:Nat->Nat->Υ,Qm/\∀ i m σ H,e4E H->
   ((f0V b).stop i H/\D.nx σ H)\/((f0V b).go i H/\∃ N:Υ,Ġ/\∀ x H',(f0V b).W4 i H x H'->e4X H' λe2h=>tb { D with nx:=N,ct:=N,bk:=D.nx } σ2 H2):=by
 show#[λi m e3s=>m=e10 ys.length - i/\i<=e10 ys.length/\Pv i σ H,#[_,1,Iv _,h0],?_];ext d7l;let#[FE]:=hl i σ H hi p;by_cases NU:i<e10 ys.length
 ·show .inr #[#[xs,ys,xs[i],ys[i],FE,by simp,by simp],Pv<|i+1,λe7d p'=>#[_,?_,1,NU,p'],λx H' yl=>?_]
  ·lia
  ·let#[T,hT,1,x,y,ex,ey,1]:=yl;show hs i x y T σ H (ex xs q1) (ey ys q2) p hT
 ·let e:i=e10 ys.length:=#[]
  subst e;show .inl #[#[xs,ys,FE,#[]],hd σ H p]
abbrev Zd:ρ:=λ_ _=>False
def b3r (I:Nat->Shared->Prop)(turn:∀ n s,I n s->e0f (pyNext it) (λr s₁=>match r with
   | none=>R (.ok .next) s₁
   | some v=>e0f (letOwnedTupleGo target it v) (λ_ s₂=>e0f (assign target env v) (λ_ s₃=>
     wpAny Ē A (forIn ifs true λc r=>if r=true then do let ok <- isTrue c env (eval c env);pure b9n else pure b9Q) (λok s₄=>
      if ok=true then wpAny Ē A (eval elt env) (λx s₅=>e0f (call (.builtin "list.append") [acc,x]) (λ_ s₆=>∃ m,m<n/\I m s₆) Zd s₅) Zd s₄
      else ∃ m,m<n/\I m s₄) Zd s₃) Zd s₂) Zd s₁) Zd s)(n)(h:I n s):e5Y A (.compLoop (.ListComp elt [#[target,iter,ifs,(0)]] scope pos) 0 it acc env) R s:=by
 show codeAny_loop rfl I (λn s hI=>?_) n h;show wpAny_noted ?_;show Hk (Le<|Hk (Jd (turn n s hI) (λr f0B=>?_) λ_ _ h'=>h'.elim))
 cases r with
 | none=>show Hr h₁
 | some v=>
  show Hk (Jd h₁ (λ_ s₂ h₂=>?_) λ_ _ h'=>h'.elim);show Hk (Jd h₂ (λ_ s₃ h₃=>Hk<|Jd h₃ (λok s₄ h₄=>?_) λ_ _ h'=>h'.elim) λ_ _ h'=>h'.elim)
  cases ok with
  | false=>show Hr #[1,h₄]
  | true=>
   show Hk (Hk<|Jd h₄ (λx s₅ h₅=>Hk<|Jd h₅ (λ_ s₆ h₆=>Hr<|Hr ⟨rfl,h₆⟩) λ_ _ h'=>h'.elim) λ_ _ h'=>h'.elim)
def c6a (h:Q (newEnv scope s.heap.objs.size globals (e7m scope.names cl) ğ none .none (!env) builtinsNs) { s with heap:=pushCells (d9o s.heap.push) scope.names }):
  wpAny M A (newFunctionEnv scope globals cl [] ğ none .none !env) Q E s:=by
 show Hk (wpAny_alloc ?_);show Hk (wpAny_layCells _ (λname kind cells=>by simp_all) _ _ _ _ ?_);rw[Ja ..];ext d3U;show Hr (Hr h)
abbrev _root_.Ã:=List (Str×Addr)
abbrev _root_.Â:=List (Str×NameKind)
def b6L (f:Str×NameKind->List (Str×Addr)->Sem (ForInStep Ã))(hf:∀ name kind cs,f (name,kind) cs=if kind==.free then (do let a <- cellOf env name;pure (.yield ((name,a)::cs))) else pure (.yield cs)):
  ∀ (names:Â)(cs:Ã),(∀ x∈names,x.2=.free->∃ c,env.cells.lookup x.1=!c)->
   ∃ cl,forIn names cs f=pure cl/\(∀ p∈cl,p∈cs\/env.cells.lookup p.1=!p.2)/\(∀ p∈cs,p∈cl)/\∀ x∈names,x.2=.free->∃ c,(x.1,c)∈cl:=by
 intro r'
 induction r' with
 | nil=>
  intro cs _;show #[cs,by rw[c5E],λ_ h=>.inl h,λ_ h=>h,λ_ h=>nomatch h]
 | cons hd' r ih'=>
  let#[name,kind]:=hd';intro cs hc;let hr:∀ x∈r,x.2=.free->∃ c,env.cells.lookup x.1=!c:=λe1h=>hc x<|HM _ hx;by_cases hk:kind=.free
  ·subst hk;let#[c,e]:=hc (name,.free) HS rfl;let#[cl,Ab]:=ih' ((name,c)::cs) hr;show#[cl,?_,λf0z=>?_,λf0z=>h3 p<|HM _ hp,λe1h hf'=>?_]
   ·rw[b1q,hf];change ((if (NameKind.free==NameKind.free)=true then _ else _) >>= _)=_;rw[if_pos<|by decide];unfold cellOf;rw[e];show h1
   ·grind
   ·rcases HK.mp hx with z|z
    ·subst z;show#[c,h3 _ HS]
    ·show h4 x z hf'
  ·let#[cl,Ab]:=ih' cs hr;show#[cl,?_,h2,h3,λe1h hf'=>?_]
   ·rw[b1q,hf,if_neg<|by simpa using hk];show h1
   ·rcases HK.mp hx with z|z
    ·simp_all
    ·show h4 x z hf'
def f2D (hc:∀ x∈scope.names,x.2=.free->∃ c,env.cells.lookup x.1=!c):
  ∃ cl,closureFor scope env=pure cl/\(∀ p∈cl,env.cells.lookup p.1=!p.2)/\∀ x∈scope.names,x.2=.free->∃ c,(x.1,c)∈cl:=by
 let#[cl,yi,_,h4]:=b6L (λx cs=>if x.2==.free then (do let a <- cellOf env x.1;pure<|.yield ((x.1,a)::cs)) else pure (.yield cs)) (λe0j=>rfl) scope.names [] hc;show#[cl,?_,λf0z=>(h2 p hp).elim Ĺ id,h4];unfold closureFor
 simp_all
def b2t:∀ {l:List (Str×α)}{x:Str}{c:α},(x,c)∈l->∃ d,l.lookup x=!d:=by
 intro l
 induction l with
 | nil=>intro x c h;cases h
 | cons p r ih=>
  intro x c h;let#[k,v]:=p;rw[Kz]
  cases hb:x==k with
  | true=>show#[v,1]
  | false=>
   rcases HK.mp h with e|h
   ·cases e;simp at hb
   ·show ih h
instance fS:∀ (names:Â)(n:Nat)(acc:Ã)(p:Str×Addr),p∈cellsFrom n names acc->p∈acc\/(n<=p.2/\(p.1,NameKind.cell)∈names):=by
 intro r'
 induction r' with
 | nil=>
  intro _ _ _ h;show .inl h
 | cons hd' r ih'=>
  let#[y,k]:=hd';intro n acc p h;unfold cellsFrom at h;split at h
  ·rename_i hk;let ek:k=.cell:=by simpa using hk
   rcases ih' (n+1) _ p h with z|⟨z1,z2⟩
   ·rcases HK.mp z with z|z
    ·simp_all
    ·show .inl z
   ·show .inr #[#[],HM _ z2]
  ·rcases ih' n acc p h with z|⟨z1,z2⟩
   ·show .inl z
   ·simp_all
def a6e:∀ (names:Â)(n:Nat)(acc:Ã),(∀ p∈acc,p.2<n)->(∀ x y c,(x,c)∈acc->(y,c)∈acc->x=y)->
  ∀ x y c,(x,c)∈cellsFrom n names acc->(y,c)∈cellsFrom n names acc->x=y:=by
 intro r'
 induction r' with
 | nil=>
  intro _ _ _ h;show h
 | cons hd' r ih'=>
  let#[z,k]:=hd';intro n acc NU h;ext d8z;split
  ·show ih' (n+1) _ (λf0z=>?_) (λx y c e2H=>?_)
   ·rcases HK.mp hp with e|hp
    ·simp_all
    ·show JL (NU p hp)
   ·grind
  ·show ih' n acc NU h
instance fR:∀ (names:Â)(n:Nat)(acc:Ã){x:Str},(∀ y∈names,y.2=.cell->y.1≠x)->(cellsFrom n names acc).lookup x=acc.lookup x:=by
 intro r'
 induction r' with
 | nil=>
  intro _ _ _ _;show rfl
 | cons hd' r ih'=>
  let#[z,k]:=hd';intro n acc x h;unfold cellsFrom;let hr:∀ y∈r,y.2=.cell->y.1≠x:=λy hy=>h y<|HM _ hy;split
  ·rename_i hk;rw[ih' (n+1) _ hr,Kz];let:(x==z)=false:=by let:=h (z,k) HS (by simpa using hk);simpa using Ne.symm this
   rw[this]
  ·show ih' n acc hr
def b7k:∀ (names:Â)(h:Heap)(acc:Ã),(∀ p∈acc,∃ v,h.IsCell p.2 v)->∀ p∈cellsFrom h.objs.size names acc,∃ v,(pushCells h names).IsCell p.2 v:=by
 intro r'
 induction r' with
 | nil=>
  intro _ _ hc;show hc
 | cons hd' r ih'=>
  let#[z,k]:=hd';intro h acc hc;unfold cellsFrom pushCells;split
  ·let:=ih' (h.push { cls:=.type "cell",data:=.cell none }) ((z,h.objs.size)::acc) (λf0z=>by
    rcases HK.mp hp with e|hp
    ·subst e;show#[none,_,HD _ rfl,1]
    ·let#[v,q]:=hc p hp;show#[v,q.keeps λe0D=>Hn _ e])
   rwa [Ja]at this
  ·show ih' h acc hc
theorem aH (X)(scope)(N':η)(d07):Cx where
 prog:=X.prog
 w:=X.w
 K:=X.K
 mg:=X.mg
 base:=X.base
 A:=X.A
 N:=N'
 s₀:=s
 H₀:=H
 env:=compEnvC scope cells C X.env
 outer:=X.stack
 stack:=X.stack
 ex:=fp
 fn:=λx=>decide (scope.names.lookup x=!.cell)
 calm:=X.calm
 pn:=[]
 xe:=λ_ _=>False
theorem b0i (scope)(x):Bool:=scope.names.any λy=>y.1==x&&y.2==.free
theorem xt (scope)(x):Bool:=scope.names.any λy=>y.1==x&&y.2==.cell
abbrev _root_.À:=List Nat
theorem c38 (sc)(N:η)(scope)(nT)(js)(N':η):Bool:=
 scope.kind==.function&&decide (N'.length=nT+js.length) &&
 scope.names.all (λx=>(x.2 != .local || scope.names.lookup x.1==!.local)&&(x.2 != .free || ((sc.names.lookup x.1==some .cell || sc.names.lookup x.1==!.free)&&scope.names.lookup x.1==!.free))) &&
 (js.zipIdx.all λ(j,i)=>match N'[nT+i]?,N[j]? with
  | some x,some y=>x==y&&b0i scope x&&not (xt scope x)
  | _,_=>false)
structure bM (X:Cx)(scope:Scope)(nT:Nat)(js:À)(N':η):Prop where
 kind:scope.kind=.function
 len:N'.length=nT+js.length
 loc:∀ x∈scope.names,x.2=.local->scope.names.lookup x.1=!.local
 free:∀ x∈scope.names,x.2=.free->(d9h x.1)
 frl:∀ x∈scope.names,x.2=.free->scope.names.lookup x.1=!.free
 cap:∀ (i j:Nat),js[i]?=!j->∃ x,N'[nT+i]?=!x/\X.N[j]?=!x/\(x,NameKind.free)∈scope.names/\∀ y∈scope.names,y.2=.cell->y.1≠x
def b2S (hsc:X.env.scope=sc)(hN:X.N=N)(h:c38 sc N scope nT js N'=true):f0c N':=by
 unfold c38 at h;simp only[Jn,decide_eq_true_eq,JC,Kj]at h;let#[#[#[yi],h3],h4]:=h;show#[yi,λe1h hl=>?_,λe1h hf=>?_,λe1h hf=>?_,λi j e=>?_]
 ·let:=(h3 x hx).1
  simp_all
 ·let:=(h3 x hx).2;simp only[hf,bne_self_eq_false,Bool.false_or,Bool.or_eq_true,Jn,Kj]at this;change X.env.scope.names.lookup x.1=_\/X.env.scope.names.lookup x.1=_;rw[hsc];show this.1
 ·let:=(h3 x hx).2
  simp_all
 ·let m:(j,i)∈js.zipIdx:=by rw[J4];show e
  let q:=h4 (j,i) m;rw[hN];revert q
  cases e1:N'[nT+i]? with
  | none=>intro q;cases q
  | some x=>
   cases e2:N[j]? with
   | none=>intro q;cases q
   | some y=>
    intro q;ext d5Z;let#[#[FE],q3]:=q;subst q1;show#[x,2,?_,λe3D hc hxy=>?_]
    ·unfold b0i at q2
     simp_all
    ·let:xt scope x=true:=List.any_eq_true.mpr #[y,hy,by simp[hxy,hc]];rw[q3]at this;ext d3Q
theorem qv (nT)(js)(σ):St:=e9G none++js.map λj=>(σ[j]?).join
theorem Ql (X)(ifs:Ì)(t:TT):Prop:=
 ∀ (ñ:ζ)(s:Ê)(σ:St)(H:Hp)(Q:Ø),e0c H s->e4V Q->
  wpAny ē X.A (forIn ifs true λc r=>if r=true then do let ok <- isTrue c X.env (d87 c);pure b9n else pure b9Q) DY X.xe s
theorem yz:TT:=λ_ H Q=>Q true H
def b2i:Ql X [] yz:=λe0V h=>by rw[c5E];show Hr #[H,I,h]
def bU (hc:e8V t):Ql X [c] t:=λe0V h=>by show Hk (Hk (Mn (d9Y hc Q) λb s1 q=>Hr ?_));show Hr q
theorem fQ (d1O)(σ)(F:Addr->Ù):It->Ù:=λJ H1=>∀ l,H1 l=none->
 ∃ W:Nat->Nat->Υ,(∃ m,W 0 m (qv nT js σ) b9o)/\∀ i m σ' H',W i m σ' H'->
  (J.stop i H'/\F l H')\/(J.go i H'/\∀ x H2,J.W4 i H' x H2->g x σ' H2 λσ3 H3=>∃ (N:Ù)(NV:V->Ù),
   (∀ H4,N H4->∃ m',m'<m/\W (i+1) m' σ3 H4)/\(∀ v H5,NV v H5->∃ ys,H5 l=!.lst ys/\ys.length<sizeLine/\∃ m',m'<m/\W (i+1) m' σ3 b45)/\
   tt σ3 H3 λb H4=>if b=true then te σ3 H4 NV else N H4)
section
variable {X:Cx}{ñ:ζ}{H:Hp}{s:Ê}
theorem b0f (X)(ñ)(H)(C)(s:Ê):Prop:=e20 H C/\X.s₀.heap.objs.size<=C/\∃ m,s.heap.Ns C m
def c30:∀ (names:Â)(n:Nat)(acc:Ã),p∈acc->p∈cellsFrom n names acc:=by
 intro r'
 induction r' with
 | nil=>
  intro _ _ h;show h
 | cons _ r ih'=>
  intro n acc h;ext d8z;split <;> show ih' _ _ (by simp[h])
def c4F:∀ (names:Â)(n:Nat)(acc:Ã),(x,NameKind.cell)∈names->∃ c,(x,c)∈cellsFrom n names acc:=by
 intro names
 induction names with
 | nil=>intro n acc h;cases h
 | cons p r ih=>
  intro n acc h;let#[y,k]:=p;ext d8z;rcases HK.mp h with e|h
  ·grind [c30,List.mem_cons_self]
  ·split <;> show ih _ _ h
def c4Y:∀ (names:Â)(n:Nat)(acc:Ã),C<=n->(names.lookup x=!.cell\/∀ d,acc.lookup x=!d->C<=d)->∀ c,(cellsFrom n names acc).lookup x=!c->C<=c:=by
 intro r'
 induction r' with
 | nil=>
  intro n acc hn h c e;show h.elim (λh=>nomatch h) λh=>h c e
 | cons hd' r ih'=>
  let#[y,k]:=hd';intro n acc hn h c e;unfold cellsFrom at e;rw[Kz]at h;split at e
  ·show ih' (n+1) _ #[] ?_ c e
   grind
  ·show ih' n acc hn ?_ c e
   grind
instance y6 (hc:∀ cells C s H fp,Cc ė)(S:bM X scope nT js N')(hi:xI Cc X tg iter wi)(hg)(ht)(he:∀ cells C s H fp,PE ė elt te)(I)(h:wi σ H (fQ nT js g tt te σ F))(fin:∀ (l C:Addr)(s':Ê)(H':Hp),Inv X ñ σ H' s'->b0f X ñ H' C s'->F l H'->compPost ē X.A X.xe use Q (.ref l) C (.ok .next) s')(hs):
  wpAny ē X.A (comprehension (.ListComp elt [#[tg,iter,ifs,(0)]] scope pos) scope X.env MV (newList []) false (eval iter X.env) use) Q X.xe s:=by
 let a9m:∀ x∈scope.names,x.2=.free->∃ c,X.env.cells.lookup x.1=!c:=λx hx hf=>I.ok.has x.1<|S.free x hx hf;let#[cl,V6,Wl,a5c]:=f2D (env:=X.env) a9m;show wpAny_comprehension_free rfl hs V6 S.kind S.loc (Mn (hi ñ s σ H _ I h) λv s1 h1=>Mn h1 λitv s2 h2=>?_);let#[it,fp,tn,J,H2,e,I2,T,st2,f2,rd]:=h2;subst e;let I3:Inv X ñ σ (upd H2 s2.heap.objs.size<|.lst []) { s2 with heap:=s2.heap.push { cls:=.type "list",data:=.seq ([]:θ).toArray } }:=I2.a04 (t':=s2.toks) (its:=[]) .nil<|Iv _;show Jc ?_ (by change 0<=sizeLine;show Iv _);let#[W,#[m0,w0],turn]:=rd s2.heap.objs.size<|I2.LY.fresh (Hz _);let WH:H2 s2.heap.objs.size=none:=I2.LY.fresh<|Hz _;generalize hl:s2.heap.objs.size=l at I3 w0 turn WH ⊢;generalize hs3:({ s2 with heap:=s2.heap.push { cls:=.type "list",data:=.seq ([]:θ).toArray } }:Ê)=s3 at I3 ⊢;let z3:s3.heap.objs.size=l+1:=by rw[<- hs3,<- hl];show Ja ..
 let k23:∀ b o,s2.heap.get? b=!o->s3.heap.get? b=!o:=λb o e=>by rw[<- hs3];show Hn _ e
 show c6a ?_;generalize hC:s3.heap.objs.size=C;generalize Rn:cellsFrom (C+1) scope.names cl=cells;let hz4:(s3.heap.push { cls:=.type "dict",data:=.dict [].toArray }).objs.size=C+1:=by rw[Ja,hC]
 let Zo:∀ b o,s3.heap.get? b=!o->(pushCells Ū scope.names).get? b=!o:=λb o e=>pushCells_keeps _ _ b o<|Hn _ e;let nsC:(pushCells (s3.heap.push { cls:=.type "dict",data:=.dict [].toArray }) scope.names).Ns C (λ_=>none):=by let:=(Heap.Ns.new s3.heap<|.type "dict").keeps<|pushCells_keeps scope.names _;rwa [hC]at this
 generalize hh4:pushCells Ū scope.names=h4 at Zo nsC;let memC:∀ x c,cells.lookup x=!c->(X.env.cells.lookup x=!c/\@LT.lt Nat _ c C)\/(@LE.le Nat _ (C+1) c/\(x,NameKind.cell)∈scope.names):=λx c e=>by
  let m:=mem_of_lookup e;rw[<- Rn]at m;rcases fS _ _ _ _ m with z|z
  ·let q:=Wl _ z;let#[v,iz]:=I3.cell x c q;show .inl #[q,by let:=iz.lt;rw[hC]at this;show this]
  ·show .inr z
 let YK:∀ x c,cells.lookup x=!c->∃ v,h4.IsCell c v:=λx c e=>by
  let m:=mem_of_lookup e;let:=b7k scope.names Ū cl (λp hp=>by let#[v,iz]:=I3.cell p.1 p.2<|Wl p hp;show⟨v,iz.keeps λb o e=>Hn _ e⟩)
  rw[hz4,Rn,hh4]at this;show this _ m
 change codeAny ē X.A (.compStart _ 0 ĸ (.ref l)<|compEnvC scope cells C X.env) (compPost (model X.prog X.w) X.A X.xe use Q (.ref l) C) { s3 with heap:=h4 };let Xv:∀ b∈fp,@LT.lt Nat _ b l:=λb hb=>by let#[o,e,_]:=T.obj _ _ st2 b hb;rw[<- hl];show HG e
 let ZE:∀ b∈fp,b∉Ra X.stack:=λb hb z=>(HK.mp<|I2.Ve b z).elim (f2 b hb).2.1 (f2 b hb).2.2.1;let okC:(aH X scope N' cells C s3 ĵ fp).Ok:=by
  show#[I3.ok.mod,S.kind,I3.ok.glob,I3.ok.blt,KR hC,λx y c e1 e2=>?_,λx hx=>?_,λx c hf e=>?_,I3.ok.hd,I3.ok.frames,.inl rfl,λb hb=>#[?_,λx c e z=>?_],I3.bs,HU I3.ok.WL I3.sz,λb o e hb=>?_,ZE,I3.stack,I3.P6]
  ·let e1':=mem_of_lookup<|show cells.lookup x=some c from e1;let Qj:=mem_of_lookup<|show cells.lookup y=some c from e2;rw[<- Rn]at e1' Qj;show a6e scope.names (C+1) cl (λp hp=>?_) (λx y c h1 h2=>I3.ok.inj x y c (Wl _ h1)<|Wl _ h2) x y c e1' Qj;let#[v,iz]:=I3.cell p.1 p.2<|Wl p hp;let h1:@LT.lt Nat _ p.2 s3.heap.objs.size:=iz.lt;rw[hC]at h1;change @LT.lt Nat _ p.2 (C+1);omega
  ·let WC:(relabel scope X.env).names.lookup x=!.cell\/(relabel scope X.env).names.lookup x=!.free:=hx;let:∃ k,(x,k)∈scope.names/\(k=.cell\/k=.free):=by
    let m:∃ k,(x,k)∈(relabel scope X.env).names/\(k=.cell\/k=.free):=by
     rcases WC with z|z
     ·show#[_,mem_of_lookup z,.inl rfl]
     ·show#[_,mem_of_lookup z,.inr rfl]
    let#[k,m,hk]:=m;unfold relabel at m;let#[#[n,k'],m',e]:=Ht.mp m;dsimp only at e;split at e
    ·rename_i ZA
     cases e;simp only[Jn,Kj]at ZA;show⟨k',m',.inr ZA.1.1⟩
    ·cases e;show⟨k,m',hk⟩
   let#[k,m,hk]:=this;change ∃ c,cells.lookup x=some c;rw[<- Rn];let key:∃ c,(x,c)∈cellsFrom (C+1) scope.names cl:=by
    rcases hk with rfl|rfl
    ·show c4F _ _ _ m
    ·show let ⟨c,h⟩:=a5c _ m rfl;⟨c,c30 _ _ _ h⟩
   let#[c,m]:=key;show b2t m
  ·let h1:@LE.le Nat _ (C+1) c:=c4Y scope.names (C+1) cl (Hz _) (.inl<|HR (show decide (scope.names.lookup x=some NameKind.cell)=true from hf)) c (by rw[Rn];show e);change @LE.le Nat _ s3.heap.objs.size c;omega
  ·let:=Xv b hb;change @Ne Nat b C;omega
  ·subst z;rcases memC x c e with⟨q,_⟩|⟨q,_⟩
   ·show (f2 c hb).2.2.2.2.1 x c q rfl
   ·let:=Xv c hb;omega
  ·rcases (f2 b hb).2.2.2.1 with z|z
   ·show I3.ok.U2 b o e z
   ·show absurd (Ip (HG e)<|HU I3.ok.WL z) (Jm _)
 let HC:∀ c:Addr,@LE.le Nat _ C c->upd H2 l (.lst []) c=none:=λc hcc=>I3.LY.fresh (show @LE.le Nat _ s3.heap.objs.size c by omega);let I4:Inv ī [] (qv nT js σ) ĵ { s3 with heap:=h4 }:=by
  show#[okC,1,I3.bare,Un.kept Zo,#[_,nsC,λi x v e1 e2 e3=>?_],YK,HC C<|Hz _,λx c e=>?_,(λp hp=>nomatch hp),I3.LY.kept Zo,?_]
  ·
   unfold qv at e2;by_cases SW:i<nT
   ·rw[Ij<|by simpa using SW,List.getElem?_replicate]at e2;split at e2 <;> cases e2
   ·rw[Iq<|by simpa using SW,List.length_replicate,Hy]at e2
    cases ej:js[i - nT]? with
    | none=>rw[ej]at e2;cases e2
    | some j=>
     rw[ej]at e2;let Qj:(σ[j]?).join=!v:=by simpa using e2
     let a9Y:σ[j]?=!some v:=by
      cases eσ:σ[j]? with
      | none=>rw[eσ]at Qj;cases Qj
      | some o=>rw[eσ]at Qj;show congrArg some Qj
     let#[y,n1,n2,n3,n4]:=S.cap _ _ ej;let:nT+(i - nT)=i:=#[0]
     rw[this]at n1;let exy:x=y:=by let e1':N'[i]?=!x:=e1;rw[n1]at e1';show (Option.some.inj e1').symm
     subst exy;let#[m,hn,hlk]:=I3.loc;let kinds:=S.free _ n3 rfl;let vis:F6 X.env.scope x:=by
      rcases kinds with k|k
      ·show .inr (.inl k)
      ·show .inr (.inr k)
     let#[u,r,lk]:=hlk j x v n2 a9Y vis;show#[u,r,?_];rcases lk with⟨k,_⟩|⟨k,c,ec,iz⟩
     ·rcases kinds with k'|k'
      ·rw[k]at k';cases k'
      ·rw[k]at k';cases k'
     ·show .inr #[?_,c,?_,iz.keeps Zo]
      ·change (relabel scope X.env).names.lookup x=!.cell\/(relabel scope X.env).names.lookup x=!.free;let e3':F6 (relabel scope X.env) x:=e3;rcases e3' with z|z|z
       ·
        exfalso;let m:=mem_of_lookup z;unfold relabel at m;let#[#[n,k'],m',e]:=Ht.mp m;dsimp only at e;split at e
        ·cases e
        ·cases e;let q:=S.loc _ m' rfl;rw[S.frl _ n3 rfl]at q
         cases q
       ·show .inl z
       ·show .inr z
      ·change cells.lookup x=!c;rw[<- Rn,fR _ _ _ n4];let#[d,hd]:=a5c _ n3 rfl;let#[d',Sx]:=b2t hd;let:=Wl _<|mem_of_lookup Sx;rw[ec]at this;rw[Sx,Option.some.inj this]
  ·rcases memC x c e with⟨q,_⟩|⟨q,_⟩
   ·show I3.Nd x c q
   ·show HC c #[0]
  ·unfold qv;change _=N'.length;rw[S.len,HE,List.length_replicate,Hl]
 let stat:∀ {H':Hp},(∀ b∈fp,H' b=none)->∀ b∈fp,c0i ī [] H' b:=λhn b hb=>by
  show#[hn b hb,?_,ZE b hb,.inl hb,λx c e z=>?_,λp hp=>nomatch hp]
  ·let:=Xv b hb;change @Ne Nat b C;omega
  ·subst z;rcases memC x c e with⟨q,_⟩|⟨q,_⟩
   ·show (f2 c hb).2.2.2.2.1 x c q rfl
   ·let:=Xv c hb;omega
 let fr0:∀ b∈fp,upd H2 l (.lst []) b=none:=λb hb=>by rw[a9<|Ib (Xv b hb)];show (f2 b hb).1
 let tn4:tn 0 h4:=T.keep _ _ _ st2 λb _ o e=>Zo b o<|k23 b o e;let loop:codeAny ē X.A (.compLoop (.ListComp elt [#[tg,iter,ifs,(0)]] scope pos) 0 ĸ (.ref l)<|compEnvC scope cells C X.env) (compPost ē X.A X.xe use Q (.ref l) C) { s3 with heap:=h4 }:=by
  show b3r (λn s'=>∃ i σ' H',Inv ī [] σ' H' s'/\tn i s'.heap/\(∀ b∈fp,H' b=none)/\W i n σ' H') ?_ m0 #[(0),_,_,I4,tn4,fr0,w0];rintro n s5 ⟨i,σ5,H5,I5,st5,fr5,w5⟩;rcases turn i n σ5 H5 w5 with⟨stop,qn⟩|⟨go,step⟩
  ·show Mn (T.done ī rfl rfl rfl (hc _ _ _ _ _) i [] s5 σ5 H5 Zd I5 (stat fr5) st5 stop) λr s6 J'=>?_;let#[hr,I6]:=J';subst hr;let un:Un (Ra X.stack) fp ĵ H5 s3.heap s6.heap:=I6.base;let J6:Inv X ñ σ H5 s6:=I3.SA (ch:=fp) I6.os un I6.LY I6.bare λb hb=>#[(f2 b hb).2.2.2.1,(f2 b hb).2.1,(f2 b hb).2.2.2.2.1,(f2 b hb).2.2.2.2.2]
   let#[m6,n6,_]:=I6.loc;let hCX:@Ne Nat C X.env.locals:=by let h1:@LT.lt Nat _ X.env.locals s3.heap.objs.size:=I3.lt;omega
   let hCs:@LE.le Nat _ X.s₀.heap.objs.size C:=by let:=I3.sz;omega
   show fin l C s6 H5 J6 #[#[I6.free,hCX,λz=>?_,.inr hCs,λx c e z=>?_,λp hp z=>?_],hCs,m6,n6] qn
   ·let:=I3.a3X (a:=C)<|KR hC;show this z
   ·let#[v,iz]:=I3.cell x c e;let h1:@LT.lt Nat _ c s3.heap.objs.size:=iz.lt;let h2:@Eq Nat c C:=z;omega
   ·let h1:@LT.lt Nat _ p.1 s3.heap.objs.size:=HG (I3.pin p hp).1;let h2:@Eq Nat p.1 C:=z;omega
  ·show Mn (T.item ī rfl rfl rfl (hc _ _ _ _ _) i [] s5 σ5 H5 Zd I5 (stat fr5) st5 go) λr s6 J'=>?_;let#[u,hr,h6]:=J';subst hr;show Mn h6 λ_ s7 J'=>?_;let#[x,H7,I7,r7,y7,st7,fr7]:=J';show Mn (hg cells C s3 ĵ fp _ s7 σ5 H7 x u _ (I7.pinned (stat fr7)<|T.obj _ _ st7) r7<|step x H7 y7) λ_ s8 J'=>?_;let#[σ8,H8,I8,q8]:=J';let again:∀ {H9:Hp}{s9:Ê},Inv ī ([]++ou fp s7.heap) σ8 H9 s9->tn (i+1) s9.heap/\∀ b∈fp,H9 b=none:=λ{H9 s9} I9=>by show#[T.keep _ _ _ st7 λb hb o e=>(I9.pin (b,o)<|Ih _ (Ih _<|gE hb e)).1,λb hb=>?_];let#[o,e,d]:=T.obj _ _ st7 b hb;show (I9.pin (b,o)<|Ih _ (Ih _<|gE hb e)).2.1
   let#[N,NV,hN,hNV,q8]:=q8;show Mn (ht cells C s3 ĵ fp _ s8 σ8 H8 _ I8 q8) λb s9 J'=>?_;let#[H9,I9,q9]:=J'
   cases b with
   | false=>
    rw[if_neg Ig]at q9 ⊢;let#[m',hm,w9]:=hN _ q9;show#[m',hm,i+1,σ8,H9,I9.Py,(again I9).1,(again I9).2,w9]
   | true=>
    rw[if_pos rfl]at q9 ⊢;show Mn (he cells C s3 ĵ fp _ s9 σ8 H9 _ I9 q9) λy s10 J'=>?_;let#[v,RK,YR,r10,q10]:=J';let#[ys,el,hz,m',hm,w10]:=hNV _ _ q10;show Mn (aF (X:=aH X scope N' cells C s3 ĵ fp) _ s10 σ8 RK (.ref l) [v] (.ref l) [y] (λz H11=>z=.non/\H11=upd RK l (.lst<|ys++[v])) YR rfl (.cons r10 .nil) ⟨l,ys,v,rfl,rfl,el,hz,rfl,rfl⟩) λ_ s11 J'=>?_;let#[_,H11,I11,_,_,e11]:=J';subst e11;show#[m',hm,i+1,σ8,_,I11.Py,(again I11).1,(again I11).2,w10]
 show codeAny_compStart_list loop (T.self _ 0 _ _ _ tn4 loop)
universe e
section
variable {wi:TI}{nT:Nat}{js:À}{g:TG}{tt:TT}{te:TE}
theorem ja (wi:TI)(d1O):TE:=λe0i=>wi σ H (fQ nT js g tt te σ λl H'=>Q z8 H')
def a2w (c8l)(hs):e4F D7:=by ext d2y;show y6 hc S hi hg ht he I h (λl C s' H' I' J' q=>?_) hs;let#[f,_,m,n]:=J';show#[m,n,λh' sb=>#[.ref l,H',?_,1,q]];show I'.turned ō f.1 f.2.1 f.2.2.2.1 f.2.2.2.2.1 f.2.2.2.2.2
def dY (c9j)(hs):e4F D7:=a2w b7R S hi hg ht he hs
def c3i (d2p)(c8l)(hsw)(hs):PS X b3M (kg D7 Ep):=by
 ext d2I;rw[exec_Assign_Name_used _ _ _ _ hsw];show Hk<|Le tS;show Hk<|Jd (y6 hc S hi hg ht he I h (λl C s' H' I' J' q=>?_) hs) (λ_ s' hq=>Hr<|Hr hq) λ_ _ e=>e;let#[f,sz,m,n]:=J';show wpAny_assign_Name<|a4Q I' hN SW (.inl hx) (v:=.ref l) rfl (λYb I'' J'=>?_) (.inr hx);let#[a,sb,ha]:=J';let hCa:C≠a:=by
  rcases ha with rfl|ha
  ·show f.2.1
  ·show λz=>f.2.2.2.2.1 x a ha z.symm
 show#[m,n.sameBut sb hCa,λh' sb'=>#[_,H',?_,q]];show I''.turned (λe3L=>(sb'.2 b hb).trans e) f.1 f.2.1 f.2.2.2.1 f.2.2.2.2.1 f.2.2.2.2.2
def bd (d2p)(c9j)(hsw)(hs):PS X b3M (kg D7 Ep):=c3i hN SW hx b7R S hi hg ht he hsw hs
universe e
def c51 {K:Ψ}(Pv:Addr->Nat->Ù)(h0:∀ l,H1 l=none->Pv l 0 b9o)(hl:∀ l i H,i<=xs.length->Pv l i H->e1k xs)(hs:∀ l i x H,xs[i]?=!x->Pv l i H->tt Fe H λb H4=>
   if b=true then te Fe H4 λv H5=>∃ ys,H5 l=!.lst ys/\ys.length<sizeLine/\Pv l (i+1) b45 else Pv l (i+1) H4)(hd:∀ l H,Pv l xs.length H->F l H):e62 (W0 K a) H1:=by
 intro l Yv;show#[λi m σ' H=>m=xs.length - i/\i<=xs.length/\(∃ o,σ'=o::js.map λj=>(σ[j]?).join)/\Pv l i H,#[xs.length,EE,h0 l Yv],?_];rintro i m σ' H ⟨rfl,hi,⟨o,rfl⟩,p⟩;let q:=hl l i H hi p;by_cases NU:i<xs.length
 ·show .inr #[QY,λx H2 y=>?_];let#[e,y]:=y;subst e;show#[Pv l<|i+1,λv H5=>∃ ys,H5 l=!.lst ys/\ys.length<sizeLine/\Pv l (i+1) _,λH4 p4=>#[c4T,p4],
   λv H5 J'=>(by let#[ys,zw,p5]:=J';show#[ys,zw,c4T,p5]),hs l i x _ (y xs q) p]
 ·let e:i=xs.length:=#[]
  subst e;show .inl #[Z',hd l H p]
section
variable {X:Cx}
def c25:Ms X sU (λe1w=>∃ x t T b,xs=[x,.ty T]/\kY X.K H x t/\W.kitOne X.K t TW=!b/\Q yC H):=by
 ext d2D;let#[x,t,T,b,1,ty,e,q]:=h;let#[u,w',1,r1,r2]:=CS r
 cases r2;show c5x I r1 ty e λtk=>#[.bl b,H,I.tok tk,1,q]
def bQ:bootBuiltins "isinstance"=!.builtin "isinstance":=by decide +kernel
def c1m:bootBuiltins "sum"=!.builtin "sum":=by decide +kernel
def tO (hc)(c68):Ms X (.builtin "sum") (λe1w=>∃ (p:Addr)(ns:Ξ),xs=Cd/\Ma X.K H p ł/\Q z6 H):=by
 ext d2D;let#[p,ns,1,hq,q]:=h;let#[u,1,r1]:=df r
 ext d4I;let hi:=f2R rv;let#[xs,hx]:=hi.allInts.items;let hl':=hx▸pl.isList;show sum_intListG wL hl' λe5F t' hk=>?_;let e1:ns=xs.toList.map (·.1):=by rw[<- nums_intItems,<- hx];show (hi.numsOf).symm
 let e2:preSum (numAt xs) xs.size=ns.sum:=by rw[preSum_eq,Jf<|by simp,e1]
 rw[e2];show#[.int ns.sum,H,I.kept hk,#[_,1],q]
structure Uw (K:Ψ)(d0D)[DecidableEq α](c9s)(k:Nat):Prop where
 eq:∀ (X:Cx)(A:Ë)(ñ:ζ)(s:Ê)(σ:St)(H:Hp)(x y:V)(v u:Value)(a b:α),X.K=K->Inv X ñ σ H s->ue x v->ue y u->R H x a->R H y b->A.units+k<cLine->SeqAt.EqAt A s v u (decide (a=b))
 fn:∀ (X:Cx)(ñ:ζ)(s:Ê)(σ:St)(H:Hp)(x:V)(a b:α),X.K=K->Inv X ñ σ H s->R H x a->R H x b->a=b
theorem Wd:Hp->V->Int->Prop:=λ_ x n=>x=.int n
def b4P {K:Ψ}:Uw K Wd 0 where
 eq:=by
  ext d4Q
  cases ha
  cases hb;ext d26;let#[e,yi]:=HT.Xw A s a t b t';let:e=decide (a=b):=by rw[Jk,h2,Ki]
  simp_all
 fn:=by
  intro X ñ s σ H x a b _ I ha hb
  cases ha
  cases hb;rfl
theorem c8 (K)(d0D)(c9s):Hp->V->List α->Prop:=λH x as=>∃ p vs,x=.ref p/\Ma K H p vs/\Paired (R H) vs as
def Paired.at:∀ {l₁:List α}{l₂:List β}{i:Nat}{a:α},e3e l₁ l₂->l₁[i]?=!a->∃ b,l₂[i]?=!b/\F a b:=by
 intro l m i a h
 induction h generalizing i with
 | nil=>intro e;simp at e
 | cons r t ih=>
  intro e
  cases i with
  | zero=>simp_all
  | succ i=>show ih EA
def A8.at' {i:Nat}(r:e0I us)(h:us[i]?=!u):∃ x,xs[i]?=!x/\ue x u:=by
 let hl:=r.length;let hi:=(Ho.mp h).1;let e:xs[i]?=some xs[i]:=by simp
 let#[u',yi]:=r.get e
 simp_all
def a2f {F:α->β->Prop}(f:∀ a b c,F a b->F a c->b=c):∀ {l:List α}{m n:List β},e3e l m->e3e l n->m=n:=by
 intro l m n h
 induction h generalizing n with
 | nil=>intro h;cases h;rfl
 | cons r t ih=>intro h;cases h with|cons r' t'=>rw[f _ _ _ r r',ih t']
section
variable {K:Ψ}{α:Type}[DecidableEq α]{R:Hp->V->α->Prop}{k:Nat}
def a1A (c91){X:Cx}(d1n)(ha:e52 as)(hb:e52 bs):as=bs:=by
 ext d6E
 cases e;subst hK;let:=I.PM h1 h3;ext d8A
def b7v (c91){X:Cx}(c8j)(hl:its.length=NI.length)(d0m):
  (∀ j (h1:j<its.toArray.size) (h2:j<NI.toArray.size),e1E its.toArray[j] NI.toArray[j] (decide oy))/\(List.range its.toArray.size).all (λj=>decide oy)=decide vA:=by
 let l1:=r1.length;let l2:=r2.length;let l3:=Paired.length p1;let l4:=Paired.length p2;show#[λj e2H=>?_,?_]
 ·ext d2P;let:=e6k hu
  simp_all
 ·rw[IV,Jk,JC,Ki];constructor
  ·intro hh;apply JN
   grind
  ·rintro rfl i _;show Hu rfl
def EJ (c91):Uw K (c8 K R) (k+1) where
 eq:=by
  ext d3R
  ·subst hxy;let e:=a1A h hK I ha hb;subst e;let#[wZ]:=ha
   cases rx
   ext d5w
  ·let#[wZ]:=ha;let#[q,ws,1,zh]:=hb
   cases rx
   ext d4J;let#[c5j]:=I.list h1;let#[wB]:=I.list h3;ext d57;by_cases hl:its.length=NI.length
   ·let#[zw]:=b7v (A:=A.in1) h rfl I r1 r2 h2 h4 hl #[];rw[<- e2];show SeqAt.RcAt.lists pl.isList XN.isList (hl) #[] e1
   ·let:decide vA=false:=by
     grind
    rw[this];show SeqAt.RcAt.lists_lengths pl.isList XN.isList Ķ #[]
 fn:=λe8T=>a1A h hK I ha hb
universe e
def a0O [DecidableEq α](d2q):NK X vK (λe2r=>∃ as bs,e7n R H x as/\c8 X.K R H y bs/\Q Di H):=by
 ext d3b
 cases rx
 ext d3j
 ·ext d4B;show SeqAt.eq_listAt pl.isList XN.isList (hl) #[] e1 ?_;ext d72
 ·let:decide vA=false:=by
   grind
  rw[this]at q;show SeqAt.eq_list_lengthsAt pl.isList XN.isList Ķ #[] uQ
def oK [DecidableEq α](d2q):e8Z (λe2r=>∃ as bs,e7n R H x as/\c8 X.K R H y bs/\Q ļ H):=by
 ext d3b
 cases rx
 ext d3j
 ·ext d4B;show SeqAt.RcNeAt.lists pl.isList XN.isList (hl) #[] e1 X.prog X.w X.xe _ ?_;ext d72
 ·let:decide vA=false:=by
   grind
  rw[this]at q;show SeqAt.RcNeAt.lists_lengths pl.isList XN.isList Ķ #[] X.prog X.w X.xe _ uQ
universe e
theorem Df (d1X)(sp):Prop:=
 ∃ f fd,mg x=!.ref f/\W.keepIn K oh=true/\Lx K fd ps []/\Mq P w K mg base NP k f fd ps sp
theorem Dm (c7t)(C)(m:Str)(ps)(sp):Prop:=
 ∃ f fd,ua K C/\zQ K C m f/\Lx K fd ps []/\Mq P w K mg base NP k f fd ps sp
theorem Dk (c7t)(x)(C)(ps)(sp):Prop:=
 ∃ f fd,mg x=!.ref C/\Mk K C f/\Lx K fd ps []/\Mq P w K mg base NP k f fd ps sp
def be (D:e3w sp)(hr)(c7h):
  PE X Ę (A2 sp [] E0 t):=by
 let#[w4,hm,kp,b,F]:=D;show c4l F hr hg hm kp b .nil mC ha OW he uz
def bh (c8S)(c7V)(U5)(uz)(ht:e81 X.env=(do
   let ov <- eval o X.env
   standAt apos.atName
   let (f,first) <- holding [ov] Ŗ
   callWith pos f first (e01 Ű) Ģ):=ă):
  PE X vO (mj C m sp [] E0 ta t):=by
 let#[c6G]:=D;show a0D he cl hm F hr b .nil mC ha U5 uz ht
def iB (c9q)(c7h):
  PE X Ę (A0 C sp [] E0 t):=by
 let#[w4,hm,M,b,F]:=D;show a6P M F hr hg hm b .nil mC ha OW he uz
theorem sB (d08):Prop:=∃ f fd,e5u x=!some oh/\PY K x ğ st f fd
def a2l {K:Ψ}(d15)(c8H)(c9n):sB K x ğ st:=#[f,_,a,v5 l c k]
theorem R7 (K)(C)(m ğ:Str)(st):Prop:=∃ f fd,zQ K C m f/\PY K m ğ st f fd
def c3e {K:Ψ}(d15)(d0F)(l:K.lookup f=some #[lg,.func (W.fnOf m ğ XJ sr zV .none kV doc pm an LR ct),O4])(c)(k:e3f oh=true):R7 K C m ğ st:=#[f,_,#[a,i,k],v5 l c k]
def aY (e:gR H H2)(h:H2 T=Option.none):gR H (e4Z T o):=λb u hb=>by rw[a9<|aj (e b u hb) h];show e b u hb
def bg (e:gR H H2)(h:H T=Option.none):gR H (e4Z T o):=λb u hb=>by rw[a9<|aj hb h];show e b u hb
def Paired.QI (d2n)(h:F a b):e3e (l₁++[a]) (l₂++[b]):=Paired.snoc r h
def uT {xs:Ξ}{i:Nat}(h:(xs.map V.int)[i]?=!x):∃ a,xs[i]?=!a/\x=.int a:=by
 rw[Hy]at h
 cases e:xs[i]? with
 | none=>rw[e]at h;cases h
 | some z=>simp_all
section
variable {js:À}{σ:St}
abbrev a5K (σ:St)(js:À):St:=js.map λj=>(σ[j]?).join
universe e
section
variable (K:Ψ)
def iH (h):VZ X (lA K):=h▸b3Q
def Gw (h):VZ X (Dv K):=h▸a8I
def rB (c8F)(h):e1y l (Zr K tl):=h▸Ag hl
def a0I (d1s)(h)(c7w)(c68):
  PI X Ź xB (a4m K ta):=h▸DE hg hm ha hs S7
def bZ (hc)(hh:BA X es t)(h)(c70):PG X c1b (zt K n t):=h▸a0J hc hh hn U5
def a05 (h):e6v a9c:=h▸a3f
def Ex (h):Ms X sU (λe1w=>∃ x t T b,xs=[x,.ty T]/\kY K H x t/\W.kitOne K t TW=!b/\Q yC H):=h▸c25
def rS (c7j)(h):e80 (a3q K ta f):=h▸DL he hb
def a4d (h):e8n (λe1w=>∃ p ys,xs=Cd/\(e83 ys\/Oi K H p ys)/\∀ l,H l=none->Q z8 uX):=h▸a6H
def a0V (h):NK X rZ (rIn K true):=h▸b1z
def a97 (d05)(c7B)(h)(OY)(QT):PE X b9k (a0o K T r to):=h▸a0L pa slot Yn hm ho OY QT
def Rb (d05)(c7B)(c7V)(h)(OY)(a1y:((f0U Ű).all C3&&(backToKw MV Ĭ).all Bt
   && decide b3i)=true:=ă)(QT)(c7o)(Vm):
  PE X b8p (tBM K T r to t):=h▸a3M pa slot Yn hm ho ha OY a1y QT hs Vm
universe e
inductive a3p (c:TT)(t u:TS)(D:Ends)(c8a):Prop
 |mk:∀ J:Υ,(∀ σ' H',J σ' H'->D.nx σ' H')->(c σ H λb H1=>if b=true then t { D with nx:=J } σ H1 else u { D with nx:=J } σ H1)->a3p c t u D σ H
def jA (c9Z):PS X CZ (a3p tc t u):=by
 ext d2I;let#[J,hJ,h]:=h;show Mn (dJ hc ha hb ñ s σ H { D with nx:=J } I h) λf s1 q=>?_
 cases f with
 | next=>ext d5S;show#[GH,I',hJ _ _ q]
 | brk=>show q
 | cont=>show q
 | ret v=>show q
section
variable {t:TA}
theorem O7 (H)(o:HO)(Q):Prop:=∀ p H2,gR H H2->H p=none->H2 p=!o->Q A5 H2
def O7.at (h:O7 H o Q)(hp:H p=none):Q A5 (d86 p o):=h p _ (aY Ě hp) hp ae
theorem D1 (t:TA):TE:=λe0i=>t σ H λxs H1=>xs.length<=sizeLine/\O7 H1 (.tup xs) Q
theorem YX (t:TA):TE:=λe0i=>t σ H λxs H1=>xs.length<=sizeLine/\O7 H1 lO Q
def cI {x1}(h:e6r t):PE X c0D (D1 t):=by intro ñ s σ H Q I hq;show wpAny_Tuple_spliced<|Mn (e8o hq) fun us s1 ⟨xs,H1,I1,r,z,q⟩=>#[by rw[<- r.length];show z,?_];ext d2W;show#[z,us,r,#[_,HD _ rfl,vb]]
def bV (h:e6r t):e8p (YX t):=by intro ñ s σ H Q I hq;show wpAny_List_spliced<|Mn (e8o hq) fun us s1 ⟨xs,H1,I1,r,z,q⟩=>#[by rw[<- r.length];show z,?_];ext d2W;show#[z,us,(0),r,HD _ rfl]
def NK.imp (h:f0M r)(k:∀ x y H Q,r' x y H Q->r x y H Q):f0M r':=λe1i x y v u Q I rx ry q=>e0C x y v u Q I rx ry (k _ _ _ _ q)
def uU.imp (h:uU X r)(k:∀ x l u H Q,r' x l u H Q->r x l u H Q):uU X r':=λe1i x v vl vu lo hi sl Q I rx hs pl pu q=>e0C x v vl vu lo hi sl Q I rx hs pl pu (k _ _ _ _ _ q)
def Ms.imp (h:f0T r)(k:∀ xs H Q,r' xs H Q->r xs H Q):f0T r':=λe1i xs us Q I rx q=>e0C xs us Q I rx Ac
inductive Dw (c8f):Prop
 |mk:∀ l b xs zs,x=.ref l->y=.ref b->H l=!.lst xs->H b=!.lst zs->xs.length+zs.length<=sizeLine->O7 H (.lst (xs++zs)) Q->Dw x y H Q
def b7r:e8Y Dw:=a0P.imp λe0a J'=>by let#[l,b,xs,zs,Ab,h5,q]:=J';show#[l,b,xs,zs,Ab,h5,λ_ hp=>q.at hp]
inductive Z4 (d1l):Prop
 |mk:∀ a xs,x=.ref a->Ma K H a xs->O7 H b9i Q->Z4 K x lo hi H Q
def Db (K)(h):uU X (Z4 K):=by subst h;show b8G.imp λe0m J'=>by let#[a,xs,yi,q]:=J';show#[a,xs,c6K]
def listS (K)(h):e8n a9a:=
 (a4d K h).imp λe0j J'=>by let#[p,ys,yi,q]:=J';show#[p,ys,c6K]
universe e
def C6 (hr:e07 A)(h:n<=64:=ö):A.units+n<cLine:=Kl (Nat.add_le_add_left h _) hr.units
theorem aU (l:Addr)(H):Hp:=λb=>if b=l then none else H b
def aR (h:b≠l):aU l H b=H b:=if_neg h
def Mm:gR (aU l H) H:=λb o h=>by
 grind [aU,aR]
def cV (e):gR (aU l H) (aU l H'):=λb o h=>by
 by_cases q:b=l
 ·grind [aU]
 ·rw[aR q]at h ⊢;show e _ _ h
def dA:aU l (d86 l o)=aU l H:=by
 funext b;by_cases q:b=l
 ·rw[aU,aU,if_pos q,if_pos q]
 ·rw[aR q,aR q,a9 q]
def lx (e)(h:H l=none):gR H (aU l H'):=λe0u=>by rw[aR<|aj hb h];show e _ _ hb
theorem Mf (c78)(e:Addr)(od:ψ):Prop:=∃ o vs,h.get? e=!o/\o.dict=od/\o.data=.fields vs/\vs[2]?=!.none
def Ch (f:Array Value->Ó)(o):(Obj.mapFields f o).dict=o.dict:=by unfold Obj.mapFields;split <;> rfl
def Mf.of (d09)(k:∀ o,h.get? e=!o->h'.get? e=!o):e40 od:=let ⟨o,vs,a,r⟩:=x;#[o,vs,k o a,r]
def Mf.push (d09)(o):Mf (h.push o) e od:=x.of λ_ q=>Hn _ q
def Mf.other (d09)(n:a≠e)(f:Obj->Obj):Mf (e9H f) e od:=x.of λ_ q=>(Ie _ _ n).trans q
def Mf.set (d09)(v:Value):Mf (h.update e (Obj.mapFields (d9g 1 v))) e od:=
 let #[_,_,C8,d]:=x;#[_,_,Io _ a<|IY (Iy c _),(Ch ..).trans b,Iy c _,by simp_all]
def a7k (c7c)(hsz:1<vs.size)(c7M):
  wpAny M A (do let a <- frameOf env;let pl <- entryPlaceOf L Ub;let b <- EntryCells.newEntry head a .none mU .none pl;setField iM 1 b) (λ_ s'=>e8N s') E s:=by
 let Xq:e∉(env::outer).filterMap sI:=λhm=>by let#[_,o,ho,PN]:=hl.mem hm;ext d4u
 ext d2B;show IM he₂ hd hsz ?_;ext d3h;let hT₃:=(Ie a87
  nZ (Ne.symm UU)).trans (HD h₁ rfl)
 unfold setFlight;show Hk (IR he₃ hd₃ (x:=.ref h₁.objs.size) (by simp[hsz]) ?_);rw[if_pos<|show (Value.ref h₁.objs.size != Value.none)=true from by simp];show IM hT₃ rfl ġ (h _ ?_<|(((SY.of λo q=>(hs₁.2.1 e Xq).trans q).push _).set _).other UU _);let keep:∀ b o,b≠e->h₁.get? b=!o->
   (((h₁.push { cls:=.type "traceback",dict:=none,data:=.fields (sA++Ħ).toArray }).update e<|Obj.mapFields Ğ).update h₁.objs.size
    (Obj.mapFields (d9g 3 ((none:ψ).elim Value.none λf=>rawInt f)))).get? b=!o:=λb o Wm hb=>by
  let hbT:h₁.objs.size≠b:=J9<|HG hb;rw[Ie _ _ hbT,Ie _ _<|Ne.symm Wm];show Hn _ hb
 let MM:∀ b o,s.heap.get? b=!o->Ÿ->b≠e:=λe9x=>by rw[q,he]at hb;ext d3e;show PN vs hd
 ext d22
 ·ext d3I;show#[c6L]
 ·show#[_,_,h₁.objs.size,_,_,?_,#[K5 _ _,by rw[Array.getElem?_setIfInBounds_ne<|by decide];show h0],hd₃,by simp[hsz],kb₁.fresh,UU,Io _ hT₃<|IY (Iy rfl _),Iy rfl _,by first|(simp;done)|(rcases uz with rfl|⟨_,_,_,_,_,_,_,rfl⟩ <;> simp)];rw[Ie _ _ UU];show he₃
 ·ext d6R
def b2b (c7c)(h1:vs[1]?=!.none)(c7M):e8O s:=by ext d4w;show a7k US hl hf SY he Xo Yw hd (Jv.mp h1).1 h0 h
def b4M (c7W)(h:∀ h',Heap.LeftW base ź e cls a0 s.heap h'->e40 od->Q () { s with heap:=h' }):e8O s:=by
 let#[c4d]:=ht;subst Ua;ext d4w;show Hk c17;show Hk b5L;let other:∀ b,b≠T->(s.heap.update T<|Obj.mapFields (·.setIfInBounds 3 Value.none)).get? b=s.heap.get? b:=λe1C=>Ie _ _<|Ne.symm hb;let MM:∀ b o,s.heap.get? b=some o->(∀ vs,o.data≠.fields vs)->b≠T:=λe9x=>by rw[q,hT]at hb;ext d6r
 show a7k US a6k hf oF b3y
  ŗ Yw hd (Jv.mp h1).1 h0
  λh' J' y=>by let#[uE]:=J';show h h' a5U y
def f2O (d0Z)(hQ:∀ h',e9I outer e cls a0 h'->s.heap.UpToSlots h'->e40 od->Q () { s with heap:=h' }):e8O s:=by let#[Fs]:=hfl;show b4M US f3 hf SY f4 f1 f2 λh' hL y=>?_;let#[k1,#[_,_,k2],k3,k4]:=hL;show hQ h' jv k4 y
def a1N {A:Ë}(c7c)(hsz:1<vs.size)(h0:vs[0]?=!a0)(h:∀ h',e7o oe.cls a0 mU s.heap h'->e40 od->Q () { s with heap:=h' }):
  wpAny M A (do let a <- frameOf env;let pl <- entryPlaceOf L Ub;let b <- EntryCells.newEntry head a .none mU .none pl;setField iM 1 b) Q E s:=by
 let Xq:e∉(env::outer).filterMap sI:=λhm=>by let#[_,o,ho,PN]:=hl.mem hm;ext d4u
 ext d2B;show IM he₂ hd hsz (h _ ?_<|((SY.of λo q=>(hs₁.2.1 e Xq).trans q).push _).set _);ext d3h;let hT₃:=(Ie a87
  nZ (Ne.symm UU)).trans (HD h₁ rfl)
 let keep:∀ b o,b≠e->h₁.get? b=!o->
   ((h₁.push { cls:=.type "traceback",dict:=none,data:=.fields (sA++Ħ).toArray }).update e<|Obj.mapFields Ğ).get? b=!o:=
  λb o Wm hb=>by rw[Ie _ _<|Ne.symm Wm];show Hn _ hb
 let MM:∀ b o,s.heap.get? b=!o->Ÿ->b≠e:=λe9x=>by rw[q,he]at hb;ext d3e;show PN vs hd
 ext d22
 ·ext d3I;show#[c6L]
 ·show#[_,_,h₁.objs.size,_,_,he₃,#[K5 _ _,by rw[Array.getElem?_setIfInBounds_ne<|by decide];show h0],hd₃,by simp[hsz],kb₁.fresh,UU,hT₃,1,by first|(simp;done)|(rcases uz with rfl|⟨_,_,_,_,_,_,_,rfl⟩ <;> simp)]
 ·ext d6R
def c52 {L:Addr}(c7W)(h:∀ h',e7o cls a0 mU s.heap h'->e40 od->Q () { s with heap:=h' }):e0x b9S Q E s:=by
 let#[c4d]:=ht;subst Ua;unfold noteFrame;simp only[hf];show Hk Gu;show Hk c17;show Hk b5L;let other:∀ b,b≠T->(s.heap.update T<|Obj.mapFields (·.setIfInBounds 3 Value.none)).get? b=s.heap.get? b:=λe1C=>Ie _ _<|Ne.symm hb;let MM:∀ b o,s.heap.get? b=some o->(∀ vs,o.data≠.fields vs)->b≠T:=λe9x=>by rw[q,hT]at hb;ext d6r
 show a1N US a6k hf oF b3y
  ŗ Yw hd (Jv.mp h1).1 h0
  λh' J' y=>by let#[uE]:=J';show h h' a5U y
def PPs (SY)(Xo)(hl:s.heap.FunFrames base l)(ht:s.heap.TracedAtW base e cls a0 fl)(h:∀ h',base.StaysIn h'->h'.FunFrames base l->h'.TracedW base e cls a0->(∀ b o,s.heap.get? b=!o->Ÿ->h'.get? b=!o)->e40 od->Q () { s with heap:=h' }):
  wpAny M A a9n Q E s:=by
 let#[oe,vs,T,oT,ts,he,Ua,hd,h1,hnT,UU,hT,WI,h3]:=ht;let a4A:=(Jv.mp h3).1;let other:∀ b,b≠T->(s.heap.update T<|Obj.mapFields (·.setIfInBounds 3 ((none).elim Value.none λf=>rawInt f))).get? b=s.heap.get? b:=
  λe1C=>Ie _ _ (Ne.symm hb)
 let MM:∀ b o,s.heap.get? b=!o->Ÿ->b≠T:=λe9x=>by rw[q,hT]at hb;ext d6r
 show Hk Gu;show IM hT WI a4A (h _ ŗ
  (hl.of_keeps λe0u PN=>#[o,(other b<|MM b o hb PN).trans hb,1]) ?_ (λe0u PN=>(other b<|MM b o hb PN).trans hb) oF)
 show#[oe,vs,T,_,_,(other e<|Ne.symm UU).trans he,Ua,hd,h1,hnT,UU,Io _ hT<|IY (Iy WI _),Iy WI _,by simp[a4A]]
def b58 (d0Z)(hQ:∀ h',f0W ź e cls a0 L h'->s.heap.UpToSlots h'->e40 od->Q () { s with heap:=h' }):e0x b9S Q E s:=by let#[Fs]:=hfl;show c52 US f3 hf SY f4 f1 f2 λh' hN y=>?_;let#[wO,k4]:=hN;show hQ h' jv k4 y
def a07 (SY)(hh:f0W l e cls a0 L s.heap)(c7O):e8N s:=by let#[Fs]:=hh;show PPs SY f1 f3 f4 λh' k1 k2 k3 k4 y=>hQ h' jv b1y y
def b41 (SY)(hh:e9I l e cls a0 s.heap)(c7O):e8N s:=by let#[Fs]:=hh;show PPs SY f1 f3 f4.at λh' k1 k2 k3 k4 y=>hQ h' jv b1y y
theorem RX (P)(w):W3:=λouter H s E e s'=>∃ (ea:Addr)(cls a0:Value)(B:Heap)(H':Hp)(od:ψ),Mf s'.heap ea od/\e=.ref ea/\s'.os=s.os/\AllBare s'.gens/\Un (Ra outer) [] H H' s.heap s'.heap/\Po P w H' s'.heap/\H' ea=none/\s.heap.get? ea=none/\
 Heap.FlyingW B outer ea cls a0 s'.heap/\(∀ b o,s'.heap.get? b=!o->b∉Ra outer->B.get? b=none->s.heap.get? b=none/\H' b=none)/\E cls od H'
def Po.gone (c9h)(n:h.get? a=none):H a=none:=by
 cases q:H a with
 | none=>rfl
 | some v=>
  let#[o,e]:=fA<|x a v q;rw[n]at e;cases e
def Inv.was (I)(nx:b∉X.ex)(n:s.heap.get? b=none):X.s₀.heap.get? b=none:=by
 cases q:X.s₀.heap.get? b with
 | none=>rfl
 | some o=>
  let#[o',e]:=e3v o q nx;rw[n]at e;cases e
def a0e {B:Heap}(u:Un fs [] H H' h h1)(LY:e5W H' h1)(hB1:B.StaysIn h1)(hB2)(up:h1.UpToSlots h2)(US:∀ b∈fs,∃ o,h1.get? b=!o/\∀ vs,o.data≠.fields vs)(Xu:∀ b∈fs,H' b=none)(old:∀ b o,h1.get? b=!o->b∉fs->B.get? b=none->h.get? b=none/\H' b=none):
  Un fs [] H H' h h2/\Po P w H' h2/\∀ b o,h2.get? b=!o->b∉fs->B.get? b=none->h.get? b=none/\H' b=none:=by
 let in1:∀ b o,h1.get? b=!o->b∉fs->(h.get? b≠none\/H' b≠none)->h2.get? b=!o:=λe0D hb hn=>by
  cases q:B.get? b with
  | none=>
   ext d5x
   ·show absurd z.1 hn
   ·show absurd z.2 hn
  | some o2=>
   let:=hB1 b o2 q;ext d5y
   ext d3Q;show hB2 b _ q
 let slots:∀ b o,h1.get? b=!o->b∈fs->∃ sl,h2.get? b=!{ o with slots:=sl }:=λe0D hb=>by
  let#[o',e',hd]:=US b hb;rw[e]at e'
  ext d8B
 show#[#[c4x,u.free,λe0D hx=>?_,u.QF,u.Qi],c4Z]
 ·show in1 b o (e5J hb hx) hb VE
 ·let#[sl,e1]:=f1W hb hx;ext d5o
 ·let#[o',e1]:=e7j o e hx;by_cases hb:b∈fs
  ·ext d5F
  ·show#[o',in1 b o' e1 hb VE]
 ·show (LY a v e).Nb b07 mD λf2p=>q
  ·let:=Xu c z;rcases hc with rfl|hc
   ·ext d5y;ext d3Q
   ·rw[hc]at this;ext d3Q
  ·rcases hc with rfl|hc
   ·rw[e];ext d5p
   ·rw[hc];ext d5p
 ·cases q:h.get? b with
  | none=>rfl
  | some o'=>
   let#[o2,e2]:=e7j o' q Ĕ;let:=(e41 hb hB).1;ext d44
 ·cases q:H' b with
  | none=>rfl
  | some v=>
   let#[o2,e2]:=fA<|LY b v q;let:=(e41 hb hB).2;ext d44
structure CM (X:Cx):Prop where
 VD:X.stack=X.env::X.outer
 frm:X.env.frame=!X.env.locals
 exs:X.ex=[]
def CM.Ra (d1a):L2.Ra X.stack=X.env.locals::X.fs:=by rw[O.VD];unfold L2.Ra;rw[KL,O.frm];rfl
def b0a {B:Heap}(d1a)(I)(hB1:B.StaysIn s.heap)(hB2)(up:s.heap.UpToSlots h2)(old:∀ b o,s.heap.get? b=!o->b∉Ra X.stack->B.get? b=none->X.s₀.heap.get? b=none/\H b=none):
  Un X.fs [] X.H₀ H X.s₀.heap h2/\Po X.prog X.w H h2/\∀ b o,h2.get? b=!o->b∉X.fs->B.get? b=none->X.s₀.heap.get? b=none/\H b=none:=by
 ext d3n;let X4:∀ b,b≠X.env.locals->b∉X.fs->b∉Ra X.stack:=λb e2H z=>by
  rw[O.Ra]at z;rcases HK.mp z with z|z
  ·show h1 z
  ·show h2 z
 let in1:∀ b o,s.heap.get? b=!o->b∉Ra X.stack->(X.s₀.heap.get? b≠none\/H b≠none)->h2.get? b=!o:=λe0D hb hn=>by
  cases q:B.get? b with
  | none=>
   ext d5x
   ·show absurd z.1 hn
   ·show absurd z.2 hn
  | some o2=>
   let:=hB1 b o2 q;ext d5y
   ext d3Q;show hB2 b _ q
 let slots:∀ b o,s.heap.get? b=!o->b∈X.fs->∃ sl,h2.get? b=!{ o with slots:=sl }:=λe0D hb=>by
  let#[_,o',e',hd]:=I.Qs.mem hb;rw[e]at e'
  ext d8B
 let nx:∀ b,b∉X.ex:=λb=>by rw[O.exs];simp
 show#[#[λe3o=>?_,λe3o=>?_,λe0D n hx=>e3O o e n<|nx b,λe0D hx=>?_,I.base.QF,I.base.Qi],c4Z]
 ·show in1 b o (e4S e n hb<|nx b) (X4 b (Ze b o e) hb) (.inl (by rw[e];show λz=>nomatch z))
 ·let#[sl,e1]:=e8f hb<|nx b;ext d5o
 ·let#[o',e1]:=e3v o e<|nx b;by_cases hb:b∈X.fs
  ·ext d5F
  ·show#[o',in1 b o' e1 (X4 b yx hb) VE]
 ·show (e53 v e).Nb b07 mD λf2p=>q
  ·let:=I.P6 c z;rcases hc with rfl|hc
   ·ext d5y;ext d3Q
   ·rw[hc]at this;ext d3Q
  ·rcases hc with rfl|hc
   ·rw[e];ext d5p
   ·rw[hc];ext d5p
 ·cases q:X.s₀.heap.get? b with
  | none=>rfl
  | some o'=>
   let#[o2,e2]:=e3v o' q<|nx b;let:=(e41 (X4 b (Ze b o' q) hb) hB).1;ext d44
 ·cases q:H b with
  | none=>rfl
  | some v=>
   let#[o2,e2]:=fA<|I.LY b v q;let nf:b∉Ra X.stack:=λz=>by rw[I.P6 b z]at q;cases q
   let:=(e41 nf hB).2;ext d44
def f2P (d1a)(I)(he:s.heap.get? ea=!oe)(hd:oe.data=.fields vs)(h0:vs[0]?=!a0)(h1:vs[1]?=!.none)(h2:vs[2]?=!.none)(hH:H ea=none)(hs0:X.s₀.heap.get? ea=none)(h:E oe.cls oe.dict H):
  wpAny ē X.A (leaving X.env za) (d9j za) E2 s:=by
 let hl:s.heap.FunFrames (W.hideAll s.heap<|ea::Ra X.stack) X.stack:=W.funFrames_hide I.stack λenv he e1C=>HM _<|List.mem_filterMap.mpr #[env,he,hb];let hB1:(W.hideAll s.heap<|ea::Ra X.stack).StaysIn s.heap:=λe5G=>f1V q;let hB:(W.hideAll s.heap<|ea::Ra X.stack).get? ea=none:=W.hideAll_none _<|HS ..;show b2b (by rw[I.ok.frames,O.VD]) (by rw[O.VD]at hl ⊢;show hl) O.frm ⟨oe,vs,he,rfl,hd,h2⟩ he hB1 hB hd h1 h0 λXY J' dd=>?_;let#[k1,#[_,_,k2],k3,k4]:=J';let#[u,LY,old]:=b0a O I hB1 k1 k4 (λe0D hb hBb=>by
  by_cases Wm:b=ea
  ·rw[Wm];show#[hs0,hH]
  ·rw[W.hideAll_get _ e λz=>(HK.mp z).elim Wm hb]at hBb;cases hBb)
 show#[ea,_,a0,_,H,_,dd,1,I.os,I.bare,u,LY,hH,hs0,#[k1,hB,k2,k3],old,h]
def a6A (d1a)(I:e0c Hc s)(h:e7p Hc s E e s'):
  wpAny ē X.A (leaving X.env e) (d9j e) E2 s':=by
 let#[c5b,SY,c5q,hE]:=h;let I1:=I.SA os u LY bare λb z=>e6w Ĕ;let none_of:∀ b,s.heap.get? b=none->X.s₀.heap.get? b=none:=λb=>I.was (by rw[O.exs];simp);show f2O (by rw[I.ok.frames,O.VD]) O.frm SY (O.VD▸fl) λXY fl2 up dd=>?_;let#[u2,a8N,a7W]:=b0a O I1 fl.1 fl2.1 up (λe0D hb hB=>let ⟨z1,z2⟩:=old b o e hb hB;#[none_of b z1,z2]);show#[c5b,dd,1,I1.os,I1.bare,u2,a8N,Sa,none_of ea hsc,fl2,a7W,hE]
theorem b1Y (X)(c9C):Prop:=∀ (ñ:ζ)(σ:St)(H:Hp)(s:Ê)(e:Value)(s':Ê),e0c H s->e7p H s (W σ) e s'->X.xe e s'
theorem c3U (X)(c9C):Prop:=∀ (ñ:ζ)(σ:St)(H:Hp)(s:Ê)(ea:Addr)(oe:Obj)(vs:Ó)(a0:Value),e0c H s->s.heap.get? ea=!oe->oe.data=.fields vs->vs[0]?=!a0->vs[1]?=!.none->vs[2]?=!.none->H ea=none->X.s₀.heap.get? ea=none->W σ oe.cls oe.dict H->X.xe za s
section
variable {K:Ψ}
def nA:CM a7H:=#[3]
def a0R:b1Y a6R Ew:=λñ σ Hc sc e s' I h=>a6A nA I h
def c56:c3U a6R Ew:=λñ σ Hc sc ea oe vs a0 I he hd h0 e2H hH hs h=>f2P nA I he hd h0 h1 h2 hH hs h
def PY.okX (c8N)(len)(OX:∀ (LR:Value)(A:Ë)(outer:List Env)(s:Ê)(H:Hp)(vs:π)(Q:VK)(E:XK),e07 Ė->e1I E->
   ∃ t,Qe ń sr t/\t { nx:=λ_ H'=>e21 H',rt:=Q } ST H):e1O sp:=by
 ext d67;ext d3y
universe e
theorem DfX (d1X)(sp):Prop:=
 ∃ f fd,mg x=!.ref f/\W.keepIn K oh=true/\Lx K fd ps []/\Mq P w K mg base uA k f fd ps sp
section
variable {sp:Sp}{t:TA}{W:St->XK}
theorem Sm (sp)(c9C)(t:TA):TE:=λe0i=>t σ H λe7c=>sp vs H1 Q (W σ)
def Ll2 (c8J)(hb:Lx X.K fd ps [])(d16)(c9S)(h:e1I (W σ)):e5t s:=by
 let hl:(us++[]).length=ps.length:=by rw[HV,<- r.length];ext d6N
 let RI:=hb s us I.Oh hl;rw[HV]at RI;show KN (d80 us vs _ RI r)
 cases r with
 | error e=>ext d4X
 | ok fl=>
  cases fl with
  | ret u=>show I.after hq
  | next=>ext d2U
  | brk=>ext d2U
  | cont=>ext d2U
def a8Z (d16)(D:DfX X.prog X.w X.K X.mg X.base k x ps sp)(hr)(c7h):
  PE X Ę (Sm sp W t):=by
 let#[w4,hm,hk,hb,F]:=D;ext d2X;show Ll2 F hr hb hx I1 r q
universe e
abbrev x9:θ:=[.type "ValueError",.type "Exception",.type "BaseException",.type "object"]
theorem a3b (us):Obj:={ cls:=.type "tuple",data:=.seq us.toArray }
theorem GK (C t:Addr):Obj:={ cls:=.ref C,data:=.fields [.ref t,.none,.none,.none,.bool false,.none].toArray }
theorem c5W (c78)(C)(us):Heap:=(h.push (a3b us)).push (GK C h.objs.size)
def gh:∀ b o,h.get? b=!o->(f0X us).get? b=!o:=λ_ _ e=>Hn _ (Hn _ e)
def c3W:(f0X us).get? (h.objs.size+1)=!GK C h.objs.size:=by
 unfold c5W GK a3b
 heap_get
def f2Q:Heap.MadeExcOf h (f0X us) (h.objs.size+1) uf us:=
 #[gh,Heap.get?_none_of_le<|K6 _,h.objs.size,c3W,Heap.get?_none_of_le<|Hz _,Hn _ b47]
section
variable {fI:Addr}
def qY (c7r)(k:∀ h' e,e2x e uf us->e82 A b4t (λr s'=>r=.none/\Q (.done (.ret iM)) s') E { s with heap:=h' }):
  wpAny ų A (Builtin.«type.__call__» c18) Q E s:=by
 let#[h,t6]:=s;repeat (first|with_reducible show wpAny_madeBy_exc hC ?_|with_reducible show K4 hC ?_|wp_step)
 show codeAny_call_builtin_code (KO _ F.quiet) (wpAny_check_new_subT F T hC (codeAny_exc_new_subT F T hC ?_ hz));change wpAny _ _ _ _ _ #[f0X us,t6];let hC':=gh (C:=C) (us:=us) C _ hC;let hme:(Value.ref C::tl).contains uf=true:=by simp
 let hN':(f0X us).Ns N mN:=by let#[yH,e,r]:=hN;show#[yH,gh _ _ e,r]
 let hx:=c3W (h:=h) (C:=C) (us:=us);unfold GK at hx;repeat (first|(with_reducible show wpAny_isSubtype_exc hC' ?_;rw[hme])|with_reducible show K4 hx ?_|wp_step)
 show wpAny_typeLookup_tail hC' hN' (T.keeps gh) F.mroIs F.init.lookup ?_;rw[hI];show IL tS;show Hk (KQ #[_,gh _ _ hf,hfc] ?_);show Hr<|Hk (Jd (k _ _ f2Q) (λr s' hr=>?_) λf0A=>x);let#[1,hQ]:=hr
 wp_walk
 show hQ
def a8K (c7r)(k:∀ h' e,e2x e uf us->e82 (d9L c18) b4t (λr s'=>r=.none/\Q iM s') E { s with heap:=h' }):
  wpAny ų A (call uf us) Q E s:=by
 let f1:=tc_lookup;let f2:=tc_bind<|.ref C;let#[h,t6]:=s;show KN (codeAny_of_tree ?_);repeat (any_goals (first|with_reducible show K4 hC ?_|assumption|wp_step))
 show#[1,codeAny_call_builtin_at (KO _<|by decide +kernel) entry_typeCall<|wpAny_check_type_call_sub hC (qY F T hC hN hI hf hfc hz λh' e mk=>k h' e mk)]
universe e
open PySem.Calls PySem.W
open PySem.Builtin PySem.Builtin.ObjectAttr
theorem uB:List Value->Bool
 | []=>false
 | .ref _::r=>uB r
 | v::r=>(v::r)==x9
def a50 (h:(l==x9)=true):l=x9:=Kj.mp h
instance ly (self:Value):∀ (l:θ),uB l=true->refuseLoop self "__setattr__" l=pure ():=by
 intro r'
 induction r' with
 | nil=>
  intro e
  cases e
 | cons v r ih'=>
  intro e
  cases v
  case ref c=>rw[refuseLoop_ref];show ih' e
  all_goals
   let e':=a50 e;rw[e'];show F.store_ValueError.passes self
instance yr:∀ (l:θ),uB l=true->l.contains (.type "object")=true:=by
 intro r'
 induction r' with
 | nil=>
  intro e
  cases e
 | cons v r ih'=>
  intro e
  cases v
  case ref c=>rw[List.contains_cons,ih' e,Bool.or_true]
  all_goals
   let e':=a50 e;rw[e'];decide
theorem a7E (d1b)(C):Bool:=(clsIn K C).any λcd=>uB cd.mro
def Gf (c9c)(Wk:ox.dict=none)(c8K)(h:∀ h' Y9,h'.get? x=!{ ox with dict:=some s.heap.objs.size }->h'.Ns1 s.heap.objs.size (λy=>if y=name then some v else none)->(∀ b o,b≠x->s.heap.get? b=!o->h'.get? b=!o)->R BM { s with heap:=h',toks:=Y9 }):
  codeAny Ē A b0M R s:=by
 ext d7N;let I:e3R x ox C none:=#[hx,V6,by unfold notCls;rw[Rk],by rw[Wk];trivial]
 ext d73;let ne:cd.mro.isEmpty=false:=by cases q:cd.mro with|nil=>rw[q]at ho;cases ho|cons _ _=>rfl
 ext d2z;let L3:e8q none:=by
  cases attr with
  | none=>show .now
  | some a=>
   ext d4b
   cases b with
   | true=>cases e
   | false=>show .now
 ext d3c;let#[U6,t6]:=s;ext d4K;let hx₁:(U6.push { cls:=.type "dict",data:=.dict [].toArray }).get? x=!{ cls:=.ref C,data:=.fields vs,slots:=O4 }:=Hn _ hx;let hxs:=Ib<|HG hx;show Hk (wpAny_alloc' ?_);show Hk (wpAny_update' hx₁ ?_);ext d4e;let hgd:((U6.push { cls:=.type "dict",data:=.dict [].toArray }).update x λo=>{ cls:=o.cls,dict:=!U6.objs.size,data:=o.data,slots:=o.slots }).get? U6.objs.size
   = !{ cls:=.type "dict",data:=.dict [].toArray }:=
  (Heap.get?_update_ne _ _ _ _ hxs.symm).trans b47
 let Zw:((U6.push { cls:=.type "dict",data:=.dict [].toArray }).update x λo=>{ cls:=o.cls,dict:=!U6.objs.size,data:=o.data,slots:=o.slots }).Ns U6.objs.size mG:=
  #[_,[].toArray,_,hgd,1,λe he=>absurd he<|by simp,λ_=>rfl]
 show Hk (Hr<|Hk (wpAny_nsSet1 (Heap.Ns1.of_empty Zw) λh' V4 hs=>?_));let#[wN]:=V4.count<|Within.cons name v Within.nil;show Hk (e3p (by rw[hdD];show pastItsLine_dict<|HU hcD (by simp_all)) ?_);show Hr (h h' _ ?_ V4 λb ob hbx hb=>?_)
 ·show (hs.2 x hxs).trans (Io _ hx₁ rfl)
 ·show (hs.2 b<|Ib (HG hb)).trans ((Heap.get?_update_ne _ _ _ _ hbx).trans<|Hn _ hb)
theorem qc (ea C:Addr)(od:ψ)(c78):Prop:=∃ o vs a0,h.get? ea=!o/\o.cls=.ref C/\o.data=.fields vs/\vs[0]?=!a0/\vs[1]?=!.none/\o.dict=od/\vs[2]?=!.none
theorem Cf (ea C:Addr):HO:=.ext (qc ea C none)
theorem va (ea C dx:Addr):HO:=.ext (qc ea C !dx)
def c2Y (x:qc ea C od h):e36 ea (.ext (qc ea C od)):=by let#[o,vs,a0,ho,r]:=id x;show#[x,#[o,ho],λe2H J' k=>(by let#[o1,vs1,a1,FE]:=J';show#[o1,vs1,a1,k o1 q1,q2])]
def eB:aU l H l=none:=if_pos rfl
structure eX (d1b)(c7L)(f:Str):Prop where
 sa:findIn K uf "__setattr__"=!some ũ
 ov:a7E K C=true
 tk:takerIn K C f=!none
 hd:hasDictIn K C=true
section
variable {X:Cx}{σ:St}{H:Hp}
def a36 (I)(e:H ea=!Cf ea C)(T:eX X.K C f)(ry)(h:∀ dx s',H dx=none->dx≠ea->e0c (upd (d86 dx (.xd [(f,y)])) ea (va ea C dx)) s'->Q () s'):e2w c1i Q E s:=by
 ext d7m;let IA:e3R ea ox C none:=#[hx,hc,by unfold notCls;rw[hd],by rw[Wk];trivial]
 show set_plain I.Oh IA T.sa (Gf I.Oh hx hc hd Wk T.ov T.tk T.hd λh' Y9 WC V4 hk=>?_);let dn:=I.LY.fresh<|Hz _;let ne:=J9<|HG hx;show h s.heap.objs.size _ dn ne (I.SA (ch:=[]) rfl ?_ ?_ I.bare λb z=>absurd z<|by simp)
 ·let old:∀ b,H b≠none->b≠ea->upd (upd H s.heap.objs.size<|.xd [(f,y)]) ea (va ea C s.heap.objs.size) b=H b:=λe1C Wm=>by rw[a9 Wm,a9 λz=>hb (by rw[z];show dn)]
  show#[c29]
  ·show hk b o (λz=>by rw[z,e]at n;cases n) q
  ·show#[o.slots,e7q (λz=>by rw[z,e]at n;cases n) q]
  ·rw[a9 (λz=>by rw[z,e]at n;cases n),a9<|Ib (HG q)];show n
  ·by_cases hb:b=ea
   ·rw[hb];show#[_,WC]
   ·show#[o,e7q hb q]
  ·ext d3B
  ·ext d3B
 ·intro a v q;by_cases ha:a=ea
  ·rw[ha,ae]at q
   cases q;rw[ha];show c2Y #[_,vs,a0,WC,hc,hd,h0,h1,1,h22]
  ·rw[a9 ha]at q;by_cases hb:a=s.heap.objs.size
   ·rw[hb,ae]at q
    ext d4M
    ·ext d34
    ·rw[if_neg hg];let:(g==f)=false:=by simpa using hg
     ext d74;show K0
   ·rw[a9 hb]at q;show (e53 v q).Nb b2f (λc Pq=>?_) λc xs Pq=>?_
    ·rcases Pq with Pq|Pq
     ·show ha (Pq▸z2)
     ·rw[z2,e]at Pq;cases Pq
    ·ext d3u
    ·ext d3u
inductive b3j (c7L)(c8y):Prop
 |mk:∀ ea,x=.ref ea->H2 ea=!Cf ea C->(∀ dx,H2 dx=none->dx≠ea->D.nx σ (upd (upd H2 dx (.xd [(f,y)])) ea (va ea C dx)))->b3j C f D σ y x H2
theorem a3w (C)(ta tv:TE)(f):TS:=λe6n=>tv σ H λy H1=>ta σ H1 λx H2=>b3j C f D σ y x H2
def Ae (c7p):PS X yA (a3w C ta tv f):=by ext d56;let#[x,Ej,rx,ea,ex,he,q2]:=J';ext d5T;show a36 I2 he T ry λdx s3 e2H I3=>#[σ,_,I3,q2 dx h1 h2]
def Inv.VB (I)(e:H ea=!.ext φ):e0c xH s:=by
 let hd:∀ b,b≠ea->aU ea H b=H b:=λe1C=>aR hb;show#[Dr,#[I.base.keep,I.base.slot,λe5G n hx=>?_,I.base.there,λb xs q=>?_,λb o u q=>?_],I.loc,I.cell,?_,λx c q=>?_,λf0z=>?_,λa v q=>?_,I.len]
 ·by_cases hb:b=ea
  ·ext d7O
  ·rw[hd b hb];show I.base.free b o q n hx
 ·let:=e3u q;ext d4x
 ·let:=e4U o u q;ext d4x
 ·by_cases hb:X.env.locals=ea
  ·ext d7O
  ·rw[hd _ hb];show I.free
 ·by_cases hb:c=ea
  ·ext d7O
  ·rw[hd _ hb];show I.Nd x c q
 ·let#[vz]:=e8i hp;show#[q1,?_,q3];by_cases hb:p.1=ea
  ·ext d7O
  ·rw[hd _ hb];show q2
 ·let ha:a≠ea:=λz=>by rw[z,eB]at q;cases q
  rw[hd a ha]at q;show (e53 v q).Nb (λc v' _ z=>z) (λc hc=>?_) λc xs hc=>?_
  ·ext d4W
  ·ext d4W
universe e
theorem Am (d1b)(C f:Addr):Bool:=match K.lookup C with
 | some o=>(match o.data with
  | .cls cd=>o.cls==.type "type"&&cd.mro.head?==some uf&&o.slots.size==6&&o.slots[4]?==some (!.builtin "ValueError.__new__")&&not cd.hasDel&&tailIn K x9 cd.mro.tail&&nsOkIn K cd.ns&&nsIn K cd.ns "__init__"==!some oh
  | _=>false)
 | none=>false
instance z5 {K:Frag}(X:K.In h)(G:h.Ns N mg)(e:nsIn K N n=!some v):mg n=!v:=by
 let#[o,es,ep,ho,hd,_,hf]:=G;unfold nsIn at e;split at e
 ·rename_i q;let:=X _ _ q;rw[this]at ho
  cases ho
  cases hd;split at e
  ·rename_i he
   cases e;rw[<- hf];unfold nsFind findBy
   simp_all
  ·simp_all
 ·cases e
def a9F {K:Frag}(X:K.In h)(q:Am K C f=true):
  ∃ bm N nm q bs hdct sn sub ab col dd k0 k1 k2 k3 k5 mN,K.lookup C=!excClassObj nm q C N bs bm hdct sn sub ab col dd k0 k1 k2 k3 k5 "ValueError.__new__"/\h.Ns N mN/\mN "__init__"=!.ref f/\OwnTail h x9 bm:=by
 unfold Am at q
 cases ho:K.lookup C with
 | none=>rw[ho]at q;cases q
 | some o=>
  rw[ho]at q;let#[oc,dd,da,sl]:=o
  cases da with
  | cls cd=>
   ext d5Z;let#[#[#[#[#[#[#[1,hm],hz],hs],a46],ht],LY],hni]:=q;let#[nm,bs,mro,ns,qn,hd,sn,sub,ab,col,del]:=cd;dsimp only at hm a46 LY hni ht;subst a46;obtain⟨bm,rfl⟩:∃ bm,mro=.ref C::bm:=by
    cases mro with
    | nil=>cases hm
    | cons x bm=>cases hm;show#[bm,1]
   let#[l]:=sl;let hz:l.length=6:=hz;let hs:l[4]?=!(some<|.builtin "ValueError.__new__"):=by simpa using hs
   let e:l=[l[0]'#[],l[1]'#[],l[2]'#[],l[3]'#[],l[4]'#[],l[5]'#[]]:=List.ext_getElem hz λi e2H=>by
    let:i<6:=by simpa using h2
    rcases i with _|_|_|_|_|_|i<;>first|rfl|lia
   rw[Hm<|by lia]at hs;rw[Option.some.inj hs]at e;show#[bm,ns,nm,qn,bs,hd,sn,sub,ab,col,dd,_,_,_,_,_,_,by rw[e],.of_isNs<|isNs_of_in X LY,z5 X (.of_isNs<|isNs_of_in X LY) hni,tail_of_in X ht]
  | _=>cases q
structure c3N (d1b)(C f:Addr):Prop where
 own:Am K C f=true
 fn:isFn K oh=true
 kp:keepIn K uf=true
theorem DiX (P)(w)(d1b)(mg)(base)(k:Nat)(x)(C)(ps)(sp):Prop:=
 ∃ f fd,mg x=!.ref C/\c3N K C f/\Lx K fd ps []/\Mq P w K mg base NP k f fd ps sp
def Key {sub:θ}(OY:bm.contains zR=true)(c9t)(h:e0x x (λv s₁=>∃ e oe vs,v=.ref e/\s₁.heap.get? C=!excClassObj nm q C N bs bm hdct sn sub ab col dd k0 k1 k2 k3 k5 newId/\s₁.heap.get? e=!oe/\oe.cls=.ref C/\oe.data=.fields vs/\vs[1]?=!.none/\E iM s₁) E s):
  wpAny M A (raiseStmt env (!x) none) Q E s:=by
 let hcB:(Value.ref C::bm).contains zR=true:=by rw[List.contains_cons,OY,Bool.or_true]
 show Hk (Jd h (λv f0B=>?_) λf0A=>x);let#[e,oe,vs,1,hC,he,hc,hd,h1,hE]:=h₁;let#[A7]:=s₁;let#[kB]:=oe;subst hc hd;repeat (first|with_reducible show K4 he ?_|with_reducible show K4 hC ?_|(with_reducible show wpAny_isSubtype_exc hC ?_;rw[hcB])|wp_step)
 rw[h1];ext d4e;show Hr (wpAny_raiseNew_none hh hE)
section
variable {C:Addr}{sp:Sp}{t:TA}{W:St->XK}
def Inv.a4c (I)(mk:e2x ea uf us):e0c (d86 ea (Cf ea C)) { s with heap:=h' }:=by
 let hH:=I.LY.gone mk.new;let#[t,he,htn,ht]:=mk.there;let up:∀ b o,H b=!o->upd H ea (Cf ea C) b=!o:=λe5G=>by rw[a9<|aj q hH];show q
 show I.SA (ch:=[]) rfl #[λe5G n hb hx=>e7r q,λe5G n hb hx=>#[o.slots,e7r q],λe5G n hx=>?_,λe5G hx=>#[o,e7r q],λb xs q=>up b _ q,λb o u q=>up b _ q] (λa v q=>?_) I.bare λb z=>e6w Ĕ
 ·rw[a9 (λz=>by rw[z,mk.new]at q;cases q)];show n
 ·by_cases ha:a=ea
  ·rw[ha,ae]at q
   cases q;rw[ha];show c2Y #[Lq,he,6]
  ·rw[a9 ha]at q;show (e53 v q).Nb (λc w' _ z=>mk.keeps c w' z) (λc hc=>up c _ hc) λc xs hc=>up c _ hc
theorem Fx (c9C)(C)(sp)(t:TA):TS:=λ_ e3s=>t σ H λe7c=>vs.length<=sizeLine/\∀ ea,H1 ea=none->
 sp (.ref ea::vs) (upd H1 ea (Cf ea C)) (λv H2=>v=.non/\∃ dx,H2 ea=!va ea C dx/\W σ uf (!dx) (aU ea H2)) E0
def BB (d1a)(hc)(hw:c3U X W)(c8L)(D:e22 sp)(c7n)(c7V)(c9d):
  PS X a9p (Fx W C sp t):=by
 let#[w4,hm,M,hb,F]:=D;intro ñ s σ H D' I h;let#[tl,N,nm,qn,bs,hdct,sn,sub,ab,col,dd,k0,wO,k5,mN,hC,hN,hni,T]:=a9F I.Oh M.own;let OY:=T.hasType PySem.F.excBase_ValueError.hasBase;let a5d:e0h (d87 (.Call (e8h np) vh [] MV)) (λv s₃=>∃ e oe vs,v=.ref e/\s₃.heap.get? C=!excClassObj nm qn C N bs tl hdct sn sub ab col dd k0 k1 k2 k3 k5 "ValueError.__new__"/\s₃.heap.get? e=!oe/\oe.cls=.ref C/\oe.data=.fields vs/\vs[1]?=!.none/\X.xe iM s₃) X.xe s:=by
  show Je Ez;show callWith_K (h₀:=X.base) I.ok.mod.Wa M.kp (Mn (ha MV ñ s σ H _ I h) fun us s1 ⟨vs,H1,I1,r,hz,q⟩=>EI) U5 uz;let#[tl1,N1,nm1,qn1,bs1,b1C,sn1,b28,ab1,b7g,dd1,l0,l1,l2,l3,l5,mN1,hC1,hN1,a8W,T1]:=a9F I1.Oh M.own;let#[of,hof,a8P]:=HZ.mp<|show typeIn X.K (.ref f)=some (.type "function") from Kj.mp M.fn;show a8K PySem.F.excBase_ValueError T1 (I1.Oh _ _ hC1) hN1 a8W (I1.Oh _ _ hof) a8P (by change us.length<=sizeLine;rw[<- r.length];show hz) λh' ea mk=>?_;let Sa:=I1.LY.gone mk.new;let hs0:=I1.was (by rw[O.exs];simp) mk.new;let I2:=I1.a4c mk;let hq:=q ea Sa;let r2:A8 (V.ref ea::vs) se:=e4Y r;let hl:(se++[]).length=ps.length:=by rw[HV];let e:=r2.length;ext d6e
  let RI:=hb _ se I2.Oh hl;rw[HV]at RI;show KN (JI (e8m #[Value.ref ea::us,[]] se _ _ E0 c1g b9h RI r2 hq) λr s' S8=>?_)
  cases r with
  | error e=>ext d3H
  | ok fl=>
   cases fl with
   | ret u=>
    let#[v,H',I3,rv,ev,dx,hM,hW]:=I2.after S8;subst ev;show#[rv,?_];let#[pH,a0,he,V6,hda,h0,h1,hdi,h22]:=id<|show qc ea C (!dx) s'.heap from (I3.LY ea _ hM).1;show#[ea,pH,1,I3.Oh _ _ hC,he,V6,hda,h1,hw ñ σ _ s' ea oe ws a0 (I3.VB hM) he hda h0 h1 h22 eB hs0 ?_];rw[V6,hdi];show hW
   | next=>ext d3H
   | brk=>ext d3H
   | cont=>ext d3H
 rw[arm_exec_Raise];show Hk (Le<|Key (C:=C) (nm:=nm) (q:=qn) (N:=N) (bs:=bs) (bm:=tl) (hdct:=hdct) (sn:=sn) (sub:=sub) (ab:=ab) (col:=col) (dd:=dd) (k0:=k0) (k1:=k1) (k2:=k2) (k3:=k3) (k5:=k5) OY wL (Hk<|Jd a5d (λv s₃ h₃=>Hk<|Le (Hr h₃)) λf0A=>x))
universe e
theorem a1J (ea)(cls)(c78):Prop:=∃ o vs,h.get? ea=!o/\o.cls=cls/\o.data=.fields vs/\vs[2]?=!.none
theorem a9H (ea)(cls):HO:=.ext (a1J ea cls)
theorem AR (ea)(cls)(dx)(c78):Prop:=∃ o vs,h.get? ea=!o/\o.cls=cls/\o.data=.fields vs/\o.dict=!dx/\vs[2]?=!.none
theorem jJ (ea)(cls)(dx):HO:=.ext (AR ea cls dx)
theorem fh (ea)(cls):Option Addr->HO
 | none=>a9H ea cls
 | some dx=>jJ ea cls dx
abbrev Cx.more (X:Cx)(pn:ζ):Cx:={ X with pn:=X.pn++pn }
theorem Cx.a3d (X)(pn:ζ)(c9C):Cx:=(X.more pn).RL λe s'=>∃ ñ σ Hc sc,Inv (X.more pn) ñ σ Hc sc/\RX X.prog X.w X.stack Hc sc (W σ) e s'
theorem Cx.NJ (X)(ea)(pn:ζ):Cx:={ X with A:=X.A.mark !.ref ea,calm:=false,pn:=X.pn++pn,xe:=λ_ _=>False }
def a0Q {X:Cx}:b1Y (X.a3d pn W) W:=λñ e3s s e s' I h=>#[ñ,σ,H,s,I.NH,h]
def Inv.a0h (I):Inv b48 [] σ H s:=
 #[#[c3s,I.ok.hd,c3r],I.os,I.bare,I.base,I.loc,I.cell,I.free,I.Nd,λf0z=>I.pin p<|by simpa using hp,I.LY,I.len]
def Inv.U1 (ok:X.Ok)(I:e9J σ H s):e0c H s:=
 a3u
def Inv.VC {X:Cx}(I:e9J σ H s):Inv (f0Y ñ) [] σ H s:=
 #[#[c3s,Ĺ,c3r],I.os,I.bare,I.base,I.loc,I.cell,I.free,I.Nd,
  λf0z=>I.pin p<|Ir _ a74,I.LY,I.len]
def Inv.S6 (ok:X.Ok)(I:Inv (f0Y ñ) [] σ H s):e0c H s:=
 a3u
def Inv.a0f (I)(Sa:H ea=none)(h0:X.s₀.heap.get? ea=none)(ho:s.heap.get? ea=!o)(d2r)(ok:∀ H2:Hp,e1Z H2 s.heap ea ho')(hp:∀ p∈X.pn++ñ,p.1≠ea):e0c (d86 ea ho') s:=by
 let Ze:X.env.locals≠ea:=λz=>by let#[m,#[o',_,_,ho',Sx,_],_]:=I.loc;ext d5c
 let neC:∀ x c,X.env.cells.lookup x=!c->c≠ea:=λx c e z=>by let#[v,o',ho',Sx]:=e5X e;ext d5c
 let up:∀ {b:Addr}{u:HO},H b=!u->upd H ea ho' b=!u:=λ{b u} e=>by rw[a9<|aj e Sa];show e
 show#[Dr,#[I.base.keep,I.base.slot,λb o' e n WC=>?_,I.base.there,λb xs e=>up<|e3u e,λb ob u e=>up<|e4U ob u e],I.loc,I.cell,tR,λp hp'=>?_,λa u e=>?_,I.len]
 ·let:b≠ea:=λz=>by rw[z,h0]at e;cases e
  rw[a9 this];show I.base.free b o' e n WC
 ·rw[a9 Ze];show I.free
 ·rw[a9<|neC x c e];show I.Nd x c e
 ·let#[e,n,r]:=e8i hp';show#[e,by rw[a9<|hp p hp'];show n,r]
 ·by_cases ha:a=ea
  ·rw[ha,ae]at e
   cases e;rw[ha];show ok _
  ·rw[a9 ha]at e;show (e53 u e).Nb Eo (λe1C=>up hb) λb xs hb=>up hb
def a6q (ho:h.get? ea=!o)(hc:o.cls=cls)(d2r)(h2:vs[2]?=!.none):e36 ea (f0Z o.dict):=by
 cases Uv:o.dict with
 | none=>show#[#[o,vs,ho,hc,hd,h2],c3m]
 | some dx=>show#[#[o,vs,ho,hc,hd,Uv,h2],c3m]
def b40 (I)(d17)(h:∀ s',Inv X ñ (σ.set i none) H s'->Q () s'):e0x (do bindName X.env n .none;unbindBehindTheSuite X.env n pos) Q E s:=by
 let#[c6C]:=id I.loc;let Ua:a3g=false:=by rw[I.ok.kind];rfl
 let hiσ:i<σ.length:=by rw[I.len];show (Ho.mp hi).1
 let XA:=I.XA;show wpAny_nameGoes_keeps hk hn Ua λh' v V4 hs=>?_;let#[oL,_,_,XS,_]:=id hn;let tracked:=λb ob e=>by
  ext d5L;rintro rfl;let Xp:=I.free;rcases hc with rfl|hc
  ·rw[Xp]at e;cases e
  ·rw[Xp]at hc;cases hc
 show h _ #[Dr,#[c4x,I.base.free,λe0D hx=>?_,I.base.QF,I.base.Qi],#[_,V4,λe7b=>?_],λy c e=>?_,wx,tracked,by simpa using I.len]
 ·show (hs.2 b<|Ib Fv).trans b4X
 ·ext d5Y;show#[sl,(hs.2 b<|Ib Fv).trans e1]
 ·ext d38;show#[o',(hs.2 b<|Ib Fv).trans e1]
 ·by_cases hj:j=i
  ·subst hj;rw[KU hiσ]at e2
   cases e2
  ·ext d2T;rcases q with⟨k,e⟩|⟨k,c,e,z⟩
   ·show .inl #[k,?_];let:y≠n:=λe=>hj<|p7 hN e1 (e▸hi);simp[this,e]
   ·show .inr b3F
 ·ext d4i
 ·ext d4s;show#[c5L]
section
variable {κ:Type}[DecidableEq κ]
theorem cC (d1P):Ç:=(ķ.find? λkv=>decide Aq).map (·.2)
theorem eO (d1P)(v):List (κ×V):=
 if AN=true then ķ.map (λkv=>if kv.1=k then we else kv) else ķ++[(k,v)]
theorem gq (d1P):List (κ×V):=ķ.filter λkv=>decide (kv.1≠k)
def jY (d0P)(e:p.1=k):cC (p::r) k=!p.2:=by simp[cC,JF,e]
def jZ (d0P)(e:¬ p.1=k):cC (p::r) k=cC r k:=by simp[cC,JF,e]
def b22 (k:κ):∀ ķ:List (κ×V),AN=(cC ķ k).isSome
 | []=>rfl
 | p::r=>by
  rw[Lg];ext d6F
  ·simp_all [jY,Bool.true_or,Option.isSome_some]
  ·simp_all [jZ,Bool.false_or,b22]
def b7A (d1P)(v):(f00 v).length<=ķ.length+1:=by
 unfold eO;split
 ·simp_all
 ·simp_all
def iw {ķ:List (κ×V)}{k:κ}(v)(h:cC ķ k=none):f00 v=ķ++[(k,v)]:=by
 unfold eO;rw[b22,h]
 simp_all
def PV.To (r:PV o u):o.isSome=u.isSome:=by
 cases o with
 | none=>cases u with
  | none=>rfl
  | some _=>ext d8w
 | some _=>cases u with
  | none=>ext d8w
  | some _=>rfl
def KV.val (c83):PV (cC ķ k) (valueAt vs k):=by
 induction r with
 | nil=>show K0
 | @cons p q ps qs h t ih=>
  ext d75;ext d6F
  ·let e':=h1.symm.trans e;let b:f01 k=!q.2:=by simp[valueAt,e']
   rw[jY e,b];show h2
  ·ext d6s;let b:f01 k=valueAt qs k:=by simp[valueAt,JF,e']
   rw[jZ e,b];show ih
def KV.any (c83):AN=vs.any λkv=>decide Aq:=by
 induction r with
 | nil=>rfl
 | cons h t ih=>simp_all
def KV.a7A (c83)(ry):
  KV (d9R ķ.map y) (d9R vs.map u):=by
 induction r with
 | nil=>show .nil
 | @cons p q ps qs h t ih=>
  show .cons ?_ ih;ext d75;ext d6F
  ·simp_all
  ·simp_all
def KV.put (c83)(ry):KV (f00 y) (stored vs k u):=by
 unfold eO stored;rw[r.any k];by_cases e:(vs.any λkv=>decide Aq)=true
 ·rw[if_pos e,if_pos e];show r.a7A k ry
 ·rw[if_neg e,if_neg e];show Paired.snoc r #[1,ry]
def KV.drop (c83):KV (gq ķ k) (without vs k):=by
 unfold gq without
 induction r with
 | nil=>show .nil
 | @cons p q ps qs h t ih=>
  ext d75;rw[IK,IK];ext d6F
  ·simp_all
  ·ext d6s;let a:decide (p.1≠k)=true:=by simp[e]
   let b:decide (q.1≠k)=true:=by simp[e']
   rw[if_pos a,if_pos b];show .cons #[yi] ih
def KV.length (r:KV ķ vs):ķ.length=vs.length:=Paired.length r
def EO (d1P):(gq ķ k).length<=ķ.length:=Im _ _
universe e
def kL (r:ue mY u):(aZ P w).is k u=true:=by
 cases k with
 | inl i=>let⟨t,e⟩:=r;subst e;show c1W P w i t
 | inr x=>let⟨t,e⟩:=r;subst e;show a6s P w x t
def a1g (e:kV a=kV b):a=b:=by
 cases a with
 | inl i=>cases b with
  | inl j=>ext d50
  | inr y=>show nomatch (e)
 | inr x=>cases b with
  | inl j=>show nomatch (e)
  | inr y=>ext d50
def b1F:∀ {ks:List vm}{us:θ},A8 (ks.map kV) us->ItemsAre qL ks us:=by
 intro r'
 induction r' with
 | nil=>
  intro _ r;rw[Jg]at r;cases r;show .nil
 | cons k ks ih'=>
  intro _ r;rw[HL]at r
  cases r with
  | cons h t=>show .cons (kL h) (ih' t)
abbrev KT (H:Hp):List dE->List Bc->Prop:=Paired λp q=>p.1=q.1/\H q.2.1=!.tup (p.1.map kV)/\ue p.2 q.2.2
def Z3 (c86)(e:e7i u):e36 a u:=e.ok ok
def tH (c86)(e:e7i Cv):ķ.length<=sizeLine/\(a==sysModules)=false/\∃ vs,KV ķ vs/\h.DictOf qL a vs:=
 Z3 ok e
def EQ (c86)(d0n):ķ.length<=sizeLine/\(a==sysModules)=false/\∃ vs,KV ķ vs/\h.DictOf qL a vs:=tH ok (.inl e)
def a1c (c86)(e:H a=!.tup (ks.map kV)):(tupleKind qL).is h ks a:=by
 let#[_,its,r,o,yi,n,h3]:=(ok a _ e)
 show#[o,its.toArray,n,xu,by simpa using b1F r]
def a5G (c86)(e:e7i (.dT ķ)):ķ.length<=sizeLine/\(a==sysModules)=false/\
  ∃ xs,KT H ķ xs/\h.DictOfH (tupleKind qL) a xs:=by
 let#[z,y,xs,r,yH,Ab,h5]:=(Z3 ok e)
 show#[z,y,xs,r,yH,Ab,λe1h=>?_,h5];let all:∀ {l:List dE}{m:List Bc},KT H l m->∀ x∈m,(tupleKind<|aZ P w).is h x.1 x.2.1:=by
  intro l m q
  induction q with
  | nil=>simp_all
  | @cons p q ps qs hq t ih=>
   intro x hx;rcases HK.mp hx with e|hx
   ·show a1c ok ġ
   ·show ih x hx
 show all r x hx
theorem Pw (H)(a)(y:V)(r:Ç):Prop:=∃ ķ k,e7i Cv/\y=kV k/\r=cC ķ k
theorem Us (H)(a)(y v:V)(H':Hp):Prop:=∃ ķ k,H a=!.dK ķ/\y=kV k/\ķ.length<sizeLine/\H'=f0I c1j
def Pw.k {k:vm}(d0n):Pw H a mY (cC ķ k):=#[ķ,k,.inl e,2]
def Us.k {k:vm}(d0n)(hl:ķ.length<sizeLine):Us H a mY v (d86 a c1j):=#[ķ,k,e,1,hl,1]
def Inv.big (I):sysModules<s.heap.objs.size:=by let h:=(I.mod.glob.keeps I.bk).lt;show Nat.lt_trans ĺ h
def tJ (c81)(g:Pw H a y !v)(ry)(h:∀ w' s',e0c H s'->e5V w'->Q w' s'):
  wpAny ē A (getItem kX u) Q E s:=by
 ext d4c;let#[w',hw,TZ]:=PV.some_of (by rw[l];show rel.val k);show wpAny_getItem_of xv dd.mapOf hw (h w' _ Fn TZ)
def a92 (c81)(g)(ry)(h:∀ s',e0c H s'->Q (.bool o.isSome) s'):
  wpAny ē A (compareOp .In u kX) Q E s:=by
 ext d4c;show wpAny_in_of xv hd dd.mapOf ?_;ext d5U
def a7V (c81)(g)(ry)(h:∀ s',e0c H s'->Q (.bool (not o.isSome)) s'):
  wpAny ē A (compareOp .NotIn u kX) Q E s:=by
 ext d4c;show wpAny_notIn_of xv hd dd.mapOf ?_;ext d5U
def PIt (I)(mu:sk (H a))(d02)(he:∃ q,h'.get? a=!q)(new:e1Z (d86 a ob) h' a ob):
  Inv X ñ σ (d86 a ob) { s with heap:=h',toks:=t' }:=
 I.write mu Ļ (λb q hb z=>(hs.2 b hb).trans z) he new
def zC (z:ķ.length<=sizeLine)(hd:(a==sysModules)=false)(rel:KV ķ vs)(dd:h'.DictOf qL a vs):
  Mc P w H' h' a Cv:=#[uC]
def b6a (c81)(g:Us H a y v H')(ry)(rv:e5V r)(h:∀ s',e7Y s'->Q () s'):
  wpAny ē A (setItem kX u r) Q E s:=by
 let#[c5T,1]:=g;let#[uC]:=EQ I.LY e;let hl:(f00 v).length<=sizeLine:=by grind [b7A]
 show wpAny_setItem_pairs (hsz:=by rw[<- rel.length];show z) xv dd λh' ZL hs=>h _ ?_;let he:∃ q,h'.get? a=!q:=let ⟨q,_,_,hq,_⟩:=ZL;#[q,hq];show PIt I (by rw[e];show K0) hs he (zC hl hd (rel.put k rv) ZL)
def a5H (I)(d0n)(ry:ue mY u)(l:cC ķ k=!v)(hm:more=[]\/∃ x,more=[x])(h:∀ w' s',e0c (d86 a (.dK (gq ķ k))) s'->e5V w'->Q w' s'):e2w (call (.builtin "dict.pop") (.ref a::u::more)) Q E s:=by
 let#[uC]:=EQ I.LY e;let#[w',hw,TZ]:=PV.some_of (by rw[<- l];show rel.val k);let hp:(keyPart u).isSome=true:=by
  cases k with
  | inl i=>ext d7P
  | inr x=>ext d7P
 let ha:argsOk "dict.pop" #[.ref a::u::more,[]]:=by
  rcases hm with q|⟨x,q⟩
  ·subst q;show PySem.F.args_dict_pop_2 _ _
  ·subst q;show PySem.F.args_dict_pop_3 _ _ _
 show call_meetsIn PySem.F.slot_dict_pop dd.typeIs PySem.F.entry_dict_pop ha (meets_dict_pop_there _ a xv more hm hp)
  #[vs,w',dd,by rw[<- rel.length];show z,hw,λh' ZL hs=>h w' _ ?_ TZ]
 let he:∃ q,h'.get? a=!q:=let ⟨q,_,_,hq,_⟩:=ZL;#[q,hq];show PIt I (by rw[e];show K0) hs he (zC (HU (EO ķ k) z) hd (rel.drop k) ZL)
theorem mf (i:Expr):Prop:=∀ ov iv,subscripted i false ov iv=operate [ov,iv] (getItem ov iv)
def b4m (d05)(hl:typeLookup TW "__getitem__"=pure !.builtin id)(hs:mf slice)(h:e0f (eval value env) (λo s₁=>e0f (eval slice env) (λi s₂=>s₂.TypeIs o T/\wpAny Ē A (getItem o i) Q E s₂) E s₁) E s):
  wpAny Ē A (eval (.Subscript value slice pos) env) Q E s:=by
 show Subscript_ (Jd h (λo f0B=>Jd h₁ (λi s₂ h₂=>?_) λf0A=>x) λf0A=>x);let#[hT,h₂]:=h₂;ext d3U;show Hk (Ls hT hl ?_);let fin:e0f (e6x o i) (d9w Ē A o Q E) E s₂:=by rw[hs o i];show wpAny_operating (Jd h₂ (λr s₃ h₃=>Hk<|wpAny_letTemporaryGo (Hr h₃)) λf0A=>x)
 first
  | show Hr (Hk fin)
  | show Hk _
  | show Hk fin
def a6i (I)(g):s.TypeIs kX "dict":=by let#[ķ,k,e,_,_]:=g;let#[_,_,vs,_,dd]:=tH I.LY e;show dd.typeIs
inductive a49 (Q:VK)(x:V)(y:V)(H2:Hp):Prop
 |mk:∀ a v,x=.ref a->Pw H2 a y !v->Q v H2->a49 Q x y H2
theorem YZ (td ty:TE):TE:=λe0i=>td σ H λe3C=>ty σ H1 λy H2=>a49 Q x y H2
inductive b1R (Q:VK)(y:V)(x:V)(H2:Hp):Prop
 |mk:∀ a o,x=.ref a->Pw H2 a y o->Q (.bl (not o.isSome)) H2->b1R Q y x H2
theorem FA (ty td:TE):TE:=λe0i=>ty σ H λy H1=>td σ H1 λx H2=>b1R Q y x H2
inductive c0E (D:Ends)(σ:St)(v:V)(x:V)(y:V)(H3:Hp):Prop
 |mk:∀ a H4,x=.ref a->Us H3 a y v H4->D.nx σ H4->c0E D σ v x y H3
theorem Z0 (td ty tv:TE):TS:=λe6n=>tv σ H λv H1=>td σ H1 λx H2=>ty σ H2 λy H3=>c0E D σ v x y H3
def c1J (c82)(hs:mf i):PE X b9p (YZ td ty):=by ext d2y;show b4m PySem.F.slot_dict_getitem.lookup hs (thE r6 λu f0H rx q1=>Mn (d9H hi) λiv s2 J'=>?_);let#[y,Ej,ry,a,v,ex,g,q2]:=J';ext d2F;show#[a6i I2 g,tJ hu I2 g ry λw' f2t TZ=>#[v,H2,I3,TZ,q2]]
def BG (hu)(hi:PE X i ty)(ho:f0O td):a1v X .NotIn i o (FA ty td):=by ext d2y;show thE b9f λiv s1 y H1 I1 ry q1=>Mn b6y λu s2 J'=>?_;let#[x,Ej,rx,a,ov,ex,g,q2]:=J';ext d2F;show a7V hu I2 g ry λf2t=>#[.bl<|not ov.isSome,H2,I3,1,q2]
def c2S (c82)(hv)(hs:f0P (!.Subscript o i pos') pos.line X.env=pure false):
  PS X (.Assign [.Subscript o i pos'] value pos) (Z0 td ty tv):=by
 ext d2I;show wpAny_Assign_Subscript (thE a7b λr s1 v H1 I1 rv q1=>thE b6y λu s2 x H2 I2 rx q2=>Mn (d9C hi σ) λiv s3 J'=>?_) hs;let#[y,H3,I3,ry,a,H4,ex,g,q3]:=J';ext d2F;show b6a hu I3 g ry rv λs4 I4=>#[σ,H4,I4,q3]
def Led (c78)(hb:sysModules<h.objs.size):f0J H (d9o h.push) h.objs.size mS:=
 #[Iv _,Ly.mpr<|Ne.symm (Ib hb),[],.nil,Heap.DictOf.new h]
theorem a0n:TE:=λ_ H Q=>∀ p,H p=none->Q A5 (d86 p mS)
def QP:PE X c1k a0n:=λe0V h=>
 wpAny_Dict_empty #[.ref s.heap.objs.size,_,I.laid dR nY<|Led s.heap I.big,1,h _<|I.LY.fresh nY]
theorem a0U:List (TE×TE)->St->Hp->(List (V×V)->Ù)->Prop
 | [],_,H,Q=>Q [] H
 | (tk,tv)::r,σ,H,Q=>tk σ H λe3C=>tv σ H1 λy H2=>a0U r σ H2 λps H3=>Q ((x,y)::ps) H3
abbrev a69:List (V×V)->List (Value×Value)->Prop:=Paired λp q=>ue p.1 q.1/\ue p.2 q.2
theorem xr (X)(pos:Pos)(keys:List (Option Expr))(values:Ì)(Y4):Prop:=
 ∀ (ñ:ζ)(s:Ê)(σ:St)(H:Hp)(Q:List (V×V)->Ù),e0c H s->a0U Y4 σ H Q->
  wpAny ē X.A (evalPairs (pairTrees keys values X.env pos)) (λvs s'=>∃ ps H',e7Y s'/\a69 ps vs/\Q ps H') X.xe s
def b82:xr X pos [] [] []:=λe0V h=>pairTrees_nil_walk c15
def DA (hk:PE X k tk)(hv:PE X v tv)(hr:xr X pos ks vs Y4):
  xr X pos (some k::ks) (v::vs) ((tk,tv)::Y4):=λe0V h=>
 pairTrees_cons_walk (thE (d9Y hk _) λu f0H rx q1=>thE (d9H hv) λw2 s2 y H2 I2 ry q2=>
  Mn (d9C hr σ) λws s3 J'=>(by let#[ps,H3,I3,rel,q3]:=J';show#[(x,y)::ps,H3,I3,.cons #[rx,ry] rel,q3]))
theorem bn (ķ more:ξ):ξ:=more.foldl (λacc kv=>eO acc kv.1 kv.2) ķ
def KV.merge:∀ {more:ξ}{rs:List (vm×Value)}{ķ:ξ}{vs:List (vm×Value)},KV more rs->KV ķ vs->KV (bn ķ more) (merged vs rs):=by
 intro more rs ķ vs r;unfold KV at r
 induction r generalizing ķ vs with
 | nil=>intro q;show q
 | @cons p q ps qs h t ih=>
  intro r0;let e:KV (e7s p.2) (stored vs q.1 q.2):=by
   let:=r0.put p.1 h.2
   simp_all
  show ih e
def cr:∀ (more ķ:ξ),(bn ķ more).length<=ķ.length+more.length:=by
 intro r'
 induction r' with
 | nil=>
  intro ķ;change ķ.length<=ķ.length+0;lia
 | cons p r ih'=>
  intro ķ;let h1:=ih'<|e7s p.2;let h2:=b7A ķ p.1 p.2;change (bn (e7s p.2) r).length<=_
  grind
def b9V:∀ {ķ:ξ}{ws:List (Value×Value)},a69 (ķ.map λkv=>(kV kv.1,kv.2)) ws->∃ rs,Carries qL ws rs/\KV ķ rs:=by
 intro ķ
 induction ķ with
 | nil=>intro ws r;rw[Jg]at r;cases r;show#[[],K0,.nil]
 | cons p ķ ih=>
  intro ws r;rw[HL]at r
  cases r with
  | @cons a b as bs h t=>
   let#[rs,c,q]:=ih t;let#[b1,b2]:=b;show#[(p.1,b2)::rs,#[kL h.1,1,c],.cons #[1,h.2] q]
theorem a3r (Y4):TE:=λe0i=>∀ p,H p=none->a0U Y4 σ (d86 p mS) λps H2=>H2 p=!.dK []/\∃ ķ:ξ,ps=ķ.map (λkv=>(kV kv.1,kv.2))/\ķ.length<=15/\Q A5 (e4Z p Ŭ)
def FY (h:xr X pos keys values Y4)(Rp:keys.all (·.isSome)=true)(hl:keys.length=values.length)(h0:keys≠[])(h15:keys.length<=15):PE X (.Dict keys values pos) (a3r Y4):=by
 intro ñ s σ H Q I q;show wpAny_Dict_walk (knd:=f02 X.w) Rp hl h0 h15 (Mn (h ñ _ σ _ _ (I.laid dR nY<|Led s.heap I.big)<|q _ (I.LY.fresh<|Hz s.heap.objs.size)) λws s2 J=>?_);let#[ps,Ej,rel,e,ķ,ep,lk,q2]:=J;subst ep;let#[rs,c,rk]:=b9V rel;let#[z,hd,vs0,r0,dd]:=EQ I2.LY e
 cases r0;show#[rs,c,dd,λh' ZL hs=>#[qB,?_,1,q2]];let hz:(bn [] ķ).length<=sizeLine:=by let h1:=cr ķ [];ext d7x;lia
 let he:∃ q,h'.get? s.heap.objs.size=!q:=let ⟨q,_,_,hq,_⟩:=ZL;#[q,hq];show PIt I2 (by rw[e];show K0) hs he (zC hz hd (rk.merge .nil) ZL)
structure a6u (X:Cx)(o:Expr)(m:Str)(apos:Pos)(e:Expr)(MV:Pos):Prop where
 base:attributeBase o m X.env (d87 o)=eval o X.env
 MW:((backTo MV b9q).all C3&&(backToKw MV Ĭ).all Bt
  && decide (([e]:Ì).length+([]:List Keyword).length+(if ([]:List Keyword).isEmpty then 0 else 1)<30))=true
 line:(apos.endLine==MV.line)=true
 trees:backTo MV b9q=[Ŋ]
theorem IsD (H)(a):Prop:=(∃ ķ,e7i Cv)\/∃ ķ,e7i (.dT ķ)
def a1j (I)(d:IsD H a):
  s.TypeIs kX "dict"/\(∀ b,Value.ref a=.ref b->∃ ob,s.heap.get? b=!ob/\ob.dict=none)/\(a==sysModules)=false:=by
 rcases d with⟨ķ,e⟩|⟨ķ,e⟩
 ·let#[_,hd,vs,_,dd]:=tH I.LY e;show#[c6g]
  ext d46
 ·let#[_,hd,xs,_,dd]:=a5G I.LY e;show#[c6g]
  ext d46
inductive b3m (ty:TE)(σ:St)(c8e):Prop
 |mk:∀ a,x=.ref a->IsD H1 a->(ty σ H1 λy H2=>∃ ķ k v,H2 a=!.dK ķ/\y=kV k/\cC ķ k=!v/\Q v (upd H2 a (.dK (gq ķ k))))->b3m ty σ Q x H1
theorem D4 (td ty:TE):TE:=λe0i=>td σ H λe3C=>b3m ty σ Q x H1
def wC (ho:f0O td)(he:e06 ty)(m:a6u X o "pop" apos e MV):PE X (.Call (.Attribute o "pop" apos) [e] [] MV) (D4 td ty):=by ext d2y;show wpAny_Call_method m.base m.MW m.line PySem.F.plainAttrs_dict PySem.F.slot_dict_pop PySem.F.type_dict_pop (Mn r6 λu e6l=>?_);let#[og,ex,d,q1]:=J';ext d2F;let#[t1,t2,_]:=a1j I1 d;show#[t1,t2,?_];rw[m.trees];show La rfl<|Calls.evalArgs_plain (Calls.spliced_cons (Mn (he ñ s1 σ H1 _ I1 q1) λiv s2 J=>Calls.spliced_nil ?_));let#[y,Ej,ry,ķ,k,v,ea,ey,l,q2]:=J;subst ey;show a5H I2 ea ry l Ļ λw' f2t TZ=>#[v,_,I3,TZ,q2]
theorem Qk (c78)(d)(es:Ò)(ep:Nat):Prop:=∃ o,h.get? d=!o/\o.ExactDict/\o.data=.dict es ep
def Qk.to (x:e7t ep)(k:∀ o,h.get? d=!o->h'.get? d=!o):Qk h' d es ep:=let ⟨o,a,r⟩:=x;#[o,k o a,r]
section
variable {prog:É}{w:World}{A:Ë}{d:Addr}{es:Ò}{i ep:Nat}
def Qk.ty {s:Ê}(c8b):s.TypeIs kR "dict":=let ⟨o,a,c,_⟩:=x;#[o,a,c.1]
def b5g (hd:(d==sysModules)=false)(c8b)(hQ:Q į { s with heap:=s.heap.push { cls:=.type "dict_keyiterator",data:=.fields [.ref d,e7u 0,e7v 0,.int ep 0].toArray } }):
  wpAny Ē A (pyIter kR) Q E s:=by
 let T:=x.ty;let#[o,a,_,b]:=x;show wpAny_pyIter_slot T F.slot_dict_iter (IF F.slot_dict_iter T F.entry_dict_iter ?_<|F.args_dict_iter_1 _);unfold Builtin.«dict.__iter__» Builtin.Dict.dictSlotNone Builtin.Dict.showsAll;show Hk<|Hk (wpAny_notOrdered_dict T FM);ext d6m;rw[if_neg<|by simp_all];show Hk<|Hr (Hk<|Kv a b (Hk<|Lv a b (Hk<|Jc (Hr #[_,1,"dict_keyiterator",_,b09,F.slot_dict_keyiterator_next.lookup,?_]))));show hQ
def c1Q (c9T)(hi:i<es.size)(hQ:∀ h',h'.IsKeyIter it d (i+1) es.size ep->e2U h'->Q (some es[i].key) { s with heap:=h' }):e0X s:=by
 ext d3X;simp only[Il,IE hi];show Hk<|Hk (Jz T<|Hr (Hk (wpAny_isOneOf_keyiter T ?_)));change wpAny _ _ (setField _ 1 _ >>= _) _ _ s;show Hk (IM u1 u3 Ĕ ?_);let J:(s.heap.update it<|Obj.mapFields a5Z).IsKeyIter it d (i+1) es.size ep:=#[_,Io _ u1<|IY (Iy u3 _),(K5 ..).trans u2,by rw[Iy u3];simp[rawInt]]
 show Hk (IL<|Hk (wpAny_isOneOf_keyiter J.typeIs ?_));show Hr (Hr #[_,1,Hr<|hQ _ J (HY ..)])
def a1w (hh)(c9T)(hi:es.size<=i)(hQ):e0X s:=by ext d3X;simp only[Il,JV hi];show Hk<|Hk (Jz T (Hr ?_));change wpAny _ _ (setField _ 0 .none >>= _) _ _ s;show Hk (IM u1 u3 (by simp) ?_);show dh (hh.at λf2r q=>(HY ..).extBut ea o ne q) fun h' e hk ⟨o,ho,hc⟩=>Hk Du;show Hr Ī
def a2t (c9t)(I:Addr)(U8:d≠I):e4j A I [I,d] [I] es.size xX (λi h=>e5M ep/\Qk h d es ep) where
 sub:=λe1C=>by simp at hb;simp[hb]
 frame:=λe0j st hk=>#[st.1.at λo e=>f03 e,st.2.to λo e=>hk d Ĕ o e]
 item:=λi s Q E hi st hQ=>c1Q st.1 st.2 hi λh' J hs=>f1Z (by rw[IE hi];rfl) #[J,st.2.to λo e=>f0d e] λe3L=>f0e e
 done:=λs Q E st hQ=>a1w (.inl hh) st.1 st.2 nY λh' he=>hQ h' s.toks λe3L=>he b o Op e
 self:=λe4P=>wpAny_pyIter_keyiter st.1 hQ
def b55 (I:Addr)(U8:d≠I)(el)(V5:I∉el):e4j A I (I::d::el) [I] es.size xX (λi h=>(e5M ep/\Qk h d es ep)/\(A.handled=none\/∃ ea∈el,A.handled=!.ref ea/\Ox h ea)) where
 sub:=λe1C=>by simp at hb;simp[hb]
 frame:=λe0j st hk=>#[#[st.1.1.at λo e=>f03 e,st.1.2.to λo e=>hk d Ĕ o e],st.2.imp id λJ'=>(by let#[fX,b]:=J';show#[fX,b.at λo e=>e3z e])]
 item:=λi s Q E hi st hQ=>c1Q st.1.1 st.1.2 hi λh' J hs=>f1Z ġ #[#[J,st.1.2.to λo e=>f0d e],st.2.imp id λJ'=>(by let#[fX,b]:=J';show#[fX,b.at λo e=>hs.extBut ea o (λz=>V5<|z▸m) e])] λe3L=>f0e e
 done:=λs Q E st hQ=>a1w (st.2.imp id λJ'=>(by let#[fX,b]:=J';show#[ea,a,λz=>V5<|z▸m,b])) st.1.1 st.1.2 (Hz _) λh' he=>hQ h' s.toks λe3L=>he b o Op e
 self:=λe4P=>wpAny_pyIter_keyiter st.1.1 hQ
def A9 (lo):W.KdlSrc prog w "dict" d d es.size xX (λh=>e7t ep) where
 type:=λ_ x=>x.ty
 there:=λ_ J'=>by let#[_,a,_]:=J';show#[HG a,HG a]
 keep:=λf0A hk=>x.to λo e=>hk d Ļ o e
 notList:=by decide
 notTuple:=by decide
 hint:=λe0a x hq=>W.kdl_hint_dict x.ty hq
 iter:=λ_ s hh x=>#[_,_,λ_ _ hq=>b5g lo x hq,a2t hh _ (let #[_,a,_]:=x;Ib<|HG a),⟨⟨_,HD _ rfl,rfl,rfl⟩,x.to λ_ e=>Hn _ e⟩]
universe e
def rj (lo):MeetsIn prog w (Builtin.«dict.__len__» #[QW,[]]) (λ_ R s=>∃ es ep,Qk s.heap d es ep/\R (.ok (.ret (e7v s.toks))) { s with toks:=s.toks+1 }):=
 .of_wp λA R s J'=>by
  let#[oQ,#[o,a,_,b],h]:=J';change wpAny _ _ (dictSize d >>= _) _ _ s;show Hk<|Hk (Kv a b FM);show Hk (wpAny_pendingCount_other lo (wpAny_ret_mkInt ?_))
  simp_all
def b6z (lo)(c8b)(fit:(es.size:Int)<2 ^ 63)(h:Q (e7v (s.toks+1)) { s with toks:=s.toks+1+1 }):e0f (call b4h QW) Q E s:=by show Calls.call_function_entry kind_len plain_len entry_len (args_len1 _) ?_;ext d6m;show Hk<|Ix x.ty F.slot_dict_len (call_meetsIn F.slot_dict_len x.ty F.entry_dict_len (F.args_dict_len_1 _) (rj lo) #[oQ,x,?_]);show Hk<|IL (Hr<|Hk c2d);change wpAny _ _ (if _ ≥ 2 ^ 63 then _ else _) _ _ _;rw[if_neg<|by omega];show Hk (wpAny_mkInt<|Hr #[_,1,h])
section
variable {X:Cx}{ñ:ζ}{σ:St}{H:Hp}{s:Ê}{d:Addr}{o:Obj}
theorem NF (X)(d):Prop:=∀ o u,X.H₀ d≠!.frz o u
def Inv.nf (I)(d1t):NF X d:=λo u z=>by let:=I.base.Qi d o u z;rw[hd]at this;cases this
def nQ {o:HO}{H:Hp}(c9I)(d0i):f0J xb h a o:=
 x.Nb (λe0j q=>q) (λb q=>by rw[a9 λz=>by simp_all];show q) λb xs q=>by rw[a9 λz=>by simp_all];show q
def Inv.VF {u v:HO}(I)(d0i)(h3:∀ ps,u≠.tbl ps)(h4:∀ o' u',X.H₀ d=!.frz o' u'->False)(new:e1Z xb s.heap d v):e0c xb s where
 ok:=I.ok
 os:=I.os
 bare:=I.bare
 base:=#[I.base.keep,I.base.slot,λb ob q n hx=>by rw[a9 (λz=>by let:=e3O ob q n hx;rw[z,hd]at this;cases this)];show I.base.free b ob q n hx,I.base.there,
  λb xs q=>by let:=e3u q;rw[a9 (λz=>by rw[z,hd]at this;show h2 _<|Option.some.inj this)];show this,
  λb ob w q=>(a9 (λz:b=d=>h4 ob w (show X.H₀ d=some _ by rw[<- z];show q))).trans<|e4U ob w q]
 loc:=I.loc
 cell:=I.cell
 free:=by rw[a9 (λz=>by let:=I.free;rw[z,hd]at this;cases this)];show I.free
 Nd:=λx c e=>by rw[a9 (λz=>by let:=e6p e;rw[z,hd]at this;cases this)];show I.Nd x c e
 pin:=λf0z=>by let#[AO]:=e8i hp;show#[a1,by rw[a9 (λz=>by rw[z,hd]at a2;cases a2)];show a2,a3]
 LY:=λa ob e=>by
  by_cases ha:a=d
  ·subst ha;rw[ae]at e;cases e;show new
  ·rw[a9 ha]at e;show nQ (e53 ob e) hd h1 h2
 len:=I.len
def Inv.freeze (I)(d1t)(ho:s.heap.get? d=!o):e0c b7T s:=
 I.VF hd Ĵ Ĵ Ĵ (λo u z=>I.nf hd o u z) #[ho,nQ (e84 hd) hd Ĵ λ_ z=>nomatch z]
def Inv.a0i (d18)(nf:NF X d):e0c (d86 d Cv) s:=
 I.VF hd Ĵ Ĵ Ĵ (λo u z=>nf o u z) (nQ (e84 hd).2 hd Ĵ λ_ z=>nomatch z)
universe e
theorem Itk (o)(d):It:=
 ⟨λi H=>∃ ķ kv,H d=!.frz o Cv/\ķ[i]?=!kv,λe9s=>H'=H/\∀ ķ,H d=!.frz o Cv->∃ kv,ķ[i]?=!kv/\x=kV kv.1,λi H=>∃ ķ,H d=!.frz o Cv/\ķ.length<=i⟩
theorem Itv (o)(d):It:=
 ⟨λi H=>∃ ķ kv,H d=!.frz o Cv/\ķ[i]?=!kv,λe9s=>H'=H/\∀ ķ,H d=!.frz o Cv->∃ kv,ķ[i]?=!kv/\x=kv.2,λi H=>∃ ķ,H d=!.frz o Cv/\ķ.length<=i⟩
def a1h (h:(aZ P w).is k u=true):ue mY u:=by
 rcases bq h with⟨i,t,rfl,rfl⟩|⟨x,t,rfl,rfl⟩
 ·show#[t,1]
 ·show#[t,1]
section
variable {d:Addr}{o:Obj}{es:Ò}{ep:Nat}
def Inv.frd (d18)(ed):∃ vs,KV ķ vs/\s.heap.DictAt (f02 X.w) d vs ep/\vs.length=es.size:=by let#[ho,z,lo,vs,r,ob,UY,ZG,e1,c1,c2,c3,c4,c5]:=e84 hd;rw[ho]at e1;cases e1;rw[ed]at c2;cases c2;show#[vs,r,#[o,es,ho,c1,ed,c3,c4,c5],?_];let:=c4.length;rw[<- this];simp
def a9K {K:Type}[DecidableEq K](c8G)(hit:s.heap.IsKeyIter it d i ķ.length ep)(c9k):e0X s:=by
 ext d4a;let#[c5V]:=id hm;show Hk (Jl (e2I JB
  (d9c JB b6u b53)))
 ext d6m;ext d3U;ext d3U
 first|show Hk b9W|show Hk b0G
 ext d4o;let hsz:es.size=ķ.length:=by rw[<- hp.length];simp
 ext d3m;let hge:es.size<=i:=by rw[hsz];simpa using hx
 ext d7Q
 first|show Hk b9W|show Hk b0G
 ext d3f
def c1o (c9f):e1D (Itk o d) [it] it (λi h=>h.IsKeyIter it d i es.size ep) where
 mem:=by simp
 obj:=λe33=>by
  ext d23
  ext d2N
 keep:=λe1X=>st.at λo e=>e3P e
 item:=by
  ext d2K;let#[ķ,kv,hd,hx]:=hg;let#[cf]:=e85 ed;ext d66;let#[q,hq,hr]:=Paired.at r hx;rw[<- hl]at st;show wpAny_pyNext_dict_item st da hq λkey h' Wh Uu sb=>?_;let I1:e0c H { s with heap:=h' }:=e0S f5;let#[c6M]:=id Uu;rw[hl]at Uu;show#[key,1,e8r ĺ #[kV kv.1,H,I1,?_,c1l,Cj]]
  ·rw[hr.1];show a1h Wh
  ·rw[hd]at Sx;cases Sx;show#[kv,hx,1]
 done:=by intro X hP hw hK hc i ñ s σ H E I hf st hg;subst hP hw hK;let#[ķ,hd,hx]:=hg;let#[cf]:=e85 ed;let#[tu]:=hf it Ĕ;rw[<- hl]at st;let:=KV.length r;show a9K (e9C f3) st da (II<|by omega) λh' eb=>Zl
 self:=λe4Q=>wpAny_pyIter_keyiter st h
def b37 {K:Type}[DecidableEq K](c8G)(hit:s.heap.IsValIter it d i ķ.length ep)(c9k):e0X s:=by
 ext d4a;let#[c5V]:=id hm;show Hk (Jl (e2I F.slot_dict_valueiterator_next
  (d9c F.slot_dict_valueiterator_next F.entry_dict_valueiterator_next F.args_dict_valueiterator_next_1)))
 ext d6m;ext d3U;ext d3U
 first|show Hk a9r|show Hk b0H
 ext d4o;let hsz:es.size=ķ.length:=by rw[<- hp.length];simp
 ext d3m;let hge:es.size<=i:=by rw[hsz];simpa using hx
 ext d7Q
 first|show Hk a9r|show Hk b0H
 ext d3f
def c1t (c9f):e1D (Itv o d) [it] it (λi h=>h.IsValIter it d i es.size ep) where
 mem:=by simp
 obj:=λe33=>by
  ext d23
  ext d2N
 keep:=λe1X=>st.at λo e=>e3P e
 item:=by intro X hP hw hK hc i ñ s σ H E I hf st hg;subst hP hw hK;let#[ķ,kv,hd,hx]:=hg;let#[cf]:=e85 ed;let#[tu]:=hf it Ĕ;let#[q,hq,hr]:=Paired.at r hx;rw[<- hl]at st;show wpAny_pyNext_values_item st da hq λh' Uu sb=>?_;let I1:e0c H { s with heap:=h' }:=e0S f5;let#[c6M]:=id Uu;rw[hl]at Uu;show#[q.2,1,e8r ĺ #[kv.2,H,I1,hr.2,c1l,Cj]];rw[hd]at Sx;cases Sx;show#[kv,hx,1]
 done:=by intro X hP hw hK hc i ñ s σ H E I hf st hg;subst hP hw hK;let#[ķ,hd,hx]:=hg;let#[cf]:=e85 ed;let#[tu]:=hf it Ĕ;rw[<- hl]at st;let:=KV.length r;show b37 (e9C f3) st da (II<|by omega) λh' eb=>Zl
 self:=λe4Q=>wpAny_pyIter_valiter st h
universe e
def b7K:∀ {us:θ},xs.length=us.length->(∀ (j:Nat)(x:V)(u:Value),xs[j]?=!x->us[j]?=!u->e2Q u)->e0I us:=by
 induction xs with
 | nil=>intro us hl h;cases us with
  | nil=>show .nil
  | cons u us=>cases hl
 | cons x xs ih=>intro us hl h;cases us with
  | nil=>cases hl
  | cons u us=>show .cons (h 0 x u rfl rfl) (ih Ķ λj y v hy hv=>h (j+1) y v (hy)<|hv)
theorem sgn (x)(i):Str:=⟨[x.cps.getD i 0].toArray⟩
theorem Its (x):It:=⟨λi _=>i<x.cps.size,λi H v H'=>H'=H/\v=.str (sgn x i),λi _=>i=x.cps.size⟩
def a2I {tg:Expr}{P:É}{w:World}{K:Φ}(it)(x)(t:Tok)(ty:String)(Yn:["enumerate","zip","dict_itemiterator","dict_reverseitemiterator","odict_iterator","itertools.zip_longest","itertools.pairwise"].contains ty=false)
  (W:∀ A:Ë,A.handled=none->Walks P w A it [it] [it] x.cps.size (SignAt x) b3z)
  (a4D:∀ (A:Ë)(i:Nat)(s:Ê)(Q:ρ)(E:ρ),s.heap.IsStrIter it ty x t i->Q ĸ s->e82 A Ec Q E s) {er:ψ} (XT):e1D (Its x) [it] it b3z where
 mem:=by simp
 obj:=λe33=>by
  ext d23
  let#[CY]:=st
  simp_all
 keep:=λe1X=>by let#[o,e,r]:=st;show#[o,e3P e,r]
 item:=by
  intro X hP hw hK hc i ñ s σ H E I hf st hg;ext d66;show (W X.A<|I.Qn hc.1 (hc.2.trans XT)).item i s _ _ hg st λv e5F hv Uu kk=>?_;let#[c,u,hcx,1]:=hv;let I1:e0c H { s with heap:=h',toks:=tk }:=e54 f5;let#[c6M]:=id Uu;show#[_,1,e8r Yn #[.str _,H,I1,#[u,?_],#[2],Cj]];unfold sgn
  simp_all
 done:=by intro X hP hw hK hc i ñ s σ H E I hf st hg;let#[tu]:=hf it Ĕ;let hi:=hg;subst hi;show (W X.A<|I.Qn hc.1 (hc.2.trans XT)).done s _ _ st λe5F kk=>#[1,e54 f5]
 self:=λe77=>a4D A i s Q E st h
section
open PyProof.V
variable {prog:É}{w:World}{A:Ë}{E:ρ}{s:Ê}{T:String}{r d:Addr}{OK:Heap->Prop}
structure LdS (prog:É)(w:World)(d1M)(r d:Addr)(OK:Heap->Prop):Prop where
 type:∀ s:Ê,OK s.heap->s.TypeIs su T
 there:∀ h:Heap,OK h->r<h.objs.size/\d<h.objs.size
 keep:∀ h h':Heap,OK h->(∀ b,b=r \/ b=d->∀ o,h.get? b=!o->h'.get? b=!o)->OK h'
 notList:(d84 T "list")=false
 notTuple:(d84 T "tuple")=false
 hint:∀ (A:Ë)(E:ρ)(s:Ê)(Q:Bool->Shared->Prop),OK s.heap->Q false s->wpAny Ē A (Builtin.List.listLengthHint su) Q E s
def b5r (c8A)(res:Value)(c₀:Nat)(hS:s.heap.get? S=!{ cls:=.type "list",data:=.seq [].toArray c₀ })(hR:∀ h' tk PR c',a8A->h'.get? S=!{ cls:=.type "list",dict:=none,data:=f04 c',slots:=[].toArray }->e7w PR n->R c2f { s with heap:=h',toks:=tk })(d1u):
  wpAny Ē A.in1 (Builtin.List.listExtendWith (d9G S) su res)
   v7 Lm s:=by
 let hSI:=Ib<|HG hS;let#[oI,St,fp,hSf,hit,W,st]:=hi s LY hSI;let key:∀ (h:Heap)(c₁ tk:Nat),St 0 h->(∀ b o,b≠S->s.heap.get? b=!o->h.get? b=!o)->
   h.get? S=!{ cls:=.type "list",data:=.seq [].toArray c₁ }->e5Y A (d9p S s.heap.objs.size) R { s with heap:=h,toks:=tk }:=by
  intro h c₁ tk U5 hk hS₁;show codeAny_extend_loopS W.toS hn S hSf res n 0 _ [].toArray c₁ rfl (Iv _) U5 hS₁ (ItemsOf.nil _) λs' PR c' hm XX OZ=>?_;rw[Moved.eq_with hm];show hR s'.heap s'.toks PR c' (d9D hm.heap (λa1u=>?_) hk) XX OZ;rcases HK.mp a1u with e'|a1u
  ·show hb e'
  ·show absurd sv (by rw[HH.mp a1u];show Jm _)
 show Hk (KQ (K.type s LY) ?_);let h1:Builtin.List.listSameRef (d9G S) su=false:=by simp[Builtin.List.listSameRef,hSr]
 simp only[h1,K.notList,K.notTuple];show Hk (hit _ _ ?_);let hS₁:=Hn oI hS;show Hk<|IL (K.hint _ _ _ _ (e9K LY λb _ o e=>Hn _ e) ?_);show Kq oN λ_=>Hr #[KM KD _,key _ c₀ _ st (λe76 e=>Hn _ e) hS₁];show Hk (Kw ?_);ext d3U;show Hk (Lr hS₁ rfl ?_);let hS₂:=Io c2g hS₁ rfl;show Lr hS₂ rfl ?_;let hS₃:=Io b8s hS₂ rfl;show Hr #[KM KD _,key _ _ _ ?_ (λe3L=>?_) hS₃]
 ·show W.frame 0 _ _ st λe9y=>?_;let hbS:b≠S:=λh=>hSf<|h▸hb;show (Ie _ _<|Ne.symm hbS).trans ((Ie _ _<|Ne.symm hbS).trans e)
 ·show (Ie _ _<|Ne.symm hb).trans ((Ie _ _<|Ne.symm hb).trans<|Hn _ e)
def Txt (c8A)(hS:s.heap.get? S=!{ cls:=.type "list",data:=.seq [].toArray })(hR:∀ h' tk PR c',a8A->h'.get? S=!{ cls:=.type "list",dict:=none,data:=f04 c',slots:=[].toArray }->e7w PR n->R BM { s with heap:=h',toks:=tk })(d1u):
  wpAny Ē A.in1 (Builtin.«list.__init__» #[[.ref S,.ref r],[]])
   v7 Lm s:=by
 ext d3U;show Hk<|JY hS rfl (Hr ?_);show Hk (Lr hS rfl ?_);let hS₂:=Io (Obj.mapSeq λ_=>[].toArray) hS rfl;let oth:∀ b o,b≠S->s.heap.get? b=!o->(s.heap.update S<|Obj.mapSeq (λ_=>([].toArray:Ó))).get? b=!o:=
  λe3L=>(Ie _ _<|Ne.symm hb).trans e
 show Hk c2d;show b5r K (e9K LY λe9y=>oth b o (by rcases hb with rfl|rfl;show hSr.symm;show hSd.symm) e) S hi hSr hSd .none _ hS₂ (λe5F PR c' hk XX OZ=>?_) hn;show hR h' tk PR c' (d9D hk hb oth) XX OZ
def a15 (hL:L=s.heap.objs.size)(K:LdS prog w T r d OK)(hi:∀ s:Ê,OK s.heap->L≠s.heap.objs.size->∃ (oI:Obj)(St:Nat->Heap->Prop)(fp:υ),L∉fp/\(∀ (E:ρ)(Q:ρ),Q į { s with heap:=s.heap.push oI }->wpAny Ē A.in1.in1 (pyIter su) Q E s)/\Walks prog w A.in1.in1 s.heap.objs.size fp b2O n P St/\St 0 (s.heap.push oI))(LY:OK s.heap)(d1u)(hQ:∀ h' tk PR c',vZ->h'.get? s.heap.objs.size=!{ cls:=.type "list",dict:=none,data:=f04 c',slots:=[].toArray }->e7w PR n->Q į { s with heap:=h',toks:=tk }):
  wpAny Ē A (call Ł [.ref r]) Q E s:=by
 show callType_codes (Q₁:=λobj s₁=>obj=.ref s.heap.objs.size/\s₁={ s with heap:=s.heap.push { cls:=.type "list",data:=.seq [].toArray } }) PySem.F.called_list (PySem.F.typeCall_list_1 _) PySem.F.entry_list_init
  (code_list_new _ #[2]) λobj f0B=>?_
 let#[2]:=h₁;let hS:(s.heap.push { cls:=.type "list",data:=.seq [].toArray }).get? s.heap.objs.size=!{ cls:=.type "list",data:=.seq [].toArray }:=HD _ rfl;let NU:=K.there _ LY;show#[#[_,hS,1],PySem.F.args_list_init_2 _ _,Txt K (e9K LY λb _ o e=>Hn _ e) _ (hL▸hi) (J9 NU.1) (J9 NU.2) hS (λe5F PR c' hk XX OZ=>?_) hn];show#[1,hQ h' tk PR c' (λe0D=>e7q xc<|Hn _ e) XX OZ]
universe e
def b0c (lo)(c7G)(c8b)(hn:es.size<=sizeLine)(hQ:∀ h' tk PR c',vZ->h'.get? s.heap.objs.size=!{ cls:=.type "list",dict:=none,data:=f04 c',slots:=[].toArray }->ItemsOf xX PR es.size->Q į { s with heap:=h',toks:=tk }):
  wpAny Ē A (call Ł QW) Q E s:=by
 rcases c with c|⟨ea,hA,l⟩
 ·show W.kdl_call (A9 lo) c x hn hQ
 ·let lt:∀ {h:Heap},e7t ep/\Ox h ea->d<h.objs.size/\ea<h.objs.size:=fun ⟨⟨_,a,_⟩,_,_,b,_⟩=>#[HG a,HG b]
  let l0:=lt #[x,l];show a15 (r:=d) (d:=ea) (OK:=λh=>e7t ep/\Ox h ea) rfl #[λ_ k=>k.1.ty,λ_ k=>lt k,λ_ _ e7e=>#[k.1.to λo e=>hk d Ļ o e,k.2.at λo e=>hk ea (.inr rfl) o e],c3F,λe0a k hq=>W.kdl_hint_dict k.1.ty hq]
   (λs1 k ne=>#[_,_,[s1.heap.objs.size,d,ea],?_,λ_ _ hq=>b5g lo k.1 hq,b55 (es:=es) (ep:=ep) _ (Ib (lt k).1) [ea]<|by simp_all [J9],⟨⟨⟨_,HD _ rfl,rfl,rfl⟩,k.1.to λo e=>Hn _ e⟩,.inr #[ea,by simp,hA,k.2.at λo e=>Hn _ e]⟩]) #[x,l] hn hQ
  simp_all [J9]
section
inductive b26 (R:It->Ù)(v:V)(H1:Hp):Prop
 |mk:∀ x,v=.str x->R (Its x) H1->b26 R v H1
theorem a8n (tl):TI:=λe8a=>tl σ H λv H1=>b26 R v H1
def DF (c8F)(c68):e1y l (a8n tl):=by
 ext d6M;let#[z,sx]:=J';let#[x,1,q]:=q1;let#[t,1]:=r1;let fp:∀ (b:Addr),b∈sM->e20 H1 b:=λe1C=>by
  ext d3w
  ext d5a
 cases ha:x.cps.all _
 ·show wpAny_pyIter_wide ha ?_;show#[x6,a2I _ x t "str_iterator" ĺ (λA' hA=>Walks.strWide hA _ x t) (λe77=>wpAny_pyIter_striter_wide st h) hn,qQ,fp,q]
 ·show wpAny_pyIter_ascii ha ?_;show#[x6,a2I _ x t "str_ascii_iterator" ĺ (λA' hA=>Walks.strAscii hA _ x t) (λe77=>wpAny_pyIter_striter_ascii st h) hn,qQ,fp,q]
abbrev _root_.Ñ:=List Bool
def a2z {bs:Ñ}:(List.range bs.length).all (λi=>e7x true)=bs.all id:=by
 rw[Jk];simp only[JC,IB];ext d4L
 ·intro h b hb;let#[Dj]:=JU hb
  simp_all
 ·intro h i hi;rw[Hq,Hm hi];show h _ (IH hi)
def lX (K)(hc)(hK)(c68):Ms X (.builtin "all") a2C:=by
 ext d4p
 ext d4I;let hlen:its.length=bs.length:=by let:=rv.length;ext d8C;omega
 let hpn:p≠s.heap.objs.size:=by let#[_,_,e,_]:=pl;show Ib sv
 show call_all_walk ?_;show Ku pl.isList ?_;show#[c4h,λi=>e7x true,c3a]
 ·let hv:its[i]?=!v:=by simpa using hv
  let hi:i<bs.length:=by rw[<- hlen];show (Ho.mp hv).1
  ext d4R
  ext d20
 ·let e:its.toArray.size=bs.length:=by simp[hlen]
  rw[e,a2z];ext d3K
def s0 (hc):e8n (λe1w=>∃ d ķ,xs=QW/\Rd H d Cv/\O7 H (.lst ţ) Q):=by
 ext d6C
 ext d5V
 let hl:es.size=vs.length:=by rw[<- hp.length];simp
 let Zy:=KV.length rel;show b0c lo ((I.caN hc).imp id λJ'=>(by let#[ea,a,_,b]:=J';show#[ea,a,b])) uN (by rw[hl,<- Zy];show z) λe5F acc c keep Pp OZ=>?_;let UO:A8 ţ acc.toList:=by
  show b7K (by let h1:=OZ.1;rw[<- IC]at h1;rw[Hl,h1,hl,Zy]) λj x u' hx hu=>?_;rw[Hy]at hx;let#[kv,ekv,1]:=HZ.mp hx;ext d6S;let hj:j<es.size:=by rw[hl];show (Ho.mp S8).1
  let h1:(es[j]?).map _=!u':=OZ.2 j u' (by rw[<- JH];show hu);rw[IE hj]at h1;let h2:=(Pairs.get? hp (by rw[JH,IE hj]) S8).1;let:=Option.some.inj h1;rw[<- this,Xj.1];show a1h h2
 show#[.ref s.heap.objs.size,_,I.laid keep nY<|show Mc X.prog X.w _ h' _ (.lst _) from #[by rw[Hl];show z,acc.toList,c,UO,?_],1,q.at Do];simpa using Pp
def b0w:e6v (λe1w=>∃ d ķ,xs=QW/\Rd H d Cv/\Q yM H):=by
 ext d6C
 ext d5V
 let hl:es.size=ķ.length:=by rw[KV.length rel,<- hp.length];simp
 show b6z lo uN (by let:ķ.length<=2 ^ 24:=z;lia) ?_;rw[hl];show#[.int ķ.length,cT,q]
def a8z:e6v (λe1w=>∃ d ķ,xs=QW/\H d=!.dK ķ/\Q yM H):=b0w.imp λe0j J'=>by let#[d,ķ,e,h,q]:=J';show#[d,ķ,e,.inl h,q]
variable {C:Addr}{sp:Sp}{x m:Str}{ta:TE}
def sD (c8S)(ht:e8l X.env=(do
   let ov <- eval o X.env
   standAt apos.atName
   let (f,first) <- holding [ov] Ŗ
   callWith pos f first (e01 jD) Ģ):=ă):
  PE X Ĝ (mj C m sp [] E0 ta ju):=by
 let#[c6G]:=D;show a8y he cl hm F hr b .nil mC ht
def c34 (c9q)(c8L)(OW):
  PE X b4s (A0 C sp [] E0 ju):=by
 let#[w4,hm,M,b,F]:=D;show a0u M F hr hg hm b .nil mC OW
inductive c3H (c96)(sp:Addr->Sp)(c8e):Prop
 |mk:∀ a C dx fs,x=.ref a->Cs C->H1 a=!.ins C dx fs->fs.lookup m=none->sp C [x] H1 Q E0->c3H Cs m sp Q x H1
theorem a0m (c96)(sp:Addr->Sp)(ta):TE:=λe0i=>ta σ H λe3C=>c3H Cs m sp Q x H1
def sE {sp:Addr->Sp}(he:f0O ta)(D:∀ C,Cs C->e3g (sp C))(hr)(ht:e8l X.env=(do
   let ov <- eval o X.env
   standAt apos.atName
   let (f,first) <- holding [ov] Ŗ
   callWith pos f first (e01 jD) Ģ):=ă):
  PE X Ĝ (a0m Cs m sp ta):=by
 ext d6o;let#[og,C,F7,hC,ea,l,q]:=J';ext d2F;let#[c6G]:=D C hC;show b35 I1 ea cl hm l ?_;show W.callWith_K0 I1.Oh hm.kp (e9E b .nil mC I1 xx q)
universe e
def Bv (d1t)(e:gR b7T H'):gR H (upd H' d Cv):=λb u hb=>by
 by_cases z:b=d
 ·grind [ae]
 ·rw[a9 z];show e b u (by rw[a9 z];show hb)
structure Nc (c90):Prop where
 ex:∃ (oc:Value)(od:ψ)(dV kV doc pm:Value)(an:ψ)(LR ct:Value)(O4:ω),
  fd=W.fnOf x ğ XJ sr zV dV kV doc pm an LR ct/\K.lookup f=some ⟨oc,od,.func fd,O4⟩/\W.codeIn K LR ğ=true
 kp:W.keepIn K oh=true
def Nc.okX {K:Ψ}(c7S)(len)(OX:∀ (LR:Value)(A:Ë)(outer:List Env)(s:Ê)(H:Hp)(vs:π)(Q:VK)(E:XK),e07 Ė->e1I E->
   ∃ t,Qe ń sr t/\t { nx:=λ_ H'=>e21 H',rt:=Q } ST H):e1O sp:=by
 let#[lg,dV,DV]:=F.ex;ext d3y
theorem Ite (K)(a):It:=
 ⟨λi H=>∃ xs x,e1k xs/\xs[i]?=!x,λi H v H'=>∃ T,H T=none/\v=.ref T/\∃ x,b3L/\H'=upd H T (.tup Gi),λi H=>∃ xs,e1k xs/\xs.length<=i⟩
theorem a7l (e it a:Addr)(i)(c78):Prop:=(∃ old,IsEnum h e it i old)/\h.IsListIter it a i
def c0z (d1m)(a e it:Addr)(ne:e≠it){er:ψ}(XT):b1i er P w K Ź (Ite K a) [e,it] e (a7l e it a) where
 mem:=by simp
 obj:=λi h st c hc=>by
  let#[#[old,h1],#[o2,e2,c2,d2]]:=st
  grind
 keep:=λe1X=>by let#[c6p]:=st;show#[#[old,k e Ĕ _ h1],h2.at λo z=>e3P z]
 item:=by
  ext d2K;let#[xs,x,hx,ex]:=hg;ext d6G;ext d8j;show wpAny_pyNext_enum_item h1 h2 p.isList b9m ne λh' a1 a2 a3 a4 a5=>?_;show#[_,1,wpAny_letOwnedTupleGo_enum a1 λXY b1 sb=>?_];let hT:=I.LY.fresh<|Hz _;let zne:∀ c∈[e,it],c≠s.heap.objs.size:=λc hc z=>by
   let:∃ o,s.heap.get? c=!o:=by
    ext d4g;let#[o2,e2,_]:=h2;rcases hc with rfl|rfl
    ·show#[_,h1]
    ·show#[_,e2]
   let#[o,q]:=this;show absurd (HG q) (by rw[z];show Jm _)
  let kk:∀ c o,c∉[e,it]->s.heap.get? c=!o->XY.get? c=!o:=λc o hc z=>by simp only[HK,Iz,Ke,not_or]at hc;show sb.extBut _ _ hc.1 (a5 c o hc.1 hc.2 z)
  let I1:e0c H { s with heap:=XY,toks:=s.toks+1 }:=I.RZ hf kk;let I2:e0c (upd H s.heap.objs.size<|.tup Gi) { s with heap:=XY,toks:=s.toks+1 }:=by show I1.YW (I.Ud nY hT) I.sz #[by change 2<=sizeLine;decide,[.int i s.toks,w1],.cons #[_,1]<|.cons r1 .nil,?_];show#[_,e3Q (Ne.symm<|zne e Ĕ) a3,vb]
  show#[qB,I2,1,#[_,hT,1,x,λxs' WC=>by rw[I.PM WC hx];show ex,1],#[#[w1,?_],?_],λc hc=>?_]
  ·simpa using b1
  ·show a2.extBut sb.extBut (Ne.symm ne)
  ·ext d6Q
 done:=by
  ext d2K;let#[xs,hx,hl]:=hg;ext d6G;let l1:=rv.length;show wpAny_pyNext_enum_end (I.Qn hc.1<|hc.2.trans XT) h1 h2 p.isList (by simp;omega) λh' kk=>#[1,I.RZ hf λc o hc z=>?_]
  ext d68;show kk c o hc.2 z
 self:=λe4Q=>wpAny_pyIter_enum st.1.choose_spec h
def b1r:bootBuiltins "enumerate"=!.type "enumerate":=by decide +kernel
inductive b8h (K:Ψ)(c8W):Prop
 |mk:∀ a xs,vs=rf->H1 a=!.lst xs->R (Ite K a) H1->b8h K R vs H1
theorem a4p (K)(ta:TA):TI:=λe8a=>ta σ H λe7c=>b8h K R vs H1
def nv (K){x1:Nat}(c9u)(ha:PA X [e1] ta)(hK)(hs:starEach [e1] X.env=[c3u]:=ă)(c68):PI X Ź (.Call b8u [e1] [] pos) (a4p K ta):=by
 subst hK;ext d3a;show Call_<|e38 b1r (e0r hs rfl);ext d4D;let#[a,xs,1,hx,q]:=q1;let#[u,1,ru]:=df r1
 cases ru;let#[its,n,rv,ho,hz]:=I1.lst hx;show call_enumerate_1 ho λh' a1 a2 a3 a4=>wpAny_pyIter_enum a1 ?_;let I2:e0c H1 { s1 with heap:=h' }:=I1.kept a4;show#[_,[s1.heap.objs.size+1,s1.heap.objs.size],_,_,H1,1,I2,c0z a _ _ (J9<|J3 _) hn,⟨⟨_,a1⟩,a2⟩,λc hc=>?_,q];let le:@LE.le Nat _ s1.heap.objs.size c:=by
  ext d4g;rcases hc with rfl|rfl
  ·show K6 _
  ·show Hz _
 show I1.Ud le c2h
def c2Z {K:Φ}(c8r)(hs:∀ (i:Nat)(x:V)(T:Addr) σ H,xs[i]?=!x->e8j H->H T=none->tb { D with nx:=Pv (i+1),ct:=Pv (i+1),bk:=D.nx } ((σ.set i1 !.int i).set i2 !x) (d86 T (.tup Gi)))(c9O):
  ∃ W:Nat->Nat->Υ,Qm/\∀ i m σ H,e4E H->
   ((Ite K a).stop i H/\D.nx σ H)\/((Ite K a).go i H/\∃ N:Υ,Ġ/\∀ x H',(Ite K a).W4 i H x H'->zt K 2 (xy (bL i1) (xy (bL i2) Af)) x σ H' λe2h=>tb { D with nx:=N,ct:=N,bk:=D.nx } σ2 H2):=by
 ext d3o
 ·show .inr #[QY,Pv<|i+1,λe7d p'=>b3x,λv H' y=>?_];let#[T,hT,1,x,ex,1]:=y;show#[T,Gi,1,Oi.of ae,1,_,[x],1,_,[],2,hs i x T σ H (ex xs q) p hT]
 ·let e:i=xs.length:=#[]
  subst e;show .inl c13
theorem isA:Hp->V->vm->Prop:=λ_ x k=>x=kV k
def AK (k:vm):eY mY=true:=by cases k <;> rfl
def a1M (a b:vm):YC (kV a) (kV b)=decide (a=b):=by
 cases a with
 | inl a=>cases b with
  | inl b=>ext d76
  | inr b=>ext d7y
 | inr a=>cases b with
  | inl b=>ext d7y
  | inr b=>ext d76
def kQ {K:Ψ}:Uw K isA 0 where
 eq:=by
  ext d4Q
  cases ha
  cases hb;rw[<- a1M];show b9U rx ry (AK a) (AK b)
 fn:=by intro X ñ s σ H x a b _ I ha hb;rw[ha]at hb;show a1g hb
theorem a1i (K)(d0D)(c9s):Hp->V->List α->Prop:=λH x as=>∃ p vs,x=.ref p/\Oi K H p vs/\Paired (R H) vs as
section
variable {K:Ψ}{α:Type}[DecidableEq α]{R:Hp->V->α->Prop}{k:Nat}
def b4E (c91)(d1n)(ha:a1i K R H x as)(hb:a1i K R H x bs):as=bs:=by
 ext d6E
 cases e;subst hK;let:=I.Tc h1 h3;ext d8A
def b7l (c91)(c8j)(d0m):
  ∀ j (h1:j<its.toArray.size) (h2:j<NI.toArray.size),e1E its.toArray[j] NI.toArray[j] (decide oy):=λj e2H=>by
 rw[IV]at h1 h2;ext d2P;let:=e6k hu
 simp_all
def GL (c91):Uw K (a1i K R) (k+1) where
 eq:=by
  ext d3R
  ·subst hxy;let e:=b4E h hK I ha hb;subst e;let#[wZ]:=ha
   cases rx
   ext d5w
  ·let#[wZ]:=ha;let#[q,ws,1,zh]:=hb
   cases rx
   ext d4J;let#[c5j]:=I.tuple h1;let#[wB]:=I.tuple h3;ext d57;let he:=b7l (A:=A.in1) h rfl I r1 r2 h2 h4 (by rw[Around.in1_units];lia);let:=SeqAt.RcAt.tuples pl XN #[] he;let e:((List.range<|min its.toArray.size NI.toArray.size).all (λj=>decide oy)&&its.toArray.size==NI.toArray.size)=decide vA:=by
    rw[IV,IV,Jk,Jn,JC,Ki,Kj];ext d4L
    ·rintro⟨hh,hl⟩;ext d8D;by_cases hi:i<its.length
     ·show HR (hh i<|IB.mpr #[])
     ·rw[II<|by lia,II<|by lia]
    ·rintro rfl;show#[λi _=>Hu rfl,#[]]
   ext d5y;show this
 fn:=λe8T=>b4E h hK I ha hb
universe e
theorem Dmd (c7t)(C)(m:Str)(ps)(dvs)(sp):Prop:=
 ∃ f fd ds,ua K C/\zQ K C m f/\Lx K fd ps ds/\A8 dvs ds/\Mq P w K mg base NP k f fd ps sp
theorem Dfd (d1X)(dvs)(sp):Prop:=
 ∃ f fd ds,mg x=!.ref f/\W.keepIn K oh=true/\Lx K fd ps ds/\A8 dvs ds/\Mq P w K mg base NP k f fd ps sp
def Nc.ok {K:Ψ}(c7S)(len)(OX:∀ (LR:Value)(A:Ë)(outer:List Env)(s:Ê)(H:Hp)(vs:π)(Q:VK)(E:XK),e07 Ė->e1I E->
   ∃ t,Qe (e1v E).Vg sr t/\t { nx:=λ_ H'=>e21 H',rt:=Q } ST H):e0q sp:=by
 let#[lg,dV,DV]:=F.ex;ext d28
def DM (D:e2V sp)(hr)(c7h):
  PE X Ę (A2 sp dvs E0 t):=by
 let#[w4,ds,hm,kp,b,hd,F]:=D;show c4l F hr hg hm kp b hd mC ha OW he uz
def oA (he:f0O ta)(D:Dmd X.prog X.w X.K X.mg X.base k C m ps dvs sp)(hr)(c7V)(U5)(uz)(ht:e81 X.env=(do
   let ov <- eval o X.env
   standAt apos.atName
   let (f,first) <- holding [ov] Ŗ
   callWith pos f first (e01 Ű) Ģ):=ă):
  PE X vO (e6s E0 ta t):=by
 let#[w4,ds,cl,hm,b,hd,F]:=D;show a0D he cl hm F hr b hd mC ha U5 uz ht
def PD (a:sc.kind=.function:=ă)(b:sc.isCoroutine=false:=ă)(c:sc.isGenerator=false:=ă)(d:N.Nodup:=ć)(e:N.take P.length=P:=ă)(f:∀ x∈P,sc.names.lookup x=!.local\/sc.names.lookup x=!.cell:=ć)(g:∀ y∈sc.names,y.2≠.free:=ć):au N P sc:=#[C8,d,e,f,g]
def Mg.m (d0l)(h:j<=k:=ö):f0Q j A:=r.mono h
section
def pS (i)(hN)(c80)(c7e):
  PS X WP nE:=a0F hN hi hx he hs hf
def pN (i)(hN)(hi:X.N[i]?=!x:=ă)(hx:Ey X.env.scope x:=Ĉ)(hf):PG X Ż Ep:=c3z hN hi hx hf
def pC (i)(hN:N'.Nodup:=ć)(hi:N'[i]?=!x:=ă)(hx:Ey (e2o fp).env.scope x:=Ĉ)(hf:(e2o fp).fn x=true\/(e2o fp).env.scope.names.lookup x=!.local:=ß):PG ė Ż Ep:=c3z hN hi hx hf
def cS (nT)(js)(N':η)(h:c38 X.env.scope X.N scope nT js N'=true:=by kernel_rfl):f0c N':=b2S rfl rfl h
variable {tb:TE}
def pI (hr:VZ X r)(c7b)(d1c):e6u jd:=Zb hr ha hb hs
def pD (c82)(hs:mf i:=by exact λ_ _=>rfl):PE X b9p (YZ td ty):=c1J hu ho hi hs
def c0f (ho)(c7b)(hm):PE X ŕ jd:=Aj ho ha hb hm
def pT (ho)(c7b)(hm):f0L (D2 jd):=Ad ho ha hb hm
universe e
section
variable {K:Ψ}
def PY.k (c8N)(OX:∀ (LR:Value)(A:Ë)(outer:List Env)(s:Ê)(H:Hp)(vs:π)(Q:VK)(E:XK),e07 Ė->e1I E->
   ∃ t,Qe (e1v E).Vg sr t/\t { nx:=λ_ H'=>e21 H',rt:=Q } ST H)(c87):e0q sp:=F.ok S len OX
def Nc.k (c7S)(OX:∀ (LR:Value)(A:Ë)(outer:List Env)(s:Ê)(H:Hp)(vs:π)(Q:VK)(E:XK),e07 Ė->e1I E->
   ∃ t,Qe (e1v E).Vg sr t/\t { nx:=λ_ H'=>e21 H',rt:=Q } ST H)(c87):e0q sp:=Nc.ok F S len OX
universe e
universe L2
namespace K72
open PySem L2
open PyProof.Rows (boot_all boot_bool boot_dict boot_int boot_list boot_str boot_tuple)
abbrev _root_.Ý:List Str:=["self","name"]
abbrev _root_.Þ:List Str:=["self"]
abbrev _root_.à:List Str:=["net","plan","many","prime","fallen"]
abbrev _root_.á:List Str:=["self","number"]
abbrev _root_.â:List Str:=["net","listener","many","fallen"]
abbrev _root_.ã:List Str:=[c5n]
abbrev _root_.ä:List Str:=[c6N]
abbrev _root_.å:List Str:=["self","fallen","name","numbers"]
abbrev _root_.æ:List Str:=["self","one","other"]
abbrev _root_.è:List Str:=[c4e]
abbrev _root_.é:List Str:=[uK,"chosen"]
abbrev _root_.ë:List Str:=["self",jM]
abbrev _root_.ì:List Str:=["field","table","many"]
abbrev _root_.í:List Str:=["_law_ties","_law_order","_law_plan",jS]
abbrev _root_.î:List Str:=["self","prime"]
abbrev _root_.ï:List Str:=[uK,zd]
abbrev _root_.ò:List Str:=[uK,c4k]
abbrev _root_.ó:List Str:=[As,"_law_listener","_law_many"]
abbrev _root_.ô:List Str:=["_law_table","_law_rows_here",jS]
abbrev _root_.õ:List Str:=["_law_ties","_law_listener","_law_numbers","_law_many"]
abbrev _root_.ø:List Str:=["_law_name",As,"_law_many"]
abbrev _root_.ù:List Str:=["_law_ties","_law_plan",jS]
abbrev _root_.ú:List Str:=["_law_ties","_law_name"]
abbrev _root_.û:List Str:=["_law_script","_law_k"]
abbrev _root_.ü:List Str:=["field","one","other"]
abbrev _root_.ý:List Str:=["number"]
abbrev _root_.þ:List Str:=["self",AQ]
abbrev _root_.ÿ:List Str:=["self","post"]
abbrev _root_.Ā:List Str:=["self","needed"]
theorem top (i):Stmt:=PySem.Challenge.pw_mixposts_k91_whole_plans_or_cuts.main.body.getD i b8q
inductive Kd where
 |house|listener|post
deriving DecidableEq
structure Cl where
 MJ:Addr
 post:Addr
 house:Addr
 Qh:Addr
theorem Cl.of (c:Cl):Kd->Addr
 | .house=>c.house
 | .listener=>c.Qh
 | .post=>c.post
structure Cl.Ok (K:Ψ)(c:Cl):Prop where
 cn:ua K c.MJ
 cp:ua K c.post
 ch:ua K c.house
 cl:ua K c.Qh
 fp:MF K c.MJ "kept_posts"
 ft:MF K c.MJ "kept_ties"
 fn:MF K c.MJ "next_number"
 np:MF K c.post "name"
 nh:MF K c.house "name"
 nl:MF K c.Qh "name"
 ph:c.post≠c.house
 pl:c.post≠c.Qh
 hl:c.house≠c.Qh
theorem jW (c:Cl)(C):Prop:=∃ k,C=c.of k
def Cl.Ok.cls (o:Cl.Ok K c):∀ k,ua K Ck
 | .house=>o.ch
 | .listener=>o.cl
 | .post=>o.cp
def Cl.Ok.nam (o:Cl.Ok K c):∀ k,MF K Ck "name"
 | .house=>o.nh
 | .listener=>o.nl
 | .post=>o.np
abbrev Mv:=Int×Str×Str×Int
structure NS where
 LO:List (Str×Kd)
 LK:List Mv
 next:Int
theorem Nj (c:Cl)(H)(v)(p:Str×Kd):Prop:=∃ a dx,v=.ref a/\H a=!.ins (c.of p.2) dx [("name",.str p.1)]
theorem NC (H)(v)(t:Mv):Prop:=∃ a,v=.ref a/\H a=!.tup a8C
structure MA (c92)(n dp dt:Addr)(S:NS):Prop where
 ins:∃ dx,H n=!.ins c.MJ dx [b7V,b8v,("next_number",.int S.next)]
 LO:∃ ķ,H dp=!.dK ķ/\Paired a75 ķ S.LO
 LK:∃ ķ,H dt=!.dK ķ/\Paired ŏ ķ S.LK
 ne:dp≠dt
def Nj.mono (e)(h:e6y p):Nj c H' v p:=let ⟨a,dx,q1,q2⟩:=h;#[a,dx,GV]
def NC.mono (e)(h:f05 t):NC H' v t:=let ⟨a,q1,q2⟩:=h;#[a,GV]
def MA.mono (e)(h:MA c H n dp dt S):e42 S:=by let#[BN,h4]:=h;show#[#[dx,e _ _ h1],#[kp,e _ _ h2,Paired.O2 p2 λe2s=>(by let#[a,b]:=J';show#[a,b.mono e])],#[kt,e _ _ h3,Paired.O2 p3 λe2s=>(by let#[a,b]:=J';show#[a,b.mono e])],h4]
theorem qq:Str:="abcdefghijklmnopqrstuvwxyz"
theorem Au (x):Bool:=not (Builtin.Str.occurrences qq x 0 qq.length 1).isEmpty
theorem gJ (x):Bool:=decide (1<=x.length)&&decide (x.length<=8)&&(List.range x.cps.size).all λi=>Au (sgn x i)
structure a6E (mg:Ω):Prop where
 Me:mg "len"=none
 MC:mg "isinstance"=none
 a38:mg "str"=none
 X6:mg "all"=none
 Qr:mg "list"=none
structure Hb (mg:Ω):Prop where
 let_:∃ t,mg "LETTERS"=!.str qq t
 lon:∃ t,mg "LONGEST_NAME"=!.int 8 t
 mop:∃ t,mg "MOST_POSTS"=!.int 20 t
 mol:∃ t,mg "MOST_LISTENERS"=!.int 8 t
structure ya (K:Ψ):Prop where
 ss:W.kitOne K wD wD=!true
def b3q (g:Nat->V)(hz:x.cps.size<=1000)(hs:∀ i H2,i<x.cps.size->gR H H2->te (some (.str (sgn x i))::a5K σ js) H2 λv H5=>v=g i/\gR H2 H5)(hd:∀ l H',H l=none->gR H H'->H' l=!.lst ((List.range x.cps.size).map g)->F l H'):e3q F (Its x) H:=by
 intro l Yv;show#[λi m σ' H2=>m=x.cps.size - i/\i<=x.cps.size/\(∃ o,σ'=o::a5K σ js)/\gR H H2/\H2 l=!(.lst<|(List.range i).map g),#[x.cps.size,EE,aY Ě Yv,ae],?_];ext d4Y;by_cases NU:i<x.cps.size
 ·show .inr #[NU,λv H3 y=>?_];let#[2]:=y;show#[λ_=>False,λv H5=>v=g i/\gR H3 H5,λH4 p4=>p4.elim,λv H5 J'=>?_,hs i H3 NU e];let#[ev,e5]:=J';subst ev;show#[_,e5 _ _ hl,by simp only[Hl,ID];show Ip NU<|HU hz ĺ,_,?_,1,NU,#[_,1],bg (e.trans e5) Yv,?_]
  ·lia
  ·rw[ae,List.range_succ,Hx];rfl
 ·let ei:i=x.cps.size:=#[]
  subst ei;show .inl #[1,hd l H2 Yv e hl]
inductive c3o (c84):Prop
 |mk (x:Str):vs=[.str x]->x.length<=1000->(∀ H',gR H H'->Q (.bl (gJ x)) H')->c3o vs H Q E
abbrev iT:Stmt:=top 28
def b18:au oq oq (aa iT):=PD
def yU (F:PY K "is_name" "is_name" iT f fd)(T:a6E mg)(TG:Hb mg)(TK:ya K)(hn:base.err=none):e1u oq c3o:=by
 let#[tl,Vq]:=TG.let_;let#[tn,RQ]:=TG.lon;show F.k b18 λe2v=>?_
 ·let#[x,1,hx,q]:=h;show#[_,(ag (dJ (iy<|bA (d9S K (kr (v:=.ty "str") rfl T.a38 boot_str rfl)))
  zK
  MQ)
 (ak (br (yO (oC sH sH aJ (bi b1g rfl T.Me boot_len<|a8 lr K')<|e86 RQ #[_,1]) (oz (bi (lX K rfl) rfl T.X6 boot_all (a8 (dY rfl (cS 1 [] ["sign"]) (DF<|pv 0)
  ĕ
  jO
  (λe0m=>c0f a8R lr (gB (v:=.str qq) rfl Vq #[_,1])<|by with_unfolding_all rfl)) K'))))))),?_]
  let hxs:x.cps.size=x.length:=rfl;show#[_,1,.str x,nJ,.str x,TK.ss,_,1,jH ?_];let qb:gJ x=(decide (1<=x.length)&&decide (x.length<=8)&&((List.range x.cps.size).map λi=>Au<|sgn x i).all id):=by rw[List.all_map];rfl
  show#[_,1,x,1,HU hx<|by decide,?_];show⟨_,_,rfl,rfl,_,rfl,jI (λh1=>?_) (λh1=>?_)⟩
  ·let h1:1<=x.length:=by let:=HR h1;omega
   show#[mK,1,jI (λh2=>?_) (λh2=>?_)]
   ·let h2:x.length<=8:=by let:=HR h2;omega
    show#[_,1,x,1,b3q (λi=>.bl<|Au (sgn x i)) #[0] (λi H2 hi e=>#[_,1,_,qq,3,gR.refl _]) (λl H' Yv e hl=>?_)];show#[l,(List.range x.cps.size).map λi=>Au<|sgn x i,1,Ma.of (by rw[Hv];show hl),?_];let:=q H' e;rw[qb,Hu h1,Hu h2]at this;show this
   ·let h2:¬ x.length<=8:=λz=>h2<|Hu #[0];let:=q H Ě
    simp_all
  ·let h1:¬ 1<=x.length:=λz=>h1<|Hu #[0];let:=q H<|gR.refl _;rw[qb,Hw h1,Bool.false_and,Bool.false_and]at this;show#[_,1,jH this]
inductive gb (b:V)(d0Q):Prop
 |mk:∀ v,vs=[v]->Q b H->gb b vs H Q x3
abbrev dU:Stmt:=e8s 3
def c1u:e6z (aa dU):=PD
def je (F:PY K "reads" "Post.reads" dU f fd):f1T (gb zp):=by
 show F.k c1u λe2v=>?_
 ·ext d3k
abbrev b0A:Stmt:=aq (top 35) 1
def c5l:e6z (aa b0A):=PD
def kC (F:PY K "reads" "Listener.reads" b0A f fd):f1T (gb ņ):=by
 show F.k c5l λe2v=>?_
 ·ext d3k
abbrev dW:Stmt:=e8s 4
def b1l:e6z (aa dW):=PD
def jf (F:PY K "hears" "Post.hears" dW f fd):f1T (gb ņ):=by
 show F.k b1l λe2v=>?_
 ·ext d3k
abbrev b5f:Stmt:=aq (top 34) 1
def a6W:e6z (aa b5f):=PD
def oY (F:PY K "hears" "House.hears" b5f f fd):f1T (gb zp):=by
 show F.k a6W λe2v=>?_
 ·ext d3k
theorem X0:Kd->Bool
 | .listener=>true
 | _=>false
theorem SV:Kd->Bool
 | .house=>false
 | _=>true
def ir (d1d):∀ k,decide (c.of k=c.Qh)=X0 k
 | .listener=>Hu rfl
 | .house=>Hw O.hl
 | .post=>Hw O.pl
def iJ (d1d):∀ k,(not (decide (d9T k)))=SV k
 | .house=>by rw[show decide (d9T .house)=true from Hu rfl];rfl
 | .listener=>by rw[show decide (d9T .listener)=false from Hw O.hl.symm];rfl
 | .post=>by rw[show decide (d9T .post)=false from Hw O.ph];rfl
inductive i7 (c:Cl)  (vs:π) (H:Hp) (Q:VK) (E:XK):Prop
 |mk (x:Addr) (k:Kd) (dx:Addr) (n:Str):vs=[.ref x,.str n]->H x=!.ins Ck dx []->Q .non (d86 x (.ins Ck dx [("name",.str n)]))->i7 c vs H Q E
abbrev bO:Stmt:=e8s 0
def b3h:e87 (aa bO):=PD
def Sqs (F:PY K "__init__" "Post.__init__" bO f fd)(d1d):e1u Ý (i7 c):=by
 show F.k b3h λe2v=>?_
 ·let#[x,k,dx,n,1,hx,q]:=h;show#[_,ak<|e43 BC rfl,?_];show#[yY,x,c.of k,jT,hx,O.cls k,O.nam k,by decide,q]
inductive i8 (c:Cl)  (vs:π) (H:Hp) (Q:VK) (E:XK):Prop
 |mk (x dx:Addr):vs=[.ref x]->H x=!.ins c.MJ dx []->(∀ d1 d2 H',H d1=none->H d2=none->d1≠d2->(∀ a o,a≠x->H a=!o->H' a=!o) ->
 H' x=!.ins c.MJ dx [("kept_posts",.ref d1),("kept_ties",.ref d2),("next_number",.int 0)]->H' d1=!.dK []->H' d2=!.dK []->Q .non H')->i8 c vs H Q E
abbrev c6j:Stmt:=aq mH 0
def a8J:e6z (aa c6j):=PD
def c0K (F:PY K "__init__" "Net.__init__" c6j f fd)(d1d):f1T (i8 c):=by
 show F.k a8J λe2v=>?_
 ·let#[x,dx,1,hx,q]:=h;show#[_,(ag (e43 QP rfl)
 (ag (e43 QP rfl)
 (ak<|e43 aJ rfl))),?_]
  intro d1 h1;let n1:=aj hx h1;show#[_,1,x,c.MJ,dx,_,1,by rw[a9 n1];show hx,O.cn,O.fp,by decide,?_];intro d2 h2;let n2:=aj ae h2;let n3:=aj (by rw[a9 n1.symm];show ae) h2;show#[_,1,x,c.MJ,dx,_,1,by rw[a9 n2];show ae,O.cn,O.ft,(by change 1<1000;decide),?_];show#[_,1,x,c.MJ,jT,ae,O.cn,O.fn,(by change 2<1000;decide),?_];let ZC:H d2=none:=by rw[a9 n2.symm,a9 n3.symm]at h2;show h2
  show q d1 d2 _ h1 ZC n3 (λa o na ha=>?_) ae ?_ ?_
  ·rw[a9 na,a9 na,a9<|aj ha ZC,a9 na,a9<|aj ha h1];show ha
  ·rw[a9 n1.symm,a9 n1.symm,a9 n3,a9 n1.symm];show ae
  ·rw[a9 n2.symm,a9 n2.symm];show ae
universe K72
namespace Mx
theorem dot:List Int->List Int->Int
 | a::x,b::y=>a * b+dot x y
 | _,_=>0
theorem gc (p):Int->List (Int×Int)->Int
 | t,[]=>t
 | t,(a,b)::r=>gc p b9X r
theorem M9 (p)(x y:Ξ):Int:=gc p 0 (x.zip y)
def a8w (p):∀ (x y:Ξ)(t:Int),t % p=t->gc p t (x.zip y)=(t+dot x y) % p
 | [],_,t,h=>by simp[gc,dot,h]
 | _::_,[],t,h=>by simp[gc,dot,h]
 | a::x,b::y,t,_=>by change gc p b9X (x.zip y)=_;rw[a8w p x y _<|Int.emod_emod_of_dvd _ (Int.dvd_refl _)];simp[dot,Int.emod_add_emod,Int.add_assoc,Int.add_comm]
def Mr (p)(x y:Ξ):M9 p x y=dot x y % p:=by unfold M9;rw[a8w p x y 0<|by simp,KB]
def N4:∀ (x y:Ξ),dot x y=dot y x
 | [],[]=>rfl
 | [],_::_=>rfl
 | _::_,[]=>rfl
 | a::x,b::y=>by change a * b+dot x y=b * a+dot y x;rw[Int.mul_comm,N4 x y]
def b5B (p):∀ (x y:Ξ),f06 y % p=dot x y % p
 | [],_=>by simp[dot]
 | _::_,[]=>by simp[dot]
 | a::x,b::y=>by change (a % p * b+f06 y) % p=(a * b+dot x y) % p;rw[Int.add_emod,b5B p x y,Int.mul_emod,Int.emod_emod_of_dvd _<|Int.dvd_refl _,<- Int.mul_emod,<- Int.add_emod]
def b8E (p)(x y:Ξ):dot x (y.map CO) % p=dot x y % p:=by rw[N4,b5B,N4]
theorem CA (x y:Ξ):Ξ:=List.zipWith (·+·) x y
def b13:∀ (x y v:Ξ),x.length=y.length->dot (CA x y) v=dot x v+dot y v
 | [],[],v,_=>by simp[CA,dot]
 | a::x,b::y,[],_=>by simp[CA,dot]
 | a::x,b::y,c::v,h=>by
  let:=b13 x y v oO;change (a+b) * c+dot (CA x y) v=(a * c+dot x v)+(b * c+dot y v)
  rw[this,Int.add_mul]
  lia
def a4E (k:Int):∀ (x v:Ξ),dot c2i v=k * dot x v
 | [],v=>by simp[dot]
 | a::x,[]=>by simp[dot]
 | a::x,c::v=>by
  change a * k * c+dot c2i v=k * (a * c+dot x v)
  rw[a4E k x v,Int.mul_add,Int.mul_comm a k,Int.mul_assoc]
abbrev _root_.Θ:=List Ξ
theorem col (t:Θ)(j):Ξ:=t.map λr=>r.getD j 0
theorem cols (t:Θ)(w:Nat):Θ:=(List.range w).map (col t)
theorem om (t:Θ)(w:Nat)(r:Ξ):Ξ:=(cols t w).map λc=>dot c r
theorem Fw (d1D):Ξ:=t.map λr=>dot r v
def a3F (t:Θ)(w:Nat)(r:Ξ):(om t w r).length=w:=by simp[om,cols]
def Ol:∀ (b:Ξ)(w:Nat),b.length=w->(List.range w).map (λj=>e4G 0)=b:=by
 intro b w h;subst h;apply List.ext_getElem
 ·simp
 ·intro i h1 h2
  simp_all
def b1e:∀ (t:Θ)(w:Nat)(r v:Ξ),(∀ b∈t,b.length=w)->v.length=w->r.length=t.length->dot (om t w r) v=dot r (Fw t v)
 | [],w,r,v,_,_,hr=>by
  let:r=[]:=JM.mp (by simpa using hr);ext d5M;let e:om [] w []=(List.range w).map λ_=>0:=by simp[om,cols,col,dot]
  rw[e];let z:∀ (n:À)(v:Ξ),dot (n.map λ_=>(0:Int)) v=0:=by
   intro n
   induction n with
   | nil=>intro v;simp[dot]
   | cons a n ih=>
    intro v
    cases v with
    | nil=>simp[dot]
    | cons c v=>change 0 * c+dot _ v=0;rw[ih v];omega
  rw[z];simp[dot]
 | b::t,w,[],v,_,_,hr=>by simp at hr
 | b::t,w,a::r,v,hb,hv,hr=>by
  let ih:=b1e t w r v (λc hc=>hb c<|HM _ hc) hv (by simpa using hr);let e:om (b::t) w (a::r)=CA (b.map (· * a)) (om t w r):=by unfold om cols col CA;rw[Hv,Hv];let RI:b=(List.range w).map (λj=>e4G 0):=(Ol b w<|hb b HS).symm;rw[show b.map (· * a)=((List.range w).map λj=>e4G 0).map (· * a) by rw[<- RI]];rw[Hv,List.zipWith_map];simp[List.zipWith_self,Ia,dot]
  rw[e,b13 _ _ _ (by rw[Hl,a3F];show hb b HS),a4E,ih];change a * dot b v+dot r (Fw t v)=a * dot b v+dot r (Fw t v);rfl
theorem MZ (p)(d1D):Ξ:=t.map λr=>M9 p r v
def b5v (p)(b:Θ)(w:Nat)(r:Ξ):MZ p (cols b w) r=(om b w r).map CO:=by unfold MZ om;rw[Hv];apply Ia;intro c _;simp[Mr]
theorem LL (n i:Nat):Ξ:=(List.range n).map λj=>if j=i then 1 else 0
theorem ones (n):Θ:=(List.range n).map (LL n)
def a9x:∀ (n i s:Nat)(r:Ξ),r.length=n->dot ((e6A n).map λj=>if j=s+i then (1:Int) else 0) r=r.getD i 0
 | 0,i,s,r,h=>by
  simp_all [JM,dot]
 | n+1,i,s,[],h=>by simp at h
 | n+1,0,s,a::r,h=>by
  ext d6T;change (if s=s+0 then (1:Int) else 0) * a+dot _ r=a;rw[if_pos<|by omega];let z:∀ (m t:Nat)(v:Ξ),s<t->dot ((List.range' t m).map λj=>if j=s+0 then (1:Int) else 0) v=0:=by
   intro m
   induction m with
   | zero=>intro t v _;simp[dot]
   | succ m ih=>
    intro t v ht;ext d6T
    cases v with
    | nil=>simp[dot]
    | cons c v=>
     change (if t=s+0 then (1:Int) else 0) * c+dot _ v=0;rw[if_neg<|by omega,ih (t+1) v<|by omega];omega
  simp_all
 | n+1,i+1,s,a::r,h=>by rw[List.range'_succ];change (if s=s+(i+1) then (1:Int) else 0) * a+dot _ r=_;rw[if_neg<|by omega];let:=a9x n i (s+1) r (by simpa using h);rw[show (λj=>if j=s+(i+1) then (1:Int) else 0)=λj=>if j=s+1+i then (1:Int) else 0 by funext j;rw[show s+(i+1)=s+1+i by omega]];rw[this];simp
def N3 (n i:Nat)(r:Ξ)(h:r.length=n):dot (LL n i) r=r.getD i 0:=by let:=a9x n i 0 r h;unfold LL;rw[List.range_eq_range'];ext d5q
def Xz (n j:Nat)(hj:j<n):col (ones n) j=LL n j:=by
 unfold col ones LL;rw[Hv];apply Ia;intro i hi;simp[hj];by_cases h:j=i
 ·subst h;simp
 ·simp[h,Ne.symm h]
def UI {r:Ξ}(h:∀ x∈r,0<=x/\x<p):r.map CO=r:=by
 let:=Ia λe1h=>Jr (h x hx).1 (h x hx).2
 simp_all
abbrev e (r:Ξ)(j:Nat):Int:=r.getD j 0
theorem O3 (p)(r:Ξ):Prop:=∀ x∈r,0<=x/\x<p
def O3.at (d19)(j):0<=e r j/\e r j<p:=by
 unfold e;rw[Hq]
 cases hj:r[j]? with
 | none=>simp_all
 | some x=>show h x (Hs hj)
theorem scaled (p)(r:Ξ)(k:Int):Ξ:=r.map λx=>k * x % p
theorem without (p)(r lead:Ξ)(q:Nat):Ξ:=if e r q=0 then r else List.zipWith (λm t=>(m - e r q * t % p) % p) r lead
theorem MY (ř:Θ)(start q:Nat):Option Nat:=(List.range' start (ř.length - start)).find? λa=>decide (e Ĩ q≠0)
theorem cleared (d2a)(start a q:Nat):Θ:=
 let lead:=f1R uY
 let others:=(ř.take a++ř.drop (a+1)).map λr=>e0K q
 others.take start++[lead]++others.drop start
theorem step (p)(bk)(st:List (Ξ)×Nat)(q:Nat):List (Ξ)×Nat:=
 match MY st.1 st.2 q with
 | none=>st
 | some a=>(e7y st.1 st.2 a q,st.2+1)
theorem run (d2a)(k:Nat):List (Ξ)×Nat:=(List.range k).foldl (step p bk) (ř,0)
def QM (d2a)(k:Nat):e2K (k+1)=step p bk (e2K k) k:=by unfold run;rw[List.range_succ,List.foldl_append];rfl
def b05 (j):e B3 j=k * e r j % p:=by
 unfold e scaled;rw[Hq,Hq,Hy]
 cases r[j]? with
 | none=>simp
 | some x=>simp
def c4m (c9v)(hr:O3 p r)(hl:lead.length=r.length)(j):e Bg j=(e r j - e r q * e lead j) % p:=by
 ext d6t;by_cases h:e r q=0
 ·rw[if_pos h,h,Int.zero_mul,Int.sub_zero];let:=hr.at hp j;show (Jr this.1 this.2).symm
 ·by_cases hj:j<r.length
  ·simp_all
  ·simp_all
def b1n (p x:Int):p ∣ x % p - x:=by
 show#[-(x / p),?_];rw[Int.emod_def,Int.mul_neg]
 lia
def c0j (p k:Int):∀ (r v:Ξ),p ∣ dot B3 v - k * dot r v
 | [],v=>by simp[scaled,dot]
 | x::r,[]=>by simp[scaled,dot]
 | x::r,y::v=>by
  let ih:=c0j p k r v;let h:=b1n p<|k * x;change p ∣ b57 - k * (x * y+dot r v)
  let:b57 - k * (x * y+dot r v)=(k * x % p - k * x) * y+(dot B3 v - k * dot r v):=by
   grind
  rw[this];show JW (KP h) ih
def gP (p c:Int):∀ (r lead v:Ξ),lead.length=r.length->p ∣ dot IO v - b5N
 | [],[],v,_=>by simp[dot]
 | x::r,y::lead,[],_=>by simp[dot]
 | x::r,y::lead,z::v,h=>by
  let ih:=gP p c r lead v oO;let h1:p ∣ Ay % p - (x - c * y):=by rw[Int.sub_emod_emod];show b1n p _
  change p ∣ (Ay % p * z+dot _ v) - b0N
  let:(Ay % p * z+dot IO v) - b0N=(Ay % p - (x - c * y)) * z+(dot IO v - b5N):=by
   grind
  rw[this];show JW (KP h1) ih
def mI (p)(r lead v:Ξ)(q:Nat)(d1Y):p ∣ dot Bg v - (dot r v - e r q * dot lead v):=by
 ext d6t;by_cases h0:e r q=0
 ·simp_all
 ·rw[if_neg h0];show gP p _ r lead v h
theorem Y1 (p)(v:Ξ)(ř:Θ):Prop:=∀ r∈ř,p ∣ dot r v
structure Sh (p:Int)(w:Nat)(ř:Θ):Prop where
 QE:∀ r∈ř,r.length=w
 fit:∀ r∈ř,O3 p r
theorem Bk (p)(bk):Prop:=∀ a,0<a->a<p->p ∣ a * bk a - 1
def O0:
  r∈cleared p bk ř start a q ↔ r=f1R uY\/∃ r0∈ř.take a++ř.drop (a+1),r=e44 r0 (f1R uY) q:=by
 ext d5d;generalize hl:e1m _ _=lead;generalize hm:(ř.take a++ř.drop (a+1)).map (λr=>e0K q)=others;let:r∈others.take start++[lead]++others.drop start ↔ r=lead\/r∈others:=by
  ext d4L
  ·intro h;rcases HW.mp h with h|h
   ·rcases HW.mp h with h|h
    ·show .inr (Lj h)
    ·show .inl oO
   ·show .inr (List.mem_of_mem_drop h)
  ·intro h;rcases h with h|h
   ·subst h;simp
   ·let:r∈others.take start++others.drop start:=by simp_all
    grind
 rw[this,<- hm];ext d4L
 ·rintro (h|h)
  ·show .inl h
  ·let#[r0,yi]:=Ht.mp h;show .inr c2j
 ·rintro (h|⟨r0,h1,h2⟩)
  ·show .inl h
  ·show .inr (Ht.mpr c2j)
def iX {ř:Θ}(c8Z)(h:r∈ř):r=ř.getD a []\/r∈ř.take a++ř.drop (a+1):=by
 let#[Dj]:=JU h;rcases Nat.lt_trichotomy i a with c|c|c
 ·right;show Ir _ ?_;rw[KF];show#[i,#[],1]
 ·left;subst c;simp[hi]
 ·right;show Ih _ ?_;rw[List.mem_drop_iff_getElem];show#[i - (a+1),#[],by congr 1;lia]
def c57 {ř:Θ}(h:r∈ř.take a++ř.drop (a+1)):r∈ř:=by grind
def getD_mem {ř:Θ}(c8Z):ř.getD a []∈ř:=by simp_all
def b8z (c9v):O3 p B3:=by intro x hx;let#[y,_,1]:=Ht.mp hx;ext d4Z
def opI (d19):O3 p Bg:=by
 ext d6t;split
 ·show h
 ·intro x hx;let#[Dj]:=JU hx;rw[Ll];ext d4Z
def b1c (d1Y):(e0K q).length=r.length:=by
 ext d6t;split
 ·rfl
 ·simp_all
def Sh.cleared {p:Int}{bk:Int->Int}{w:Nat}{ř:Θ}{start a q:Nat}(c9v)(d1e)(c8Z):Sh p w b5c:=by
 let hl:(e1m Ĩ<|bk (e Ĩ q)).length=w:=by unfold scaled;rw[Hl];show S.QE _ (getD_mem ha)
 show#[lI]
 ·rcases O0.mp hr with rfl|⟨r0,h0,rfl⟩
  ·show hl
  ·let:=S.QE r0<|c57 h0;rw[b1c<|by omega (config:={})];show this
 ·rcases O0.mp hr with rfl|⟨r0,h0,rfl⟩
  ·show b8z hp
  ·show opI hp (S.fit r0<|c57 h0)
def a2T (c9v)(hb:Bk p bk)(d1e)(c8Z)(h0:e Ĩ q≠0):
  Y1 p v b5c ↔ Y1 p v ř:=by
 let hm:=getD_mem ha;let hf:=(S.fit _ hm).at hp q;generalize hx:e _ q=x at *
 let hl:=λr (hr:r∈ř)=>show (e1m _<|bk x).length=r.length by unfold scaled;rw[Hl,S.QE _ hm,S.QE _ hr]
 let d1:=c0j p (bk x) Ĩ v;ext d4L
 ·intro K r hr;let k1:=K _<|O0.mpr (.inl<|by rw[hx]);rcases iX ha hr with rfl|h
  ·
   let a1:p ∣ bk x * dot Ĩ v:=by
    let:=Ka k1 d1
    grind
   let a2:p ∣ _ * dot Ĩ v:=KP<|hb x #[] hf.2;let a3:p ∣ x * _:=IU a1;let:=Ka a3 a2
   grind
  ·let k2:=K _<|O0.mpr (.inr #[r,h,by rw[hx]]);let a1:=Ka k2<|mI p r _ v q (hl r hr);let a2:p ∣ e r q * dot _ v:=IU k1;let:=JW a1 a2
   grind
 ·intro K r hr;let k1:p ∣ dot (e1m Ĩ<|bk x) v:=by
   let a1:p ∣ bk x * dot _ v:=IU<|K _ hm;let:=JW d1 a1
   grind
  rcases O0.mp hr with rfl|⟨r0,h0,rfl⟩
  ·rw[hx];show k1
  ·let hr0:=c57 h0;let a2:p ∣ dot r0 v - e r0 q * dot _ v:=Ka (K r0 hr0)<|IU k1;let:=JW (mI p r0 _ v q<|hl r0 hr0) a2
   grind
structure RR (p:Int)(w k:Nat)(ř:Θ)(ps:À):Prop where
 sh:Sh p w ř
 len:ps.length<=ř.length
 lt:∀ q∈ps,q<k
 inc:ps.Pairwise (·<·)
 one:∀ (i q:Nat),ps[i]?=!q->e Ō q=1
 zer:∀ (i j q:Nat),ps[j]?=!q->i≠j->e Ō q=0
 lead:∀ (i q q':Nat),ps[i]?=!q->q'<q->e Ō q'=0
 rest:∀ (i q:Nat),ps.length<=i->q<k->e Ō q=0
def a6B (q:Nat):e [] q=0:=by simp[e]
def RR.start (d1e):RR p w 0 ř []:=
 #[S,Iv _,(λ_ h=>nomatch h),List.Pairwise.nil,λi q h=>by simp at h,λi j q h=>by simp at h,λi q q' h=>by simp at h,λi q _ h=>absurd h<|JQ _]
def uk (h:e8t q=none):∀ i,start<=i->e Ō q=0:=by
 intro i hi;by_cases hl:i<ř.length
 ·unfold MY at h
  grind
 ·grind
def QN (h:e8t q=!a):start<=a/\a<ř.length/\e Ĩ q≠0:=by
 unfold MY at h
 grind
def b87 (c8Z)(hs:start<=a):(e0T q).length=ř.length:=by
 unfold cleared;simp only[HE,HF,KA,Hl,I0,K3]
 lia
def a2W (c8Z)(hs:start<=a)(i)(hi:i<ř.length):
  ∃ lead,lead=f1R uY/\
   ((i<start/\(e0T q).getD i []=e44 Ō lead q)\/(i=start/\(e0T q).getD i []=lead) \/
    (start<i/\∃ i',start<=i'/\i'<ř.length/\i'≠a/\(e0T q).getD i []=e44 (ř.getD i' []) lead q)):=by
 ext d69;ext d5d;ext d7R;let WE:((ř.take a++ř.drop (a+1)).map λr=>e0K q).length=ř.length - 1:=by simp only[Hl,HE,HF,KA];omega
 let hoa:∀ j,j<ř.length - 1->((ř.take a++ř.drop (a+1)).map λr=>e0K q)[j]?=!without p (ř.getD (if j<a then j else j+1) []) lead q:=by
  intro j hj;rw[Hy];by_cases c:j<a
  ·rw[Ij (by rw[HF];omega),IT c,if_pos c,Hm<|by omega,Hq,Hm<|by omega];rfl
  ·rw[Iq (by rw[HF];omega),HF,Ko,if_neg c];let:a+1+(j - min a ř.length)=j+1:=#[0]
   rw[this,Hm<|by omega,Hq,Hm<|by omega];rfl
 generalize ((ř.take a++ř.drop (a+1)).map λr=>e0K q)=others at WE hoa;rw[Hq];rcases Nat.lt_trichotomy i start with c|c|c
 ·left;show#[c,?_];rw[Ik,Ij (by rw[HF];omega),IT c,hoa i<|by omega,if_pos<|by omega];rfl
 ·right;left;show#[c,?_];subst c;rw[Ik,Iq (by rw[HF];omega),HF];let:i - min i others.length=0:=#[0]
  rw[this];rfl
 ·right;right;show#[c,if i - 1<a then i - 1 else i - 1+1,C4]
  ·split <;> omega
  ·split <;> omega
  ·split <;> omega
  ·rw[Iq (by rw[HE,HF,IN];omega),HE,HF,IN,Ko];let:start+(i - (min start others.length+1))=i - 1:=#[0]
   rw[this,hoa _<|by omega];rfl
def RR.step (d2b)(hb:Bk p bk)(R:RR p w k ř ps):
  ∃ Yg,e1Q k=((e1Q k).1,Yg.length)/\RR p w (k+1) (e1Q k).1 Yg/\(e1Q k).1.length=ř.length/\∀ v,Y1 p v (e1Q k).1 ↔ Y1 p v ř:=by
 unfold Mx.step
 cases h:MY ř ps.length k with
 | none=>
  show#[ps,1,#[R.sh,R.len,λe9t=>JL<|R.lt q hq,R.inc,R.one,R.zer,R.lead,λi q hi hq=>?_],1,λv=>Iff.rfl];rcases Nat.lt_succ_iff_lt_or_eq.mp hq with c|c
  ·show R.rest i q hi c
  ·subst c;show (uk h) i hi
 | some a=>
  let#[hs,ha,h0]:=QN h;let U6:0<p:=#[0]
  let hm:=getD_mem ha;let hf:=(R.sh.fit _ hm).at U6 k;show#[ps++[k],by simp,?_,b87 ha hs,λv=>a2T U6 hb R.sh ha h0];let hlen:=b87 (p:=p) (bk:=bk) (q:=k) ha hs;let l1:e (e1m Ĩ<|bk (e Ĩ k)) k=1:=by rw[b05,Int.mul_comm];let:=(KC).mpr<|JO (hb (e Ĩ k) #[0] hf.2);rw[this];show Jr #[0] hp
  let l0:∀ q,q<k->e (e1m Ĩ<|bk (e (ř.getD a []) k)) q=0:=λe9t=>by rw[b05,R.rest a q hs hq,Int.mul_zero,Int.zero_emod]
  let wz:∀ (i:Nat)(lead:Ξ),i<ř.length->lead=f1R (bk<|e Ĩ k)->
    e b8w k=0/\∀ q,q<k->e b8w q=e Ō q:=by
   intro i lead hi hl;let hmi:=getD_mem hi;let hll:lead.length=(ř.getD i []).length:=by rw[hl];unfold scaled;rw[Hl,f07 hm,f07 hmi]
   show#[?_,λe9t=>?_]
   ·rw[c4m U6 c2k hll,hl,l1,Int.mul_one,Int.sub_self,Int.zero_emod]
   ·rw[c4m U6 c2k hll,hl,l0 q hq,Int.mul_zero,Int.sub_zero];let:=(R.sh.fit _ hmi).at U6 q;show Jr this.1 this.2
  let out:∀ i,¬ i<ř.length->(e7y ř ps.length a k).getD i []=[]:=λi hi=>by rw[Hq,II<|by omega];rfl
  let psk:∀ (i q:Nat),(ps++[k])[i]?=!q->(i<ps.length/\ps[i]?=!q)\/(i=ps.length/\q=k):=λi e9t=>by
   by_cases c:i<ps.length
   ·rw[Ij c]at hq;show .inl #[c,hq]
   ·rw[Iq<|by omega]at hq;by_cases c2:i - ps.length=0
    ·rw[c2]at hq;simp at hq;show .inr #[#[0],hq.symm]
    ·rw[II (by simp;omega)]at hq;cases hq
  let plt:∀ (i q:Nat),ps[i]?=!q->q<k:=λi e9t=>R.lt q<|Hs hq;show⟨R.sh.cleared U6 ha,by rw[hlen,HE,IN];omega,λe9t=>?_,?_,λi e9t=>?_,λi j e9t hij=>?_,λi q q' hq S8=>?_,λi q hi hq=>?_⟩
  ·rcases HW.mp hq with c|c
   ·show JL (R.lt q c)
   ·let:q=k:=by simpa using c
    omega
  ·rw[List.pairwise_append];show#[R.inc,e5N _,λe1h e3D=>?_];let:y=k:=by simpa using hy
   rw[this];show R.lt x hx
  ·
   ext d5i
   ·ext d35;rcases d with⟨_,d⟩|⟨d,_⟩|⟨d,_⟩
    ·rw[d,(e7z #[0] hl).2 q<|plt i q hq];show R.one i q hq
    ·omega
    ·omega
   ·ext d35;rcases d with⟨d,_⟩|⟨_,d⟩|⟨d,_⟩
    ·omega
    ·rw[d,hl];show l1
    ·omega
  ·
   by_cases hi:i<ř.length
   ·let#[xE]:=a2W ha hs i hi;rcases psk j q hq with⟨c,hq⟩|⟨c,rfl⟩
    ·let hk:=plt j q hq;rcases d with⟨_,d⟩|⟨d1,d⟩|⟨_,i',d1,d2,_,d⟩
     ·rw[d,(e7z hi hl).2 q hk];show R.zer i j q hq hij
     ·rw[d,hl];show l0 q hk
     ·rw[d,(wz i' lead d2 hl).2 q hk];show R.rest i' q d1 hk
    ·rcases d with⟨_,d⟩|⟨d1,d⟩|⟨_,i',d1,d2,_,d⟩
     ·rw[d];show (e7z hi hl).1
     ·omega
     ·ext d7a
   ·rw[out i hi];show a6B q
  ·
   ext d5i
   ·let hk:=plt i q hq;ext d35;rcases d with⟨_,d⟩|⟨d,_⟩|⟨d,_⟩
    ·rw[d,(e7z #[0] hl).2 q'<|by omega];show R.lead i q q' hq S8
    ·omega
    ·omega
   ·ext d35;rcases d with⟨d,_⟩|⟨_,d⟩|⟨d,_⟩
    ·omega
    ·rw[d,hl];show l0 q' S8
    ·omega
  ·
   rw[HE,IN]at hi;by_cases hil:i<ř.length
   ·let#[xE]:=a2W ha hs i hil;rcases d with⟨d,_⟩|⟨d,_⟩|⟨_,i',d1,d2,_,d⟩
    ·omega
    ·omega
    ·rcases Nat.lt_succ_iff_lt_or_eq.mp hq with c|c
     ·rw[d,(wz i' lead d2 hl).2 q c];show R.rest i' q d1 c
     ·subst c;ext d7a
   ·rw[out i hil];show a6B q
def RR.run (d2b)(hb:Bk p bk)(d1e):∀ k,∃ ps,(e31 k).2=ps.length/\RR p w k (e31 k).1 ps/\(e31 k).1.length=ř.length/\∀ v,Y1 p v (e31 k).1 ↔ Y1 p v ř:=by
 intro k
 induction k with
 | zero=>show#[[],1,RR.start S,1,λv=>Iff.rfl]
 | succ k ih=>
  let#[ps,Ab]:=ih;rw[QM];let e1:e31 k=((e31 k).1,ps.length):=by rw[<- h1]
  rw[e1];let#[Yg,Eu,g4]:=h2.step hp hb;show#[Yg,by rw[g1],g2,g3.trans h3,λv=>(g4 v).trans<|h4 v]
theorem Mu (r:Ξ)(m):Option Nat:=(List.range m).find? λq=>decide (e r q≠0)
theorem MN (ř:Θ)(m):À:=(ř.map λr=>Mu r m).filterMap id
def b3I (hq:q<m)(h1:e r q≠0)(h0:∀ q',q'<q->e r q'=0):Mu r m=!q:=by
 unfold Mu
 simp_all
def c3v (h0:∀ q,q<m->e r q=0):Mu r m=none:=by
 unfold Mu
 simp_all
def NQ (d0R):MN ř m=ps:=by
 let:ř.map (λr=>Mu r m)=ps.map some++List.replicate (ř.length - ps.length) none:=by
  ext d8D;let hl:=R.len;by_cases hi:i<ř.length
  ·by_cases c:i<ps.length
   ·let hq:=Hm c;let:=b3I (R.lt _<|IH c) (by rw[R.one i _ hq];decide) (λq' S8=>R.lead i _ q' hq S8)
    simp_all
   ·let:=c3v (λe9t=>R.rest i q #[0] hq)
    simp_all
  ·simp_all
 unfold MN
 simp_all
def j3:∀ (ps:À)(s m:Nat),ps.Pairwise (·<·)->(∀ q∈ps,s<=q/\q<s+m)->ps.length<=m/\(ps.length=m->ps=e6A m)
 | [],s,m,_,_=>by
  simp_all
 | a::ps,s,0,_,h=>by let:=h a HS;lia
 | a::ps,s,m+1,hp,h=>by
  ext d6u;let ha:=h a HS;let ih:=j3 ps (s+1) m h2 λe9t=>#[by let:=h1 q hq;lia,by let:=(h q<|HM _ hq).2;lia];show⟨by simp;show ih.1,λhl=>?_⟩;let e1:=ih.2 Ķ;ext d6T;let:a=s:=by
   rcases Nat.lt_or_ge s a with c|c
   ·exfalso;let ih2:=j3 ps (s+2) (m - 1) h2 (λe9t=>#[by let:=h1 q hq;lia,by let:=(h q<|HM _ hq).2;let:=h1 q hq;lia])
    grind
   ·lia
  rw[this,e1]
def RR.all (d0R)(h:ps.length=m):ps=List.range m:=by let:=(j3 ps 0 m R.inc λe9t=>#[Iv _,by let:=R.lt q hq;omega]).2 h;rw[this,List.range_eq_range']
def RR.MW (d0R):ps.length<=m:=
 (j3 ps 0 m R.inc λe9t=>#[Iv _,by let:=R.lt q hq;omega]).1
def vc (h:q<m):e yg q=e r q:=by simp_all
def c1a {ř:Θ}:(ř.map sy).getD a []=(ř.getD a []).take m:=by
 rw[Hq,Hq,Hy]
 cases ř[a]? with
 | none=>simp
 | some x=>rfl
def b2D (h:q<m):MY lP start q=e8t q:=by unfold MY;rw[Hl];congr 1;funext a;rw[c1a,vc h]
def b08 (h:q<m):e44 yg (lead.take m) q=(e0K q).take m:=by
 ext d6t;rw[vc h];split
 ·rfl
 ·rw[List.take_zipWith]
def Itm:e1m yg k=(e1m r k).take m:=by unfold scaled;rw[JD]
def a0B (h:q<m):e7y lP start a q=(e0T q).map sy:=by
 ext d5d;rw[c1a,vc h,Itm];ext d7R;let:((ř.map<|List.take m).take a++(ř.map<|List.take m).drop (a+1)).map (λr=>e44 r (lead.take m) q)=((ř.take a++ř.drop (a+1)).map λr=>e0K q).map sy:=by rw[<- JD,<- Lf,<- Hx,Hv,Hv];apply Ia;intro r _;show b08 h
 rw[this];simp only[Hx,JD,Lf,HL,Jg]
def UG:∀ k,k<=m->run p bk lP k=((e2K k).1.map sy,(e2K k).2):=by
 intro r'
 induction r' with
 | zero=>
  ext d6H
 | succ k ih'=>
  intro h;rw[QM,QM,ih'<|by lia];unfold step;simp only[];rw[b2D<|by lia]
  cases MY (e2K k).1 (e2K k).2 k with
  | none=>rfl
  | some a=>simp only[];rw[a0B<|by lia]
def c3A:∀ (x a y b:Ξ),x.length=a.length->dot (x++y) (a++b)=dot x a+dot y b
 | [],[],y,b,_=>by simp[dot]
 | u::x,v::a,y,b,h=>by
  change u * v+dot (x++y) (a++b)=u * v+dot x a+dot y b;rw[c3A x a y b<|by simpa using h]
  lia
def c4c:∀ (x v:Ξ),dot x (v.map λt=>-t)=- dot x v
 | [],v=>by simp[dot]
 | a::x,[]=>by simp[dot]
 | a::x,b::v=>by
  change a * -b+dot x (v.map λt=>-t)=-(a * b+dot x v)
  rw[c4c x v,Int.mul_neg]
  lia
theorem joined (t:Θ):Θ:=List.zipWith (λr o=>r++o) t (ones t.length)
def Mb (n i:Nat):(LL n i).length=n:=by simp[LL]
def fu (d2b)(n i:Nat):O3 p (LL n i):=by intro x hx;let#[j,_,1]:=Ht.mp hx;split <;> omega
def c5a (t:Θ)(i)(hi:i<t.length):(joined t)[i]?=!t[i]++e2L i:=by
 unfold joined ones
 simp_all
def NR (t:Θ):(joined t).length=t.length:=by simp[joined,ones]
def b32 (h:r∈joined t):∃ i,∃ (hi:i<t.length),r=t[i]++e2L i:=by
 let#[Dj]:=JU h;let SW:i<t.length:=by rw[NR]at hi;show hi
 show#[i,SW,?_];let:=c5a t i SW
 simp_all
def Rh (d2b)(d1E):Sh p fV gv:=by
 show#[lI]
 ·ext d8E;rw[HE,Mb,S.QE _<|IH hi]
 ·ext d8E;intro x hx;rcases HW.mp hx with h|h
  ·show S.fit _ (IH hi) x h
  ·show fu hp _ _ x h
def UM (d1E):(joined t).map sy=t:=by
 ext d8D;rw[Hy];by_cases hi:i<t.length
 ·rw[c5a t i hi,Hm hi];change some ((t[i]++e2L i).take m)=some t[i];rw[Kf (by rw[S.QE _<|IH hi];show Hz _),Jf (by rw[S.QE _<|IH hi];show Hz _)]
 ·rw[II (by rw[NR];omega),II<|by omega];rfl
theorem Vb (t:Θ)(m j:Nat):Ξ:=(LL m j).map (λx=>-x)++col t j
def b5w (hr:r.length=m+n):dot r (Vb t m j)=dot (r.drop m) Cu - e r j % 1 * 0 - (if j<m then e r j else 0):=by
 let:=(IQ m r).symm;unfold Vb
 conv=>lhs;rw[this]
 rw[c3A _ _ _ _ (by rw[Hl,Mb,HF];lia),c4c,N4,N3 m j _ (by rw[HF];lia)];by_cases c:j<m
 ·let:(r.take m).getD j 0=e r j:=vc c
  lia
 ·grind
def zo (d1E)(j)(hj:j<m):Y1 p (Vb t m j) gv:=by
 intro r hr;ext d8E;let hw:=S.QE _<|IH hi;rw[b5w<|by rw[HE,Mb,hw],if_pos hj];let e1:(t[i]++e2L i).drop m=e2L i:=by
  grind
 let e2:e (t[i]++e2L i) j=e t[i] j:=by
  grind
 rw[e1,e2,N3 _ _ _<|by simp[col]];let e3:(col t j).getD i 0=e t[i] j:=by unfold col;simp[hi]
 simp_all
def W7 (d2b)(d1E)(R:RR p fV m ř ps)(RH:ps=List.range m)(hl:ř.length=t.length)(hk:∀ v,Y1 p v ř ↔ Y1 p v gv)(i j:Nat)(hi:i<m)(hj:j<m):dot fW Cu % p=if i=j then 1 else 0:=by
 let uz:ps.length=m:=by rw[RH];simp
 let hir:i<ř.length:=by let:=R.len;omega
 let hm:=getD_mem hir;let k:=(hk _).mpr (zo S j hj) _ hm;rw[b5w<|f07 hm,if_pos hj]at k;let pj:ps[j]?=!j:=by rw[RH];show Kb hj
 let er:e Ō j=if i=j then 1 else 0:=by
  ext d4q
  ·subst c;ext d6l;show R.one i i pj
  ·ext d40;show R.zer i j j pj c
 rw[er]at k;let k':p ∣ dot fW Cu - b7W:=by rwa [show dot _ _ - _ % 1 * 0 - _=dot fW Cu - b7W by omega]at k
 let:=KC.mpr<|JO k';rw[this];show Jr (by split <;> omega) (by split <;> omega)
theorem fH (p)(u:Nat):List (List Int×Nat)->List Int->Ξ
 | [],v=>v
 | (r,q)::rest,v=>fH p u rest (v.set q ((0 - e r u) % p))
abbrev _root_.Ð:=List (List Int×Nat)
def a4y (p)(u:Nat):∀ (l:Ð)(v:Ξ),(fH p u l v).length=v.length:=by
 intro r'
 induction r' with
 | nil=>
  intro v;show rfl
 | cons hd' rest ih'=>
  let#[r,q]:=hd';intro v;change (fH p u rest _).length=_;rw[ih',List.length_set]
def b0I (p)(u:Nat):∀ (l:Ð)(v:Ξ)(j:Nat),(∀ x∈l,x.2≠j)->e iN j=e v j:=by
 intro r'
 induction r' with
 | nil=>
  intro v j _;show rfl
 | cons hd' rest ih'=>
  let#[r,q]:=hd';intro v j h;change e oP j=_;rw[ih' _ j λe1h=>h x<|HM _ hx]
  simp_all
def a0Y (p)(u:Nat):∀ (l:Ð)(v:Ξ)(r:Ξ)(q:Nat),(r,q)∈l->(l.map (·.2)).Pairwise (·<·)->q<v.length->e iN q=(0 - e r u) % p:=by
 intro l
 induction l with
 | nil=>intro v r q h;cases h
 | cons x rest ih=>
  intro v r q h hp hq;let#[r',q']:=x;change e oP q=_;ext d6u;rcases HK.mp h with c|c
  ·let#[c1,c2]:=Prod.mk.inj c;rw[<- c2,<- c1];rw[<- c2]at h1;rw[b0I p u rest _ q (λe1h=>by let:q<x.2:=h1 x.2<|Ht.mpr #[x,hx,1];lia)]
   simp_all
  ·show ih _ r q c h2 (by rw[List.length_set];show hq)
def a7Y (c9v)(u:Nat):∀ (l:Ð)(v:Ξ),O3 p v->O3 p iN:=by
 intro r'
 induction r' with
 | nil=>
  intro v h;show h
 | cons hd' rest ih'=>
  let#[r,q]:=hd';intro v h;change O3 p oP;show ih' _ λe1h=>?_;rcases List.mem_or_eq_of_mem_set hx with c|c
  ·show h x c
  ·subst c;ext d4Z
theorem fj (f:Nat->Int):Nat->Int
 | 0=>0
 | n+1=>fj f n+f n
def hpl (f:Nat->Int):∀ n,fj f (n+1)=f 0+fj (λj=>f (j+1)) n:=by
 intro r'
 induction r' with
 | zero=>
  simp[fj]
 | succ n ih'=>
  rw[fj,ih',fj]
  lia
def b8D:∀ (x v:Ξ),x.length=v.length->dot x v=fj (λj=>e x j * e v j) x.length
 | [],[],_=>rfl
 | a::x,b::v,h=>by change a * b+dot x v=_;rw[b8D x v<|by simpa using h,I0,hpl];rfl
def a2N:∀ n,(∀ j,j<n->f j=0)->fj f n=0:=by
 intro r'
 induction r' with
 | zero=>
  ext d6H
 | succ n ih'=>
  intro h;rw[fj,ih' λe8R=>h j<|by lia,h n<|by lia];rfl
def a98:∀ n,a<n->(∀ j,j<n->j≠a->f j=0)->fj f n=f a
 | n+1,ha,h=>by
  rw[fj];by_cases c:a=n
  ·subst c;rw[a2N a λe8R=>h j #[0]<|by omega];omega
  ·rw[a98 n #[0] λe8R hja=>h j #[0] hja,h n #[0]<|Ne.symm c];omega
def b2P:∀ n,a<n->b<n->a≠b->(∀ j,j<n->j≠a->j≠b->f j=0)->fj f n=f a+f b
 | n+1,ha,hb,Xr,h=>by
  rw[fj];by_cases c:a=n
  ·subst c;rw[a98 a (a:=b) #[0] λe8R hjb=>h j #[0] #[0] hjb];omega
  ·by_cases d:b=n
   ·subst d;rw[a98 b (a:=a) #[0] λe8R hja=>h j #[0] hja<|by omega]
   ·rw[b2P n #[0] #[0] Xr λe8R hja hjb=>h j #[0] hja hjb,h n #[0] FT<|Ne.symm d];omega
theorem MI (p)(ř:Θ)(ps:À)(m u:Nat):Ξ:=fH p u (ř.zip ps) (LL m u)
def b5i (m u j:Nat):e (LL m u) j=if j<m/\j=u then 1 else 0:=by
 unfold e LL;rw[Hq,Hy];by_cases c:j<m
 ·simp_all
 ·rw[II<|by simpa using c];simp[c]
def W' (d2b)(R:RR p m m ř ps)(hu:u<m)(hup:u∉ps):
  Y1 p Fb ř/\e Fb u=1/\(MI p ř ps m u).length=m/\O3 p Fb:=by
 let VN:((ř.zip ps).map (·.2))=ps:=by rw[List.map_snd_zip];let:=R.len;omega
 let hlen:(MI p ř ps m u).length=m:=by unfold MI;rw[a4y,Mb]
 let a8a:∀ x∈ř.zip ps,x.2∈ps:=λe1h=>(K2 hx).2;let out:∀ j,j∉ps->e Fb j=if j<m/\j=u then 1 else 0:=λe8R=>by unfold MI;rw[b0I p u _ _ j λe1h z=>hj<|z▸a8a x hx,b5i]
 let inn:∀ (i q:Nat),ps[i]?=!q->e Fb q=(0 - e Ō u) % p:=λi e9t=>by
  let hi:=(Ho.mp hq).1;let hir:i<ř.length:=by let:=R.len;omega
  show a0Y p u _ _ _ q ?_ (by rw[VN];show R.inc) (by rw[Mb];show R.lt q<|Hs hq);rw[Lc];show#[i,?_];rw[LF];show#[?_,hq];rw[Hq,Hm hir];rfl
 show#[λe3I=>?_,by rw[out u hup,if_pos #[hu,1]],hlen,?_]
 ·let#[Dj]:=JU hr;let eg:ř[i]=ř.getD i []:=by rw[Hq,Hm hi];rfl
  rw[eg];let hw:=R.sh.QE _<|getD_mem hi;rw[b8D _ _<|by rw[hw,hlen],hw];by_cases c:i<ps.length
  ·let hq:=Hm c;let U8:ps[i]≠u:=λz=>hup<|z▸IH c;rw[b2P m (R.lt _<|IH c) hu U8 (λe8R hja hjb=>?_)]
   ·rw[R.one i _ hq,inn i _ hq,out u hup,if_pos #[hu,1],Int.one_mul,Int.mul_one];let:=b1n p<|0 - e Ō u;rwa [show _ % p - _=(0 - e Ō u) % p+e Ō u by omega]at this
   ·by_cases Zz:j∈ps
    ·let#[i',SW,e']:=JU Zz;let S8:ps[i']?=!j:=by rw[Hm SW,e']
     let:i≠i':=λz=>by subst z;show hja e'.symm
     rw[R.zer i i' j S8 this,Int.zero_mul]
    ·rw[out j Zz,if_neg λz=>hjb z.2,Int.mul_zero]
  ·rw[a2N m λe8R=>by rw[R.rest i j #[0] hj,Int.zero_mul]];show Int.dvd_zero p
 ·show a7Y #[0] u _ _ (fu hp m u)
universe Mx
namespace My
theorem OJ (n:Int):Bool:=@decide (2<=n/\∀ e:Int,2<=e->e * e<=n->Int.fmod n e≠0) (Classical.propDecidable _)
def M3 (n:Int):OJ n=true ↔ (2<=n/\∀ e:Int,2<=e->e * e<=n->Int.fmod n e≠0):=by simp[OJ]
def a8T (hp:OJ p=true)(h2:2<=r)(hr:r<p):e9L r≠0:=by
 intro h0;let#[_,h]:=(M3 p).mp hp;let hq:p=r * Int.fdiv p r:=by let:=f2a r;omega (config:={})
 generalize Int.fdiv p r=q at hq;let hq2:2<=q:=by
  rcases Int.lt_or_le q 2 with c|c
  ·exfalso;let:r * q<=r * 1:=Kh #[] #[]
   lia
  ·show c
 rcases Int.le_total r q with c|c
 ·let:r * r<=r * q:=Kh c #[];show h r h2 #[] h0
 ·let:q * q<=r * q:=Int.mul_le_mul_of_nonneg_right c #[];show h q hq2 #[] ?_
  simp_all
theorem chk (p:Nat):Bool:=decide (2<=p)&&(List.range 1000).all λe=>decide (e<2) || decide (p<e * e) || decide (p % e≠0)
def Yk (h:chk p=true)(hp:p<1000000):OJ (p:Int)=true:=by
 unfold chk at h;rw[Jn]at h;ext d75;rw[M3];show#[#[],λe he hee h0=>?_];obtain⟨k,rfl⟩:∃ k:Nat,e=(k):=#[e.toNat,#[]]
 let hk:k<1000:=by
  rcases Nat.lt_or_ge k 1000 with c|c
  ·show c
  ·let:=Nat.mul_le_mul c c
   lia
 let:=(JC.mp h2) k (IB.mpr hk)
 grind
structure Inv (p a rest made:Int):Prop where
 eq:(made * a - rest) % p=0
 lo:0<=made
 hi:made<p
def SD (hp:2<=p)(hr:e9M p=r):e8u r 1:=by
 show#[?_,WZ];rw[Int.one_mul,<- hr,IP _<|by omega]
 simp_all
def B0 (d0N):e8u (e9L r) (Int.fmod (m * (0 - Int.fdiv p r)) p):=by
 let e1:=f2a r;generalize Int.fdiv p r=q at *
 rw[e1];rw[IP _<|by lia];show#[?_,IW _<|by lia,IJ _<|by lia];let#[k,hk]:=IZ h.eq;let e2:m * _ % p=m * (0 - q) - p * _:=Int.emod_def ..;rw[e2];generalize m * _ / p=z;apply JO;show#[- z * a - q * k - 1,?_]
 grind
def b1D (c93):0<e9L r/\Int.fmod p r<r:=by
 let:=a8T hp #[] h3;let a:=Int.fmod_nonneg_of_pos p h1;let b:=Int.fmod_lt_of_pos p h1
 lia
open Classical in
theorem bk (p a:Int):Int:=if h:∃ z:Int,0<=z/\z<p/\p ∣ a * z - 1 then Classical.choose h else 0
def XE (h0:0<=z)(h1:z<p)(h:p ∣ a * z - 1):bk p a=z:=by
 let hx:∃ z:Int,0<=z/\z<p/\p ∣ a * z - 1:=#[z,h0,h1,h]
 unfold bk;rw[dif_pos hx];let#[y0,y1,y2]:=Classical.choose_spec hx;generalize Classical.choose hx=y at *
 let d:p ∣ y - z:=by
  let#[k,hk]:=h;let#[j,hj]:=y2;show#[z * j - y * k,?_]
  grind
 let e:=KC.mpr<|JO d;rwa [Jr y0 y1,Jr h0 h1]at e
def VM (h:e8u 1 m):p ∣ a * m - 1:=by let:=IZ h.eq;rwa [Int.mul_comm m a]at this
def a1H (d2c)(hp:2<=p):∀ (n:Nat)(r m:Int),r.toNat<=n->0<r->r<p->e8u r m->∃ z:Int,0<=z/\z<p/\p ∣ a * z - 1:=by
 intro r'
 induction r' with
 | zero=>
  intro r m h h0 _ _
  lia
 | succ n ih'=>
  intro r m h h0 h1 I;by_cases c:r=1
  ·subst c;show#[m,I.lo,I.hi,VM I]
  ·let l:=b1D hP h0 c h1;show ih' _ _ #[] l.1 #[] (B0 I hp h0)
def TB (d2c):Mx.Bk p (bk p):=by
 intro a h0 h1;let hp:=((M3 p).mp hP).1;let hf:e9M p=a:=by rw[IP _<|by lia];show Jr #[] h1
 ext d3E;show z2
def XC (d0N):e8u (p % r) (m * (0 - p / r) % p):=by let:=B0 h hp hr;rwa [IP _<|by lia,IP _<|by lia,Int.fdiv_eq_ediv_of_nonneg _<|by lia]at this
def XD (c93):0<p % r/\p % r<r:=by let:=b1D hp h1 h2 h3;rwa [IP _<|by lia]at this
def a5S (d2c)(h0:0<a)(h1:a<p):0<=bk p a/\bk p a<p:=by
 let hp:=((M3 p).mp hP).1;let hf:e9M p=a:=by rw[IP _<|by lia];show Jr #[] h1
 ext d3E;show#[z0,z1]
universe My
namespace L2
open PySem PySem.Spec PyProof.Rows
inductive D where
 |non|bl (b:Bool)|int (i:Int)|str (x:Str)|lst (l:List D)|scr (l:List D)|tup (l:List D)|dct (k:List vm) (l:List D)|ins (C:Addr) (n:η) (l:List D)
mutual
theorem DR (F:Hp):D->V->Prop
 | .non,v=>v=.non
 | .bl b,v=>v=.bl b
 | .int i,v=>v=.int i
 | .str x,v=>v=.str x
 | .lst l,v=>∃ a vs,v=.ref a/\F a=!.lst vs/\Md F l vs
 | .scr l,v=>∃ a vs,v=.ref a/\Rd F a (.lst vs)/\Md F l vs
 | .tup l,v=>∃ a vs,v=.ref a/\F a=!.tup vs/\Md F l vs
 | .dct k l,v=>∃ a ķ,v=.ref a/\Rd F a Cv/\ķ.map (·.1)=k/\Md F l Ņ
 | .ins C n l,v=>∃ a dx fs,v=.ref a/\F a=!.ins C dx fs/\fs.map (·.1)=n/\Md F l (fs.map (·.2))
theorem Md (F:Hp):List D->List V->Prop
 | [],vs=>vs=[]
 | d::l,vs=>∃ v ws,vs=v::ws/\DR F d v/\Md F l ws
end
def Rd.mono (d0o)(h:Rd F a o):Rd F' a o:=h.imp (e a o) λJ'=>by let#[r,q]:=J';show#[r,e a _ q]
mutual
def DR.mono {F F':Hp}(d0o):∀ (d:D)(v:V),e3S v->DR F' d v
 | .non,_,h=>h
 | .bl _,_,h=>h
 | .int _,_,h=>h
 | .str _,_,h=>h
 | .lst l,_,h=>let ⟨a,vs,q1,q2,q3⟩:=h;#[c5J]
 | .scr l,_,h=>let ⟨a,vs,q1,q2,q3⟩:=h;#[a,vs,q1,q2.mono e,Md.mono e l vs q3]
 | .tup l,_,h=>let ⟨a,vs,q1,q2,q3⟩:=h;#[c5J]
 | .dct _ l,_,h=>let ⟨a,vs,q1,q2,q3,q4⟩:=h;#[a,vs,q1,q2.mono e,c6O]
 | .ins _ _ l,_,h=>let ⟨a,dx,vs,q1,q2,q3,q4⟩:=h;#[a,dx,vs,GV,c6O]
def Md.mono {F F':Hp}(d0o):∀ (l:List D)(vs:List V),e2b vs->Md F' l vs
 | [],_,h=>h
 | d::l,_,h=>let ⟨v,ws,q1,q2,q3⟩:=h;#[v,ws,q1,DR.mono e d v q2,Md.mono e l ws q3]
end
theorem RO:V->D
 | .bl b=>.bl b
 | .int i=>.int i
 | .str x=>.str x
 | _=>.non
def DZ:∀ {v:V},eY v=true->DR F (RO v) v:=by
 intro v h
 cases v<;>first|rfl|cases h
abbrev _root_.χ:=List D
def Md.length:∀ {l:χ}{vs:π},e2b vs->vs.length=l.length:=by
 intro r'
 induction r' with
 | nil=>
  intro _ h;ext d6U;rfl
 | cons _ _ ih'=>
  intro _ y1';let#[_,_,q1,_,q3]:=y1';rw[q1,I0,I0,ih' q3]
def Md.at:∀ {l:χ}{vs:π}{i:Nat}{d:D},e2b vs->l[i]?=!d->∃ v,vs[i]?=!v/\DR F d v:=by
 intro l
 induction l with
 | nil=>intro vs i d _ e;cases e
 | cons x l ih=>
  intro vs i d h e;let#[v,_,vz]:=h
  cases i with
  | zero=>show#[v,by rw[q1];rfl,Option.some.inj e▸q2]
  | succ i=>let⟨v,q,r⟩:=ih (i:=i) q3 e;show#[v,by rw[q1];show q,r]
def Md.at':∀ {l:χ}{vs:π}{i:Nat}{v:V},e2b vs->vs[i]?=!v->∃ d,l[i]?=!d/\DR F d v:=λ{l vs i v} h e=>by
 let:=h.length;let hi:i<l.length:=by rw[<- this];show (Ho.mp e).1
 let#[u,q,r]:=h.at (Hm hi)
 simp_all
def Md.app:∀ {l m:χ}{vs ws:π},e2b vs->Md F m ws->Md F (l++m) (vs++ws):=by
 intro r'
 induction r' with
 | nil=>
  intro _ _ _ h k;ext d6U;show k
 | cons _ _ ih'=>
  intro _ _ _ y3' k;let#[v,de]:=y3';show #[v,_,by rw[q1];rfl,q2,ih' q3 k]
def Md.one (c9w):Md F [d] [v]:=#[v,[],1,h,1]
theorem grow (F H H':Hp):Hp:=λa=>if H a=none then H' a else F a
def ao (l:gR F H):gR F yv:=λa o e=>by unfold grow;rw[if_neg (by rw[l a o e];show nofun)];show e
def aO (l:gR F H)(c9U):gR yv H1:=λa o q=>by
 unfold grow at q;by_cases h:H a=none
 ·rwa [if_pos h]at q
 ·rw[if_neg h]at q;show e _ _ (l _ _ q)
def ay (e1:gR H H1)(e2:gR H1 H2):grow yv H1 H2=e0U H2:=by
 funext a;ext d7b;by_cases h:H a=none
 ·rw[if_pos h,if_pos h]
  cases h1:H1 a with
  | none=>ext d6l
  | some o=>rw[if_neg nofun,e1x h1]
 ·rw[if_neg h,if_neg h,if_neg];intro z
  cases q:H a with
  | none=>show h q
  | some o=>rw[e1J q]at z;cases z
def aE (h:H a=none):e0U H1 a=H1 a:=if_pos h
abbrev En:=List GR
abbrev Rx:=En->D->Prop
structure Sd (F:Hp)(c8a)(ε:En):Prop where
 le:gR F H
 len:ε.length<=σ.length
 rd:∀ (i:Nat)(d:D),ε[i]?=!some d->∃ v,σ[i]?=!some v/\DR F d v
def Sd.step (c7N)(c9U):Sd yv σ H1 ε:=
 #[aO S.le e,S.len,λe9u=>let ⟨v,a,b⟩:=S.rd i d q;#[v,a,b.mono<|ao S.le]]
def Sd.set (c7N)(c9w)(i):Sd F lJ H (ε.set i !d):=
 #[S.le,by simpa using S.len,λj e q=>by
  rw[K9]at q ⊢;let:=S.len;ext d4q
  ·grind
  ·rw[if_neg c]at q ⊢;show S.rd j e q]
inductive tP (r:Rx)(σ:St)(c67):Prop
 |mk:∀ F ε d,Sd F σ H ε->r ε d->b1K->tP r σ H Q
abbrev _root_.Á:=En->List D->Prop
inductive OH (r:Á)(c8a)(Q:List V->Ù):Prop
 |mk:∀ F ε d,Sd F σ H ε->r ε d->(∀ x H',gR H H'->Md Ś d x->Q x H')->OH r σ H Q
abbrev _root_.Å:=En->Bool->Prop
inductive QD (r:Å)(c8a)(Q:Ø):Prop
 |mk:∀ F ε b,Sd F σ H ε->r ε b->(∀ H',gR H H'->Q b H')->QD r σ H Q
def PE.imp (h:e06 t)(c7m):e06 t':=λe0V q=>e8P Ac
def PT.imp (h:e8U t)(c7m):e8U t':=λe0V q=>e8P Ac
def PA.imp (h:PA X e t)(c7m):PA X e t':=λp e0V q=>h p ñ s σ H Q I Ac
def tP.go (c7N)(h:r ε d)(k:∀ x H',gR H H'->Sd Ś σ H' ε->DR Ś d x->Q x H'):tP r σ H Q:=a8E
def OH.go (c7N)(h:r ε d)(k:∀ x H',gR H H'->Sd Ś σ H' ε->Md Ś d x->Q x H'):OH r σ H Q:=a8E
section
variable {X:Cx}{a b:Expr}{ra rb:Rx}{rs:Á}{pos:Pos}
theorem rV (i):Rx:=λε d=>ε[i]?=!some d
theorem rC (c:D):Rx:=λ_ d=>d=c
def tP.at {Q:VK}(l:gR F H)(q)(c9w):Q v H:=q v H Ě (h.mono<|ao l)
def dv (h:e06 D0):e06 (tP (rV i)):=h.imp λe0i ⟨F,ε,d,S,r,q⟩=>let ⟨v,h1,h2⟩:=S.rd i d r;#[v,h1,tP.at S.le q h2]
def Đ (c85):e8g (tP<|rV i):=dv (pv i hN hv hd Tr)
def dC (h:e06 (tC v))(hf:eY v=true:=ă):e06 (d9B v):=h.imp λe1U=>by let#[xN,r,q]:=J';show tP.at S.le q (r▸DZ hf)
inductive rO (f:D->D->D->Prop)(d2d):Prop
 |mk {x y:D}:ra ε x->rb ε y->f x y d->rO f ra rb ε d
theorem Ul (f:D->D->D->Prop)(r:R2):Prop:=∀ (F H:Hp) x y u v d (Q:VK),gR F H->f x y d->DR F x u->DR F y v->b1L->r u v H Q
def tP.op (k:Ul f r)(h:tP (rO f ra rb) σ H Q):UA r r9 (tP rb) σ H Q:=by obtain⟨F,ε,d,S,@⟨x,y,hx,hy,hf⟩,q⟩:=h;show tP.go S hx λu e0o=>e4H hy λv e3M=>k _ _ x y u v d Q S2.le hf (q1.mono<|ao S1.le) q2 λz e7f q3=>q z H3 Ŷ ?_;ext d7S
def dO (d1I)(c9J):PE X b9M mW:=(c6 ho ha hb).imp λe1j=>tP.op k h
def dX (ho:VZ X r)(c9J)(d1c):e6u mW:=(Zb ho ha hb hs).imp λe1j=>tP.op k h
def dM (ho)(c9J)(hm):PE X ŕ mW:=(Aj ho ha hb hm).imp λe1j=>tP.op k h
def dT {op:CmpOp}{f:D->D->D->Prop}{r:R2}(ho)(c9J)(hm):f0L (QD λε b=>rO f ra rb ε yC):=
 (Ad ho ha hb hm).imp λe1U=>by let#[xa]:=J';show tP.op k #[c4A]
theorem SO:Á:=λ_ l=>l=[]
def LS:PA X [] (OH SO):=K'.imp λe1U=>by let#[xN,r,q]:=J';show q [] H Ě (by rw[r];rfl)
inductive rA (ra:Rx)(rs:Á)(ε:En):List D->Prop
 |mk {d:D}{m:χ}:ra ε d->rs ε m->rA ra rs ε (d::m)
def da (ha:e06 r9)(hr:e6r sP)(c7o):PA X vh (OH (rA ra rs)):=(a8 ha hr hs).imp λe1U=>by let#[jz,l,S,h,q]:=J';let#[yi]:=h;show tP.go S h1 λx e0o=>OH.go S1 h2 λxs e3M=>q _ H2 Ŏ ?_;let q3:=q1.mono<|ao (H1:=H2) S1.le;rw[ay e1 e2]at q2 q3;show#[x,xs,1,q3,q2]
abbrev _root_.Ä:=List D->D->Prop
inductive Pr (R:Ä)(d0Q):Prop
 |mk:∀ F l d,gR F H->Md F l vs->R l d->b1K->Pr R vs H Q x3
inductive rF (R:Ä)(d1Z):Prop
 |mk {l:χ}:rs ε l->R l d->rF R rs ε d
def OH.call {dl:χ}(hd:∀ F,Md F dl dvs)(h:tP b6A σ H Q):A2 DN dvs E sP σ H Q:=by
 let#[xN,#[yi],q]:=h;show OH.go S h1 λxs e0o=>#[_,_,d,S1.le,q1.app<|hd _,h2,λx e15 q2=>f08 Ŏ ?_]
 rwa [ay e1 e2]at q2
def dF (Dd:e3w DN)(hr)(c8L)(c72)(c8E):
  PE X Ę sG:=(be Dd hr hg ha OW he uz).imp λe1U=>by let#[xN,#[yi],q]:=J';show OH.call (dl:=[]) (λ_=>rfl) #[xN,#[h1,by rwa [HV]],q]
universe e
structure W2 (F:Hp)(J:It)(l:χ):Prop where
 go:∀ H (i:Nat) d,gR F H->l[i]?=!d->J.go i H/\∀ x H',J.W4 i H x H'->gR H H'/\DR Ś d x
 stop:∀ H (i:Nat),gR F H->l.length<=i->J.stop i H
def W2.mono (d0o)(h:W2 F J l):W2 F' J l:=
 #[λH i d s q=>let ⟨a,b⟩:=h.go H i d (e.trans s) q;#[a,λx H' y=>let ⟨c,z⟩:=b x H' y;#[c,z.mono λa o q=>by
  ext d6V;by_cases n:H a=none
  ·rwa [if_pos n]at q ⊢
  ·rw[if_neg n]at q ⊢;show e _ _ q]],λH i s q=>h.stop H i (e.trans s) q]
theorem h8 (g:TG)(r:D->En->En->Prop):Prop:=∀ (F H:Hp) σ ε ε' d x (Q:Υ),e8v H ε->e3S x->r d ε ε'->a66->e4X H Q
theorem rN (i):D->En->En->Prop:=λd ε ε'=>ε'=ε.set i !d
def b8I (i):h8 Ep (rN i):=λf0G=>q _ Ĕ (by rw[r];show S.set h i)
theorem nW:List Nat->List D->En->En->Prop
 | [],l,ε,ε'=>l=[]/\ε'=ε
 | i::is,l,ε,ε'=>∃ d m,l=d::m/\nW is m (ε.set i !d) ε'
theorem gNs:List Nat->ZQ
 | []=>Af
 | i::is=>xy Ep (gNs is)
def b2h:∀ (is:À)(F H:Hp) σ ε ε' l xs (Q:Υ),e8v H ε->e2b xs->nW is l ε ε'->a66->f2b Q:=by
 intro r'
 induction r' with
 | nil=>
  ext d6I;let#[2]:=r;show#[h,q σ rfl S]
 | cons i is ih'=>
  ext d6I;let#[d,m,1,r]:=r;let#[Pl,yi]:=h;show#[Pl,ih' F H _ _ ε' m ws Q (S.set h1 i) h2 r λσ' e s=>q σ' (by rw[e];simp) s]
theorem a3B (is:À):D->En->En->Prop:=λd ε ε'=>∃ l,d=.tup l/\l.length=is.length/\nW is l ε ε'
def a0j (K)(is:À):h8 b59 (a3B is):=λf0G=>by let#[l,1,hl,r]:=r;let#[eM]:=h;show#[a,vs,1,Oi.of<|e4I ha,by rw[hv.length,hl],b2h is F H σ ε ε' l vs Q S hv r q]
def a5L (c7N)(nT)(js):Sd F (qv nT js σ) H (e9G none++js.map λj=>(ε[j]?).join):=by
 show#[S.le,by simp[qv],λe9u=>?_];unfold qv;by_cases c:i<nT
 ·rw[Ij<|by simpa using c,List.getElem?_replicate,if_pos c]at q
  cases q
 ·rw[Iq<|by simpa using c,List.length_replicate,Hy]at q ⊢
  cases hj:js[i - nT]? with
  | none=>rw[hj]at q;cases q
  | some j=>
   rw[hj]at q;let q':(ε[j]?).join=!d:=Option.some.inj q
   cases hε:ε[j]? with
   | none=>rw[hε]at q';cases q'
   | some o=>
    let#[v,a,b]:=S.rd j d ġ
    simp_all
instance EX (os:List (Option D))(hg:h8 g r)(S:Sd F1 σ H1 ε)(hJ)(hl:l.length<=1000)(hcs:cs=js.map λj=>(ε[j]?).join)(ho:os.length=l.length)(ht:∀ p:En,p.length=nT->∀ (i:Nat) d o,l[i]?=!d->os[i]?=!o->∃ p':En,p'.length=nT/\r d (p++cs) (p'++cs)/\∃ b,rt (p'++cs) b/\match o with
   | none=>b=false
   | some v=>b=true/\re (p'++cs) v)(hG:∀ a H' vs,gR H1 H'->H1 a=none->H' a=!.lst vs->Md (grow F1 H1 (aU a H')) (os.filterMap id) vs->G a H'):fQ nT js g (QD rt) (tP re) σ G J H1:=by
 intro a ha;show#[λi m σ' H'=>m=l.length - i/\i<=l.length/\gR H1 (aU a H')/\(∃ p,p.length=nT/\Sd (grow F1 H1<|aU a H') σ' H' (p++cs))/\∃ vs,H' a=!.lst vs/\vs.length<=i/\Md (grow F1 H1<|aU a H') ((os.take i).filterMap id) vs,#[l.length,1,Iv _,?_,#[List.replicate nT none,by simp,?_],[],ae,Hz _,1],?_]
 ·rw[dA];show lx Ě ha
 ·let S0:=a5L S nT js;rw[<- hcs]at S0;show#[λb o q=>?_,S0.len,λi d q=>?_]
  ·rw[dA]at q;show aY Ě ha b o (Mm _ _<|aO S.le (lx Ě ha) b o q)
  ·let#[v,p1,p2]:=S0.rd i d q;show#[v,p1,p2.mono<|ao S.le]
 ·rintro i m σ' H' ⟨rfl,hi,e1,⟨p,n0,S0⟩,vs,hv,hn,hD⟩;let hFi:gR F1 (grow F1 H1<|aU a H'):=ao S.le;by_cases c:i<l.length
  ·let#[go,yl]:=(hJ.mono hFi).go H' i l[i] S0.le<|Hm c;show .inr ⟨go,λx H2 y=>?_⟩;let#[e2,hx]:=yl x H2 y;let S2:=S0.step e2;let c':i<os.length:=#[0]
   let#[p',t3,t1,b,t4,t5]:=ht p n0 i l[i] os[i] (Hm c)<|Hm c';show hg _ H2 σ' _ _ l[i] x _ S2 hx t1 λσ3 n3 S3=>?_;let hH2:=e2 _ _ hv;let key:∀ H5,gR H2 H5->grow (grow (grow F1 H1<|aU a H') H' H2) H2 H5=grow F1 H1 (aU a H5)/\gR H1 (aU a H5):=λH5 e5=>by
    constructor
    ·rw[ay e2 e5];funext b;unfold grow aU;by_cases q1:H' b=none
     ·rw[if_pos q1];by_cases q2:H1 b=none
      ·rw[if_pos q2,if_neg];intro z;rw[z,hv]at q1;cases q1
      ·cases q3:H1 b with
       | none=>show absurd q3 q2
       | some o=>
        let:=Mm _ _<|e1 b o q3;rw[q1]at this;cases this
     ·rw[if_neg q1];by_cases q2:H1 b=none
      ·by_cases z:b=a
       ·rw[if_pos z,if_pos z]
       ·cases q3:H' b with
        | none=>show absurd q3 q1
        | some o=>rw[e5 _ _<|e2 _ _ q3]
      ·rw[if_neg q2,if_neg q2]
    ·show λb o q=>by
      let z:=e1 b o q;unfold aU at z ⊢;by_cases zz:b=a
      ·rw[if_pos zz]at z;cases z
      ·rw[if_neg zz]at z ⊢;show e5 _ _ (e2 _ _ z)
   let next:∀ H4,gR H2 H4->∃ p,p.length=nT/\Sd (grow F1 H1<|aU a H4) σ3 H4 (p++cs):=λH4 e4=>#[p',t3,(key H4 e4).1▸S3.step e4]
   let old:∀ H4,gR H2 H4->Md (grow F1 H1<|aU a H4) ((os.take i).filterMap id) vs:=λH4 e4=>by rw[<- (key H4 e4).1];show (hD.mono<|ao S0.le).mono (ao S2.le)
   let htk:(os.take<|i+1).filterMap id=(os.take i).filterMap id++os[i].toList:=by
    rw[Jq,Hm c',List.filterMap_append]
    cases q:os[i] <;> simp
   show#[λH4=>gR H2 H4/\os[i]=none,λv H5=>gR H2 H5/\∃ d,os[i]=!d/\DR (grow F1 H1<|aU a H5) d v,fun H4 ⟨e4,h4⟩=>#[l.length - (i+1),#[0],1,c,(key H4 e4).2,next H4 e4,vs,e4 _ _ hH2,#[0],?g1],fun v H5 ⟨e5,d,h5,q5⟩=>#[vs,e5 _ _ hH2,Kl (HU hn<|HU hi hl)<|by decide +kernel,l.length - (i+1),#[0],1,c,?g2,?g3,vs++[v],ae,by simp;omega,?g4],_,_,b,S3,t4,λH4 e4=>?g5]
   case g1=>rw[htk,h4];simpa using old H4 e4
   case g2=>rw[dA];show (key H5 e5).2
   case g3=>
    let#[p5,q2,S5]:=next H5 e5
    show#[p5,q2,λb o q=>?_,S5.len,λj d q=>?_]
    ·rw[dA]at q;by_cases z:b=a
     ·rw[z,aE ha]at q;unfold aU at q;rw[if_pos rfl]at q;cases q
     ·rw[a9 z];show S5.le b o q
    ·rw[dA];show S5.rd j d q
   case g4=>
    rw[dA,htk,h5];show (old H5 e5).app (.one q5)
   case g5=>
    change if b=true then _ else _
    cases hf:os[i] with
    | none=>
     simp_all
    | some d=>
     rw[hf]at t5;rw[if_pos t5.1];show tP.go (S3.step e4) t5.2 λv H5 e5 S5 q5=>#[e4.trans e5,d,1,by rw[ay e4 e5,(key H5<|e4.trans e5).1]at q5;show q5]
  ·show .inl #[(hJ.mono hFi).stop H' i S0.le<|by omega,hG a H' vs (e1.trans Mm) ha hv<|by rwa [Jf<|by omega]at hD]
def a2F (ha:H1 a=none)(hv:H' a=!.lst vs)(h:Md (e9N (aU a H')) l vs):DR (e9N H') iQ kX:=
 #[a,vs,1,by simp_all [grow],h.mono λe5G=>by
  ext d6V;by_cases n:H1 b=none
  ·simp_all [aU]
  ·rwa [if_neg n]at q ⊢]
abbrev Ri:=En->List D->Prop
inductive tI (ri:Ri)(c8a)(R:It->Ù):Prop
 |mk:∀ F ε l,Sd F σ H ε->ri ε l->(∀ J H',gR H H'->W2 Ś J l->R J H')->tI ri σ H R
def PI.imp (h:e1y e t)(k:∀ σ H R,t' σ H R->e4V R):e1y e t':=λe1i R I q=>e0C R I Ac
section
def AB {K:Ψ}(h:Rd F a (.lst vs))(q:e2b vs):W2 F (W0 K a) l:=
 #[λe7g=>let ⟨v,e1,e2⟩:=q.at e;#[#[vs,v,.inl<|h.mono s,e1],λx H' ⟨z,y⟩=>#[z▸gR.refl _,by let:=y vs<|.inl (h.mono s);rw[e1]at this;cases this;show e2.mono<|ao s]],λf2u=>#[vs,.inl<|h.mono s,by rw[q.length];show z]]
def b2Z (h:e06 (tP r)):e1y e (tI λε l=>r ε iQ):=(Ag h).imp λe8a ⟨F,ε,l,S,h,q⟩=>
 tP.go S h λx e2t S1 J'=>by let#[yd]:=J';show#[a,ex,#[vs,.inl<|.inl (e1n ha)],q _ H1 e1<|AB (.inl ha) hv]
theorem u5 (lo:Int)(n):χ:=(List.range n).map λ(i:Nat)=>.int (lo+(i:Int))
def c5y {lo:Int}:W2 F (ZX lo n) (u5 lo n):=
 #[λe7g=>(by
  unfold u5 at e;rw[Hy]at e;by_cases c:i<n
  ·rw[Kb c]at e;cases e;show#[c,λx H' J'=>(by let#[z,y]:=J';show#[z▸gR.refl _,y])]
  ·rw[II<|by simpa using c]at e;cases e),λf2u=>show n<=i by unfold u5 at z;simpa using z]
def We (c7J)(c9o):e1y (d9W uj) (tI λε l=>∃ n:Nat,n<=1000/\rs ε db/\l=u5 0 n):=
 (iU hg hm ha hs).imp λe8a ⟨F,ε,l,S,⟨n,hn,h,hl⟩,q⟩=>e45 h λe5U=>by
  let#[Pl,yi]:=hx
  cases h1;cases h2;show#[n,1,WZ,e25 (by rw[hl,Il];show c5y)]
def iR2 (c7J)(ha:PA X Ar sP)(c7w):
  PI X tg (.Call uj Ar [] pos) (tI λε l=>∃ m n:Nat,m<=1000/\n<=1000/\rs ε [.int m,.int n]/\l=u5 m (n - m)):=
 (BE hg hm ha hs S7).imp λe8a ⟨F,ε,l,S,⟨m,n,hm,hn,h,hl⟩,q⟩=>e45 h λe5U=>by
  let#[Pl,h1,u,ws,1,h2,h3]:=hx
  cases h1;cases h2;cases h3;show#[m,n,1,#[0],e25 (by rw[hl,show ((n) - (m:Int)).toNat=n - m by omega];show c5y)]
def c22 (s)(hT:H T=none)(hx:DR F c x)(hy:e3S y):gR H wS/\DR (d9b wS) (.tup [c,d]) nr:=
 let g:=ao s
 #[aY Ě hT,T,_,1,by rw[aE hT,ae],x,_,1,hx.mono g,.one<|hy.mono g]
variable {x1:Nat}
def iZ (c8O)(ha:PA X Ar sP)(c7w)(c68):
  PI X Ź xB (tI λε l=>∃ m n,rs ε [.lst m,.lst n]/\l=(m.zip n).map λz=>.tup [z.1,z.2]):=
 (DE hg hm ha hs S7).imp fun σ H R ⟨F,ε,l,S,⟨m,n,h,hl⟩,q⟩=>e45 h λe5U=>by
  let#[Pl,#[eM],u,ws,1,#[b,us,1,hb,hu],h3]:=hx
  ext d3D;let qb:=λ{H':Hp} (s:gR (e0U H1) H')=>Ma.of (K:=X.K)<|s _ _ hb;show⟨a,b,rfl,⟨vs,qa S1.le⟩,⟨us,qb S1.le⟩,e25 ⟨λH2 i d s e=>?_,λH2 i s z=>#[vs,us,qa s,qb s,?_]⟩⟩
  ·rw[hl,Hy]at e
   cases hz:(m.zip n)[i]? with
   | none=>ext d5N
   | some z=>
    ext d5N;let#[z1,z2]:=LF.mp hz;let#[x,x1,x2]:=hv.at z1;let#[y,y1,y2]:=hu.at z2;show#[#[vs,us,x,y,qa s,qb s,x1,y1],λw H3 J'=>?_];let#[T,hT,ew,x',y',FE,e3]:=J';ext d51;let:=q2 us<|qb s;rw[y1]at this;ext d3Q;subst e3 ew;show c22 s hT x2 y2
  ·let:=hv.length;let:=hu.length
   grind
def iE (c9u)(c9o)(c68):
  PI X Ź (d9W b8u) (tI λε l=>∃ m,rs ε [.lst m]/\l=m.zipIdx.map λz=>.tup [.int z.2,z.1]):=
 (nv X.K hg hm ha rfl hs).imp fun σ H R ⟨F,ε,l,S,⟨m,h,hl⟩,q⟩=>e45 h λe5U=>by
  let#[Pl,#[eM],h3]:=hx
  ext d3D;show⟨a,vs,rfl,e1n ha,e25 ⟨λH2 i d s e=>?_,λH2 i s z=>#[vs,qa s,?_]⟩⟩
  ·rw[hl,Hy,List.getElem?_zipIdx]at e
   cases hz:m[i]? with
   | none=>ext d5N
   | some z=>
    ext d5N;let#[x,x1,x2]:=hv.at hz;show#[#[vs,x,qa s,x1],λw H3 J'=>?_];let#[T,hT,ew,x',q1,e3]:=J';ext d51;subst e3 ew;show c22 s hT (congrArg (λn:Nat=>V.int n) (Nat.zero_add i).symm) x2
  ·let:=hv.length
   simp_all
universe e
theorem zX:Nat->D->List D->Prop
 | 0,d,l=>l=[d]
 | n+1,d,l=>d=.tup l/\l.length=n+1
inductive Tn (n:Nat)(cs:En)(rt:Å)(re:Rx)(x:D):Option D->Prop
 |no {xs:χ}:zX n x xs->rt pP false->Tn n cs rt re x none
 |yes {xs:χ}{v:D}:zX n x xs->rt pP true->re pP v->Tn n cs rt re x !v
inductive rL (n:Nat)(js:À)(ri:Ri)(rt:Å)(re:Rx)(c71):Prop
 |mk {l:χ}{os:List (Option D)}:ri ε l->l.length<=1000->Paired (Tn n (js.map λj=>(ε[j]?).join) rt re) l os->d=.lst tw->rL n js ri rt re ε d
def b8O:∀ (n:Nat)(k:Nat)(l:χ)(q p cs:En),l.length=n->q.length=k->p.length=n->nW (List.range' k n) l (q++(p++cs)) (q++c2l):=by
 intro r'
 induction r' with
 | zero=>
  ext d8F
  cases Lo hl;cases Lo hp;show#[2]
 | succ n ih'=>
  ext d8F
  match l,p,hl,hp with
  | d::m,o::p,hl,hp=>
   show#[d,m,1,?_];let:=ih' (k+1) m (q++[!d]) p cs Ķ (by simp[hq]) (by simpa using hp)
   simp_all
theorem pV (K):Nat->TG
 | 0=>bL 0
 | n+1=>zt K (n+1) (gNs b8B)
theorem a3C:Nat->D->En->En->Prop
 | 0=>rN 0
 | n+1=>a3B b8B
def a0k (K):∀ n,h8 uh (a3C n):=by
 intro r'
 induction r' with
 | zero=>
  show b8I 0
 | succ n ih'=>
  let:=a0j K<|List.range' 0 (n+1);rwa [List.length_range']at this
theorem n5:Nat->Nat
 | 0=>1
 | n+1=>n+1
def a4L:∀ {n:Nat}{d:D}{l:χ}{p cs:En},zX n d l->p.length=n5 n->a3C n d (p++cs) c2l/\(l.map some).length=n5 n:=by
 intro r'
 induction r' with
 | zero=>
  intro d l p cs h hp
  match p,hp with
  | [o],_=>rw[show l=[d] from h];show#[2]
 | succ n ih'=>
  intro d l p cs y4' hp;let#[yi]:=y4';show #[#[l,h1,by simp_all,b8O (n+1) 0 l [] p cs h2 rfl hp],by rw[Hl];show h2]
section
variable {K:Ψ}
def sC {os:List GR}(c7N)(hJ:W2 F J l)(hl:l.length<=1000)(ht:Paired b0O l os)(hG:∀ a H' vs,gR H H'->H a=none->H' a=!.lst vs->Md (d9b (aU a H')) tw vs->G a H'):e55 G J H:=
 EX os (a0k K n) S hJ hl rfl (Paired.length ht).symm (λf0z i d o e2H=>by
  let#[o',zh]:=Paired.at ht h1;rw[h2]at h3;cases h3
  cases h4 with
  | no h4 h5=>
   let#[oj]:=a4L h4 hp;show#[_,g2,g1,_,h5,1]
  | yes h4 h5 h6=>
   let#[oj]:=a4L h4 hp;show#[_,g2,g1,_,h5,1,h6]) hG
def uo (h:tP j7 σ H Q):e4k Q:=
 have ⟨F,ε,d,S,.mk (l:=l) h1 h2 h3 h4,q⟩:=h
 #[jz,l,S,h1,λJ e2t hJ=>sC Ps hJ h2 h3 λf2v=>q _ H2 Ŏ (by let:=a2F ha hv hd;rw[ay e1 e2]at this;rw[h4];show this)]
def c3Q (c8g)(d0a)(c65):e4F (tP j7):=(e2c hs).imp λe0j=>uo
def Ql.imp (h:Ql X ifs t)(c7m):Ql X ifs t':=λe0V q=>e8P Ac
theorem yG:Å:=λ_ b=>b=true
def df0:Ql X [] (QD yG):=b2i.imp λe1U=>by let#[jz,b,S,h,q]:=J';subst h;show q H Ě
universe e
section
variable {α:Type}
def jC:∀ {xs:List α},(∀ x∈xs,P (f x) (g x))->Paired P (xs.map f) (xs.map g):=by
 intro r'
 induction r' with
 | nil=>
  intro _;show .nil
 | cons x xs ih'=>
  intro h;show .cons (h x HS) (ih' λe3D=>h y<|HM _ hy)
def bc (c7K):e8w (.lst (xs.map h)):=
 .mk hi Ķ (jC λe1h=>let ⟨l,a,b⟩:=k x hx;.yes a rfl b) ġ
def bB {xs:List α}{u h:α->D}(c:α->Bool)(hi:ri ε FO)(hl:xs.length<=1000)(k:∀ x∈xs,∃ l,zX n (u x) l/\rt yw (c x)/\(c x=true->re yw (h x))):rL n js ri rt re ε (.lst ((xs.filter c).map h)):=
 .mk (os:=xs.map λx=>if c x=true then some (h x) else none) hi Ķ (jC λe1h=>by
  let#[l,a,b,d]:=k x hx;by_cases z:c x=true
  ·ext d61;show .yes a (z▸b) (d z)
  ·ext d77;show .no a<|Bool.eq_false_iff.mpr z▸b) (by
  congr 1;rw[List.filterMap_map];clear hi hl k
  induction xs with
  | nil=>rfl
  | cons x xs ih=>
   rw[IK,KL];by_cases z:c x=true
   ·simp_all
   ·simp only[Function.comp_apply,if_neg z];show ih)
universe e
inductive Sl where
 |un|fz (d:D)|ow (d:D)
abbrev Ev:=List Sl
theorem Sl.z:Sl->Option D
 | .fz d=>!d
 | _=>none
theorem Sl.a:Sl->Option D
 | .un=>none
 | .fz d=>!d
 | .ow d=>!d
theorem V8 (F H:Hp):D->Addr->Prop
 | .lst l,a=>∃ vs,H a=!.lst vs/\Md F l vs
 | .dct k l,a=>∃ ķ,H a=!.dK ķ/\ķ.map (·.1)=k/\Md F l Ņ
 | _,_=>False
def V8.some:∀ {d:D}{a:Addr},e88 a->H a≠none:=by
 intro d a h z
 cases d<;>first|(let#[_,h,_]:=h;rw[h]at z;cases z)|cases h
def V8.mono (d0o):∀ {d:D}{a:Addr},(∀ o,H a=Option.some o->H' a=Option.some o)->e88 a->V8 F' H' d a
 | .lst _,_,s,⟨vs,h,q⟩=>#[vs,s _ h,q.mono e]
 | .dct _ _,_,s,⟨vs,h,k,q⟩=>#[vs,s _ h,k,q.mono e]
def V8.dr (e:gR F G):∀ {d:D}{a:Addr},(∀ o,H a=Option.some o->G a=Option.some o)->e88 a->DR G d kX
 | .lst _,a,s,⟨vs,h,q⟩=>#[AS,s _ h,q.mono e]
 | .dct _ _,a,s,⟨vs,h,k,q⟩=>#[a,vs,1,.inl<|s _ h,k,q.mono e]
structure Ss (F0 H0 F:Hp)(c8a)(ε:Ev):Prop where
 b0:gR H0 H
 f0:gR F0 H0
 up:gR F0 F
 lo:gR F nX
 len:ε.length<=σ.length
 rz:∀ (i:Nat) d,ε[i]?=!.fz d->∃ v,σ[i]?=!some v/\DR F d v
 ro:∀ (i:Nat) d,ε[i]?=!.ow d->∃ a,σ[i]?=!some kX/\F a=none/\H0 a=none/\V8 F H d a
 ap:∀ (i j:Nat) c d a,i≠j->ε[i]?=!.ow c->ε[j]?=!.ow d->σ[i]?=!some kX->σ[j]?≠!some kX
section
variable {F0 H0 F F' H H1:Hp}{σ:St}{ε:Ev}
def Ss.le (S):gR F H:=λa o q=>aO S.f0 S.b0 a o (S.lo a o q)
def b6 (s:gR H H1):gR nX (e56 H1):=λa o q=>by
 ext d6V;by_cases n:H0 a=none
 ·rw[if_pos n]at q ⊢;show s _ _ q
 ·rwa [if_neg n]at q ⊢
def Ss.step (S)(c9U)(u:gR F F')(l:gR F' (e56 H1))(n:∀ a,F a=none->H a≠none->F' a=none):f1S H1 ε where
 b0:=S.b0.trans e
 f0:=S.f0
 up:=S.up.trans u
 lo:=l
 len:=S.len
 rz:=λe9u=>let ⟨v,a,b⟩:=S.rz i d q;#[v,a,b.mono u]
 ro:=λe9u=>let ⟨a,p1,p2,p3,p4⟩:=e7A d q;#[a,p1,n a p2 p4.some,p3,p4.mono u<|e a]
 ap:=S.ap
def Ss.Nb (S)(c9U):e6V H1 ε:=S.step e Ě (S.lo.trans<|b6 e) λ_ h _=>h
def Ss.grow (S)(c9U):e1o yv σ H1 ε:=S.step e v8 (λa o q=>by
 unfold L2.grow at q;by_cases n:H a=none
 ·rw[if_pos n]at q;rw[aE (by cases z:H0 a with
   | none=>rfl
   | some u=>rw[S.b0 _ _ z]at n;cases n)]
  show q
 ·rw[if_neg n]at q;show b6 e _ _<|S.lo _ _ q) λa h k=>by unfold L2.grow;rw[if_neg k];show h
def Ss.z (S):e8v H pA:=#[S.le,by simpa using S.len,λe9u=>by
 rw[Hy]at q
 cases h:ε[i]? with
 | none=>rw[h]at q;cases q
 | some s=>
  rw[h]at q
  cases s with
  | fz c=>cases q;show S.rz i _ h
  | _=>cases q]
def Ss.a (S):Sd (L2.grow F0 H0 H) σ H ĭ:=#[aO S.f0 S.b0,by simpa using S.len,λe9u=>by
 rw[Hy]at q
 cases h:ε[i]? with
 | none=>rw[h]at q;cases q
 | some s=>
  rw[h]at q
  cases s with
  | un=>cases q
  | fz c=>cases q;let#[v,a,b]:=S.rz i _ h;show#[v,a,b.mono S.lo]
  | ow c=>cases q;let#[a,yX,p4]:=e7A _ h;show#[_,p1,p4.dr S.lo λo z=>by rw[aE p3];show z]]
def Ss.UE (S)(c9w)(i):e1o F lJ H Gn:=by
 let len:=S.len;let old:∀ {j:Nat}{s:Sl},(ε.set i<|.fz d)[j]?=!s->(i=j/\s=.fz d/\_[j]?=!some v)\/(i≠j/\ε[j]?=!s/\(σ.set i<|some v)[j]?=σ[j]?):=λ{j s} q=>by
  ext d8G
  ·lia
  ·ext d6J;show .inr b7X
 show#[S.b0,S.f0,S.up,S.lo,by simpa using len,λj c q=>?_,λj c q=>?_,λj k c e a n q1 q2 z1 z2=>?_]
 ·rcases old q with⟨_,q2,q3⟩|⟨_,q2,q3⟩
  ·cases q2;show#[v,q3,h]
  ·rw[q3];show S.rz j c q2
 ·rcases old q with⟨_,q2,_⟩|⟨_,q2,q3⟩
  ·cases q2
  ·rw[q3];show S.ro j c q2
 ·rcases old q1 with⟨_,y,_⟩|⟨_,y1,y2⟩
  ·cases y
  ·rcases old q2 with⟨_,y,_⟩|⟨_,y3,y4⟩
   ·cases y
   ·rw[y2]at z1;rw[y4]at z2;show S.ap j k c e a n y1 y3 z1 z2
def Ss.frz (S)(h:ε[i]?=!.ow d):∃ F',gR F F'/\Ss F0 H0 F' σ H Gn:=by
 let#[a,yX,p4]:=e7A d h;show let F':=λb=>if b=a then H a else F b;?_
 let u:gR F F':=λe5G=>by
  lia
 let old:∀ {j:Nat}{s:Sl},(ε.set i<|.fz d)[j]?=some s->(i=j/\s=.fz d)\/(i≠j/\ε[j]?=some s):=λ{j s} q=>by
  rw[K9]at q;ext d4q
  ·simp_all
  ·ext d6J;show .inr #[c,q]
 show#[F',u,S.b0,S.f0,S.up.trans u,c48,c3Z]
 ·by_cases z:b=a
  ·rw[show F' b=H a from if_pos z]at q;rw[z,aE p3];show q
  ·rw[show F' b=F b from if_neg z]at q;show S.lo _ _ q
 ·rcases old q with⟨y1,y⟩|⟨_,y⟩
  ·cases y;subst y1;show#[_,p1,p4.dr u λo z=>(if_pos rfl).trans z]
  ·let#[v,x1,x2]:=S.rz j c y;show#[v,x1,x2.mono u]
 ·rcases old q with⟨_,y⟩|⟨y1,y⟩
  ·cases y
  ·let#[b,uE]:=f09 c y;show#[b,x1,(if_neg λz:b=a=>S.ap i j d c a y1 h y p1<|z▸x1).trans x2,x3,x4.mono u λ_ z=>z]
 ·rcases old q1 with⟨_,y⟩|⟨_,y1⟩
  ·cases y
  ·rcases old q2 with⟨_,y⟩|⟨_,y2⟩
   ·cases y
   ·show S.ap j k c e b n y1 y2 z1 z2
def Ss.a3v {a:Addr}(S)(i)(ha:H a=none)(c9U)(h:V8 (aU a (L2.grow F H H1)) H1 d a):∃ F',gR F F'/\Ss F0 H0 F' (σ.set i !.ref a) H1 Co:=by
 let len:=S.len;let u:gR F (aU a<|L2.grow F H H1):=λe5G=>by rw[aR (λz=>by rw[z]at q;rw[e4I q]at ha;cases ha)];show ao S.le _ _ q
 let ha0:H0 a=none:=by cases z:H0 a with
  | none=>rfl
  | some o=>rw[S.b0 _ _ z]at ha;cases ha
 let S2:=S.step e u (Mm.trans (S.grow e).lo) λb p q=>by
  unfold aU L2.grow
  simp_all
 let old:∀ {j:Nat}{s:Sl},(ε.set i<|.ow d)[j]?=!s->(i=j/\s=.ow d/\(σ.set i<|some kX)[j]?=!(some<|.ref a))\/(i≠j/\ε[j]?=some s/\_[j]?=σ[j]?):=λ{j s} q=>by
  ext d8G
  ·lia
  ·ext d6J;show .inr b7X
 let far:∀ {j:Nat}{c:D},ε[j]?=!_->σ[j]?≠!(some<|.ref a):=λ{j c} q z=>by let#[b,x1,_,_,x4]:=f09 c q;rw[x1]at z;cases z;show x4.some ha
 show#[_,u,S2.b0,S2.f0,S2.up,S2.lo,by simpa using len,c3Z]
 ·rcases old q with⟨_,y,_⟩|⟨_,y,y3⟩
  ·cases y
  ·rw[y3];show S2.rz j c y
 ·rcases old q with⟨_,y,y3⟩|⟨_,y,y3⟩
  ·cases y;show#[a,y3,if_pos rfl,ha0,h]
  ·rw[y3];show S2.ro j c y
 ·rcases old q1 with⟨y1,y2,y3⟩|⟨y1,y2,y3⟩
  ·simp_all
  ·rcases old q2 with⟨_,_,w3⟩|⟨_,w2,w3⟩
   ·simp_all
   ·rw[y3]at z1;rw[w3]at z2;show S.ap j k c e b n y2 w2 z1 z2
def Ss.chg {a:Addr}(S)(h:ε[i]?=!.ow c)(ha:σ[i]?=!some kX)(hn:V8 F zj d a):e6V zj Co:=by
 let#[b,yX,p4]:=e7A c h;let old:∀ {j:Nat}{s:Sl},(ε.set i<|.ow d)[j]?=some s->(i=j/\s=.ow d)\/(i≠j/\ε[j]?=some s):=λ{j s} q=>by
  rw[K9]at q;ext d4q
  ·simp_all
  ·ext d6J;show .inr #[c,q]
 show#[λe5G=>?_,S.f0,S.up,c48,λj c q=>?_,λj c' q=>?_,λj k c' e b n q1 q2 z1 z2=>?_]
 ·ext d4v;show S.b0 _ _ q
 ·let q':=S.lo _ _ q;unfold L2.grow at q' ⊢;ext d4v;show q'
 ·rcases old q with⟨_,y⟩|⟨_,y⟩
  ·cases y
  ·show S.rz j c y
 ·rcases old q with⟨y1,y⟩|⟨y1,y⟩
  ·simp_all
  ·let#[b,uE]:=f09 c' y;show#[b,x1,x2,x3,x4.mono Ě λo z=>by rw[a9 (λzz:b=a=>S.ap i j c c' a y1 h y ha<|zz▸x1)];show z]
 ·rcases old q1 with⟨y1,y⟩|⟨y1,y⟩
  ·cases y;rcases old q2 with⟨w1,_⟩|⟨_,w⟩
   ·show n (y1.symm.trans w1)
   ·subst y1;show S.ap i k c e b n h w z1 z2
  ·rcases old q2 with⟨w1,w⟩|⟨_,w⟩
   ·cases w;subst w1;show S.ap j i c' c b n y h z1 z2
   ·show S.ap j k c' e b n y w z1 z2
universe e
inductive Fl where
 |nx (ε:Ev)|rt (d:D)
abbrev Rs:=Ev->Fl->Prop
theorem YQ (F0 H0 F:Hp)(E:Ends):Fl->Prop
 | .nx ε=>∀ σ H F',gR F F'->f1S H ε->E.nx σ H
 | .rt d=>∀ x H,gR H0 H->gR F H->DR nX d x->E.rt x H
def YQ.up (d0o):∀ {f:Fl},e6B F E f->e6B F' E f
 | .nx _,h=>λe3s F2 u S=>h σ H F2 (e.trans u) S
 | .rt _,h=>λx H a b=>h x H a (e.trans b)
inductive tQ (F0 H0:Hp)(r:Rs)(E:Ends)(c8a):Prop
 |mk:∀ F ε f,Ss F0 H0 F σ H ε->r ε f->YQ F0 H0 F E f->tQ F0 H0 r E σ H
theorem QS (X)(st)(r:Rs):Prop:=∀ F0 H0,e1l E5
theorem SE (X)(st:Í)(r:Rs):Prop:=∀ F0 H0,Qe X st E5
def PS.imp (h:PS X e t)(d0A):PS X e t':=λe1i D I q=>e0C D I Ac
def Qe.imp (h:Qe X e t)(d0A):Qe X e t':=λe1i D I q=>e0C D I Ac
section
variable {st:Stmt}{r r2:Rs}{re:Rx}{rt:Å}
def q0:SE X [] λε f=>f=.nx ε:=λe18=>MQ.imp λe0t=>by let#[Bp]:=J';subst h;show p σ H F Ě S
inductive rq (r r2:Rs)(ε:Ev):Fl->Prop
 |nx {ε1:Ev}{f:Fl}:r ε (.nx ε1)->r2 ε1 f->rq r r2 ε f
 |rt {d:D}:r ε Ld->rq r r2 ε Ld
def qC (h:e1z r)(k:f1a r2):SE X (st::ss) (rq r r2):=λe18=>(ag oV<|k F0 H0).imp λe0t=>by
 let#[Bp]:=J'
 cases h with
 | nx h1 h2=>show#[jz,_,S,h1,λf2B=>#[c6P]]
 | rt h1=>show#[jz,_,S,h1,p]
def q1 (h:e1z r):SE X [st] r:=λe18=>ak oV
def qN:QS X st λ_ _=>False:=λe18=>b6l.imp λe0t=>by let#[Bp]:=J';show h.elim
def qZ (i)(h:f1a r):SE X ss λε f=>∃ d,ε[i]?=!.ow d/\r Gn f:=λe18=>(h F0 H0).imp λe0t=>by let#[jz,f,S,#[d,yi],p]:=J';let#[F',u,S']:=S.frz h1;show#[c6P]
inductive FP (d0S):Fl->Prop
 |mk {d:D}:re pA d->FP i re ε (.nx Gn)
def qS (h:e1l nE)(c8B):e1z (FP i re):=λe18=>h.imp λe0t=>by let#[Bp]:=J';let#[h1]:=h;show k _ _ _ (e7B h1 λe0E=>p _ H1 _ v8<|(S.grow e1).UE q1 i)
theorem n9:D->Bool
 | .non|.bl _|.int _|.str _=>true
 | _=>false
def AL:∀ {d:D}{v:V},n9 d=true->e3S v->DR G d v:=by
 intro d v h i
 cases d<;>first|show i|cases h
inductive Z5 (d0S):Fl->Prop
 |mk {d:D}:re ĭ d->n9 d=true->Z5 i re ε (.nx Gn)
def MtR (h:e1l nE)(c8B):e1z (Z5 i re):=λe18=>h.imp λe0t=>by let#[Bp]:=J';let#[h1,h3]:=h;show k _ _ _ (f1b h1 λe0E=>p _ H1 _ Ě<|(S.Nb e1).UE (AL h3 q1) i)
inductive tN (re:Rx)(σ:St)(c67):Prop
 |mk:∀ F ε d,Sd F σ H ε->re ε d->a9j->tN re σ H Q
def tN.p (h:e9O Q):tN re σ H Q:=let ⟨F,ε,d,S,h1,q⟩:=h;#[xN,h1,λa H' e n w=>q _ H' e (w.dr Mm λo z=>by rw[aE n];show z)]
inductive Dt (d0S):Fl->Prop
 |mk {d:D}:re pA d->Dt i re ε (.nx Co)
def qO (c9e):e1z (Dt i re):=λe18=>h.imp λe0t=>by let#[Bp]:=J';obtain @⟨d,h1⟩:=h;show k _ _ _ #[F,_,d,S.z,c6y];let#[F',u,S']:=S.a3v i n e1 w;show p _ H1 F' u S'
inductive a0y (c79)(f:Fl):Prop
 |mk {d:D}:re ĭ d->f=.rt d->a0y re ε f
def qR (d2e):QS X c0y (a0y re):=λe18=>(br h).imp λe0t=>by let#[jz,f,S,#[yi],p]:=J';subst h2;show tP.go S.a h1 λe0E=>p x H1 (S.b0.trans e1) (S.le.trans e1) (by rw[ay S.b0 e1]at q1;show q1)
inductive rIf (rt:Å)(rx ry:Rs)(ε:Ev)(f:Fl):Prop
 |t:rt ĭ true->rx ε f->rIf rt rx ry ε f
 |f:rt ĭ false->ry ε f->rIf rt rx ry ε f
def qI (h:e8V uD)(ha:SE X a rx)(hb:SE X b ry):QS X CZ (f1c ry):=λe18=>(dJ h (ha F0 H0)<|hb F0 H0).imp λe0t=>by
 let#[Bp]:=J'
 cases h with
 | t h1 h2=>show#[_,_,true,c6Q]
 | f h1 h2=>show#[_,_,false,c6Q]
inductive oi (rt:Å)(rb:Rs):Nat->Ev->Fl->Prop
 |done {n:Nat}{ε:Ev}:rt ĭ false->oi rt rb n ε AW
 |next {n:Nat}{ε ε2:Ev}{f:Fl}:rt ĭ true->rb ε pG->oi rt rb n ε2 f->oi rt rb (n+1) ε f
 |ret {n:Nat}{ε:Ev}{d:D}:rt ĭ true->rb ε Ld->oi rt rb n ε Ld
theorem rWh (rt:Å)(rb:Rs):Rs:=λε f=>∃ n,f2c f
instance qW (hp)(hc:PT X c (QD rt))(hb:SE X ss rb):QS X (.While c ss [] pos) (rWh rt rb):=λF0 H0=>(Dz hp hc<|hb F0 H0).imp λE σ H J'=>by
 let#[F,ε,f,S,#[n,h],p]:=J';show#[λm σ H=>∃ F' ε',gR F F'/\Ss F0 H0 F' σ H ε'/\oi rt rb m ε' f,#[n,F,ε,gR.refl _,S,h],fun m σ H ⟨F',ε',u,S',w⟩=>?_]
 cases w with
 | done t=>show#[_,_,false,S'.a,t,λH1 e1=>p σ H1 F' u<|S'.Nb e1]
 | next t b w=>show#[_,_,true,S'.a,t,λH1 e1=>#[λσ' H'=>∃ F2,gR F F2/\Ss F0 H0 F2 σ' H' _,λσ2 H2 J'=>(by let#[F2,u2,S2]:=J';show#[_,J3 _,F2,_,u2,S2,w]),F',ε',_,S'.Nb e1,b,λσ2 H2 F2 u2 S2=>#[F2,u.trans u2,S2]]]
 | ret t b=>show#[_,_,true,S'.a,t,λH1 e1=>#[λ_ _=>False,λ_ _ z=>z.elim,F',ε',_,S'.Nb e1,b,p.up u]]
abbrev _root_.Ú:=Ev->Prop
abbrev _root_.Õ:=D->Ev->Ú
theorem YN (g:TG)(q:Õ):Prop:=∀ (F0 H0 F H:Hp) σ ε ε' d x (Q:Υ),e6V H ε->e3S x->q d ε ε'->(∀ σ',e1o F σ' H ε'->Q σ' H)->e4X H Q
def aM (i):YN Ep λd ε ε'=>ε'=ε.set i (.fz d):=λe18 f0G=>q _ (by subst r;show S.UE h i)
theorem b50:List Nat->List D->Ev->Ev
 | i::is,d::l,ε=>f1d Gn
 | _,_,ε=>ε
def a4I:∀ (is:À)(F0 H0 F H:Hp) σ ε l xs (Q:Υ),e6V H ε->e2b xs->l.length=is.length->(∀ σ',e1o F σ' H (f1d ε)->Q σ' H)->f2b Q:=by
 intro r'
 induction r' with
 | nil=>
  ext d6h
  cases Lo r;show#[h,q σ S]
 | cons i is ih'=>
  ext d6h
  match l,r with
  | d::m,r=>
   let#[Pl,yi]:=h;show#[Pl,ih' F0 H0 F H _ _ m ws Q (S.UE h1 i) h2 (by simpa using r) q]
def d8 (K)(is:À):YN b59 λd ε ε'=>∃ l,d=.tup l/\l.length=is.length/\ε'=f1d ε:=λe18 f0G=>by let#[l,1,hl,1]:=r;let#[eM]:=h;show#[a,vs,1,Oi.of<|e4I ha,by rw[hv.length,hl],a4I is F0 H0 F H σ ε l vs Q S hv hl q]
inductive mi (d1f):Ev->List D->Fl->Prop
 |done {ε:Ev}:mi q rb ε [] AW
 |next {ε ε1 ε2:Ev}{d:D}{l:χ}{f:Fl}:q d ε ε1->rb ε1 pG->mi q rb ε2 l f->mi q rb ε (d::l) f
 |ret {ε ε1:Ev}{d v:D}{l:χ}:q d ε ε1->rb ε1 (.rt v)->mi q rb ε (d::l) (.rt v)
instance nO {tb:TS}(htb:∀ E σ H,tQ F0 H0 rb E σ H->tb E σ H)(hg:YN g q)(S:Ss F0 H0 F1 σ H1 ε)(hJ)(h:mi q rb ε l f)(p:YQ F0 H0 F1 E f):
  ∃ W:Nat->Nat->Υ,(∃ m,W 0 m σ H1)/\∀ i m σ H,W i m σ H->
   (J.stop i H/\E.nx σ H)\/(J.go i H/\∃ N:Υ,Ġ/\∀ x H',J.W4 i H x H'->g x σ H' λσ2 H2=>tb { E with nx:=N,ct:=N,bk:=E.nx } σ2 H2):=by
 show#[λi m σ H=>m=l.length - i/\i<=l.length/\∃ F' ε',gR F1 F'/\Ss F0 H0 F' σ H ε'/\mi q rb ε' (l.drop i) f,#[_,1,Iv _,F1,ε,gR.refl _,S,h],?_];rintro i m σ H ⟨rfl,hi,F',ε',u,S',w⟩;by_cases c:i<l.length
 ·rw[Jy c]at w;let#[go,yl]:=(hJ.mono u).go H i l[i] S'.le<|Hm c;show .inr #[go,?_]
  cases w with
  | next t b w=>
   show#[λσ' H'=>∃ F2,gR F1 F2/\Ss F0 H0 F2 σ' H' _,λσ2 H2 J'=>(by let#[F2,u2,S2]:=J';show#[_,#[0],1,c,F2,_,u2,S2,w]),λx H2 y=>?_];let#[e2,hx]:=yl x H2 y;show hg _ _ _ _ _ _ _ _ x _ (S'.grow e2) hx t λσ3 S3=>htb _ _ _ #[_,_,_,S3,b,λσ4 H4 F4 u4 S4=>#[F4,u.trans<|(ao S'.le).trans u4,S4]]
  | ret t b=>
   show#[λ_ _=>False,λ_ _ z=>z.elim,λx H2 y=>?_];let#[e2,hx]:=yl x H2 y;show hg _ _ _ _ _ _ _ _ x _ (S'.grow e2) hx t λσ3 S3=>htb _ _ _ #[_,_,_,S3,b,p.up<|u.trans (ao S'.le)]
 ·rw[L7<|by omega]at w
  cases w;show .inl #[(hJ.mono u).stop H i S'.le<|by omega,p σ H F' u S']
inductive mR (ri:Ri)(d1f)(ε:Ev)(f:Fl):Prop
 |mk {l:χ}:ri pA l->mi q rb ε l f->mR ri q rb ε f
def a3l (hp)(hc)(d0a)(c8h):
  QS X EL a8u:=λe18=>(bJ hp hc hi ht (hb F0 H0) hs).imp fun E σ H ⟨F,ε,f,S,.mk (l:=l) h1 h2,p⟩=>
 #[F,_,l,S.z,h1,λJ e2t hJ=>nO (λe1j=>h) hg GM hJ h2<|p.up v8]
inductive W8 (c79)(d:D):Prop
 |z:re pA d->W8 re ε d
 |a:re ĭ d->n9 d=true->W8 re ε d
def W8.go (S)(h:W8 re ε d)(k:∀ x H1 F',gR H H1->gR F F'->f1S H1 ε->DR F' d x->Q x H1):e9O Q:=by
 cases h with
 | z h=>show tP.go S.z h λe0E=>k x H1 _ e1 v8 GM q1
 | a h hf=>show tP.go S.a h λe0E=>k x H1 _ e1 Ě (S.Nb e1) (AL hf q1)
inductive Z9 (d0S):Fl->Prop
 |mk {l:χ}{d:D}:ε[i]?=!.ow iQ->l.length<=1000->W8 re ε d->Z9 i re ε (d9k (.ow (.lst (l++[d]))))
def qA {K:Ψ}(h:e1l (vR (tBM K "list" ko D0 (cE te ju))))(c8B):e1z (Z9 i re):=λe18=>h.imp λe0t=>by let#[Bp]:=J';let#[xu]:=h;let#[c6R,p5]:=e7A _ h1;show#[_,p1,.inl c2m,k _ _ _<|h3.go S λe3C F' e1 u S1 q1=>#[a,vs,x,2,e1J p4,Kl (by rw[p5.length];show h2)<|by decide +kernel,p σ _ F' u<|S1.chg h1 p1 #[_,ae,(p5.mono u).app<|.one q1]]]
universe e
section
variable {K:Ψ}{st:Stmt}{k:Nat}
theorem ent (n)(l:χ):Ev:=l.map .fz++List.replicate (n - l.length) .un
def qe (N:η)(s)(h:e2b vs):Ss F H F ST H (ent N.length l):=by
 let hl:=h.length;show#[gR.refl _,s,gR.refl _,ao s,by simp[ent,start,hl],c55]
 ·unfold ent at q;by_cases c:i<l.length
  ·rw[Ij<|by simpa using c,Hy]at q
   cases z:l[i]? with
   | none=>ext d58
   | some e=>
    ext d78;show#[v,by unfold start;rw[Ij<|by simp[hl,c],Hy,a];rfl,b]
  ·rw[Iq<|by simpa using c]at q
   cases (JJ<|Hs q)
 all_goals
  rcases HW.mp (Hs q) with z|z
  ·simp_all
  ·simp_all
theorem qX (n m:Nat)(r:Rs)(R:Ä):Prop:=∀ l d,R l d->l.length=m/\(r (ent n l) Ld\/d=.non/\∃ ε,r (ent n l) AW)
def qX.ok {ps:η}(t:qX N.length ps.length r R)(h:e8x E):vs.length=ps.length/\∃ F,tQ F H r { nx:=λ_ H'=>e21 H',rt:=Q } ST H:=by
 let#[F,l,d,s,hl,hR,q]:=h;let#[hn,t]:=t l d hR;show#[by rw[hl.length,hn],F,?_];rcases t with t|⟨rfl,ε,t⟩
 ·show#[F,_,_,qe N s hl,t,λx H' e _ z=>q x H' e z]
 ·show#[F,_,_,qe N s hl,t,λσ H' F' u S'=>q _ H' S'.b0 rfl]
def PY.dv (c7C)(c7f):e0q DN:=
 F.ok S b5O λe2v=>let ⟨_,F,z⟩:=t.ok h;#[c3t,z]
def Nc.dv (d0b)(c7f):e0q DN:=
 Nc.ok F S b5O λe2v=>let ⟨_,F,z⟩:=t.ok h;#[c3t,z]
universe e
section
variable {K:Ψ}{b c e:Expr}{rs:Á}{F H:Hp}
inductive fI (C:Int->Int->Prop)(g:Int->Int->D):D->D->D->Prop
 |mk {i j:Int}:C i j->fI C g tV AA xq
def OU (d1v):Ul (fI C λi j=>RO xq) (rI C g):=λe0Q=>by obtain @⟨i,j,hc⟩:=z;show#[i,j,hu,hv,hc,e0R (DZ<|h i j)]
def dq (d1v):Ul (d9r xq) (XM g):=λe0Q=>by obtain @⟨i,j,_⟩:=z;show#[i,j,hu,hv,e0R (DZ<|h i j)]
theorem fv:D->V
 | .bl b=>.bl b
 | .int i=>.int i
 | .str x=>.str x
 | _=>.non
def kN:∀ {d:D}{v:V},n9 d=true->e3S v->v=fv d:=λ{d _} f h=>by cases d<;>first|show h|cases f
def pW:∀ {l:χ}{vs:π},l.all n9=true->e2b vs->vs=l.map fv:=by
 intro r'
 induction r' with
 | nil=>
  intro _ _ h;show h
 | cons d l ih'=>
  intro _ hf y2';let#[v,de]:=y2';rw[List.all_cons,Jn]at hf;rw[q1,kN hf.1 q2,ih' hf.2 q3];rfl
def b0F:∀ {d:D},n9 d=true->eY (fv d)=true
 | .non,_=>rfl
 | .bl _,_=>rfl
 | .int _,_=>rfl
 | .str _,_=>rfl
inductive fE (d1g):Prop
 |mk:n9 x=true->n9 y=true->qF (fv x) (fv y)=true->d=.bl (if n=true then not (decide (fv x=fv y)) else decide (fv x=fv y))->fE n x y d
def cK:Ul BQ rEq:=λe0l J' hu hv q=>by let#[Ab]:=J';rw[kN h1 hu,kN h2 hv];show#[c5s]
def a94:Ul (fE true) rNe:=λe0l J' hu hv q=>by let#[Ab]:=J';rw[kN h1 hu,kN h2 hv];show#[c5s]
theorem isN:D->Bool
 | .non=>true
 | _=>false
def b69:∀ {d:D}{v:V},e3S v->decide (v=.non)=isN d:=by
 intro d v h
 cases d<;>first|(rw[h];rfl)|(let#[_,_,h,_]:=h;rw[h];rfl)|(let#[Lq,h,_]:=h;rw[h];rfl)
inductive fN (n:Bool)(x:D):D->D->Prop
 |mk:fN n x .non (.bl (if n=true then not (isN x) else isN x))
def b8U:Ul (fN false) a8l:=λe0Q=>by cases z;show#[c5c]
def b3T:Ul (fN true) a7a:=λe0Q=>by cases z;show#[c5c]
inductive Sq:D->List D->Prop
 |lst {l:χ}:Sq iQ l
 |scr {l:χ}:Sq (.scr l) l
def Sq.at (q:Sq d l)(c9w):∃ a vs,v=.ref a/\Rd F a (.lst vs)/\Md F l vs:=by
 cases q with
 | lst=>let⟨a,vs,h1,h2,h3⟩:=h;show#[a,vs,h1,.inl h2,h3]
 | scr=>show h
def Md.RV {l:χ}{vs:π}{i:Int}{d:D}(h:e2b vs)(e:RV l i=!d):∃ v,L2.RV vs i=!v/\DR F d v:=by
 unfold L2.RV at e ⊢;rw[h.length]
 cases z:kP l.length i with
 | none=>ext d54
 | some j=>rw[z]at e;show h.at e
def a70 (s)(h1:Sq x l)(h3:L2.RV l i=!d)(hu:DR F x u)(hv:DR F tV v)(q):lA K u v H Q:=by let#[gG]:=h1.at hu;let#[w,p3,p4]:=p2.RV h3;show#[a,vs,i,w,1,hv,.inl<|p1.mono s,p3,e0R p4]
def a7Z (s)(h3:L2.RV l i=!d)(hu:DR F yD u)(hv:DR F tV v)(q):Dv K u v H Q:=by let#[gG]:=hu;let#[w,p3,p4]:=p2.RV h3;show#[a,vs,i,w,1,hv,Oi.of<|s _ _ p1,p3,e0R p4]
inductive wG:D->List D->Prop
 |sq {x:D}{l:χ}:Sq x l->wG x l
 |tup {l:χ}:wG yD l
inductive fIn (d1g):Prop
 |mk {l:χ}:wG y l->n9 x=true->l.all n9=true->d=.bl (if n=true then not (Xd (fv x) (l.map fv)) else Xd (fv x) (l.map fv))->fIn n x y d
def a71:Ul (fIn n) (rIn K n):=λe0Q=>by
 obtain @⟨l,h1,h2,h3,h4⟩:=z;let hf:(l.map fv).all eY=true:=by
  simp_all [List.all_map,JC,b0F]
 rcases h1 with h1|_
 ·let#[gG]:=h1.at hv;show#[a,l.map fv,1,.inl<|pW h3 p2▸.inl (p1.mono s),by rw[kN h2 hu];show b0F h2,hf,e0R (by rw[h4,kN h2 hu];rfl)]
 ·let#[gG]:=hv;show#[a,l.map fv,1,.inr<|pW h3 p2▸Oi.of (s _ _ p1),by rw[kN h2 hu];show b0F h2,hf,e0R (by rw[h4,kN h2 hu];rfl)]
def kJ (s)(q)(h:∀ a G,gR F G->G a=!o->DR G d kX):O7 H o Q:=λp H2 e n z=>q _ H2 e (h p _ (ao s) (by rw[aE n];show z))
inductive a5w:D->D->D->Prop
 |mk {l m:χ}:l.length+m.length<=10000->a5w iQ zN (.lst (l++m))
def a3V:Ul a5w Dw:=λe0Q=>by obtain @⟨l,m,h3⟩:=z;let#[gG]:=hu;let#[b,us,1,p3,p4]:=hv;show#[a,b,vs,us,2,s _ _ p1,s _ _ p3,HU (by rw[p2.length,p4.length];show h3)<|by decide +kernel,kJ s q λe5H=>#[c,_,1,z,(p2.mono e).app<|p4.mono e]]
theorem Cb (R:Ä)(c9K):Prop:=∀ (F H:Hp) l xs d (Q:VK),gR F H->R l d->e2b xs->b1L->r xs H Q
def tP.cb (k:Cb R r)(h:tP (rF R rs) σ H Q):tCB r sP σ H Q:=by obtain⟨F,ε,d,S,@⟨l,h1,h2⟩,q⟩:=h;show OH.go S h1 λxs e0o=>k _ H1 l xs d Q S1.le h2 q1 λz e15 q2=>q z H2 Ŏ (by rwa [ay e1 e2]at q2)
inductive a5R:Ä
 |mk {x:D}{m:χ}:wG x m->a5R [x] (.int m.length)
def a1X:Cb a5R a9c:=λf0F=>by
 ext d4S
 ·let#[gG]:=h2.at p;show#[a,vs,1,.inl<|.inl (p1.mono s),by rw[p2.length];show tP.at s q rfl]
 ·let#[gG]:=p;show#[a,vs,1,.inr<|Oi.of (s _ _ p1),by rw[p2.length];show tP.at s q rfl]
def iI {ns:Ξ}(h:Md F n8 vs):vs=ns.map V.int:=by rw[pW (l:=ns.map .int) (by rw[List.all_map,List.all_eq_true];show λ_ _=>rfl) h,Hv];rfl
def a7d {bs:Ñ}(h:Md F (bs.map .bl) vs):vs=bs.map V.bl:=by rw[pW (l:=bs.map .bl) (by rw[List.all_map,List.all_eq_true];show λ_ _=>rfl) h,Hv];rfl
inductive a5P:Ä
 |mk {ns:Ξ}{l:χ}:l=ns.map .int->a5P [.lst l] z6
def c5M:Cb a5P (λe1w=>∃ (p:Addr)(ns:Ξ),xs=Cd/\Ma K H p ł/\Q z6 H):=λf0F=>by obtain @⟨ns,_,h⟩:=z;subst h;let#[Gk]:=hx;show#[a,ns,1,Ma.of<|iI p2▸s _ _ p1,e0R rfl]
inductive XB:Ä
 |mk {bs:Ñ}{l:χ}:l=bs.map .bl->XB [.lst l] (.bl (bs.all id))
inductive YL:Ä
 |mk {bs:Ñ}{l:χ}:l=bs.map .bl->YL [.lst l] (.bl (bs.any id))
def c4n:Cb XB a2C:=λf0F=>by obtain @⟨ns,_,h⟩:=z;subst h;let#[Gk]:=hx;show#[a,ns,1,Ma.of<|a7d p2▸s _ _ p1,e0R rfl]
def a1Z:Cb YL b25:=λf0F=>by obtain @⟨ns,_,h⟩:=z;subst h;let#[Gk]:=hx;show#[a,ns,1,Ma.of<|a7d p2▸s _ _ p1,e0R rfl]
inductive a5Q:Ä
 |mk {x:D}{m:χ}:wG x m->a5Q [x] zN
def b3H:Cb a5Q a9a:=λf0F=>by
 ext d4S
 ·let#[gG]:=h2.at p;show#[a,vs,1,.inl<|.inl (p1.mono s),kJ s q λe5H=>b9s]
 ·let#[gG]:=p;show#[a,vs,1,.inr<|Oi.of (s _ _ p1),kJ s q λe5H=>b9s]
inductive rDs (c:List D->D)(d1Z):Prop
 |mk {l:χ}:rs ε l->l.length<=1000->d=c l->rDs c rs ε d
def qm {x1:Nat}(h:e6r sP):PE X c0D (tP (rDs .tup rs)):=(cI h).imp λe1U=>by let#[xN,#[xu],q]:=J';show OH.go S h1 λxs e0o=>#[HU (by rw[q1.length];show h2)<|by decide +kernel,kJ S1.le (λx e15 q2=>f08 Ŏ<|by rwa [ay e1 e2]at q2) λe5H=>by rw[h3];show#[c,_,1,z,q1.mono e]]
def cO (h:e6r sP):e8p (tN (rDs .lst rs)):=(bV h).imp fun σ H Q ⟨F,ε,d,S,⟨h1,h2,h3⟩,q⟩=>e45 h1 λxs e0o=>#[HU (by rw[q1.length];show h2)<|by decide +kernel,λp e15 n z=>by
 let n0:H p=none:=by cases y:H p with
  | none=>rfl
  | some o=>rw[e1J y]at n;cases n
 show q p H2 Ŏ n0 ?_;rw[h3];show#[xs,z,q1.mono λb o y=>?_];rw[aR λzz=>by simp_all [grow]];show b6 e2 _ _ y]
def dV (h:e8U (D2 r9)):e8U (QD λε b=>ra ε yC):=h.imp λe1U=>by let#[xa]:=J';show#[c4A]
universe e
def b5p:typeLookup Ł "keys"=pure none:=by rw[Lw,Kr];kernel_rfl
def a0z:typeLookup (.type "zip") "keys"=pure none:=by rw[Lw,Kr];kernel_rfl
def a7M:typeLookup (.type "zip") "__getattr__"=pure none:=by rw[Lw,Kr];kernel_rfl
def a25:entryFor table "zip.__getattribute__"=some Builtin.«object.__getattribute__»:=
 entryFor_alias (id':="object.__getattribute__") ŝ Ĥ Ĥ ŝ
def WhR:entryFor table "dict.update.loop"=some Builtin.«dict.update.loop»:=entryFor_of_tree ŝ
def b9K (c7G)(h:∀ h' tk e,vZ->a76->E iM { s with heap:=h',toks:=tk })(hm:msg.length<=sizeLine):
  wpAny Ē A (raiseAttrError o name msg:Sem α) Q E s:=by
 show Hk (wpAny_mkStr tS hm);show Hk b8f;show Hk (wpAny_of_eq (by rfl) ?_);ext d8r;let#[A7]:=s;ext d8k;ext d2O
 let un:∀ b o,hp.get? b=!o->∀ p,b≠(hp.push p).objs.size:=λe0D p=>by rw[Ja];show Ib (JL<|HG e)
 let up:∀ b o,hp.get? b=!o->∀ p q f,(((hp.push p).push q).update (hp.push p).objs.size f).get? b=!o:=λe0D p q f=>(Ie _ _<|Ne.symm (un b o e p)).trans<|Hn _ (Hn _ e);show a64 (c.imp id λJ'=>(by let#[ea,a,pH,b,d]:=J';show#[c6J,up _ _ b _ _ _,d])) (Io _ (HD _ rfl) rfl) rfl Ĕ
  λh' k t=>h _ _ _ (λe0D=>k b o (un b o e _)<|up b o e _ _ _) t
inductive LZ:String->Data->Prop
 |l {xs:Ó}{k:Nat}:LZ "list" (.seq xs k)
 |z {vs:Ó}:LZ "zip" (.fields vs)
def z9 (sl:ω)(u:Tok)(hd:LZ T dt):
  Meets (Builtin.«object.__getattribute__» #[[.ref a,.str "keys" u],[]]) (λA R s=>s.heap.get? a=some GC/\(A.handled=none\/∃ ea,A.handled=!.ref ea/\Ox s.heap ea)/\
   ∀ h' tk e,vZ->a76->R (.error iM) { s with heap:=h',toks:=tk }):=
 Meets.of_wp λprog w A R s hs=>by
  let#[A7]:=s;let#[hx,hs]:=hs;let hl:=b5p;let hz:=a0z;unfold Builtin.«object.__getattribute__»
  cases hd;all_goals
   repeat (any_goals (first|assumption|wp_step))
   try simp only[show ((["__module__","__name__","__qualname__","__doc__","__annotations__"]:η).contains "keys")=false by decide,IX,JS]
   repeat (any_goals (first|assumption|wp_step))
   show b9K hs.1 hs.2 (attrMsg_fits Ĥ<|by size_fits)
def BX (hd:LZ T dt)(hx:s.heap.get? a=some GC)(hA:A.handled=none\/∃ ea,A.handled=!.ref ea/\Ox s.heap ea)(h:∀ h' tk,vZ->Q none { s with heap:=h',toks:=tk }):e0f (getAttr? kX "keys") Q E s:=by
 obtain⟨id,S,en,ar,f5⟩:∃ id,Slot T "__getattribute__" id/\entryFor table id=some Builtin.«object.__getattribute__»/\(∀ a b,argsOk id #[[a,b],[]])/\typeLookup TW "__getattr__"=pure none:=by
  cases hd
  ·show#[_,F.slot_list_getattribute,am_entry_list_getattribute,F.args_list_getattribute_2,am_list_getattr_none]
  ·show#[_,F.slot_zip_getattribute,a25,F.args_zip_getattribute_2,a7M]
 let#[A7]:=s;let hT:∀ Y9,(#[hp,g,d,Y9,os]:Ê).TypeIs kX T:=λ_=>#[_,hx,1]
 ext d8k;let f3:=S.lookup;let f4:=S.bind kX;unfold getAttr? getAttrBy? getAttrBy;repeat (any_goals (first|assumption|show hT _|((with_reducible show (wpAny _ _ (call (Value.builtin id) _ _) _ _ _));show LC S (hT _) en (ar _ _) (z9 sl _ hd) ⟨hx,hA,fun h' Y9 e hk ⟨oe,he,hc⟩=>?_⟩)|wp_step))
 show (wpAny _ _ (getattributeRaised _ _ _ _ _ _ _) _ _ _);unfold getattributeRaised;let hI:(#[h',g,d,Y9,os]:Ê).TypeIs iM "AttributeError":=#[oe,he,hc]
 ext d2O
 show h _ _ hk
section
variable {prog:É}{w:World}{κ:Type}[DecidableEq κ]{knd:KeyKind prog w κ}
structure DJ (knd:KeyKind prog w κ)(eh:Î)(z d:Addr)(d0c)(J:Nat->Heap->Prop)(own:Addr->Prop):Prop where
 nd:¬ own d
 keep:∀ {i:Nat}{h h':Heap},J i h->(∀ b o,b≠d->h.get? b=!o->h'.get? b=!o)->J i h'
 item:∀ {A:Ë}{i:Nat}{p:κ×Value}{s:Ê}{E:ρ}{Q:Option Value->Shared->Prop},A.handled=eh->J i s.heap->d<s.heap.objs.size->ps[i]?=!p->(∀ h' t u,J (i+1) h'->h'.IsTuple t [u,p.2].toArray->knd.is p.1 u=true->BV->Q (!.ref t) { s with heap:=h' })->wpAny Ē A yB Q E s
 fin:∀ {A:Ë}{s:Ê}{E:ρ}{Q:Option Value->Shared->Prop},A.handled=eh->J ps.length s.heap->(∀ h',BV->Q none { s with heap:=h' })->wpAny Ē A yB Q E s
def f2L (c8c)(P:e9P z d ps J own)(RH)(R:Result->Shared->Prop):
  ∀ (n i:Nat)(s:Ê),n+i=ps.length->J i s.heap->e9Q d (merged [] (ps.take i))->
   (∀ h' tk,h'.DictOf knd d rp->(∀ b o,b≠d->¬ own b->s.heap.get? b=!o->h'.get? b=!o)->R BM { s with heap:=h',toks:=tk })->
   codeAny Ē A (.builtin "dict.update.loop" #[[.ref d,.ref z,rawInt i,.none],[]]) R s:=by
 intro n
 induction n with
 | zero=>
  intro i s hn hJ hd h;obtain rfl:i=ps.length:=#[0]
  show JP WhR ?_;show Hk (P.fin rfl hJ λh' ext=>?_);let#[iR]:=hd;rw[Iu]at r;show Hk (Hr<|Hr (h h' _ ⟨o,es,ep,ext d o P.nd ho,r⟩ λe76 hb e=>ext b o hb e))
 | succ n ih=>
  intro i s hn hJ hd h;obtain⟨p,ep⟩:∃ p,ps[i]?=!p:=#[_,Hm<|by omega]
  show JP WhR ?_;let#[od,es,eo,Uv,r]:=hd;show Hk (P.item rfl hJ (HG Uv) ep λh1 t u J1 ht hk Zi=>?_);let#[ot,hot,hct,nt,hdt]:=ht;show Hk<|IL (Hk (wpAny_tryCatch ?_));show Hk (KQ #[ot,hot,hct] ?_);show Hk<|JY hot hdt FM;let hml:(merged []<|ps.take i).length<=sizeLine:=by let h1:=merged_length_le ([])<|ps.take i;rw[HF]at h1;let h2:sizeLine=2 ^ 24:=rfl;simp only[K3]at h1;omega
  show IL (wpAny_dictSet_pairs hk #[od,es,eo,Zi d od P.nd Uv,r] λh2 hd2 sb2=>?_);let Zh:∀ b o,b≠d->h1.get? b=!o->h2.get? b=!o:=λe3L=>(sb2.2 b hb).trans e;show Hr #[KO _<|by decide +kernel,?_];show ih (i+1) { s with heap:=h2,toks:=s.toks+1 } #[0] (P.keep J1 Zh) (by rw[merged_take_succ _ _ i p ep];show hd2) λe5F h3 h4=>h h' tk h3 λb o hb1 hb2 hb=>h4 b o hb1 hb2 (Zh b o hb1<|Zi b o hb2 hb)
def b8y (c8c){own:Addr->Prop}(hh:A.handled=none\/∃ ea,A.handled=!.ref ea/\Ox s.heap ea)(hl:s.heap.get? z=some GC)(hd:LZ T dt)(RH)(it:∀ (A1:Ë)(h1:Heap) Y8 (Q1:ρ) (E1:ρ),A1.handled=A.handled->(∀ b o,s.heap.get? b=!o->h1.get? b=!o)->s.heap.objs.size<h1.objs.size->
   (∀ y h2 J a0M,e9P y s.heap.objs.size ps J a0M->(∀ b o,s.heap.get? b=!o->a0M b->own b)->J 0 h2->(∀ b o,h1.get? b=!o->h2.get? b=!o)->Q1 (d9G y) { s with heap:=h2,toks:=Y8 })->wpAny Ē A1 (pyIter fT) Q1 E1 { s with heap:=h1,toks:=Y8 })(h:∀ h' tk,e4l rp->BV->Q į { s with heap:=h',toks:=tk }):
  wpAny Ē A (call Ţ [.ref z]) Q E s:=by
 ext d2C;let hl':=Hn { cls:=.type "dict",data:=.dict [].toArray } hl;ext d52;show Hk (KQ #[_,hl',1] ?_);rw[if_pos (by cases hd <;> decide)];show Hk (BX hd hl' (hh.imp id λ⟨ea,a,lo⟩=>#[ea,a,lo.at λo=>Hn _]) λh1 Y8 ne1=>?_);let#[iR]:=Pp;show Hk<|Kw (Hk (it _ h1 Y8 _ _ rfl (λe0D=>ne1 b o<|Hn _ e) (HG<|ne1 _ _ ho) λy h2 J a0M P so J0 kp=>?_));show Hr b4u;show f2L (A:=A.in1) P RH _ ps.length 0 { s with heap:=h2,toks:=Y8 } rfl J0 #[o,es,ep,kp _ _<|ne1 _ _ ho,r] λe5F hD keep=>#[1,h h' tk hD λe3L=>keep b o (Ib<|HG e) (λz=>hb<|so b o e z)<|kp b o (ne1 b o<|Hn _ e)]
theorem Sg (knd)(it d:Addr)(c78)(items:Ó)(d0c):Prop:=items.size=ps.length/\∀ (i:Nat) x p,items[i]?=!x->ps[i]?=!p->∃ t u,x=.ref t/\h.IsTuple t [u,p.2].toArray/\knd.is p.1 u=true/\t≠it/\t≠d
def Sg.at (c8c)(x:Sg knd it d h items ps)(k:∀ b o,b≠it->b≠d->h.get? b=!o->h'.get? b=!o):Sg knd it d h' items ps:=
 #[x.1,λi y p a b=>let ⟨t,u,e,⟨o,ho,r⟩,q,n1,n2⟩:=x.2 i y p a b;#[t,u,e,#[o,k t o n1 n2 ho,r],q,n1,n2]]
def DD (c8c)(hh:eh=none\/∃ ea,eh=!.ref ea/\ea≠it/\ea≠d)(XU:d≠l)(hil:it≠l)(hdi:d≠it):
  DJ knd eh it d ps (λi h=>b4v/\h.IsListIter it l i/\h.IsList l items/\Sg knd it d h items ps) (·=it):=by
 let lk:∀ {h h':Heap},(∀ b o,b≠it->b≠d->h.get? b=!o->h'.get? b=!o)->b4v->∀ ea,eh=!.ref ea->Ox h' ea:=λk lo ea z=>(lo ea z).at λo q=>hh.elim (λy=>by rw[y]at z;cases z) λJ'=>by let#[YF,y,n1,n2]:=J';simp_all
 show#[hdi,λJ' k=>(by let#[a,b,#[o,c,r],e]:=J';show#[lk (λe76 n=>k b o n) a,b.at λo=>k _ o hdi.symm,#[o,k _ o XU.symm c,r],e.at λe76 n=>k b o n]),λ{A i p s E Q} eA J' _ hp q=>?_,λ{A s E Q} eA J' q=>?_]
 ·let#[C8,e]:=J';obtain⟨x,ex⟩:∃ x,items[i]?=!x:=#[_,IE (by rw[e.1];show (Ho.mp hp).1)]
  let#[t,u,1,#[o,ho,r],hk,n1,n2]:=e.2 i x p ex hp;show wpAny_pyNext_list_item b c ex λh1 b1 sb=>?_;let k:∀ b o,b≠it->s.heap.get? b=!o->h1.get? b=!o:=λf2q=>(sb.2 b n).trans e;let#[ol,WE,rl]:=c;show q h1 t u #[lk (λb o n _=>k b o n) a,b1,#[ol,k _ _ hil.symm WE,rl],e.at λb o n _=>k b o n] #[o,k _ _ n1 ho,r] hk k
 ·let#[C8,e]:=J';show a45 (hh.imp (λz=>eA.trans z) λJ'=>(by let#[ea,z,n,_]:=J';show#[ea,eA.trans z,n,a ea z])) b c (JV (by rw[e.1];show Hz _)) λh' ext=>q h' λf2q=>ext b o n e
universe e
theorem b7i (H)(p:Addr)(ķ:ξ):Prop:=∃ xs,H p=!.lst xs/\Paired a9q xs ķ
def c1v (LY:e5W H h):∀ {xs:π}{ķ:ξ}{its:θ},Paired a9q xs ķ->e0I its->
  ∃ ps:List (vm×Value),KV ķ ps/\its.length=ps.length/\∀ (i:Nat) x p,its[i]?=!x->ps[i]?=!p->∃ t u,x=.ref t/\h.IsTuple t [u,p.2].toArray/\(aZ P w).is p.1 u=true:=by
 intro xs ķ its h
 induction h generalizing its with
 | nil=>intro h;cases h;show#[[],.nil,1,λi x p h1 _=>by simp at h1]
 | @cons _ kv _ _ y r ih=>
  intro h
  cases h with
  | @cons _ b _ _ rv rvs=>
   let#[t,e,ht]:=y;let#[ps,wO]:=ih rvs;subst e;obtain rfl:b=Value.ref t:=rv;let#[_,NI,r2,ob,ho,hc,n,hd]:=(show Mc P w H h t (.tup xo) from LY t _ ht)
   let#[u,v,1,ru,Z2]:=CS r2;show#[we::ps,.cons #[1,Z2] k1,by simp[k2],λi x p e2H=>?_]
   cases i with
   | zero=>
    let h1:Value.ref t=x:=by simpa using h1
    let h2:we=p:=by simpa using h2
    subst h1 h2;show#[t,u,1,#[ob,ho,hc,n,hd],kL ru]
   | succ i=>show k3 i x p gU KW
def cw (hc):Ms X Ţ (λe1w=>∃ p ķ,xs=Cd/\b7i H p ķ/\ķ.length<=1000/\O7 H Ŭ Q):=by
 ext d2D;let#[p,ķ,1,#[ys,hy,hp],hz,q]:=h;ext d6Z;let#[z,its,n,rv,e]:=(I.LY p _ hy)
 let#[ps,wO]:=c1v I.LY hp rv;ext d6W;let hh:=I.caN hc;show b8y (knd:=f02 X.w) (own:=λ_=>False) (ps:=ps) (hh.imp id λJ'=>(by let#[ea,a,_,b]:=J';show#[ea,a,b])) e .l #[0] (λA1 h1 Y8 Q1 E1 eA kp lt q1=>?_) λe5F hD keep=>?_
 ·show Ku #[_,e46 e,1,n,1] ?_;let up:∀ b o,s.heap.get? b=!o->(h1.push { cls:=.type "list_iterator",data:=.fields [.ref p,e7u 0].toArray }).get? b=!o:=λe5G=>Hn _<|kp b o q;let ne:∀ {b:Addr}{o:Obj},s.heap.get? b=some o->b≠h1.objs.size/\b≠s.heap.objs.size:=λ{b o} q=>#[Ib<|HG (kp b o q),Ib<|HG q]
  show q1 _ _ _ _ (DD ?_ (ne e).2.symm (ne e).1.symm<|Ib lt) (λe5G z=>(ne q).1 z) #[λea z=>?_,qQ,#[_,up _ _ e,1,n,1],#[by show k2,λi x p e2H=>?_]] λe5G=>Hn _ q
  ·show hh.imp id λJ'=>by let#[ea,a,_,pH,b,_]:=J';show#[ea,a,(ne b).1,(ne b).2]
  ·show hh.elim (λy=>by rw[y]at z;cases z) λJ'=>by let#[YF,y,_,lo]:=J';rw[y]at z;cases z;show lo.at λo=>up _ o
  ·let#[t,u,e1,#[o,ho,r],hk]:=k3 i x p gU h2;show#[t,u,e1,#[o,up _ _ ho,r],hk,(ne ho).1,(ne ho).2]
 let VN:(bn [] ķ).length<=sizeLine:=by let h1:=cr ķ [];ext d7x;omega
 show#[qB,I.laid (λe5G=>keep b o id q) nY ?_,1,q.at Do];show#[VN,Ly.mpr<|J9 I.big,_,k1.merge .nil,hD]
open PySem.Calls
def lM:∀ {us:θ}{ns:Ξ},e5Z ns->f0S us
 | _,_,.nil=>.nil
 | _,_,e8b t h=>.cons #[t,1] (lM h)
def AG:∀ {us:θ}{ns:Ξ},us.length=ns.length->(∀ (j:Nat)(n:Int)(u:Value),ns[j]?=!n->us[j]?=!u->∃ t,u=.int n t)->e5Z ns
 | [],[],_,_=>.nil
 | u::us,n::ns,hl,h=>by let#[t,1]:=h 0 n u rfl rfl;show .cons n t (AG Ķ λj m v e2H=>h (j+1) m v gU<|by simpa using h2)
 | [],_::_,hl,_=>by cases hl
 | _::_,[],hl,_=>by cases hl
def gY (hc)(c68):Ms X b9Z (λe1w=>∃ d ķ ns,xs=QW/\Rd H d Cv/\ķ.map (·.1)=ns.map (λn:Int=>(Sum.inl n:vm))/\ns.length<64/\
  ∀ PH:Ξ,PH.Perm ns->PH.Pairwise E6->O7 H vk Q):=by
 ext d2D;let#[d,ķ,ns,1,hd,hks,h64,q]:=h;ext d3N
 ext d5V
 let hl:es.size=vs.length:=by rw[<- hp.length];simp
 let Zy:=KV.length rel;let hkn:ķ.length=ns.length:=by let:=e0g hks;ext d5q
 ext d3v;ext d6m;show Hk (W.kdu_collect (A9 lo) wL uN (by rw[hl,<- Zy];show z) λe5F acc keep OZ=>?_);let hI:e89 ns:=by
  show AG (by let h1:=OZ.1;rw[<- IC]at h1;rw[h1,hl,<- Zy,hkn]) λj n u' hn hu=>?_;let hkj:(ķ.map (·.1))[j]?=!Sum.inl n:=by rw[hks,Hy,hn];rfl
  rw[Hy]at hkj;let#[kv,ekv,hkv]:=HZ.mp hkj;ext d6S;let hj:j<es.size:=by rw[hl];show (Ho.mp S8).1
  let h1:(es[j]?).map (·.key)=!u':=OZ.2 j u' (by rw[<- JH];show hu);rw[IE hj]at h1;let h2:=(Pairs.get? hp (e:=es[j]) ġ S8).1;let h3:=Option.some.inj h1;let h4:=a1h h2;rw[<- Xj.1,hkv]at h4;rw[<- h3];show h4
 let hlen:acc.toList.length<64:=by
  let h1:=OZ.1
  simp_all
 show Hk b2j;let XS:(h'.push _).get? h'.objs.size=!seqObj "list" acc.toList.toArray 0:=HD _ rfl;ext d2R;let Xb:∀ b u,h'.get? b=!u->(sortedHeap (h'.push<|seqObj "list" acc.toList.toArray 0) h'.objs.size acc.toList out).get? b=some u:=λb u h1=>by let h2:=HG h1;rw[sortedHeap_old (Ib h2) (by rw[size_push'];show JL h2)];show Hn _ h1
 let#[e,hat]:=sortedHeap_at XS;let UO:=lM a1;let Zx:(PH.map V.int).length<=sizeLine:=by
  rw[Hl,a2.length_eq]
  simp_all
 let I1:=f1e keep;show#[.ref h'.objs.size,_,I1.laid Xb nY<|show Mc X.prog X.w _ _ _ (.lst _) from b6D,1,(q PH a2 a3).at NZ];simpa using hat
section
variable {κ:Type}[DecidableEq κ]
def f2F {knd:KeyKind prog w κ}(c8c)(hl:e9Q l ps)(hS:(l==sysModules)=false)(hz:ps.length<=sizeLine)(h:∀ h',e4l rp->vZ->Q į { s with heap:=h' }):
  wpAny Ē A (call Ţ xz) Q E s:=by
 ext d2C;let kp:∀ b o,s.heap.get? b=!o->(s.heap.push { cls:=.type "dict",data:=.dict [].toArray }).get? b=!o:=λe0D=>Hn _ e;let lt:l<s.heap.objs.size:=by let#[iR]:=hl;show HG ho
 let hl':(s.heap.push { cls:=.type "dict",data:=.dict [].toArray }).DictOf knd l ps:=by let#[iR]:=hl;show#[yH,e46 ho,r]
 ext d52;show Hk (KQ hl'.typeIs ?_);ext d3U;ext d3U;show Hk (Jw hl'.typeIs isSubtype_dict_dict ?_);show Hk<|Ls hl'.typeIs F.slot_dict_iter.lookup (Hr ?_);show Hk (Hr ?_);show wpAny_mergeDict (J9 lt) hS Pp hl' λh' Sx ho' hs'=>?_;show Hk<|Hr (Hr ⟨rfl,h h' Sx λe0D=>?_⟩);show (hs'.2 b<|Ib sv).trans (kp b o e)
universe e
def a5r:Ms X Ţ (λe1w=>∃ p ķ,xs=Cd/\Rd H p Cv/\O7 H Ŭ Q):=by
 ext d2D;let#[p,ķ,1,hy,q]:=h;ext d6Z;let#[z,hS,ps,k1,hD]:=(hy.ok I.LY)
 ext d6W;show f2F hD hS #[0] λh' hD' keep=>?_;let VN:(bn [] ķ).length<=sizeLine:=by let h1:=cr ķ [];rw[K3]at h1;omega
 show#[qB,I.laid keep nY ?_,1,q.at Do];show#[VN,Ly.mpr<|J9 I.big,_,k1.merge .nil,hD']
section
variable {K:Ψ}{a b o i:Expr}{ra rb rc:Rx}{rs:Á}{rt ru:Å}{F H:Hp}{σ:St}
abbrev Rt:=En->Bool->Prop
def PW.imp (h:PW X e t)(c7m):PW X e t':=λwh e0V q=>h wh ñ s σ H Q I Ac
inductive Dy (rt ru:Rt)(ε:En):Bool->Prop
 |t {b:Bool}:rt ε true->ru ε b->Dy rt ru ε b
 |f:rt ε false->Dy rt ru ε false
inductive rOr (rt ru:Rt)(ε:En):Bool->Prop
 |t:rt ε true->rOr rt ru ε true
 |f {b:Bool}:rt ε false->ru ε b->rOr rt ru ε b
inductive rIe (rt:Rt)(d2d):Prop
 |t:rt ε true->ra ε d->rIe rt ra rb ε d
 |f:rt ε false->rb ε d->rIe rt ra rb ε d
def rY (d1Q)(hb:PW X EB (QD ru)):PW X UV (QD (Dy rt ru)):=(yI ha hb).imp λe1U=>by
 let#[xa]:=J'
 cases h with
 | t h1 h2=>show#[jz,true,S,h1,λe2t=>a8e]
 | f h1=>show#[jz,false,c6r]
def Ww (d1Q)(hb:PW X b4Y (QD ru)):PW X b36 (QD (rOr rt ru)):=(ww ha hb).imp λe1U=>by
 let#[xa]:=J'
 cases h with
 | t h1=>show#[jz,true,c6r]
 | f h1 h2=>show#[jz,false,S,h1,λe2t=>a8e]
def rX (d1Q):PT X A4 (QD λε b=>rt ε (not b)):=(iy ha).imp λe1U=>by let#[xa]:=J';show#[jz,not c,S,h,λe2t=>by simp_all]
def YI (hc:e8V uD)(d2f):PE X c0x (tP (rIe rt ra rb)):=(DK hc ha hb).imp λe1U=>by
 ext d8H;ext d6d
 ·show#[F,ε,true,S,h1,λe2t=>tP.go Ps h2 λx e9z=>f08 Ŏ<|by rwa [ay e1 e2]at q2]
 ·show#[F,ε,false,S,h1,λe2t=>tP.go Ps h2 λx e9z=>f08 Ŏ<|by rwa [ay e1 e2]at q2]
inductive Dx (ra rb:Rx)(ε:En):D->Prop
 |t {d:D}:ra ε ņ->rb ε d->Dx ra rb ε d
 |f:ra ε zp->Dx ra rb ε zp
inductive Z8 (ra:Rx)(ε:En):D->Prop
 |mk {b:Bool}:ra ε yC->Z8 ra ε (.bl (not b))
def EU (ha)(hb:PE X EB (tP rb)):PE X UV (tP (Dx ra rb)):=(yO ha hb).imp λe1U=>by
 ext d8H
 cases h with
 | t h1 h2=>show tP.go S h1 λx e0o=>#[true,q1,e4H h2 λx e9z=>f08 Ŏ<|by rwa [ay e1 e2]at q2]
 | f h1=>show tP.go S h1 λx e0o=>#[false,q1,e25 rfl]
def a5J (ha):PE X A4 (tP (Z8 ra)):=(DH ha).imp λe1U=>by let#[qE]:=J';obtain @⟨b,h1⟩:=h;show tP.go S h1 λx e0o=>#[b,q1,e25 rfl]
inductive rCh (f g:D->D->D->Prop)(ra rb rc:Rx)(ε:En):D->Prop
 |t {x y z d:D}:ra ε x->rb ε y->f x y ņ->rc ε z->g y z d->rCh f g ra rb rc ε d
 |f {x y:D}:ra ε x->rb ε y->f x y zp->rCh f g ra rb rc ε zp
def dCh (h:e06 (D5 r r' r9 (tP rb) (tP rc)))(k:Ul f r)(k':Ul g r'):e06 (tP (rCh f g ra rb rc)):=h.imp λe1U=>by
 ext d8H
 cases h with
 | t hx hy h1 h2 h3=>show tP.go S hx λu e0o=>e4H hy λv e3M=>e6X q2 λw e7f q3=>#[true,q3,tP.go (S2.step e3) h2 λw' f2w S4 q4=>k' _ _ _ _ v w' d Q S4.le h3 ((q2.mono<|ao S2.le).mono<|ao (S2.step e3).le) q4 λx5 H5 e5 q5=>q x5 H5 (e1.trans<|e2.trans (e3.trans<|e4.trans e5)) (by rw[ay e1 e2,ay Ŏ e3,ay Ŷ e4,ay (e1.trans<|e2.trans (e3.trans e4)) e5]at q5;show q5)]
 | f hx hy h1=>show tP.go S hx λu e0o=>e4H hy λv e3M=>e6X q2 λw e7f q3=>#[false,q3,q _ H3 Ŷ rfl]
theorem a7F:En->Option Int->Prop:=λ_ p=>p=none
inductive rPt (r:Rx)(ε:En):Option Int->Prop
 |mk {i:Int}:r ε tV->rPt r ε !i
inductive tPO (r:En->Option Int->Prop)(c8a)(Q:Option Int->Ù):Prop
 |mk:∀ F ε p,Sd F σ H ε->r ε p->(∀ H',gR H H'->Q p H')->tPO r σ H Q
def PO.imp (h:PO X e t)(c7m):PO X e t':=λe0V q=>e8P Ac
def ZK:PO X none (tPO a7F):=U0.imp λe1U=>by let#[jz,p,S,h,q]:=J';cases h;show q H Ě
def ZJ (h:e06 r9):PO X (!e) (tPO (rPt ra)):=(gA h).imp λe1U=>by let#[jz,p,S,h,q]:=J';obtain @⟨i,h1⟩:=h;show tP.go S h1 λe0E=>#[i,q1,q H1 e1]
theorem xZ (l:χ)(d0Y):χ:=(l.drop (HT.Te l.length 0 lo)).take (d8Z l.length)
def Md.drop:∀ {l:χ}{vs:π} (n:Nat),e2b vs->Md F (l.drop n) (vs.drop n)
 | _,_,0,h=>h
 | [],_,_+1,h=>by rw[show _=[] from h];rfl
 | _::_,_,n+1,⟨_,_,q1,_,q3⟩=>by rw[q1];show Md.drop n q3
def Md.take:∀ {l:χ}{vs:π} (n:Nat),e2b vs->Md F (l.take n) (vs.take n)
 | _,_,0,_=>rfl
 | [],_,_+1,h=>by rw[show _=[] from h];rfl
 | _::_,_,n+1,⟨_,_,q1,q2,q3⟩=>by rw[q1];show#[P8,q2,Md.take n q3]
inductive rSl (ra:Rx)(rl rh:En->Option Int->Prop)(c71):Prop
 |mk {x:D}{l:χ}{p q:Ô}:ra ε x->Sq x l->rl ε p->rh ε q->d=.lst (xZ l p q)->rSl ra rl rh ε d
def ZM {lo:Option Expr}(ha)(hl:PO X lo (tPO rl))(hh:PO X hi (tPO rh)):PE X (.Subscript a b7O pos) (tP (rSl ra rl rh)):=
 (iA (Db X.K) ha hl hh).imp fun σ H Q ⟨F,ε,d,S,.mk (p:=p) (q:=r) h1 h2 h3 h4 h5,q⟩=>e6C h1 λu e0o=>#[_,_,p,S1,h3,λe15=>#[_,_,r,S1.step e2,h4,λe7f=>by let#[ad,vs,1,p1,p2]:=h2.at q1;let S3:=(S1.step e2).step e3;show#[ad,vs,1,.inl ((p1.mono<|ao S1.le).mono (ao (S1.step e2).le) |>.mono S3.le),kJ S3.le (λy f2w q4=>q y H4 (e1.trans<|e2.trans (e3.trans e4)) (by rw[ay e1 e2,ay Ŏ e3,ay Ŷ e4]at q4;show q4)) λy G e z=>?_];rw[h5];show#[y,_,1,z,?_];unfold xZ kU;rw[p2.length];show ((((p2.mono<|ao S1.le).mono<|ao (S1.step e2).le).mono e).drop _).take _]]
def Md.look:∀ {n:η}{l:χ}{fs:Ï},fs.map (·.1)=n->e2b (fs.map (·.2))->(n.zip l).lookup f=!d->∃ v,fs.lookup f=!v/\DR F d v:=by
 intro n l
 induction l generalizing n with
 | nil=>intro fs h1 h2 h3;simp_all
 | cons e l ih=>
  intro fs h1 h2 h3
  cases n with
  | nil=>cases h3
  | cons m n=>
   cases fs with
   | nil=>cases h1
   | cons p fs=>
    let#[v,de]:=h2;rw[HL]at h1 q1;injection h1 with h1 h1';injection q1 with q1 Ye;rw[LD,Kz]at h3;rw[show p::fs=(p.1,p.2)::fs from rfl,Kz,h1]
    cases z:f==m with
    | true=>grind
    | false=>rw[z]at h3;show ih h1' (Ye▸q3) h3
inductive rFl (Pc:Addr->Prop)(f:Str)(r:Rx)(c71):Prop
 |mk {C:Addr}{n:η}{l:χ}:r ε So->Pc C->(n.zip l).lookup f=!d->rFl Pc f r ε d
def V7 (hP:∀ C,Pc C->ua X.K C/\MF X.K C f)(ha)(hb:attributeBase a f X.env Gr=eval a X.env:=ă):PE X (.Attribute a f pos) (tP (rFl Pc f ra)):=
 (DL ha hb).imp fun σ H Q ⟨F,ε,d,S,.mk (C:=C) h1 h2 h3,q⟩=>e6C h1 λx e2t S1 J'=>by let#[ad,F7,yX]:=J';let#[v,v1,v2]:=Md.look p2 p3 h3;show#[ad,C,dx,fs,v,ex,e1n p1,(hP C h2).1,(hP C h2).2,v1,q v H1 e1 v2]
def a54 {fs:Ï}(h:fs.map (·.1)=n)(hm:m∉n):fs.lookup m=none:=by rw[List.lookup_eq_none_iff];intro p hp;rw[bne_iff_ne];rintro rfl;show hm (h▸Ht.mpr #[p,hp,1])
variable {k:Nat}{C:Addr}{m:Str}{R:Ä}
inductive rMe (c7L)(m:Str)(R:Ä)(r:Rx)(d1Z):Prop
 |mk {n:η}{l ds:χ}:r ε So->m∉n->rs ε ds->R (.ins C n l::ds) d->rMe C m R r rs ε d
inductive a0C (c96)(R:Addr->Ä)(r:Rx)(c71):Prop
 |mk {C:Addr}{n:η}{l:χ}:r ε So->Cs C->m∉n->R C [.ins C n l] d->a0C Cs m R r ε d
def tP.me (h:tP c1p σ H Q):mj C m DN [] E0 r9 sP σ H Q:=by obtain⟨F,ε,d,S,@⟨n,l,ds,h1,h2,h3,h4⟩,q⟩:=h;show tP.go S h1 λx e0o=>?_;let#[ad,F7,yX]:=id q1;show#[ad,F7,e1n p1,a54 p2 h2,OH.go S1 h3 λxs e3M=>#[_,.ins C n l::ds,d,S2.le,#[x,_,1,q1.mono<|ao S1.le,by simp_all],h4,λy e7f q3=>q y H3 Ŷ ?_]];ext d7S
def Sb (d1R)(Dd)(hr)(c72)(U5)(uz)(ht:e81 X.env=(do
   let ov <- eval o X.env
   standAt apos.atName
   let (f,first) <- holding [ov] Ŗ
   callWith pos f first (e01 Ű) Ģ):=ă):PE X vO (tP c1p):=(bh he Dd hr ha U5 uz ht).imp λe1j=>tP.me h
def GO {R:Addr->Ä}(d1R)(Dd:∀ C,Cs C->e3g (Pr (R C)))(hr)(ht:e8l X.env=(do
   let ov <- eval o X.env
   standAt apos.atName
   let (f,first) <- holding [ov] Ŗ
   callWith pos f first (e01 jD) Ģ):=ă):PE X Ĝ (tP (a0C Cs m R ra)):=
 (sE he Dd hr ht).imp fun σ H Q ⟨F,ε,d,S,.mk (C:=C) (n:=n) (l:=l) h1 h2 h3 h4,q⟩=>e6C h1 λx e0o=>by let#[ad,F7,yX]:=id q1;show#[ad,C,dx,fs,ex,h2,e1n p1,a54 p2 h3,_,[.ins C n l],d,S1.le,#[x,_,1,q1,1],h4,λy e7f q3=>q y H3 (e1.trans e3)<|by rwa [ay e1 e3]at q3]
theorem kD:vm->D
 | .inl i=>.int i
 | .inr x=>.str x
abbrev _root_.ι:=List (vm×D)
abbrev Nt (ð:ι):D:=.dct (ð.map (·.1)) (ð.map (·.2))
def pO (h:DR F (kD y) v):v=kV y:=by cases y <;> show h
theorem cD (d2g):Option D:=(ð.find? λkv=>decide Cz).map (·.2)
def Md.val:∀ {ð:ι}{ķ:ξ},ķ.map (·.1)=ð.map (·.1)->e39 Ņ->(cD ð y=none->cC ķ y=none)/\∀ d,cD ð y=!d->∃ v,cC ķ y=!v/\DR F d v:=by
 intro ð
 induction ð with
 | nil=>
  intro ķ h _
  cases ķ with
  | nil=>show#[λ_=>rfl,λ_ h=>nomatch h]
  | cons _ _=>cases h
 | cons p ð ih=>
  intro ķ h y'
  cases ķ with
  | nil=>cases h
  | cons q ķ=>
   let#[v,de]:=y';ext d2L;let ih:=ih h2<|Ye▸q3;unfold cD cC at ih ⊢;rw[JF,JF,h1];ext d8I
   ·grind
   ·rw[Hw z];show ih
inductive Sub:D->D->D->Prop
 |l {x d:D}{l:χ}{i:Int}:Sq x l->RV l i=!d->Sub x tV d
 |t {d:D}{l:χ}{i:Int}:RV l i=!d->Sub yD tV d
 |k {ð:ι}{y:vm}{x d:D}:cD ð y=!d->x=kD y->Sub ZV x d
def b5n (hu):VZ X (λe2r=>∃ a v,x=.ref a/\Pw H a y !v/\Q v H):=by
 ext d3g;let#[a,z,1,g,q]:=h
 cases rx;let hT:=a6i I g;ext d3U;show Hk (Ls hT PySem.F.slot_dict_getitem.lookup ?_);let fin:e0h (e6x kX u) (d9w ē X.A kX Ľ X.xe) X.xe s:=by rw[hs];show wpAny_operating (tJ hu I g ry λw' f2t TZ=>Hk<|wpAny_letTemporaryGo (Hr #[z,H,I3,TZ,q]))
 first
  | show Hr (Hk fin)
  | show Hk _
  | show Hk fin
def a3U:Ul Sub (λe2r=>(lA K x y H Q\/Dv K x y H Q)\/∃ a v,x=.ref a/\Pw H a y !v/\Q v H):=λe0Q=>by
 cases z with
 | l h1 h2=>show .inl (.inl<|a70 s h1 h2 hu hv q)
 | t h=>show .inl (.inr<|a7Z s h hu hv q)
 | k h e=>
  subst e;let#[ad,ķ,1,yX]:=hu;let#[w,w1,w2]:=(Md.val p2 p3).2 d h;show .inr #[ad,w,1,#[ķ,_,p1.mono s,pO hv,w1.symm],e0R w2]
def dS (hu)(d2f)(d1c):e6u b91:=dX (VZ.or (VZ.or b3Q a8I)<|b5n hu) a3U ha hb hs
inductive WO (d1g):Prop
 |s:fIn n x y d->WO n x y d
 |k {ð:ι}{z:vm}:y=Nt ð->x=kD z->d=.bl (if n=true then not (cD ð z).isSome else (cD ð z).isSome)->WO n x y d
inductive FR (n:Bool)(y:V)(x:V)(c67):Prop
 |mk:∀ a o,x=.ref a->Pw H a y o->(Q (.bl (if n=true then not o.isSome else o.isSome)) H)->FR n y x H Q
def c4s (hu):NK X Aw (FR false):=by ext d33;show a92 hu I g ry λf2t=>#[.bl ov.isSome,H,I3,1,q]
def c46 (hu):NK X rZ (FR true):=by ext d33;show a7V hu I g ry λf2t=>#[.bl _,H,I3,1,q]
instance E4:Ul (WO n) (λx y H Q=>rIn K n x y H Q\/FR n x y H Q):=λF H x y u v d Q s z hu hv q=>by
 cases z with
 | s h=>show .inl (a71 F H x y u v d Q s h hu hv q)
 | k e1 e2 hd=>
  subst e1 e2;rename_i ð k;let#[ad,ķ,1,p1,p2,p3]:=hv;let#[n1,n2]:=Md.val p2 p3;let hs:(cC ķ k).isSome=(cD ð k).isSome:=by
   cases z:cD ð k with
   | none=>rw[n1 z];rfl
   | some d=>let⟨w,w1,_⟩:=n2 d z;rw[w1];rfl
  show .inr #[ad,_,1,#[ķ,k,p1.mono s,pO hu,1],tP.at s q (by rw[hd,hs];rfl)]
def dIn (c9A):PE X b5P (tP (rO nF ra rb)):=dM c1q E4 ha hb hm
def b1Z (c9A):PT X b5P (d9U nF):=dT c1q E4 ha hb hm
def Vc (hu)(d2f)(hm:behindInMarks .NotIn b=false:=Ą):PT X (.Compare a [.NotIn] [b] pos) (d9U (WO true)):=dT (NK.or b1z<|c46 hu) E4 ha hb hm
inductive Hi:D->D->D->Prop
 |i {i j:Int}:Hi tV AA (.int (i+j))
 |l {l m:χ}:l.length+m.length<=10000->Hi iQ zN (.lst (l++m))
def VW (d2f):PE X (.BinOp a .Add b pos) (tP (rO Hi ra rb)):=dO (NK.or lD b7r) (λe0Q=>by
 cases z with
 | i=>show .inl #[_,_,hu,hv,e0R rfl]
 | l h=>show .inr<|a3V F H _ _ u v _ Q s (.mk h) hu hv q) ha hb
universe e
section
variable {X:Cx}{σ:St}{H:Hp}{d:Addr}{ķ:ξ}
theorem Fz (X)(H H2:Hp)(d)(o)(ķ:ξ):Prop:=H2 d=!.frz o Cv/\((H d=!.dK ķ/\H2=upd H d (.frz o Cv)/\NF X d)\/H2=H)
def Inv.fz2 (I)(hd:Rd H d Cv)(ho:s.heap.get? d=!ob):∃ H2,e0c H2 s/\Fz X H H2 d ob ķ:=by
 rcases hd with hd|⟨o,hd⟩
 ·show#[_,I.freeze hd ho,ae,.inl #[hd,1,I.nf hd]]
 ·let#[h1,_]:=e84 hd;rw[ho]at h1;cases h1;show#[H,I,hd,.inr rfl]
theorem iD2 (X)(J)(tl):TI:=λe8a=>∃ Q:VK,tl σ H Q/\∀ x H1,Q x H1->∃ d ķ,x=.ref d/\Rd H1 d Cv/\∀ o H2,e9R d o ķ->R (J o d) H2
theorem C5 (X)(tl):TI:=λe8a=>∃ Q:VK,tl σ H Q/\∀ x H1,Q x H1->∃ a,x=.ref a/\((∃ xs,Ma X.K H1 a xs/\R (W0 X.K a) H1)\/(∃ xs,Oi X.K H1 a xs/\R (Itt X.K a) H1)\/∃ ķ,Rd H1 a Cv/\∀ o H2,e9R a o ķ->R (Itk o a) H2)
def av (c8F):e1y l (C5 X tl):=by
 ext d3a;let#[Q,hq,h]:=h;show Mn b8F λv e6l=>?_;ext d3F;let#[a,ex,q]:=h x H1 q1;subst ex
 cases r1;let fr:∀ {H2:Hp} (I2:e0c H2 s1) (b:Addr),b∈sM->e20 H2 b:=λI2 e1C=>by
  ext d3w
  ext d8x
 rcases q with⟨xs,hq,q⟩|⟨xs,hq,q⟩|⟨ķ,hd,q⟩
 ·let#[yN]:=I1.list hq;show Ku p.isList #[x6,a6h a _,qQ,fr I1,q]
 ·let#[yN]:=I1.tuple hq;show wpAny_pyIter_tuple p #[x6,a9y a _,qQ,fr I1,q]
 ·let#[c4U]:=(hd.ok I1.LY)
  let hsz:vs.length=es.size:=by rw[<- c4.length];simp
  show wpAny_pyIter_dict lo b5Q ?_;rw[hsz];ext d8l;show#[s1.heap.objs.size,sM,c5o,c1o _ a ob c2,qQ,fr I2,q ob H2 fz]
def b7N (c8F)(OY:attributeBase l "values" X.env (d87 l)=eval l X.env:=ă)(QT):e1y (.Call (.Attribute l "values" apos) [] [] MV) (iD2 X Itv tl):=by
 ext d3a;let#[Q,hq,h]:=h;show wpAny_Call_method0_late OY QT (Mn b8F λv e6l=>?_);ext d3F;let#[d,ķ,e,hd,q]:=h x H1 q1;subst e
 cases r1;let#[c4U]:=(hd.ok I1.LY)
 let hsz:vs.length=es.size:=by rw[<- c4.length];simp
 let da:s1.heap.DictAt _ d vs ep:=b5Q
 show#["dict","dict.values",F.plainAttrs_dict,F.slot_dict_values,F.type_dict_values,da.dictOf.typeIs,λa e2=>?_,La rfl (PySem.evalArgs_none ?_)]
 ·cases e2;show#[ob,ho,c1.2.1]
 show call_meetsIn F.slot_dict_values da.dictOf.typeIs F.entry_dict_values (F.args_dict_values_1 _) (meets_dict_values _ d lo) #[#[vs,da.dictOf],?_];ext d8l;let I2:=I2.kept (t':=s1.toks) (h':=s1.heap.push { cls:=.type "dict_values",data:=.fields [.ref d].toArray }) λe0D=>Hn _ e;show wpAny_pyIter_values qQ (da.push _) ?_;rw[hsz];show#[_,[(s1.heap.push { cls:=.type "dict_values",data:=.fields [.ref d].toArray }).objs.size],c5o,c1t _ d ob c2,qQ,λe1C=>?_,q ob H2 fz];let e:b=(s1.heap.push { cls:=.type "dict_values",data:=.fields [.ref d].toArray }).objs.size:=by simpa using hb
 ext d8x
universe e
theorem NB (a)(o:HO)(F:Hp):Hp:=λb=>if b=a/\F a≠none then some o else F b
section
variable {F:Hp}{a:Addr}{o o':HO}{ķ:ξ}
def bE (h:b≠a):e57 F b=F b:=if_neg λz=>h z.1
def cA (h:F a≠none):e57 F a=!o:=if_pos #[1,h]
def u8 (h:F a=none):e57 F=F:=by funext b;show if_neg λz=>z.2 h
def cF (s):gR (e57 F) (e57 H):=λe9r=>by
 ext d4T
 ·subst z;by_cases n:F b=none
  ·simp_all [u8]
  ·rw[cA n]at q;rw[cA (λm=>by cases y:F b with
    | none=>show n y
    | some w=>rw[s _ _ y]at m;cases m)]
   show q
 ·rw[bE z]at q ⊢;show s _ _ q
def QH:e57 F b=none ↔ F b=none:=by
 ext d4T
 ·subst z;by_cases n:F b=none
  ·rw[u8 n]
  ·grind [cA]
 ·rw[bE z]
def nu (h:F a=!o):e57 Et=F:=by
 ext d8J
 ·subst z;rw[cA<|by grind [cA],h]
 ·rw[bE z,bE z]
theorem WR (o:HO)(ķ:ξ):Prop:=o=.dK ķ\/∃ r,o=.frz r Cv
def a6F (c8P)(hr:Rd F b u)(hu:∀ r w,u≠.frz r w):Rd Et b u:=by
 ext d4T
 ·subst z;let:u=.dK ķ:=by
   rcases hr with hr|⟨r,hr⟩
   ·rw[h]at hr;cases hr;rcases k with k|⟨r,k⟩
    ·show k
    ·show absurd k (hu _ _)
   ·rw[h]at hr;cases hr;rcases k with k|⟨r,k⟩
    ·cases k
    ·cases k;rfl
  ext d5M;let e:NB b o' F b=!o':=cA (by rw[h];show nofun);rcases k' with rfl|⟨r,rfl⟩
  ·show .inl e
  ·show .inr #[r,e]
 ·unfold Rd;rw[bE z];show hr
mutual
def DR.NB (c8P):∀ (d:D)(v:V),e3S v->DR Et d v
 | .non,_,h=>h
 | .bl _,_,h=>h
 | .int _,_,h=>h
 | .str _,_,h=>h
 | .lst l,_,q=>let ⟨b,vs,q1,q2,q3⟩:=q;#[b,vs,q1,by rw[bE (λz=>by subst z;rw[h]at q2;cases q2;rcases k with k|⟨_,k⟩ <;> cases k)];show q2,e1H vs q3]
 | .scr l,_,q=>let ⟨b,vs,q1,q2,q3⟩:=q;#[c44,e1H vs q3]
 | .tup l,_,q=>let ⟨b,vs,q1,q2,q3⟩:=q;#[b,vs,q1,by rw[bE (λz=>by subst z;rw[h]at q2;cases q2;rcases k with k|⟨_,k⟩ <;> cases k)];show q2,e1H vs q3]
 | .dct _ l,_,q=>let ⟨b,vs,q1,q2,q3,q4⟩:=q;#[c44,q3,e1H _ q4]
 | .ins _ _ l,_,q=>let ⟨b,dx,vs,q1,q2,q3,q4⟩:=q;#[b,dx,vs,q1,by rw[bE (λz=>by subst z;rw[h]at q2;cases q2;rcases k with k|⟨_,k⟩ <;> cases k)];show q2,q3,e1H _ q4]
def Md.NB (c8P):∀ (l:List D)(vs:List V),e2b vs->Md Et l vs
 | [],_,h=>h
 | d::l,_,q=>let ⟨v,ws,q1,q2,q3⟩:=q;#[v,ws,q1,DR.NB h k k' d v q2,e1H ws q3]
end
def k8 (h:H a=!o):f0I o'=e8y H:=by
 ext d8J
 ·subst z;rw[ae,cA (by rw[h];show nofun)]
 ·rw[a9 z,bE z]
def Sd.NB (c7N)(c8P):Sd Eg σ tT ε:=#[cF S.le,S.len,λe9u=>let ⟨v,x,y⟩:=S.rd i d q;#[v,x,y.NB h k k']]
theorem pK (kv:vm×D):D:=kD kv.1
def b2T (d1w)(h1:ķ.map (·.1)=ð.map (·.1)):W2 F (Itk ob a) rg:=
 #[λe7g=>by
  rw[Hy]at e
  cases z:ð[i]? with
  | none=>ext d54
  | some kd=>
   ext d54;let:(ķ.map (·.1))[i]?=!kd.1:=by simp_all
   rw[Hy]at this
   cases y:ķ[i]? with
   | none=>simp_all
   | some kv=>
    rw[y]at this;let e1:kv.1=kd.1:=Option.some.inj this;show#[c0M,fun x H' ⟨e2,e3⟩=>#[e2▸gR.refl _,?_]];ext d4N;rw[e1];unfold pK;cases kd.1 <;> rfl,λf2u=>#[ķ,s _ _ h,by let:=e0g h1;simp at this z;omega]]
def a4j (d1w)(h2:e39 Ņ):W2 F (Itv ob a) Ũ:=
 #[λe7g=>by
  let#[v,zw]:=h2.at e;rw[Hy]at e1
  cases y:ķ[i]? with
  | none=>simp_all
  | some kv=>
   rw[y]at e1;cases e1;show#[c0M,fun x H' ⟨Qj,e3⟩=>#[Qj▸gR.refl _,?_]];ext d4N;subst Qj;show e2.mono<|ao s,λf2u=>#[ķ,s _ _ h,by let:=h2.length;simp at this z;omega]]
universe e
theorem Hg (J)(pr:vm×D->D):Prop:=∀ {F:Hp}{a:Addr}{ob:Obj}{ķ:ξ}{ð:ι},F a=!.frz ob Cv->ķ.map (·.1)=ð.map (·.1)->e39 Ņ->W2 F (J ob a) u7
def b2F:Hg Itk pK:=λh h1 _=>b2T h h1
def b5z:Hg Itv (·.2):=λh _ h2=>a4j h h2
inductive EN:D->List D->Prop
 |l {x:D}{l:χ}:Sq x l->EN x l
 |t {l:χ}:EN yD l
 |k {ð:ι}:EN ZV rg
inductive Yc (r:Rx)(ε:En)(l:χ):Prop
 |mk {d:D}:r ε d->EN d l->Yc r ε l
inductive rVs (r:Rx)(ε:En)(l:χ):Prop
 |mk {ð:ι}:r ε ZV->l=ð.map (·.2)->rVs r ε l
section
variable {X:Cx}{K:Ψ}
def Zp (h:F a=!.tup vs)(q:e2b vs):W2 F (Itt K a) l:=
 #[λe7g=>let ⟨v,e1,e2⟩:=q.at e;#[#[vs,v,Oi.of<|s _ _ h,e1],λx H' ⟨z,y⟩=>#[z▸gR.refl _,by let:=y vs<|Oi.of (s _ _ h);rw[e1]at this;cases this;show e2.mono<|ao s]],λf2u=>#[vs,Oi.of<|s _ _ h,by rw[q.length];show z]]
theorem Y' (X)(Q):VK:=λv H'=>(∃ a o ķ,NF X a/\H' a=!.frz o Cv/\Q v (upd H' a Cv))\/Q v H'
def c4D {ð:ι}{os:List GR}(hJ:Hg J pr)(S1:Sd F1 σ H1 ε)(d1o)(h2:(ð.map pr).length<=1000)(h3:Paired b0O u7 os)(q:∀ b H4,gR H1 H4->DR (e9N H4) (.lst tw) pU->Q pU H4):e55 b4O (J o a) H2:=by
 ext d5j
 ·ext d45;rcases f2 with⟨_,f2,nf⟩|f2
  ·ext d3d;rw[k8 Yy]at f2;subst f2;show sC S2 (hJ eF p2<|p3.NB p1 (.inl rfl) (.inr ⟨o,rfl⟩)) h2 h3 λe2u=>.inl #[a,o,ķ,nf,e9a f1,?_];rw[k8<|e9a f1];let e4:gR H1 (NB a Cv H3):=by let:=e1K e3;rwa [nu Yy]at this
   show q _ _ e4 (((e9b hd).NB (ao S2.le _ _ eF) lR<|.inl rfl).mono λc w y=>?_);by_cases z:c=a
   ·subst z;rw[cA (by rw[ao S2.le _ _ eF];show nofun)]at y;show ao S1.le _ _ (p1.trans y)
   ·rw[bE z]at y;unfold grow at y ⊢;rw[bE z,bE z]at y;rw[bE z];show y
  ·simp_all
 ·ext d45;rcases f2 with⟨f2,_⟩|f2
  ·simp_all
  ·ext d7z;show sC S1 (hJ p1 p2 p3) h2 h3 λe2u=>.inr (q _ H3 e3<|e9b hd)
def PE.Y' {e:Expr}{t t':TE}(h:e06 t)(k:∀ σ H Q,t' σ H Q->e4V (Y' X Q)):e06 t':=λe0V q=>Mn (e0C _ I<|k _ _ _ q) λu s' J'=>by
 let#[v,H',I',r',z]:=J';rcases z with⟨a,o,ķ,nf,e,q⟩|q
 ·show#[v,_,I'.a0i e nf,r',q]
 ·show#[v,H',I',r',q]
def dLv (c8g)(hi:e6W b94)(c65):e4F (tP (rL n js (rVs rd) rt re)):=
 (e2c hs).Y' fun σ H Q ⟨F,ε,d,S,.mk (.mk (ð:=ð) h1 hl) h2 h3 h4,q⟩=>by subst hl h4;show#[λe3C=>gR H H1/\DR _ _ x,e6C h1 λe0E=>u0,λe3C J'=>(by let#[e1,By]:=J';show#[a,ķ,ex,p1.mono (S.step e1).le,λf2x=>c4D b5z Ps p1 p2 p3 fz h2 h3 λb f2w y=>q _ H4 (e1.trans e4)<|by rwa [ay e1 e4]at y])]
def c4w (h:tP AC σ H Q):e7C tU σ H (Y' X Q):=by
 obtain⟨F,ε,d,S,@⟨l,os,@⟨c,h1,hl⟩,h2,h3,h4⟩,q⟩:=h;subst h4;show#[λe3C=>gR H H1/\DR _ c x,e6C h1 λe0E=>u0,λe3C J'=>?_];let#[e1,hx]:=J';let S1:=S.step e1;let fin:∀ b H4,gR H1 H4->DR (grow _ H1 H4) _ _->Q pU H4:=λb f2w y=>q _ H4 (e1.trans e4) (by rwa [ay e1 e4]at y)
 cases hl with
 | l hl=>
  let#[yd]:=hl.at hx;show#[a,ex,.inl #[vs,.inl<|ha.mono S1.le,sC S1 (AB ha hv) h2 h3 λe2u=>.inr<|fin b H3 e3 (e9b hd)]]
 | t=>
  let#[yd]:=hx;show#[a,ex,.inr<|.inl #[vs,Oi.of<|e1n ha,sC S1 (Zp ha hv) h2 h3 λe2u=>.inr<|fin b H3 e3 (e9b hd)]]
 | k=>
  let#[By]:=hx;show#[a,ex,.inr<|.inr ⟨ķ,p1.mono S1.le,λf2x=>c4D b2F S1 p1 p2 p3 fz h2 h3 fin⟩]
def RU (c8g)(hi:e6W pB)(c65):e4F (tP AC):=(e2c hs).Y' λe1j=>c4w h
universe e
def vI (ho:s.heap.get? a=!o)(h:Q (!o) s):e0f (loadIfAlive a) Q E s:=λΓ p _=>by
 unfold loadIfAlive
 simp_all
abbrev a96 (c78)(z TI TO:Addr)(T:Nat)(b:Bool):Prop:=h.get? z=!{ cls:=.type "zip",dict:=none,data:=.fields [rawInt T,.bool b,.bool false,.ref TI,.ref TO].toArray,slots:=[].toArray }
def vH (c94)(hz)(hT)(h:∀ h',f1f true->Heap.SameBut z s.heap h'->Q false { s with heap:=h' }):
  wpAny Ē A (Builtin.SmallTypes.ownedTupleIsFree fT) Q E s:=by
 show Hk c0O;show Hk (vI hT ?_);show Hk c0O
 cases b with
 | true=>show Hr (h _ hz #[1,λ_ _=>rfl])
 | false=>show Hk (wpAny_setField_rec hz Ĕ λh₁ hz₁ hs₁=>Hr<|h h₁ hz₁ hs₁)
def QXs (c94)(D)(hz)(hT)(WK)(h1)(h2:s.heap.IsListIter i2 l2 k2)(U9)(WH)(hx:xs[k1]?=!x)(hy:ys[k2]?=!y)(hQ:∀ h',f1f true->h'.IsListIter i1 l1 (k1+1)->h'.IsListIter i2 l2 (k2+1)->e4J y->h'.objs.size=s.heap.objs.size+1->
   (∀ c o,c≠z->c≠i1->c≠i2->s.heap.get? c=!o->h'.get? c=!o)->Q b6F { s with heap:=h' }):
  wpAny Ē A yB Q E s:=by
 ext d59
 ext d2G;ext d7c;show Hk (wpAny_nextOf_list_item (e63 D.i1z) (e64 D.l1z) hx λh₂ h1₂ hs₂=>Hr ?_);ext d4e;ext d7c;show Hk (wpAny_nextOf_list_item ((h2.extBut hs₁.extBut D.i2z).extBut hs₂.extBut D.i12.symm) ((WH.extBut hs₁.extBut D.l2z).extBut hs₂.extBut D.l2i1) hy λh₃ h2₃ hs₃=>Hr ?_);show Hr FM;show Hk (wpAny_newTuple ?_ (by change 2<=sizeLine;decide));let e3:h₃.objs.size=s.heap.objs.size:=by rw[hs₃.1,hs₂.1,hs₁.1]
 show Hr F8;ext d4e;let kp:∀ c o,c≠z->c≠i1->c≠i2->s.heap.get? c=!o->(h₃.push { cls:=.type "tuple",data:=.seq [x,y].toArray }).get? c=!o:=λc o c1 c2 c3 e=>Hn _<|f0f c3 (f0g c2<|e8z e);let up:∀ c o,h₃.get? c=some o->(h₃.push { cls:=.type "tuple",data:=.seq [x,y].toArray }).get? c=some o:=λc o e=>Hn _ e;let hn:(h₃.push { cls:=.type "tuple",data:=.seq [x,y].toArray }).get? h₃.objs.size=!{ cls:=.type "tuple",data:=.seq [x,y].toArray }:=HD _ rfl;rw[e3]at hn ⊢;show hQ _ (up _ _<|f0f D.i2z.symm (f0g D.i1z.symm hz₁)) ((h1₂.extBut hs₃.extBut D.i12).at λo e=>up _ o e) (h2₃.at λo e=>up _ o e) hn (by rw[Ja,e3]) kp
def a2q (c94)(c9t)(D)(hz)(hT)(WK)(h1)(U9)(hx:xs[k1]?=none)(hQ:∀ h',(∀ c o,c≠z->c≠i1->s.heap.get? c=!o->h'.get? c=!o)->Q none { s with heap:=h' }):
  wpAny Ē A yB Q E s:=by
 ext d59
 ext d2G;ext d7c;show Hk (wpAny_nextOf_list_end hh (e63 D.i1z) (e64 D.l1z) hx λh₂ e hs₂ he=>?_);let#[kh]:=he;show Hk Du;show Hr (hQ _ λc o c1 c2 e=>hs₂ _ _ c2<|e8z e)
structure ZS (c78)(z TI TO i1 i2 l1 l2 d:Addr)(k:Nat):Prop where
 zok:(IsZip h z TI TO .none/\∃ a b,IsPair h TO a b) \/ ∃ T b o,a96 h z TI TO T b/\h.get? T=!o/\T≠z/\T≠TO/\T≠i1/\T≠i2/\T≠d
 WK:IsPair h TI (d9G i1) (d9G i2)
 h1:h.IsListIter i1 l1 k
 h2:h.IsListIter i2 l2 k
def MtM (c94)(D)(Z)(hd:d<s.heap.objs.size)(U9)(WH)(hx:xs[k]?=!x)(hy:ys[k]?=!y)(hQ:∀ h',ZS h' z TI TO i1 i2 l1 l2 d (k+1)->e4J y->a5D->Q b6F { s with heap:=h' }):
  wpAny Ē A yB Q E s:=by
 let#[hz,WK,yi]:=Z;let zl:∀ {c:Addr}{o:Obj},s.heap.get? c=!o->s.heap.objs.size≠c:=λe=>J9<|HG e;let#[o1,e1,_]:=id h1;let#[o2,e2,_]:=id h2;rcases hz with⟨hz,a,b,hTO⟩|⟨T,b,o,hz,hT,t1,t2,t3,t4,t5⟩
 ·show wpAny_pyNext_zip_item D hz WK hTO h1 h2 U9 WH hx hy λh' e2i=>hQ h' #[.inr #[_,false,_,a1,a5,zl hz,zl hTO,zl e1,zl e2,J9 hd],f1g D.TIz D.TITO D.TIi1 D.TIi2 WK,a3,a4] a5 a7
 ·show QXs D hz hT WK h1 h2 U9 WH hx hy λh' a1 a3 a4 a5 a6 a7=>hQ h' #[.inr #[T,true,o,a1,f1g t1 t3 t4 hT,zf],f1g D.TIz D.TIi1 D.TIi2 WK,a3,a4] a5 λc o c1 _ c3 c4 e=>a7 c o c1 c3 c4 e
def a6O (c94)(c9t)(D)(Z)(U9)(WH)(hx:xs[k]?=none)(hQ:∀ h',a5D->Q none { s with heap:=h' }):
  wpAny Ē A yB Q E s:=by
 let#[hz,WK,yi]:=Z;rcases hz with⟨hz,a,b,hTO⟩|⟨T,b,o,hz,hT,_⟩
 ·show wpAny_pyNext_zip_end hh D hz WK hTO h1 h2 U9 WH (.inl hx) hQ
 ·show a2q hh D hz hT WK h1 U9 hx λh' kk=>hQ h' λc o c1 _ c3 _ e=>kk c o c1 c3 e
section
variable {prog:É}{w:World}{κ:Type}[DecidableEq κ]{knd:KeyKind prog w κ}
theorem a2e (knd)(xs ys:Ó)(d0c):Prop:=xs.size=ps.length/\∀ (i:Nat) p,ps[i]?=!p->∃ u,xs[i]?=!u/\ys[i]?=!p.2/\knd.is p.1 u=true
def a2J (c94)(c8c)(D)(hp:a2e knd xs ys ps)(nd:d≠z/\d≠TI/\d≠TO/\d≠i1/\d≠i2/\d≠l1/\d≠l2):
  DJ knd none z d ps (λi h=>ZS h z TI TO i1 i2 l1 l2 d i/\h.IsList l1 xs/\h.IsList l2 ys) (λb=>b=z\/b=TO\/b=i1\/b=i2):=by
 let#[dz,dTI,dTO,di1,di2,dl1,dl2]:=nd;let lk:∀ {h h':Heap}{l:Addr}{vs:Ó},h.IsList l vs->(∀ o,h.get? l=!o->h'.get? l=!o)->h'.IsList l vs:=λJ' k=>by let#[o,ho,r]:=J';show#[o,k o ho,r]
 let nw:∀ {b:Addr},¬ (b=z\/b=TO\/b=i1\/b=i2)->b≠z/\b≠TO/\b≠i1/\b≠i2:=λh=>#[λx=>h<|.inl x,λx=>h<|.inr (.inl x),λx=>h<|.inr (.inr<|.inl x),λx=>h<|.inr (.inr<|.inr x)]
 show#[by simp_all,fun {i h h'} ⟨⟨zk,q1,q2,q3⟩,a,b⟩ k=>#[#[?_,k _ _ dTI.symm q1,q2.at λo e=>k _ o di1.symm e,q3.at λo e=>k _ o di2.symm e],lk a λo e=>k _ o dl1.symm e,lk b λo e=>k _ o dl2.symm e],λ{A i p s E Q} eA J' hd hpi q=>?_,λ{A s E Q} eA J' q=>?_]
 ·rcases zk with⟨a1,a,b,a2⟩|⟨T,b,o,a1,a2,t1,t2,t3,t4,t5⟩
  ·show .inl #[k _ _ dz.symm a1,a,b,k _ _ dTO.symm a2]
  ·show .inr #[T,b,o,k _ _ dz.symm a1,k _ _ t5 a2,zf]
 ·let#[Z,yi]:=J';let#[u,ex,ey,hk]:=hp.2 i p hpi;show MtM D Z hd h1 h2 ex ey λh' Z1 ht k=>q h' _ u #[Z1,lk h1 λo e=>k _ o D.l1z D.l1TO D.l1i1 D.l1i2 e,lk h2 λo e=>k _ o D.l2z D.l2TO D.l2i1 D.l2i2 e] #[_,ht,vb] hk λf2q=>let ⟨n1,n2,n3,n4⟩:=nw n;k b o n1 n2 n3 n4 e
 ·let#[Z,yi]:=J';show a6O eA D Z h1 h2 (JV (by rw[hp.1];show Hz _)) λh' k=>q h' λf2q=>let ⟨n1,n2,n3,n4⟩:=nw n;k b o n1 n2 n3 n4 e
universe e
inductive a4i (K:Ψ)(Q:VK)(d14):Prop
 |mk:∀ a b ķ,vs=[.ref a,.ref b]->(Ma K H1 a (ķ.map λkv=>kV kv.1))->Ma K H1 b Ņ->ķ.length<=1000->O7 H1 Ŭ Q->a4i K Q vs H1
theorem tDZ (K)(ta:TA):TE:=λe0i=>ta σ H λe7c=>a4i K Q vs H1
def b1d:∀ {ķ:ξ}{us vs:θ},A8 ţ us->A8 Ņ vs->∃ ps:List (vm×Value),KV ķ ps/\us.length=ps.length/\∀ (i:Nat) p,ps[i]?=!p->∃ u,us[i]?=!u/\vs[i]?=!p.2/\(aZ P w).is p.1 u=true:=by
 intro ķ
 induction ķ with
 | nil=>intro us vs h h';cases h;cases h';show#[[],.nil,1,λi p h=>by simp at h]
 | cons kv ķ ih=>
  intro us vs h h'
  cases h with
  | @cons _ u _ _ ru r=>
   cases h' with
   | @cons _ v _ _ rv r'=>
    let#[ps,wO]:=ih r r';show#[we::ps,.cons #[1,rv] k1,by simp[k2],λi p h=>?_]
    cases i with
    | zero=>
     let h:we=p:=by simpa using h
     subst h;show#[u,2,kL ru]
    | succ i=>show k3 i p oO
def c03 (K)(hc)(hgD:Gl X "dict")(hmD:X.mg "dict"=none)(hgZ:Gl X "zip")(hmZ:X.mg "zip"=none)(ha:PA X Ar ta)(hK)(c7w)(c68):
  PE X (.Call c2n [.Call (.Name "zip" p2) Ar [] p3] [] pos) (tDZ K ta):=by
 subst hK;ext d2y;show Je (gH I hgD hmD PyProof.Rows.boot_dict ?_);show Jp ?_;show Calls.spliced_cons ?_;show Je<|gH I hgZ hmZ c1x (Jp (Mn (ha p3 ñ s σ H _ I h) λus e6l=>?_) vJ (by rw[S7];rfl));ext d4D;let#[a,b,ķ,e,hx,hy,hz,q]:=q1;subst e;let#[u1,u2,1,r,r']:=CS r1
 cases r
 cases r';let#[its,rv,p1,_]:=I1.list hx;let#[NI,Z2,p2,_]:=I1.list hy;let#[ps,wO]:=b1d rv Z2;ext d6W;ext d31;ext d4e;let lt:∀ {c:Addr}{o:Obj},s1.heap.get? c=!o->@LT.lt Nat _ c s1.heap.objs.size:=λe=>HG e;let#[oa,ea,ra]:=id p1.isList;let#[ob,eb,rb]:=id p2.isList;let la:=lt ea;let lb:=lt eb;let hN:=I.Qn hc hn;let le:@LE.le Nat _ s1.heap.objs.size h'.objs.size:=by rw[a6];lia
 let ls:∀ {c:Addr}{o:Obj},h'.get? c=!o->h'.objs.size≠c:=λe=>J9<|HG e;let YF:=f1g ea;let eb':=f1g eb;let#[p1,q1,_]:=id a4;let#[p2,q2,_]:=id a5;show b8y (ps:=ps) (.inl hN) a1 .z #[] (λA1 g1 Y8 Q1 E1 _ kp _ r1=>wpAny_pyIter_zip (e46 a1)<|r1 _ g1 _ _ (hN▸a2J ⟨?_,?_,?_,?_,?_,?_,?_,?_,?_,?_,?_,?_,?_,?_,?_,?_,?_,?_⟩ ⟨by show k2,λi p h1=>by simpa using k3 i p h1⟩ #[ls a1,ls a2,ls a3,ls q1,ls q2,ls YF,ls eb']) (λe0j z=>z) #[#[.inl #[e46 a1,_,_,e46 a3],e46 a2,a4.at λo e=>kp _ o e,a5.at λo e=>kp _ o e],#[oa,e46 YF,ra],#[ob,e46 eb',rb]] λ_ _ e=>e) λXY tk hD keep=>?_;all_goals try (intro z;let z':@Eq Nat _ _:=z;lia)
 let VN:(bn [] ķ).length<=sizeLine:=by let h1:=cr ķ [];ext d7x;lia
 show#[.ref h'.objs.size,_,I1.laid (λc o e=>?_) le ?_,1,q.at c2h]
 ·let:=lt e;show keep c o ?_<|a7 c o e;rintro (z|z|z|z) <;> (have z':@Eq Nat _ _:=z;lia)
 ·show#[VN,Ly.mpr<|J9 (Ip I1.big le),_,k1.merge .nil,hD]
def nL:∀ {us:θ}{ns:Ξ},f0S us->e5Z ns
 | us,[],h=>by cases h;show .nil
 | us,n::ns,h=>by
  cases h with
  | cons a b=>
   let#[t,1]:=a;show .cons n t (nL b)
universe L2
namespace L2.Sk
open PySem
theorem yn (d2h):Prop:=∀ i j,i<j->j<xs.size->e09 0<xs.getD j 0
def a30 (d2h)(h:i<xs.size)(d d':Nat):e09 d=e09 d':=by simp[Array.getD,h]
def a2d (hr:yn xs):∀ (f lo hi:Nat),hi - lo<=f->lo<=hi->hi<=xs.size->(∀ i,i<lo->e09 0<j)->(∀ i,hi<=i->i<xs.size->j<=e09 0)->
  SetTable.below.go xs j f lo hi<=xs.size/\(∀ i,i<e47 hi->e09 0<j)/\(∀ i,e47 hi<=i->i<xs.size->j<=e09 0)
 | 0,lo,hi,hf,hl,hh,h1,h2=>by
  let:lo=hi:=#[]
  ext d5M;show#[hh,yi]
 | f+1,lo,hi,hf,hl,hh,h1,h2=>by
  rw[SetTable.below.go];by_cases NU:lo<hi
  ·rw[if_pos NU];let hm:zH / 2<xs.size:=#[]
   simp only;rw[a30 xs hm j 0];by_cases hc:xs.getD (zH / 2) 0<j
   ·rw[if_pos hc];show a2d hr f _ _ #[] #[] hh (λi SW=>?_) h2;by_cases he:i=zH / 2
    ·rw[he];show hc
    ·let:=hr i (zH / 2) #[] hm
     lia
   ·rw[if_neg hc];show a2d hr f _ _ #[] #[] #[] h1 (λi SW hs=>?_);by_cases he:i=zH / 2
    ·rw[he];lia
    ·let:=hr (zH / 2) i #[] hs
     lia
  ·rw[if_neg NU];let:lo=hi:=#[]
   ext d5M;show#[hh,yi]
def a6G (hr:yn xs)(j):e1A j<=xs.size/\(∀ i,i<e1A j->e09 0<j)/\(∀ i,e1A j<=i->i<xs.size->j<=e09 0):=by show a2d hr _ _ _ #[] (Iv _) nY (λi h=>absurd h<|JQ _) (λi h h'=>by lia)
def gj (d2h)(i d:Nat):e09 d=xs.toList.getD i d:=by rw[Hq,JH,Array.getD_eq_getD_getElem?]
def b0q (hr:yn xs)(hn:xs[e1A j]?≠!j):yn (e1V (e1A j) j):=by
 let#[xu]:=a6G hr j;generalize SetTable.below xs j=p at h1 h2 h3 hn;let hl:(e1V p j).toList=xs.toList.take p++j::xs.toList.drop p:=SetTable.toList_insertAt xs p j;let hs:(e1V p j).size=xs.size+1:=by
  rw[<- IC,hl,HE,I0,HF,KA,IC]
  lia
 let at_:∀ i,(e1V p j).getD i 0=if i<p then xs.getD i 0 else if i=p then j else xs.getD (i - 1) 0:=λi=>by
  rw[gj,hl,Hq];let tl:(xs.toList.take p).length=p:=by rw[HF,IC];lia
  by_cases c1:i<p
  ·rw[if_pos c1,Ij<|by lia,IT c1,gj,Hq]
  ·rw[if_neg c1,Iq<|by lia,tl];by_cases c2:i=p
   ·rw[if_pos c2,c2,Nat.sub_self];rfl
   ·rw[if_neg c2,show i - p=(i - p - 1)+1 by lia,List.getElem?_cons_succ,Ko,gj,Hq,show p+(i - p - 1)=i - 1 by lia]
 let hp:∀ i,p<=i->i<xs.size->j<xs.getD i 0:=λi hi his=>by
  let hge:=h3 i hi his;by_cases c:i=p
  ·subst c;let:e09 0≠j:=λz=>hn (by rw[IE his];congr 1;simpa [Array.getD,his] using z)
   lia
  ·let:=hr p i #[] his;let:=h3 p nY #[]
   lia
 intro a b Xr hb;rw[hs]at hb;rw[at_ a,at_ b];by_cases a1:a<p
 ·rw[if_pos a1];let ha:=h2 a a1;by_cases b1:b<p
  ·rw[if_pos b1];show hr a b Xr #[]
  ·rw[if_neg b1];by_cases b2:b=p
   ·rw[if_pos b2];show ha
   ·rw[if_neg b2];let:=hp (b - 1) #[] #[]
    lia
 ·rw[if_neg a1,if_neg (by lia:¬ b<p),if_neg (by lia:¬ b=p)];by_cases a2:a=p
  ·rw[if_pos a2];show hp (b - 1) #[] #[]
  ·rw[if_neg a2];show hr (a - 1) (b - 1) #[] #[]
def c1D (n):yn (Array.range n):=λi j h hj=>by
 let hj:j<n:=by simpa using hj
 let:∀ k,k<n->(Array.range n).getD k 0=k:=λe7e=>by simp[hk]
 rw[this i<|by lia,this j hj];show h
structure BK (t:SetTable)(led:Bool):Prop where
 rise:yn t.place
 none:t.dummies=[].toArray
 led:t.led=led
def BK.standIn {led:Bool}(g:BK t led)(n):BK (t.standIn n) led:=#[c1D n,1,g.led]
def c2V (j):SetTable.has [].toArray j=false:=rfl
def c0V {t:SetTable}(hd:t.dummies=[].toArray){f:Nat->Int}{h:Int}:∀ (n:Nat)(p:SetTable.Probe)(j:Nat)(d:Option Nat),p.dummy=Option.none->SetTable.probe.go t f h n p=!.empty j d->d=Option.none/\t.place[e0G j]?≠!j
 | 0,p,j,d,_,e=>by cases e
 | n+1,p,j,d,hp,e=>by
  rw[SetTable.probe.go]at e;let hs:t.slot p.j=if t.place[e0G p.j]?==some p.j then .live (e0G p.j) else .empty:=by unfold SetTable.slot;simp only;rw[hd,c2V];simp
  rw[hs]at e;let ha:(t.advance p).dummy=Option.none:=by
   unfold SetTable.advance;split
   ·show hp
   ·show hp
  by_cases c:(t.place[e0G p.j]?==!p.j)=true
  ·rw[if_pos c]at e;simp only at e;split at e
   ·cases e
   ·show c0V hd n _ j d ha e
  ·rw[if_neg c]at e;simp only at e
   cases e;show#[hp,λz=>c (by rw[z];simp)]
instance BK.layNew {led:Bool}(g:BK t led)(es)(h:Int)(x:Value):BK (PySem.layNew t es h x).2.1 led:=by
 unfold PySem.layNew;split
 ·rename_i slot wd hfs;unfold SetTable.freeSlot at hfs;split at hfs
  ·rename_i j d he;let#[1,hn]:=c0V g.none _ _ _ _ rfl he;let Xh:slot=j:=by let:=congrArg (λo=>o.map Prod.fst) hfs;simpa using this.symm
   subst Xh;let gp:BK (t.put slot).1 led:=by show#[b0q g.rise hn,?_,g.led];change (if SetTable.has t.dummies slot then _ else t.dummies)=[].toArray;rw[g.none,c2V];rfl
   simp only;unfold SetTable.orStandIn;split
   ·show gp
   ·show gp.standIn _
  ·cases hfs
 ·show g.standIn _
def c0g (f:Nat->Option (Nat×Nat))(hf:∀ j q,f j=!q->q.1=j)(n):yn (((List.range n).filterMap f).map (·.1)).toArray:=by
 let hp:(((List.range n).filterMap f).map (·.1)).Pairwise (·<·):=by rw[K8];show List.Pairwise.filterMap f ?_<|List.pairwise_lt_range;intro a b Xr x hx y hy;rw[hf a x hx,hf b y hy];show Xr
 intro i j hij hj;let hj:j<(((List.range n).filterMap f).map (·.1)).length:=by simpa using hj
 rw[gj,gj,Hq,Hq];simp only[Hm hj,Hm<|Nat.lt_trans hij hj];show List.pairwise_iff_getElem.mp hp i j _ _ hij
instance BK.a3A {led:Bool}(g:BK t led)(es)(w:Nat):BK (relayAll t es w).2.1 led:=by
 unfold relayAll;split
 ·rename_i t' order hr;simp only;split
  ·let#[owner,_,he]:=Option.bind_eq_some_iff.mp hr;let he:=Option.some.inj he;let he:=(Prod.mk.inj he).1;subst he;show⟨c0g _ (λj q hq=>?_) _,rfl,g.led⟩;let#[z,_,1]:=HZ.mp hq;rfl
  ·show g.standIn _
 ·show g.standIn _
open PySem.Calls PyProof.Rows
theorem VX (w):Bool:=w.params.followText "set-order"
theorem fU (S:Ξ)(k:Int):Ξ:=if k∈S then S else S++[k]
theorem P1 (prog)(w)(c78)(a)(S:Ξ):Prop:=
 ∃ o es ep t ms,h.get? a=!o/\o.ExactSet/\o.data=e9S t/\t.fits es.size=true/\BK t ye/\ElemsOf c2o es.toList/\IntsAre b7Z ms/\ms.Perm S
def gi:∀ {vs:θ}{ms:Ξ},e14 ms->vs.length=ms.length
 | _,_,.nil=>rfl
 | _,_,e8b _ h=>by rw[I0,I0,gi h]
def c1S (k:Int):∀ {vs:θ}{ms:Ξ},e14 ms->(k∈ms ↔ ∃ v∈vs,Value.isInt k v=true)
 | _,_,.nil=>by simp
 | _,_,f1h h=>by
  let ih:=c1S k h;rw[HK,ih];ext d4L
  ·rintro (rfl|⟨v,hv,e⟩)
   ·show#[_,HS ..,by simp[Value.isInt]]
   ·show#[v,HM _ hv,e]
  ·rintro⟨v,hv,e⟩;rcases HK.mp hv with rfl|hv
   ·show .inl (by let e:(n==k)=true:=e;show (eq_of_beq e).symm)
   ·show .inr #[v,hv,e]
def iY (p:vs'.Perm vs):∀ {ms:Ξ},e14 ms->∃ ms',IntsAre vs' ms'/\ms'.Perm ms:=by
 induction p with
 | nil=>intro ms h;show#[ms,h,.rfl]
 | cons x p ih=>
  intro ms h
  cases h with
  | cons n t h=>
   let#[ms',a,b]:=ih h;show#[n::ms',f1h a,b.cons n]
 | swap x y l=>
  intro ms h
  cases h with
  | cons n t h=>
   cases h with
   | cons m u h=>show#[m::n::_,.cons m u<|f1h h,.swap ..]
 | trans p q ih1 ih2=>
  intro ms h;let#[m1,a1,b1]:=ih2 h;let#[m2,a2,b2]:=ih1 a1;show#[m2,a2,b2.trans b1]
def b46 (h:e14 ms)(k:Int)(t:Tok):IntsAre (vs++[f1i t]) (ms++[k]):=by
 induction h with
 | nil=>show .cons k t .nil
 | cons n u h ih=>show .cons n u ih
def P1.to (x:e2d h a S)(d0p):e2d h' a S:=let ⟨o,es,ep,t,ms,g,r⟩:=x;#[yH,t,ms,k o g,r]
def a2n {h:Heap}(g:h.get? a=!o)(x:o.ExactSet)(d:o.data=e9S t)(f:t'.fits UY.size=true)(gd:BK t' ye)(el:ElemsOf c2o UY.toList)(im:IntsAre (UY.toList.map (·.2)) ms)(pm:ms.Perm S):(e9H AF).get? a=!{ o with data:=f2d t' }/\P1 prog w (e9H AF) a S:=by
 let hg:(h.update a<|Obj.putSet UY t').get? a=!{ o with data:=f2d t' }:=by let q:=Io AF g (by rw[f1j d];rfl);rwa [f1j d]at q
 show#[hg,_,UY,ep+1,t',ms,hg,x,1,f,gd,el,im,pm]
def c59 (c9M)(hb:S.length+1<scanBound)(hq:∀ b h',e2Y h'->e2d h' a (fU S k)->Q b { s with heap:=h' }):
  wpAny Ē A (setAddHashed a (f1i tk) PP) Q E s:=by
 let#[Ah]:=h;let Wh:=intKind_is prog w k tk;let hsz:es.size=S.length:=by let:=gi g7;rw[Hl,IC,g8.length_eq]at this;show this
 let hsb:es.size<scanBound:=#[0]
 apply IL;apply Hk;show Kt g1 g3 g4 ?_;dsimp only;rw[byScan_of rfl hsb g6];ext d4k;apply Kw;apply Hk;show wpAny_setScan_of Wh g1 g3 g4 g6 ?_;let a4b:(∃ e∈es.toList,(e7D w).is k e.2=true) ↔ k∈S:=by
  rw[<- g8.mem_iff,c1S k g7];ext d4L
  ·rintro⟨e,he,q⟩;show#[e.2,HA he,q]
  ·rintro⟨v,hv,q⟩;let#[e,he,1]:=Ht.mp hv;show#[e,he,q]
 cases hr:List.findIdx? (λe=>(e7D w).is k e.2) es.toList with
 | some j=>
  obtain⟨hj,hp,-⟩:=List.findIdx?_eq_some_iff_getElem.mp hr;let hk:=a4b.mp #[_,IH hj,hp];show Hr FM;let q:=hq false s.heap (Heap.SameBut.refl ..) (by unfold fU;rw[if_pos hk];show#[Ah]);show q
 | none=>
  let hk:¬ k∈S:=λz=>by
   let#[e,he,q]:=a4b.mpr z;let:=List.findIdx?_eq_none_iff.mp hr e he;rw[q]at this
   ext d3Q
  let eS:fU S k=S++[k]:=if_neg hk;rw[eS]at hq;let p1:=layNew_perm t es PP<|f1i tk;let f1:=layNew_fits t es PP<|f1i tk;let d1:=g5.layNew es PP<|f1i tk;generalize PySem.layNew t es _ _=L at p1 f1 d1 ⊢;let#[Vr,t1,wd,b5b]:=L;rw[Array.toList_push]at p1;let gw:∀ (b:Bool) {s₁:Ê}{R:Unit->Shared->Prop},R () s₁->e0f (d85 b) R E s₁:=λb=>by
   cases b with
   | true=>show λq=>Kw q
   | false=>show λq=>Hr q
  let l1:=(g6.push Wh rfl).perm p1;let#[m1,i1,n1]:=iY (p1.map _) (by rw[Hx];show b46 g7 k tk);let n1:=n1.trans<|g8.append_right [k];let z1:Vr.size=S.length+1:=by let:=gi i1;rw[Hl,IC,n1.length_eq,HE]at this;show this
  let b1:Vr.size<scanBound:=#[0]
  apply Hk;show gw _ ?_;let tail:e0f (do
    storeSet a Vr t1
    if (not wd&&t1.tooFull)=true then
     match relayAll t1 Vr b6G with
     | (ZF,t2,ZD)=>do
      (d85 ZD)
      storeSet a ZF t2
      pure !true
    else pure !true) (λr s'=>∃ b,r=!b/\Q b s') E s:=by
   apply Hk;let#[o1,q1]:=a2n g1 g2 g3 f1 d1 l1 i1 n1;show wpAny_storeSet_of g1 g3 ?_<|LH b1;split
   ·let p2:=relayAll_perm t1 Vr<|SetTable.grown Vr.size;let f2:=relayAll_fits t1 Vr<|SetTable.grown Vr.size;let d2:=d1.a3A Vr<|SetTable.grown Vr.size;generalize relayAll t1 Vr b6G=L at p2 f2 d2 ⊢;let#[ZF,t2,ZD]:=L;let z2:ZF.size=Vr.size:=by rw[<- IC,p2.length_eq,IC]
    let#[m2,i2,n2]:=iY (p2.map _) i1;apply Hk;show gw _ ?_;apply Hk;show wpAny_storeSet_of o1 rfl ?_<|LH #[0];let#[_,q2]:=a2n o1 g2 rfl f2 d2 (l1.perm p2) i2<|n2.trans n1;show Hr #[true,1,hq true _ b70 q2]
   ·show Hr #[true,1,hq true _ (HY ..) q1]
  let fin:∀ r s',(∃ b,r=!b/\Q b s')->e0f (match r with|some added=>pure added|none=>setAddHashedIn a (Value.int k tk) PP 99999) Q E s':=by rintro r s' ⟨b,rfl,q⟩;show Hr q
  split
  ·ext d5k
  ·ext d5k
open PySem.Spec
theorem mZ (w):Obj:={ cls:=.type "set",dict:=none,data:=.set [].toArray 0 c2p }
def c4S (w):BK c2p ye:=#[λi j _ h=>absurd h<|JQ _,2]
def a0X (g:h.get? a=!mZ w):e2d h a []:=#[_,[].toArray,(0),_,[],g,#[3],2,c4S w,λe he=>by simp at he,.nil,.nil]
def Dh (v:Value)(q:Q₁ į { s with heap:=s.heap.push (mZ w) }):e5Y A (.call (.builtin "set.__new__") #[[.type "set",v],[]]) (wants Q₁ E) s:=by
 apply codeAny_of_tree;apply Hk;show wpAny_of_eq (PySem.F.newCall_set_1 v)<|Hr #[KM PySem.F.plain_set_new _,?_];apply JP PySem.F.entry_set_new;unfold Builtin.«set.__new__» Builtin.Frozenset.newClass;let a4B:=sub_set_self;let#[A7]:=s
 wp_walk
 apply Ky;apply Hr;apply Hk;apply wpAny_alloc;show Hr (Hr q)
def b9N {St:Nat->Heap->Prop}(W:e4j A.in1 I fp wr n P St)(D:Addr)(hD:D∉fp)(val:Nat->Int)(UO:∀ i v,P i v->∃ t,v=.int (val i) t):
  ∀ (m i:Nat)(s:Ê)(S:Ξ),n - i=m->i<=n->St i s.heap->e2d s.heap D S->S.length+m+1<scanBound->
   (∀ h' tk,(∀ b o,b∉D::wr->s.heap.get? b=!o->h'.get? b=!o)->e2d h' D (((List.range n).drop i).foldl (λS j=>fU S (val j)) S)->R BM { s with heap:=h',toks:=tk })->
   codeAny Ē A (.builtin "set.update.loop" #[[.ref D,.ref I],[]]) R s
 | 0,i,s,S,hm,hi,st,hS,hb,hR=>by
  let:i=n:=#[]
  ext d5M;ext d3l;show W.done s _ _ st λe5F hk=>?_;change wpAny _ A.in1 c2q _ _ _;show Hr (hR h' tk (λe3L=>e7q (λz=>hb<|HM _ z) e) ?_);rw[L7<|by simp];show hS.to λo e=>hk D o b9t e
 | m+1,i,s,S,hm,hi,st,hS,hb,hR=>by
  let NU:i<n:=#[]
  ext d3l;show W.item i s _ _ NU st λv h1 tk hP st1 hk=>?_;let#[t,1]:=UO i v hP;let hS1:e2d h1 D S:=hS.to λo e=>hk D o b9t e;change wpAny _ A.in1 (holding [Value.int (val i) t] (setAdd D<|.int (val i) t) >>= _) _ _ _;apply Hk;apply IL;unfold setAdd;apply IL;apply Hk;show (e7D w).pyHash (k:=val i) (intKind_is _ _ _ _) ?_;show c59 (s:={ s with heap:=h1,toks:=tk+1 }) hS1 #[] λb h2 sb hS2=>?_;let hlen:(fU S<|val i).length<=S.length+1:=by
   unfold fU;split
   ·lia
   ·rw[HE];show Hz _
  show Hr #[KM b5F _,?_];show b9N W D hD val UO m (i+1) _ (fU S<|val i) #[] NU (W.frame _ _ _ st1 λe9y=>?_) hS2 #[] λh3 tk3 k3 hS3=>?_
  ·change h2.get? b=!o;rw[sb.2 b (λz:b=D=>hD<|z▸hb)];show e
  ·show hR h3 tk3 (λe3L=>k3 b o hb ?_) ?_
   ·change h2.get? b=!o;rw[sb.2 b (λz:b=D=>hb<|z▸HS ..)];show hk b o (λz=>hb<|HM _ z) e
   ·rw[Jy<|show i<(List.range n).length by simpa using NU,JR];simpa using hS3
theorem Cl (A:Ë)(el)(c78):Prop:=A.handled=none\/∃ ea∈el,A.handled=!.ref ea/\Ox h ea
def Cl.to (x:f1k h)(k:∀ ea∈el,∀ o,h.get? ea=!o->h'.get? ea=!o):f1k h':=x.imp id λJ'=>by let#[fX,b]:=J';show#[fX,b.at λo e=>k ea m o e]
def Cl.ca (x:f1k h)(n:it∉el):Ca A h it:=x.imp id λJ'=>by let#[fX,b]:=J';show#[ea,a,λz=>n<|z▸m,b]
def Ca.el (c:Ca A h h.objs.size):∃ el,(∀ b∈el,b<h.objs.size)/\Cl A el h:=c.elim (λz=>#[[],nofun,.inl z]) λJ'=>by let#[ea,x,_,l]:=J';show#[[ea],λb m=>by rw[HH.mp m];let#[pH,e,_]:=l;show HG e,.inr #[ea,HS,x,l]]
def a27 {prog:É}{w:World}{A:Ë}(el)(I ax:Addr)(V5:I∉el)(U8:ax≠I)(items:Ó):e4j A I (I::ax::el) [I] items.size (λi v=>items[i]?=!v) (d9n (h.IsListIter I ax i/\h.IsList ax items)) where
 sub:=λe1C=>by simp at hb;simp[hb]
 frame:=λf0E=>by let#[zO]:=J';show#[#[st.1.at λo e=>f03 e,st.2.at λo e=>hk ax Ĕ o e],cl.to λe32=>e3z e]
 item:=λe3t=>by let#[zO]:=J';show wpAny_pyNext_list_item st.1 st.2 (x:=items[i]) Ĕ λh' a86 hs'=>?_;show hQ _ h' s.toks Ĕ #[#[a86,st.2.extBut hs'.extBut U8],cl.to λe32=>hs'.extBut ea o (λz=>V5<|z▸m) e] λe3L=>hs'.extBut b o Op e
 done:=λe7h=>by let#[zO]:=J';show a45 C0 st.1 st.2 Ĕ λh' he'=>hQ h' s.toks λe3L=>he' b o Op e
 self:=λe4P=>wpAny_pyIter_listiter st.1.1 hQ
theorem gQ (ns):Ξ:=ns.foldl fU []
def c0I (ns):(List.range ns.length).foldl (λS j=>fU S (f1l 0)) []=gQ ns:=by
 let e:(List.range ns.length).map (λj=>f1l 0)=ns:=by show List.ext_getElem Ĕ λi e2H=>?_;simp[h2]
 let:=List.foldl_map (f:=λj=>f1l 0) (g:=fU) (l:=List.range ns.length) (init:=[]);ext d5y;show this.symm
def b4k (c7E)(d1C)(hi:IntsAre items.toList ns)(hb:items.size+1<scanBound)(q:∀ h' tk,e2d h' s.heap.objs.size (gQ ns)->vZ->Q į { s with heap:=h',toks:=tk }):e0f (call oU xz) Q E s:=by
 let#[c,tl,b4c]:=PySem.F.called_set.mro;let b1o:=PySem.F.called_set.made;let a4B:=PySem.F.called_set.sub;apply KN;apply codeAny_of_tree;change wpAny _ _ (callAny oU _) _ _ _;show Hr b4u;apply JP PySem.F.entry_type_call;rw[Around.under_plain (weight_type_call_type "set" xz []) rfl];let h1:=PySem.F.called_set.notType;let h2:=PySem.F.called_set.canCreate;let hct:=PySem.F.typeCall_set_1<|.ref l;ext d2O
 let hlen:items.size=ns.length:=by let:=gi hi;rwa [IC]at this
 show JI (Dh z8 (E:=E) (Q₁:=λobj s₁=>obj=.ref s.heap.objs.size/\s₁={ s with heap:=s.heap.push (mZ w) }) #[2]) λr s₁ hr=>?_
 cases r with
 | error e=>show hr
 | ok fl=>
  cases fl with
  | ret obj=>
   let#[2]:=hr;let hS:(s.heap.push<|mZ w).get? s.heap.objs.size=!mZ w:=HD _ rfl;let hT:Shared.TypeIs { s with heap:=s.heap.push (mZ w) } į "set":=#[_,hS,1]
   let hli:=PySem.F.called_set.init.lookup;let hbi:=PySem.F.called_set.init.bind<|.ref s.heap.objs.size;ext d2O
   show JI (Li (R:=wants (λr s₂=>r=.none/\∃ h' tk,s₂={ s with heap:=h',toks:=tk }/\P1 prog w h' s.heap.objs.size (gQ ns)/\∀ b o,s.heap.get? b=!o->h'.get? b=!o) E) PySem.F.called_set.init.plain PySem.F.entry_set_init (check_set_init_1 hT ?_)) λr₂ s₂ hr₂=>?_
   ·let#[ol,WE,V6,nl,XU]:=hl;let#[b3p,a3T,b0T,a0N]:=ol;simp only at V6 XU;subst V6;subst XU;let a4N:(s.heap.push<|mZ w).get? l=!{ cls:=.type "list",dict:=a3T,data:=.seq items nl,slots:=a0N }:=Hn _ WE;let b3Z:=PySem.F.sub_list_set;let b30:=PySem.F.sub_list_frozenset;let U8:(d84 "list" "dict")=false:=by decide
    let U9:(s.heap.push<|mZ w).IsList l items:=#[_,a4N,1,nl,1]
    unfold mZ at hS hT a4N U9 ⊢;unfold Builtin.«set.__init__» noKeywords Builtin.Frozenset.updateFrom;generalize hPI:pyIter=PI
    wp_walk
    subst hPI;show Ku U9 ?_;ext d7A;let hlS:l<s.heap.objs.size:=HG WE;let sz:(s.heap.push<|mZ w).objs.size=s.heap.objs.size+1:=Ja ..;ext d3r;let nI:l≠(s.heap.push<|mZ w).objs.size:=by rw[sz];show Ib (JL hlS)
    let nD:s.heap.objs.size∉(s.heap.push<|mZ w).objs.size::l::el:=by rw[sz];ext d8m;show#[Ib<|J3 _,J9 hlS,nel _<|Hz _]
    show b9N (a27 el _ l (nel _<|HU (K6 _) (KR sz.symm)) nI items) s.heap.objs.size nD (λi=>ns.getD i 0) (λi v hv=>IntsAre.int_at hi i v (by rw[JH];show hv)) items.size 0 _ [] #[] (Iv _) #[#[qQ,U9.push _],cl.to λe0j e=>Hn _<|Hn _ e] (a0X<|Hn _ hS) (by simp;lia) λe5F hk XX=>?_;apply Hr;change wpAny _ _ c2q _ _ _;rw[L6,hlen,c0I]at XX;show Hr #[1,h',tk,1,XX,λe0D=>hk b o ?_<|Hn _ (Hn _ e)];let hb:=HG e;ext d8m;show⟨Ib hb,λz=>?_⟩;rw[z]at hb;show absurd hb (by rw[show (f0h _).objs.size=s.heap.objs.size+1 from Ja ..];show Nat.not_lt.mpr<|K6 _)
   ·cases r₂ with
    | error e=>show hr₂
    | ok fl₂=>
     cases fl₂ with
     | ret r=>
      let#[1,h',tk,1,XX,VS]:=hr₂;ext d2O
      show q _ _ XX VS
     | _=>show hr₂.elim
  | _=>show hr.elim
def c3B:entryFor table "set.__iter__"=some Builtin.«frozenset.__iter__»:=entryFor_alias (id':="frozenset.__iter__") ŝ rfl Ĥ ŝ
def Nh:Slot "set_iterator" "__next__" "set_iterator.__next__":=e48 (n:="__next__") (by rw[Lw,Kr];kernel_rfl) Ĥ Ĥ Ĥ b12 (by rw[isSubtype_type];kernel_rfl)
def c24:Slot "set_iterator" "__iter__" "set_iterator.__iter__":=e48 (n:="__iter__") (by rw[Lw,Kr];kernel_rfl) Ĥ Ĥ Ĥ b12 (by rw[isSubtype_type];kernel_rfl)
def a2V:entryFor table "set_iterator.__next__"=some Builtin.«set_iterator.__next__»:=entryFor_of_tree ŝ
def a7s:Manifest.owners.lookup (String.ofList "set_iterator".toList.reverse.reverse)=!Manifest.sig_set_iterator:=by kernel_rfl
def a6x (a:Value):argsOk "set_iterator.__next__" #[[a],[]]:=by
 unfold argsOk;rw[signature?_of (n:=['_','_','t','x','e','n','_','_']) ŝ a7s]
 kernel_rfl
def c0N (a:Value):argsOk "set_iterator.__iter__" #[[a],[]]:=by
 unfold argsOk;rw[signature?_of (n:=['_','_','r','e','t','i','_','_']) ŝ a7s]
 kernel_rfl
def b3e:entryFor table "set_iterator.__iter__"=some Builtin.«dict_keyiterator.__iter__»:=entryFor_alias (id':="dict_keyiterator.__iter__") ŝ rfl Ĥ ŝ
def jP:∀ (l:List α)(k:Nat)(h:k<l.length),(l[k]::l.eraseIdx k).Perm l
 | x::xs,0,_=>.refl _
 | x::xs,k+1,h=>by
  let h:k<xs.length:=by simpa using h
  change (xs[k]::x::xs.eraseIdx k).Perm (x::xs);show (List.Perm.swap ..).trans ((jP xs k h).cons x)
def a8i (hn:n≠0)(q:∀ k d,k<n->Q k { s with drawn:=d }):e0f (choose src n) Q E s:=λΓ p hΓ=>#[hn,q _ _<|Nat.mod_lt _ (Nat.pos_of_ne_zero hn)]
def a08:∀ (n:Nat)(xs:List α)(s:Ê)(Q:List α->Shared->Prop),xs.length=n->(∀ ys d,ys.Perm xs->Q ys { s with drawn:=d })->e0f (drawOrder n xs) Q E s
 | 0,xs,s,Q,hl,q=>by obtain rfl:xs=[]:=JM.mp hl;rw[drawOrder];show Hr (q [] s.drawn .nil)
 | n+1,[],s,Q,hl,q=>by cases hl
 | n+1,x::xs,s,Q,hl,q=>by rw[drawOrder];rotate_left;nofun;apply Hk;show a8i Ĕ λk d hk=>?_;rw[Hm hk];dsimp only;apply Hk;show a08 n _ _ _ (by rw[List.length_eraseIdx_of_lt hk];lia) λys d2 hp=>?_;show Hr ?_;let Vn:((x::xs)[k]::ys).Perm (x::xs):=(hp.cons _).trans<|jP _ _ hk;show q _ d2 Vn
def a6r (next:Nat->Nat):∀ (f k:Nat)(left:List α)(out:Array α),left.length=f->(pickOrder.go next f k left out).toList.Perm (out.toList++left)
 | 0,k,left,out,hl=>by obtain rfl:left=[]:=JM.mp hl;rw[pickOrder.go];rw[HV]
 | f+1,k,left,out,hl=>by
  let hk:next k % left.length<left.length:=Nat.mod_lt _ #[]
  rw[pickOrder.go];rw[Hm hk];dsimp only;let:=a6r next f (k+1) (left.eraseIdx<|next k % left.length) (out.push left[next k % left.length]) (by rw[List.length_eraseIdx_of_lt hk];lia)
  show this.trans ?_;rw[Array.toList_push,Ik];show List.Perm.append_left _ (jP _ _ hk)
def lC (next:Nat->Nat)(xs:Array α):(pickOrder next xs).toList.Perm xs.toList:=by unfold pickOrder;simpa using a6r next xs.size 0 xs.toList [].toArray Ĕ
theorem Rv (c78)(it a:Addr)(first:Value)(i n ep:Nat):Prop:=∃ o,h.get? it=!o/\o.cls=.type "set_iterator"/\o.data=.fields [first,rawInt i,.ref a,rawInt n,rawInt ep].toArray
theorem Ru (c78)(a)(es)(ep:Nat)(t:SetTable):Prop:=∃ o,h.get? a=!o/\o.ExactSet/\o.data=e9S t
def Rv.to (x:f1m f i n ep)(k:∀ o,h.get? it=!o->h'.get? it=!o):e9T f i n ep:=let ⟨o,g,r⟩:=x;#[o,k o g,r]
def Ru.to (x:Ru h a es ep t)(d0p):Ru h' a es ep t:=let ⟨o,g,r⟩:=x;#[o,k o g,r]
section
variable {slot:Nat}
def a9z (c9r)(hn:∀ (A:Ë)(E:ρ)(R:Option (Value×Nat)->Shared->Prop),R (!(v,nx)) s->e8L s)(q:∀ h',e9T (rawInt nx) (i+1) es.size ep->e2U h'->Q (!v) { s with heap:=h' }):e0X s:=by
 ext d2M
 ext d62;ext d4U;let J1:(s.heap.update it<|Obj.mapFields (d9g 0 (rawInt<|nx))).get? it=!_:=Io _ u1<|IY (Iy u3 _);let d1:=Iy u3 (d9g 0 (rawInt (nx:Int)));apply Hk;show IM J1 d1 Ĕ ?_;let J2:=Io b95 J1<|IY (Iy d1 _);show Hr #[_,1,Hr<|q _ #[_,J2,cW] b70]
 ·rw[K5,K5];show u2
 ·rw[Iy d1];simp
def c0G {s:Ê}(c:A.handled=none\/∃ ea,A.handled=!.ref ea/\Ox h ea)(q:∀ h',Heap.ExtBut it h h'->Q none { s with heap:=h' }):
  wpAny Ē A.in1 (do raiseNew (<- newExc wf []):Sem PySem.Fin) (λfin s'=>∃ v,fin=.done (.ret v)/\wpAny Ē A (match (Except.ok (!v):Except Value Î) with
   | .ok (some v)=>pure !v
   | .ok none=>unsupported "iter:the-iterator's-class-has-lost-its-__next__-amid-the-walk"
   | .error e=>do if <- isInstance e wf then pure none else throw e) Q E s')
   (λe s'=>e0f (match (Except.error e:Except Value Î) with
   | .ok (some v)=>pure !v
   | .ok none=>unsupported "iter:the-iterator's-class-has-lost-its-__next__-amid-the-walk"
   | .error e=>do if <- isInstance e wf then pure none else throw e) Q E s') { s with heap:=h }:=
 dh c λh' e k J'=>by let#[kh]:=J';show Hk (Jw #[kh] b6H<|Hr (q _ λe76 g=>k b o g))
def a3x (c:e8e it)(c9r)(hn:∀ (A:Ë)(E:ρ)(R:Option (Value×Nat)->Shared->Prop),R none s->e8L s)(c8T):e0X s:=by
 ext d2M
 ext d62;apply Hk;show IM u1 u3 (by simp) ?_;show c0G (c.at λf2r g=>(e4m _).extBut ea o ne g) λh' e=>q h' λe0u g=>e b o hb ((e4m _).extBut b o hb g)
def a8o {ps:À}(c7A)(hp:ps[i]?=!p)(hv:(es[p]?).map (·.2)=!v)(q:∀ h',e9T lT (i+1) es.size ep->e2U h'->Q (!v) { s with heap:=h' }):e0X s:=by
 ext d2M
 ext d7B;let#[e,he,1]:=HZ.mp hv;ext d6v;let ZG:((ps.map λ(j:Nat)=>rawInt j).toArray)[(i:Int).toNat]?=!.int (p) 0:=by simp[hp,rawInt]
 rw[ZG];ext d4k;show Kt g1 g3 hf ?_;dsimp only;rw[if_neg<|by simp,Il,he];ext d4e;ext d4U;let J2:=Io b95 u1<|IY (Iy u3 _);show Hr #[_,1,Hr<|q _ #[_,J2,cW] (HY ..)]
 ·rw[K5];show u2
 ·rw[Iy u3];simp
def b8A {ps:À}(c:e8e it)(c7A)(hp:ps.length<=i)(c8T):e0X s:=by
 ext d2M
 ext d7B;ext d6v;let ZG:((ps.map λ(j:Nat)=>rawInt j).toArray)[(i:Int).toNat]?=none:=by simp[hp]
 rw[ZG];ext d4U;let J1:(s.heap.update it<|Obj.mapFields (d9g 0 (rawInt 0))).get? it=!_:=Io _ u1<|IY (Iy u3 _);let d1:=Iy u3 (·.setIfInBounds 0 (rawInt 0));apply Hk;show IM J1 d1 (by simp) ?_;show c0G (c.at λf2r g=>(HY _ it _).extBut ea o ne<|(e4m _).extBut ea o ne g) λh' e=>q h' λe0u g=>e b o hb ((HY _ it _).extBut b o hb<|(e4m _).extBut b o hb g)
universe e
section
variable {prog:É}{w:World}{A:Ë}{a it:Addr}{es:Array (Int×Value)}{i ep:Nat}{t:SetTable}
theorem jc (t:SetTable)(i):Nat:=if i=0 then 0 else t.place.getD (i - 1) 0+1
def f2G (hr:yn t.place)(hs:t.place.size=n)(hi:i<=n):e0G (jc t i)=i:=by
 let#[xu]:=a6G hr _;generalize hb:e0G _=b at h1 h2 h3;unfold jc at h2 h3;by_cases h0:i=0
 ·rw[if_pos h0]at h2;by_cases c:b=0
  ·lia
  ·show absurd (h2 0<|by lia) (JQ _)
 ·rw[if_neg h0]at h2 h3;by_cases c1:b<i
  ·let:=h3 (i - 1) #[] #[]
   lia
  ·by_cases c2:i<b
   ·let k1:=h2 i c2;let k2:=hr (i - 1) i #[] #[]
    lia
   ·lia
def b00 (c69)(c9D)(hi:i<=es.size)(q:R ((es[i]?).map λe=>(e.2,jc t (i+1))) s):e0f (setNext a (jc t i) i ep) R E s:=by
 ext d5z;let hs:t.place.size=es.size:=by simp only[SetTable.fits,Jn,Kj]at hf;show hf.1
 ext d24;rw[show (e2y w).w.params.followText "set-order"=false from hb,if_neg<|by decide];show Kq (λz=>?_) oN
 ·let z:(not t.plain&&decide _)=true:=z;rw[hd]at z
  cases z
 apply Hk;show Kq wH (λ_=>Hr ?_)
 ·let z:=z;rw[hg.led]at z
  cases z
 rw[f2G hg.rise hs hi];ext d4e
 cases he:es[i]? with
 | none=>rw[he]at q;show q
 | some e=>
  rw[he]at q;let hl:i<t.place.size:=by rw[hs];show (Jv.mp he).1
  rw[IE hl];let:jc t (i+1)=t.place[i]+1:=by unfold jc;simp[hl]
  rw[this]at q;show q
def c40 (c69)(hb:VX w=true)(q:R (((e2j es)[i]?).map λe=>(e.2,slot)) s):e8L s:=by ext d5z;ext d24;rw[show (e2y w).w.params.followText "set-order"=true from hb,if_pos rfl,if_neg<|by simp];apply Hk;ext d24;rw[show (e2y w).w.params.followText "set-order"=true from hb,if_pos rfl];apply Hk;apply Ky;show Hr (Hr q)
def a6b (h:e7w acc n)(hl:L.length=n)(hp:∀ j v,P j v->L[j]?=!v):acc.toList=L:=by
 show JN λj=>?_;by_cases c:j<acc.size
 ·let:=hp j acc[j] (h.2 j _<|IE c)
  simp_all
 ·rw[II<|by simp_all,II (by rw[hl,<- h.1];lia)]
def a6S (I:Rv s.heap it a f i n ep)(q:Q ĸ s):e0f Ec Q E s:=by
 ext d2M
 show wpAny_pyIter_slot T c24 (IF c24 T b3e ?_<|c0N _);show Hr #[_,1,"set_iterator",_,T,Nh.lookup,q]
def a28 (el)(V5)(ne)(c9N)(c9D):
  Walks prog w A it (it::a::el) [it] es.size (λi v=>(es[i]?).map (·.2)=!v) (d9n (i<=es.size/\Rv h it a (rawInt (jc t i)) i es.size ep/\Ru h a es ep t)) where
 sub:=λe1C=>by simp at hb;simp[hb]
 frame:=λf0E=>by let#[zO]:=J';show#[#[st.1,st.2.1.to λo e=>e9U e,st.2.2.to λo e=>f1n e],cl.to λe32=>e3z e]
 item:=λe3t=>by let#[zO]:=J';let he:es[i]?=some es[i]:=IE hi;show a9z (v:=es[i].2) (nx:=jc t<|i+1) st.2.1 st.2.2 hf (λA E R q=>e7E st.1 (by rw[he];show q)) λh' J sb=>?_;show hQ _ h' s.toks (by rw[he];rfl) #[#[hi,J,st.2.2.to λo e=>e4z e],cl.to λe32=>e1B e] λe3L=>e4A e
 done:=λe7h=>by let#[zO]:=J';show a3x C0 st.2.1 st.2.2 hf (λA E R q=>e7E st.1<|by simp_all) λh' eb=>?_;show hQ h' s.toks λe3L=>eb b o Os e
 self:=λe4P=>a6S st.1.2.1 hQ
def a3a (el)(V5)(ne)(c9N)(hb:VX w=true):
  Walks prog w A it (it::a::el) [it] es.size (λi v=>((e2j es)[i]?).map (·.2)=!v) (d9n (f1m (rawInt ((0:Nat):Int)) i es.size ep/\Ru h a es ep t)) where
 sub:=λe1C=>by simp at hb;simp[hb]
 frame:=λf0E=>by let#[zO]:=J';show#[#[st.1.to λo e=>e9U e,st.2.to λo e=>f1n e],cl.to λe32=>e3z e]
 item:=λe3t=>by
  ext d8K;let hs:(e2j es).size=es.size:=by let:=(lC Ń es).length_eq;rwa [IC,IC]at this
  let he:=IE (xs:=e2j es) (i:=i) #[0];show a9z st.1 st.2 hf (λA E R q=>c40 st.2 hf hb (by rw[he];show q)) λh' J sb=>?_;show hQ _ h' s.toks (by rw[he];rfl) #[#[J,st.2.to λo e=>e4z e],cl.to λe32=>e1B e] λe3L=>e4A e
 done:=λe7h=>by
  ext d8K;let hs:(e2j es).size=es.size:=by let:=(lC Ń es).length_eq;rwa [IC,IC]at this
  show a3x C0 st.1 st.2 hf (λA E R q=>c40 st.2 hf hb (by rw[JV<|by omega];show q)) λh' eb=>?_;ext d5G
 self:=λe4P=>a6S st.1.1 hQ
def a29 (el)(V5){tp:Addr}{ps:À}(ne)(nt:tp≠it)(c9N)(hp:ps.Perm b9u):
  Walks prog w A it (it::tp::a::el) [it] es.size (λi v=>∃ p,ps[i]?=!p/\(es[p]?).map (·.2)=!v) (d9n (f1m lT i es.size ep/\Ru h a es ep t/\∃ o c,h.get? tp=!o/\o.data=.seq (ps.map λ(j:Nat)=>rawInt j).toArray c)) where
 sub:=λe1C=>by simp at hb;simp[hb]
 frame:=λf0E=>by let#[zO]:=J';show#[#[st.1.to λo e=>e9U e,st.2.1.to λo e=>f1n e,let ⟨o,c,e1,e2⟩:=st.2.2;#[o,c,hk tp Ĕ o e1,e2]],cl.to λe32=>e3z e]
 item:=λe3t=>by
  ext d8K;let hl:ps.length=es.size:=by let:=hp.length_eq;rwa [ID]at this
  let h1:ps[i]?=some ps[i]:=Hm #[];let h2:ps[i]<es.size:=IB.mp<|hp.mem_iff.mp (IH _);let h3:(es[ps[i]]?).map (·.2)=!es[ps[i]].2:=by rw[IE h2];rfl
  show a8o st.1 st.2.1 hf st.2.2 h1 h3 λh' J sb=>?_;let#[o,c,zw]:=st.2.2;show hQ _ h' s.toks #[_,h1,h3] #[#[J,st.2.1.to λo e=>e4z e,o,c,sb.extBut tp o nt e1,e2],cl.to λe32=>e1B e] λe3L=>e4A e
 done:=λe7h=>by
  ext d8K;let hl:ps.length=es.size:=by let:=hp.length_eq;rwa [ID]at this
  show b8A C0 st.1 st.2.1 hf st.2.2 #[] λh' eb=>?_;ext d5G
 self:=λe4P=>a6S st.1.1 hQ
universe e
open PySem.W
section
variable {prog:É}{w:World}{A:Ë}{a:Addr}{S:Ξ}
def P1.ty {s:Ê}(c9M):s.TypeIs kX "set":=let ⟨o,es,ep,t,ms,g1,g2,r⟩:=h;#[o,g1,g2.1]
structure b0b (prog:É)(w:World)(A:Ë)(c78)(a:Addr)(S:Ξ)(el:υ)(I:Addr)(h':Heap)(fp:υ)(P:Nat->Value->Prop)(St:Nat->Heap->Prop)(n:Nat):Prop where
 walk:Walks prog w A I fp [I] n P St
 len:n=S.length
 st:St 0 h'
 fpo:∀ b∈fp,b=a \/ b∈el \/ h.objs.size<=b
 new:h.objs.size<=I
 keep:∀ b o,h.get? b=!o->h'.get? b=!o
 all:∀ acc:Ó,ItemsOf P acc n->∃ ms,IntsAre acc.toList ms/\ms.Perm S
def b1u (c7E)(c9M)(c9V)(q:∀ I h' d fp P St n,b0b prog w A s.heap a S el I h' fp P St n->Q (d9G I) { s with heap:=h',drawn:=d }):e0f (pyIter kX) Q E s:=by
 let T:=h.ty;let#[Ah]:=h;let hl:es.size=S.length:=by let:=gi g7;rwa [Hl,IC,g8.length_eq]at this
 let NU:=HG g1;ext d3r;show wpAny_pyIter_slot T PySem.F.slot_set_iter (IF PySem.F.slot_set_iter T c3B ?_<|PySem.F.args_set_iter_1 _);unfold Builtin.«frozenset.__iter__» Builtin.Frozenset.slot0 slotArgs;simp only[List.isEmpty_nil,Bool.not_true,IX,↓reduceIte,bind_assoc,K3,bne_self_eq_false];ext d8L;ext d8L;ext d4k;show a9v g1 g3 g4 (Hr ?_);ext d4k;show Kt g1 g3 g4 ?_;ext d4k;apply Ky;show Hr (Hr ?_);show Kq (λz=>?_) wH
 ·let hb:VX w=false:=by
   let z:a8g=true:=z
   cases hx:VX w with
   | false=>rfl
   | true=>rw[hx]at z;cases z
  apply Hk;show a08 es.size b9u _ _ ID λps d hp=>?_;apply Hk;show wpAny_newTuple ?_ (by rw[Hl,hp.length_eq,ID];show LH<|by omega);apply Hk;show wpAny_setEpoch_of (Hn _ g1) g3 g4 ?_;ext d7d;let sz:(s.heap.push<|seqObj "tuple" (ps.map λ(i:Nat)=>rawInt i).toArray 0).objs.size=s.heap.objs.size+1:=Ja ..;show Hr #[oR,q _ _ d _ _ _ es.size #[a29 el (nel _<|HU (K6 _) (KR sz.symm)) ?_ ?_ g4 hp,hl,#[#[qQ,#[o,Hn _<|Hn _ g1,g2,g3],_,_,Hn _<|HD _ rfl,1],cl.to λe0j e=>Hn _<|Hn _ e],?_,?_,λe0D=>Hn _<|Hn _ e,?_]]
  ·show λz=>absurd NU (by rw[z];show Nat.not_lt.mpr (by change s.heap.objs.size<=_;rw[Ja ..];show K6 _))
  ·show λz=>absurd (J3 s.heap.objs.size) (by rw[show s.heap.objs.size.succ=(f0h _).objs.size from (Ja ..).symm,<- z];show Jm _)
  ·ext d6w;rcases hb with rfl|rfl|rfl|hb
   ·show .inr (.inr (by change s.heap.objs.size<=_;rw[Ja ..];show K6 _))
   ·show .inr (.inr<|Hz _)
   ·ext d7e
   ·show .inr (.inl hb)
  ·change s.heap.objs.size<=_;rw[Ja ..];show K6 _
  ·intro acc OZ;let RH:ps.length=es.size:=by let:=hp.length_eq;rwa [ID]at this
   let e:=a6b OZ (L:=ps.map λp=>((es[p]?).map (·.2)).getD .none) (by rw[Hl,RH]) fun j v ⟨p,h1,h2⟩=>by rw[Hy,h1,Option.map_some,h2];rfl
   rw[e];let pm:(ps.map λp=>((es[p]?).map (·.2)).getD .none).Perm b7Z:=by
    show (hp.map _).trans ?_;let:(List.range es.size).map (λp=>((es[p]?).map (·.2)).getD .none)=es.toList.map (·.2):=by
     show List.ext_getElem Ĕ λi e2H=>?_;let:i<es.size:=by simpa using h2
     simp[this]
    rw[this]
   let#[m1,a1,a2]:=iY pm g7;show#[m1,a1,a2.trans g8]
 ·ext d8L;apply Hk;show wpAny_setEpoch_of g1 g3 g4 ?_;ext d7d;let ne:=Ib NU;let ce:∀ ob,f1k (s.heap.push ob):=λ_=>cl.to λe0j e=>Hn _ e;let fo:∀ b∈s.heap.objs.size::a::el,b=a\/b∈el\/s.heap.objs.size<=b:=by
   ext d6w;rcases hb with rfl|rfl|hb
   ·show .inr (.inr<|Hz _)
   ·ext d7e
   ·show .inr (.inl hb)
  let raw:Ru (s.heap.push { cls:=.type "set_iterator",data:=.fields [rawInt 0,rawInt 0,.ref a,rawInt es.size,rawInt ep].toArray }) a es ep t:=#[o,Hn _ g1,g2,g3]
  cases hb:VX w with
  | true=>
   show Hr #[oR,e49 #[a3a el (nel _<|Hz _) ne g4 hb,hl,⟨⟨⟨_,HD _ rfl,rfl,rfl⟩,raw⟩,ce _⟩,c4I]];let hp:=lC Ń es;let e:=a6b OZ (L:=(e2j es).toList.map (·.2)) (by rw[Hl,hp.length_eq,IC]) λj v hv=>by rw[Hy,JH];show hv
   rw[e];let#[m1,a1,a2]:=iY (hp.map (·.2)) g7;show#[m1,a1,a2.trans g8]
  | false=>
   let hd:a6d=false:=by let z:¬ a8g=true:=z;rw[hb]at z;simpa using z
   let hg:BK t true:=by let:=g5;rw[hb]at this;show this
   show Hr #[oR,e49 #[a28 el (nel _<|Hz _) ne g4 hb hd hg,hl,⟨⟨Iv _,⟨_,HD _ rfl,rfl,rfl⟩,raw⟩,ce _⟩,c4I]];let e:=a6b OZ (L:=es.toList.map (·.2)) (by rw[Hl,IC]) λj v hv=>by rw[Hy,JH];show hv
   rw[e];show#[ms,g7,g8]
universe e
def b21 (T:s.TypeIs kX "set")(q:Q false s):e0f (Builtin.List.listLengthHint kX) Q E s:=by
 apply Hk;show Ls T PySem.F.slot_set_len.lookup ?_;generalize hid:_=id0
 wp_delta
 subst hid;apply Hk;show Jw T sub_set_self ?_;show Kq (λz=>absurd z<|by decide) (λ_=>?_);show Kq oN λz=>absurd Ĥ z;apply Hk;show KQ T (Hr q)
def b96 (c7E)(hS)(c9V)(D:Addr)(hDe:D∉el)(hDa:D≠a)(res:Value)(c₀:Nat)(hD:s.heap.get? D=!{ cls:=.type "list",data:=.seq [].toArray c₀ })(hR:∀ h' tk d acc c ms,(∀ b o,b≠D->s.heap.get? b=!o->h'.get? b=!o)->h'.get? D=!{ cls:=.type "list",dict:=none,data:=.seq acc c,slots:=[].toArray }->e89 ms->ms.Perm S->R c2f { s with heap:=h',toks:=tk,drawn:=d }):
  wpAny Ē A.in1 (Builtin.List.listExtendWith qG kX res) v7 Lm s:=by
 apply Hk;show KQ hS.ty ?_;let n1:Builtin.List.listSameRef qG kX=false:=by simp[Builtin.List.listSameRef,hDa]
 let n2:(d84 "set" "list")=false:=by decide
 let n3:(d84 "set" "tuple")=false:=by decide
 simp only[n1,n2,n3,IX,JS];apply Hk;show b1u el he cl hS hb λI h1 d fp P St n tr=>?_;let hD1:=tr.keep D _ hD;let lt:=HG hD;let nf:D∉fp:=λz=>by
  rcases tr.fpo D z with e|e|e
  ·show hDa e
  ·show hDe e
  ·show absurd lt (Nat.not_lt.mpr e)
 let key:∀ (h:Heap)(c₁ tk:Nat),St 0 h->(∀ b o,b≠D->s.heap.get? b=!o->h.get? b=!o)->h.get? D=!{ cls:=.type "list",data:=.seq [].toArray c₁ }->
   codeAny Ē A (d9p D I) R { s with heap:=h,toks:=tk,drawn:=d }:=by
  intro h c₁ tk st hk hD2;let hn:n<=sizeLine:=by rw[tr.len];show LH hb
  show codeAny_extend_loopS tr.walk.toS hn D nf res n 0 _ [].toArray c₁ rfl (Iv _) st hD2 (ItemsOf.nil _) λs' acc c hm hD' OZ=>?_;let#[ms,CI]:=tr.all acc OZ;rw[Moved.eq_with hm];show hR s'.heap s'.toks d acc c ms (d9D hm.heap wH hk) hD' i1 i2;rcases HK.mp z with e'|z
  ·show hb e'
  ·rw[HH.mp z]at e;show absurd sv (Nat.not_lt.mpr tr.new)
 apply Hk;apply IL;show b21 (P1.ty<|hS.to λo e=>tr.keep a o e) ?_;show Kq oN λ_=>Hr #[KM KD _,key _ c₀ _ tr.st (λe76 e=>tr.keep b o e) hD1];apply Hk;apply Kw;ext d4k;show Lr hD1 rfl ?_;let hD2:=Io c2g hD1 rfl;show Lr hD2 rfl ?_;let hD3:=Io b8s hD2 rfl;let oth:∀ b,b≠D->∀ o,h1.get? b=!o->((h1.update D<|Obj.mapSeq b1I).update D<|Obj.mapSeq (·.pop)).get? b=some o:=λe9y=>
  (Ie _ _<|Ne.symm hb).trans ((Ie _ _<|Ne.symm hb).trans e)
 show Hr #[KM KD _,key _ _ _ (tr.walk.frame 0 _ _ tr.st λe9y=>oth b (λz=>nf<|z▸hb) o e) (λe3L=>oth b hb o<|tr.keep b o e) hD3]
def vV (c7E)(hS)(c9V)(q:∀ h' tk d acc ms,vZ->IntsAre acc ms->ms.Perm S->R acc { s with heap:=h',toks:=tk,drawn:=d }):e0f (collect kX) R E s:=by
 let lt:a<s.heap.objs.size:=by let#[o,xT,g,_]:=hS;show HG g
 ext d7A;apply JP entry_proto_collect';rw[Kx PySem.F.plain_proto_collect _];ext d7d;show Hr #[KM PySem.F.plain_list_iadd _,?_];apply JP entry_list_iadd';rw[Kx PySem.F.plain_list_iadd _];let hD:(s.heap.push { cls:=.type "list",data:=.seq ([]).toArray }).get? s.heap.objs.size=!{ cls:=.type "list",data:=.seq [].toArray }:=HD _ rfl;let key:=b96 (s:={ s with heap:=s.heap.push { cls:=.type "list",data:=.seq ([]:θ).toArray } })
  (R:=λr s'=>∃ h' tk d acc c ms,r=.ok _/\s'={ s with heap:=h',toks:=tk,drawn:=d }/\(∀ b o,s.heap.get? b=!o->h'.get? b=!o)/\h'.get? s.heap.objs.size=!{ cls:=.type "list",dict:=none,data:=.seq acc c,slots:=[].toArray }/\IntsAre acc.toList ms/\ms.Perm S)
  el (λb m=>Ip (he b m) (by rw[Ja ..];show K6 _)) (cl.to λe0j e=>Hn _ e) (hS.to λo e=>Hn _ e) hb s.heap.objs.size (λz=>absurd (he _ z)<|Jm _) (J9 lt) į 0 hD
  (λe5F d acc c ms hk e2H h3=>#[h',tk,d,acc,c,ms,2,λe0D=>e7q xc<|Hn _ e,h1,h2,h3])
 show Jd key (λfin s' x=>?_) λe s' x=>?_
 ·cases fin with
  | done f=>
   let#[h',tk,d,acc,c,ms,e,1,hk,xu]:=x
   cases e;ext d5A
  | again c₁=>
   show#[x.1,JI x.2 λr s₂ y=>?_];let#[h',tk,d,acc,c,ms,2,hk,xu]:=y;ext d5A
 ·let#[On,e',_]:=x
  cases e'
universe L2.Sk
namespace L2
open PySem PySem.Spec PySem.Calls PyProof.Rows L2.Sk
def Inv.drawn (I)(d:Drawn):e0c H { s with drawn:=d }:=#[I.ok,Ap]
theorem a0t (prog)(w)(r:Addr)(S:Ξ):HO:=.ext (λh=>e2d h r S)
namespace Sk
instance xW (ns):∀ S:Ξ,S.Nodup->(ns.foldl fU S).Nodup/\(∀ k,k∈ns.foldl fU S ↔ k∈S\/k∈ns)/\((S++ns).Nodup->ns.foldl fU S=S++ns)/\(ns.foldl fU S).length<=S.length+ns.length:=by
 induction ns with
 | nil=>intro S h;show#[h,λk=>by simp,λ_=>by simp,by simp]
 | cons n ns ih=>
  intro S h;let h1:(fU S n).Nodup:=by
   unfold fU;split
   ·show h
   ·rename_i hn;show HX.mpr ⟨h,by simp,λa ha b hb e=>hn (by rw[HH.mp hb]at e;show e▸ha)⟩
  let#[a,b,c,d]:=ih _ h1;rw[JR];show#[a,λk=>?_,λhn=>?_,?_]
  ·rw[b k];unfold fU;split
   ·rename_i hn;rw[HK];constructor
    ·rintro (z|z)
     ·show .inl z
     ·show .inr (.inr z)
    ·rintro (z|z|z)
     ·show .inl z
     ·show .inl (z▸hn)
     ·show .inr z
   ·rw[HW,HH,HK,or_assoc]
  ·let hm:=λz=>(HX.mp hn).2.2 n z n (HS ..) rfl;let e:fU S n=S++[n]:=if_neg hm;rw[e]at c ⊢;rw[c<|by simpa using hn];simp
  ·let:(fU S n).length<=S.length+1:=by
    unfold fU;split
    ·lia
    ·rw[HE];show Hz _
   rw[I0]
   lia
def f2C (h:ns.Nodup):gQ ns=ns:=by rw[gQ,(xW ns [] Jt).2.2.1<|by simpa using h];rfl
def Ci (ns):(gQ ns).length<=ns.length:=by let:=(xW ns [] Jt).2.2.2;unfold gQ;ext d5q
universe Sk
def zI (hc):Ms X oU (λe1w=>∃ (l:Addr)(ns:Ξ),xs=xz/\H l=!.lst ł/\ns.length<4000/\∀ r,H r=none->Q su (d86 r (f2e r (gQ ns)))):=by
 ext d2D;let#[l,ns,1,hH,NU,q]:=h;ext d3N
 cases rx;let#[z',its,n,r,hl,e]:=I.Vk hH;let hI:=nL r;let hlen:its.length=ns.length:=by simp_all
 ext d4h;show b4k (items:=its.toArray) (ns:=ns) el he cl ⟨_,e,rfl,n,rfl⟩ (by simpa using hI) (by simp;lia) λe5F hS keep=>?_;show#[.ref s.heap.objs.size,_,I.laid (t':=tk) keep nY<|show Mc X.prog X.w _ _ _ (f2e s.heap.objs.size<|gQ ns) from ⟨hS,let ⟨o,_,_,_,_,g,_⟩:=hS;⟨o,g⟩,λe2H x k=>x.to k⟩,1,q _<|I.LY.fresh nY]
def nq (hc):Ms X b9Z (λe1w=>∃ (r:Addr)(S:Ξ),xs=[.ref r]/\H r=!a0t X.prog X.w r S/\S.length<64/\∀ PH:Ξ,PH.Perm S->PH.Pairwise E6->O7 H vk Q):=by
 ext d2D;let#[a,S,1,hH,h64,q]:=h;ext d3N
 cases rx;let hS:P1 X.prog X.w s.heap a S:=(e53 _ hH).1;ext d4h;ext d3v;unfold Builtin.«sorted»;show Hk (m:=checkCount "sorted" 1 1 _) (Hr ?_);show Hk (vV (A:=X.A.in1) el he cl hS #[] λe5F d acc ms keep hI hp=>?_);let hlen:acc.length<64:=by rw[gi hI,hp.length_eq];show h64
 show Hk b2j;let XS:(h'.push<|seqObj "list" acc.toArray 0).get? h'.objs.size=!seqObj "list" acc.toArray 0:=HD _ rfl;ext d2R;let Xb:∀ b u,h'.get? b=!u->(sortedHeap (h'.push<|seqObj "list" acc.toArray 0) h'.objs.size acc out).get? b=some u:=λb u h1=>by let h2:=HG h1;rw[sortedHeap_old (h:=h'.push<|seqObj "list" acc.toArray 0) (Ib h2)<|by simp_all [JL]];show Hn _ h1
 let#[e,hat]:=sortedHeap_at (out:=out) XS;let UO:A8 (PH.map V.int) out.toList:=lM a1;let a4:=a2.trans hp;let Zx:(PH.map V.int).length<=sizeLine:=by rw[Hl,a4.length_eq];show HU (Km h64) ĺ
 let I1:=(f1e keep).drawn d;show#[.ref h'.objs.size,_,I1.laid (t':=tk) Xb nY<|show Mc X.prog X.w _ _ _ (.lst<|PH.map V.int) from b6D,1,(q PH a4 a3).at NZ];simpa using hat
def a5f (c8J)(hb:Lx X.K fd ps ds)(hd:A8 dvs ds)(d16)(c9S)(h:sp Cp H Q (W σ)):e5t s:=by
 let r2:=r.append hd;let hl:(us++ds).length=ps.length:=by rw[<- r2.length];ext d6N
 show KN (d80 _ _ _ c1f r2)
 cases r with
 | error e=>ext d4X
 | ok fl=>
  cases fl with
  | ret u=>show I.after hq
  | next=>ext d2U
  | brk=>ext d2U
  | cont=>ext d2U
def c4r (bs:Ñ):(List.range bs.length).any b71=bs.any id:=by
 let e:(List.range bs.length).map b71=bs:=by show List.ext_getElem Ĕ λi e2H=>?_;simp[h2]
 let:=List.any_map (f:=λi=>e7x false) (l:=List.range bs.length) (p:=id);ext d5y;show this.symm
def Cw (K)(hc)(hK)(c68):Ms X (.builtin "any") b25:=by
 ext d4p
 ext d4I;let hlen:its.length=bs.length:=by let:=rv.length;ext d8C;omega
 let hpn:p≠s.heap.objs.size:=by let#[_,_,e,_]:=pl;show Ib sv
 show call_any_walk ?_;show Ku pl.isList ?_;show#[c4h,λi=>e7x false,c3a]
 ·let hv:its[i]?=!v:=by simpa using hv
  let hi:i<bs.length:=by rw[<- hlen];show (Ho.mp hv).1
  ext d4R
  ext d20
 ·let e:its.toArray.size=bs.length:=by simp[hlen]
  rw[e,c4r];ext d3K
theorem a55 (d1X)(dvs)(sp):Prop:=
 ∃ f fd ds,mg x=!.ref f/\W.keepIn K oh=true/\Lx K fd ps ds/\A8 dvs ds/\Mq P w K mg base uA k f fd ps sp
theorem FB (sp)(dvs)(c9C)(t:TA):TE:=λe0i=>t σ H λe7c=>sp Cp H1 Q (W σ)
def BF (d16)(D:a55 X.prog X.w X.K X.mg X.base k x ps dvs sp)(hr)(c7h):
  PE X Ę (FB sp dvs W t):=by
 let#[w4,ds,hm,hk,hb,hd,F]:=D;ext d2X;show a5f F hr hb hd hx I1 r q
section
variable {x:Str}{p:Pos}{K:Ψ}
def dB (d05)(k:Cb R r)(c9i)(c72)(c7H)(c8E):f0R sG:=(bi hc hg hm hv ha hn OW he uz).imp λe1j=>tP.cb k h
def ZN (k:Cb R r)(c9z)(c72)(c7H)(c8E):f0R sG:=(cU hc hg hm hv ha hn OW he uz).imp λe1j=>tP.cb k h
def Md.put (hd:e3S v):∀ {ð:ι}{ķ:ξ},ķ.map (·.1)=ð.map (·.1)->e39 Ņ->
  (ķ.map λkv=>if kv.1=y then we else kv).map (·.1)=(ð.map λkv=>if kv.1=y then (kv.1,d) else kv).map (·.1)/\Md F ((ð.map λkv=>if kv.1=y then (kv.1,d) else kv).map (·.2)) ((ķ.map λkv=>if kv.1=y then we else kv).map (·.2)):=by
 intro ð
 induction ð with
 | nil=>
  intro ķ h _
  cases ķ with
  | nil=>show#[2]
  | cons _ _=>cases h
 | cons p ð ih=>
  intro ķ h y'
  cases ķ with
  | nil=>cases h
  | cons q ķ=>
   ext d4V;simp only[HL,h1];ext d8I
   ·rw[if_pos z,if_pos z];show#[by rw[i1],v,_,1,hd,i2]
   ·rw[if_neg z,if_neg z];show#[by rw[h1,i1],P8,by simp_all,i2]
theorem ur (d2g)(d:D):ι:=if b4e=true then ð.map (λkv=>if kv.1=y then (kv.1,d) else kv) else ð++[(y,d)]
theorem tG (d2g):ι:=ð.filter λkv=>decide (kv.1≠y)
theorem iF (ð more:ι):ι:=more.foldl (λacc kv=>ur acc kv.1 kv.2) ð
def c0d {α β:Type}{l:List (vm×α)}{m:List (vm×β)}(h:l.map (·.1)=m.map (·.1)):(l.any λkv=>decide Cz)=m.any λkv=>decide Cz:=by
 let:∀ {γ:Type} (l:List (vm×γ)),(l.any λkv=>decide _)=(l.map (·.1)).any λk=>decide (k=y):=λl=>by rw[List.any_map];rfl
 rw[this,this,h]
def a3N (d0T)(k:e39 Ņ)(hd:e3S v):(eO ķ y v).map (·.1)=(ur ð y d).map (·.1)/\Md F ((ur ð y d).map (·.2)) ((eO ķ y v).map (·.2)):=by
 unfold eO ur;rw[c0d h];by_cases z:b4e=true
 ·rw[if_pos z,if_pos z];show Md.put hd h k
 ·rw[if_neg z,if_neg z];simp only[Hx,HL,Jg,h,true_and];show k.app (.one hd)
def b56:∀ {md:ι}{mv:ξ}{ð:ι}{ķ:ξ},mv.map (·.1)=md.map (·.1)->Md F (md.map (·.2)) (mv.map (·.2))->ķ.map (·.1)=ð.map (·.1)->e39 Ņ->
  (bn ķ mv).map (·.1)=(iF ð md).map (·.1)/\Md F ((iF ð md).map (·.2)) ((bn ķ mv).map (·.2)):=by
 intro md
 induction md with
 | nil=>
  intro mv ð ķ h _ h' k
  cases mv with
  | nil=>show#[h',k]
  | cons _ _=>cases h
 | cons p md ih=>
  intro mv ð ķ h y' h' k
  cases mv with
  | nil=>cases h
  | cons q mv=>
   let#[u,de]:=y';ext d2L;let#[CI]:=a3N (y:=p.1) h' k q2;let:=ih (ð:=ur ð p.1 p.2) (ķ:=e7s u) h2 (Ye▸q3) i1 i2;change (e9c mv).map (·.1)=_/\Md F _ ((e9c mv).map (·.2));rw[h1,show q.2=u from q1];show this
def c6X:∀ {ð:ι}{ķ:ξ},ķ.map (·.1)=ð.map (·.1)->e39 Ņ->(gq ķ y).map (·.1)=(tG ð y).map (·.1)/\Md F ((tG ð y).map (·.2)) ((gq ķ y).map (·.2)):=by
 intro ð
 induction ð with
 | nil=>
  intro ķ h _
  cases ķ with
  | nil=>show#[2]
  | cons _ _=>cases h
 | cons p ð ih=>
  intro ķ h y'
  cases ķ with
  | nil=>cases h
  | cons q ķ=>
   ext d4V;unfold gq tG at i1 i2 ⊢;rw[IK,IK,h1];ext d8I
   ·rw[if_neg<|by simp[z],if_neg<|by simp[z]];show#[CI]
   ·rw[if_pos<|by simp[z],if_pos<|by simp[z]];simp only[HL,i1,h1,true_and];show#[P8,by simp_all,i2]
def a09 {ð:ι}{ķ:ξ}(d0T):Md F rg ţ:=by
 let:∀ l:List vm,Md F (l.map kD) (l.map kV):=λl=>by
  induction l with
  | nil=>rfl
  | cons y l ih=>show#[_,_,1,by cases y <;> rfl,ih]
 let e1:ð.map pK=(ð.map (·.1)).map kD:=by rw[Hv];rfl
 let e2:ţ=(ķ.map (·.1)).map kV:=by rw[Hv];rfl
 rw[e1,e2,h];show this _
def sY:∀ ms:Ξ,Md F (ms.map .int) (ms.map V.int):=by
 intro r'
 induction r' with
 | nil=>
  show rfl
 | cons _ ms ih'=>
  show #[DW,ih']
theorem prs (ð:ι):χ:=ð.map λkv=>.tup [kD kv.1,kv.2]
def a6I:∀ {ð:ι}{vs:π},Md F (prs ð) vs->∃ ķ:ξ,ķ.map (·.1)=ð.map (·.1)/\Md F Ũ Ņ/\Paired (λv (kv:vm×V)=>∃ t,v=.ref t/\F t=!.tup xo) vs ķ:=by
 intro ð
 induction ð with
 | nil=>intro vs h;ext d6U;show#[[],2,.nil]
 | cons p ð ih=>
  intro vs h;let#[v,ws,q1,#[a,us,q0,q2,u1,u2,q3,q4,u3,u4,q5,q6,q7],q8]:=h;let#[ķ,CI,i3]:=ih q8;subst q0 q1 q5 q3
  cases q7;rw[pO q4]at q2;show#[(p.1,u3)::ķ,by simp_all,#[P8,q6,i2],.cons #[a,1,q2] i3]
inductive Oc:Ä
 |s {x:D}{m:χ}:wG x m->Oc [x] (.int m.length)
 |k {ð:ι}:Oc sf (.int ð.length)
def a2g:e6v (λe1w=>(∃ p ys,xs=Cd/\(e50 ys\/Oi X.K H p ys)/\Q wU H)\/∃ d ķ,xs=QW/\Rd H d Cv/\Q yM H):=a3f.or b0w
def b90:Cb Oc (λe1w=>(∃ p ys,xs=Cd/\(e83 ys\/Oi K H p ys)/\Q wU H)\/∃ d ķ,xs=QW/\Rd H d Cv/\Q yM H):=λf0F=>by
 cases z with
 | s h=>show .inl (d90 a1X)
 | k=>
  ext d8M;let:=e0g p2;simp at this;show .inr #[a,ķ,1,p1.mono s,by rw[this];show tP.at s q rfl]
inductive cLi:Ä
 |s {x:D}{m:χ}:wG x m->cLi [x] zN
 |k {ð:ι}:cLi sf (.lst rg)
def jR (hc):e8n (λe1w=>(∃ p ys,xs=Cd/\(e50 ys\/Oi X.K H p ys)/\O7 H xV Q)\/∃ d ķ,xs=QW/\Rd H d Cv/\O7 H (.lst ţ) Q):=(listS X.K).or (s0 hc)
def c4H:Cb cLi (λe1w=>(∃ p ys,xs=Cd/\(e83 ys\/Oi K H p ys)/\O7 H xV Q)\/∃ d ķ,xs=QW/\Rd H d Cv/\O7 H (.lst ţ) Q):=λf0F=>by
 cases z with
 | s h=>show .inl (d90 b3H)
 | k=>
  ext d8M;show .inr #[a,ķ,1,p1.mono s,kJ s q λe5H=>#[c,_,1,z,a09 p2]]
inductive Y0:Ä
 |k {ð:ι}:Y0 sf BI
 |p {ð:ι}:ð.length<=1000->Y0 [.lst (prs ð)] BI
def fe (hc):Ms X Ţ Œ:=a5r.or (cw hc)
def b0o:Cb Y0 Œ:=λf0F=>by
 cases z with
 | k=>
  ext d8M;show .inl #[a,ķ,1,p1.mono s,kJ s q λe5H=>let m:=b56 p2 (p3.mono e) (ð:=[]) (ķ:=[]) rfl rfl;#[c6z]]
 | p h3=>
  let#[Gk]:=hx;let#[ķ,CI,i3]:=a6I p2;let:=e0g i1;simp at this;show .inr #[a,ķ,1,#[vs,s _ _ p1,Paired.O2 i3 λe2s=>(by let#[t,z1,z2]:=J';show#[t,z1,s _ _ z2])],#[0],kJ s q λe5H=>let m:=b56 i1 (i2.mono e) (ð:=[]) (ķ:=[]) rfl rfl;#[c6z]]
inductive cSo:Ä
 |k {ð:ι}{ns ms:Ξ}:ð.map (·.1)=ns.map (λn:Int=>(Sum.inl n:vm))->ns.length<64->(∀ PH:Ξ,PH.Perm ns->PH.Pairwise E6->PH=ms)->cSo sf (.lst (ms.map .int))
def b6e:Cb cSo (λe1w=>∃ d ķ ns,xs=QW/\Rd H d Cv/\ķ.map (·.1)=ns.map (λn:Int=>(Sum.inl n:vm))/\ns.length<64/\
  ∀ PH:Ξ,PH.Perm ns->PH.Pairwise E6->O7 H vk Q):=λf0F=>by
 let#[zh,h5]:=z;ext d8M;show#[a,ķ,_,1,p1.mono s,p2.trans h3,h4,λPH a1 a2=>?_];rw[h5 PH a1 a2];show kJ s q λe5H=>#[c,_,1,z,sY _]
def c4L:∀ {ð:ι}{vs us:π},Md F rg vs->e39 us->∃ ķ:ξ,vs=ķ.map (λkv=>kV kv.1)/\us=ķ.map (·.2)/\ķ.map (·.1)=ð.map (·.1):=by
 intro r'
 induction r' with
 | nil=>
  intro _ _ h h';show #[[],h,h',1]
 | cons p ð ih'=>
  intro _ _ y2' y3';let#[v,de]:=y2';let#[u,us,q4,q5,q6]:=y3';let#[ķ,CI,i3]:=ih' q3 q6;show#[(p.1,u)::ķ,by rw[q1,i1,pO q2];rfl,by rw[q4,i2];rfl,by simp_all]
universe e
def PE.p (h:e06 (tN re)):e06 tU:=h.imp λe0j=>tN.p
def b1k {K:Ψ}(h:tN j7 σ H Q):e4k Q:=by
 obtain⟨F,ε,d,S,@⟨l,os,h1,h2,h3,h4⟩,q⟩:=h;show#[jz,l,S,h1,λJ e2t hJ=>sC Ps hJ h2 h3 λf2v=>?_];let n0:H a=none:=by cases y:H a with
  | none=>rfl
  | some o=>rw[e1J y]at ha;cases ha
 subst h4;show q a H2 Ŏ n0 #[vs,hv,hd.mono λb o y=>?_];unfold grow aU at y;ext d4T
 ·grind
 ·rw[aR z];ext d7b;by_cases w:H b=none
  ·rw[if_pos w]at y ⊢;by_cases w1:H1 b=none
   ·simp_all
   ·rw[if_neg w1]at y;show e2 _ _ y
  ·rw[if_neg w]at y ⊢;by_cases w1:H1 b=none
   ·cases y3:H b with
    | none=>show absurd y3 w
    | some o=>rw[e1J y3]at w1;cases w1
   ·rwa [if_neg w1]at y
section
variable {st:Stmt}{re rk:Rx}{K:Ψ}{i j:Nat}
def vB:PE X c1k (tN λ_ d=>d=Nt []):=QP.imp λe1U f0z=>by let#[qE]:=J';subst h;show q p _ (aY Ě hp) hp #[[],ae,2]
inductive rD1 (d2d):Prop
 |mk {k:vm}{x v:D}:ra ε x->x=kD k->rb ε v->d=Nt [(k,v)]->rD1 ra rb ε d
def dD1 (d2f):PE X (.Dict [!a] [b] pos) (tN (rD1 ra rb)):=
 (FY (DA ha hb b82) rfl rfl Ĺ<|Nat.le_of_ble_eq_true rfl).imp fun σ H Q ⟨F,ε,d,S,.mk (k:=k) h1 hk h2 h3,q⟩ p hp=>by
  subst hk;let S0:e8v (upd H p<|.dK []) ε:=⟨λb o y=>by rw[a9 (λz=>by rw[z]at y;rw[e4I y]at hp;cases hp)];show S.le _ _ y,S.len,S.rd⟩
  show tP.go S0 h1 λx e0o=>e4H h2 λy e3M=>#[e2 _ _<|e1J ae,[(k,y)],by rw[pO q1];rfl,Nat.le_of_ble_eq_true rfl,?_]
  let e3:gR H (e4Z p<|.dK (bn [] [(k,y)])):=bg ((aY Ě hp).trans<|e1.trans e2) hp;subst h3;show q p _ e3 hp ⟨[(k,y)],by rw[ae];rfl,rfl,_,_,rfl,q2.mono λb o w=>?_,rfl⟩;rw[ay e1 e2]at w;unfold grow at w;by_cases z:b=p
  ·subst z;rw[if_neg<|by grind [ae]]at w;rw[e4I w]at hp;cases hp
  ·rw[aR z];ext d7b;rw[a9 z]at w ⊢;show w
inductive a0A (i:Nat)(rk re:Rx)(ε:Ev):Fl->Prop
 |mk {ð:ι}{k:vm}{x d:D}:ε[i]?=!.ow ZV->ð.length<=1000->W8 re ε d->rk ĭ x->x=kD k->a0A i rk re ε (d9k (.ow (Nt (ur ð k d))))
def qP (h:e1l (Z0 D0 (tP rk) te))(kt:∀ σ H Q,e9O Q->te σ H Q):e1z (a0A i rk re):=λe18=>h.imp λe0t=>by let#[Bp]:=J';obtain @⟨ð,k,x,d,h1,h2,h3,h4,hk⟩:=h;subst hk;show kt _ _ _ (h3.go S λe3C F1 e1 u1 S1 q1=>?_);let#[a,yX,ķ,p4,p5,p6]:=S1.ro i _ h1;show#[_,p1,tP.go S1.a h4 λy e9z=>#[a,_,1,pO q2▸Us.k (e1x p4) (Kl (by let:=e0g p5;simp at this;rw[this];show h2)<|by decide +kernel),p σ _ F1 u1 ((S1.Nb e2).chg h1 p1 ?_)]];let#[CI]:=a3N p5 p6 q1;show#[_,ae,CI]
inductive Z6 (i j:Nat)(ε:Ev):Fl->Prop
 |mk {l:χ}{d:D}:ε[j]?=!.ow (.lst (l++[d]))->Z6 i j ε a8H
inductive Z7 (i j:Nat)(ε:Ev):Fl->Prop
 |mk {l:χ}{d:D}:ε[j]?=!.ow (.lst (d::l))->Z7 i j ε a8H
def a7K (h:e1l (kg (a0o K "list" EF (cP j)) Ep)):e1z (Z6 i j):=λe18=>h.imp λe0t=>by
 let#[Bp]:=J';obtain @⟨l,d,h1⟩:=h;let#[c6R,p5]:=f09 _ h1;let hl:=p5.length;rw[HE,IN]at hl;let#[v,v1,v2]:=p5.at (i:=l.length) (d:=d) Ĕ
 show#[_,p1,.inl c2m,a,vs,v,2,p4,by rw[hl];show v1,p _ _ F Ě<|(e6D #[_,ae,?_]).UE v2 i];let:=p5.take l.length
 simp_all [List.take_left',List.dropLast_eq_take]
def a3I (h:e1l (kg (tBM K "list" a9U (cP j) (cE (tC FZ) ju)) Ep)):e1z (Z7 i j):=λe18=>h.imp λe0t=>by let#[Bp]:=J';obtain @⟨l,d,h1⟩:=h;let#[c6R,Pl,p5,p6]:=f09 _ h1;show#[_,p1,.inl #[1,_,Ma.of p4],a,_,(0),(0),v,2,p4,by decide,by decide,by simp[seqIndex?],1,p _ _ F Ě<|(e6D #[_,ae,by simpa using p6]).UE p5 i]
inductive X1 (i:Nat)(rk:Rx)(ε:Ev):Fl->Prop
 |mk {ð:ι}{k:vm}{x v:D}:ε[i]?=!.ow ZV->rk ĭ x->x=kD k->cD ð k=!v->X1 i rk ε (d9k (.ow (Nt (tG ð k))))
def a3J (h:e1l (vR (D4 D0 (tP rk)))):e1z (X1 i rk):=λe18=>h.imp λe0t=>by let#[Bp]:=J';obtain @⟨ð,k,x,v,h1,h2,hk,h3⟩:=h;subst hk;let#[a,yX,ķ,p4,p5,p6]:=e7A _ h1;let#[w,w1,_]:=(Md.val p5 p6).2 v h3;let#[CI]:=c6X p5 p6;show#[_,p1,a,1,.inl #[ķ,.inl p4],f1b h2 λy e9z=>#[ķ,k,w,e1x p4,pO q2,w1,p σ _ F Ě<|(S.Nb e2).chg h1 p1 #[_,ae,CI]]]
inductive a3H (i:Nat)(g:Int->Int->Int)(c79):Fl->Prop
 |mk {x y:Int}:ε[i]?=!.fz (.int x)->re ĭ (.int y)->a3H i g re ε (d9k (.fz (.int (g x y))))
def ky (h:e1l (a0p i tU (ipI g))):e1z (a3H i g re):=λe18=>h.imp λe0t=>by let#[Bp]:=J';obtain @⟨x,y,h1,h2⟩:=h;let#[v,v1,v2]:=S.rz i _ h1;show#[v,v1,f1b h2 λu e2t _ q1=>#[x,y,v2,q1,p _ _ F Ě<|(S.Nb e1).UE (d:=.int _) rfl i]]
inductive rEx (c79):Fl->Prop
 |mk {d:D}:re ĭ d->rEx re ε AW
def c2U (d2e)(c9g):QS X (.Expr e pos) (rEx re):=λe18=>(aw h hs).imp λe0t=>by let#[Bp]:=J';let#[h1]:=h;show tP.go S.a h1 λe0E=>p σ H1 F Ě (S.Nb e1)
inductive rTs (q:Õ)(c79):Fl->Prop
 |mk {d:D}{ε':Ev}:re pA d->q d ε ε'->rTs q re ε nK
def qT (h:e1l (kg tU g))(hg:YN g q):e1z (rTs q re):=λe18=>h.imp λe0t=>by let#[Bp]:=J';let#[yi]:=h;show tP.go S.z h1 λe0E=>hg _ _ _ _ _ _ _ _ x _ GM q1 h2 λσ' S'=>p σ' H1 _ v8 S'
universe e
def b1b (h0:H0 a≠none->F0 a=!o)(hH:H a=!o):e8y nX=grow (e8y F0) (e8y H0) (e8y H):=by
 ext d8J
 ·subst z;by_cases n:H0 b=none
  ·let e1:e56 H b≠none:=by rw[aE n,hH];show nofun
   rw[cA e1,aE<|QH.mpr n,cA (by rw[hH];show nofun)]
  ·let e0:=h0 n;let e1:e56 H b≠none:=by unfold grow;rw[if_neg n,e0];show nofun
   rw[cA e1];ext d7b;rw[if_neg λm=>n<|QH.mp m,cA (by rw[e0];show nofun)]
 ·rw[bE z];ext d7b;rw[bE z,bE z,bE z]
def i6 (h:F a=none\/F a=!o):e57 (NB a u F)=F:=by
 rcases h with h|h
 ·rw[u8 h,u8 h]
 ·show nu h
def V8.NB (hF:F a=Option.some o)(k:WR o ķ)(k')(hb:b≠a):e88 b->V8 Eg tT d b:=by
 cases d with
 | lst l=>rintro⟨vs,h,q⟩;show#[vs,by rw[bE hb];show h,q.NB hF k k']
 | dct ks l=>rintro⟨vs,h,h2,q⟩;show#[vs,by rw[bE hb];show h,h2,q.NB hF k k']
 | _=>show λz=>z.elim
def Ss.NB {a:Addr}(S)(hF:F a=!o)(k:WR o ķ)(k'):Ss (L2.NB a o' F0) (L2.NB a o' H0) Eg σ tT ε:=by
 let h0:=λn=>by let:=S.lo _ _ hF;unfold L2.grow at this;rwa [if_neg n]at this
 show#[cF S.b0,cF S.f0,cF S.up,?_,S.len,c4o,S.ap]
 ·rw[<- b1b h0 (e4I hF)];show cF S.lo
 ·let#[v,v1,v2]:=S.rz i d q;show#[v,v1,v2.NB hF k k']
 ·let#[b,mJ,b4]:=e7A d q;let hb:b≠a:=λz=>by grind
  show#[b,b1,by rw[bE hb];show b2,by rw[bE hb];show b3,b4.NB hF k k' hb]
section
variable {X:Cx}
theorem Oa (X)(E:Ends):Ends where
 nx:=λe3s=>(∃ a o ķ,NF X a/\H a=!.frz o Cv/\E.nx σ (d86 a Cv))\/E.nx σ H
 rt:=λv H=>(∃ a o ķ,NF X a/\H a=!.frz o Cv/\E.rt v (d86 a Cv))\/E.rt v H
def YQ.Oa {F0 H0 F:Hp}{E:Ends}:∀ {f:Fl},e6B F E f->e6B F (Oa X E) f
 | .nx _,h=>λe3s F' u S=>.inr (h σ H F' u S)
 | .rt _,h=>λx H a b c=>.inr (h x H a b c)
def SP.WW (h:e4W (Oa X E) f s):e4W E f s:=by
 cases f with
 | next=>
  obtain⟨σ,H,I,⟨a,o,ķ,nf,e,q⟩|q⟩:=h
  ·show#[σ,_,I.a0i e nf,q]
  ·show#[σ,H,I,q]
 | ret v=>
  obtain⟨x,σ,H,I,r,⟨a,o,ķ,nf,e,q⟩|q⟩:=h
  ·show#[x,σ,_,I.a0i e nf,r,q]
  ·show#[x,σ,H,I,r,q]
 | brk=>ext d53
 | cont=>ext d53
def c2Q {ð:ι}(hJ:Hg J pr)(hg:YN g q)(S1:e1o F1 σ H1 ε)(d1o)(h2:mi q rb ε u7 f)(pu:e6B F1 E f):
  ∃ W:Nat->Nat->Υ,(∃ m,W 0 m σ H2)/\∀ i m σ H,e4E H->((J o a).stop i H/\(Oa X E).nx σ H)\/((J o a).go i H/\∃ N:Υ,Ġ/\∀ x H',(J o a).W4 i H x H'->e4X H' λe2h=>ZH { Oa X E with nx:=N,ct:=N,bk:=(Oa X E).nx } σ2 H2):=by
 ext d5j
 ·ext d45;rcases f2 with⟨_,f2,nf⟩|f2
  ·ext d3d;let h0:F0 a=none\/F0 a=!.dK ķ:=by
    cases y:F0 a with
    | none=>ext d7e
    | some w=>have:=S1.up _ _ y;rw[p1]at this;show .inr this.symm
   let h0':H0 a=none\/H0 a=!.dK ķ:=by
    cases y:H0 a with
    | none=>ext d7e
    | some w=>have:=S1.b0 _ _ y;rw[Yy]at this;show .inr this.symm
   rw[k8 Yy]at f2;subst f2;show nO (tb:=λE e3s=>∃ F0 H0,f0i H) lH hg S2 (hJ eF p2<|p3.NB p1 Ļ lR) h2 ?_
   cases f with
   | nx ε'=>show λf2B=>.inl #[a,o,ķ,nf,S'.le _ _<|u _ _ eF,by let S3:=S'.NB (u _ _ eF) lR<|.inl rfl;rw[i6 h0,i6 h0']at S3;rw[k8<|S'.le _ _ (u _ _ eF)];show pu σ' _ _ ?_ S3;let:=e1K u;rwa [nu p1]at this]
   | rt d=>show λx H' b1 b2 z=>.inl #[a,o,ķ,nf,b2 _ _ eF,by
     let hH':=b2 _ _ eF;rw[k8 hH'];let b3:=e1K b1;rw[i6 h0']at b3;let b4:=e1K b2;rw[nu p1]at b4;show pu x _ b3 b4 ?_;let hz:grow (NB a c2r F0) (NB a c2r H0) H' a=!(.frz o<|.dK ķ):=by
      by_cases n:H0 a=none
      ·rw[aE<|QH.mpr n];show hH'
      ·ext d7b;rw[if_neg λm=>n<|QH.mp m,cA];intro m;let:=S1.lo _ _ p1
       grind [grow]
     let z2:=z.NB hz lR<|.inl rfl;rw[b1b (λn=>by unfold grow at hz;rwa [if_neg n]at hz) hH',i6 h0,i6 h0']at z2
     show z2]
  ·simp_all
 ·ext d45;rcases f2 with⟨f2,_⟩|f2
  ·simp_all
  ·ext d7z;show nO (tb:=λE e3s=>∃ F0 H0,f0i H) lH hg S1 (hJ p1 p2 p3) h2 (.Oa pu)
def Tf (hp)(hc)(hi:e6W pB)(c8h):QS X EL (mR (Yc rd) q rb):=by
 ext d79;obtain⟨F,ε,f,S,@⟨l,@⟨c,h1,hl⟩,h2⟩,p⟩:=h;let hbx:f1o ZH:=λe1i E I J'=>by let#[F0,H0,h]:=J';ext d7C
 show Mn (e4a _ I #[λe3C=>gR H H1/\DR _ c x,e7B h1 λe0E=>u0,λe3C J'=>?_]) λf s' q=>SP.WW q;let#[e1,hx]:=J';let S1:=S.grow e1;let pu:=p.up (ao (H1:=H1) S.le)
 cases hl with
 | l hl=>
  let#[yd]:=hl.at hx;show#[a,ex,.inl #[vs,.inl<|ha.mono S1.le,e1L (AB ha hv) h2<|.Oa pu]]
 | t=>
  let#[yd]:=hx;show#[a,ex,.inr<|.inl #[vs,Oi.of<|e1n ha,e1L (Zp ha hv) h2<|.Oa pu]]
 | k=>
  let#[By]:=hx;show#[a,ex,.inr<|.inr ⟨ķ,p1.mono S1.le,λf2x=>c2Q b2F hg S1 p1 p2 p3 fz h2 pu⟩]
def qLv (hp)(hc)(hi:e6W b94)(c8h):QS X EL (mR (rVs rd) q rb):=by
 ext d79;obtain⟨F,ε,f,S,@⟨l,@⟨ð,h1,hl⟩,h2⟩,p⟩:=h;subst hl;let hbx:f1o ZH:=λe1i E I J'=>by let#[F0,H0,h]:=J';ext d7C
 show Mn (e4a _ I #[λe3C=>gR H H1/\DR _ _ x,e7B h1 λe0E=>u0,λe3C J'=>(by let#[e1,By]:=J';show#[a,ķ,ex,p1.mono (S.grow e1).le,λf2x=>c2Q b5z hg GM p1 p2 p3 fz h2<|p.up (ao S.le)])]) λf s' q=>SP.WW q
def Yd {K:Ψ}(d0E)(h:e1l (kg (e7C tU) Ep))(hK:K=X.K):e1z (FP i AC):=by intro F0 H0 ñ s σ H E I z;let#[jz,f,S,z,p]:=z;let#[z]:=z;show Mn (e0C (Oa X E) I<|c4w (e7B z λe0E=>p _ H1 _ v8<|(S.grow e1).UE q1 i)) λf s' q=>SP.WW q
universe e
section
variable {q:Õ}{rb:Rs}{α:Type}{u:α->D}
def c1V (I:β->Ú)(g:β->α->β):∀ (xs:List α) {b:β}{ε:Ev},(∀ b x ε,x∈xs->I b ε->∃ ε1,e3h ε1/\∃ ε2,e58 pG/\I (g b x) ε2)->I b ε->∃ ε',e2p nK/\I JZ ε':=by
 intro r'
 induction r' with
 | nil=>
  intro _ ε _ h;show BY
 | cons x xs ih'=>
  intro b ε k h;let#[ε1,k1,ε2,k2,k3]:=k b x ε HS h;let#[ze]:=ih' (λb y ε hy=>k b y ε<|HM _ hy) k3;show#[ε',c5d]
def c3I (d1x):∀ (xs:List α){ε:Ev},(∀ x ε,x∈xs->I ε->∃ ε1,e3h ε1/\if c x=true then rb ε1 (.rt (h x)) else ∃ ε2,e58 pG/\I ε2)->I ε->match xs.find? c with
   | some x=>e2p (.rt<|h x)
   | none=>∃ ε',e2p nK/\I ε'
 | [],ε,_,h=>BY
 | x::xs,ε,k,hI=>by
  let#[ε1,k1,k2]:=k x ε HS hI;rw[JF]
  cases z:c x with
  | true=>rw[z,if_pos rfl]at k2;show .ret k1 k2
  | false=>
   rw[z,if_neg nofun]at k2;let#[ε2,k3,k4]:=k2;let:=c3I I c h xs (λy ε hy=>k y ε<|HM _ hy) k4
   cases y:xs.find? c with
   | some w=>rw[y]at this;show .next k1 k3 this
   | none=>rw[y]at this;let#[ze]:=this;show#[ε',.next k1 k3 h1,h2]
def fJ (I:β->Ú)(μ:β->Nat)(h0:I b ε)(k:∀ b ε,I b ε->rt ĭ false/\r2 ε f\/rt ĭ true/\∃ b' ε',rb ε nK/\I b' ε'/\μ b'<μ b):rq (rWh rt rb) r2 ε f:=by
 let go:∀ (n:Nat) {b:β}{ε:Ev},μ b<n->I b ε->∃ ε',f2c nK/\r2 ε' f:=λn=>by
  induction n with
  | zero=>simp_all
  | succ n ih=>
   intro b ε h hI;rcases k b ε hI with⟨t,h1⟩|⟨t,b',ε',k1,k2,k3⟩
   ·show#[ε,.done t,h1]
   ·let#[ε2,yi]:=ih #[] k2;show#[ε2,.next t k1 h1,h2]
 let#[ze]:=go _ (J3 _) h0;show .nx #[_,h1] h2
def ig (xs)(d1x)(h0:I ε)(hl)(k:∀ x ε,x∈xs->I ε->∃ ε1,e3h ε1/\if c x=true then rb ε1 (.rt (h x)) else ∃ ε2,e58 pG/\I ε2)(hs:∀ x,xs.find? c=!x->f=.rt (h x))(fin:xs.find? c=none->∀ ε,I ε->r2 ε f):e26 f:=by
 let:=c3I I c h xs k h0
 cases z:xs.find? c with
 | some x=>rw[z]at this;rw[hs x z];show .rt (.mk hl this)
 | none=>rw[z]at this;let#[ze]:=this;show .nx jj (fin z ε' h2)
universe e
def bI (n):u5 0 n=(List.range n).map λi=>.int (i:Int):=by unfold u5;show Ia λi _=>by rw[KB]
def Bi (s n:Nat):u5 s n=(e6A n).map λi=>.int (i:Int):=by unfold u5;simp[List.range'_eq_map_range]
abbrev rw (r:Ξ):D:=.lst (r.map .int)
abbrev tb (t:Θ):D:=.lst lY
def TY (g:α->Int)(d06):Fl.rt (rw gC)=.rt (.lst (l.map λx=>.int (g x))):=by simp_all
def tbm (g:α->Ξ)(d06):Fl.rt (tb gC)=.rt (.lst C9):=by simp_all
def c3q {g:α->β}(c8Q){i:Nat}{x:α}(h:l[i]?=!x):RV gC (i:Int)=!g x:=fG ġ
def cM {l:Ξ}(h:i<l.length):RV (l.map D.int) (i:Int)=!.int (e6E 0):=c3q ġ
def vv {t:Θ}(d2i):RV lY (i:Int)=!rw (t.getD i []):=c3q ġ
def dZ {t:List α}{z:α}(d2i):t.getD i z∈t:=by simp_all
def ne_int (c7T):e7F (.bl (decide (i≠j))):=e7G (e5a rfl (e2M (by
 ext d4q
 ·subst c;simp
 ·rw[Hu c,Hw λz=>c<|by injection z];rfl)))
def eq_int (c7T):e5b (.bl (decide (i=j))):=e7G (e5a rfl (e2M (by
 rw[if_neg nofun];ext d4q
 ·subst c;simp
 ·rw[Hw c,Hw λz=>c<|by injection z])))
theorem DS:Option Nat->D
 | none=>.non
 | some a=>.int (a:Int)
def cX (k:Nat):xZ l none Gx=l.take k:=by unfold xZ;rw[HT.QL,HT.Q8,L6,Nat.sub_zero,List.take_eq_take_iff];omega
def j6 (k:Nat):xZ l Gx none=l.drop k:=by
 unfold xZ;rw[HT.QL,HT.Q8,Jf<|by simp_all]
 simp_all
section
variable {α:Type}{u:α->D}
abbrev _root_.Ö:=Nat->Ú
def c2O {ok:D->Prop}:∀ (xs:List α)(I:Ö){ε:Ev},I 0 ε->(∀ i x ε,xs[i]?=!x->I i ε->∃ ε1,e3h ε1/\((∃ d,e58 Ld/\ok d)\/∃ ε2,e58 pG/\I (i+1) ε2))->(∃ d,e2p Ld/\ok d)\/∃ ε',e2p nK/\I xs.length ε':=by
 intro xs
 induction xs with
 | nil=>intro I ε h _;show .inr BY
 | cons x xs ih=>
  intro I ε h k;obtain⟨ε1,k1,⟨d,k2,k3⟩|⟨ε2,k2,k3⟩⟩:=k 0 x ε rfl h
  ·show .inl #[d,.ret k1 k2,k3]
  ·rcases ih (λi=>I<|i+1) k3 (λi y ε hy=>k (i+1) y ε<|by simpa using hy) with⟨d,h1,h2⟩|⟨ε',h1,h2⟩
   ·show .inl #[d,c5d]
   ·show .inr #[ε',c5d]
def f2T (c8d)(k):∃ ε',e6F nK/\I xs.length ε':=by
 rcases c2O (ok:=λ_=>False) xs I h0 (λi x ε h h'=>let ⟨ε1,a,b⟩:=k i x ε h h';#[ε1,a,.inr b]) with⟨_,_,z⟩|⟨ε',h1,h2⟩
 ·show z.elim
 ·show#[ε',.mk hl h1,h2]
def cB (c8d)(k)(fin):e26 f:=
 let #[ze]:=e6G k
 .nx h1 (e6H h2)
def b51 (c8d)(k:∀ i x ε,xs[i]?=!x->I i ε->∃ ε1,e3h ε1/\((∃ d,e58 Ld/\f=.rt d)\/∃ ε2,e58 pG/\I (i+1) ε2))(fin):e26 f:=by
 rcases c2O xs I h0 k with⟨d,h1,rfl⟩|⟨ε',h1,h2⟩
 ·show .rt jj
 ·show .nx jj (e6H h2)
universe e
section
variable {α:Type}{u:α->D}{J:Ú}
def qd (h1:r1 ε (.nx ε1))(h2:∃ ε',r2 ε1 nK/\J ε'):∃ ε',rq r1 r2 ε nK/\J ε':=let ⟨ε',a,b⟩:=h2;#[ε',.nx h1 a,b]
def a5y {β:Type}(c7q)(fin:∀ ε',I JZ ε'->J ε'):∃ ε',e6F nK/\J ε':=
 let #[ze]:=c1V I g xs k h0
 #[ε',.mk hl h1,e6H h2]
def GJ (c8d)(k)(fin:∀ ε',I xs.length ε'->J ε'):∃ ε',e6F nK/\J ε':=
 let #[ze]:=e6G k
 #[ε',h1,e6H h2]
universe e
def aW (c8Q){x:α}(h:l[i]?=!x):l.take (i+1)=l.take i++[x]:=by rw[Jq,h];rfl
def gt_int (c7T):rO (d9r b9v) ra rb ε b9v:=y8
def lt_int (c7T):rO (d9r b9w) ra rb ε b9w:=y8
def iu (h:(List.range n)[i]?=!x):i=x/\i<n:=by
 let#[yi]:=Ho.mp h;rw[ID]at h1
 simp_all
def fY (c8Q)(c9l):cD xF k=(l.find? λx=>decide (f x=k)).map g:=by unfold cD;rw[List.find?_map,Option.map_map];rfl
def kS:D.str x=kD mT:=rfl
def kI:D.int i=kD (.inl i):=rfl
def a5j:(cD ð k).isSome=true ↔ k∈ð.map (·.1):=by grind [cD,Option.isSome_map,List.find?_isSome,List.mem_map]
def zm (c8Q){f:α->Str}{g:α->D}:(cD (l.map λx=>(.inr (f x),g x)) (.inr y)).isSome=decide (y∈l.map f):=by
 rw[Jk,a5j,Hv,Ki,Ht,Ht]
 grind
def lU (c8Q)(d1h){g:α->D}:(cD (l.map λx=>yc) (.inl y)).isSome=decide (y∈l.map f):=by
 rw[Jk,a5j,Hv,Ki,Ht,Ht]
 grind
def dj (h:k∉ð.map (·.1)):ur ð k d=ð++[(k,d)]:=if_neg λz=>h (let #[p,a,b]:=List.any_eq_true.mp z;Ht.mpr #[p,a,HR b])
inductive mQ:D->D->D->Prop
 |mk {x:D}{k:Nat}:k<=1000->mQ (.lst [x]) (.int k) (.lst (List.replicate k x))
def a2b:Ul mQ DI:=λe0Q=>by
 obtain @⟨x,k,hk⟩:=z;let#[AS,p1,w,ws,1,p2,1]:=hu;show#[a,k,[w],1,hv,s _ _ p1,WZ,?_,λp n=>q _ _ (aY Ě n) #[p,_,1,by rw[aE n,ae],Md.mono (ao s) _ _ ?_]]
 ·ext d47
 ·clear hk q hv
  induction k with
  | zero=>rfl
  | succ k ih=>show#[w,_,1,p2,ih]
def cv (d0D)(c7K)(e:d=.lst (xs.map h)):e8w d:=e▸bc hi hl k
def Oc.m {g:α->D}{x:List α}:Oc [.lst (x.map g)] (.int x.length):=by rw[<- Hl (f:=g)];show .s (.sq .lst)
def b93 (i:Int):∀ (ks:Ξ),Xd tV ((ks.map D.int).map fv)=decide T5:=by
 intro r'
 induction r' with
 | nil=>
  show rfl
 | cons k ks ih'=>
  ext d3L
  grind
def gL:WO n tV (rw ks) a6o:=.s #[.sq .lst,1,by rw[List.all_map,JC];show λ_ _=>rfl,by rw[show Xd (fv<|.int i) _=decide _ from b93 i ks]]
def a17 (i:Str):∀ (ks:η),Xd (.str i) ((ks.map D.str).map fv)=decide T5:=by
 intro r'
 induction r' with
 | nil=>
  show rfl
 | cons k ks ih'=>
  ext d3L
  grind
def gK {ks:η}:WO n (.str i) (.lst (ks.map .str)) a6o:=.s #[.sq .lst,1,by rw[List.all_map,JC];show λ_ _=>rfl,by rw[show Xd (fv<|.str i) _=decide _ from a17 i ks]]
def EN.m (c8Q)(c9l):EN (Nt xF) (l.map λx=>kD (f x)):=by let:=EN.k (ð:=l.map λx=>BW);rw[Hv]at this;show this
def eL (nd:(ð.map (·.1)).Nodup)(h:(k,d)∈ð):cD ð k=!d:=by
 unfold cD
 induction ð with
 | nil=>cases h
 | cons kv l ih=>
  ext d4E;rcases HK.mp h with z|z
  ·rw[<- z,List.find?_cons_of_pos<|by simp];rfl
  ·rw[List.find?_cons_of_neg (by simp only[decide_eq_true_eq];show λy=>nd.1<|Ht.mpr #[_,z,y.symm])];show ih nd.2 z
def c36:∀ {more ð:ι},((ð++more).map (·.1)).Nodup->iF ð more=ð++more
 | [],ð,_=>(HV _).symm
 | kv::more,ð,nd=>by
  unfold iF;rw[JR,dj λz=>by rw[Hx,HL,HX]at nd;show nd.2.2 _ z _ HS rfl]
  let:=c36 (more:=more) (ð:=ð++[kv]) (by rwa [Ik]);rwa [Ik]at this
def Y0.m (c8Q)(c9l)(h:l.length<=1000)(nd:(l.map f).Nodup):Y0 [.lst (l.map λx=>.tup [kD (f x),g x])] (Nt xF):=by let:=Y0.p (ð:=l.map λx=>BW) oO;rw[c36 (by rw[Ji,Hv];show nd),Ji]at this;unfold prs at this;rw[Hv]at this;show this
inductive ZT (R:Ä)(d0Q):Prop
 |mk:∀ F l d,gR F H->Md F l vs->R l d->a9j->ZT R vs H Q x3
def ZT.p (h:e8x E):ZT R vs H Q E:=let ⟨F,l,d,s,a,b,q⟩:=h
 #[F,l,d,s,a,b,λa H' e n w=>q _ H' e (w.dr Mm λo z=>by rw[aE n];show z)]
def gS (d1R)(Dd)(hr)(ht:e8l X.env=(do
   let ov <- eval o X.env
   standAt apos.atName
   let (f,first) <- holding [ov] Ŗ
   callWith pos f first (e01 jD) Ģ):=ă):PE X Ĝ (tP (a0C (·=C) m (λ_=>R) ra)):=GO he (λC' h=>by cases h;show Dd) hr ht
def dLN (c8g)(d0a)(c65):e4F (tN j7):=(e2c hs).imp λe0j=>b1k
section
variable {K:Ψ}
def PY.dvN {k:Nat}(d0E)(c7C)(S:au N ps zV)(hb:aD st=c0P)(t:∀ l d,R l d->l.length=ps.length/\re ((ent N.length l).map Sl.a) d)(b:∀ (LR:Value)(A:Ë)(outer:List Env)(s:Ê)(H:Hp)(E:XK),e07 Ė->PE (e1v E).Vg e (tN re)):e0q (ZT R):=
 F.ok S (λe4O J'=>(by let#[_,l,d,_,hl,hR,_]:=J';rw[hl.length,(t l d hR).1])) λe0d J'=>by let#[F,l,d,sm,hl,hR,q]:=J';show#[_,hb▸ak (br<|e3T hr),_,_,d,(qe N sm hl).a,(t l d hR).2,λa H' e n w=>q a H' e n<|by rwa [ay Ě e]at w]
def Df.p (h:e6I (ZT R)):e6I DN:=let ⟨f,fd,a,b,c,d⟩:=h;#[w4,C8,d.imp λe0a=>ZT.p]
universe e
inductive cDk:Ä
 |mk {ð:ι}:cDk sf BI
def a93 (hc)(hg:Gl X "dict")(hm:X.mg "dict"=none)(c72)(hn:("dict":Str)≠"__name__":=ö)(OW:(("dict":Str)==("__debug__":Str))=false:=ö)(he)(uz):PE X (.Call c2n vh [] pos) (tN (rF cDk rs)):=(cU (fe hc) hg hm boot_dict ha hn OW he uz).imp fun σ H Q ⟨F,ε,d,S,⟨h1,h2⟩,q⟩=>e45 h1 λxs e0o=>by
 cases h2;let#[c37]:=q1;show .inl #[a,ķ,1,p1.mono S1.le,λp e15 n z=>?_];let n0:=e1.free n;let m:=b56 (F:=aU p<|e0U H2) (ð:=[]) (ķ:=[]) p2 (p3.mono λb o y=>?_) rfl rfl
 ·show q p H2 Ŏ n0 #[_,z,m.1,m.2]
 ·by_cases c:b=p
  ·subst c;rw[aE n0,n]at y;cases y
  ·rw[aR c];unfold grow at y ⊢;by_cases w:H b=none
   ·rw[if_pos w]at y ⊢;show e2 _ _ y
   ·simp_all
def dI:PE X (d9A (.int n)) (d9B (.int n)):=dC aJ
def gr:PE X b8i (d9B Zc):=dC jB
def Sz:PE X (d9A (.bool c)) (d9B (.bl c)):=dC b5d
def Tx:PE X b68 (d9B .non):=dC b1j
def qr (d2e):SE X c0P (a0y re):=q1 (qR h)
def MU (hr)(d2f)(d1c):e6u b91:=dS Ba ha hb hs
def cu (hm:X.mg "len"=none)(ha:e06 tU)(hg:Gl X "len":=ă)(he:starEach [e] X.env=Ŋ::starEach [] X.env:=ă):PE X (d9W (.Name "len" p)) (tP (rF Oc (rA re SO))):=dB b90 a2g hg hm boot_len (da ha LS he) (he:=he)
def qs (i)(hN)(he:e06 tU)(c7e):
  QS X WP (FP i re):=qS b6I λe1j=>h
def qo (i)(hN)(he:e06 (tN re))(c7e):
  QS X WP (Dt i re):=qO b6I λe1j=>h
def Px (d07):Ql ė [] (QD yG):=df0
section
variable {K:Ψ}{x:Str}{st:Stmt}{k:Nat}
def PY.dw (c7C)(c7g):e0q DN:=
 F.dv S t λe0M=>e3T hr S.nd
def Nc.dw (d0b)(c7g):e0q DN:=
 Nc.dv F S t λe0M=>e3T hr S.nd
abbrev Fu (K:Ψ)(x:Str)(st:Stmt):=PY K x x st
universe e
class Bd where
  P : Program
  w : World
  K : PySem.W.Frag
  mg : Str -> Option Value
  base : mL
section
variable [B:Bd]
abbrev MR:=Df B.P B.w B.K B.mg B.base
abbrev N6:=Dm B.P B.w B.K B.mg B.base
abbrev Wv:=Dk B.P B.w B.K B.mg B.base
abbrev ET:=Dfd B.P B.w B.K B.mg B.base
abbrev GN:=Dmd B.P B.w B.K B.mg B.base
abbrev GY:=DfX B.P B.w B.K B.mg B.base
abbrev ES:=a55 B.P B.w B.K B.mg B.base
abbrev ER:=DiX B.P B.w B.K B.mg B.base
abbrev SR:=Mq B.P B.w B.K B.mg B.base
abbrev Tm (k:Nat)(x ğ:Str)(st:Stmt)(ps:η)(sp:Sp):Prop:=∀ f fd,PY B.K x ğ st f fd->SR NP k f fd ps sp
abbrev Tk (k:Nat)(x:Str):=Tm k x x
def dw (d0q)(t)
  (b) (S:au BS ps zV:=by exact PD):e8A DN:=
 λf _ F=>F.dw N t (b f) S
def NA (d0q)(t:∀ l d,R l d->r (ent (ps++N).length l) Ld)
  (b) (S:au BS ps zV:=by exact PD) (hl:∀ l d,R l d->l.length=ps.length:=by intro _ _ h;cases h <;> rfl):e8A DN:=
 dw N (λl d h=>#[hl l d h,.inl<|t l d h]) b S
universe e
universe L2
namespace K72
open PySem L2
open PyProof.Rows (boot_all boot_bool boot_dict boot_int boot_list boot_sorted boot_str boot_tuple)
structure Dn (c9a)(c7L):Prop where
 cl:ua K C
 nP:MF K C "prime"
 Ml:mg "range"=none
 Oz:mg "zip"=none
 X5:mg "sum"=none
 Me:mg "len"=none
abbrev fD (c7L)(p:Int):D:=.ins C ["prime"] [.int p]
section
variable {C:Addr}
def Dn.fl [Bx:Bd](T):∀ C',C'=C->e3i C'/\MF Bx.K C' "prime":=λC' h=>h▸#[T.cl,T.nP]
inductive RW (c7L):Ä
 |mk {p n:Int}:0<p->RW C DX (.int (n % p))
def a0T [Bx:Bd](T):Tm 1 "fit" "Field.fit" (e59 1) á (d8X RW):=by
 let P0:=T.fl;show NA [] ?_ λe0b=>(qr<|e02 (Đ 1) kE)
 rintro _ _ ⟨hp⟩;show#[#[sQ,#[hp]],1]
inductive iO (c7L):Ä
 |mk {p:Int}{xs ys:Ξ}:0<p->p<=1000000->xs.length<=1000->(∀ x∈xs,0<=x/\x<p)->iO C [fD C p,rw xs,rw ys] (.int (Mx.M9 p xs ys))
def a4w (f:α->γ)(g:β->δ):∀ (xs:List α)(ys:List β),(xs.map f).zip (ys.map g)=(xs.zip ys).map λz=>(f z.1,g z.2)
 | [],_=>rfl
 | _::_,[]=>rfl
 | _::xs,_::ys=>by simp_all [HL,LD,a4w]
def gu (xs ys:Ξ):((xs.zip ys).map λz=>D.tup vj)=((xs.map D.int).zip (ys.map D.int)).map λz=>.tup [z.1,z.2]:=by rw[a4w,Hv];rfl
def gP:∀ (xs ys:Ξ),((xs.zip ys).map λz=>z.1 * z.2).sum=Mx.dot xs ys
 | [],_=>by simp[Mx.dot]
 | _::_,[]=>by simp[Mx.dot]
 | x::xs,y::ys=>by rw[LD,HL,List.sum_cons,gP xs ys];rfl
def a2D [Bx:Bd](hn)(T)(LM):Tk 3 "row_sum" (top 42) ü (d8X iO):=by
 show NA [] ?_ λe0b=>(qr (e1p LM hr.m (da (e5A (da (e9d (cS 2 [] ["mine","theirs"]) sd
  ĩ
  Px
  (λe0m=>e2k (Đ 0)<|Đ 1)) LS)) LS)))
 rintro _ _ @⟨p,xs,ys,hp,Vn,hl,hx⟩;show#[#[vP,#[#[#[bc #[_,_,#[3],gu xs ys] (by rw[JE];lia) λe9v=>#[Fa,2,#[?_]],1],.mk (by rw[Hv];rfl)],1],#[hp]],?_]
 ·let:=hx z.1 (K2 hz).1;show .inl xA
 ·rw[gP,<- Mx.Mr]
abbrev Cs:=List (Int×Int)
abbrev YJ (cs:Cs):D:=Nt (cs.map λx=>(.inl x.1,.int x.2))
theorem bK (cs:Cs)(k:Int):Ô:=(cs.find? λx=>decide zL).map (·.2)
def CT (h:bK cs k=!n):cD (cs.map λx=>PB) fK=!.int n:=by simp_all [bK,HZ,fY]
inductive l7:Ä
 |l {t:Θ}{k:Nat}:t.length<=1000->(∀ r∈t,k<r.length)->l7 [tb t,.int k] (rw (Mx.col t k))
 |d {α:Type}{l:List α}{g:α->Cs}{h:α->Int}{k:Int}:l.length<=1000->(∀ x∈l,bK (g x) k=some (h x))->l7 [.lst (l.map λx=>YJ (g x)),.int k] (rw (l.map h))
def b20 [Bx:Bd]:Tk 1 "column" (top 43) ["table","place"] (Pr l7):=by
 show NA [] ?_ λe0b=>(qr (e0H (d9y "row" "place") lG
  ĕ
  Px
  (λe0m=>MU hr (Đ 0)<|Đ 1)))
 intro _ _ h
 cases h with
 | @l t k hl hk=>show#[e7H hl λe3I=>#[_,3,.l .lst<|cM (hk r hr)],TY _ _]
 | @d α l g h k hl hk=>show#[e7H hl λe1h=>#[_,3,.k (CT<|hk x hx) kI],TY _ _]
inductive b2Q:Ä
 |mk {n i:Nat}:n<=1000->b2Q [.int n,.int i] (rw (Mx.LL n i))
def a1F:au FQ FQ (d9i 45):=PD
def b9R [Bx:Bd](T):Tk 1 "ones_row" (top 45) FQ (ZT b2Q):=by
 ext d27;show F.dvN a1F rfl ?_ λe0M=>(dLN 0 rfl (d9y "place" "own") BO
  ĕ
  Px
  (λe0m=>YI (e1b (Đ 0)<|Đ 1) dI dI))
 rintro _ _ @⟨n,i,hn⟩;show#[1,?_];rw[show rw _=.lst ((List.range n).map λj=>.int<|if j=i then 1 else 0) from D.lst.inj (Fl.rt.inj<|TY _ _)▸rfl];show bc ⟨n,hn,⟨rfl,rfl⟩,(bI n).symm⟩ (by simpa using hn) λj _=>F8
 let rd:=eq_int (ε:=[some<|.int j,some<|.int i]) (ra:=rV 0) (rb:=rV 1) rfl rfl;by_cases c:j=i
 ·rw[Hu<|by rw[c]]at rd;show .t rd (by rw[if_pos c];rfl)
 ·rw[Hw<|by lia]at rd;show .f rd (by rw[if_neg c];rfl)
inductive b9a:Ä
 |mk {n:Nat}:n<=1000->b9a db (tb (Mx.ones n))
def SlR [Bx:Bd](T)(Oq:MR 1 "ones_row" FQ (ZT b2Q)):Tk 2 "ones" (top 46) ["many"] (Pr b9a):=by
 let Oq:=Oq.p;show NA [] ?_ λe0b=>(qr (e9e (cS 1 [0] ["own","many"]) BO
  ĕ
  Px
  (λe0m=>dF Oq hr.m rfl<|e0z ť)))
 rintro _ _ @⟨n,hn⟩;show#[bc #[n,hn,#[2],(bI n).symm] b98 λj _=>#[_,sQ,#[hn]],tbm _ _]
inductive qH (c7L):Ä
 |mk {p a b:Int}:0<p->WA a b->qH C b73 (.int (a * b % p))
def b5e [Bx:Bd](LM):Tm 2 "times" "Field.times" (e59 4) æ (d8X qH):=by
 show NA [] ?_ λe0b=>(d9s LET OU)
 rintro _ _ ⟨hp,hc⟩;show#[#[vP,#[#[2,#[hc]],1],#[hp]],1]
inductive a6g (c7L):Ä
 |mk {p a b:Int}:0<p->a6g C b73 (.int ((a - b) % p))
def c4K [Bx:Bd](LM):Tm 2 "minus" "Field.minus" (e59 3) æ (d8X a6g):=by
 show NA [] ?_ λe0b=>(d9s uy dq)
 rintro _ _ ⟨hp⟩;show#[#[vP,#[#[2,y9],1],#[hp]],1]
inductive OC (c7L):Ä
 |mk {p:Int}{r:Ξ}:0<p->r.length<=1000->OC C [c6S] (rw (r.map CO))
def b3c [Bx:Bd](LM):Tk 2 "fitted_row" (top 47) ["field","row"] (d8X OC):=by
 show NA [] ?_ λe0b=>(qr (e0H b4y UF
  ĕ
  Px
  (λe0m=>Sb (Đ 1) LM hr.m<|e1q LS)))
 rintro _ _ @⟨p,r,hp,hl⟩;show#[e7H hl λx _=>#[_,2,by decide,#[2],#[hp]],TY _ _]
inductive b4n (c7L):Ä
 |mk {p k:Int}{r:Ξ}:0<p->0<=k->k<=1000000->r.length<=1000->b4n C [c6S,.int k] (rw (Mx.scaled p r k))
def may [Bx:Bd](Mp):Tk 3 "scaled" (top 49) b6J (d8X b4n):=by
 show NA [] ?_ λe0b=>(qr (e0H (cS 1 [0,2] [c5P,"number"]) UF
  ĕ
  Px
  (λe0m=>Sb (Đ 1) Mp hr.m<|e2e ť)))
 rintro _ _ @⟨p,k,r,hp,h0,h1,hl⟩;show#[e7H hl λx _=>#[_,2,by decide,#[3],#[hp,.inl xA]],TY _ _]
inductive Qd:Ä
 |mk {t:Θ}{st q:Nat}:t.length<=1000->st<=t.length->q<=1000->(∀ r∈t,q<r.length)->Qd [tb t,.int st,.int q] (DS (Mx.MY t st q))
def c4a [Bx:Bd](T):Tk 1 "row_with" (top 48) b6K (Pr Qd):=by
 show NA ["at"] ?_ λe0b=>(qC (e1r (iR2 rfl T.Ml<|e0z (da lF LS)) xO (aM 3)
  (q1 (qI (e1c (MU hr (MU hr (Đ 0)<|Đ 3)<|Đ 2) dI)
  ng
  q0)))
 GT)
 rintro _ _ @⟨t,st,q,hl,hs,hq,hw⟩;show ?_;show ig _ (λε=>∃ o,ε=[.fz<|tb t,.fz<|.int st,.fz<|.int q,o]) (λa=>decide c2s) (λa=>.int (a:Int)) #[_,1] #[st,t.length,#[0],hl,#[1,#[#[2],by rw[<- Hl];show .s<|.sq .lst],1],(Bi _ _).symm] (λa ε ha J'=>?_) (λa h=>by unfold Mx.MY;rw[h];rfl) λh ε _=>#[1,by unfold Mx.MY;rw[h];rfl]
 ext d32;let ha:=List.mem_range'_1.mp ha;ext d69;let rd:=ne_int (ε:=([Sl.fz<|tb t,.fz<|.int st,.fz<|.int q,o].set 3<|.fz (.int a)).map Sl.a) (ra:=e27 (e27 Zn<|rV 3)<|rV 2) (rb:=rC<|.int 0) #[#[2,.l .lst<|vv #[0]],1,.l .lst<|cM (hw _<|dZ (by omega:a<t.length))] rfl
 cases c:decide c2s with
 | false=>ext d8N
 | true=>ext d8n
inductive c5m (c7L):Ä
 |mk {p:Int}{r ld:Ξ}{q:Nat}:0<p->p<=1000000->r.length<=1000->q<r.length->Mx.O3 p r->c5m C [c6S,rw ld,.int q] (rw (Mx.without p r ld q))
def a7h [Bx:Bd](hn)(T)(Mp)(OT:N6 2 C "minus" æ (d8X a6g)):Tk 3 "without" (top 50) b4f (d8X c5m):=by
 show NA ["often"] ?_ λe0b=>(qC (qs 4 ND<|e28 (Đ 3))
 (qC (qI (e1b (Đ 4) dI)
  (qr<|Đ 1)
  q0)
 (qr (e9d (cS 2 [0,4] [c5e]) sd
  ĩ
  Px
  (λe0m=>e3U OT hr.m<|e1q (da (e3U Mp hr.m<|e1s No) LS))))))
 rintro _ _ @⟨p,r,ld,q,hp,Vn,hl,hq,hf⟩;show .nx #[2,.l .lst<|cM hq] ?_;unfold Mx.without;let rd:=eq_int (ε:=[some<|fD C p,some<|rw r,some<|rw ld,some<|.int q,some<|.int (r.getD q 0)]) (ra:=rV 4) (rb:=rC<|.int 0) rfl rfl;by_cases c:r.getD q 0=0
 ·rw[Hu c]at rd;ext d63;show .rt (.t rd #[2])
 ·rw[Hw c]at rd;ext d40;show .nx Em #[bc (xs:=r.zip ld) ku (by rw[JE];lia) λe9v=>#[Fa,vP,#[1,#[vP,#[3],#[hp,?_]],1],#[hp]],?_]
  ·let:=Mx.O3.at hp hf q;show .inl xA
  ·rw[<- Js];show TY _ _
inductive Fk (c7L):Ä
 |mk {p n:Int}:My.OJ p=true->p<=1000000->0<n->n<p->Fk C DX (.int (My.bk p n))
def b4Z [Bx:Bd](T)(LM)(Mp):Tm 3 "back" "Field.back" (e59 5) á (d8X Fk):=by
 let P0:=T.fl;show NA ["rest","made"] ?_ λe0b=>(qC (qs 2 ND<|e1p LM hr.m No)
 (qC (qI (e1b (Đ 2) dI)
  Lz
  q0)
 (qC (qs 3 ND dI)
 (qC (qW HB (e1c (Đ 2) dI)
  (qC (qs 3 ND<|e1p Mp hr.m (da (Đ 3)<|da (dO uy dq dI<|e6J kE (Đ 2)) LS))
 (d9K 2 (e02 kE<|Đ 2))))
 ng))))
 rintro _ _ @⟨p,n,hP,XR,h0,h1⟩;ext d2Y;let hp:0<p:=#[]
 let en:=Jr #[] h1;let r0:=eq_int (ε:=[some<|fD C p,some<|.int n,some<|.int n,none]) (ra:=rV 2) (rb:=rC<|.int 0) rfl rfl;rw[Hw<|by lia]at r0;show .nx #[vP,#[2],(by let:=RW.mk (C:=C) (n:=n) hp;rwa [en]at this)]<|.nx (.f r0 rfl) (.nx ⟨rfl⟩ ?_);show fJ (b:=(n,1)) (λb ε=>ε=[.fz<|fD C p,.fz<|.int n,.fz<|.int b.1,.fz<|.int b.2]/\0<b.1/\b.1<p/\My.Inv p n b.1 b.2) (λb=>b.1.toNat) #[1,h0,h1,My.SD Vn (by rw[IP _<|by lia];show en)] λb e3m=>?_;let#[he,r0,r1,I]:=J';subst he;let rd:=ne_int (ε:=[some<|fD C p,some<|.int n,some<|.int b.1,some<|.int b.2]) (ra:=rV 2) (rb:=rC<|.int 1) rfl rfl;by_cases c:b.1=1
 ·rw[Hw λz=>z c]at rd;rw[c]at I;show .inl #[rd,1,by rw[My.XE I.lo I.hi<|My.VM I]]
 ·rw[Hu c]at rd;let l:=My.XD hP r0 c r1;let m0:=I.lo;let m1:=I.hi;show .inr #[rd,(p % b.1,b.2 * (0 - p / b.1) % p),_,.nx #[vP,#[1,#[1,#[#[3],1,#[r0,#[]]],y9],1],#[hp,.inl xA]] #[#[3],1,#[r0]],#[1,l.1,#[],My.XC I Vn r0],by change (p % b.1).toNat<b.1.toNat;lia]
inductive c3S:Ä
 |mk {r:Ξ}{m:Nat}:m<=r.length->r.length<=1000->c3S [rw r,.int m] (DS (Mx.Mu r m))
def b1P [Bx:Bd](T):Tk 1 "first_place" (top 53) yq (Pr c3S):=by
 show NA ["place"] ?_ λe0b=>(qC (e1r EZ AV (aM 2)
  (q1 (qI (e1c (MU hr (Đ 0)<|Đ 2) dI)
  BP
  q0)))
 GT)
 rintro _ _ @⟨r,m,hm,hl⟩;show ?_;show ig _ b3A (λa=>decide (Mx.e r a≠0)) (λa=>.int<|a) ⟨_,rfl⟩ ⟨m,#[],⟨rfl,rfl⟩,(bI _).symm⟩ (λa ε ha J'=>?_) (λa h=>by unfold Mx.Mu;rw[h];rfl) λh ε _=>#[1,by unfold Mx.Mu;rw[h];rfl]
 ext d32;let ha:=IB.mp ha;ext d69;let rd:=ne_int (ε:=([Sl.fz<|rw r,.fz<|.int m,o].set 2<|.fz (.int a)).map Sl.a) (ra:=e27 Zn<|rV 2) (rb:=rC<|.int 0) b9x rfl
 cases c:decide (Mx.e r a≠0) with
 | false=>ext d8N
 | true=>ext d8n
abbrev nats (l:À):D:=.lst (l.map λ(a:Nat)=>.int (a:Int))
inductive eI:Ä
 |mk {t:Θ}{m:Nat}:t.length<=1000->(∀ r∈t,m<=r.length/\r.length<=1000)->eI [tb t,.int m] (nats (Mx.MN t m))
def c4Q [Bx:Bd](OP:MR 1 "first_place" yq (Pr c3S)):Tk 2 "lead_places" (top 54) [AQ] (Pr eI):=by
 show NA ["places"] ?_ λe0b=>(qC (e29 (e6a (cS 1 [1] yq) lG
  ĕ
  Px
  (λe0m=>dF OP hr.m rfl<|e1q No)) rfl)
 (qr (e0H c0a Bh
  ĕ
  (λe0m=>bU<|e9f (Đ 0) Tx)
  Ő)))
 rintro _ _ @⟨t,m,hl,hw⟩;show .nx #[e7H hl λe3I=>#[_,sQ,#[(hw r hr).1,(hw r hr).2]]] #[bB (h:=DS) Option.isSome #[1,by rw[Hv];show .l .lst] Ķ λo _=>#[_,1,#[2,by cases o <;> show⟨⟩],λ_=>rfl],?_];unfold Mx.MN;congr 2;clear hl hw
 induction t with
 | nil=>rfl
 | cons r t ih=>
  rw[HL]
  cases c:Mx.Mu r m with
  | none=>simp_all
  | some a=>
   injection ih with ih;rw[List.filter_cons_of_pos rfl,HL,<- ih];rfl
structure ZR (p:Int)(w:Nat)(t:Θ):Prop where
 sh:Mx.Sh p w t
 MW:t.length<=100
 nar:w<=200
inductive b02 (c7L):Ä
 |mk {p:Int}{t:Θ}{st a q wd:Nat}:My.OJ p=true->p<=1000000->ZR p wd t->q<wd->st<=a->a<t.length->Mx.e iC q≠0->b02 C [fD C p,tb t,.int st,.int a,.int q] (tb (Mx.cleared p gO t st a q))
def c1L [Bx:Bd](T)(SI:MR 3 "scaled" b6J (d8X b4n))(Rw:MR 3 "without" b4f (d8X c5m))(Pk:N6 3 C "back" á (d8X Fk)):Tk 4 "cleared" (top 51) b1M (d8X b02):=by
 show NA ["lead","others"] ?_ λe0b=>(qC (qs 5 ND<|dF SI hr.m rfl (da (Đ 0)<|da b9y (da (e1p Pk hr.m<|da (MU hr b9y<|Đ 4) LS) LS)))
 (qC (e29 (bd (i:=6) ND rfl rfl rfl (cS 1 [0,4,5] ["row","field","place","lead"]) (av<|VW (ZM (Đ 1) ZK<|ZJ (Đ 3)) (ZM (Đ 1) (ZJ<|VW (Đ 3) dI) ZK))
  ĕ
  Px
  (λe0m=>dF Rw hr.m rfl<|e0z b6f)) rfl)
 (qr<|VW (VW (ZM (Đ 6) ZK<|ZJ (Đ 2)) (cO<|e1t LS).p) (ZM (Đ 6) (ZJ<|Đ 2) ZK))))
 rintro _ _ @⟨p,t,st,a,q,wd,hP,XR,S,hq,hs,ha,U8⟩;ext d2Y;let MW:=S.MW;let nar:=S.nar;let ma:=dZ (z:=[]) ha;let wa:=S.sh.QE _ ma;let fa:=Mx.O3.at #[0] (S.sh.fit _ ma) q;let f0:0<Mx.e iC q:=#[0]
 let hb:=My.a5S hP f0 fa.2;let mt:∀ {r},r∈t.take a++t.drop (a+1)->r∈t:=λh=>(HW.mp h).elim Lj List.mem_of_mem_drop;let ra:e27 AH (rV 3) [some<|fD C p,some<|tb t,some<|.int st,some<|.int a,some<|.int q,none,none] (rw iC):=#[2,.l .lst<|vv ha]
 let cd:xZ lY none (!(a:Int))++xZ lY (some<|(a:Int)+1) none=(t.take a++t.drop (a+1)).map rw:=by rw[cX,show ((a:Int)+1)=((a+1:Nat):Int) from rfl,j6,Hx,JD,Lf]
 show .nx #[#[1,ra,#[vP,#[#[ra,1,.l .lst<|cM #[0]],1],⟨hP,XR,f0,fa.2⟩],1],⟨#[0],hb.1,Int.le_trans (Int.le_of_lt hb.2) XR,#[0]⟩] (.nx ⟨bc ⟨⟨⟨rfl,.lst,rfl,⟨rfl⟩,rfl⟩,⟨rfl,.lst,⟨⟨rfl,rfl,.i⟩⟩,rfl,rfl⟩,.l ?_⟩,by rw[cd];show .l .lst⟩ ?_ λe3I=>#[_,1,#[5],#[#[0],XR,cW,?_]]⟩ #[#[#[xJ,wF,.l ?_],#[1,.lst,#[1],2],.l ?_],?_])
 ·rw[<- HE,cd];simp;omega
 ·simp;omega
 ·rw[S.sh.QE r<|mt hr];omega
 ·rw[S.sh.QE r<|mt hr];show hq
 ·show S.sh.fit r (mt hr)
 ·rw[cX];simp;omega
 ·rw[cX,j6];simp;omega
 ·rw[cX,j6];unfold Mx.cleared;change Fl.rt (.lst<|List.map rw (_++[_]++_))=_;rw[Hx,Hx,JD,Lf,Hv];rfl
universe e
section
variable {C:Addr}
abbrev red (c9m):Θ:=(e5v m).1
inductive c3d (c7L):Ä
 |mk {p:Int}{m wd:Nat}{t:Θ}:My.OJ p=true->p<=1000000->ZR p wd t->m<=wd->c3d C FF (tb Pz)
def b8Z (hP)(S:ZR p wd t)(i):∃ ps,(e5v i).2=ps.length/\Mx.RR p wd i Dp ps/\(red p t i).length=t.length/\ZR p wd Dp:=by ext d2Y;let#[ps,xu,_]:=Mx.RR.run #[0] Dq S.sh i;show#[ps,h1,h2,h3,h2.sh,by rw[h3];show S.MW,S.nar]
def a1R [Bx:Bd](T)(Pf:MR 2 "fitted_row" ["field","row"] (d8X OC))(Qw:MR 1 "row_with" b6K (Pr Qd))(RD:MR 4 "cleared" b1M (d8X b02)):Tk 5 "reduced" (top 52) ì (d8X c3d):=by
 show NA ["rows","start","place","at"] ?_ λe0b=>(qC (e29 (e2z (cS 1 [0] ["row","field"]) UF
  ĕ
  Px
  (λe0m=>dF Pf hr.m rfl<|e0z ť)) rfl)
 (qC (qs 4 ND dI)
 (qC (e1r ZZ Id (aM 5)
  (qC (qs 6 ND<|dF Qw hr.m rfl (da (Đ 3)<|e1M XV))
 (q1 (qI (e9f (Đ 6) Tx)
  (qC (qs 3 ND<|dF RD hr.m rfl (da (Đ 0)<|e1s (da (Đ 4)<|e3a XV)))
 (q1<|ky (yJ (i:=4) ND rfl uF dI c1z)))
  q0))))
 ng)))
 rintro _ _ @⟨p,m,wd,t,hP,XR,S,hm⟩;ext d5e;let nar:=S.nar;show .nx #[bc (h:=rw) xp #[] λe3I=>#[_,sQ,?_]] um
 ·let:=OC.mk (C:=C) (p:=p) #[] (by rw[S.sh.QE r hr];lia);rwa [Mx.UI<|S.sh.fit r hr]at this
 show cB oW (λi ε=>∃ o5 o6,ε=[.fz<|fD C p,.fz<|tb t,.fz<|.int m,.fz<|tb Dp,.fz<|.int ((e1F (My.bk p) t i).2:Nat),o5,o6]) ⟨_,_,rfl⟩ ⟨m,#[],⟨rfl,rfl⟩,(bI _).symm⟩ (λe5T=>?_) λe3m=>?_
 ·let#[o5,o6,he]:=J';let#[1,hi]:=iu hx;subst he;let#[ps,xu,Sr]:=b8Z hP S i;let U5:(e5v i).2<=(red p t i).length:=by rw[h1];show h2.len
  let UQ:=Mx.QM p gO t i;unfold Mx.step at UQ;let hf:=Sr.MW;ext d69;let c1:=Qd.mk (st:=(e5v i).2) (q:=i) #[] U5 #[] λe3I=>by rw[Sr.sh.QE r hr];lia
  cases hrw:Mx.MY Dp (e5v i).2 i with
  | none=>
   rw[hrw]at c1 UQ;show#[_,.nx wu<|.f wj rfl,_,_,by unfold red;rw[UQ];rfl]
  | some a=>
   let#[Eu]:=Mx.QN hrw;rw[hrw]at c1 UQ;show#[_,.nx wu<|e7I (.nx #[#[6],#[hP,XR,Sr,#[],Eu]] #[2]),_,_,by unfold red;rw[UQ];rfl]
 ·let#[o5,o6,he]:=J';subst he;rw[ID];show#[2]
abbrev Om (c9m):À:=Mx.MN Pz m
theorem wg (p)(t:Θ)(m):D:=if (Om p Ň m).length<m then .non else tb (((e6K m).take m).map (List.drop m))
inductive Sf (c7L):Ä
 |mk {p:Int}{m:Nat}{t:Θ}:My.OJ p=true->p<=1000000->ZR p m t->m<=100->Sf C FF (wg p t m)
def a0w (r o:Ξ):rw (r++o)=.lst (r.map .int++o.map .int):=e3x Hx
def b7u [Bx:Bd](hn)(T)(O8)(ON:MR 2 "lead_places" [AQ] (Pr eI))(Ry:MR 5 "reduced" ì (d8X c3d)):Tk 6 "reader" (top 55) ì (d8X Sf):=by
 show NA ["joined","rows"] ?_ λe0b=>(qC (qS (e2z (cS 2 [] ["row","own"]) (f1p T.Oz<|e0z (da (dF O8 hr.m rfl<|da zP LS) LS))
  ĩ
  Px
  (λe0m=>VW (Đ 0)<|Đ 1)) λe0j=>uo (n:=2))
 (qC (qs 4 ND<|dF Ry hr.m rfl b6f)
 (qC (qI (e3V (cu T.Me<|dF ON hr.m rfl (da (Đ 4)<|e2e LS))<|Đ 2)
  GT
  q0)
 (qr (e0H (cS 1 [2] yq) (av<|ZM (Đ 4) ZK (ZJ<|Đ 2))
  ĕ
  Px
  (λe0m=>ZM (Đ 0) (ZJ<|Đ 1) ZK))))))
 rintro _ _ @⟨p,m,t,hP,XR,S,hm⟩;ext d5e;let Sj:ZR p fV Ň:=#[Mx.Rh #[0] S.sh,by rw[Mx.NR];show MW,#[0]]
 let#[ps,xu,Sr]:=b8Z hP Sj m;let hf:=Sr.MW;show .nx #[cv (xs:=t.zip<|Mx.ones t.length) (u:=λz=>.tup [rw z.1,rw z.2]) (h:=λz=>rw (z.1++z.2)) #[_,_,#[1,#[#[yW,1],#[#[0]]],1],by rw[a4w,Hv];rfl] (by rw[JE];omega) (λe9v=>#[Fa,2,?_]) ?_] (.nx #[#[4],#[hP,XR,Sj,#[0]]] ?_)
 ·let h1:=S.sh.QE _ (K2 hz).1;let#[j,_,h2]:=Ht.mp (K2 hz).2;let h2:z.2.length=t.length:=by rw[<- h2];simp[Mx.LL]
  rw[a0w];show .l (by rw[Hl,Hl];omega)
 ·unfold Mx.joined;rw[<- Js,show tb _=.lst qi from rfl,Hv];rfl
 let rd:=lt_int (ε:=[some<|fD C p,some<|tb t,some<|.int m,some<|tb Ň,some<|tb rG]) (ra:=rF Oc<|rA (rF eI<|rA (rV 4) (rA (rV 2) SO)) SO) (rb:=rV 2) ⟨⟨⟨⟨rfl,rfl,rfl⟩,⟨#[0],λe3I=>by rw[Sr.sh.QE r hr];omega⟩⟩,rfl⟩,Oc.m⟩ rfl;unfold wg;ext d7f
 ·ext d63;rw[Hu<|Int.ofNat_lt.mpr c]at rd;show .rt (.t rd #[2])
 ·ext d40;rw[Hw λz=>c<|Int.ofNat_lt.mp z]at rd;show .nx (.f rd rfl) ⟨bc (xs:=(e8B m).take m) (u:=rw) (h:=λr=>rw (r.drop m)) #[xJ,by rw[cX,JD];show .l .lst] (by rw[HF];omega) λr _=>#[_,2,.lst,#[1],1,by rw[j6,<- Lf]],tbm _ _⟩
theorem nM (p)(t:Θ)(m):À:=(List.range m).filter λq=>not (decide (q∈Om p t m))
theorem fP (p)(t:Θ)(m):D:=.tup [.str "reads",wg p t m]
inductive a4q (c7L):Ä
 |mk {p:Int}{m:Nat}{t:Θ}:My.OJ p=true->p<=1000000->ZR p m t->m<=100->¬ (Om p Ň m).length<m->a4q C FF (fP p t m)
def qNs:SE X ss λ_ _=>False:=λe18=>Q9.imp λe0t=>by let#[Bp]:=J';show h.elim
def c2P [Bx:Bd](SJ:MR 6 "reader" ì (d8X Sf)):Tk 7 "judgement" (top 89) ì (d8X a4q):=by
 show NA ["read"] ?_ λe0b=>(qC (qs 3 ND<|dF SJ hr.m rfl (d9E Ť))<|qC (qI (e9f (Đ 3) Tx) (qr<|qm (da gr<|e1s LS)) q0) qNs)
 rintro _ _ @⟨p,m,t,hP,XR,S,hm,c⟩;let c1:=Sf.mk (C:=C) hP XR S hm;unfold fP;unfold wg at c1 ⊢;rw[if_neg c]at c1 ⊢;show .nx wu (.rt<|e7I #[Lb,1])
universe e
abbrev gW (c:Cl)(p:Str×Kd):D:=.ins (c.of p.2) oq [.str p.1]
abbrev bY (t:Mv):D:=.tup a8C
abbrev DB (c:Cl)(S:NS):D:=Nt GB
abbrev a4h (S:NS):D:=Nt (S.LK.map λt=>(.inl t.1,bY t))
abbrev aK (c:Cl)(S:NS):D:=.ins c.MJ ["kept_posts","kept_ties","next_number"] [DB c S,a4h S,.int S.next]
abbrev aQ (l:η):D:=.lst (l.map .str)
abbrev bS (c7x):D:=.lst Zq
theorem NS.names (S:NS):η:=S.LO.map (·.1)
theorem NS.Mi (S:NS):η:=(S.LO.filter λp=>X0 p.2).map (·.1)
theorem NS.Mt (S:NS):Option (Str×Kd):=S.LO.find? λp=>not (SV p.2)
theorem sZ:Option (Str×Kd)->D
 | none=>.non
 | some p=>.str p.1
def b1H {S:NS}:(cD GB mT).isSome=decide (x∈S.names):=zm
section
variable {c:Cl}
def Cl.Ok.fp' [Bx:Bd](O):∀ C,C=c.MJ->e3i C/\MF Bx.K C "kept_posts":=λ_ h=>h▸#[O.cn,O.fp]
def Cl.Ok.ft' [Bx:Bd](O):∀ C,C=c.MJ->e3i C/\MF Bx.K C "kept_ties":=λ_ h=>h▸#[wW]
def Cl.Ok.nm' [Bx:Bd](O):∀ C,jW c C->e3i C/\MF Bx.K C "name":=λ_ J'=>by let#[k,h]:=J';show h▸#[O.cls k,O.nam k]
inductive j8 (b:Bool):Ä
 |mk {d:D}:j8 b [d] yC
def eK [Bx:Bd](F:e4n Þ (gb yC)):e4n Þ (Pr (j8 b)):=F.imp fun vs H Q E ⟨_,_,_,s,h,⟨⟩,q⟩=>let ⟨v,ws,e,_,e2⟩:=h;#[v,by rw[e,e2],q _ H Ě rfl]
inductive bR (c:Cl):Ä
 |mk {S:NS}{x:Str}:x.length<=1000->gJ x=true->x∉S.names->bR c pM .non
inductive R5:Ä
 |mk {x:Str}:x.length<=1000->R5 [.str x] (.bl (gJ x))
def c3K [Bx:Bd](O)(RC:MR 1 "is_name" oq (Pr R5)):Tm 2 "check_new_name" "Net.check_new_name" (d9e 4) Ý (d9m bR):=by
 ext d5r;show dw [] ?_ λe0b=>(qC (qI (rX<|dV (bA<|dF RC hr.m rfl No))
  Lz
  q0)
 (q1 (qI (e5c (Đ 1)<|V7 M8 (Đ 0))
  Lz
  q0)))
 rintro _ _ @⟨S,x,hx,h1,h2⟩;let d1:=R5.mk hx;rw[h1]at d1;show#[1,.inr #[1,_,.nx (d93 #[#[2],d1])<|.f #[sQ,e2f rfl (by rw[b1H,Hw h2];rfl)] rfl]]
inductive c3L (c:Cl):Ä
 |mk {S:NS}:c3L c AZ (aQ S.names)
def a6U [Bx:Bd](O)(c8t):Tm 1 "names" "Net.names" (d9e 11) Þ (d9m c3L):=by
 ext d5r;show NA [] ?_ λe0b=>(qr<|e2N boot_list (da (V7 M8<|Đ 0) LS))
 rintro _ _ @⟨S⟩;show#[#[#[#[3],1],.k],by rw[Hv];change Fl.rt b29=_;rw[Hv];rfl]
inductive bG (c:Cl):Ä
 |mk {S:NS}:S.LO.length<=1000->bG c AZ (aQ S.Mi)
def c47 (d06)(f:α->vm)(g:α->D):l.map g=(l.map λx=>BW).map (·.2):=by rw[Hv];rfl
def b8L [Bx:Bd](O)(OE):Tm 2 "listeners" "Net.listeners" (d9e 12) Þ (d9m bG):=by
 ext d5r;let Ue:=O.nm';show NA [] ?_ λe0b=>(qr (dLv 0 rfl (cS 1 [] ["post"]) c0Q
  ĕ
  (λe0m=>bU<|dV (bA<|GO (Đ 0) OE hr.m))
  (λe0m=>V7 Ue<|Đ 0)))
 ext d6a;show#[bB (λp=>X0 p.2) Ax hl λp _=>#[_,1,#[1,#[_,1],by decide,by rw[<- ir O];show⟨⟩],λ_=>#[1,#[_,1],1]],by change Fl.rt b29=_;rw[Hv];rfl]
inductive yo (c:Cl):Ä
 |mk {S:NS}:yo c AZ (sZ S.Mt)
def a16 [Bx:Bd](O)(OG):Tm 2 "home" "Net.home" (d9e 13) Þ (d9m yo):=by
 ext d5r;let Ue:=O.nm';show NA ["post"] ?_ λe0b=>(qC (qLv HB rfl c0Q (pN 1 ND) (aM 1)
  (q1 (qI (rX<|dV (bA<|GO (Đ 1) OG hr.m))
  (qr<|V7 Ue (Đ 1))
  q0)))
 GT)
 rintro _ _ @⟨S⟩;show ?_;show ig S.LO (λε=>∃ o,ε=[.fz _,o]) (λp=>not (SV p.2)) (λp=>.str p.1) #[_,1] Ax (λp ε _ J'=>?_) (λp h=>by unfold NS.Mt;rw[h];rfl) λh ε _=>#[1,by unfold NS.Mt;rw[h];rfl]
 ext d32;let hb:j8 b3a [gW c p] (.bl<|SV p.2):=by rw[<- iJ O];show⟨⟩
 ext d69
 cases z:SV p.2 with
 | true=>rw[z]at hb;show#[_,.f b6M rfl,_,1]
 | false=>rw[z]at hb;show .t b6M #[#[1,#[_,1],1],1]
inductive kZ (c:Cl):Ä
 |mk {S:NS}:S.LK.length<=1000->kZ c AZ (bS S.LK)
def b7o [Bx:Bd](O):Tm 1 "ties" "Net.ties" (d9e 14) Þ (d9m kZ):=by
 let Ug:=O.ft';show NA [] ?_ λe0b=>(qr (dLv 4 rfl (cS 4 [] [Aa]) (b7N<|V7 Ug (Đ 0))
  Į
  Px
  (λe0m=>qm<|e1q b5R)))
 ext d6a;show#[bc Ax hl λt _=>#[Fa,#[5],B2],1]
inductive cN (c:Cl):Ä
 |mk {S:NS}{x:Str}:x∈S.names->cN c pM .non
def c2X [Bx:Bd](O):Tm 1 "check_there" "Net.check_there" (d9e 8) Ý (d9m cN):=by
 ext d5r;show dw [] ?_ λe0b=>(q1 (qI (e3W (Đ 1)<|V7 M8 (Đ 0))
  Lz
  q0))
 rintro _ _ @⟨S,x,h⟩;show#[1,.inr #[1,_,.f #[sQ,e2f rfl (by rw[b1H,Hu h];rfl)] rfl]]
theorem NS.into (S:NS)(x):Ξ:=(S.LK.filter λt=>decide E3).map (·.1)
theorem NS.Oj (S:NS)(x):Ξ:=(S.LK.filter λt=>decide nN).map (·.1)
inductive tY (c:Cl)(g:NS->Str->Ξ):Ä
 |mk {S:NS}{x:Str}:S.LK.length<=1000->x∈S.names->tY c g pM (rw (g S x))
def eq_str (d0G):e5b b9g:=e7G (e5a rfl<|e2M (by show decide_eq_decide.mpr #[congrArg V.str,V.str.inj]))
def c41 [Bx:Bd](LX)(LP):Tm 2 "into" "Net.into" (d9e 15) Ý (Pr (tY c NS.into)):=by
 show NA [] ?_ λe0b=>(qC wX
 (qr (RU 4 rfl a79 lE
  Į
  (λe0m=>bU<|e1b (Đ 2) (Đ 4))
  Ő)))
 ext d5l
def a6y [Bx:Bd](LX)(LP):Tm 2 "out_of" "Net.out_of" (d9e 16) Ý c1r:=by
 show NA [] ?_ λe0b=>(qC wX
 (qr (RU 4 rfl a79 lE
  Į
  (λe0m=>bU<|e1b (Đ 1) (Đ 4))
  Ő)))
 ext d5l
universe e
inductive ji (c7x)(x:Str):Str->Prop
 |refl:ji ts x x
 |step {t:Mv}:t∈ts->ji ts x t.2.1->ji ts x t.2.2.1
abbrev pL (R:η):D:=Nt (R.map λy=>(.inr y,.bl true))
def a8X {R:η}:(cD (R.map λy=>b6N) (.inr y)).isSome=decide (y∈R):=by simp[zm]
abbrev lK (nm:Str)(b:List Str×η)(t:Mv):List Str×η:=if t.2.1=nm/\t.2.2.1∉b.1 then c0e else b
inductive GI (c7x)(R':η):Nat->List Str×List Str->Prop
 |done:GI ts R' 0 (R',[])
 |step {n:Nat}{R W:η}{nm:Str}:GI ts R' n (ts.foldl tF (R,W))->GI ts R' (n+1) (R,W++[nm])
theorem oG (c7x)(R:η):Nat:=ts.countP λt=>decide (t.2.2.1∉R)
def b5l (ht:t∈ts)(h:t.2.2.1∉R):oG ts (R++tL)<oG ts R:=by
 let#[a,b,1]:=List.append_of_mem ht;unfold oG;let k:∀ l:List Mv,l.countP (λu=>decide (u.2.2.1∉R++tL))<=l.countP λu=>decide _:=λl=>List.countP_mono_left λu _ z=>Hu λy=>HR z<|Ir _ y;let:=k a;let:=k b;rw[List.countP_append,List.countP_append,List.countP_cons_of_neg<|by simp,List.countP_cons_of_pos<|by simpa using h]
 lia
structure Hf (c7x)(x:Str)(b:List Str×η):Prop where
 ld:∀ y∈b.1,ji ts x y
 MW:b.1.length+oG ts b.1<=1+ts.length
def b4d (hn:ji ts x nm):∀ (us:List Mv)(b:List Str×η),(∀ t∈us,t∈ts)->Hf ts x b->(∀ y∈b.2,y∈b.1)->Hf ts x (e3b b)/\(∀ y∈(e3b b).2,y∈(e3b b).1)/\2 * oG ts (e3b b).1+(e3b b).2.length<=2 * oG ts b.1+b.2.length:=by
 intro r'
 induction r' with
 | nil=>
  intro b _ I h;show #[I,h,Hz _]
 | cons t us ih'=>
  intro b ht I h;rw[JR];let UP:=λu hu=>ht u<|HM _ hu;by_cases c:t.2.1=nm/\t.2.2.1∉b.1
  ·let ol:=b5l (ht t HS) c.2;rw[show lK nm b t=_ from if_pos c];let#[xu]:=ih' c0e UP #[λe3D=>(HW.mp hy).elim (I.ld y) λz=>by rw[HH.mp z];show .step (ht t HS)<|c.1▸hn,by let:=I.MW;simp;lia] λe3D=>(HW.mp hy).elim (λz=>Ir _<|h y z)<|Ih _;show#[h1,h2,by simp at h3 ol ⊢;lia]
  ·rw[show lK nm b t=_ from if_neg c];show ih' b UP I h
def b2R:∀ (n:Nat)(R W:η),2 * oG ts R+W.length<=n->Hf ts x (R,W)->(∀ y∈W,y∈R)->∃ R' k,GI ts R' k (R,W)/\Hf ts x (R',[]):=by
 intro n
 induction n with
 | zero=>
  ext d3O
  ·show#[c6s]
  ·simp at hn
 | succ n ih=>
  ext d3O
  ·show#[c6s]
  ·rw[List.concat_eq_append]at hn h I ⊢;let#[xu]:=b4d (I.ld nm<|h nm (by simp)) ts (R,W) (λ_ z=>z) #[I.ld,I.MW] λe3D=>h y uM;let#[R',k,a,b]:=ih _ _ (by simp at hn h3;lia) h1 h2;show#[R',k+1,.step a,b]
def a06 (c7x)(x):∃ R n,GI ts R n ([x],[x])/\(∀ y∈R,ji ts x y)/\R.length<=1+ts.length:=by let#[R,n,xu]:=b2R (ts:=ts) _ [x] [x] nY #[λe3D=>by rw[HH.mp hy];show .refl,by simp[oG,List.countP_le_length]] λ_ z=>z;show#[R,n,yi,by grind]
inductive b4H:Ä
 |mk {ts:List Mv}{x:Str}{R:η}{n:Nat}:ts.length<=900->GI ts R n ([x],[x])->b4H [bS ts,.str x] (pL R)
def b4G [Bx:Bd](c8t):Tk 1 "led_to" (top 31) c2t (Pr b4H):=by
 show NA ["reached","waiting","name",Aa] ?_ λe0b=>(qC (qo 2 ND<|dD1 (Đ 1) Sz)
 (qC (qo 3 ND<|cO No)
 (qC (qW HB (e9g (d91 3) dI)
  (qC (a7K<|pS 4 ND (a97 Bx.K HJ PySem.F.slot_list_pop PySem.F.type_list_pop a00<|pv 3))
 (q1 (e6T (d9I (af yV aG)) (d8 Bx.K [5,6,7,8])
  (q1 (qI (d9f rY (e1b (Đ 6)<|Đ 4) (dc<|e3W (Đ 7) (Đ 2)))
  (qC (qP (e4o jF (Đ 7) Sz rfl) λe1j=>h)
 a5F)
  q0))))))
 BP)))
 rintro _ _ @⟨ts,x,R,n,hl,L⟩;show .nx #[#[1,kS,2]] (.nx #[wF] ?_);let o0:oG ts [x]<=ts.length:=List.countP_le_length;show fJ (b:=(n,[x],[x])) (λb ε=>GI ts R b.1 b.2/\b.2.2.length<=b.2.1.length/\b.2.1.length+oG ts b.2.1<=1+ts.length/\∃ o4 o5 o6 o7 o8,ε=[.fz<|bS ts,.fz<|.str x,.ow<|pL b.2.1,.ow<|aQ b.2.2,o4,o5,o6,o7,o8]) (·.1) ⟨L,Hz _,Nat.add_le_add_left o0 _,_,_,_,_,_,rfl⟩ λe9w=>?_;let#[n,b]:=J';let#[L,hw,hf,o4,kO]:=Yl;dsimp only at L hw hf he;subst he;let rd:=gt_int (ε:=[some<|bS ts,some<|.str x,some<|pL b.1,some<|aQ b.2,o4.a,o5.a,o6.a,o7.a,o8.a]) (ra:=rF Oc<|rA (rV 3) SO) (rb:=rC<|.int 0) yW rfl
 cases L with
 | done=>show .inl #[rd,2]
 | @step n R' W nm L=>
  rw[Hu<|by simp]at rd;let hw:W.length+1<=R'.length:=by simpa using hw
  show .inr #[rd,(n,ts.foldl tF (R',W)),qd (ε1:=[.fz<|bS ts,.fz<|.str x,.ow<|pL R',.ow<|aQ W,.fz<|.str nm,o5,o6,o7,o8]) (by rw[show aQ (W++[nm])=.lst (W.map .str++[.str nm]) from congrArg D.lst Hx];show⟨rfl⟩) ?_];show a5y (u:=bY) ts (λb ε=>b.2.length<=b.1.length/\b.1.length+oG ts b.1<=1+ts.length/\∃ o5 o6 o7 o8,ε=[.fz<|bS ts,.fz<|.str x,.ow<|pL b.1,.ow<|aQ b.2,.fz<|.str nm,o5,o6,o7,o8]) (lK nm) (b:=(R',W)) ⟨by change W.length<=R'.length;lia,hf,_,_,_,_,rfl⟩ ⟨rfl,.l .lst⟩ (λb t ε ht J'=>?_) λε' J'=>by let#[hb,hf,kO]:=J';show#[#[L,hb,hf,xT,_,he],J3 _]
  let#[hb,hf,kO]:=J';subst he;let r1:=eq_str (ε:=[some<|bS ts,some<|.str x,some<|pL b.1,some<|aQ b.2,some<|.str nm,some<|.int t.1,some<|.str t.2.1,some<|.str t.2.2.1,some<|.int t.2.2.2]) (ra:=rV 6) (rb:=rV 4) rfl rfl;by_cases c1:t.2.1=nm
  ·ext d6x;by_cases c2:t.2.2.1∈b.1
   ·show#[_,#[_,3],_,.f (.t r1 #[2,e5w (by rw[a8X,Hu c2];rfl)]) rfl,by rw[show lK nm b t=b from if_neg λz=>z.2 c2];show#[hb,hf,xT,1]]
   ·let ol:=b5l ht c2;show#[_,#[_,3],_,.t (.t r1 #[2,e5w (by rw[a8X,Hw c2];rfl)])<|.nx #[1,by rw[Hl];lia,.z rfl,1,kS] #[1,by rw[Hl];lia,.z rfl],?_];rw[show lK nm b t=_ from if_pos #[c1,c2]];show#[by simpa using hb,by simp;lia,.fz<|.int t.1,.fz<|.str t.2.1,.fz<|.str t.2.2.1,.fz<|.int t.2.2.2,?_];rw[dj λz=>c2<|by simpa using z];dsimp only;rw[show pL (b.1++[t.2.2.1])=Nt (b.1.map (λy=>b6N)++[(.inr t.2.2.1,.bl true)]) from congrArg Nt Hx,show aQ (b.2++tL)=.lst (b.2.map .str++[.str t.2.2.1]) from congrArg D.lst Hx];rfl
  ·rw[Hw c1]at r1;show#[_,#[_,3],_,.f (.f r1) rfl,by rw[show lK nm b t=b from if_neg λz=>c1 z.1];show#[hb,hf,xT,1]]
universe K72
namespace Mw
def Tt [DecidableEq β](g:α->β):∀ (xs:List β)(ts:List α),xs.Nodup->(∀ t∈ts,g t∈xs)->(xs.flatMap λx=>ts.filter λt=>decide (g t=x)).Perm ts:=by
 intro r'
 induction r' with
 | nil=>
  intro ts _ h
  cases ts with
  | nil=>show .nil
  | cons t _=>show absurd (h t<|by simp) Ĕ
 | cons x xs ih'=>
  intro ts nd h;ext d4E;rw[KZ];let e:(xs.flatMap λy=>ts.filter λt=>decide (g t=y))=xs.flatMap λy=>(ts.filter λt=>not (decide (g t=x))).filter λt=>decide (g t=y):=by
   rw[List.flatMap_def,List.flatMap_def];congr 1;show Ia λe3D=>?_;rw[List.filter_filter];show LI λt _=>?_;by_cases c:g t=y
   ·let:¬ g t=x:=λz=>nd.1 (by rw[<- z,c];show hy);simp[c,this];intro z;show this (c.trans z)
   ·simp[c]
  rw[e];let ih:=ih' (ts.filter λt=>not (decide (g t=x))) nd.2 λe8S=>by
   let#[yi]:=HN.mp ht;let h3:=h t h1;rcases HK.mp h3 with z|z
   ·simp[z]at h2
   ·show z
  show (List.Perm.append_left _ ih).trans (List.filter_append_perm _ _)
def UC [DecidableEq β]:∀ (l1 l2:List β),l1.Nodup->(∀ x∈l1,x∈l2)->l2.length<=l1.length->∀ x∈l2,x∈l1:=by
 intro r'
 induction r' with
 | nil=>
  intro l2 _ _ hl x hx
  simp_all
 | cons a l1 ih'=>
  intro l2 nd sub hl x hx;ext d4E;let ha:=sub a Ĕ;by_cases c:x=a
  ·rw[c];simp
  ·show HM _ (ih' (l2.erase a) nd.2 (λe3D=>?_) ?_ x ?_)
   ·grind
   ·grind
   ·simp_all
def W6 {l1:Ξ}(p:l1.Perm l2)(h1:l1.Pairwise E6)(h2:l2.Pairwise E6):l1=l2:=
 List.Perm.eq_of_pairwise b0P h1 h2 p
universe Mw
namespace K72
open PySem L2
open PyProof.Rows (boot_all boot_bool boot_dict boot_int boot_list boot_sorted boot_str boot_tuple)
structure GZ (mg:Ω):Prop where
 O5:mg "dict"=none
 QQ:mg "sorted"=none
section
variable {c:Cl}{f:Addr}
def c4O {S:NS}(h:x∈S.names):∃ p∈S.LO,p.1=x/\cD GB mT=!gW c p:=by let:=f0j (x:=x);rw[Hu h,fY,Option.isSome_map,IS]at this;let#[p,hp]:=this;show#[p,Iw hp,Sum.inr.inj<|HR (Jj (p:=λp:Str×Kd=>decide (ux=.inr x)) hp),by rw[fY,hp];rfl]
inductive a9Q (c:Cl):Ä
 |mk {S:NS}{x y:Str}:x∈S.names->y∈S.names->S.LK.length<=900->b3d->¬ ji S.LK y x->a9Q c [aK c S,.str x,.str y] .non
def b24 [Bx:Bd](O)(OG)(LX)(LP)(SK:MR 1 "led_to" c2t (Pr b4H)):Tm 2 "check_ends" "Net.check_ends" (d9e 7) æ (d9m a9Q):=by
 ext d5r;show dw [] ?_ λe0b=>(qC wX
 (qC (c2U<|e1p LX hr.m Ť)
 (qC (qI (rX<|dV (bA<|GO (d9O M8 2) OG hr.m))
  Lz
  q0)
 (q1 (qI (e5c (Đ 1)<|dF SK hr.m rfl (da (e3X LP hr.m)<|e2e LS))
  Lz
  q0)))))
 rintro _ _ @⟨S,x,y,hx,hy,hl,hk,hn⟩;let#[p,hp,ep,hv]:=c4O hy;let hb:j8 b3a [gW c p] ņ:=by rw[iJ O,hk p hp ep];show⟨⟩
 let#[R,n,yi,_]:=a06 S.LK y;show#[1,.inr #[1,_,.nx a7p<|.nx #[#[vP,#[2],#[hy]]] (.nx (d93 #[#[#[3],1,.k hv kS],#[_,1],by decide,hb])<|.f ⟨rfl,⟨⟨⟨rfl,rfl,by decide,⟨#[]⟩⟩,rfl,rfl⟩,⟨hl,h1⟩⟩,e5w (by rw[a8X,Hw λz=>hn<|h2 x z];rfl)⟩ rfl)]]
theorem ip (ts:η)(b:Str×η):Bool:=not (decide (b.1∈ts))&&b.2.all λy=>decide Uf
theorem bN (bs)(ts:η):Option Str:=(bs.find? (ip ts)).map (·.1)
theorem a0x:Option Str->D
 | none=>.non
 | some x=>.str x
abbrev vq (bs:List (Str×η)):D:=Nt (bs.map λb=>(.inr b.1,aQ b.2))
inductive Od:Ä
 |mk {bs:List (Str×η)}{ts:η}:(bs.map (·.1)).Nodup->(∀ b∈bs,b.2.length<=1000)->Od [vq bs,aQ ts] (a0x (bN bs ts))
def a3Y (c8Q){f:α->Str}(d1p):((l.map λx=>((.inr (f x):vm),g x)).map (·.1)).Nodup:=by
 rw[Hv];let:(l.map f).map (Sum.inr)=l.map (d9F .inr):=by rw[Hv];rfl
 rw[<- this];show L9 _ (λf2s z=>h<|Sum.inr.inj z) h
def uR (c8Q)(d1h)(d1p):((l.map λx=>((.inl (f x):vm),g x)).map (·.1)).Nodup:=by
 rw[Hv];let:(l.map f).map (Sum.inl)=l.map (d9F .inl):=by rw[Hv];rfl
 rw[<- this];show L9 _ (λf2s z=>h<|Sum.inl.inj z) h
def b5k [Bx:Bd](hn)(c8t):Tk 1 "first_ready" (top 32) c1s (Pr Od):=by
 show NA oq ?_ λe0b=>(qC (e6T AV (aM 2)
  (q1 (qI (PW.pt (rY (e3W (Đ 2)<|Đ 1) (dc (dV (bA (e3r (da (e0H (d9y "one" "told") (av<|MU hr (Đ 0) (Đ 2))
  ĕ
  Px
  (λe0m=>dIn Ba (Đ 0)<|Đ 1)) LS)))))))
  BP
  q0)))
 GT)
 rintro _ _ @⟨bs,ts,nd,hl⟩;show ?_;show ig bs (λε=>∃ o,ε=[.fz<|vq bs,.fz<|aQ ts,o]) (ip ts) (λb=>.str b.1) #[_,1] mV (λb ε hb J'=>?_) (λb h=>by unfold bN;rw[h];rfl) λh ε _=>#[1,by unfold bN;rw[h];rfl]
 ext d32;ext d69;unfold ip;by_cases c:b.1∈ts
 ·rw[Hu c];show#[_,.f (.f #[2,by let:=e4p (i:=b.1) (ks:=ts);rwa [Hu c]at this]) rfl,_,1]
 ·rw[Hw c];let r1:rO (WO true) kz AH b0Q ņ:=#[2,by let:=e4p (i:=b.1) (ks:=ts);rwa [Hw c]at this]
  let r2:rF XB (rA (rL 0 [1] (Yc<|e27 Zn kz) yG<|rO nF Zn AH) SO) b0Q (.bl<|b.2.all λy=>decide Uf):=#[#[bc #[#[2,.k (eL (a3Y nd)<|HA hb) kS],.l .lst] (hl b hb) λy _=>#[_,3,gK],1],by let:=XB.mk (by rw[Hv];rfl:b.2.map (λy=>D.bl<|decide Uf)=_);rwa [List.all_map]at this]
  cases z:b.2.all λy=>decide Uf with
  | true=>rw[z]at r2;show .t uV #[2]
  | false=>rw[z]at r2;show#[_,.f uV rfl,_,1]
theorem UD (d0D)(f:α->Int)(d06):List α:=l.mergeSort λa b=>decide (f a<=f b)
def Nu (d1h):(UD f l).Perm l:=List.mergeSort_perm _ _
def a0r (d1h):((UD f l).map f).Pairwise E6:=by rw[K8];show (List.pairwise_mergeSort (le:=λa b=>decide (f a<=f b)) (λa b c e2H=>Hu<|Int.le_trans (HR h1) (HR h2)) (λa b=>by simp[Int.le_total]) l).imp HR
inductive a4f:Ä
 |mk {α:Type}{l:List α}{f:α->Int}{g:α->D}:l.length<64->(l.map f).Nodup->a4f [Nt (l.map λx=>yc)] (Nt ((UD f l).map λx=>yc))
def a7I [Bx:Bd](hn)(T:GZ Bx.mg):Tk 1 "by_number" (top 59) ["told"] (Pr a4f):=by
 show NA [] ?_ λe0b=>(qr (e0Y (da (e0H (cS 1 [0] ["number","told"]) (av<|e6L boot_sorted ť)
  ĕ
  Px
  (d8Y wQ)) LS)))
 rintro _ _ @⟨α,l,f,g,hl,nd⟩;let pm:=Nu (f:=f) (l:=l);let so:=a0r (f:=f) (l:=l);generalize UD f l=m at pm so;show#[#[#[bc #[#[#[2],?_],.l .lst] (by rw[pm.length_eq];lia) λe1h=>#[_,1,#[#[1,#[2,.k (eL (uR nd)<|HA (pm.mem_iff.mp hx)) kI],1],B2]],1],Y0.m (f:=λx=>.inl<|f x) (by rw[pm.length_eq];lia) ?_],1]
 ·let:=cSo.k (ð:=l.map λx=>(_,g x)) (by rw[Hv,Hv];rfl) Ķ λPH e2H=>Mw.W6 (h1.trans (pm.map _).symm) h2 so;ext d41
 ·let:=uR b4A (g:=g);ext d41
universe e
abbrev _root_.Λ:=Option Ξ
abbrev Nf:=Int×Λ
theorem Th:Option Ξ->D
 | none=>.non
 | some ks=>rw ks
abbrev BR (m:Nf):D:=.tup [.int m.1,Th m.2]
abbrev iD (d1F):D:=.lst (ms.map BR)
theorem bt (S:NS)(x):Λ:=if S.Mt.map (·.1)=some x then none else !S.into x
theorem LV (d0d):List Nf:=ns.flatMap λx=>(S.Oj x).map λk=>oZ
def a8s (d0d)(x):LV S (ns++[x])=LV S ns++(S.Oj x).map λk=>oZ:=by simp[LV,Jo]
def a6N (d0d)(i):(LV S GQ).length<=(LV S ns).length:=by
 unfold LV
 conv=>rhs;rw[<- IQ i ns,Jo,HE]
 omega
section
variable {c:Cl}
abbrev _root_.Æ:=List Str->Prop
inductive qM (c8C):Ä
 |mk {S:NS}{ns:η}:ord S ns->qM c ord AZ (aQ ns)
inductive l6 (c8C):Ä
 |mk {S:NS}{ns:η}:ord S ns->(∀ x∈ns,x∈S.names)->S.LK.length<=1000->(LV S ns).length<=1000->l6 c ord AZ (iD ş)
def b8H (ha:ra ε Zc)(hb:rb ε (sZ h)):e5b (.bl (decide (h.map (·.1)=!x))):=by
 show .mk ha hb ?_
 cases h with
 | none=>show .mk rfl rfl rfl (e2M rfl)
 | some p=>show .mk rfl rfl rfl (congrArg D.bl<|by show decide_eq_decide.mpr ⟨λz=>f2f (Option.some.inj z).symm,λz=>congrArg some (V.str.inj z).symm⟩)
def b14 [Bx:Bd](Mz)(OR:N6 2 c.MJ "ordered" Þ (d88 qM))(Nl)(Ph:N6 2 c.MJ "out_of" Ý c1r):Tk 3 "mixing_ties" (top 58) ["net"] (d88 l6):=by
 show NA ["home","told","name","mixed","number"] ?_ λe0b=>(qC (d9M 1 Mz)
 (qC c2u
 (qC (e0A (av<|e3X OR hr.m) xO (aM 3)
  (qC (qs 4 ND<|YI (e1b (Đ 3)<|Đ 1) Tx (e1p Nl hr.m<|e1s LS))
 (q1 (e0A (av<|e1p Ph hr.m ql) Id (aM 5)
  (q1<|qA (aw<|e0s jF (a8 (qm<|e1t (e1M LS)) K')) (λe1j=>h))))))
 BP)))
 rintro _ _ @⟨S,ns,ho,hn,hl,hm⟩;show .nx b8J (.nx #[pQ] ?_);show cB ns (λi ε=>∃ o3 o4 o5,ε=[.fz<|aK c S,.fz<|sZ S.Mt,.ow<|iD (LV S<|ns.take i),o3,o4,o5]) ⟨_,_,_,rfl⟩ ⟨⟨rfl,rfl,by decide,⟨ho⟩⟩,.l .lst⟩ (λe5T=>?_) λe3m=>?_
 ·let#[o3,o4,o5,he]:=J';subst he;let xn:=hn x<|Hs hx;let tl:=a6N S ns<|i+1;rw[aW hx,a8s,HE,Hl]at tl;rw[aW hx,a8s];show#[_,1,qd (ε1:=[.fz<|aK c S,.fz<|sZ S.Mt,.ow<|iD (LV S<|ns.take i),.fz<|.str x,.fz<|Th (bt S x),o5]) ?_ ?_]
  ·let r:=b8H (ε:=[some<|aK c S,some<|sZ S.Mt,none,some<|.str x,o4.z,o5.z]) (ra:=rV 3) (rb:=rV 1) rfl rfl;unfold bt;by_cases z:S.Mt.map (·.1)=!x
   ·rw[Hu z]at r;ext d61;show#[.t r rfl]
   ·rw[Hw z]at r;ext d77;show#[.f r #[vP,#[2],#[hl,xn]]]
  ·show GJ (S.Oj x) (λj ε=>∃ o5,ε=[.fz<|aK c S,.fz<|sZ S.Mt,.ow<|iD (LV S (ns.take i)++((S.Oj x).take j).map λk=>oZ),.fz<|.str x,.fz<|Th (bt S x),o5]) ⟨_,by rw[KS,Jg,HV]⟩ ⟨⟨rfl,by decide,⟨rfl,rfl⟩,⟨hl,xn⟩⟩,.l .lst⟩ (λj k ε hk J'=>?_) λε' ⟨o5,he⟩=>#[_,_,_,by rw[Iu]at he;show he]
   let#[o5,he]:=J';ext d7D;let e:iD (LV S GQ++((S.Oj x).take<|j+1).map λk=>oZ)=.lst ((LV S GQ++((S.Oj x).take j).map λk=>oZ).map BR++[BR oZ]):=by rw[aW hk,Hx,<- Ik];show congrArg D.lst Hx
   show#[_,1,_,#[1,by simp;lia,.z Lb],.fz<|.int k,by rw[e];rfl]
 ·let#[Lq,he]:=J';rw[he,Iu];show#[2]
universe e
section
variable {C:Addr}
inductive c6l:Ä
 |mk {n:Int}:My.OJ n=true->n<=1000000->c6l db ņ
def le_int (c7T):rO (d9r b8K) ra rb ε b8K:=y8
def a9C [Bx:Bd]:Tk 1 "is_prime" (top 39) ý (Pr c6l):=by
 show NA ["divisor"] ?_ λe0b=>(qC (qI b9z
  oB
  q0)
 (qC (qs 1 ND dI)
 (qC (qW HB (dT sH dq (e2k (Đ 1)<|Đ 1)<|Đ 0)
  (qC (qI (d98 (e02 (Đ 0)<|Đ 1))
  oB
  q0)
 (q1<|ky (yJ (i:=1) ND rfl uF dI c1z))))
 oB)))
 rintro _ _ @⟨n,hP,hn⟩;let h2:=(My.M3 n).mp hP;let r0:=lt_int (ε:=[some<|.int n,none]) (ra:=rV 0) (rb:=rC<|.int 2) rfl rfl;rw[Hw<|by omega]at r0;show .nx (.f r0 rfl) (.nx ⟨rfl⟩ ?_);show fJ (λd ε=>ε=[.fz<|.int n,.fz<|.int d]/\2<=d/\d<=n) (λd=>(n+1 - d).toNat) #[1,WZ] λd e3m=>?_;let#[he,d2,dn]:=J';subst he;let rd:=le_int (ε:=[some<|.int n,some<|.int d]) (ra:=e3E AH<|rV 1) (rb:=rV 0) #[2,wI] rfl;by_cases z:d * d<=n
 ·rw[Hu z]at rd;let a:2 * d<=d * d:=Int.mul_le_mul_of_nonneg_right d2 #[0];let r1:=eq_int (ε:=[some<|.int n,some<|.int d]) (ra:=e2F Zn<|rV 1) (rb:=rC<|.int 0) #[2,#[#[0]]] rfl;rw[Hw (by rw[<- IP _ #[0]];show h2.2 d d2 z)]at r1;show .inr #[rd,d+1,_,.nx (.f r1 rfl) #[2],#[1,WZ],#[0]]
 ·rw[Hw z]at rd;show .inl #[rd,2]
inductive b99:Ä
 |mk {n:Int}:b99 db ņ
inductive c54 (c7L):Ä
 |mk {p n:Int}:0<=n->n<p->c54 C DX ņ
def c0u [Bx:Bd](T)(MP):Tk 2 "is_number_of" (top 61) c0U (d8X c54):=by
 let P0:=T.fl;show NA [] ?_ λe0b=>(qr<|EU (dF MP hr.m rfl<|e0z LS) (oz<|dCh (oC sH gf dI (Đ 1)<|V7 P0 (Đ 0)) dq dq))
 rintro _ _ @⟨p,n,h0,h1⟩;show#[.t #[#[2],⟨⟩]<|.t rfl rfl (by let:=e0w (i:=0) (j:=n) trivial;rwa [Hu h0]at this) ⟨rfl,rfl,rfl⟩ (by let:=fI.mk (C:=λ_ _=>True) (g:=λi j=>RO<|.bl (decide (i<j))) (i:=n) (j:=p) trivial;rwa [Hu h1]at this),1]
inductive Pd (c7L):Ä
 |mk {p:Int}{ns:Ξ}:ns.length<=1000->(∀ n∈ns,0<=n/\n<p)->Pd C [fD C p,rw ns,.int ns.length] ņ
def Spl [Bx:Bd](hn)(c8t)(Ot:MR 2 "is_number_of" c0U (d8X c54)):Tk 3 "is_row_of" (top 62) b6P (d8X Pd):=by
 show NA [] ?_ λe0b=>(qr (EU (dM bo cK zP<|Đ 2) (oz (e3r (da (e0H b4y UF
  ĕ
  Px
  (λe0m=>dF Ot hr.m rfl<|e0z ť)) LS)))))
 rintro _ _ @⟨p,ns,hl,hn⟩;let r1:=eq_int (ε:=[some<|fD C p,some<|rw ns,some<|.int ns.length]) (ra:=rF Oc<|rA (rV 1) SO) (rb:=rV 2) ⟨⟨rfl,rfl⟩,Oc.m⟩ rfl;rw[Hu rfl]at r1;show⟨.t r1 ⟨⟨bc (xs:=ns) (u:=.int) (h:=λ_=>.bl true) xp hl λn hm=>#[_,sQ,#[(hn n hm).1,(hn n hm).2]],rfl⟩,XB.mk (bs:=ns.map λ_=>true)<|by simp_all⟩,by simp⟩
abbrev bx:=Int×Ξ
abbrev aI (ř:List bx):D:=Nt (ř.map λr=>Fr)
theorem inc (msg)(cs:Cs):Option Ξ->Ξ
 | none=>msg
 | some ks=>ks.map λk=>(bK cs k).getD 0
inductive ff:Ä
 |n {msg:Ξ}{d:D}:ff [rw msg,.non,d] (rw msg)
 |s {msg ks:Ξ}{cs:Cs}:ks.length<=1000->(∀ k∈ks,∃ n,bK cs k=!n)->ff [rw msg,rw ks,YJ cs] (rw (inc msg cs !ks))
def b7m [Bx:Bd]:Tk 1 "coming_in" (top 64) b4B (Pr ff):=by
 show NA [] ?_ λe0b=>(qC (qI E7
  (qr<|Đ 0)
  q0)
 (qr (e0H (cS 1 [2] ["number","carries"]) UF
  ĕ
  Px
  Pi)))
 intro l d h
 cases h with
 | n=>show .rt (e7I #[2])
 | @s msg ks cs hl hk=>show .nx AJ #[e7H hl λk hm=>#[_,3,by let#[n,hn]:=hk k hm;rw[hn];show .k (CT hn) kI],TY _ _]
universe e
theorem zx (fo)(k:Int):Bool:=match fo with
 | none=>false
 | some ks=>decide F5
theorem io (ř)(n:Int):Option bx:=ř.find? λr=>decide (r.1=n)
theorem bF (ř)(k:Int):Ξ:=((io ř k).map (·.2)).getD []
def i4 (h:io ř k=!r):cD (ř.map λr=>ZB) fK=!rw r.2:=by rw[fY,funext λx=>decide_eq_decide.mpr #[Sum.inl.inj,congrArg _],show ř.find? _=some r from h];rfl
theorem fC (p)(c9E)(cs:Cs)(m:Nf):Int:=if zx fo m.1 then 0 else Mx.M9 p (bF ř m.1) c2v
theorem bH (p)(c9E):List Nf->Cs->Cs
 | [],cs=>cs
 | m::ms,cs=>e0W ms (cs++[(m.1,e5O cs m)])
def a6V (p)(c9E)(m:Nf):∀ (ms:List Nf)(cs:Cs),e0W (ms++[m]) cs=e0W ms cs++[(m.1,e5O (e0W ms cs) m)]:=by
 intro r'
 induction r' with
 | nil=>
  ext d6H
 | cons _ ms ih'=>
  intro _;show ih' _
def c5O (p)(c9E):∀ (ms:List Nf)(cs:Cs),(e0W ms cs).map (·.1)=cs.map (·.1)++ms.map (·.1)
 | [],_=>by simp[bH]
 | m::ms,cs=>by
  simp_all [bH,c5O]
def b4N (h:k∈cs.map (·.1)):∃ n,bK cs k=!n:=by
 let#[x,yi]:=Ht.mp h;let#[y,hy]:=IS.mp (d9u h1 h2)
 simp_all [bK]
structure CD (d1F):Prop where
 nd:(ms.map (·.1)).Nodup
 MW:ms.length<64
 ahead:∀ (i:Nat) m ks,ms[i]?=!m->m.2=!ks->ks.length<=1000/\∀ k∈ks,k∈(ms.take i).map (·.1)
theorem WQ (p)(l:Ξ):Prop:=∀ z∈l,0<=z/\z<p
structure Fo (p:Int)(d1F)(ř:List bx)(fo:Λ):Prop where
 p0:0<p
 p1:p<=1000000
 fits:CD ms
 has:∀ m∈ms,zx fo m.1=false->∃ r,io ř m.1=!r/\WQ p r.2/\r.2.length<=1000
section
variable {C:Addr}
inductive Fj (c7L):Ä
 |mk {p:Int}{ms:List Nf}{ř:List bx}{msg:Ξ}{fo:Λ}:Fo p ms ř fo->Fj C [fD C p,iD ms,aI ř,rw msg,Th fo] (YJ (UD (·.1) De))
def b8o (h1:ra ε (Th fo))(h2:rb ε (.int k))(h3:rc ε .non):Dy (λε b=>rO (fN true) ra rc ε yC) (λε b=>rO nF rb ra ε yC) ε (zx fo k):=by
 cases fo with
 | none=>show .f b74
 | some ks=>show .t b74 #[h2,h1,gL]
def c43 [Bx:Bd](N7)(Q6:MR 1 "coming_in" b4B (Pr ff))(Mj):Tk 4 "flow" (top 65) a9X (d8X Fj):=by
 show NA ["carries",c5p] ?_ λe0b=>(qC (qo 5 ND vB)
 (qC (e0A UF (e1R rfl<|f1q (af zi aG)) (d8 Bx.K [6,7])
  (q1 (qI (d9f rY b9A (dc<|e5c (Đ 6) (Đ 4)))
  (q1<|qP (e9V (pv 5) (Đ 6) dI rfl) (λe1j=>h))
  (q1<|qP (e4o qt (Đ 6) (e9W rfl<|e1q (da (d9t 6)<|da (dF Q6 hr.m rfl<|e1s (da (Đ 7)<|e1t LS)) LS)) rfl) (λe1j=>h)))))
 (qr<|e5P XV)))
 rintro _ _ @⟨p,ms,ř,msg,fo,W⟩;let MW:=W.fits.MW;ext d8O;show cB ms (λi ε=>∃ o6 o7,ε=[.fz<|fD C p,.fz<|iD ms,.fz<|aI ř,.fz<|rw msg,.fz<|Th fo,.ow<|YJ (e0W (ms.take i) []),o6,o7]) ⟨_,_,rfl⟩ ⟨rfl,.l .lst⟩ (λi m ε hm J'=>?_) λe3m=>?_
 ·ext d4F;let lt:=(Ho.mp hm).1;let nd:=W.fits.nd;let hk:=e5Q Bm [];rw[aW hm,a6V];generalize bH p ř msg fo Bm []=cs at hk;let hl:cs.length<=1000:=by let:=e0g hk;simp at this;omega
  let nw:(.inl m.1:vm)∉(cs.map λx=>PB).map (·.1):=λz=>by let#[x,yi]:=Ht.mp z;let#[y,h3,1]:=Ht.mp h1;let:=Ht.mpr #[y,h3,Sum.inl.inj h2];rw[hk,Jg,Ji]at this;let nd:=(IQ i ms)▸nd;rw[Hx,HX]at nd;show nd.2.2 _ this _ (Ht.mpr #[m,Hs (i:=0) (by rw[Ko];show hm),1]) rfl
  let tt:=b8o (ε:=[some<|fD C p,some<|iD ms,some<|aI ř,some<|rw msg,some<|Th fo,some<|YJ cs,some<|.int m.1,some<|Th m.2]) (ra:=rV 4) (rb:=rV 6) (rc:=rC .non) rfl rfl rfl;let e:∀ z:Int,YJ (cs++[(m.1,z)])=Nt (ur (cs.map λx=>PB) (.inl m.1)<|.int z):=λz=>by rw[dj nw];show congrArg Nt Hx
  ext d8P;unfold fC
  cases hf:zx fo m.1 with
  | true=>rw[hf]at tt;show#[_,.t tt #[1,by rw[Hl];show hl,.z rfl,1,kI],.fz<|.int m.1,.fz<|Th m.2,by rw[if_pos rfl,e];rfl]
  | false=>
   rw[hf]at tt;let#[r,xu]:=W.has m (Hs hm) hf;let er:bF ř m.1=r.2:=by unfold bF;rw[h1];rfl
   rw[er];let ci:ff [rw msg,Th m.2,YJ cs] (rw c2v):=by
    cases hx:m.2 with
    | none=>show .n
    | some ks=>show .s (e65 hx).1 λk VS=>b4N (by rw[hk];show (e65 hx).2 k VS)
   show#[_,.f tt #[1,by rw[Hl];show hl,.a #[#[1,c0W,#[#[4],ci],1],#[W.p0,W.p1,h3,h2]] rfl,1,kI],.fz<|.int m.1,.fz<|Th m.2,by rw[if_neg nofun,e];rfl]
 ·let#[_,_,he]:=J';ext d3M;let hk:=e5Q ms [];show#[#[#[2],.mk (by let:=e0g hk;simp at this;omega) (by rw[hk];show W.fits.nd)],1]
universe e
structure a5W (c9a)(c7L):Prop where
 cl:ua K C
 nP:MF K C "prime"
 g_G:∃ t,mg "GREATEST_PRIME"=!.int 1000000 t
section
variable {c:Cl}{C:Addr}
def c5H:au î î (aa yh):=PD
inductive dQ (c7L)(c84):Prop
 |mk (x dx:Addr) (p:Int):vs=[.ref x,.int p]->H x=!.ins C dx []->p<=1000000->My.OJ p=true->(∀ H',gR H H'->Q .non (upd H' x (.ins C dx [("prime",.int p)])))->dQ C vs H Q E
def b5u [Bx:Bd](T:a5W Bx.K Bx.mg C)(Qy:MR 1 "is_prime" ý (Pr c6l)):Tm 2 "__init__" "Field.__init__" yh î (dQ C):=by
 ext d27;let#[tk,hgG]:=T.g_G;show F.k c5H λe2v=>?_
 ·let#[x,dx,p,1,hx,hp,hP,q]:=h;show#[_,(ag (dJ (d9f ww (pT b4q BC<|gB (v:=.int 1000000) rfl hgG #[_,1]) (cH<|iy (bA<|be Qy hr.m rfl BD)))
  qU
  MQ)
 (ak<|e43 BC rfl)),?_]
  show#[_,1,mK,1,jI (λhc=>absurd (HR hc)<|by lia) λhc=>?_];show#[_,1,H,[.int p],.bl true,gR.refl _,#[_,_,3],#[hP,hp],λv H' e hv=>#[true,hv,jH ?_]];show#[yY,x,C,dx,[],1,e _ _ hx,T.cl,T.nP,by decide,q H' e]
inductive a3E (c7L)(d1Z):Prop
 |mk {p:Int}:rs ε [.int p]->p<=1000000->My.OJ p=true->d=fD C p->a3E C rs ε d
def a24 (Dd:Dk X.prog X.w X.K X.mg X.base k x C ps (dQ C))(c7n)(c8L)(c72)(c8E):
  PE X Ę (tP (a3E C rs)):=(iB Dd hr hg ha OW he uz).imp fun σ H Q ⟨F,ε,d,S,⟨h1,h2,h3,h4⟩,q⟩=>e45 h1 λvs e2t S1 J' x dx nx nd ne=>by
 let#[v,ws,ev,hv,hw]:=J';subst ev h4
 cases hv
 cases hw;show .mk x dx _ rfl ae h2 h3 λH' e'=>#[1,q _ _ (λa o z=>?_) #[x,jT,by rw[aE<|e1.free nx,ae],1,_,_,3]]
 let z1:=e1J z;let n1:=aj z1 nx;rw[a9 n1];show e' _ _ (by rw[a9 n1,a9<|aj z1 nd];show z1)
def c26:∀ {l:List α},(l.map f).Nodup->∀ {x y},x∈l->y∈l->f x=f y->x=y:=by
 intro l
 induction l with
 | nil=>intro _ x y hx;cases hx
 | cons a l ih=>
  intro nd x y hx hy e;ext d4E;rcases HK.mp hx with h1|h1 <;> rcases HK.mp hy with h2|h2
  ·rw[h1,h2]
  ·show absurd (Ht.mpr #[y,h2,by rw[<- e,h1]]) nd.1
  ·simp_all
  ·show ih nd.2 h1 h2 e
def b5h (pm:cs.Perm l)(nd:(l.map (·.1)).Nodup)(h:bK l k=!n):bK cs k=!n:=by
 unfold bK at h ⊢;let#[x,yi]:=HZ.mp h;let hm:=pm.mem_iff.mpr<|Iw h1;let hx:=HR<|Jj (p:=λx:Int×Int=>decide _) h1;let#[y,hy]:=IS.mp (d9u hm hx);let hy2:=HR<|Jj (p:=λx:Int×Int=>decide zL) hy;let:=c26 b4A (Iw hy) hm (hy2.trans hx.symm)
 simp_all
theorem dD (p)(ř)(d0U)(k:Int):Ξ:=(List.range many).map λj=>(bK b75 k).getD 0
inductive l8 (c8C):Ä
 |mk {S:NS}{ns:η}{p:Int}{ř:List bx}{many:Nat}{fo:Λ}:ord S ns->(∀ x∈ns,x∈S.names)->S.LK.length<=1000->My.OJ p=true->Fo p (LV S ns) ř fo->many<=1000->l8 c ord [zW,Th fo] (Nt ((UD (·.1) (LV S ns)).map λm=>(.inl m.1,rw (dD p ř fo ş many m.1))))
def PsN [Bx:Bd](F:Nc Bx.K "carried" "carried" (top 66) f fd)(T:GZ Bx.mg)(MH)(Mo)(Vx:MR 4 "flow" a9X (d8X Fj))(O8)(P2)(Mj):SR NP 5 f fd à (d88 l8):=by
 show Nc.dw F ["field","mixing","flows"] ?_ λf2y hr ND=>(qC (qs 5 ND<|e3y ql)
 (qC (qs 6 ND<|f2g ť)
 (qC (qs 7 ND (e0H (cS 1 [1,4,5,6] ["message","plan","fallen","field","mixing"]) (av<|dF O8 hr.m rfl Ť)
  ĕ
  Px
  (λe0m=>dF Vx hr.m rfl<|e1s (da (Đ 4)<|e0z Bl))))
 (qr (e5P (da (e0Y (da (RU 2 rfl (cS 2 [7] [c5p,"flows"]) (av<|Đ 6)
  ĩ
  Px
  (d8Y (dF P2 hr.m rfl<|e2e ť))) LS)) LS))))))
 rintro _ _ @⟨S,ns,p,ř,many,fo,ho,hn,hl,hP,W,hm⟩;let MW:=W.fits.MW;let nd:=W.fits.nd;show#[1,.inl<|.nx #[#[#[2],W.p1,hP,1]] (.nx #[#[2],#[ho,hn,hl,#[]]]<|.nx ⟨bc (h:=λj=>YJ<|UD (·.1) (bH p ř (Mx.LL many j) fo (LV S ns) [])) ⟨⟨⟨rfl,rfl⟩,⟨hm⟩⟩,?_⟩ (by simpa using hm) λj _=>#[_,1,#[6],#[W]]⟩ #[#[#[#[#[bc (u:=BR) xp #[] λm Yu=>#[Fa,#[1,#[#[3],.d vC λj _=>?_],1],B2],1],e35 #[] ?_],1],.mk MW nd],1])]
 ·unfold Mx.ones;ext d6K;show .l .lst
 ·let hk:=c5O p ř oX fo ş [];let#[n,hn]:=b4N (cs:=bH p ř oX fo ş []) (k:=m.1) (by rw[hk];show HA Yu);rw[hn];show b5h Nu (by rw[hk];show nd) hn
 ·let:=e8C nd (g:=λ_=>.non);ext d41
universe e
structure c3p (mg:Ω):Prop where
 O5:mg "dict"=none
 Me:mg "len"=none
 Qr:mg "list"=none
 b06:mg "min"=none
theorem Be (many:Int):Option Ξ->Int
 | none=>many
 | some ks=>ks.length
theorem b5 (ms)(ř):List bx:=(UD (·.1) ms).map λm=>(m.1,bF ř m.1)
structure R9 (many p:Int)(d1F)(ř:List bx):Prop where
 row:∀ m∈ms,∃ r,io ř m.1=!r/\(r.2.length:Int)=Be many m.2/\WQ p r.2/\r.2.length<=1000
 odd:∀ r∈ř,r.1∈ms.map (·.1)
 MW:ř.length<=1000
def c5F (nd:(ms.map (·.1)).Nodup)(h:m∈ms):io (b5 ms ř) m.1=!(m.1,bF ř m.1):=by unfold b5 io;let#[y,hy]:=IS.mp (L4 (p:=λr:bx=>decide (r.1=m.1)) |>.mpr ⟨_,HA (f:=λm:Nf=>(m.1,bF ř m.1))<|(Nu).mem_iff.mpr h,Hu rfl⟩);rw[hy];let#[z,hz,e]:=Ht.mp<|Iw hy;let h2:=HR<|Jj (p:=λr:bx=>decide (r.1=m.1)) hy;rw[<- e,(e4b e).trans h2]
section
variable {c:Cl}{ord:NS->Æ}
structure Fm (ord:NS->Æ)(d0d):Prop where
 ord:ord S ns
 nam:∀ x∈ns,x∈S.names
 tz:S.LK.length<=60
 fits:CD ş
inductive b4R (c8C):Ä
 |mk {S:NS}{ns:η}{many:Int}:Fm ord S ns->b4R c ord [aK c S,.int many] (Nt ((UD (·.1) (LV S ns)).map λm=>(.inl m.1,.int (Be many m.2))))
def b7p [Bx:Bd](d1G)(Mo)(Mj):Tk 4 "wanted_lengths" (top 60) [uK] (d88 b4R):=by
 show NA [] ?_ λe0b=>(qr (e5P (da (e0Y (da (RU 2 rfl (cS 2 [1] [c5p,"many"]) (av<|f2g ť)
  ĩ
  Px
  (d8Y (YI E7 (Đ 2)<|e8D (Đ 1)))) LS)) LS)))
 rintro _ _ @⟨S,ns,many,N⟩;ext d7n;show#[#[#[#[#[bc #[#[#[2],#[N.ord,N.nam,rP]],.l .lst] #[] λm _=>#[Fa,#[1,?_,1],B2],1],Y0.m (f:=λm:Nf=>.inl m.1) #[] ?_],1],.mk MW N.fits.nd],1]
 ·cases hx:m.2 with
  | none=>show .t wj rfl
  | some ks=>show .f wj yW
 ·let:=uR N.fits.nd (g:=λ_=>.non);ext d41
inductive a9G (c8C):Ä
 |mk {S:NS}{ns:η}{many p:Int}{ř:List bx}:Fm ord S ns->My.OJ p=true->p<=1000000->R9 many p ş ř->a9G c ord [zW] (aI uu)
def a9P [Bx:Bd](d1G)(MH)(NL:MR 4 "wanted_lengths" [uK] (d88 b4R))(Q5:MR 3 "is_row_of" b6P (d8X Pd)):Tk 5 "checked_plan" (top 63) b4C (d88 a9G):=by
 show NA ["field","lengths","number","strange"] ?_ λe0b=>(qC (qs 4 ND<|e3y ql)
 (qC (qs 5 ND<|dF NL hr.m rfl Bl)
 (qC (e0A F9 AE (aM 6)
  (q1 (qI (d9f Ww (e3W (Đ 6)<|Đ 1) (d99 (dF Q5 hr.m rfl<|e1M (da (MU hr (Đ 1)<|Đ 6)<|da (MU hr (Đ 5)<|Đ 6) LS))))
  Lz
  q0)))
 (qC (e29 (e6b (cS 1 [5] ["number","lengths"]) UF
  ĕ
  (λe0m=>bU<|e3W (Đ 0) (Đ 1))
  Ő) rfl)
 (qC (qI (e9g (d91 7) dI)
  Lz
  q0)
 (qr (e0Y (da (e0H (d9y "number" "plan") F9
  ĕ
  Px
  (d8Y (e2N boot_list<|da wQ LS))) LS))))))))
 rintro _ _ @⟨S,ns,many,p,ř,N,hP,hp,G⟩;let MW:=N.fits.MW;ext d5O;show .nx c0X (.nx #[#[3],#[N]] ?_);unfold b5;generalize hg:UD (λm:Nf=>m.1) ş=gs at pm;let gl:=pm.length_eq;let gd:(gs.map (·.1)).Nodup:=(pm.map _).nodup_iff.mpr N.fits.nd;show cB gs (u:=λm=>.int m.1) (λ_ ε=>∃ o6 o7,ε=[.fz<|aK c S,.fz<|aI ř,.fz<|.int many,.fz<|.int p,.fz<|fD C p,.fz<|Nt (gs.map λm=>(.inl m.1,.int<|Be many m.2)),o6,o7]) ⟨_,_,rfl⟩ ⟨rfl,EN.m⟩ (λi m ε hm J'=>?_) λe3m=>?_
 ·ext d4F;let hm:=Hs hm;let#[r,Ab]:=G.row m<|pm.mem_iff.mp hm;let rr:=Pd.mk (C:=C) h4 h3;rw[h2]at rr;show#[_,1,_,.f (.f #[2,e9p (by rw[i4 h1];rfl)] #[#[1,c0W,#[2,.k (eL (uR gd)<|HA hm) kI],1],rr]) rfl,P8]
 ·ext d4F;let es:ř.filter b0J=[]:=Jx.mpr λe3I=>by rw[Hu<|(pm.map _).mem_iff.mpr (G.odd r hr)];show nofun
  show .nx #[bB (xs:=ř) (u:=λr=>.int r.1) (h:=λr=>.int r.1) b0J mV G.MW λe3I=>#[_,1,#[2,e9p (by rw[lU (f:=λm:Nf=>m.1)];rfl)],λ_=>rfl]] ?_;rw[es];show .nx (.f (gt_int (i:=0) (j:=0) #[#[2],.s<|.sq .lst] rfl) rfl) ⟨⟨⟨bc (xs:=gs) (u:=λm=>.int m.1) (h:=λm=>.tup [.int m.1,rw (bF ř m.1)]) mV #[] λm hm=>#[_,1,#[#[1,#[#[#[2,?_],1],.s<|.sq .lst],1],B2]],rfl⟩,e35 #[] ?_⟩,?_⟩
  ·let#[r,h1,_]:=G.row m<|pm.mem_iff.mp hm;let er:bF ř m.1=r.2:=by unfold bF;rw[h1];rfl
   rw[er];show .k (i4 h1) kI
  ·let:=e8C gd (g:=λ_=>.non);ext d41
  ·rw[show aI (gs.map _)=Nt (List.map _<|List.map _ gs) from rfl,Hv];rfl
universe e
def a6z (c9v)(c9E)(cs:Cs)(m:Nf):0<=e5O cs m/\fC p ř msg fo cs m<p:=by
 unfold fC;by_cases c:zx fo m.1=true
 ·omega
 ·rw[if_neg c,Mx.Mr];show#[IW _<|by omega,IJ _ hp]
def PI0 (c9v)(c9E):∀ (ms:List Nf)(cs:Cs),(∀ x∈cs,0<=x.2/\x.2<p)->∀ x∈bH p ř msg fo ms cs,0<=x.2/\x.2<p:=by
 intro r'
 induction r' with
 | nil=>
  intro _ h;show h
 | cons m ms ih'=>
  intro cs h;show ih' _ λe1h=>by
   rcases HW.mp hx with z|z
   ·show h x z
   ·rw[HH.mp z];show a6z hp ř msg fo cs m
def b1W (c9v)(ř)(d0U)(k:Int):WQ p (e6M many k):=λe9v=>by
 unfold dD at hz;let#[j,_,1]:=Ht.mp hz
 cases hl:bK b75 k with
 | none=>simp_all
 | some n=>
  unfold bK at hl;let#[x,hx,e]:=HZ.mp hl;let:=PI0 hp ř oX fo ms [] (λ_ h=>(Iz h).elim) x (Iw hx)
  simp_all
theorem dg (S:NS)(p)(rs:List bx)(d0U)(g:Str):Θ:=(S.into g).map λk=>dD p rs fo ms many k
def zZ (c9v)(h1:(S.into g).length<=100)(h2:many<=100):ZR p many (dg S p rs fo ms many g):=by
 show#[#[lI],by unfold dg;rw[Hl];show h1,#[]]
 ·let#[k,_,1]:=Ht.mp hr;unfold dD;rw[Hl,ID]
 ·let#[k,_,1]:=Ht.mp hr;show b1W hp rs fo ms many k
section
variable {c:Cl}{ord:NS->Æ}
def R9.a5s (N:Fm ord S ns)(hP)(hp:p<=1000000)(G:R9 many p ş ř):Fo p ş uu fo:=by ext d3p;show#[#[],hp,N.fits,λm hm _=>#[_,c5F N.fits.nd hm,?_]];let#[r,h1,_,zh]:=G.row m hm;rw[show bF ř m.1=r.2 by unfold bF;rw[h1];rfl];show#[zh]
inductive Pb (c8C):Ä
 |mk {S:NS}{ns:η}{many:Nat}{p:Int}{ř:List bx}{fo:Λ}:Fm ord S ns->My.OJ p=true->p<=1000000->R9 many p (LV S ns) ř->many<=100->S.LO.length<=100->S.names.Nodup->(∀ t∈S.LK,t.1∈(LV S ns).map (·.1))->(∀ g∈S.Mi,¬ (Om p (Mx.joined (dg S p (b5 (LV S ns) ř) fo (LV S ns) many g)) many).length<many)->Pb c ord [zW,Th fo] (Nt (S.Mi.map λg=>(.inr g,fP p (dg S p uu fo ş many g) many)))
def c4V [Bx:Bd](F:Nc Bx.K "judged" "judged" (top 90) f fd)(Nz:MR 5 "checked_plan" b4C (d88 a9G))(MH)(Qf:MR 5 "carried" à (d88 l8))(LJ)(Nl)(OF:MR 7 "judgement" ì (d8X a4q)):SR NP 8 f fd à (d88 Pb):=by
 show Nc.dw F ["looked_over","field","rows","told","listener","table"] ?_ λf2y hr ND=>(qC (qs 5 ND<|dF Nz hr.m rfl (d9E b6g))
 (qC (qs 6 ND<|e3y ql)
 (qC (qs 7 ND<|dF Qf hr.m rfl (da (Đ 0)<|e1t (da (Đ 2)<|e1s (e1M LS))))
 (qC (qo 8 ND vB)
 (qC (e0A (av<|e3X LJ hr.m) (pN 9 ND) (aM 9)
  (qC (e29 (bd (i:=10) ND rfl rfl rfl (cS 1 [7] c1w) (av<|e1p Nl hr.m (f1r LS))
  ĕ
  Px
  Pi) rfl)
 (q1<|qP (e4o zE (Đ 9) (dF OF hr.m rfl<|e3a (da (Đ 10)<|e2e LS)) rfl) (λe1j=>h))))
 (qr<|Đ 8))))))
 rintro _ _ @⟨S,ns,many,p,ř,fo,N,hP,hp,G,hm,hz,nd,hk,Yr⟩;ext d3p;ext d7n;ext d5O;let li:∀ g∈S.Mi,g∈S.names:=λg hg=>by let#[q,yi]:=Ht.mp hg;show Ht.mpr #[q,(HN.mp h1).1,h2]
 let ln:S.Mi.Nodup:=List.Nodup.sublist b7w nd;let lz:S.Mi.length<=100:=by unfold NS.Mi;rw[Hl];show HU GD hz
 let iz:∀ g,(S.into g).length<=S.LK.length:=λg=>by unfold NS.into;ext d37
 show#[1,.inl<|.nx #[#[5],#[N,hP,hp,G]] (.nx c0X<|.nx ⟨⟨rfl,rfl,rfl,rfl,rfl,rfl⟩,⟨N.ord,N.nam,#[],hP,G.a5s N hP hp,#[]⟩⟩ (.nx ⟨rfl⟩ ?_))];generalize b5 (LV S ns) ř=rs at Yr;show cB S.Mi (λi ε=>∃ o9 Pm,ε=[.fz<|aK c S,.fz<|aI ř,.fz<|.int many,.fz<|.int p,.fz<|Th fo,.fz<|aI rs,.fz<|fD C p,.fz<|Nt ((UD (·.1)<|LV S ns).map λm=>(.inl m.1,rw b6Q)),.ow<|Nt ((S.Mi.take i).map λg=>(.inr g,fP p PC many)),o9,Pm]) #[P8] #[b8M,.l .lst] (λi g ε hg J'=>?_) λe3m=>?_
 ·let#[o9,Pm,he]:=J';subst he;let gm:=Hs hg;let lt:=(Ho.mp hg).1;let gz:(S.into g).length<=100:=by let:=iz g;lia
  let nw:(.inr g:vm)∉((S.Mi.take i).map λg=>((.inr g:vm),fP p PC many)).map (·.1):=λz=>by rw[Hv]at z;let#[x,yi]:=Ht.mp z;let h1:=Sum.inr.inj h2▸h1;let nd:=(IQ i S.Mi)▸ln;rw[HX]at nd;show nd.2.2 _ h1 _ (Hs (i:=0) (by rw[Ko];show hg)) rfl
  show#[_,1,_,.nx #[cv (xs:=S.into g) (u:=.int) (h:=λk=>rw (dD p rs fo ş many k)) (d:=tb<|dg S p rs fo (LV S ns) many g) ⟨⟨rfl,by decide,⟨rfl,rfl⟩,⟨#[],li g gm⟩⟩,.l .lst⟩ #[] (λk VS=>#[_,3,.k ?_ kI]) (by unfold dg;rw[show tb _=.lst qi from rfl,Hv];rfl)] #[1,by simp;lia,.z #[#[4],#[hP,hp,zZ #[] gz hm,hm,Yr g gm]],1,kS],.fz<|.str g,.fz<|tb PC,?_]
  ·let#[t,h1,1]:=Ht.mp VS;let#[m,zh]:=Ht.mp<|hk t (HN.mp h1).1;rw[<- h4];show eL (uR<|(pm.map _).nodup_iff.mpr N.fits.nd) (HA (f:=λm:Nf=>((.inl m.1:vm),rw b6Q))<|pm.mem_iff.mpr h3)
  ·rw[dj nw,aW hg,Hx];rfl
 ·let#[_,_,he]:=J';ext d8Q
universe e
universe K72
namespace L2.Wy
variable {ν:Type}[DecidableEq ν]
abbrev T (ν:Type):=Int×ν×ν×Int
theorem b2 (b:Bool):Int:=if b then 1 else 0
theorem jr (U)(c8X)(t:T ν):Int:=if U t.1 then b2 (p t.2.1) - b2 (p t.2.2.1) else 0
theorem MJ (ts)(U)(c8X):Int:=(ts.map (jr U p)).sum
theorem Qq (t:T ν)(x:ν)(U):Option ν:=if U t.1 then (if t.2.2.1=x then some t.2.1 else none) else (if t.2.1=x then some t.2.2.1 else none)
theorem rR (U)(k:Int):Int->Bool:=λj=>if j=k then not (U j) else U j
def c31 (U)(k:Int):rR U k k=not (U k):=if_pos rfl
def nG (U)(h:j≠k):rR U k j=U j:=if_neg h
def kK (t:T ν)(ts)(U)(c8X):MJ (t::ts) U p=jr U p t+e5d p:=by
 unfold MJ
 simp_all
def b2W (c9P)(c8X)(h:∀ t∈ts,U t.1=V t.1):e5d p=MJ ts V p:=by unfold MJ;congr 1;show Ia λe8S=>?_;unfold jr;rw[h t ht]
theorem EV (ts):Prop:=(ts.map (·.1)).Nodup
def EV.tail (h:EV (t::ts)):EV ts:=(Ii.mp h).2
def EV.ne (h:EV (t::ts))(hu:u∈ts):u.1≠t.1:=λe=>(Ii.mp h).1 (by change t.1∈ts.map _;rw[<- e];show HA hu)
def EV.inj (h:EV ts){u:T ν}(ht:t∈ts)(hu:u∈ts)(e:t.1=u.1):t=u:=by
 induction ts with
 | nil=>cases ht
 | cons a ts ih=>
  rcases HK.mp ht with rfl|ht1
  ·rcases HK.mp hu with rfl|hu
   ·rfl
   ·show absurd e.symm (h.ne hu)
  ·rcases HK.mp hu with rfl|hu
   ·show absurd e (h.ne<|by assumption)
   ·show ih h.tail (by assumption) hu
def b5m (d0r){x y:ν}(d1S):jr ni p t=jr U p t+b2 (p x) - b2 (p y):=by
 unfold Qq at h;unfold jr;rw[c31]
 cases hU:U t.1 with
 | true=>
  simp_all
 | false=>
  simp_all
def b7e (c7a)(d0r){x y:ν}(nd)(ht:t∈ts)(d1S):MJ ts ni p=e5d p+b2 (p x) - b2 (p y):=by
 induction ts with
 | nil=>cases ht
 | cons a ts ih=>
  rw[kK,kK];rcases HK.mp ht with rfl|ht
  ·rw[b5m h,b2W p λu hu=>nG U<|nd.ne hu]
   lia
  ·rw[ih nd.tail ht];let:jr ni p a=jr U p a:=by unfold jr;rw[nG U λe=>nd.ne ht e.symm]
   lia
theorem Flow (ts)(U)(h g:ν)(v:Int):Prop:=∀ p:ν->Bool,e5d p=v * (b2 (p h) - b2 (p g))
def Flow.none (ts)(h g:ν):e3c vF h g 0:=λp=>by
 rw[Int.zero_mul];unfold MJ
 induction ts with
 | nil=>rfl
 | cons t ts ih=>
  rw[HL,List.sum_cons,ih];rfl
abbrev Cm (ν:Type):=List (ν×Option (Int×ν))
theorem keys (d0H):List ν:=c.map (·.1)
inductive Ou (c8p)(h:ν):Cm ν->Prop
 |one:Ou ts U h sX
 |snoc {cs:Cm ν}{x y:ν}{t:T ν}:Ou ts U h cs->x∈keys cs->t∈ts->Qq t x U=!y->¬ y∈keys cs->Ou ts U h (cs++[EM])
def bp (a b:Cm ν):keys (a++b)=keys a++keys b:=Hx
def Ou.nd (c8I):(keys cs).Nodup:=by
 induction C with
 | one=>simp[keys]
 | snoc C hx ht hs hy ih=>
  rw[bp];show HX.mpr #[ih,by simp[keys],λe6Z e=>?_];let:=HH.mp hb
  simp_all
def Ou.Mt (c8I):h∈keys cs:=by
 induction C with
 | one=>simp[keys]
 | snoc C hx ht hs hy ih=>rw[bp];show Ir _ ih
def Ou.at (c8I){pre post:Cm ν}{y:ν}(d0s)(e:cs=pre++(y,s)::post):
  (s=none/\y=h)\/∃ t x,t∈ts/\s=!(t.1,x)/\x∈keys pre/\Qq t x U=!y:=by
 induction C generalizing post with
 | one=>
  cases pre with
  | nil=>
   injection e with e1 e2;injection e1 with e1 e3;show .inl #[e3.symm,e1.symm]
  | cons a pre=>
   simp_all
 | @snoc cs x y' t C hx ht hs hy ih=>
  rcases List.eq_nil_or_concat post with rfl|⟨X2,q,rfl⟩
  ·let e':=e;let#[zw]:=e8E rfl
   grind
  ·let e':cs++[(y',!(t.1,x))]=(pre++(y,s)::X2)++[q]:=by simp_all
   let#[zw]:=e8E rfl;show ih e1
def c09 {t:T ν}{x x' y y':ν}(d1S)(h':Qq t x' U=!y'):y=y':=by grind [Qq]
def Br {t:T ν}{V:Int->Bool}(x:ν)(h:U t.1=V t.1):e7J U=e7J V:=by unfold Qq;rw[h]
def iX (h:y∈keys c):∃ pre s post,c=pre++(y,s)::post:=by let#[#[y',s],hq,1]:=Ht.mp h;let#[rJ]:=List.append_of_mem hq;show#[pre,s,post,e]
structure d7 (c8p)(g:ν)(d0H)(V:Int->Bool)(y:ν)(s:Option (Int×ν))(n:Nat):Prop where
 at':∃ pre post,c=pre++(y,s)::post/\pre.length=n/\∀ q∈pre++[(y,s)],∀ k x,q.2=!(k,x)->V k=U k
 nt:∀ p,MJ ts V p=MJ ts U p+b2 (p y) - b2 (p g)
def d7.start (e:c=pre++(g,s)::post):e2O U g s pre.length:=
 #[#[rJ,1,λe0m=>rfl],λp=>by omega]
def d7.step (c9P){h g:ν}(d0I)(nd)(c9F){y x:ν}(B:e2O V y (!(k,x)) n):
  ∃ s m,m<n/\d7 ts U g c (rR V k) x s m:=by
 let#[rJ,hn,hV]:=B.at';rcases C.at e with⟨e0,_⟩|⟨t,x',ht,es,hx,hs⟩
 ·cases e0
 injection es with es;injection es with e1 e2;subst e1 e2;let hVt:=hV _ (Ih _<|HH.mpr rfl) _ _ rfl;let#[a0H,s,X2,e3]:=iX hx;let NU:a0H.length<n:=by
  rw[<- hn,e3,HE,I0]
  lia
 show#[s,a0H.length,NU,#[#[a0H,X2++EM::post,by rw[e,e3];simp,1,λe9t k' x'' hq2=>?_],λp=>?_]]
 ·let hqp:q∈pre:=by
   rw[e3];ext d8o
   ·show Ir _ hq
   ·rw[HH.mp hq];show Ih _ (HS ..)
  let U8:k'≠t.1:=λek=>by
   let#[a,b,eab]:=List.append_of_mem hqp;let e5:c=a++(q.1,q.2)::(b++EM::post):=by rw[e,eab];simp
   rcases C.at e5 with⟨e0,_⟩|⟨t2,x2,ht2,ZF,_,S7⟩
   ·rw[hq2]at e0;cases e0
   ·rw[hq2]at ZF;injection ZF with ZF;injection ZF with e6 e7;let:=nd.inj ht2 ht<|e6.symm.trans ek;ext d5M;let:=c09 S7 hs;let hk:=C.nd;rw[e,bp]at hk;let h1:q.1∈keys pre:=HA hqp;show (HX.mp hk).2.2 q.1 h1 y (by simp[keys]) this
  rw[nG V U8];show hV q (Ir _ hqp) k' x'' hq2
 ·rw[b7e nd ht<|(Br x hVt).trans hs,B.nt p]
  lia
def d7.stop (c9P){h g:ν}(d0I)(c9F){y:ν}(B:e2O V y none n)(c8u):e3c V h g (v+1):=by
 let#[rJ,hn,hV]:=B.at';rcases C.at e with⟨_,rfl⟩|⟨t,x',ht,es,hx,hs⟩
 ·intro p;rw[B.nt p,F p,Int.add_mul,Int.one_mul]
  lia
 ·cases es
theorem vG (ts)(U)(c8X):Prop:=∀ t∈ts,∀ x z,p x=true->e7J U=!z->p z=true
theorem zF (c8X)(t:T ν):Bool:=p t.2.1&&not (p t.2.2.1)
theorem tK (ts)(c8X):List (T ν):=ts.filter (zF p)
def c3X (d0r)(h:∀ x z,p x=true->e7J U=!z->p z=true):jr U p t=b2 (zF p t):=by
 unfold jr zF b2
 cases hU:U t.1 with
 | true=>
  let:=h t.2.2.1 t.2.1;unfold Qq at this
  cases h1:p t.2.1 <;> cases h2:p t.2.2.1 <;> simp_all
 | false=>
  let:=h t.2.1 t.2.2.1;unfold Qq at this
  simp_all
def a40 (c7a){p:ν->Bool}(h:vG ts U p):e5d p=((tK ts p).length:Int):=by
 unfold tK
 induction ts with
 | nil=>rfl
 | cons t ts ih=>
  rw[kK,IK,ih λu hu=>h u<|HM _ hu,c3X<|h t (HS ..)]
  cases zF p t with
  | true=>
   grind [b2]
  | false=>
   grind [b2]
def Flow.cut (c7a){h g:ν}{p:ν->Bool}(c8u)(hc:vG ts U p)(hh:p h=true)(hg:p g=false):((tK ts p).length:Int)=v:=by let:=F p;rw[a40 hc,hh,hg]at this;rw[this];change v * (1 - 0)=v;omega
inductive Qo (ts:List (T ν)):ν->List (T ν)->ν->Prop
 |nil (x:ν):Qo ts x [] x
 |snoc {x:ν}{ws:List (T ν)}{t:T ν}:Qo ts x ws t.2.1->t∈ts->Qo ts x Gj t.2.2.1
theorem aB (ws:List (T ν)):Ξ:=ws.map (·.1)
def Qo.sub (c9p):∀ t∈ws,t∈ts:=by
 induction W with
 | nil=>simp_all
 | snoc W ht ih=>
  intro t h;ext d5W
  ·show ih t h
  ·simp_all
def Qo.up (c7a)(c7u){x y:ν}(c99)(c9p):rk x+ws.length<=rk y/\(∀ t∈ws,rk t.2.1<rk y)/\ws.Nodup:=by
 induction W with
 | nil=>simp_all
 | @snoc ws t W ht ih=>
  let:=hr _ ht;let#[CI,i3]:=ih;show#[by rw[HE,IN];omega,λu hu=>?_,?_]
  ·rcases HW.mp hu with hu|hu
   ·let:=i2 u hu;omega
   ·simp_all
  ·show HX.mpr #[i3,by simp,λe6Z e=>?_];let eb:=HH.mp hb;let:=i2 a ha;omega
def PGs (c99)(nd)(hs:∀ t∈ws,t∈ts)(h:ws.Nodup):(aB ws).Nodup:=by
 induction ws with
 | nil=>show Jt
 | cons a ws ih=>
  let#[yi]:=Ii.mp h;show Ii.mpr #[λz=>?_,ih (λe8S=>hs t<|HM _ ht) h2];let#[u,hu,e]:=Ht.mp z;let:=nd.inj (hs u<|HM _ hu) (hs a<|HS ..) e
  simp_all
theorem without (U)(ks:Ξ):Int->Bool:=λk=>U k&&not (decide F5)
def b4a (nd)(c8X)(W:Qo ģ x ws y)(hn:(aB ws).Nodup):
  MJ ts (without U dL) p=e5d p - b2 (p x)+b2 (p y):=by
 induction W with
 | nil=>
  simp[b2W,without,aB]
 | @snoc ws t W ht ih=>
  let V4:(aB ws++[t.1]).Nodup:=by
   let:aB Gj=aB ws++[t.1]:=Hx
   simp_all
  let#[n1,_,n3]:=HX.mp V4;let Pp:=λz=>n3 t.1 z t.1 (HH.mpr rfl) rfl;let hU:=(HN.mp ht).2;let hV:without U dL t.1=true:=by unfold without;rw[hU,Hw Pp];rfl
  let hs:Qq t t.2.2.1 (without U<|aB ws)=!t.2.1:=by unfold Qq;rw[hV,if_pos rfl,if_pos rfl]
  let e:MJ ts (without U<|aB Gj) p=MJ ts (rR (without U<|aB ws) t.1) p:=b2W p λu _=>by
   let e2:aB Gj=aB ws++[t.1]:=Hx;by_cases hu:u.1=t.1
   ·rw[hu,c31,hV];unfold without
    simp_all
   ·rw[nG _ hu];unfold without
    simp_all
  rw[e,b7e nd ((HN.mp ht).1) hs,ih n1]
  lia
def Flow.without (nd)(c8u)(c99)(W:e6c g)(hn:(aB ws).Nodup):e3c (e7K dL) h g (v - 1):=λp=>by
 rw[b4a nd p W hn,F p,Int.sub_mul,Int.one_mul]
 lia
instance DP {ts:List (T ν)}{x:ν}(h:0<=MJ ts U WF)(hi:0<MJ ts U WF\/∃ t∈ts,U t.1=true/\t.2.2.1=x/\t.2.1≠x):∃ t∈ts,U t.1=true/\t.2.1=x:=by
 by_cases hx:∃ t∈ts,U t.1=true/\t.2.1=x
 ·show hx
 ·exfalso;let key:∀ ts:List (T ν),(∀ t∈ts,¬ (U t.1=true/\t.2.1=x))->MJ ts U WF<=0/\((∃ t∈ts,U t.1=true/\t.2.2.1=x/\t.2.1≠x)->MJ ts U WF<0):=by
   intro ts hts
   induction ts with
   | nil=>show#[Int.le_refl _,λJ'=>(by let#[t,ht,_]:=J';show nomatch ht)]
   | cons a ts ih=>
    let#[i1,i2]:=ih λt ht=>hts t<|HM _ ht;rw[kK];let t0:jr U (λz=>decide (z=x)) a<=0:=by
     unfold jr;split
     ·rename_i hU;change b2 (decide (a.2.1=x)) - b2 (decide (a.2.2.1=x))<=0;rw[Hw λe=>(hts a<|HS ..) #[hU,e]];unfold b2
      cases decide (a.2.2.1=x) <;> decide
     ·show Int.le_refl _
    show#[#[],λJ'=>?_];let#[t,ht,h1,h2,h3]:=J';rcases HK.mp ht with rfl|ht
    ·let:jr U WF t=-1:=by unfold jr;rw[if_pos h1];change b2 (decide (t.2.1=x)) - b2 (decide (t.2.2.1=x))=-1;rw[Hw h3,Hu h2];rfl
     lia
    ·let:=i2 #[t,ht,h1,h2,h3]
     lia
  let#[k1,k2]:=key ts λt ht z=>hx #[t,ht,z]
  grind
def Flow.Yz (c7a)(c7u){h g x:ν}(c8u)(hv:0<v)(hg:x≠g)(c99)(W:e6c x):∃ t∈ts,U t.1=true/\t.2.1=x:=by
 let e:=F λz=>decide (z=x);rw[Hw<|show ¬ g=x from λz=>hg z.symm]at e;by_cases hh:h=x
 ·rw[Hu hh]at e;let:e5d WF=v:=by rw[e];change v * (1 - 0)=v;lia
  show DP #[] (.inl<|by lia)
 ·show DP #[] (.inr ?_)
  cases W with
  | nil=>show absurd rfl hh
  | @snoc ws t W ht=>
   let:=hr t (HN.mp ht).1;show#[t,(HN.mp ht).1,(HN.mp ht).2,1,λz=>by lia]
variable {ν:Type}[DecidableEq ν]
theorem look (U)(x:ν):List (T ν)->Cm ν×List ν->Cm ν×List ν
 | [],s=>s
 | t::r,s=>match Qq t x U with
  | some z=>if z∈keys s.1 then look U x r s else look U x r b4i
  | none=>e2l r s
theorem gV (ts)(x:ν):List (T ν):=ts.filter λt=>decide nN || decide E3
theorem bfs (ts)(U):Nat->Cm ν×List ν->Cm ν
 | 0,s=>s.1
 | n+1,s=>match s.2 with
  | []=>s.1
  | x::w=>f1s U n (e2l CU (s.1,w))
theorem fm (ts)(U)(N:Nat):Option ν->Cm ν
 | none=>[]
 | some h=>f1s U N (sX,[h])
structure Bf (c8p)(h:ν)(d0H)(d w:List ν):Prop where
 Pu:Ou ts U h c
 ks:keys c=d++w
 done:∀ x∈d,∀ t∈ts,∀ z,Qq t x U=!z->z∈keys c
def Bf.start (ts)(U)(h:ν):e5e sX [] [h]:=#[.one,1,λe1h=>nomatch hx]
def b0h:∀ (r:List (T ν))(s:Cm ν×List ν),(∀ t∈r,t∈ts)->f1t s.1->keys s.1=d++s.2->x∈d->
  Ou ts U h (e2l r s).1/\keys (e2l r s).1=d++(e2l r s).2/\(∀ z∈keys s.1,z∈keys (e2l r s).1)/\∀ t∈r,∀ z,e7J U=!z->z∈keys (e2l r s).1
 | [],s,_,C,k,_=>#[C,k,λe9v=>hz,λe8S=>nomatch ht]
 | t::r,s,hr,C,k,hx=>by
  let Xj:∀ t∈r,t∈ts:=λu hu=>hr u<|HM _ hu;rw[look]
  cases hs:e7J U with
  | none=>
   ext d5P
   grind
  | some y=>
   change Ou ts U h (if y∈keys s.1 then look U x r s else _).1/\_;by_cases hy:y∈keys s.1
   ·simp only[if_pos hy];ext d5P;rcases HK.mp hu with rfl|hu
    ·rw[hs]at hz;cases hz;show c _ hy
    ·show e u hu z hz
   ·simp only[if_neg hy];let C':f1t zc:=.snoc C ġ (hr t<|HS ..) hs hy;let k':keys zc=d++(s.2++[y]):=by rw[bp,k,Ik];rfl
    let#[C8,e]:=b0h r (s.1++[EM],s.2++[y]) Xj C' k' hx;let hyk:y∈keys zc:=by simp_all
    show#[a,b,λe9v=>c z (by rw[bp];show Ir _ hz),λu hu e9v=>?_]
    grind
def b6R (d0V):t.2.1=x\/t.2.2.1=x:=by grind [Qq]
def Bf.step (c7a){h x:ν}(d0I){d w:List ν}(B:e5e c d (x::w)):e5e (e2l CU (c,w)).1 (d++[x]) (e2l CU (c,w)).2:=by
 let#[a,b,m,e]:=b0h (x:=x) (d:=d++[x]) _ (c,w) b76 B.Pu (by rw[B.ks];simp) Ĕ;show#[a,b,λe3D e8S e9v=>?_];ext d8p
 ·show m z (B.done y hy t ht z hz)
 ·let hyx:=HH.mp hy;rw[hyx]at hz;show e t (HN.mpr #[ht,?_]) z hz;rw[Bool.or_eq_true];rcases b6R hz with h|h
  ·show .inl (Hu h)
  ·show .inr (Hu h)
theorem Ends (ts)(nm:List ν):Prop:=∀ t∈ts,t.2.1∈nm/\t.2.2.1∈nm
def A3 (d0V):z=t.2.1\/z=t.2.2.1:=by grind [Qq]
def Ou.names (d2j){nm:List ν}(c9F)(c9W):∀ z∈keys c,z∈nm:=by
 induction C with
 | one=>intro z hz;rw[HH.mp hz];show hh
 | snoc C hx ht hs hy ih=>
  intro z hz;rw[bp]at hz;ext d8q
  ·show ih z hz
  ·rw[HH.mp hz];rcases A3 hs with e|e
   ·rw[e];show (E _ ht).1
   ·rw[e];show (E _ ht).2
def sub_len {xs ys:List ν}(nd:xs.Nodup)(h:∀ x∈xs,x∈ys):xs.length<=ys.length:=by
 induction xs generalizing ys with
 | nil=>show Iv _
 | cons a xs ih=>
  let#[n1,n2]:=Ii.mp nd;let ha:=h a<|HS ..;let:=ih (ys:=ys.erase a) n2 λe1h=>(Lk λe=>n1 (by rw[<- e];show hx)).mpr<|h x (HM _ hx);rw[List.length_erase_of_mem ha]at this;let:=List.length_pos_of_mem ha;rw[I0]
  lia
def Bf.len (d2j){d w nm:List ν}(B:e5e c d w)(c9W):d.length+w.length<=nm.length/\c.length<=nm.length:=by
 let:=sub_len B.Pu.nd<|e7L hh;let e:(keys c).length=c.length:=Hl _;let e2:=e0g B.ks
 grind
structure Rea (c8p)(h:ν)(d0H):Prop where
 Pu:Ou ts U h c
 all:∀ x∈keys c,∀ t∈ts,∀ z,Qq t x U=!z->z∈keys c
def a1x (c9W):∀ (n:Nat)(c:Cm ν)(d w:List ν),e5e c d w->nm.length<=n+d.length->e9X (f1s U n (c,w))
 | 0,c,d,w,B,hn=>by let hl:=(B.len E hh).1;let hw:w=[]:=JM.mp #[];subst hw;show#[c3C]
 | n+1,c,d,[],B,hn=>#[c3C]
 | n+1,c,d,x::w,B,hn=>a1x E hh n _ (d++[x]) _ B.step (by rw[HE,IN];lia)
def b8P (c7a){h:ν}{nm:List ν}(c9W)(hN:nm.length<=N):e9X (fm ts U N !h):=a1x E hh N _ [] [h] (Bf.start ts U h) (hN)
def Rea.closed (d2j)(R:e9X c):vG ts U (λz=>decide uW):=λe8S x z hx hs=>Hu (R.all x (HR hx) t ht z hs)
theorem Va (d0e):Ξ:=if k∈U then U.filter (λj=>not (decide (j=k))) else U++[k]
theorem O9 (U:Ξ):Int->Bool:=λk=>decide (k∈U)
def a0g (d0e):O9 (Va U k)=rR Ao k:=by
 funext j
 grind [O9,Va,rR]
instance Bo (h:U.Nodup)(k:Int):(Va U k).Nodup:=by
 unfold Va;split
 ·show h.filter _
 ·rename_i hk;show HX.mpr ⟨h,by simp,λa ha b hb e=>?_⟩
  simp_all
theorem cG (d0H)(y:ν):Option (Int×ν):=(c.find? λq=>decide (q.1=y)).bind (·.2)
def lq {c pre post:Cm ν}{y:ν}(d0s)(nd:(keys c).Nodup)(e:c=pre++(y,s)::post):c.find? jh=!(y,s)/\cG c y=s:=by
 let h1:c.find? jh=!(y,s):=by rw[e,bp]at nd;let hno:pre.find? jh=none:=Jh.mpr λe9t z=>(HX.mp nd).2.2 q.1 (HA hq) y (by simp[keys])<|HR z;rw[e,L5,hno];simp
 show#[h1,?_];unfold cG;rw[h1];rfl
theorem gZ (d0H):Nat->List Int->Option (Int×ν)->Ξ
 | 0,U,_=>U
 | _+1,U,none=>U
 | n+1,U,some s=>e7M (Va U s.1) (cG c s.2)
def b7B (d0H)(n)(d0e)(x:ν):gZ c (n+1) U (!(k,x))=e7M (Va U k) (cG c x):=rfl
def d7.look (c9P){h g y:ν}(d0I)(d0s)(c9F)(B:e2O V y s n):cG c y=s/\c.find? jh=!(y,s)/\n<c.length:=by
 let#[rJ,hn,_]:=B.at';let#[yi]:=lq C.nd e
 simp_all
def UnR (nd)(c9F)(c8u):∀ (n m:Nat)(V:Ξ)(y:ν)(s:Option (Int×ν)),e2O (O9 V) y s m->m<n->V.Nodup->e3c (O9 (e7M V s)) h g (v+1)/\(e7M V s).Nodup
 | 0,m,V,y,s,B,hm,_=>absurd hm (JQ _)
 | n+1,m,V,y,none,B,hm,hV=>#[B.stop C F,hV]
 | n+1,m,V,y,some (k,x),B,hm,hV=>by let#[s',m',NU,B']:=B.step nd C;rw[<- a0g]at B';let e:=(B'.look C).1;rw[b7B,e];show UnR nd C F n m' (Va V k) x s' B' #[] (Bo hV k)
def c5C (c7a){h g:ν}(d0I)(nd)(C:Ou ts Ao h c)(F:e3c Ao h g v)(hg:g∈keys c)(hU:U.Nodup)(hn:c.length<=n):e3c (O9 (e7M U (cG c g))) h g (v+1)/\(e7M U (cG c g)).Nodup:=by let#[pre,s,post,e]:=iX hg;let B:=d7.start (ts:=ts) (U:=O9 U) e;rw[(B.look C).1];show UnR nd C F n _ U g s B (Ip (B.look C).2.2 hn) hU
theorem Cn (ts)(d0H):Ξ:=aB (tK ts λz=>decide uW)
theorem dG (d2k)(N:Nat):Nat->List Int->Sum Ξ Ξ
 | 0,U=>.inr U
 | m+1,U=>if g∈keys ŭ then dG ts h g N m b8Q else .inl (Cn ts ŭ)
def a7i (d2k)(N m:Nat)(U:Ξ):dG ts h g N (m+1) U=if g∈keys ŭ then dG ts h g N m b8Q else .inl (Cn ts ŭ):=rfl
structure a57 (ts:List (T ν))(h g:ν)(U:Ξ)(ks:Ξ)(c8X):Prop where
 closed:vG ts Ao p
 hh:p h=true
 hg:p g=false
 ks:ks=aB (tK ts p)
def a63 (nd)(c9W)(hN:nm.length<=N):∀ (m:Nat)(U:Ξ)(v:Int),e3c Ao h g v->U.Nodup->
  (∀ V,f0k U=.inr V->e3c (O9 V) h g (v+m)/\V.Nodup)/\
  (∀ ks,f0k U=.inl ks->∃ (i:Nat)(V:Ξ)(p:ν->Bool),i<m/\dG ts (!h) g N i U=.inr V/\Flow ts (O9 V) h g (v+i)/\a57 ts h g V ks p/\(ks.length:Int)=v+i):=by
 intro r'
 induction r' with
 | zero=>
  intro U v F hU;show #[λV e=>by cases e;show#[by simpa using F,hU],λks e=>by cases e]
 | succ m ih'=>
  intro U v F hU;let R:=b8P (U:=O9 U) E hh hN;rw[a7i];generalize hc:f1u N (!h)=c at R;let cl:c.length<=N:=by
   let:=sub_len R.Pu.nd (R.Pu.names E hh)
   grind [keys,List.length_map]
  by_cases hg:g∈keys c
  ·rw[if_pos hg];let#[F',hU']:=c5C nd R.Pu F hg hU cl;let#[a,b]:=ih' _ (v+1) F' hU';show#[λV e=>?_,λks e=>?_]
   ·let:=a V e
    grind
   ·let#[i,V,p,hi,c6t]:=b ks e;show#[i+1,V,p,#[],cW,e3,#[]]
    ·rw[a7i,hc,if_pos hg];show e1
    ·grind
  ·rw[if_neg hg];show#[(λV e=>by cases e),λks e=>?_]
   cases e;let hh':decide (h∈keys c)=true:=Hu R.Pu.Mt;let hg':decide (g∈keys c)=false:=Hw hg;show#[(0),U,λz=>decide uW,#[],1,by simpa using F,#[R.closed,hh',hg',1],?_];let:=F.cut R.closed hh' hg'
   simp_all [Cn,aB,Hl]
theorem Oj (L:List (T ν))(x:ν):Option (T ν):=L.find? λt=>decide nN
theorem dm (L:List (T ν))(g:ν):Nat->ν->List (T ν)
 | 0,_=>[]
 | n+1,x=>if x=g then [] else match Oj L x with
  | none=>[]
  | some t=>t::e6d n t.2.2.1
def c4q {L:List (T ν)}{x:ν}{t:T ν}(h:Oj L x=!t):t∈L/\t.2.1=x:=#[Iw h,by simpa using Jj h]
def b2E (c7a){U:Int->Bool}(c7u){h g:ν}{v:Int}(c8u)(hv:0<v){N:Nat}(hN:∀ z,rk z<N):∀ (n:Nat)(x:ν)(ws:List (T ν)),e6c x->N<=n+rk x->Qo ģ h (ws++dm ģ g n x) g
 | 0,x,ws,W,hn=>absurd (hN x) #[]
 | n+1,x,ws,W,hn=>by
  rw[dm];by_cases hx:x=g
  ·simp_all
  ·rw[if_neg hx]
   cases ho:Oj ģ x with
   | none=>
    let#[t,ht,hU,e]:=F.Yz hr hv hx W;show absurd (Hu e) (Jh.mp ho t<|HN.mpr #[ht,hU])
   | some t=>
    let#[yi]:=c4q ho;subst h2;let:=hr t (HN.mp h1).1;let:=b2E hr F hv hN n t.2.2.1 Gj (.snoc W h1) #[]
    simp_all
theorem gX (h g:ν)(N:Nat):Nat->List (T ν)->Θ
 | 0,_=>[]
 | m+1,L=>aB W1::e3j m (L.filter λt=>not (decide (t.1∈aB W1)))
def a47 (c7a)(nd)(c7u){h g:ν}(hN:∀ z,rk z<N):∀ (m:Nat)(U:Int->Bool),e3c U h g (m:Int)->
  ∃ Ng:List (List (T ν)),e3j m ģ=Ng.map aB/\Ng.length=m/\(∀ ws∈Ng,e6c g)/\(Ng.map aB).flatten.Nodup
 | 0,U,F=>#[[],2,(λws hw=>nomatch hw),Jt]
 | m+1,U,F=>by
  let W:=b2E hr F #[] hN N h [] (.nil h) #[];rw[Ji]at W;rw[gX];generalize dm ģ g N h=ws at W;let up:=W.up (rk:=rk) λe8S=>hr t (HN.mp ht).1;let hn:=PGs nd (λe8S=>(HN.mp<|W.sub t ht).1) up.2.2;let F':=F.without nd W hn;rw[show ((m+1:Nat):Int) - 1=(m:Int) by lia]at F';let#[Ng,e,hl,hw,Zw]:=a47 nd hr hN m _ F';let ef:(ts.filter λt=>U t.1).filter (λt=>not (decide (t.1∈aB ws)))=ts.filter λt=>e7K dL t.1:=by rw[List.filter_filter];ext d4C
  rw[ef,e];let a4B:∀ vs∈Ng,Qo ģ h vs g/\∀ k∈aB vs,¬ k∈aB ws:=λvs hv=>by
   let V:=hw vs hv;let:∀ {x y:ν}{vs:List (T ν)},Qo (ts.filter λt=>e7K dL t.1) x vs y->Qo ģ x vs y:=by
    intro x y vs V
    induction V with
    | nil=>show .nil _
    | snoc V ht ih=>
     show .snoc ih ?_
     grind
   show#[this V,λe7e z=>?_];let#[uP]:=Ht.mp hk;let#[a,b]:=HN.mp<|V.sub t ht;unfold Wy.without at b;rw[Hu z]at b;simp at b
  show#[ws::Ng,1,by rw[I0,hl],λvs hv=>?_,?_]
  ·grind
  ·rw[HL,KY]
   grind
universe L2.Wy
namespace K72
open PySem L2 L2.Wy
open PyProof.Rows (boot_all boot_bool boot_dict boot_int boot_list boot_sorted boot_str boot_tuple)
abbrev cg (U:Ξ):D:=Nt (U.map λk=>c1y)
def fZ:(cD (U.map λk=>ű) fK).isSome=O9 U k:=by let:=lU (l:=U) (f:=λz=>z) (g:=λ_=>D.bl true) (y:=k);rwa [List.map_id']at this
theorem oD:Option Str->D
 | none=>.non
 | some x=>.str x
theorem aP (c7x):Option Ξ->List Mv
 | none=>ts
 | some ks=>ts.filter λt=>not (decide (t.1∈ks))
theorem jb:Option (Int×Str)->D
 | none=>.non
 | some s=>.tup [.int s.1,.str s.2]
abbrev fF (c:Cm Str):D:=Nt (c.map λq=>(.inr q.1,jb q.2))
def fc:(cD c2w (.inr y)).isSome=decide (y∈keys c):=zm
section
variable {c:Cl}
inductive a1I (c:Cl):Ä
 |mk {S:NS}{fo:Λ}:S.LK.length<=1000->a1I c [aK c S,Th fo] (bS DG)
def b9b [Bx:Bd](LP):Tk 2 "standing_ties" (top 68) c2x (d9m a1I):=by
 show NA [] ?_ λe0b=>(qC (qI E7
  (qr<|e3X LP hr.m)
  q0)
 (qr (e0H (d9y "tie" "fallen") lE
  ĕ
  b2n
  Ő)))
 rintro _ _ @⟨S,fo,hl⟩
 cases fo with
 | none=>show .rt (e7I #[a5E,1])
 | some ks=>show .nx AJ #[bB (λt=>not (decide _)) rH hl λt _=>b5s,1]
inductive Pa:Ä
 |mk {t:Mv}{x:Str}{U:Ξ}:Pa [bY t,.str x,cg U] (oD (Qq t x Ao))
def b2K [Bx:Bd]:Tk 1 "step_over" (top 70) b8R (Pr Pa):=by
 show NA [] ?_ λe0b=>(qC (qI (e5c Ŧ<|Đ 2)
  b2A
  q0)
 b2A)
 rintro _ _ @⟨t,x,U⟩;let r1:=f0l (ra:=e27 Zn<|rC (.int 1)) (rb:=rV 1) m4 rfl;let r2:=f0l (ra:=e27 Zn<|rC (.int 2)) (rb:=rV 1) m4 rfl;unfold Qq
 cases hu:O9 U t.1 with
 | true=>
  show .rt (.t b1Q #[?_,1]);by_cases z:t.2.2.1=x
  ·rw[Hu z]at r2;ext d61;show .t r2 m4
  ·rw[Hw z]at r2;ext d77;show .f r2 rfl
 | false=>
  show .nx (.f b1Q rfl) #[?_,1];by_cases z:t.2.1=x
  ·rw[Hu z]at r1;ext d61;show .t r1 m4
  ·rw[Hw z]at r1;ext d77;show .f r1 rfl
inductive a9t:Ä
 |mk {ts:List Mv}{x:Str}{t:Mv}:Oj ts x=!t->a9t [bS ts,.str x] (bY t)
def b1s [Bx:Bd]:Tk 1 "tie_out_of" (top 74) ["ties","name"] (Pr a9t):=by
 show NA ["tie"] ?_ λe0b=>(qC (e6T AV (aM 2)
  (q1 (qI (e1b (MU hr (Đ 2) dI)<|Đ 1)
  BP
  q0)))
 GT)
 rintro _ _ @⟨ts,x,t,ht⟩;show ?_;show ig ts b3A (λt=>decide _) bY #[_,1] xp (λt ε _ J'=>?_) (λu h=>by rw[Option.some.inj<|ht.symm.trans h]) λh=>nomatch ht.symm.trans h
 ext d32;let r1:=eq_str (ε:=[some<|bS ts,some<|.str x,some<|bY t]) (ra:=e27 kz<|rC (.int 1)) (rb:=rV 1) m4 rfl;ext d69;by_cases z:t.2.1=x
 ·rw[Hu z]at r1 ⊢;show .t r1 #[2]
 ·rw[Hw z]at r1 ⊢;show#[_,.f r1 rfl,_,1]
inductive c4J:Ä
 |mk {ts:List Mv}{c:Cm Str}:ts.length<=1000->c4J [bS ts,fF c] (rw (Cn ts c))
def b3P [Bx:Bd]:Tk 1 "ties_between" (top 73) ["ties","came"] (Pr c4J):=by
 show NA [] ?_ λe0b=>(qr (RU 4 rfl (cS 4 [1] [Aa,"came"]) lG
  Į
  (λe0m=>bU<|PW.pt (rY (e5c (Đ 1)<|Đ 4)<|dc (e3W (Đ 2)<|Đ 4)))
  Ő))
 rintro _ _ @⟨ts,cm,hl⟩;show#[bB _ xp hl λt _=>#[Fa,?_,λ_=>rfl],TY _ _];change Dy _ _ _ (decide _&&not (decide _))
 cases z:decide (t.2.1∈keys cm) with
 | true=>show .t b3B #[2,e5w (by rw[fc];rfl)]
 | false=>show .f b3B
universe e
section
variable {c:Cl}
def ne_str (d0G):e7F (.bl (decide (x≠y))):=e7G (e5a rfl<|e2M (by rw[if_pos rfl,<- decide_not];show decide_eq_decide.mpr ⟨λh z=>h<|V.str.inj z,λh z=>h<|f2f z⟩))
def b3b {ws:List Mv}(A:e9Y y)(B:e9Y z):y=z:=by
 cases A with
 | nil=>exact (by generalize hw:([])=ws at B;cases B with|nil=>rfl|snoc _ _=>show absurd hw.symm<|by simp)
 | snoc A1 h1=>
  generalize hw:_++[_]=ws at B
  cases B with
  | nil=>simp_all
  | snoc B1 h2=>simp_all
inductive R4:Ä
 |mk {L:List Mv}{h g:Str}{N:Nat}:Qo L h W1 g->(dm L g N h).length<=1000->R4 [bS L,.str h,.str g] (rw (aB W1))
def b0e [Bx:Bd](Pe:MR 1 "tie_out_of" ["ties","name"] (Pr a9t)):Tk 2 "one_way" (top 75) b5S (Pr R4):=by
 show NA ["way","name","tie"] ?_ λe0b=>(qC (qo 3 ND<|cO LS)
 (qC (qs 4 ND<|Đ 1)
 (qC (qW HB (e1c (Đ 4)<|Đ 2)
  (qC (qs 5 ND<|dF Pe hr.m rfl (da (Đ 0)<|e1M LS))
 (qC (qA (aw<|e0s (pv 3) (a8 (MU hr (Đ 5) dI) K')) λe1j=>h)
 (d9K 4 (MU hr (Đ 5) dI)))))
 ng)))
 rintro _ _ @⟨L,h,g,N,W,hl⟩;show .nx #[pQ] um;show fJ (b:=(N,[],h)) (λb ε=>Qo L h b.2.1 b.2.2/\b.2.1++e6d b.1 b.2.2=e6d N h/\∃ o,ε=[.fz<|bS L,.fz<|.str h,.fz<|.str g,.ow<|rw (aB b.2.1),.fz<|.str b.2.2,o]) (·.1) ⟨.nil h,rfl,_,rfl⟩ λe9w=>?_;let#[n,ws,x]:=J';let#[A,e,o,he]:=Yl;subst he;let rd:=ne_str (ε:=[some<|bS L,some<|.str h,some<|.str g,some<|rw dL,some<|.str x,o.a]) (ra:=rV 4) (rb:=rV 2) rfl rfl;by_cases z:x=g
 ·rw[Hw λy=>y z]at rd;let e0:e6d n x=[]:=by cases n with
   | zero=>rfl
   | succ n=>unfold dm;ext d61
  rw[e0,HV]at e;show .inl #[rd,1,by rw[e]]
 ·rw[Hu z]at rd;let nn:e6d n x≠[]:=λy=>z (by rw[y,HV]at e;rw[<- e]at W;show b3b A W)
  cases n with
  | zero=>show absurd rfl nn
  | succ n=>
   cases ho:Oj L x with
   | none=>show absurd (by unfold dm;rw[if_neg z,ho]) nn
   | some t=>
    rw[show dm L g (n+1) x=t::e6d n t.2.2.1 by conv=>lhs;unfold dm;rw[if_neg z,ho]]at e;let e2:Gj++e6d n t.2.2.1=e6d N h:=by rw[Ik];show e
    let tl:=e0g e2;rw[HE,HE,IN]at tl;let tx:=HR<|Jj (p:=λt:Mv=>decide nN) ho;show .inr #[rd,(n,ws++[t],t.2.2.1),_,.nx #[#[3],#[ho]]<|.nx #[1,by unfold aB;simp;lia,.z m4] m4,#[.snoc (tx▸A)<|Iw ho,e2,.fz<|bY t,?_],J3 _];simp[aB,List.map,Hx]
def b1J (d0e):tG (U.map λk=>ű) fK=(U.filter λj=>not (decide (j=k))).map λk=>ű:=by
 unfold tG;rw[List.filter_map];congr 1;show LI λj _=>by
  simp_all
def b6x (d0e):(Va U k).length<=U.length+1:=by
 unfold Va;split
 ·show Nat.le_succ_of_le GD
 ·simp
inductive R3 (c:Cm Str):Nat->Option (Int×Str)->Prop
 |done {n:Nat}:R3 c n none
 |step {n:Nat}{k:Int}{x:Str}{s:Option (Int×Str)}:c.find? (λq=>decide (q.1=x))=!(x,s)->R3 c n s->R3 c (n+1) !(k,x)
def AY {c:Cm Str}(h:c.find? (λq=>decide (q.1=x))=!(x,s)):cD c2w mT=!jb s:=by simp_all [fY]
inductive b8S:Ä
 |mk {U:Ξ}{c:Cm Str}{g:Str}{n:Nat}{s:Option (Int×Str)}:c.find? (λq=>decide (q.1=g))=!(g,s)->R3 c n s->U.Nodup->U.length+n<=1000->b8S [cg U,fF c,.str g] (cg (gZ c n U s))
def b0K [Bx:Bd](T:GZ Bx.mg):Tk 1 "used_with" (top 72) b5T (Pr b8S):=by
 show NA ["told","step"] ?_ λe0b=>(qC (qo 3 ND<|a93 rfl rfl T.O5 ť)
 (qC (qs 4 ND<|e28 (Đ 2))
 (qC (qW HB b9A
  (qC (qI (e5c m8<|Đ 3)
  (q1<|a3J (aw<|wC mm m8 #[4]))
  (q1<|qP (e9V (pv 3) (MU hr (Đ 4) dI) Sz rfl) (λe1j=>h)))
 (d9K 4 (MU hr (Đ 1)<|MU hr (Đ 4) dI))))
 ng)))
 rintro _ _ @⟨U,cm,g,n,s,hg,ss,nd,hl⟩;let em:Nt (iF []<|U.map λk=>ű)=cg U:=by rw[c36 (by rw[Ji];show uR<|by rwa [List.map_id'])];rfl
 let dk:=cDk.mk (ð:=U.map λk=>ű);rw[em]at dk;show .nx #[#[#[2],dk]] (.nx #[2,.k (AY hg) kS] ?_);show fJ (b:=(n,U,s)) (λb ε=>R3 cm b.1 b.2.2/\b.2.1.length+b.1<=1000/\gZ cm b.1 b.2.1 b.2.2=gZ cm n U s/\ε=[.fz<|cg U,.fz<|fF cm,.fz<|.str g,.ow<|cg b.2.1,.fz<|jb b.2.2]) (·.1) ⟨ss,hl,rfl,rfl⟩ λe9w=>?_;let#[n',V,s']:=J';let#[ss,hl,e,he]:=Yl;dsimp only at ss hl e he;subst he
 cases ss with
 | done=>
  let:gZ cm n' V none=V:=by cases n' <;> rfl
  show .inl #[wj,1,by rw[<- e,this]]
 | @step n1 k x s1 h1 s2=>
  let e1:cG cm x=s1:=by unfold cG;rw[h1];rfl
  let e2:gZ cm n1 (Va V k) s1=gZ cm n U s:=by rw[<- e,<- e1];rfl
  let tl:=b6x V k;show .inr #[wj,(n1,Va V k,s1),_,.nx (ε1:=[.fz<|cg U,.fz<|fF cm,.fz<|.str g,.ow<|cg (Va V k),.fz<|jb !(k,x)]) ?_ #[#[1,m4,.k (AY h1) kS]],#[s2,by change (Va V k).length+n1<=1000;lia,e2,1],J3 _];unfold Va;by_cases z:k∈V
  ·ext d61;let#[v,hv]:=IS.mp (fZ |>.trans (Hu z));let:=X1.mk (i:=3) (rk:=e27 wc<|rC FZ) (ε:=[.fz<|cg U,.fz<|fF cm,.fz<|.str g,.ow<|cg V,.fz<|jb !(k,x)]) rfl m4 kI hv;rw[b1J]at this;show .t #[m4,1,e9p (by rw[fZ,O9,Hu z];rfl)] this
  ·ext d77;let:=a0A.mk (i:=3) (rk:=e27 wc<|rC FZ) (re:=rC<|.bl true) (ε:=[.fz<|cg U,.fz<|fF cm,.fz<|.str g,.ow<|cg V,.fz<|jb (some (k,x))]) rfl (by rw[Hl];lia) (.z rfl) ⟨rfl,rfl,.t rfl⟩ kI;rw[dj λy=>z<|by simpa using y]at this;rw[show cg (V++[k])=Nt (V.map (λk=>ű)++[c1y]) from congrArg Nt Hx];show .f #[m4,1,e9p (by rw[fZ,O9,Hw z];rfl)] this
universe e
abbrev i5 (nm:η)(c7x):D:=Nt (nm.map λx=>(.inr x,bS CU))
theorem xh (U)(x)(s:Cm Str×η)(t:Mv):Cm Str×η:=match Qq t x U with
 | some z=>if z∈keys s.1 then s else b4i
 | none=>s
def b0g (U)(x):∀ (r:List Mv)(s:Cm Str×η),e2l r s=r.foldl (xh U x) s
 | [],_=>rfl
 | t::r,s=>by
  rw[JR,<- b0g U x r];unfold xh;rw[look]
  cases Qq t x U with
  | none=>rfl
  | some z=>
   by_cases c:z∈keys s.1
   ·simp only[if_pos c]
   ·simp only[if_neg c]
inductive PU:Ä
 |n {d e:D}:PU [.non,d,e] (fF [])
 |s {h:Str}{nm:η}{ts:List Mv}{U:Ξ}{N:Nat}:Ends ts nm->h∈nm->nm.Nodup->nm.length<=N->nm.length<=900->PU [.str h,i5 nm ts,cg U] (fF (fm ts Ao N !h))
def b6E [Bx:Bd](c8t)(Q0:MR 1 "step_over" b8R (Pr Pa)):Tk 2 "reached_from" (top 71) b5U (Pr PU):=by
 show NA ["came","waiting","name","tie","nearby"] ?_ λe0b=>(qC (qI (dT b1O b8U (Đ 0) Tx)
  (qr vB.p)
  q0)
 (qC (qo 3 ND<|dD1 (Đ 0) Tx)
 (qC (qo 4 ND<|cO ť)
 (qC (qW HB (e9g zJ dI)
  (qC (a3I<|pS 5 ND (d9a zA aJ))
 (q1 (e0A (av<|e28 (Đ 5)) AE (aM 6)
  (qC (qs 7 ND<|dF Q0 hr.m rfl (da (Đ 6)<|e1t Ť))
 (q1 (qI (d9f rY (e9f (Đ 7) Tx) (dc<|e3W (Đ 7) (Đ 3)))
  (qC (qP (e4o mm (Đ 7) (qm<|da (MU hr (Đ 6) dI) (e1t LS)) rfl) λe1j=>h)
 (q1<|qA (aw<|e0s (pv 4) (a8 (Đ 7) K')) (λe1j=>h)))
  q0)))))))
 ng))))
 intro _ _ r
 cases r with
 | n=>show .rt (e7I #[2])
 | @s h nm ts U N E hh nd hN hz=>
  show .nx AJ (.nx #[#[1,kS,2]] (.nx #[wF] ?_));show fJ (β:=Nat×Cm Str×η) (b:=(N,sX,[h])) (λb ε=>(∃ d,Bf ts Ao h b.2.1 d b.2.2/\nm.length<=b.1+d.length)/\bfs ts Ao b.1 b.2=f1u N !h/\∃ o5 o6 o7,ε=[.fz<|.str h,.fz<|i5 nm ts,.fz<|cg U,.ow<|fF b.2.1,.ow<|aQ b.2.2,o5,o6,o7]) (·.1) ⟨⟨[],Bf.start ..,by simpa using hN⟩,rfl,_,_,_,rfl⟩ λe9w=>?_;let#[n,cm,wt]:=J';let#[#[d,B,hn],eN,AI,he]:=Yl;dsimp only at B hn eN he;subst he;let bl:=B.len E hh;let rd:=gt_int (ε:=[some<|.str h,some<|i5 nm ts,some<|cg U,some<|fF cm,some<|aQ wt,o5.a,o6.a,o7.a]) (ra:=rF Oc<|rA wc SO) (rb:=rC<|.int 0) yW rfl
  cases wt with
  | nil=>
   let:f1s Ao n (cm,[])=cm:=by cases n <;> rfl
   show .inl #[rd,1,by rw[<- eN,this]]
  | cons x wt=>
   rw[Hu<|by simp]at rd;rw[I0]at bl;obtain⟨n,rfl⟩:∃ n',n=n'+1:=#[n - 1,by omega (config:={})]
   let xn:x∈nm:=e7L hh x (by rw[B.ks];simp);let st:=B.step;let eN:f1s Ao n (look Ao x CU (cm,wt))=f1u N !h:=eN;rw[b0g]at st eN;show .inr #[rd,(n,(gV ts x).foldl (xh Ao x) (cm,wt)),qd (ε1:=[.fz<|.str h,.fz<|i5 nm ts,.fz<|cg U,.ow<|fF cm,.ow<|aQ wt,.fz<|.str x,o6,o7]) ⟨rfl⟩ ?_];show a5y (u:=bY) (gV ts x) (λs ε=>(keys s.1).Nodup/\(∀ y∈keys s.1,y∈nm)/\s.2.length<=s.1.length/\∃ o6 o7,ε=[.fz<|.str h,.fz<|i5 nm ts,.fz<|cg U,.ow<|fF s.1,.ow<|aQ s.2,.fz<|.str x,o6,o7]) (xh (O9 U) x) (b:=(cm,wt)) ⟨B.Pu.nd,e7L hh,?_,_,_,rfl⟩ ⟨⟨rfl,rfl,.k (eL (a3Y (f:=λx=>x)<|by rwa [List.map_id'])<|HA xn) kS⟩,.l .lst⟩ (λs t ε ht J'=>?_) λε' J'=>by let#[Lq,c5t]:=J';show#[#[#[d++[x],st,by simp;omega (config:={})],eN,Lq,he],J3 _]
   ·let:=e0g B.ks;unfold keys at this;simp at this;change wt.length<=cm.length;omega (config:={})
   ·let#[xu,c5t]:=J';subst he;let kl:=sub_len h1 h2;let kl:s.1.length<=nm.length:=by unfold keys at kl;rwa [Hl]at kl
    let tm:=(HN.mp ht).1;let so:=Pa.mk (t:=t) (x:=x) (U:=U);ext d69;unfold xh
    cases hs:e7J Ao with
    | none=>
     rw[hs]at so;show#[_,.nx Ee<|.f (.f wj) rfl,h1,h2,h3,.fz<|bY t,.fz .non,1]
    | some z=>
     rw[hs]at so;by_cases cz:z∈keys s.1
     ·simp only[if_pos cz];show#[_,.nx Ee<|.f (e7I #[2,e5w (by rw[fc,Hu cz];rfl)]) rfl,h1,h2,h3,.fz<|bY t,.fz<|.str z,1]
     ·simp only[if_neg cz];let zn:z∈nm:=(A3 hs).elim (λe=>e▸(E t tm).1) λe=>e▸(E t tm).2;show#[_,.nx Ee<|.t (e7I #[2,e5w (by rw[fc,Hw cz];rfl)]) (.nx #[1,by rw[Hl];omega (config:={}),.z #[#[m4,2],B2],1,kS] #[1,by rw[Hl];omega (config:={}),.z rfl]),?_,?_,?_,.fz<|bY t,.fz<|.str z,?_]
      ·rw[bp];show HX.mpr #[h1,by simp[keys],λe6Z=>by rw[HH.mp hb];show λ(e:a=z)=>cz<|e▸ha]
      ·rw[bp];show λe3D=>(HW.mp hy).elim (h2 y) λe=>by rw[HH.mp e];show zn
      ·simpa using h3
      ·rw[dj λy=>cz (by rw[Hv]at y;let#[q,a,b]:=Ht.mp y;show Ht.mpr #[q,a,Sum.inr.inj b]),show fF (s.1++[(z,!(t.1,x))])=Nt (s.1.map (λq=>b0j)++[(.inr z,jb<|some (t.1,x))]) from congrArg Nt Hx,show aQ (s.2++[z])=.lst (s.2.map .str++[.str z]) from congrArg D.lst Hx];rfl
structure a2L (c7x)(N:Nat):Prop where
 nd:EV ts
 rk:∃ rk:Str->Nat,(∀ t∈ts,rk t.2.1<rk t.2.2.1)/\∀ z,rk z<N
 MW:N<=1000
 many:ts.length<=1000
section
variable {c:Cl}
inductive b0m:Ä
 |mk {ts:List Mv}{U:Int->Bool}{h g:Str}{m N:Nat}:a2L ts N->Wy.Flow ts U h g m->m<=1000->b0m [bS (ts.filter λt=>U t.1),.str h,.str g,.int m] (tb (gX h g N m ģ))
def c6n [Bx:Bd](c8t)(RA:MR 2 "one_way" b5S (Pr R4)):Tk 3 "parted_ways" (top 76) b3f (Pr b0m):=by
 show NA ["told","left","way"] ?_ λe0b=>(qC c2y
 (qC (qs 5 ND<|Đ 0)
 (qC (qW HB (e3V zJ<|Đ 3)
  (qC (qs 6 ND<|dF RA hr.m rfl (da (Đ 5)<|e0z Ť))
 (qC (e29 (e6e (cS 1 [6] ["tie","way"]) F9
  ĕ
  b2n
  Ő) rfl)
 (q1<|qA SZ (λe1j=>h)))))
 (qr<|Đ 4))))
 rintro _ _ @⟨ts,U,h,g,m,N,PT,F0,hm⟩;let#[rk,Ys,Zt]:=PT.rk;show .nx #[pQ] um;show fJ (b:=(m,U,[])) (λb ε=>Wy.Flow ts b.2.1 h g b.1/\b.2.2.length+b.1=m/\b.2.2++e3j b.1 (ts.filter λt=>b.2.1 t.1)=e3j m ģ/\∃ o,ε=[.fz<|bS (ts.filter λt=>U t.1),.fz<|.str h,.fz<|.str g,.fz<|.int m,.ow<|tb b.2.2,.fz<|bS (ts.filter λt=>b.2.1 t.1),o]) (·.1) #[F0,by simp,vb] λe9w=>?_;let#[n,Ui,dn]:=J';let#[F2,hs,eP,o,he]:=Yl;dsimp only at F2 hs eP he;subst he;let rd:=lt_int (ε:=[some<|bS (ts.filter λt=>U t.1),some<|.str h,some<|.str g,some<|.int m,some<|tb dn,some<|bS (ts.filter λt=>Ui t.1),o.a]) (ra:=rF Oc<|rA wc SO) (rb:=rV 3) yW rfl
 cases n with
 | zero=>
  rw[Hw<|by omega]at rd;show .inl #[rd,1,by rw[<- eP];change _=Fl.rt (tb dn);rw[show gX h g N 0 _=[] from rfl,HV]]
 | succ n=>
  rw[Hu<|by omega]at rd;let W:=b2E Ys F2 #[0] Zt N h [] (.nil h) #[0];rw[Ji]at W;let up:=W.up λe8S=>Ys t (HN.mp ht).1;let hgN:=Zt g;let MW:=PT.MW;let hz:(e4q h).length<=1000:=#[0]
  let F3:=F2.without PT.nd W<|PGs PT.nd (λe8S=>(HN.mp<|W.sub t ht).1) up.2.2;rw[show ((n+1:Nat):Int) - 1=(n:Int) by omega]at F3;let ef:(ts.filter λt=>Ui t.1).filter (λt=>not (decide (t.1∈aB NE)))=ts.filter λt=>Wy.without Ui (aB<|e4q h) t.1:=by rw[List.filter_filter];ext d4C
  let eP:dn++aB NE::e3j n ((ts.filter λt=>Ui t.1).filter λt=>not (decide (t.1∈aB NE)))=e3j m ģ:=eP;let c1:=R4.mk W hz;generalize aB NE=ks at c1 F3 eP ef;rw[ef]at eP;show .inr #[rd,(n,Wy.without Ui ks,dn++[ks]),_,.nx wu<|.nx ⟨bB (λt=>not (decide (t.1∈ks))) xp (HU GD PT.many) λt _=>b5s⟩ #[1,by rw[Hl];omega,.z rfl],#[F3,by simp;omega,by rw[Ik];show eP,.fz<|rw ks,?_],J3 _];dsimp only;rw[ef,show tb (dn++[ks])=.lst (dn.map rw++[rw ks]) from congrArg D.lst Hx];rfl
def R3.mono (h:R3 cm n s):∀ {m:Nat},n<=m->R3 cm m s:=by
 induction h with
 | done=>show λ_=>.done
 | step h1 _ ih=>show λ{m} hm=>by obtain⟨k,rfl⟩:∃ k,m=k+1:=#[m - 1,#[0]];show .step h1 (ih<|by omega)
def f2E (C:f1t cm):∀ post:Cm Str,(keys (cm++post)).Nodup->∀ y∈keys cm,∃ s,(cm++post).find? jh=!(y,s)/\R3 (cm++post) cm.length s:=by
 induction C with
 | one=>show λpost nd e3D=>by rw[HH.mp hy];show#[none,(lq nd rfl (pre:=[])).1,.done]
 | @snoc cs x y t C hx ht hs hy ih=>
  intro post nd z hz;rw[Ik]at nd ⊢;let ih:=ih _ nd;rw[bp]at hz;rw[HE];ext d8q
  ·let#[s,yi]:=ih z hz;show#[s,h1,h2.mono<|e9h _]
  ·rw[HH.mp hz];let#[s,yi]:=ih x hx;show#[!_,(lq nd rfl).1,.step h1 h2]
def b2g (c:Cm Str):∀ (n:Nat)(U:Ξ)(s:Option (Int×Str)),(e7M U s).length<=U.length+n
 | 0,U,_=>Hz _
 | n+1,U,none=>e9h _
 | n+1,U,some s=>by
  let h1:=b2g c n (Va U s.1)<|cG c s.2;let h2:=b6x U s.1;rw[gZ]
  lia
structure V1 (S:NS)(fo:Λ)(N:Nat):Prop where
 parts:a2L DG N
 ends:Ends DG S.names
 nn:S.names.Nodup
 hN:S.names.length<=N
 tl:S.LK.length<=1000
 pl:S.names.length<=900
theorem j9:Sum Ξ Θ->D
 | .inl ks=>.tup [.str "cut",rw ks]
 | .inr Ng=>.tup [.str "ways",tb Ng]
theorem bb (c7x)(ho:Option Str)(g:Str)(N m:Nat):Sum Ξ Θ:=match ho with
 | none=>.inl []
 | some h=>match dG ts (!h) g N m [] with
  | .inl ks=>.inl ks
  | .inr U=>.inr (e3j m (ts.filter λt=>O9 U t.1))
inductive c4G:Ä
 |mk {nm:η}{ts:List Mv}:nm.Nodup->nm.length<=900->ts.length<=1000->Ends ts nm->(∀ t∈ts,t.2.1≠t.2.2.1)->c4G [aQ nm,bS ts] (i5 nm ts)
inductive Pn (c:Cl):Ä
 |mk {S:NS}{g:Str}{m N:Nat}{fo:Λ}:V1 S fo N->g∈S.Mi->1<=m->m<=1000->m * N+N<=1000->Pn c [aK c S,.str g,.int m,Th fo] (j9 (bb DG ħ g N m))
universe e
structure FN (mg:Ω):Prop where
 Ml:mg "range"=none
section
variable {c:Cl}{f:Addr}{fd:È}
def a4u (c7x):Cn ts []=[]:=by unfold Cn tK aB;rw[Jx.mpr λt _=>by unfold zF;simp[keys]];rfl
def b3V [Bx:Bd](F:Nc Bx.K "ways" "ways" (top 77) f fd)(c8t)(TR:Bx.mg "range"=none)(LJ)(Mz)(Nq:N6 1 c.MJ "names" Þ (d9m c3L))
  (Ni:MR 2 "standing_ties" c2x (d9m a1I)) (Nw:MR 1 "ties_by_post" pX (Pr c4G)) (Ny:MR 2 "reached_from" b5U (Pr PU))
  (OD:MR 1 "used_with" b5T (Pr b8S)) (Nx:MR 1 "ties_between" ["ties","came"] (Pr c4J)) (NW:MR 3 "parted_ways" b3f (Pr b0m)):SR NP 4 f fd â (d9m Pn):=by
 let T:FN Bx.mg:=#[TR]
 show Nc.dw F ["home","ties","touching","used","turn","came"] ?_ λf2y hr ND=>(qC (qI (e3W (Đ 1)<|e3X LJ hr.m)
  Lz
  q0)
 (qC (d9M 4 Mz)
 (qC (qs 5 ND<|dF Ni hr.m rfl b6h)
 (qC (qs 6 ND<|dF Nw hr.m rfl (da (e3X Nq hr.m)<|e1t LS))
 (qC (qs 7 ND vB.p)
 (qC (e1r ZZ yV (aM 8)
  (qC (qs 9 ND<|dF Ny hr.m rfl (da (Đ 4)<|e3a GU))
 (qC (qI (e3W (Đ 1)<|Đ 9)
  (qr<|qm (da gr<|da (dF Nx hr.m rfl<|e1t (f1r LS)) LS))
  q0)
 (d9K 7 (dF OD hr.m rfl<|da (Đ 7) (da (Đ 9)<|e0z LS))))))
 (qr (qm (da gr (da (dF NW hr.m rfl (da (e0H (cS 1 [7] ["tie","used"]) F9
  ĕ
  (λe0m=>bU<|e5c Ŧ (Đ 1))
  Ő)<|e1M (da (Đ 1)<|e2e LS))) LS))))))))))
 rintro _ _ @⟨S,g,m,N,fo,O,hg,Vo,hm,hz⟩;let pl:S.LO.length<=900:=by let:=O.pl;unfold NS.names at this;rwa [Hl]at this
 let UJ:=O.parts.many;let#[rk,Ys,Zt]:=O.parts.rk;let inl:=e4p (i:=g) (ks:=S.Mi);rw[Hu hg]at inl;let En:=O.ends;let Pt:=O.parts;show#[1,.inl<|.nx (d93 #[1,b8M,inl]) (.nx b8J<|.nx ⟨⟨rfl,rfl,rfl⟩,⟨O.tl⟩⟩ (.nx ⟨⟨⟨rfl,rfl,by decide,⟨⟩⟩,rfl,rfl⟩,⟨O.nn,O.pl,UJ,En,λe8S z=>by let:=Ys t ht;rw[z]at this;lia⟩⟩ um))];generalize aP S.LK fo=ts at UJ Ys En Pt;unfold bb
 cases hh:S.Mt with
 | none=>
  show b51 oW (u:=λ(j:Nat)=>.int (j:Int)) (λi ε=>i=0/\∃ o8 o9,ε=[.fz<|aK c S,.fz<|.str g,.fz<|.int m,.fz<|Th fo,.fz .non,.fz<|bS ts,.fz<|i5 S.names ts,.fz<|cg [],o8,o9]) ⟨rfl,_,_,rfl⟩ ⟨m,hm,⟨rfl,rfl⟩,(bI _).symm⟩ (λe5T=>?_) λe3m=>by let#[h,_]:=J';rw[ID]at h;lia
  let#[hi,Az]:=J';subst he;show#[_,1,.inl #[_,.nx #[#[4],.n]<|.rt (.t #[2,e5w rfl] b1E),?_]];rw[a4u];rfl
 | some q=>
  let hq:q.1∈S.names:=HA<|Iw hh;show b51 (List.range m) (u:=λ(j:Nat)=>.int (j:Int)) (λi ε=>∃ Ui o8 o9,ε=[.fz<|aK c S,.fz<|.str g,.fz<|.int m,.fz<|Th fo,.fz<|.str q.1,.fz<|bS ts,.fz<|i5 S.names ts,.fz<|cg Ui,o8,o9]/\Ui.Nodup/\Ui.length<=i * N/\Wy.Flow ts (O9 Ui) q.1 g i/\dG ts (some q.1) g N m []=dG ts (some q.1) g N (m - i) Ui) ⟨[],_,_,rfl,Jt,Iv _,Flow.none ts q.1 g,rfl⟩ ⟨m,hm,⟨rfl,rfl⟩,(bI _).symm⟩ (λe5T=>?_) λe3m=>?_
  ·ext d6b;let#[1,hi]:=iu hx;rw[show m - i=m - (i+1)+1 by lia,a7i]at eW;let R:=b8P (ts:=ts) (U:=O9 Ui) En hq O.hN;let c1:=PU.s (U:=Ui) En hq O.nn O.hN O.pl;generalize fm ts (O9 Ui) N (!q.1)=cc at eW R c1;let ccl:cc.length<=N:=by
    let:=sub_len R.Pu.nd<|R.Pu.names En hq;let e:(keys cc).length=cc.length:=Hl _;let:=O.hN
    lia
   let i1:i * N+N<=m * N:=by rw[<- Nat.succ_mul];show Nat.mul_le_mul_right _ hi
   ext d69;by_cases hgc:g∈keys cc
   ·rw[if_pos hgc]at eW;let#[F',nd']:=c5C Pt.nd R.Pu Fi hgc nd ccl;let#[s,yi]:=f2E R.Pu [] (by rw[HV];show R.Pu.nd) g hgc;rw[HV]at h1 h2;let es:cG cc g=s:=by unfold cG;rw[h1];rfl
    let ul':=b2g cc N Ui s;rw[es]at F' nd' eW;show .inr #[_,.nx wu<|.nx (d93 #[2,e5w (by rw[fc,Hu hgc];rfl)]) #[#[4],#[h1,h2.mono ccl,nd,#[]]],gZ cc N Ui s,.fz<|.int i,.fz<|fF cc,1,nd',by rw[Nat.succ_mul];lia,by rw[show ((i+1:Nat):Int)=(i:Int)+1 by lia];show F',eW]
   ·rw[if_neg hgc]at eW;show .inl #[_,.nx wu<|.rt (.t #[2,e5w (by rw[fc,Hw hgc];rfl)] b1E),by change Fl.rt a5M=_;rw[eW];rfl]
  ·ext d6b;rw[ID,Nat.sub_self]at eW;rw[ID]at Fi;let eW:dG ts (!q.1) g N m []=.inr Ui:=eW;show#[#[#[1,#[#[bB (xs:=ts) (u:=bY) (h:=bY) (λt=>O9 Ui t.1) xp UJ λt _=>#[_,1,#[m4,1,e9p (by rw[fZ];rfl)],λ_=>rfl],4],#[Pt,Fi,hm]],1],B2],?_];change Fl.rt a5M=_;rw[eW];rfl
universe e
universe K72
namespace Mk
open Mx
def vd (hP)(h:p ∣ a * b):p ∣ a\/p ∣ b:=by
 ext d3p;by_cases c:p ∣ a
 ·show .inl c
 ·let h0:0<a % p:=by
   let:=IW a (b:=p) #[];let n:=λz=>c (IZ z)
   lia
  let#[k,hk]:=My.TB hP _ h0<|IJ _ #[];let#[j,hj]:=h;show .inr #[My.bk p (a % p) * j - My.bk p (a % p) * (a / p) * b - k * b,?_];let e:=JG a p;generalize My.bk p _=z at *
  generalize a % p=r at *
  generalize a / p=q at *
  grind
def b4I {q:α->Bool}:∀ {l:List α},l.Nodup->(∀ x∈l,∀ y∈l,q x=true->q y=true->x=y)->l.length<=(l.filter λx=>not (q x)).length+1
 | [],_,_=>by simp
 | a::l,nd,h=>by
  rw[Ii]at nd
  cases c:q a with
  | false=>
   rw[IK,c];let:=b4I nd.2 λe1h e3D=>h x (by simp[hx]) y uM
   simp_all
  | true=>
   let:l.filter (λx=>not (q x))=l:=KK.mpr λe1h=>by
    cases c2:q x with
    | false=>rfl
    | true=>show absurd (h a Ĕ x (by simp[hx]) c c2▸hx) nd.1
   rw[IK,c,this];simp
theorem O6 (p)(k:Int)(vs ss:Ξ):Bool:=(List.zipWith (λv s=>(k * v+s) % p) vs ss).any λx=>decide (x=0)
def a67 (hP):∀ (vs ss:Ξ)(X:À),X.Nodup->(∀ x∈X,(x:Int)<p)->vs.length<X.length->(∀ v∈vs,¬ p ∣ v)->∃ k∈X,f1v ss=false
 | [],_,x::X,_,_,_,_=>b6S
 | [],_,[],_,_,h,_=>by simp at h
 | _::_,[],x::X,_,_,_,_=>b6S
 | _::_,[],[],_,_,h,_=>by simp at h
 | v::vs,s::ss,X,nd,lt,h,nz=>by
  let one:X.length<=(X.filter λ(x:Nat)=>not (decide b7x)).length+1:=b4I nd λe1h e3D e2H=>by
   let h1:=IZ<|HR h1;let h2:=IZ<|HR h2;let h3:p ∣ ((x:Int) - y) * v:=by
    let:=Ka h1 h2;let e:(x:Int) * v+s - (y * v+s)=(x - y) * v:=by rw[Int.sub_mul];omega
    rwa [e]at this
   rcases vd hP h3 with h3|h3
   ·let a1:=lt x hx;let a2:=lt y hy;let#[j,hj]:=h3;let hj0:j=0:=by
     rcases Int.lt_trichotomy j 0 with z|z|z
     ·let:p * j<=p * (-1):=Kh #[0] #[0];omega
     ·show z
     ·let:p * 1<=p * j:=Kh #[0] #[0];omega
    subst hj0;omega
   ·show absurd h3 (nz v<|by simp)
  let#[k,hk,hb]:=a67 hP vs ss (X.filter λ(x:Nat)=>not (decide b7x)) (nd.sublist KJ) (λe1h=>lt x (HN.mp hx).1) (by simp only[I0]at h;omega) λu hu=>nz u (by simp[hu]);let#[hk1,hk2]:=HN.mp hk;show#[k,hk1,?_];unfold O6 at hb ⊢;rw[List.zipWith_cons_cons,Lg,hb];simpa using hk2
theorem ub (p)(vs ss:Ξ):Nat:=((List.range p.toNat).find? λ(k:Nat)=>not (f1v ss)).getD 0
def WU (hP)(hl:(vs.length:Int)<p)(nz:∀ v∈vs,¬ p ∣ v):O6 p (ub p vs ss) vs ss=false/\(∀ j:Nat,j<ub p vs ss->O6 p j vs ss=true)/\((ub p vs ss:Nat):Int)<p:=by
 let#[k,hk,hb]:=a67 hP vs ss (List.range p.toNat) List.nodup_range (λe1h=>by grind) ġ nz
 cases hf:(List.range p.toNat).find? λ(k:Nat)=>not (f1v ss) with
 | none=>
  simp_all
 | some u=>
  let e:ub p vs ss=u:=by unfold ub;rw[hf];rfl
  simp_all
theorem nj (a b:Int)(x q:Ξ):Ξ:=List.zipWith (λu v=>a * u - b * v) x q
def a4r (a b:Int):∀ (x q y:Ξ),x.length=q.length->dot tE y=a * dot x y - b * dot q y
 | [],[],y,_=>by simp[nj,dot]
 | [],_::_,y,h=>by simp at h
 | _::_,[],y,h=>by simp at h
 | u::x,v::q,[],_=>by simp[nj,dot]
 | u::x,v::q,w::y,h=>by
  let ih:=a4r a b x q y oO;change SB * w+dot tE y=a * (u * w+dot x y) - b * (v * w+dot q y)
  rw[ih]
  grind
def c0C (h:x.length=q.length):(nj a b x q).length=x.length:=by
 unfold nj
 simp_all
structure Ok (p:Int)(m:Nat)(P:Θ)(F:Nat->Ξ):Prop where
 len:P.length=m
 QE:∀ r∈P,r.length=m/\O3 p r
 fw:∀ j,j<m->(F j).length=m
 off:∀ i j,i<m->j<m->i≠j->p ∣ dot ś (F j)
 own:∀ i,i<m->¬ p ∣ dot ś (F i)
 sep:∀ x:Ξ,x.length=m->(∀ j,j<m->p ∣ dot x (F j))->∀ y:Ξ,y.length=m->p ∣ dot x y
def Ok.start {p:Int}(d2b)(m):Ok p m (ones m) (LL m) where
 len:=by simp[ones]
 QE:=λe3I=>by let#[i,_,1]:=Ht.mp hr;show#[Mb _ _,fu hp _ _]
 fw:=λj _=>Mb _ _
 off:=λf0C h=>by
  ext d4O
  grind [N3,Mb,b5i,Int.dvd_zero]
 own:=λi hi=>by
  ext d4O
  rw[e1,N3 _ _ _<|Mb _ _];let:=b5i m i i;unfold e at this;intro h;let:=Lh #[0] h;omega
 sep:=λe1h h e3D=>by
  rw[b8D _ _<|by omega];let:∀ n,n<=x.length->p ∣ fj (λj=>e x j * e y j) n:=by
   intro n
   induction n with
   | zero=>intro _;show Int.dvd_zero _
   | succ n ih=>
    intro hn;let h1:=h n #[0];rw[N4,N3 _ _ _ hx]at h1;show JW (ih<|by omega) (KP h1)
  show this _ nY
theorem P9 (d2s)(i):Ξ:=
 if i=w\/M9 p ś t=0 then P.getD i [] else List.zipWith (λa b=>(M9 p Ŝ t * a - M9 p ś t * b) % p) ś Ŝ
theorem moved (d2s):Θ:=(List.range P.length).map (P9 p P w t)
def a5k (p a b:Int):∀ (x q y:Ξ),p ∣ dot (List.zipWith (λu v=>SB % p) x q) y - dot tE y
 | [],_,y=>by simp[nj,dot]
 | _::_,[],y=>by simp[nj,dot]
 | u::x,v::q,[]=>by simp[nj,dot]
 | u::x,v::q,w::y=>by
  let#[k,hk]:=a5k p a b x q y;show#[k - SB / p * w,?_];change SB % p * w+dot _ y - (SB * w+dot tE y)=_;let e:=JG SB p;generalize SB % p=r at *
  generalize SB / p=d at *
  rw[<- e]
  grind
def Ok.at (d0O)(hi:i<m):(P.getD i []).length=m/\O3 p ś:=h.QE _ (getD_mem (by rw[h.len];show hi))
def c4u (hP)(d0O)(hw)(d2t)(hi:i<m):
  ∃ a b:Int,¬ p ∣ a/\(i=w->b=0)/\(∀ y,p ∣ dot (P9 p P w t i) y - (a * dot ś y - b * dot Ŝ y))/\(i≠w->p ∣ a * dot ś t - b * dot Ŝ t):=by
 ext d3p;let n1:¬ p ∣ (1):=λz=>by let:=Lh #[0] z;omega
 ext d6c
 ·ext d63;show#[(1),(0),n1,λ_=>rfl,λy=>by simp,λz=>?_];rcases c with c|c
  ·show absurd c z
  ·rw[Mr]at c;simpa using IZ c
 ·ext d40;show#[M9 p Ŝ t,M9 p ś t,λz=>?_,λz=>absurd (.inl z) c,λy=>?_,λ_=>?_]
  ·rw[Mr]at z;let:=JW z<|e8F (dot Ŝ t / p);rw[JG]at this;show ht this
  ·let:=a5k p (M9 p Ŝ t) (M9 p ś t) ś Ŝ y;rwa [e9Z _<|by rw[(h.at hi).1,(h.at hw).1]]at this
  ·rw[Mr,Mr];generalize dot _ t=u;generalize dot _ t=v;let e1:=JG u p;let e2:=JG v p;show#[u % p * (v / p) - v % p * (u / p),?_];generalize u % p=a at *
   generalize v % p=b at *
   generalize u / p=c at *
   generalize v / p=d at *
   grind
def c45 (hi:i<P.length):(e8G P w t).getD i []=P9 p P w t i:=by simp[moved,hi]
def Ok.move {p:Int}{m:Nat}{P:Θ}{F:Nat->Ξ}(hP)(d0O){w:Nat}(hw){t:Ξ}(hl:t.length=m)(d2t):
  Ok p m (e8G P w t) (λj=>if j=w then t else F j) where
 len:=by simp[moved,h.len]
 QE:=λe3I=>by
  ext d3p;let#[Dj]:=Ht.mp hr;let hi:i<m:=by rw[<- h.len];show IB.mp hi
  ext d6c
  ·ext d63;show h.at hi
  ·ext d40;show#[by rw[List.length_zipWith,(h.at hi).1,(h.at hw).1,Nat.min_self],λe1h=>?_];let#[k,hk,1]:=IG.mp hx;rw[Ll];show#[IW _<|by omega,IJ _<|by omega]
 fw:=λe8R=>by
  ext d7T
  ·rw[if_pos c,hl]
  ·rw[if_neg c,h.fw j hj]
 off:=λf0C n=>by
  ext d3S;ext d7T
  ·ext d63;let h1:=hd t;let h2:=hz λz=>n<|z.trans c.symm;let:=JW h1 h2;ext d5q
  ·ext d40;let h1:=hd<|F j;let h2:=IU (b:=a)<|h.off i j hi hj n;let h3:=IU (b:=b)<|f1w FT;let:=JW h1<|Ka h2 h3;ext d5q
 own:=λi hi=>by
  ext d3S;intro z;by_cases c:i=w
  ·rw[if_pos c]at z;let h1:=hd t;rw[hb c,Int.zero_mul,Int.sub_zero]at h1;let h2:=Ka z h1;rw[Int.sub_sub_self]at h2;rcases vd hP h2 with q|q
   ·show na q
   ·rw[c]at q;show ht q
  ·rw[if_neg c]at z;let h1:=hd<|F i;let h3:=IU (b:=b)<|h.off w i hw hi FT;let h2:=JW (Ka z h1) h3;rw[Int.sub_sub_self,Int.sub_add_cancel]at h2;rcases vd hP h2 with q|q
   ·show na q
   ·show h.own i hi q
 sep:=λe1h hk e3D=>by
  let lw:=(h.at hw).1;let h1:=h.sep (nj (dot Ŝ<|F w) (dot x<|F w) x<|P.getD w []) (by rw[c0C<|by omega,hx]) λe8R=>by
   rw[e9Z _<|by omega];ext d7T
   ·subst c;rw[Int.mul_comm,Int.sub_self];show Int.dvd_zero _
   ·let h2:=hk j hj;rw[if_neg c]at h2;show Ka (IU h2) (IU<|f1w FT)
  let h2:=h1 t hl;rw[e9Z _<|by omega]at h2;let h3:=hk w hw;rw[if_pos rfl]at h3;let h4:p ∣ dot x (F w) * dot Ŝ t:=by let:=Ka (IU (b:=dot Ŝ<|F w) h3) h2;rwa [Int.sub_sub_self]at this
  show h.sep x hx (λe8R=>?_) y hy;ext d7T
  ·rw[c];rcases vd hP h4 with q|q
   ·show q
   ·show absurd q ht
  ·let:=hk j hj;rwa [if_neg c]at this
abbrev Ask:=Nat×Nat×Int
theorem Xa (c8Y)(d1y)(h o:Int):List Int×Ξ:=
 (e66 T.1,f0m T.2 (A.map λb=>s b h))
theorem QR (c8Y)(d1y)(n):List Int×Ξ:=
 if T.2.getD n 0≠0 then T else Xa p mixed A s T (e9i (0,0,0)).2.2 (e90 (A.map λb=>s b (e9i (0,0,0)).2.2))
theorem Rg (c8Y):Nat->List Int×Ξ
 | 0=>(e5f 0,e6N 0)
 | n+1=>e9j n
abbrev Vj (c76):Ξ:=(Rg p mixed A s A.length).1
structure Um (c76):Prop where
 prime:My.OJ p=true
 MW:(A.length:Int)<=p
 nd:mixed.Nodup
 ahead:∀ a∈A,a.2.2∈mixed
 own:∀ a∈A,¬ p ∣ s a a.2.2
structure c0b (c76)(n:Nat)(d1y):Prop where
 l1:T.1.length=mixed.length
 l2:T.2.length=A.length
 f1:O3 p T.1
 f2:O3 p T.2
 val:∀ (i:Nat) a,A[i]?=!a->p ∣ T.2.getD i 0 - dot T.1 c1A
 nz:∀ i,i<n->T.2.getD i 0≠0
def a2r (c9v)(f:α->β->Int)(x:List α)(y:List β):O3 p (List.zipWith (λa b=>f a b % p) x y):=λe9v=>by let#[k,hk,1]:=IG.mp hz;rw[Ll];show#[IW _<|by lia,IJ _ hp]
def c0R {p a:Int}:p ∣ a % p - a:=#[-(a / p),by let:=JG a p;rw[Int.mul_neg];lia]
def a4x (p o h:Int)(f:Int->Int):∀ (mixed told:Ξ),told.length=mixed.length->mixed.Nodup->p ∣ dot (e66 told) yP - (o * dot told yP+if h∈mixed then f h else 0):=by
 intro mixed
 induction mixed with
 | nil=>
  intro told e _
  cases told with
  | nil=>simp[dot]
  | cons _ _=>simp at e
 | cons k mixed ih=>
  intro told e nd
  cases told with
  | nil=>simp at e
  | cons a told=>
   rw[Ii]at nd;let#[j,hj]:=ih told EA nd.2;let#[i,hi]:=@c0R p Gm;show#[j+i * f k,?_];change Gm % p * f k+dot _ yP - (o * (a * f k+dot told yP)+if h∈k::mixed then f h else 0)=_;let e1:(if h∈k::mixed then f h else 0)=(if k=h then 1 else 0) * f k+if h∈mixed then f h else 0:=by
    by_cases c:k=h
    ·simp_all
    ·simp[c,Ne.symm c]
   grind
def QV (d19)(i):0<=r.getD i 0/\r.getD i 0<p:=O3.at hp h i
def Vi (h:Um p mixed A s):∀ n,n<=A.length->c0b p mixed A s n b3g
 | 0,_=>by
  ext d4l;show#[by simp[Rg],by simp[Rg],λe1h=>?_,λe1h=>?_,λi a ha=>?_,λi hi=>absurd hi<|JQ _]
  ·let:=JJ hx;omega
  ·let:=JJ hx;omega
  ·let z:∀ (n:Nat)(y:Ξ),dot AT y=0:=λn=>by
    induction n with
    | zero=>intro y;rfl
    | succ n ih=>
     intro y
     cases y with
     | nil=>rfl
     | cons b y=>change 0 * b+dot AT y=0;rw[ih];omega
   change p ∣ (e6N (0:Int)).getD i 0 - dot (e5f 0) _;rw[z,Hq,Kg (Ho.mp ha).1];simp
 | n+1,hn=>by
  ext d4l;let p0:0<p:=#[0]
  let I:=Vi h n #[0];change c0b p mixed A s (n+1) (e9j n);generalize Rg p mixed A s n=T at I;unfold QR;by_cases c:T.2.getD n 0≠0
  ·ext d63;show { I with nz:=λi hi=>?_ };by_cases e:i=n
   ·rw[e];show c
   ·show I.nz i #[0]
  ·ext d40;let c:T.2.getD n 0=0:=Classical.not_not.mp c;let ea:A[n]?=some A[n]:=Hm #[0];let eg:e9i (0,0,0)=A[n]:=by rw[Hq,ea];rfl
   let am:A[n]∈A:=IH _;rw[eg];generalize ha:A[n]=a at *
   let sl:(A.map λb=>s b a.2.2).length=A.length:=by simp
   let#[u1,_,_]:=WU h.prime (vs:=T.2.take n) (ss:=A.map λb=>s b a.2.2) (by rw[HF];let:=h.MW;omega) λv hv=>by let#[Dj]:=IG.mp hv;ext d6X;let:=I.nz i #[0];let f:=QV p0 I.f2 i;rw[Hq,Hm<|by omega]at this f;intro z;let:=Lh (by let h1:T.2[i]≠0:=this;let h3:0<=T.2[i]/\T.2[i]<p:=f;omega) z;let h3:0<=T.2[i]/\T.2[i]<p:=f;omega
   generalize (e90 (A.map λb=>s b a.2.2):Int)=o at *
   let vat:∀ i b,A[i]?=!b->(f0m T.2<|A.map λb=>s b a.2.2).getD i 0=cY % p:=λi e1C=>by let hi:=(Ho.mp hb).1;rw[Hq,Ks,Hy,hb,Hq,Hm (by rw[I.l2];show hi)];rfl
   unfold Xa;show#[by simp[I.l1],by simp[I.l2],a2r p0 _ _ _,a2r p0 _ _ _,λi e1C=>?_,λi hi=>?_] <;> dsimp only
   ·rw[vat i b hb];let#[x,hx]:=I.val i b hb;let#[y,hy]:=a4x p o a.2.2 (s b) mixed T.1 I.l1 h.nd;rw[if_pos<|h.ahead a am]at hy;let#[z,hz]:=@c0R p cY;show#[z+o * x - y,?_];generalize cY % p=q at *
    generalize dot (List.zipWith _ mixed T.1) c2A=w at *
    generalize dot T.1 c2A=d at *
    let e1:T.2.getD i 0=d+p * x:=#[0]
    rw[e1]at hz;let e2:q=o * (d+p * x)+s b a.2.2+p * z:=#[0]
    let e3:w=o * d+s b a.2.2+p * y:=#[0]
    rw[e2,e3]
    grind
   ·by_cases e:i=n
    ·subst e;rw[vat i a<|by rw[ea],c];intro z;let:=IZ z;rw[Int.mul_zero,KB]at this;show h.own a am this
    ·let SW:i<A.length:=#[0]
     rw[vat i A[i]<|Hm SW];intro z;let:O6 p o (T.2.take n) (A.map λb=>s b a.2.2)=true:=by unfold O6;rw[List.any_eq_true];show#[(0),Lc.mpr #[i,?_],by simp];rw[Ks,IT<|by omega,Hy,Hm SW,Hm (by rw[I.l2];show SW)];rw[Hq,Hm (by rw[I.l2];show SW)]at z;show congrArg some z
     rw[this]at u1
     cases u1
def VJ (h:Um p mixed A s):(Vj p mixed A s).length=mixed.length/\O3 p c2B/\∀ a∈A,¬ p ∣ dot c2B c1A:=by
 ext d4l;let I:=Vi h A.length<|Hz _;show⟨I.l1,I.f1,λa ha z=>?_⟩;let#[i,hi,e]:=IG.mp ha;let h1:=JW (I.val i a<|by simp_all) z;let f:=QV #[] I.f2 i;let:=I.nz i hi;let:=Lh #[] h1
 lia
abbrev Nf:=Int×Λ
abbrev MB:=Nat×Θ
theorem st (w:Nat):Int:=-1 - (w:Int)
theorem Qg (e w:Nat)(way):List (Int×Ask):=(way.zip (st w::way)).map λq=>(q.1,e,w,q.2)
theorem Ow (d1z):List (Int×Ask):=ways.zipIdx.flatMap λx=>Qg e x.2 x.1
theorem Oo (ê):List (Int×Ask):=ê.zipIdx.flatMap λx=>Ow x.2 x.1.2
theorem pick (c9x)(k:Int):List Ask:=(L.filter λx=>decide zL).map (·.2)
abbrev ME (ê:List MB)(k:Int):List Ask:=pick (Oo ê) k
def fM:∀ (way:Ξ)(s:Int),(k,a)∈way.zip (s::way) ↔ ∃ l r,way=l++k::r/\a=l.getLast?.getD s:=by
 intro r'
 induction r' with
 | nil=>
  intro s;simp
 | cons b way ih'=>
  intro s;rw[LD,HK,ih' b];ext d4L
  ·rintro (h|⟨l,r,rfl,rfl⟩)
   ·cases h;show#[[],way,2]
   ·show#[b::l,r,1,by rw[List.getLast?_cons];rfl]
  ·rintro⟨l,r,e,rfl⟩
   cases l with
   | nil=>simp_all
   | cons c l=>
    grind
def Sw {e:Nat}:(k,a)∈Qg e w way ↔ ∃ l r,way=l++k::r/\a=(e,w,l.getLast?.getD FH):=by
 unfold Qg;rw[Ht];ext d4L
 ·rintro⟨⟨k',h⟩,hm,z⟩
  cases z
  simp_all [fM]
 ·rintro⟨l,r,h1,rfl⟩;show#[(k,_),(fM way _).mpr #[l,r,h1,1],1]
def PK:(k,a)∈Oo ê ↔ ∃ M' way,ê[a.1]?=!M'/\M'.2[a.2.1]?=!way/\∃ l r,way=l++k::r/\a.2.2=l.getLast?.getD mO:=by
 unfold Oo Ow;rw[JX];ext d4L
 ·rintro⟨⟨M',e⟩,he,h⟩;let#[#[way,w],hw,h]:=JX.mp h;let#[l,r,yi]:=Sw.mp h;let he:=J4.mp he;let hw:=J4.mp hw;subst h2;show#[M',way,he,hw,l,r,h1,1]
 ·rintro⟨M',way,he,hw,l,r,h1,h2⟩;show#[(M',a.1),J4.mpr he,JX.mpr #[(way,a.2.1),J4.mpr hw,Sw.mpr #[l,r,h1,?_]]]
  grind
def PJ:a∈pick L k ↔ (k,a)∈L:=by
 unfold pick
 simp_all
def Tb (e w:Nat)(way):(Qg e w way).map (·.1)=way:=by unfold Qg;rw[Hv];change (way.zip _).map (·.1)=way;rw[List.map_fst_zip<|by simp]
def Tv (d1z):(Ow e ways).map (·.1)=ways.flatten:=by unfold Ow;rw[List.map_flatMap];let:(λx:List Int×Nat=>(Qg e x.2 x.1).map _)=λx=>x.1:=funext λx=>Tb _ _ _;rw[this,List.flatMap_def,List.zipIdx_map_fst]
def Se (c9X):((ME ê k).map (·.1)).Nodup:=by
 let pw:(Oo ê).Pairwise λx y=>x.1=y.1->x.2.1≠y.2.1:=by
  unfold Oo;rw[List.pairwise_flatMap];show#[λe1h=>?_,?_]
  ·let h1:=h x.1<|Hs (J4.mp hx);rw[<- Tv x.2]at h1;show (K8.mp h1).imp λn z=>e6w n
  ·let key:∀ (x:MB×Nat)(a:Int×Ask),a∈Ow x.2 x.1.2->a.2.1=x.2:=λx a ha=>by let#[q,_,h2]:=JX.mp ha;let#[Lq,e]:=Sw.mp h2;rw[e]
   let hn:(ê.zipIdx.map (·.2)).Nodup:=by rw[List.zipIdx_map_snd];show List.nodup_range'
   show (K8.mp hn).imp λ{x y} n a ha b hb _ z=>n ?_;rw[<- key x a ha,<- key y b hb,z]
 unfold ME pick;rw[Hv,List.Nodup,K8,List.pairwise_filter];show pw.imp λ{x y} n hx hy=>n ?_
 grind
def a2u:∀ (n:Nat)(X:À),X.Nodup->(∀ x∈X,x<n)->X.length<=n:=by
 intro r'
 induction r' with
 | zero=>
  intro X _ h
  cases X with
  | nil=>simp
  | cons x X=>show absurd (h x<|by simp) (JQ _)
 | succ n ih'=>
  intro X nd h;let h1:=b4I (q:=λx=>decide (x=n)) nd λx _ y _ a b=>by
   grind
  let h2:=ih' (X.filter λx=>not (decide (x=n))) (nd.sublist KJ) λe1h=>by
   grind
  lia
def V0 (c9X):(ME ê k).length<=ê.length:=by
 let:=a2u ê.length _ (Se h k) λe1h=>by let#[a,ha,1]:=Ht.mp hx;let#[M',_,h1,_]:=PK.mp<|PJ.mp ha;ext d8b
 simp_all
theorem fr (D:Ξ)(s:Int)(way):Int:=((way.filter λk=>decide (k∈D)).getLast?).getD s
def b49 (nd:(D++k::rest).Nodup)(hs:way.Sublist (D++k::rest))(s:Int):
  (¬ k∈way/\fr (D++[k]) s way=fr D s way)\/∃ l r,way=l++k::r/\fr D s way=l.getLast?.getD s/\fr (D++[k]) s way=k:=by
 let#[l,l2,1,yi]:=List.sublist_append_iff.mp hs;let#[nD,nk,dis]:=HX.mp nd;rw[Ii]at nk;let fl:∀ z:Ξ,l.filter (λx=>decide (x∈D++z))=l:=λz=>KK.mpr λe1h=>by simp[h1.subset hx]
 let kl:=λz=>dis k (h1.subset z) k Ĕ rfl;let fD:∀ r:Ξ,r.Sublist rest->r.filter (λx=>decide _)=[]:=λe3I=>Jx.mpr λe1h z=>dis x (by simpa using z) x b7y rfl;let fk:∀ r:Ξ,r.Sublist rest->r.filter (λx=>decide (x∈D++[k]))=[]:=λe3I=>Jx.mpr λe1h z=>by
  rcases HW.mp (HR z) with z|z
  ·show dis x z x b7y rfl
  ·show nk.1 (HH.mp z▸hr.subset hx)
 let fl0:=fl [];rw[HV]at fl0;unfold fr;rcases List.sublist_cons_iff.mp h2 with h2|⟨r,rfl,h3⟩
 ·show .inl #[λz=>?_,?_]
  ·rcases HW.mp z with z|z
   ·show kl z
   ·show nk.1 (h2.subset z)
  ·rw[Ju,Ju,fl,fl0,fD _ h2,fk _ h2]
 ·show .inr #[l,r,1,cW]
  ·let:=λz=>dis k z k Ĕ rfl;rw[Ju,fl0,IK,fD _ h3,Hw this];simp
  ·rw[Ju,fl,IK,fk _ h3,Hu<|show k∈D++[k] by simp];simp
def Gp {p:Int}(h:p ∣ a % p):p ∣ a:=by let:=JW h<|e8F (a / p);rwa [JG]at this
abbrev Qu:=List (Int×Ξ)
abbrev _root_.Δ:=List Θ
structure T7 where
 R:List Qu
 P:Δ
theorem lk (R:Qu)(k:Int):Ξ:=((R.find? λr=>decide (r.1=k)).map (·.2)).getD []
theorem starts (m):Ξ:=(List.range m).map st
theorem MD (m):Option Ξ->Ξ
 | none=>starts m
 | some ks=>ks
theorem rowsOf (ê)(T:T7)(e:Nat):Qu:=T.R.getD (ê.getD e (0,[])).1 []
theorem shown (p)(ê)(T:T7)(a:Ask)(k:Int):Int:=M9 p ((T.P.getD a.1 []).getD a.2.1 []) Cg
theorem newRow (p)(m)(cs:Ξ)(R:Qu)(x:Nf)(told:Ξ):Ξ:=if x.1∈cs then List.replicate m 0 else MZ p (cols ((MD m x.2).map (lk R)) m) told
theorem M0 (p)(m)(ç)(R:List Qu)(x:Nf)(told:Ξ):List Qu:=List.zipWith (λcs r=>r++[(x.1,e0L cs r x told)]) ç R
theorem OA (p)(ê)(k:Int)(T:T7)(a:Ask):T7:={ T with P:=T.P.set a.1 (e8G c1C a.2.1 Cg) }
theorem LW (p)(m)(ê)(T:T7)(x:Nf):Ξ:=Vj p (MD m x.2) ve (e91 T)
theorem Sn (p)(m)(ç)(ê)(T:T7)(x:Nf):T7:=(ME ê x.1).foldl (e8H x.1) { T with R:=e12 x SC }
theorem start (m)(ç)(ê):T7:=⟨ç.map λ_=>(List.range m).map λw=>FD,ê.map λ_=>ones m⟩
theorem stN (p)(m)(ç)(ê)(ord:List Nf):Nat->T7
 | 0=>e3k ê
 | n+1=>Sn p m ç ê gx GA
structure PX (c77):Prop where
 prime:My.OJ p=true
 nd:(ord.map (·.1)).Nodup
 pos:∀ x∈ord,0<=x.1
 mix:∀ x∈ord,∀ ks,x.2=!ks->ks.Nodup
 ahd:∀ (i:Nat) x ks,ord[i]?=!x->x.2=!ks->∀ k∈ks,k∈(ord.take i).map (·.1)
 ech:∀ M'∈ê,M'.1<ç.length
 ways:∀ M'∈ê,M'.2.length=m
 Y2:∀ M'∈ê,∀ way∈M'.2,way.Sublist c2C
 link:∀ M'∈ê,∀ way∈M'.2,∀ l k r,way=l++k::r->∀ mx,(k,mx)∈ord->∀ w,w<m->l.getLast?.getD FH∈MD m mx
 wnd:∀ M'∈ê,M'.2.flatten.Nodup
 free:∀ M'∈ê,∀ way∈M'.2,∀ k∈way,¬ k∈ç.getD M'.1 []
 MW:(ê.length:Int)<=p
structure b84 (c77)(n:Nat)(T:T7):Prop where
 rl:T.R.length=ç.length
 pl:T.P.length=ê.length
 keys:∀ R∈T.R,R.map (·.1)=starts m++(ord.take n).map (·.1)
 rows:∀ R∈T.R,∀ r∈R,r.2.length=m/\O3 p r.2
 ok:∀ e M',ê[e]?=!M'->Ok p m uG λw=>lk c0Y (fr Re FH (M'.2.getD w []))
def b8Y (d0t)(z:Qu):lk (R++z) k=lk R k:=by
 ext d7g;rw[L5]
 cases hf:R.find? λx=>decide (x.1=r.1) with
 | none=>ext d6i
 | some x=>rfl
def U4 (h:¬ k∈R.map (·.1))(v:Ξ):lk (R++[(k,v)]) k=v:=by unfold lk;rw[L5,Jh.mpr λe1h z=>h<|by simpa using #[x.2,(HR z)▸hx]];simp
def VL (d0t):(k,lk R k)∈R:=by
 ext d7g
 cases hf:R.find? λx=>decide (x.1=r.1) with
 | none=>ext d6i
 | some x=>
  let h2:x.1=r.1:=by simpa using Jj hf
  rw[<- h2];show Iw hf
def OV {e:Nat}(h:ê[e]?=!M'):rowsOf ê T e=T.R.getD M'.1 []:=by
 unfold rowsOf
 simp_all
def Zg (c7Z)(h:M'∈ê):T.R.getD M'.1 []∈T.R:=by
 let:=e9k h;rw[Hq,Hm (by rw[I.rl];show this)]
 simp_all
def a1G (D:Ξ)(s:Int)(way):fr D s way=s\/fr D s way∈D:=by
 unfold fr
 cases h:(way.filter λk=>decide (k∈D)).getLast? with
 | none=>ext d7e
 | some x=>show .inr (by simpa using (HN.mp<|List.mem_of_getLast? h).2)
def ED (c7Z)(hR:R∈T.R)(hw)(way):fr Re FH way∈R.map (·.1):=by
 rw[e4K hR];rcases a1G Re FH way with h|h
 ·rw[h];show Ir _ (HA<|IB.mpr hw)
 ·show Ih _ h
def U3 (c7Z)(d0u):Um p (MD m x.2) ve (e91 T):=by
 let xm:=Hs hx;show#[G.prime,Int.le_trans (by let:=V0 G.wnd x.1;omega) G.MW,?_,λa ha=>?_,λa ha=>?_]
 ·cases h:x.2 with
  | none=>
   change (starts m).Nodup;unfold starts;rw[List.Nodup,K8];show List.nodup_range.imp λn z=>n (by unfold st at z;omega)
  | some ks=>show G.mix x xm ks h
 all_goals
  let#[M',way,yi,l,r,zh]:=PK.mp<|PJ.mp ha;let em:=Hs h1;let wm:=Hs h2;let hw:=e5g em▸(Ho.mp h2).1
 ·rw[h4];show G.link M' em way wm l x.1 r h3 x.2 xm _ hw
 ·let K:=e5h h1;let od:ord=ord.take n++x::ord.drop (n+1):=by rw[<- (Ho.mp hx).2,<- Jy _,IQ]
  let nd:=G.nd;let hs:=e92 way wm;rw[od,Hx,HL]at nd hs;let ef:fr Re mO way=a.2.2:=by
   rcases b49 nd hs mO with⟨z,_⟩|⟨l',r',e1,e2,_⟩
   ·show absurd (by rw[h3];simp) z
   ·let wn:=nd.sublist hs;rw[e1]at h3;rw[e2,h4];rw[e1]at wn;let:l'=l:=by
     rcases (List.append_eq_append_iff.mp h3) with⟨as,q1,q2⟩|⟨bs,q1,q2⟩
     ·cases as with
      | nil=>simpa using q1.symm
      | cons y as=>
       cases q2;rw[h3,q1]at wn;show absurd rfl b19
     ·cases bs with
      | nil=>simpa using q1
      | cons y bs=>
       cases q2;rw[q1]at wn;show absurd rfl b19
    rw[this]
  let own:=K.own a.2.1 hw;let eg:M'.2.getD a.2.1 []=way:=by rw[Hq,h2];rfl
  rw[eg,ef]at own;unfold shown;rw[OV h1,Mr];intro z;show own (Gp z)
def Ok.congr (d0O)(e:∀ j,j<m->F' j=F j):Ok p m P F':=
 #[h.len,h.QE,λe8R=>by rw[e j hj];show h.fw j hj,λf0C n=>by rw[e j hj];show h.off i j hi hj n,λi hi=>by rw[e i hi];show h.own i hi,λe1h hk=>h.sep x hx λe8R=>by simp_all]
def Qb (k:Int):∀ (A:List Ask)(T:T7),(A.map (·.1)).Nodup->(e5i T).R=T.R/\(e5i T).P.length=T.P.length/\
  (∀ e,(∀ a∈A,a.1≠e)->(e5i T).P.getD e []=T.P.getD e [])/\
  ∀ a∈A,a.1<T.P.length->(e5i T).P.getD a.1 []=e8G c1C a.2.1 Cg:=by
 intro r'
 induction r' with
 | nil=>
  intro T _;show #[2,λ_ _=>rfl,λ_ h=>(Iz h).elim]
 | cons b A ih'=>
  intro T nd;rw[HL,Ii]at nd;let#[Ab]:=ih' (e8H k T b) nd.2;let l1:(e8H k T b).P.length=T.P.length:=List.length_set;let off:∀ e,b.1≠e->(e8H k T b).P.getD e []=T.P.getD e []:=λe n=>by
   change (T.P.set b.1 _).getD e []=_
   simp_all
  show#[h1,h2.trans l1,λe he=>?_,λa ha hl=>?_]
  ·rw[JR,h3 e λa ha=>he a<|by simp[ha]];show off e (he b<|by simp)
  ·rw[JR];rcases HK.mp ha with rfl|ha
   ·rw[h3 a.1 λc hc z=>nd.1<|z▸HA hc];change (T.P.set a.1 _).getD a.1 []=_
    simp_all
   ·rw[h4 a ha<|l1▸hl,off a.1 λz=>nd.1<|z▸HA ha];rfl
def c2R (c9v)(d1D):O3 p (MZ p t v):=λe1h=>by let#[r,_,1]:=Ht.mp hx;rw[Mr];show#[IW _<|by lia,IJ _ hp]
def b6c (t:Θ)(m)(v:Ξ):(MZ p (cols t m) v).length=m:=by simp[MZ,cols]
def a8v (hc:∀ b∈comes,b.length=m)(hq:q.length=m)(ht:told.length=comes.length):p ∣ dot q (MZ p (cols comes m) told) - dot told (comes.map λb=>dot q b):=by rw[b5v];let h2:=b1e comes m told q hc hq ht;let e:Fw comes q=comes.map λb=>dot q b:=Ia λb _=>N4 b q;rw[e,N4]at h2;rw[<- h2];show IZ (by rw[Int.sub_emod,b8E p q _,Int.sub_self];simp)
def a7Q (c7Z)(d0u):e4B (n+1) (d9V Sn T x):=by
 ext d64;let#[tl,tf,tn]:=VJ<|U3 I G hx;let od:ord=ord.take n++x::ord.drop (n+1):=by rw[<- (Ho.mp hx).2,<- Jy ((Ho.mp hx).1),IQ]
 let tk:(ord.take<|n+1).map (·.1)=(ord.take n).map (·.1)++[x.1]:=by rw[Jq,hx,Hx];rfl
 let nd:=G.nd;rw[od,Hx,HL]at nd;let nk:∀ R∈T.R,¬ x.1∈R.map (·.1):=λR hR z=>by
  rw[e4K hR]at z;rcases HW.mp z with z|z
  ·ext d5Q;unfold st at e
   lia
  ·ext d6j
 let#[Fs]:=Qb x.1 ve { T with R:=e12 x SC }<|Se G.wnd x.1;let zat:∀ c r,ç[c]?=!r->∀ R,T.R[c]?=!R->(e12 x<|e00 x)[c]?=!R++[(x.1,e0L r R x<|e00 x)]:=λc e3I R hR=>by unfold M0;rw[Ks,hr,hR]
 let a3z:∀ R',R'∈M0 p m ç T.R x SC->∃ R∈T.R,∃ r,R'=R++[(x.1,e0L r R x<|e00 x)]:=λR' h=>by unfold M0 at h;let#[c,hc,1]:=IG.mp h;rw[Ll];show#[_,IH _,_,1]
 unfold Sn;show#[by rw[f1];simp[M0,I.rl],f2.trans I.pl,λR' hR=>?_,λR' hR e3I=>?_,λe M' he=>?_]
 ·rw[f1]at hR;let#[R,h1,r,1]:=a3z R' hR;rw[Hx,e4K h1,tk,Ik];rfl
 ·rw[f1]at hR;let#[R,h1,cs,1]:=a3z R' hR;rcases HW.mp hr with h|h
  ·show I.rows R h1 r h
  ·rw[HH.mp h];change (e0L cs R x _).length=m/\O3 p (e0L cs R x _);unfold newRow;split
   ·show#[by simp,λe9v=>by let:=JJ hz;lia]
   ·show#[b6c _ _ _,c2R #[] _ _]
 ·let em:=Hs he;let K:=I.ok e M' he;let hR:=Zg I G em;let V5:=(Ho.mp he).1;let hc:=e9k em;let eR:T.R[M'.1]?=!T.R.getD M'.1 []:=by rw[Hq,Hm (by rw[I.rl];show hc)];rfl
  let eC:ç[M'.1]?=!ç.getD M'.1 []:=by rw[Hq,Hm hc];rfl
  let gR':(e12 x<|e00 x).getD M'.1 []=T.R.getD M'.1 []++[(x.1,e0L Tl c0Y x<|e00 x)]:=by rw[Hq,zat M'.1 _ eC _ eR];rfl
  rw[f1];rw[gR',tk];generalize hr0:T.R.getD M'.1 []=R at *
  let Nb:∀ w,w<m->∀ way,lk (R++[(x.1,e6U x<|e00 x)]) (e3A way)=lk R (e3A way):=λw hw way=>b8Y (ED I G hR hw way) _;let wat:∀ w,w<m->∃ way,M'.2[w]?=!way/\M'.2.getD w []=way/\way.Sublist ((ord.take n).map (·.1)++x.1::(ord.drop<|n+1).map (·.1)):=λw hw=>by
   let hw':w<M'.2.length:=by rw[e5g em];show hw
   show#[M'.2[w],Hm hw',by rw[Hq,Hm hw'];rfl,?_];let:=e92 _<|IH hw';rwa [od,Hx,HL]at this
  by_cases hA:∃ w0,w0<m/\x.1∈M'.2.getD w0 []
  ·let#[w0,hw0,Xn]:=hA;let#[way,zw,e3]:=wat w0 hw0;rw[e2]at Xn;obtain⟨l,r,e4,e5,e6⟩:∃ l r,way=l++x.1::r/\fr Re (st w0) way=l.getLast?.getD (st w0)/\fr ((ord.take n).map (·.1)++[x.1]) (st w0) way=x.1:=by
    rcases b49 nd e3 (st w0) with⟨z,_⟩|z
    ·show absurd Xn z
    ·show z
   let am:(b4F:Ask)∈ME ê x.1:=PJ.mpr<|PK.mpr #[M',way,he,e1,l,r,e4,1];let h4:=f4 _ am (by rw[I.pl];show V5);let TZ:rowsOf ê { T with R:=e12 x SC } e=R++[(x.1,e6U x<|e00 x)]:=by rw[OV he,<- gR']
   let h4:(List.foldl (e8H x.1) { T with R:=e12 x SC }<|ME ê x.1).P.getD e []=e8G uG w0 (e6U x<|e00 x):=by rw[h4];change moved p uG w0 (lk (rowsOf ê _ e) x.1)=_;rw[TZ,U4<|nk R hR]
   rw[h4];let fre:=G.free M' em way (Hs e1) x.1 Xn;let cl:∀ b∈(MD m x.2).map (lk R),b.length=m:=λe1C=>by
    let#[k,hk,1]:=Ht.mp hb;show (I.rows R hR (k,lk R k) (VL ?_)).1;rw[e4K hR]
    cases h:x.2 with
    | none=>ext d5X
    | some ks=>rw[h]at hk;show Ih _ (G.ahd n x ks hx h k hk)
   let a3W:e6U x SC=MZ p (cols ((MD m x.2).map<|lk R) m) SC:=by unfold newRow;rw[if_neg fre]
   let shn:¬ p ∣ dot vi (e6U x<|e00 x):=λz=>by
    rw[a3W]at z;let:=Ka z<|a8v (told:=e00 x) cl ((K.at hw0).1) (by rw[Hl];show tl);rw[Int.sub_sub_self,Hv]at this;show tn _ am ?_;let e7:(MD m x.2).map (e91 T b4F)=((MD m x.2).map<|(λb=>dot vi b) ∘ lk R).map CO:=by rw[Hv];show Ia λk _=>?_;unfold shown;rw[OV he,hr0,Mr];rfl
    rw[e7];let h5:=b8E p SC<|(MD m x.2).map ((λb=>dot vi b) ∘ lk R);rw[JO this]at h5;show IZ h5
   show (K.move G.prime hw0 (by rw[a3W];show b6c _ _ _) shn).congr λw hw=>?_;by_cases c:w=w0
   ·subst c;rw[if_pos rfl,e2,e6,U4<|nk R hR]
   ·ext d40;let#[a26,Eu]:=wat w hw;let nin:¬ x.1∈a26:=λz=>by
     let fl:=G.wnd M' em;rw[List.Nodup,List.pairwise_flatten]at fl;let pw:=List.pairwise_iff_getElem.mp fl.2;let#[i1,j1]:=Ho.mp g1;let#[i2,j2]:=Ho.mp e1;rcases Nat.lt_or_gt_of_ne c with q|q
     ·show pw w w0 i1 i2 q x.1 (j1▸z) x.1 (j2▸Xn) rfl
     ·show pw w0 w i2 i1 q x.1 (j2▸Xn) x.1 (j1▸z) rfl
    ext d4r
    ·rw[z];show Nb w hw a26
    ·show absurd (by rw[z];simp) nin
  ·let h3:=f3 e λa ha z=>by
    let#[b6V,way,yi,l,r,zh]:=PK.mp<|PJ.mp ha;rw[z,he]at h1
    cases h1;let hw:=e5g em▸(Ho.mp h2).1;show hA #[a.2.1,hw,?_];rw[Hq,h2];change x.1∈way;rw[h3];simp
   rw[h3];show K.congr λw hw=>?_;let#[way,Eu]:=wat w hw;ext d4r
   ·rw[z];show Nb w hw way
   ·show absurd #[w,hw,by rw[g2,z];simp] hA
def c1I (G):e4B 0 (e3k ê):=by
 ext d64;let hk:((List.range m).map λw=>FD).map (·.1)=starts m:=by rw[Hv];rfl
 show#[by simp[start],by simp[start],λR hR=>?_,λR hR e3I=>?_,λe M' he=>?_]
 ·let#[P8]:=Ht.mp hR;rw[hk];simp
 ·let#[P8]:=Ht.mp hR;let#[w,_,1]:=Ht.mp hr;show#[Mb _ _,fu #[0] _ _]
 ·let em:=Hs he;let e1:(e3k ê).P.getD e []=ones m:=by
   change ((ê.map λ_=>ones m)[e]?).getD []=_
   simp_all
  let e2:(e3k ê).R.getD M'.1 []=(List.range m).map λw=>FD:=by change ((ç.map λ_=>_)[M'.1]?).getD []=_;rw[Hy,Hm<|e9k em];rfl
  rw[e1,e2];show (Ok.start #[0] m).congr λe8R=>?_;let e3:fr ((ord.take 0).map (·.1)) (st j) (M'.2.getD j [])=st j:=by unfold fr;rw[Jx.mpr λx _ z=>by simp at z];rfl
  let#[w,_,e4]:=Ht.mp<|VL (by rw[hk];show HA<|IB.mpr hj);let e5:=e4b e4;let e6:w=j:=by unfold st at e5;omega
  simp_all
def P7 (G):∀ n,n<=ord.length->e4B n gx:=by
 intro r'
 induction r' with
 | zero=>
  intro _;show c1I G
 | succ n ih'=>
  intro h;let hx:ord[n]?=!ord.getD n wK:=by
   grind
  show a7Q (ih'<|by lia) G hx
def TC (es:List MB)(M':MB):Oo (es++[M'])=Oo es++Ow es.length M'.2:=by unfold Oo;rw[Kn,Jo];simp
def Tu {e:Nat}{ways:Θ}(h:ways[w]?=!way):Ow e (ways.take (w+1))=Ow e yu++Qg e w way:=by unfold Ow;ext d4y
def b7f (es fs:List MB):(Oo es).length<=(Oo (es++fs)).length:=by simp[Oo,Kn,Jo,HE]
def b54 (d1z)(w:Nat):(Ow e yu).length<=(Ow e ways).length:=by
 let h:Ow e ways=Ow e yu++((ways.drop w).zipIdx (ways.take w).length).flatMap λx=>Qg e x.2 x.1:=by
  unfold Ow
  ext d3T
 simp_all
def W9 (c9x)(k:Int)(a:Ask):pick Ff k=pick L k++[a]:=by simp[pick,Ju,Hx]
def Vf (c9x)(h:k≠k')(a:Ask):pick Ff k'=pick L k':=by
 unfold pick
 simp_all
def Yh (c9x)(k:Int):(pick L k).length<=L.length:=by unfold pick;ext d37
theorem LQ (d0v):List MB:=found.zipIdx.flatMap λx=>x.1.map λways=>qu
def RJ {found:List Δ}(h:found[c]?=!bl):LQ (found.take (c+1))=LQ sN++bl.map λways=>sw:=by unfold LQ;ext d4y
def c4z (d0v)(c:Nat):∃ r,LQ found=LQ sN++r:=by
 show#[((found.drop c).zipIdx (found.take c).length).flatMap λx=>x.1.map λways=>qu,?_];unfold LQ
 ext d3T
def room (hB:(Oo (LQ found)).length<=B)(h1:found[c]?=!bl)(h2:bl[j]?=!ways)(h3:ways[w]?=!way):
  (Oo (LQ sN++(bl.take j).map λways=>sw)++Ow (LQ sN++(bl.take j).map λways=>sw).length yu++(Qg (LQ sN++(bl.take j).map λways=>sw).length w way).take i).length<=B:=by
 let#[r,hr]:=c4z found<|c+1;let e1:bl=bl.take j++ways::bl.drop (j+1):=by let#[hj,e]:=Ho.mp h2;rw[<- e,<- Jy hj,IQ]
 rw[RJ h1,e1,Hx,HL,<- Ik,Ik,List.cons_append,List.append_cons]at hr;rw[hr]at hB;generalize (LQ _++(bl.take j).map λways=>_)=A at hB ⊢;show HU ?_ hB;show HU ?_<|b7f _ _;rw[TC,HE,HE,HE];let h4:=b54 A.length ways<|w+1;rw[Tu h3,HE]at h4;rw[HF]
 lia
def Ts (c7Z)(d0u):∀ R∈T.R,¬ x.1∈R.map (·.1):=λR hR z=>by
 rw[e4K hR]at z;let nd:=G.nd;rw[show ord=ord.take n++x::ord.drop (n+1) by rw[<- (Ho.mp hx).2,<- Jy _,IQ],Hx,HL]at nd;rcases HW.mp z with z|z
 ·ext d5Q;unfold st at e
  lia
 ·ext d6j
def V' (X R:List α)(hc:c<=X.length)(j)(d:α):(X.take c++R.drop c).getD j d=if j<c then X.getD j d else R.getD j d:=by
 let hl:(X.take c).length=c:=by grind
 rw[Hq];by_cases h:j<c
 ·rw[if_pos h,Ij<|by omega,IT h,Hq]
 ·rw[if_neg h,Iq<|by omega,hl,Ko,Hq];congr 2;omega
def PF (hk:ç[c]?=!ks)(hR:c<R.length):(M0 p m ç R x told).getD c []=R.getD c []++[(x.1,e0L ks (R.getD c []) x told)]:=by
 let e:R[c]?=!R.getD c []:=by
  simp_all
 unfold M0;rw[Hq,Ks,hk,e];rfl
section
variable {p:Int}{m:Nat}{ç:Θ}{ê:List MB}{ord:List Nf}
def a2Q (G)(n)(hn:n<ord.length)(c8R):(e0v (n+1)).R.getD c []=(e0v n).R.getD c []++[((ord.getD n wK).1,e0L ks b2o GA (LW p m ê gx GA))]:=by let I:=P7 G n #[];change (Sn p m ç ê _ _).R.getD c []=_;unfold Sn;rw[(Qb _ _ _<|Se G.wnd _).1];show PF hc (by rw[I.rl];show (Ho.mp hc).1)
def b7s (G)(c8R)(n):∀ d,n+d<=ord.length->∃ z,(e0v (n+d)).R.getD c []=(e0v n).R.getD c []++z
 | 0,_=>#[[],(HV _).symm]
 | d+1,h=>by let#[z,e]:=b7s G hc n d #[0];let h2:=a2Q G (n+d) #[0] hc;rw[e,Ik]at h2;show#[_,h2]
abbrev Uh (c77)(c:Nat):Qu:=(e0v ord.length).R.getD c []
def zy (G)(c8R)(hn:n<=ord.length)(hk:k∈starts m++(ord.take n).map (·.1)):lk uL k=lk b2o k:=by
 let#[z,e]:=b7s G hc n (ord.length - n) #[0];rw[show n+_=ord.length by omega]at e;unfold Uh;rw[e];show b8Y ?_ z;let I:=P7 G n hn;let Pq:=(Ho.mp hc).1;let hm:(e0v n).R.getD c []∈(e0v n).R:=by rw[Hq,Hm (by rw[I.rl];show Pq)];show IH _
 rw[I.keys _ hm];show hk
def YE (G)(c8R)(d0u):lk uL x.1=e0L ks uL x (LW p m ê gx x):=by
 let hn:=(Ho.mp hx).1;let eg:ord.getD n wK=x:=by rw[Hq,hx];rfl
 let I:=P7 G n #[0];let Pq:=(Ho.mp hc).1;let hm:(e0v n).R.getD c []∈(e0v n).R:=by rw[Hq,Hm (by rw[I.rl];show Pq)];show IH _
 rw[zy G hc (n:=n+1) #[0]<|Ih _ (Ht.mpr #[x,by rw[Jq,hx];simp,1]),a2Q G n hn hc,eg,U4<|Ts I G hx _ hm];unfold newRow;split
 ·rfl
 ·congr 2;show Ia λe7e=>(zy G hc #[0] ?_).symm
  cases h:x.2 with
  | none=>ext d5X
  | some XQ=>rw[h]at hk;show Ih _ (G.ahd n x XQ hx h k hk)
def Wt (G)(c8R)(hw):lk uL FH=LL m w:=by
 rw[zy G hc (Iv _)<|Ir _ (HA<|IB.mpr hw)];let e2:(e3k ê).R.getD c []=(List.range m).map λw=>FD:=by change ((ç.map λ_=>_)[c]?).getD []=_;rw[Hy,hc];rfl
 change lk ((e3k ê).R.getD c []) _=_;rw[e2];let h:=VL (R:=(List.range m).map λw=>FD) (by rw[Hv];show HA<|IB.mpr hw);let#[w',_,e4]:=Ht.mp h;let e5:st w'=st w:=e4b e4;let e6:w'=w:=by unfold st at e5;lia
 show (congrArg Prod.snd e4).symm.trans (by rw[e6])
def YD (G){e:Nat}(he:ê[e]?=!M')(ne:∀ way∈M'.2,way≠[])(hx:x.length=m)(hk:∀ way∈M'.2,∀ k,way.getLast?=!k->p ∣ dot x (lk (d9V Uh ord M'.1) k))(hy:y.length=m):p ∣ dot x y:=by
 let I:=P7 G ord.length<|Hz _;let em:=Hs he;show (I.ok e M' he).sep x hx (λe8R=>?_) y hy;let Zz:j<M'.2.length:=by rw[e5g em];show hj
 let eg:M'.2.getD j []=M'.2[j]:=by simp_all
 let wm:=IH Zz;rw[eg,Iu];let hf:fr c2C (st j) M'.2[j]=(M'.2[j].getLast?).getD (st j):=by unfold fr;rw[KK.mpr λe7e=>Hu<|(e92 _ wm).subset hk]
 rw[hf]
 cases hl:M'.2[j].getLast? with
 | none=>simp_all
 | some k=>show hk _ wm k hl
universe e
universe Mk
namespace K72
open PySem L2
open PyProof.Rows (boot_all boot_any boot_bool boot_dict boot_int boot_list boot_sorted boot_str boot_tuple)
structure OB (c9a)(c9Y):Prop where
 cl:ua K CE
 nR:MF K CE "rows"
 nB:MF K CE "probes"
 Ml:mg "range"=none
 Oz:mg "zip"=none
 a4a:mg "any"=none
 Me:mg "len"=none
 Np:mg "enumerate"=none
abbrev zB (c9Y)(R:Mk.Qu)(B:Θ):D:=.ins CE ["rows","probes"] [aI R,tb B]
section
variable {C CE:Addr}
def OB.fr [Bx:Bd](c7l):∀ C',C'=CE->e3i C'/\MF Bx.K C' "rows":=λC' h=>h▸#[T.cl,T.nR]
def OB.fb [Bx:Bd](c7l):∀ C',C'=CE->e3i C'/\MF Bx.K C' "probes":=λC' h=>h▸#[T.cl,T.nB]
def dNg (h:PE X a (tC tV)):PE X (.UnaryOp .USub a pos) (tP (rC (.int (-i)))):=(a3L a0d h).imp λe1U=>by let#[xN,r,q]:=J';show#[i,1,tP.at S.le q (by rw[r];rfl)]
def yt (d0t):cD (R.map λr=>ZB) fK=!rw Ž:=by let#[x,yi]:=Ht.mp h;let#[y,hy]:=IS.mp (L4 (p:=λr:bx=>decide (r.1=k)) |>.mpr #[x,h1,Hu h2]);rw[i4 hy,show Mk.lk R k=y.2 by unfold Mk.lk;rw[hy];rfl]
inductive c0L:Ä
 |mk {m:Nat}:m<=1000->c0L [.int m] (rw (Mk.starts m))
def a2M [Bx:Bd](c7l):Tk 1 "message_ties" (top 81) ["many"] (Pr c0L):=by
 show NA [] ?_ λe0b=>(qr (e9e c0a BO
  ĕ
  Px
  (λe0m=>dO uy dq (dNg aJ)<|Đ 0)))
 rintro _ _ @⟨m,hm⟩;show#[bc b6U vC λj _=>#[_,3,y9],TY _ _]
inductive qJ (C CE:Addr):Ä
 |mk {p k:Int}{i:Nat}{B:Θ}{R:Mk.Qu}:0<p->p<=1000000->k∈R.map (·.1)->i<B.length->WQ p š->(B.getD i []).length<=1000->qJ C CE [zB CE R B,fD C p,.int i,.int k] (.int (Mx.M9 p š Ž))
def a2P [Bx:Bd](c7l)(N7):Tm 4 "shown" "Ear.shown" (aq FG 1) ã (Pr (qJ C CE)):=by
 let YA:=T.fr;let Wr:=T.fb;show NA [] ?_ λe0b=>(qr<|e9W rfl (da (Đ 1)<|da (d9O Wr 2) (da (d9O YA 3) LS)))
 rintro _ _ @⟨p,k,i,B,R,p0,p1,hk,hi,hf,hl⟩;show#[#[#[1,#[#[3],1,.l .lst<|vv hi],#[#[3],1,.k (yt hk) kI],1],#[p0,p1,hl,hf]],1]
inductive Qc (c7L):Ä
 |mk {p:Int}{us ss:Ξ}:My.OJ p=true->p<=1000000->(us.length:Int)<p->us.length<=1000->(∀ u∈us,¬ p ∣ u)->WQ p us->Qc C [fD C p,rw us,rw ss] (.int (Mk.ub p us ss:Nat))
def c4b [Bx:Bd](hn)(c7l)(LM):Tk 2 "unbarred" (top 83) b5V (d8X Qc):=by
 show NA ["often"] ?_ λe0b=>(qC (qs 3 ND dI)
 (qC (qW HB (dV (bA (dB a1Z (Cw Bx.K rfl) rfl T.a4a boot_any (da (e9d (cS 2 [0,3] b3C) sd
  ĩ
  Px
  (λe0m=>dM bo cK (e3U LM hr.m<|e93 LS) dI)) LS))))
  (q1<|ky (yJ (i:=3) ND rfl uF dI c1z)))
 ng))
 rintro _ _ @⟨p,us,ss,hP,p1,hl,hz,nz,hF⟩;let#[u1,u2,u3]:=Mk.WU hP (ss:=ss) hl nz;ext d8O;show fJ (β:=Nat) (λj ε=>ε=[.fz<|fD C p,.fz<|rw us,.fz<|rw ss,.fz<|.int j]/\j<=e6f ss) (λj=>e6f ss - j) #[1,Iv _] λj e3m=>?_;let#[he,hj]:=J';subst he;let rd:rF YL (rA (rL 2 [0,3] (λε l=>∃ m n,rA AH (rA kz SO) ε [.lst m,.lst n]/\l=(m.zip n).map λz=>.tup [z.1,z.2]) yG<|rO BQ (rMe C "fit" (RW C) kz<|rA (rO Hi (e3E (rV 3)<|rV 0)<|rV 1) SO) uJ) SO) [some<|fD C p,some<|rw us,some<|rw ss,some<|.int j] (.bl<|Mk.O6 p j us ss):=by show⟨⟨bc ⟨_,_,⟨rfl,rfl,rfl⟩,gu _ _⟩ (by rw[JE];lia) λe9v=>#[Fa,eq_int #[vP,b8V,#[#[]]] rfl],rfl⟩,?_⟩;let:=YL.mk (by rw[Hv];rfl:(us.zip ss).map (λz=>D.bl<|decide (((j:Int) * z.1+z.2) % p=0))=_);unfold Mk.O6;rw[<- Js,List.any_map];rwa [List.any_map]at this
 by_cases z:j<e6f ss
 ·rw[u2 j z]at rd;show .inr #[rd,j+1,Fa,#[1,z],#[]]
 ·let z:j=e6f ss:=#[]
  rw[z,u1]at rd;show .inl #[by rw[z];show rd,1,by rw[z]]
inductive a8B (c7L):Ä
 |mk {p:Int}{t:Θ}{r:Ξ}:0<p->p<=1000000->(∀ z∈t,WQ p z/\z.length<=1000)->t.length<=1000->a8B C [fD C p,tb t,rw r] (rw (Mx.MZ p t r))
def a7U [Bx:Bd](N7):Tk 4 "times_row" (top 44) b7z (d8X a8B):=by
 show NA [] ?_ λe0b=>(qr (e0H (cS 1 [0,2] [c5P,"row"]) UF
  ĕ
  Px
  (λe0m=>e9W rfl<|e0z Bl)))
 rintro _ _ @⟨p,t,r,p0,p1,ht,hl⟩;show#[e7H hl λe9v=>#[_,1,#[4],#[p0,p1,(ht z hz).2,(ht z hz).1]],TY _ _]
inductive c3x (c7L):Ä
 |mk {p:Int}{m:Nat}{mixed told:Ξ}{R:Mk.Qu}:0<p->p<=1000000->(∀ k∈mixed,k∈R.map (·.1)/\(Mk.lk R k).length=m/\WQ p Ž)->mixed.length<=1000->m<=1000->c3x C [fD C p,rw mixed,rw told,aI R,.int m] (rw (Mx.MZ p (Mx.cols (mixed.map (Mk.lk R)) m) told))
def b4o [Bx:Bd](c7l)(PZ:MR 4 "times_row" b7z (d8X a8B))(P2):Tk 5 "mixed_row" (top 85) b1G (d8X c3x):=by
 show NA ["comes"] ?_ λe0b=>(qC (qs 5 ND (e0H (cS 1 [3] c1w) UF
  ĕ
  Px
  Pi))
 (qr (dF PZ hr.m rfl (e1q (da (e9e (cS 1 [5] ["place","comes"]) (We rfl T.Ml<|e1M LS)
  ĕ
  Px
  (λe0m=>dF P2 hr.m rfl<|e0z ť))<|e2e LS)))))
 rintro _ _ @⟨p,m,mixed,told,R,p0,p1,hk,hl,hm⟩;show .nx #[cv xp hl (λk h=>#[_,3,.k (yt (hk k h).1) kI]) (by rw[show tb _=.lst qi from rfl,Hv];rfl)] #[#[#[1,cv b6U vC (λe8R=>#[_,sQ,.l Ķ λe3I=>?_]) ?_,2],#[p0,p1,cW]],1]
 ·let#[k,h1,1]:=Ht.mp hr;rw[(hk k h1).2.1];show IB.mp hj
 ·unfold Mx.cols;ext d6K;rfl
 ·intro z hz;let#[j,hj,1]:=Ht.mp hz;show#[λe3D=>?_,by unfold Mx.col;simpa using hl];unfold Mx.col at hy;rw[Hv]at hy;let#[k,h1,1]:=Ht.mp hy;let:=hk k h1;show Mk.QV p0 this.2.2 j
 ·unfold Mx.cols;simpa using hm
universe e
section
variable {C CE:Addr}
abbrev yf (c9Y)(d0W)(a:Mk.Ask):D:=.tup [zB CE (R a) (B a),.int (a.2.1:Nat),.int a.2.2]
structure a6a (d2u)(d0W)(s:Mk.Ask->Int->Int):Prop where
 pl:∀ a∈A,a.2.1<(B a).length
 fit:∀ a∈A,WQ p b8W/\((B a).getD a.2.1 []).length<=1000
 has:∀ a∈A,∀ b∈A,b.2.2∈(R a).map (·.1)
 sh:∀ a∈A,∀ k,s a k=Mx.M9 p b8W (Mk.lk (R a) k)
inductive gT (C CE:Addr):Ä
 |mk {p:Int}{mixed:Ξ}{A:List Mk.Ask}{R:Mk.Ask->Mk.Qu}{B:Mk.Ask->Θ}{s:Mk.Ask->Int->Int}:p<=1000000->a6a p A R B s->Mk.Um p mixed A s->mixed.length<=1000->A.length<=1000->gT C CE [fD C p,rw mixed,.lst (A.map (yf CE R B))] (rw (Mk.Vj p mixed A s))
def b1m (n):rw AT=.lst (List.replicate n FZ):=e3x List.map_replicate
def b5x [Bx:Bd](hn)(c7l)(N5)(LM)(Qv:MR 2 "unbarred" b5V (d8X Qc)):Tk 5 "multipliers" (top 84) b6W (Pr (gT C CE)):=by
 show NA ["told","values","at","ask","steps","often"] ?_ λe0b=>(qC (d94 3 zP)
 (qC (d94 4 Gv)
 (qC (e1r (iE rfl T.Np<|e2e LS) (e1R rfl<|af Id (f1q aG)) (d8 Bx.K [5,6])
  (q1 (qI (d98 (MU hr (Đ 4)<|Đ 5))
  (qC (Yd (n:=3) (e6b (cS 3 [0,6] [c6V,"field","ask"]) Bh
  (λe0m=>e4g rfl<|af (pC 0) (af (pC 1)<|af (pC 2) aG))
  Px
  (λe0m=>e1p N5 hr.m<|e1s (da (Đ 1)<|da m8 LS))) rfl)
 (qC (qs 8 ND<|dF Qv hr.m rfl (da (Đ 0)<|da (ZM (Đ 4) ZK<|ZJ (Đ 5)) GU))
 (qC (qS (e2z (cS 2 [0,6,8] ["number",c5P,"ask","often"]) (f1p T.Oz<|e0z ql)
  ū
  Px
  (λe0m=>e3U LM hr.m<|da (VW (e2k (Đ 4)<|Đ 1)<|YI (e1b (Đ 0)<|MU hr (Đ 3) dI) dI dI) LS)) λe0j=>uo (K:=Bx.K) (n:=2))
 (q1 (qS (bd (i:=4) ND rfl rfl rfl (cS 2 [0,8] b3C) (f1p T.Oz<|e1M GU)
  ū
  Px
  (λe0m=>e3U LM hr.m<|e93 LS)) λe0j=>uo (K:=Bx.K) (n:=2))))))
  q0)))
 ng)))
 rintro _ _ @⟨p,mixed,A,R,B,s,p1,K1,pre,mz,az⟩;let p2:=((My.M3 p).mp pre.prime).1;show .nx #[wF,yW,#[mz]] (.nx #[wF,yW,#[az]] ?_);show cB A.zipIdx (u:=λz=>.tup [.int (z.2:Nat),f1x B z.1]) (λi ε=>∃ o5 o6 o7 o8,ε=[.fz<|fD C p,.fz<|rw mixed,.fz<|.lst c0Z,.fz<|rw (e2A i).1,.fz<|rw (e2A i).2,o5,o6,o7,o8]) ⟨_,_,_,_,by unfold Mk.Rg;rw[b1m,b1m];rfl⟩ ⟨_,⟨rfl,rfl⟩,by rw[List.zipIdx_map,Hv];rfl⟩ (λn z ε hz J'=>?_) λe3m=>?_
 ·let#[kO]:=J';rw[List.getElem?_zipIdx,Nat.zero_add]at hz;let#[a,ea,1]:=HZ.mp hz;subst he;let hn:n<A.length:=(Ho.mp ea).1;let am:=Hs ea;let I:=Mk.Vi pre n #[];let st:e2A (n+1)=Mk.QR p mixed A s (e2A n) n:=rfl;let ega:e9i (0,0,0)=a:=by rw[Hq,ea];rfl
  unfold Mk.QR Mk.Xa at st;rw[ega]at st;rw[st];clear st;generalize Mk.Rg p mixed A s n=M at I;let rd:=eq_int (ε:=[some<|fD C p,some<|rw mixed,some<|.lst c0Z,some<|rw M.1,some<|rw M.2,some<|.int n,some<|f1x B a,o7.a,o8.a]) (ra:=e27 wc<|rV 5) (rb:=rC<|.int 0) #[2,.l .lst<|cM (by rw[I.l2];show hn)] rfl;ext d8P;by_cases c0:M.2.getD n 0=0
  ·rw[Hu c0]at rd;rw[if_neg λz=>z c0];let tl:((M.2.take n).length:Int)<p:=by
    rw[HF];let:=pre.MW
    lia
   let tz:∀ u∈M.2.take n,¬ p ∣ u:=λu hu=>by
    let#[Dj]:=IG.mp hu;ext d6X;let z1:=I.nz i #[];let z2:=Mk.QV #[] I.f2 i;rw[Hq,Hm<|show i<M.2.length by lia]at z1 z2;simp only[Option.getD_some]at z1 z2;intro z;let:=Lh #[] z
    lia
   let u3:=(Mk.WU pre.prime (ss:=A.map λb=>s b a.2.2) tl tz).2.2;let ub:=Qc.mk (C:=C) (ss:=A.map λb=>s b a.2.2) pre.prime p1 tl (by rw[HF];lia) tz λu hu=>I.f2 u<|Lj hu;generalize Mk.ub p (M.2.take n) (A.map λb=>s b a.2.2)=o at u3 ub ⊢;show#[_,.t rd<|.nx ⟨cv (xs:=A) (u:=f1x B) (h:=λb=>.int<|s b a.2.2) (d:=rw (A.map λb=>s b a.2.2)) xp az (λe1C=>#[_,#[2],1,by decide,#[2,m4,1],by rw[K1.sh b hb];show#[#[],p1,K1.has b hb a am,K1.pl b hb,(K1.fit b hb).1,(K1.fit b hb).2]])<|Fl.rt.inj pY⟩ (.nx #[#[1,#[1,.lst,1,#[1],by rw[cX,<- JD]],2],ub]<|.nx ⟨cv (xs:=mixed.zip M.1) (u:=λz=>.tup vj) (h:=λz=>.int<|((o:Int) * z.2+if z.1=a.2.2 then 1 else 0) % p) (d:=rw (List.zipWith (λk x=>((o:Int) * x+if k=a.2.2 then 1 else 0) % p) mixed M.1)) ku (by rw[JE];lia) (λe9v=>#[Fa,vP,#[#[#[2,Eh],?_,.i],1],#[#[]]]) ?_⟩ #[cv (xs:=M.2.zip<|A.map λb=>s b a.2.2) (u:=λz=>.tup vj) (h:=λz=>.int<|((o:Int) * z.1+z.2) % p) (d:=rw (List.zipWith (λv x=>((o:Int) * v+x) % p) M.2<|A.map λb=>s b a.2.2)) ku (by rw[JE,I.l2];lia) (λe9v=>#[Fa,vP,b8V,#[#[]]]) ?_]),_,_,_,_,1]
   ·let r1:=eq_int (ε:=[some<|.int z.1,some<|.int z.2,some<|fD C p,some<|f1x B a,some<|.int o]) (ra:=rV 0) (rb:=e27 (rV 3)<|rC (.int 2)) rfl m4;by_cases e:z.1=a.2.2
    ·rw[Hu e]at r1;rw[if_pos e];show .t r1 rfl
    ·rw[Hw e]at r1;rw[if_neg e];show .f r1 rfl
   ·rw[<- Js];ext d7E
   ·rw[<- Js];ext d7E
  ·rw[Hw c0]at rd;rw[if_pos c0];show#[c6T,xT,1]
 ·let#[kO]:=J';subst he;rw[List.length_zipIdx];show#[2]
universe e
open L2.Wy
section
variable {c:Cl}
def EH (d0D){u:α->D}{J:Ú}(c8d)(k)(fin:∀ ε',I xs.length ε'->∃ ε2,r2 ε' pG/\J ε2):∃ ε',e26 nK/\J ε':=
 let #[ze]:=e6G k;let #[ε2,zh]:=e6H h2
 #[ε2,.nx h1 h3,h4]
inductive iP (c:Cl):Ä
 |mk {S:NS}:S.LK.length<=1000->iP c [aK c S,.int 0] (tb [[]])
theorem jq:Sum Ξ Θ->Θ
 | .inl _=>[]
 | .inr w=>w
theorem b7 (S:NS)(N m:Nat)(ks:Ξ):Δ:=S.Mi.map λg=>jq (bb mr ħ g N m)
abbrev UB (t:Δ):D:=.lst (t.map tb)
abbrev Td (t:List Δ):D:=.lst (t.map UB)
inductive cy (c:Cl):Ä
 |mk {S:NS}{m N:Nat}{ç:Θ}:ç.length<=1000->(∀ ks∈ç,V1 S (!ks) N/\∀ g∈S.Mi,∃ w,bb mr ħ g N m=.inr w)->S.LO.length<=1000->1<=m->m<=1000->m * N+N<=1000->cy c b8X (Td (ç.map (b7 S N m)))
def MX:au [uK,"chosen","listeners","told","choice","by_listener","listener","found"] é (d9i 80):=PD
def b03 [Bx:Bd](LJ)(OL):Tk 5 "ways_by_choice" (top 80) é (d9m cy):=by
 ext d27;let ND:=MX.nd;show F.dv MX ?_ λe0M=>(qC (d9M 3 LJ)
 (qC c2y
 (qC (e0A Bh Id (aM 5)
  (qC c2D
 (qC (e0A (av<|Đ 3) zi (aM 7)
  (qC Ŕ
 (qC (qI Wp
  Lz
  q0)
 ŋ)))
 (qZ 6<|q1 (qA SZ λe1j=>h)))))
 (qr<|Đ 4))))
 rintro _ _ @⟨S,m,N,ç,hc,hw,hp,Vo,hm,hz⟩;let ll:S.Mi.length<=1000:=by unfold NS.Mi;ext d6y
 show#[1,.inl<|.nx ⟨rfl,rfl,by decide,⟨hp⟩⟩ (.nx ⟨⟨rfl,by simp,rfl⟩⟩ ?_)];show cB ç (λi ε=>∃ o5 o6 o7 o8,ε=[.fz<|aK c S,.fz<|.int m,.fz<|tb ç,.fz<|aQ S.Mi,.ow<|Td Š,o5,o6,o7,o8]) ⟨_,_,_,_,rfl⟩ ⟨rfl,.l .lst⟩ (λi ks ε hk J'=>?_) λe3m=>?_
 ·let#[kO]:=J';ext d7D;let#[O,W]:=hw ks<|Hs hk;show⟨_,rfl,qd ⟨⟨rfl,by simp,rfl⟩⟩ ?_⟩;show EH S.Mi (λj ε=>∃ o7 o8,ε=[.fz<|aK c S,.fz<|.int m,.fz<|tb ç,.fz<|aQ S.Mi,.ow<|Td Š,.fz<|rw ks,.ow<|UB ((S.Mi.take j).map λg=>jq<|e7N (S.Mt.map (·.1)) g N m),o7,o8]) ⟨_,_,rfl⟩ ⟨rfl,.l .lst⟩ (λj g ε hg J'=>?_) λe3m=>?_
  ·let#[o7,o8,he]:=J';subst he;let#[wy,VO]:=W g<|Hs hg;let jl:=(Ho.mp hg).1;let c1:=f2h (Hs hg) Vo hm hz;rw[VO]at c1;let rd:=eq_str (ε:=[some<|aK c S,some<|.int m,some<|tb ç,some<|aQ S.Mi,some<|Td Š,some<|rw ks,some<|UB ((S.Mi.take j).map λg=>jq<|bb c00 ħ g N m),some<|.str g,some<|j9 (.inr wy)]) (ra:=e27 (rV 8)<|rC FZ) (rb:=rC<|.str "cut") m4 rfl;rw[Hw<|by decide]at rd;show#[_,1,_,.nx #[#[5],c1]<|.nx Em #[1,by simp;lia,.z m4],.fz<|.str g,.fz<|j9 (.inr wy),?_];rw[aW hg,Hx,HL,Jg,VO,show UB (_++[jq<|.inr wy])=.lst (List.map tb _++[tb wy]) from congrArg D.lst Hx];rfl
  ·let#[o7,o8,he]:=J';ext d3M;show#[_,#[_,2,by simp;lia,.z rfl],.fz<|rw ks,.fz<|UB (b7 S N m ks),o7,o8,?_];rw[aW hk,Hx,HL,Jg,show Td (_++[b7 S N m ks])=.lst (List.map UB _++[UB<|b7 S N m ks]) from congrArg D.lst Hx];rfl
 ·let#[xT,he]:=J';ext d8Q
def Nm:au [c6N,zd,"needed"] ä (aa xg):=PD
universe e
universe K72
namespace L2
open PySem PySem.Spec PyProof.Rows
abbrev Er:=Addr×List (Str×D)
theorem Qp (H)(dx)(fs:List (Str×D)):Prop:=∃ ys,H dx=!.xd ys/\Paired (λ(y:Str×V) (d:Str×D)=>y.1=d.1/\DR H d.2 y.2) ys fs
inductive WM (d0w)(vs:π)(H:Hp)(x2:VK)(E:XK):Prop
 |mk:∀ F l C,gR F H->Md F l vs->R l C->(∀ dx H',gR H H'->Qp H' dx C.2->E c1E (!dx) H')->WM R vs H x2 E
abbrev Rz:=Ev->Er->Prop
theorem tX (c9C)(F0 H0:Hp)(e:Rz):TS:=λ_ e3s=>∃ F ε C,e6V H ε/\e ε C/\∀ σ' dx H',gR H0 H'->Qp H' dx C.2->f1y H'
theorem QX (X)(c9C)(st)(e:Rz):Prop:=∀ F0 H0,e1l (tX W F0 H0 e)
theorem CW (X)(c9C)(st:Í)(e:Rz):Prop:=∀ F0 H0,Qe X st (tX W F0 H0 e)
section
variable {st:Stmt}{r:Rs}{z:Rz}{rt:Å}
inductive zNx (r:Rs)(z:Rz)(d1i):Prop
 |mk {ε1:Ev}:r ε (.nx ε1)->z ε1 C->zNx r z ε C
def xC (h:e1z r)(k:CW X W ss z):f0n (zNx r z):=λe18=>(ag oV<|k F0 H0).imp λe0t=>by let#[jz,C,S,#[yi],p]:=J';show#[jz,_,S,h1,λf2B=>#[F',_,C,S',h2,p]]
def x1 (h:QX X W st z):f0n z:=λe18=>(ag oV Q9).imp λE e3s h=>h
inductive zIf (rt:Å)(z:Rz)(d1i):Prop
 |t:rt ĭ true->z ε C->zIf rt z ε C
def a2S (h:e8V uD)(ha:CW X W a z):QX X W CZ (zIf rt z):=λe18=>(dJ h (ha F0 H0) Q9).imp λE e3s ⟨F,ε,C,S,⟨h1,h2⟩,p⟩=>
 #[_,_,true,S.a,h1,λe2t=>#[jz,C,S.Nb e1,h2,p]]
inductive CB (d1f)(zb:Rz):Ev->List D->Er->Prop
 |next {ε ε1 ε2:Ev}{d:D}{l:χ}{C:Er}:q d ε ε1->rb ε1 pG->CB q rb zb ε2 l C->CB q rb zb ε (d::l) C
 |ex {ε ε1:Ev}{d:D}{l:χ}{C:Er}:q d ε ε1->zb ε1 C->CB q rb zb ε (d::l) C
inductive a23 (ri:Ri)(d1f)(zb:Rz)(d1i):Prop
 |mk {l:χ}:ri pA l->CB q rb zb ε l C->a23 ri q rb zb ε C
instance xL (hp)(hc)(hi:PI X tg iter (tI ri))(ht:PG X tg g)(hg:YN g q)(hb:SE X ss rb)(hx:CW X W ss zb)(hs):
  QX X W (.For tg iter ss [] pos) (a23 ri q rb zb):=λF0 H0=>(bJ hp hc hi ht (tb:=λE σ H=>tQ F0 H0 rb E σ H\/tX W F0 H0 zb E σ H) (λñ s σ H D I h=>h.elim (hb F0 H0 ñ s σ H D I)<|hx F0 H0 ñ s σ H D I) hs).imp fun E σ H ⟨F,ε,C,S,.mk (l:=l) h1 h2,p⟩=>by
 show#[F,_,l,S.z,h1,λJ H1 e1 hJ=>?_];show#[λi m σ H=>m=l.length - i/\i<=l.length/\∃ F' ε',gR _ F'/\Ss F0 H0 F' σ H ε'/\CB q rb zb ε' (l.drop i) C,#[_,1,Iv _,_,ε,gR.refl _,S.grow e1,h2],?_];rintro i m σ H ⟨rfl,hi,F',ε',u,S',w⟩;by_cases c:i<l.length
 ·rw[Jy c]at w;let#[go,yl]:=(hJ.mono u).go H i l[i] S'.le<|Hm c;show .inr #[go,?_]
  cases w with
  | next t b w=>
   show#[λσ' H'=>∃ F2,gR _ F2/\Ss F0 H0 F2 σ' H' _,λσ2 H2 J'=>(by let#[F2,u2,S2]:=J';show#[_,#[0],1,c,F2,_,u2,S2,w]),λx H2 y=>?_];let#[e2,hx]:=yl x H2 y;show hg _ _ _ _ _ _ _ _ x _ (S'.grow e2) hx t λσ3 S3=>.inl #[_,_,_,S3,b,λσ4 H4 F4 u4 S4=>#[F4,u.trans<|(ao S'.le).trans u4,S4]]
  | ex t b=>
   show#[λ_ _=>False,λ_ _ z=>z.elim,λx H2 y=>?_];let#[e2,hx]:=yl x H2 y;show hg _ _ _ _ _ _ _ _ x _ (S'.grow e2) hx t λσ3 S3=>.inr #[_,_,_,S3,b,p]
 ·rw[L7<|by omega]at w
  cases w
inductive ZU (c7L)(d0X)(d0Q):Prop
 |mk:∀ F ea l fs ws,vs=.ref ea::ws->H ea=!Cf ea C->((∀ b o,F b=!o->b≠ea/\H b=!o))->Md F l ws->R l fs->(∀ dx H',(∀ b o,b≠ea->H b=!o->H' b=!o)->H' ea=!va ea C dx->Qp (aU ea H') dx fs->Q .non H')->ZU C R vs H Q x3
inductive zRz (c7L)(rs:Á)(d0X)(ε:Ev):Er->Prop
 |mk {l:χ}{fs:List (Str×D)}:rs ĭ l->R l fs->l.length<=1000->zRz C rs R ε (C,fs)
def b7D (d1a)(hc)(hw:c3U X W)(c8L)(Dd:e22 (ZU C R))(c7n)(c72)(c9d):
  QX X W a9p (zRz C rs R):=λe18=>(BB O hc hw hg Dd hr ha OW U5 uz).imp λe0t=>by
 let#[jz,C',S,h,p]:=J';let#[xu]:=h;show OH.go S.a h1 λvs e0o=>#[HU (by rw[q1.length];show h3)<|by decide,λea Sa=>#[_,ea,_,_,vs,1,ae,λb o w=>?_,q1,h2,λdx H' k1 k2 k3=>#[1,dx,k2,p _ _ _ (λb o w=>?_) k3]]]
 ·let:=e1n w;let ne:=aj this Sa
  simp_all [a9]
 ·let w1:=e1 _ _<|S.b0 _ _ w;let ne:=aj w1 Sa
  simp_all [aR,a9]
inductive CJ (rs:Á)(d0w)(d1i):Prop
 |mk {l:χ}:rs ĭ l->R l C->CJ rs R ε C
def Sm.go (S)(h:CJ rs R ε C)(p:∀ σ' dx H',gR H0 H'->Qp H' dx C.2->f1y H'):Sm (WM R) W sP σ H Q:=by ext d75;show OH.go S.a h1 λvs e0o=>#[_,_,C,S1.le,q1,h2,λdx H' e=>p _ _ _<|S.b0.trans (e1.trans e)]
def a2a (h:e1l (kg (Sm (WM R) W sP) Ep)):QX X W st (CJ rs R):=λe18=>h.imp λe0t=>by let#[jz,C,S,h,p]:=J';show Sm.go S h p
universe e
section
variable {K:Ψ}{st:Stmt}{k:Nat}{R:List D->Er->Prop}{z:Rz}
theorem b4l (n m:Nat)(z:Rz)(d0w):Prop:=∀ l C,R l C->l.length=m/\z (ent n l) C
def PY.dvE (c7C)(c7s):e1O (WM R):=
 F.okX S a4T λe0d J'=>by let#[F,l,C,s1,hl,hR,q]:=J';show#[c3n]
def Nc.dvE (d0b)(c7s):e1O (WM R):=
 Nc.okX F S a4T λe0d J'=>by let#[F,l,C,s1,hl,hR,q]:=J';show#[c3n]
def Mq.qx (F:e0e NP k f fd ps sp):e0e uA k f fd ps sp:=
 #[F.len,λe5I=>JI (f1Q hv hs) λr s' h=>by
  cases r with
  | error e=>show h.elim
  | ok f=>cases f <;> show h]
def Mq.or (d0h)(F':e6S ps sp'):e6S ps λe4O=>e1I E\/sp' vs H Q E:=
 #[λe4O h=>h.elim (F.len vs H Q E)<|F'.len vs H Q E,λe5I=>hs.elim (f1Q hv)<|F'.run A outer s H args us vs Q E hr he hb hv]
universe e
open PySem.Calls PySem.W
open PySem.Builtin PySem.Builtin.ObjectAttr
def DQ (c9c)(Wk:ox.dict=!d)(WG:s.heap.Ns1 d m)(wi:Within b1S L)(hL:L.length<=1000)(c8K)(h:∀ h' Y9,h'.Ns1 d b1S->(∀ b o,b≠d->s.heap.get? b=!o->h'.get? b=!o)->R BM { s with heap:=h',toks:=Y9 }):
  codeAny Ē A b0M R s:=by
 ext d7N;ext d7o;let I:f1z x ox C !od:=#[hx,V6,by unfold notCls;rw[Rk],by rw[Wk];show Uv]
 ext d73;let ne:cd.mro.isEmpty=false:=by cases q:cd.mro with|nil=>rw[q]at ho;cases ho|cons _ _=>rfl
 ext d2z;let L3:e8q none:=by
  cases attr with
  | none=>show .now
  | some a=>
   ext d4b
   cases b with
   | true=>cases e
   | false=>show .now
 ext d3c;let#[U6,g,dr,t,os]:=s;ext d4K;ext d4e;show Hk<|Hr (Hk (wpAny_nsSet1 WG λh' V4 hs=>?_));let#[wN]:=V4.count wi;show Hk (e3p (by rw[hdD];show pastItsLine_dict<|HU hcD (by rw[LG];lia)) ?_);show Hr (h h' _ V4 λb ob hbd hb=>(hs.2 b hbd).trans hb)
section
variable {X:Cx}{σ:St}{H:Hp}
def ixN:∀ {fs:Ï},fs.lookup g=!z->g∈fs.map (·.1):=by
 intro r'
 induction r' with
 | nil=>
  intro h
  cases h
 | cons p fs ih'=>
  intro h;rw[Kz]at h
  cases hb:g==p.1 with
  | true=>simp_all
  | false=>rw[hb]at h;show HM _ (ih' h)
def c0n (I)(e:H ea=!va ea C dx)(ed:H dx=!.xd fs)(hz:fs.length<=900)(T:eX X.K C f)(ry)(h:∀ s',e0c (d86 dx c1F) s'->Q () s'):e2w c1i Q E s:=by
 ext d7m;let#[mA,WG,a4G]:=(I.LY dx _ ed)
 ext d7o;let IA:f1z ea ox C !od:=#[hx,hc,by unfold notCls;rw[hd],by rw[Wk];show Uv]
 let wi:=Within.cons f u λg hg=>by
  let hr:=a4G g
  cases hl:fs.lookup g with
  | none=>rw[hl]at hr;cases hm:mA g with
   | none=>show absurd hm hg
   | some z=>rw[hm]at hr;show (hr).elim
  | some z=>show ixN hl
 show set_plain I.Oh IA T.sa (DQ I.Oh hx hc hd Wk WG wi (by rw[I0,Hl];lia) T.ov T.tk T.hd λh' Y9 V4 hk=>?_);show h _ (I.SA (ch:=[]) rfl ?_ ?_ I.bare λb z=>absurd z<|by simp)
 ·let old:∀ b,b≠dx->upd H dx (.xd<|(f,y)::fs) b=H b:=λe1C=>a9 hb;show#[c29]
  ·show hk b o (λz=>by rw[z,ed]at n;cases n) q
  ·show#[o.slots,e7q (λz=>by rw[z,ed]at n;cases n) q]
  ·rw[old b (λz=>by rw[z,ed]at n;cases n)];show n
  ·by_cases hb:b=dx
   ·let#[o',_,_,ho',_]:=id V4
    simp_all
   ·show#[o,e7q hb q]
  ·ext d42
  ·ext d42
 ·intro a v q;by_cases hb:a=dx
  ·rw[hb,ae]at q
   ext d4M
   ·ext d34
   ·rw[if_neg hg];let:(g==f)=false:=by simpa using hg
    ext d74;show a4G g
  ·rw[a9 hb]at q;show (e53 v q).Nb b2f (λc Pq=>?_) λc xs Pq=>?_
   ·grind
   ·ext d4v;show Pq
   ·ext d4v;show Pq
inductive c5B (c7L)(c8y):Prop
 |mk:∀ ea dx fs,x=.ref ea->H2 ea=!va ea C dx->H2 dx=!.xd fs->fs.length<=900->D.nx σ (upd H2 dx c1F)->c5B C f D σ y x H2
theorem a0v (C)(ta tv:TE)(f):TS:=λe6n=>tv σ H λy H1=>ta σ H1 λx H2=>c5B C f D σ y x H2
def wA (c7p):PS X yA (a0v C ta tv f):=by ext d56;let#[x,Ej,rx,ea,F7,he,hd,hz,q2]:=J';ext d5T;show c0n I2 he hd hz T ry λf2t=>#[σ,_,I3,q2]
universe e
universe L2
namespace K72
open PySem L2
open PyProof.Rows (boot_all boot_bool boot_dict boot_int boot_list boot_sorted boot_str boot_tuple)
def a7m:au Ā Ā (aa qz):=PD
def jE [Bx:Bd](T:e7O C "needed"):Tm 1 "__init__" "SmallPrime.__init__" qz Ā (ZU C λl fs=>∃ i:Int,l=mB/\fs=(mP:List (Str×D))):=by
 ext d27;show F.ok a7m c01 cJ
 ·let#[_,XL,_,_,hl,#[i,1,_],_]:=h;let#[v,_,1,_,h]:=hl
  cases h;rfl
 ·let#[_,XL,he,_,hl,#[i,2],q]:=h;let#[v,_,1,hv,h]:=hl
  cases h
  cases hv;show#[_,ak<|Ae T (pv 0) (pv 1) rfl,?_];show⟨_,rfl,_,rfl,ea,rfl,he,λdx hd ne=>q dx _ (λb o nb hb=>?_) ae #[_,by rw[aR ne,a9 ne];show ae,.cons c2E .nil]⟩;rw[a9 nb,a9<|aj hb hd];show hb
inductive a4v (c84):Prop
 |mk (a:Addr) (xs:π):vs=rf->H a=!.lst xs->(∀ l H',gR H H'->H l=none->H' l=!.lst xs->Q z8 H')->a4v vs H Q E
def b0y:au yR yR (d9i 5):=PD
def c3J [Bx:Bd](h1:Bx.mg "isinstance"=none)(h2:Bx.mg "list"=none)(TL:W.kitOne Bx.K Ł Ł=!true):Tk 1 "kept" (top 5) yR a4v:=by
 ext d27;show F.k b0y λe2v=>?_
 ·let#[a,xs,1,ha,q]:=h;show#[_,ag (dJ (bA<|f0o h1 bQ (d83 lr (kr (v:=.ty "list") rfl h2 boot_list rfl))) (d97 (cU (listS Bx.K) rfl h2 boot_list<|a8 lr K')) MQ) Q9,?_];show#[_,1,.ref a,nJ,.lst ha,TL,_,1,Gz ?_];show#[_,1,a,xs,1,.inl<|Ma.of ha,λl H' e h0 h1=>q l H' e h0 h1]
def a9w:au å å (aa Dg):=PD
def wV [Bx:Bd](T1:e7O C "fallen")(T2:e7O C "name")(T3:e7O C "numbers")(Up:MR 1 "kept" yR a4v):Tm 2 "__init__" "Cut.__init__" Dg å (ZU C λl fs=>∃ xs z ys,l=b6X/\fs=(a61:List (Str×D))):=by
 ext d27;show F.ok a9w c01 cJ
 ·let#[_,XL,_,_,hl,#[xs,z,ys,1,_],_]:=h;let#[P8,nJ,nJ,_,h]:=hl
  cases h;rfl
 ·let#[F0,XL,he,hF,hl,#[xs,z,ys,2],q]:=h;let#[P8,#[a,us,1,ha,dxs],P8,hz,P8,#[b,vs,1,hb,dys],h]:=hl
  cases hz
  cases h;let ha:=(f1A ha).2;let#[nbe,hb]:=f1A hb;show#[_,ag (Ae T1 lr (be Up hr.m rfl<|e6g K') rfl)<|ag (wA T2 lr jF rfl) (ak<|wA T3 lr (be Up hr.m rfl<|f1B K') rfl),?_];show⟨_,rfl,a,us,rfl,ha,λla e2t h1 k1=>#[_,1,ea,1,e1J he,λdx UT ne=>?_]⟩;show#[yY,ea,jT,ae,(by rw[a9 ne];show ae),(by change 1<=900;decide),?_];let kb:∀ c o,c≠ea->H c=!o->(upd (upd (upd H1 dx<|.xd [c02]) ea<|va ea C dx) dx<|.xd [("name",.str z),("fallen",.ref la)]) c=some o:=λc o nc hc=>by let hc1:=e1J hc;rw[a9<|aj hc1 UT,a9 nc,a9<|aj hc1 UT];show hc1
  show#[_,1,b,vs,1,kb b _ nbe hb,λlb e15 h2 k2=>?_];show#[_,1,ea,jT,e1x (by rw[a9 ne.symm];show ae),e1x ae,(by change 2<=900;decide),?_];let nl:∀ c o,upd _ dx _ c=!o->c≠lb:=λc o hc z=>by rw[z,h2]at hc;cases hc
  let nle:la≠ea:=λz=>by rw[z]at h1;rw[h1]at he;cases he
  let nld:la≠dx:=λz=>by rw[z,UT]at k1;cases k1
  let ebd:=(nl dx _ ae).symm;let ebe:=(nl ea _ (by rw[a9 ne.symm];show ae)).symm;let fin:∀ c o,c≠ea->H c=!o->e4Z dx (.xd [("numbers",.ref lb),("name",.str z),c02]) c=!o:=λc o nc hc=>by rw[a9<|aj (e1J hc) UT];show e2 _ _ (kb c o nc hc)
  let sm:gR F0 (aU ea _):=λc o w=>by rw[aR (f1A w).1];show fin c o (f1A w).1 (f1A w).2
  show q dx _ fin ?_ #[_,by rw[aR ne];show ae,.cons #[1,lb,vs,1,by rw[aR ebe,a9 ebd];show k2,f2i dys]<|.cons c2E (.cons #[1,la,us,1,?_,f2i dxs] .nil)]
  ·rw[a9 ne.symm];show e2 _ _ (by rw[a9 ne.symm];show ae)
  ·rw[aR nle,a9 nld];show e2 _ _ (by rw[a9 nld,a9 nle,a9 nld];show k1)
open L2.Wy
open PyProof.Rows (boot_any)
def c58:∀ (n:Nat)(xs:List α)(I:Ö){ε:Ev},I 0 ε->xs[n]?=!x->(∀ i y ε,i<n->xs[i]?=!y->I i ε->∃ ε1,q (u y) ε ε1/\∃ ε2,e58 pG/\I (i+1) ε2)->
  (∀ ε,I n ε->∃ ε1,e3h ε1/\zb ε1 C)->CB q rb zb ε FO C:=by
 intro n
 induction n with
 | zero=>
  intro xs I ε h0 hx _ fin
  cases xs with
  | nil=>cases hx
  | cons y xs=>cases hx;let#[ε1,a,b]:=fin ε h0;show .ex a b
 | succ n ih=>
  intro xs I ε h0 hx k fin
  cases xs with
  | nil=>cases hx
  | cons y xs=>
   let#[ε1,a,ε2,b,c]:=k 0 y ε (Nat.succ_pos _) rfl h0;show .next a b (ih xs (λi=>I<|i+1) c hx (λi y ε hi hy h=>k (i+1) y ε (Nat.succ_lt_succ hi) hy h) fin)
section
variable {c:Cl}{aC:Addr}
inductive B8 (S:NS)(m N:Nat)(ç:Θ)(ks:Ξ)(g:Str)(ns:Ξ):Prop
 |mk {i n:Nat}:ç[i]?=!ks->S.Mi[n]?=!g->bb mr ħ g N m=.inl ns->(∀ j h,j<n->S.Mi[j]?=!h->∃ w,bb mr ħ h N m=.inr w) ->
  (∀ j XQ,j<i->ç[j]?=!XQ->∀ h∈S.Mi,∃ w,bb (aP S.LK !XQ) ħ h N m=.inr w)->B8 S m N ç ks g ns
theorem EW (ks:Ξ)(g:Str)(ns):List (Str×D):=[("numbers",rw ns),("name",.str g),("fallen",rw ks)]
inductive B4 (c:Cl)(aC:Addr):List D->Er->Prop
 |mk {S:NS}{m N:Nat}{ç:Θ}{ks:Ξ}{g:Str}{ns:Ξ}:ç.length<=1000->(∀ ks∈ç,V1 S (!ks) N)->B8 S m N ç ks g ns->S.LO.length<=1000->1<=m->m<=1000->m * N+N<=1000->B4 c aC b8X (aC,EW ks g ns)
instance kF [Bx:Bd](hn)(F:Fu Bx.K "ways_by_choice" (top 80) f fd)(LJ)(OL)(XH:ER 2 "Cut" aC å (ZU aC λl fs=>∃ xs z ys,l=[.lst xs,.str z,.lst ys]/\fs=([("numbers",.lst ys),("name",.str z),("fallen",.lst xs)]:List (Str×D)))):SR (RX Bx.P Bx.w) 5 f fd é (WM (B4 c aC)):=by
 let ND:=MX.nd;show F.dvE MX ?_ λLR A outer s H E hr=>(xC (qS (pS 3 ND<|gS (Đ 0) LJ hr.m) λ_ _ _ h=>h)
 (xC (qO (pS 4 ND<|cO LS) λ_ _ _ h=>h)
 (x1 (xL PassesOwn.leaving rfl (b2Z<|Đ 2) Id (aM 5)
  (qC (qo 6 ND<|cO LS)
 (qC (Tf PassesOwn.leaving rfl (av<|Đ 3) (pN 7 ND) (aM 7)
  (qC Ŕ
 (qC (qI Wp
  (q1 qN)
  q0)
 ŋ)))
 (qZ 6<|q1 (qA SZ λ_ _ _ h=>h))))
  (xC (qO (pS 6 ND<|cO LS) λ_ _ _ h=>h)
 (x1 (xL PassesOwn.leaving rfl (b2Z<|Đ 3) (pN 7 ND) (aM 7)
  (qC Ŕ
 (qC (qI Wp
  (q1 qN)
  q0)
 ŋ))
  (xC (qS (pS 8 ND<|dF OL hr.m rfl (da (Đ 0)<|da (Đ 7) (da (Đ 1)<|da (Đ 5) LS))) λ_ _ _ h=>h)
 (x1<|a2S Wp (x1<|b7D nA rfl c56 rfl XH hr.m (da (Đ 5)<|da (Đ 7) (da (dS (aN hr) (Đ 8)<|dC aJ) LS))))))))))))
 rintro _ _ @⟨S,m,N,ç,ks0,g0,ns,hc,hw,⟨hi0,hg0,ec,hnn,hb⟩,hp,Vo,hm,hz⟩;rename_i i0 n0;let ll:S.Mi.length<=1000:=by unfold NS.Mi;rw[Hl];show HU (Im _ _) hp
 show⟨rfl,.mk ⟨rfl,rfl,by decide,⟨hp⟩⟩<|.mk ⟨⟨rfl,by simp,rfl⟩⟩ (.mk rfl ?_)⟩;show c58 i0 ç (λi ε=>∃ o5 o6 o7 o8,ε=[.fz<|aK c S,.fz<|.int m,.fz<|tb ç,.fz<|aQ S.Mi,.ow<|Td Š,o5,o6,o7,o8]) ⟨_,_,_,_,rfl⟩ hi0 (λi ks ε hi hk J'=>?_) λε J'=>?_
 ·let#[o5,o6,o7,o8,he]:=J';subst he;let lt:=(Ho.mp hk).1;let O:=hw ks<|Hs hk;let W:=hb i ks hi hk;show⟨_,rfl,qd ⟨⟨rfl,by simp,rfl⟩⟩ ?_⟩;show EH S.Mi (λj ε=>∃ o7 o8,ε=[.fz<|aK c S,.fz<|.int m,.fz<|tb ç,.fz<|aQ S.Mi,.ow<|Td Š,.fz<|rw ks,.ow<|UB ((S.Mi.take j).map λg=>jq<|bb (aP S.LK<|some ks) (S.Mt.map (·.1)) g N m),o7,o8]) ⟨_,_,rfl⟩ ⟨rfl,.l .lst⟩ (λj g ε hg J'=>?_) λε J'=>?_
  ·let#[o7,o8,he]:=J';subst he;let#[wy,VO]:=W g<|Hs hg;let jl:=(Ho.mp hg).1;let c1:=Pn.mk (c:=c) O (Hs hg) Vo hm hz;rw[VO]at c1;let rd:=eq_str (ε:=[some<|aK c S,some<|.int m,some<|tb ç,some<|aQ S.Mi,some<|Td Š,some<|rw ks,some<|UB ((S.Mi.take j).map λg=>jq<|bb (aP S.LK<|some ks) ħ g N m),some<|.str g,some<|j9 (.inr wy)]) (ra:=rO Sub (rV 8)<|rC (.int 0)) (rb:=rC<|.str "cut") #[2,.t rfl] rfl;rw[Hw<|by decide]at rd;show#[_,1,_,.nx #[#[5],c1]<|.nx (.f rd rfl) #[1,by simp;lia,.z #[2,.t rfl]],.fz<|.str g,.fz<|j9 (.inr wy),?_];rw[aW hg,Hx,HL,Jg,VO,show UB (_++[jq<|.inr wy])=.lst (List.map tb _++[tb wy]) from congrArg D.lst Hx];rfl
  ·let#[o7,o8,he]:=J';rw[Iu]at he;subst he;show#[_,#[_,2,by simp;lia,.z rfl],.fz<|rw ks,.fz<|UB (b7 S N m ks),o7,o8,?_];rw[aW hk,Hx,HL,Jg,show Td (_++[b7 S N m ks])=.lst (List.map UB _++[UB<|b7 S N m ks]) from congrArg D.lst Hx];rfl
 ·let#[o5,o6,o7,o8,he]:=J';subst he;let O:=hw ks0<|Hs hi0;show⟨_,rfl,.mk ⟨⟨rfl,by simp,rfl⟩⟩ (.mk (l:=S.Mi.map .str) rfl ?_)⟩;show c58 n0 S.Mi (λj ε=>∃ o7 o8,ε=[.fz<|aK c S,.fz<|.int m,.fz<|tb ç,.fz<|aQ S.Mi,.ow<|Td ((ç.take i0).map<|b7 S N m),.fz<|rw ks0,.ow<|UB ((S.Mi.take j).map λg=>jq<|bb (aP S.LK<|some ks0) (S.Mt.map (·.1)) g N m),o7,o8]) ⟨_,_,rfl⟩ hg0 (λj h ε hj hh J'=>?_) λε J'=>?_
  ·let#[o7,o8,he]:=J';subst he;let#[wy,VO]:=hnn j h hj hh;let jl:=(Ho.mp hh).1;let c1:=Pn.mk (c:=c) O (Hs hh) Vo hm hz;rw[VO]at c1;let rd:=eq_str (ε:=[some<|aK c S,some<|.int m,some<|tb ç,some<|aQ S.Mi,some<|Td ((ç.take i0).map<|b7 S N m),some<|rw ks0,some<|UB ((S.Mi.take j).map λg=>jq<|bb (aP S.LK<|some ks0) ħ g N m),some<|.str h,some<|j9 (.inr wy)]) (ra:=rO Sub (rV 8)<|rC (.int 0)) (rb:=rC<|.str "cut") #[2,.t rfl] rfl;rw[Hw<|by decide]at rd;show#[_,1,_,.nx #[#[5],c1]<|.nx (.f rd rfl) #[1,by simp;lia,.z #[2,.t rfl]],.fz<|.str h,.fz<|j9 (.inr wy),?_];rw[aW hh,Hx,HL,Jg,VO,show UB (_++[jq<|.inr wy])=.lst (List.map tb _++[tb wy]) from congrArg D.lst Hx];rfl
  ·let#[o7,o8,he]:=J';subst he;let c1:=Pn.mk (c:=c) O (Hs hg0) Vo hm hz;rw[ec]at c1;let rd:=eq_str (ε:=[some<|aK c S,some<|.int m,some<|tb ç,some<|aQ S.Mi,some<|Td ((ç.take i0).map<|b7 S N m),some<|rw ks0,some<|UB ((S.Mi.take n0).map λg=>jq<|bb (aP S.LK<|some ks0) ħ g N m),some<|.str g0,some<|j9 (.inl ns)]) (ra:=rO Sub (rV 8)<|rC (.int 0)) (rb:=rC<|.str "cut") #[2,.t rfl] rfl;rw[Hu rfl]at rd;show#[_,1,.mk #[#[5],c1]<|.t rd (.mk #[2,#[2,.t rfl],1] #[_,_,_,2] (by change 3<=1000;decide))]
universe e
def c4X [Bx:Bd](T:FN Bx.mg)(LP):Tk 2 "choices" (top 3) ["net","falls"] (d9m iP):=by
 show NA ["numbers","told","longest","turn"] ?_ λe0b=>(qC (e29 (e6a c1G lE
  ĕ
  Px
  yb) rfl)
 (qC (d9X 3)
 (qC (d9X 4)
 (qC (e1r EZ Id (aM 5)
  (qC qN
 Lz))
 ng))))
 ext d6a;show .nx #[bc rH hl λt _=>E9] (.nx b6Y<|.nx b6Y (.nx (.mk #[(0),#[],#[2],1] .done) #[2]))
section
variable {c:Cl}{C aC aS:Addr}
abbrev P':Θ:=[[]]
inductive a12 (c:Cl)(aC:Addr):List D->Er->Prop
 |mk {S:NS}{m N:Nat}{p:Int}{g:Str}{ns:Ξ}:My.OJ p=true->p<=1000000->S.LK.length<=1000->(∀ ks∈P',V1 S (!ks) N)->B8 S m N P' [] g ns->S.LO.length<=1000->1<=m->m<=1000->m * N+N<=1000->a12 c aC Oy (aC,EW [] g ns)
def wY [Bx:Bd](c8m)(MH)(Na)(Mh:GY 5 "ways_by_choice" é (WM (B4 c aC))):f0p (WM (a12 c aC)):=by
 let ND:=Nm.nd;show Nc.dvE F Nm ?_ λe0M=>(xC a6K
 (xC a51
 (x1<|a2a (pS 6 ND<|a8Z a0R Mh hr.m rfl b6i))))
 rintro _ _ @⟨S,m,N,p,g,ns,hP,p1,R,O,W,hp,Vo,hm,hz⟩;show#[1,.mk vS<|.mk gD #[#[4],#[by decide,O,W,hp,Vo,hm,hz]]]
inductive zM (c:Cl)(aS:Addr):List D->Er->Prop
 |mk {S:NS}{m N:Nat}{p:Int}:My.OJ p=true->p<=1000000->S.LK.length<=1000->a88->S.LO.length<=1000->1<=m->m<=1000->m * N+N<=1000->p<(S.Mi.length * P'.length:Int) ->
  zM c aS Oy (aS,[("needed",.int (S.Mi.length * P'.length))])
def nV [Bx:Bd](hn)(d2v)(Pg:ER 1 "SmallPrime" aS Ā (ZU aS λl fs=>∃ i:Int,l=mB/\fs=(mP:List (Str×D)))):f0p (WM (zM c aS)):=by
 let ND:=Nm.nd;show Nc.dvE F Nm ?_ λe0M=>(xC a6K
 (xC a51
 (xC (qS (pS 6 ND<|f2j (da (Đ 0)<|e0z (e1t LS))) λe1j=>h)
 (xC (qS (pS 7 ND<|e2k b4T (cu T.Me<|Đ 5)) λe1j=>h)
 (x1<|a2S b7E (x1<|b7D nA rfl c56 rfl Pg hr.m GU))))))
 rintro _ _ @⟨S,m,N,p,hP,p1,R,O,hp,Vo,hm,hz,hl⟩;let ll:S.Mi.length<=1000:=by unfold NS.Mi;ext d6y
 ext d4z;rw[Hu hl]at rd;show#[1,.mk vS<|.mk gD (.mk b4U<|.mk a9Z (.t rd<|.mk #[2] #[_,2] (by change 1<=1000;decide)))]
inductive Fg (c:Cl)(c7L)(Rm:Ä):Ä
 |mk {S:NS}{m N:Nat}{p:Int}{d:D}:My.OJ p=true->p<=1000000->S.LK.length<=1000->a88->S.LO.length<=1000->1<=m->m<=1000->m * N+N<=1000->(S.Mi.length * P'.length:Int)<=p ->
  Rm [l9,tb P',Td (P'.map (b7 S N m))] d->Fg c C Rm Oy d
def Gh [Bx:Bd](d2v)(Q4:MR 6 "made_plan" ï (Pr Rm)):SR NP 7 f fd ä (Pr (Fg c C Rm)):=by
 let ND:=Nm.nd;show Nc.dv F Nm ?_ λe0M=>(qC (qs 4 ND<|e3y Ť)
 (qC (qs 5 ND<|dF Na hr.m rfl b6h)
 (qC (qs 6 ND<|f2j b6i)
 (qC (qs 7 ND<|e2k b4T EC)
 (qC (qI b7E
  Lz
  q0)
 (qr<|dF Q4 hr.m rfl (d9E (da (Đ 4)<|e1t (e3a LS)))))))))
 rintro _ _ @⟨S,m,N,p,d,hP,p1,R,O,hp,Vo,hm,hz,hl,M⟩;let ll:S.Mi.length<=1000:=by unfold NS.Mi;ext d6y
 ext d4z;rw[Hw<|by lia]at rd;show#[1,.inl<|.nx vS (.nx gD<|.nx b4U (.nx a9Z<|.nx Em #[#[#[6],M],1]))]
universe e
theorem Ut (d)(H H':Hp):Prop:=∀ a o,a≠d->H a=!o->H' a=!o
def Ut.of (e):Ut d H H':=λa o _ h=>e a o h
def Ut.trans (a:Ut d H H1)(b:Ut d H1 H2):Ut d H H2:=λc o n h=>b c o n (a c o n h)
theorem NS.put (S:NS)(x)(k:Kd):NS:={ S with LO:=S.LO++[(x,k)] }
def MA.put (N)(hd:H dp=!.dK ķ)(hp:Paired a75 ķ S.LO)(pa:Nj c H kX p)(e:Ut dp H H')(Sx:H' dp=!.dK (ķ++[(Sum.inr p.1,.ref a)])):e42 (S.put p.1 p.2):=by
 let#[#[dx,h1],_,#[kt,h3,p3],h4]:=N;let Ti:∀ {v:V}{q:Str×Kd},e6y q->Nj c H' v q:=λJ'=>by let#[yT,hb]:=J';show#[yT,e _ _ Sc hb]
 let UK:∀ {v:V}{t:Mv},f05 t->NC H' v t:=λJ'=>by let#[b,eb,hb]:=J';show#[b,eb,e _ _ Sc hb]
 show#[#[dx,e _ _ b6j h1],#[_,Sx,Paired.QI (Paired.O2 hp λe2s=>(by let#[x,y]:=J';show#[x,Ti y])) #[1,Ti pa]],#[kt,e _ _ (Ne.symm h4) h3,Paired.O2 p3 λe2s=>(by let#[x,y]:=J';show#[x,UK y])],h4]
def kT (c9l):∀ {ķ:ξ}{l:List α},Paired (λ(kv:vm×V) x=>kv.1=f x/\DR H (g x) kv.2) ķ l->ķ.map (·.1)=(l.map λx=>BW).map (·.1)/\Md H ((l.map λx=>BW).map (·.2)) Ņ:=by
 intro a b h
 induction h with
 | nil=>show#[2]
 | cons h r ih=>let⟨a,b⟩:=h;show#[by simp_all,P8,b,ih.2]
def Nj.dr (h:e6y p):DR H (gW c p) v:=let ⟨a,dx,e,q⟩:=h;#[a,dx,_,e,q,1,_,_,3]
def NC.dr (h:f05 t):DR H (bY t) v:=let ⟨a,e,q⟩:=h;#[a,_,e,q,c6W]
def MA.dr (N):DR H Ya (d9G n):=by let#[BN,_]:=N;let a:=kT<|Paired.O2 p2 λe2s=>(by let#[a,b]:=J';show#[a,b.dr]);let b:=kT<|Paired.O2 p3 λe2s=>(by let#[a,b]:=J';show#[a,b.dr]);show#[n,jT,h1,1,P8,#[dp,kp,1,.inl h2,a.1,a.2],P8,#[dt,kt,1,.inl h3,b.1,b.2],_,_,3]
def pr (hl:Md H l vs)(hR:R l d)(q:∀ x H',gR H H'->DR H' d x->Q x H'):e8x E0:=#[H,l,d,gR.refl _,hl,hR,λx H' e h=>q x H' e<|h.mono (aO Ě e)]
def XZ (h:DR H d v):Md H [d] [v]:=#[P8,h,1]
def dr2 (h:DR H d v)(h'):Md H [d,d'] [v,v']:=#[P8,h,P8,h',1]
theorem GF (S:NS)(k:Kd):Bool:=decide (20<=S.LO.length) || (X0 k&&decide (8<=S.Mi.length))
inductive eJ (c:Cl)  (vs:π) (H:Hp) (Q:VK) (E:XK):Prop
 |mk (n dp dt a:Addr) (S:NS) (p:Str×Kd):vs=[.ref n,.ref a]->MA c H n dp dt S->Nj c H kX p->¬ p.1∈S.names->S.LO.length<=1000->GF S p.2=false->(∀ H',Ut dp H H'->MA c H' n dp dt (S.put p.1 p.2)->Q .non H')->eJ c vs H Q E
def a5a:au ÿ ÿ (aa sg):=PD
def b15 [Bx:Bd](O)(c8t)(TG:Hb Bx.mg)(OE)(LJ):Tm 3 "put_in" "Net.put_in" sg ÿ (eJ c):=by
 ext d27;let#[tl,SX]:=TG.mop;let#[tn,QU]:=TG.mol;show F.k a5a λe2v=>?_
 ·let#[x8,a,S,p,1,N,pa,Pp,hz,FE]:=h;let ND:=a5a.nd;ext d3C;let#[ķ,hd,hp]:=id N.LO;let#[a',dxa,ea,ha]:=id pa
  cases ea;let hl:=Paired.length hp;show#[_,(ag (dJ (pT sJ b2q<|gB (v:=.int 20) rfl SX #[_,1])
  qU
  MQ)
 (ag (dJ (d9f yI (bA<|sE BC OE hr.m) (dc<|pT sJ (e68 boot_len<|a8 (sD lr LJ hr.m) K') (e86 QU #[_,1])))
  qU
  MQ)
 (ak<|e4o Ŵ (rS Bx.K BC rfl) BC rfl))),?_]
  let store:∀ {D:L2.Ends}{σ:St} H1,D.nx σ=Q .non->gR H H1->c0E D σ kX (d9G dp) (.str p.1) H1:=λ{D σ} H1 eD e1=>by
   let hv:cC ķ ux=none:=by
    cases hs:cC ķ ux with
    | none=>rfl
    | some v=>
     let:=(kT (f:=λp:Str×Kd=>(.inr p.1:vm)) (g:=gW c)<|Paired.O2 hp λe2s=>(by let#[a,b]:=J';show#[a,b.dr]))
     let h2:=(Md.val (y:=.inr p.1) this.1 this.2).1;let h3:=f0j (x:=p.1);rw[Hw Pp]at h3;rw[h2<|Option.not_isSome_iff_eq_none.mp (by rw[h3];show nofun)]at hs
     cases hs
   show#[dp,_,1,Us.k (k:=Sum.inr p.1) (e1J hd) (by change ķ.length<2 ^ 24;lia),?_];let b1:Ut dp H (upd H1 dp<|.dK (eO ķ ux<|.ref a)):=λb o nb hb=>by rw[a9 nb];show e1 _ _ hb
   rw[eD];show q2 _ b1 (N.put hd hp pa b1<|by rw[ae,iw _ hv])
  unfold GF at q1;rw[Bool.or_eq_false_iff,Bool.and_eq_false_iff]at q1;let#[g0,g2]:=q1;let g0:=of_decide_eq_false g0;show#[Bs,h1,O.cn,O.fp,1,dp,ķ,1,hd,mK,1,jI (λg1=>?_) (λg1=>?_)]
  ·let g1:20<=S.LO.length:=by let:=HR g1;lia
   show absurd g1 g0
  ·show#[_,1,a,c.of p.2,dxa,_,1,#[_,1],ha,1,pr (XZ pa.dr) ⟨⟩ λx e2t hx=>#[_,hx,?_]];rw[ir O]
   cases hb:X0 p.2 with
   | false=>show jH (jH #[jN,e1J h1,c49,e1J ha,O.cls _,O.nam _,1,store H1 rfl e1])
   | true=>
    show Gz #[c3h,pr c0h #[hz] λy e15 J'=>?_];let#[l,vs,ey,U9,hv]:=J';subst ey;let vl:=hv.length;let SS:=e1.trans e2;show#[l,_,1,.inl<|Ma.of U9,_,_,2,_,1,jI (λg3=>?_) λg3=>#[jN,e9l h1,c49,e9l ha,O.cls _,O.nam _,1,store H2 rfl SS]];let g3:8<=S.Mi.length:=by let:=HR g3;rw[vl,Hl]at this;lia
    rcases g2 with z|z
    ·rw[hb]at z;cases z
    ·show absurd g3 (of_decide_eq_false z)
theorem FW (S:NS)(x)(k:Kd):Prop:=gJ x=true/\¬ x∈S.names/\¬ (SV k=false/\S.Mt.isSome=true)/\GF S k=false
inductive cR (c:Cl)(k:Kd)  (vs:π) (H:Hp) (Q:VK) (E:XK):Prop
 |mk (n dp dt:Addr) (S:NS) (x:Str):vs=[vy]->MA c H n dp dt S->x.length<=1000->S.LO.length<=1000->FW S x k->(∀ H',Ut dp H H'->MA c H' n dp dt (S.put x k)->Q .non H')->cR c k vs H Q E
def made (N)(hz:S.LO.length<=1000)(hm:FW S x k)(q2:∀ H',Ut dp H H'->e42 (S.put x k)->e21 H')(y dy:Addr)(ny:H y=none)(ndy:H dy=none)(ne:dy≠y):
  eJ c [.ref n,.ref y] (upd (d8W H dy y Ck) y (.ins Ck dy [("name",.str x)])) Q E:=by
 let e1:gR H (upd (upd (upd H dy<|.own y) y<|.ins Ck dy []) y<|.ins (c.of k) dy [("name",.str x)]):=bg (bg (aY (gR.refl _) ndy) ny) ny;show⟨n,dp,dt,y,S,(x,k),rfl,N.mono e1,⟨y,dy,rfl,ae⟩,hm.2.1,hz,hm.2.2.2,λH' b' N'=>q2 H' a6X N'⟩
def a7N:e87 (aa FJ):=PD
def c1B [Bx:Bd](O)(LU)(MG)(Vy:Wv 1 "Post" c.post Ý (i7 c)):Tm 4 "post" "Net.post" FJ Ý (cR c .post):=by
 ext d27;show F.k a7N λe2v=>?_
 ·ext d6Y;show#[_,(ag lj
 (d9d (iB Vy hr.m rfl<|e6g K'))),?_]
  show#[QK];show#[oM,vb,λe78=>#[y,.post,c5Q]];show made (Q:=λ_ H2=>e21 H2) Bz hz hm pR y dy ny ndy ne
def c3g:e87 (aa Cq):=PD
def a4z [Bx:Bd](O)(LU)(MG)(QA:Wv 1 "Listener" c.Qh Ý (i7 c)):Tm 4 "listener" "Net.listener" Cq Ý (cR c .listener):=by
 ext d27;show F.k c3g λe2v=>?_
 ·ext d6Y;show#[_,(ag lj
 (d9d (iB QA hr.m rfl<|e6g K'))),?_]
  show#[QK];show#[oM,vb,λe78=>#[y,.listener,c5Q]];show made (Q:=λ_ H2=>e21 H2) Bz hz hm pR y dy ny ndy ne
def b3G:e87 (aa vw):=PD
def c3c [Bx:Bd](O)(LU)(MG)(Mz)(Ur:Wv 1 "House" c.house Ý (i7 c)):Tm 4 "house" "Net.house" vw Ý (cR c .house):=by
 ext d27;show F.k b3G λe2v=>?_
 ·ext d6Y;show#[_,(ag lj
 (ag (dJ (pT a7G (sD lr Mz hr.m) b1j)
  qU
  MQ)
 (d9d (iB Ur hr.m rfl<|e6g K')))),?_]
  show#[QK];show#[c3h,pr c0h ⟨⟩ λhv e15 hx2=>?_]
  cases hs:S.Mt with
  | some p=>show absurd #[1,by rw[hs];rfl] hm.2.2.1
  | none=>
   rw[hs]at hx2
   cases hx2;let e1:=e1.trans e2;show#[vb,a4k rfl ?_];show#[oM,vb,λe78=>#[y,.house,c5Q]];show made (Q:=λ_ H2=>e21 H2) Bz hz hm pR y dy ny ndy ne
structure Ha (mg:Ω):Prop where
 MC:mg "isinstance"=none
 VI:mg "int"=none
 a0Z:mg "bool"=none
 Me:mg "len"=none
structure a19 (mg:Ω):Prop where
 mot:∃ t,mg "MOST_TIES"=!.int 40 t
 lod:∃ t,mg "LONGEST_DELAY"=!.int 99 t
structure a18 (K:Ψ):Prop where
 ii:W.kitOne K ż ż=!true
 ib:W.kitOne K ż kH=!false
theorem NS.Vb (S:NS)(x y:Str)(d:Int):NS:={ S with LK:=S.LK++[(S.next,x,y,d)],next:=S.next+1 }
theorem a59 (n d:Addr)(H H':Hp):Prop:=∀ a o,a≠n->a≠d->H a=!o->H' a=!o
def dr3 (h:DR H d v)(h')(h2:DR H d2 v2):Md H [d,d',d2] [v,v',v2]:=#[P8,h,dr2 h' h2]
inductive b4g (d0Q):Prop
 |mk:∀ i:Int,vs=mB->Q ņ H->b4g vs H Q x3
def b1A:au ý ý (aa Fp):=PD
def kA [Bx:Bd](d1T):Tk 1 "is_whole" Fp ý b4g:=by
 ext d27;show F.k b1A λe2v=>?_
 ·let#[i,1,q]:=h;show#[_,ak<|br (yO (d9S Bx.K (kr (v:=.ty "int") rfl T.VI boot_int rfl))<|oz (DH<|f0o T.MC bQ (d83 lr (kr (v:=.ty "bool") rfl T.a0Z boot_bool rfl)))),?_];show#[c6H,TI.ii,_,1,Gz #[c6H,TI.ib,_,1,q]]
def b2p [Bx:Bd](F:Fu Bx.K "is_whole" Fp f fd)(d1T):e4n ý (Pr b99):=(kA T TI f fd F).imp λe4O J'=>by
 let#[F,_,_,s,h,r,q]:=J'
 cases r;let#[v,ws,3]:=h;show#[_,1,q _ H Ě rfl]
def c3V [Bx:Bd](hn)(F:Fu Bx.K "is_name" iT f fd)(c8t)(TG:Hb Bx.mg)(TK:ya Bx.K):e4n oq (Pr R5):=(yU F T TG TK hn).imp λe4O J'=>by let#[F,_,_,s,h,r,q]:=J';let#[hx]:=r;let#[v,ws,3]:=h;show#[_,1,hx,λH' e=>q _ H' e rfl]
inductive b1N:Ä
 |mk {n:Int}:1<=n->n<=99->b1N db ņ
def b4D [Bx:Bd](TH)(MP):Tk 2 "is_delay" (top 30) ý (Pr b1N):=by
 let#[tl,Rj]:=TH.lod;show NA [] ?_ λe0b=>(qr<|EU (dF MP hr.m rfl<|e1q LS) (oz<|dCh (oC sH sH dI (Đ 0)<|dC (gB (v:=.int 99) rfl Rj #[_,1])) dq dq))
 rintro _ _ @⟨n,h0,h1⟩;show#[.t #[#[2],⟨⟩]<|.t rfl rfl (by let:=e0w (i:=1) (j:=n) trivial;rwa [Hu h0]at this) rfl (by let:=e0w (i:=n) (j:=99) trivial;rwa [Hu h1]at this),1]
inductive jw (c:Cl)  (vs:π) (H:Hp) (Q:VK) (E:XK):Prop
 |mk (n dp dt:Addr) (S:NS) (x y:Str) (d:Int):vs=[vy,.str y,.int d]->MA c H n dp dt S->x∈S.names->y∈S.names->(∀ t∈S.LK,t.1<S.next)->b3d->¬ ji S.LK y x->1<=d->d<=99->S.LK.length<40->(∀ H',a59 n dt H H'->MA c H' n dp dt (S.Vb x y d)->Q (.int S.next) H')->jw c vs H Q E
def b6O:au ["self",jM,"number"] ë (aa CV):=PD
def c1K [Bx:Bd](F:Nc Bx.K "tie" "Net.tie" CV f fd)(O)(T:Ha Bx.mg)(TH)(NN:N6 2 c.MJ "check_ends" æ (d9m a9Q))(Qz:MR 2 "is_delay" ý (Pr b1N)):
  SR NP 3 f fd ë (jw c):=by
 let#[tl,U']:=TH.mot;show F.k b6O λe2v=>?_
 ·let#[x8,S,x,y,d,1,N,hx,hy,a8U,hb,hL,hi1,hi2,g,q5]:=h;let ND:=b6O.nd;ext d7h;let hl:=Paired.length hp;show#[_,(ag (aw<|bh lr NN hr.m (d83 BC jF))
 (ag (dJ (iy<|bA (be Qz hr.m rfl<|f1C K'))
  qU
  MQ)
 (ag (dJ (pT sJ b2q<|gB (v:=.int 40) rfl U' #[_,1])
  qU
  MQ)
 (ag (pS 4 ND<|rS Bx.K lr rfl)
 (ag (e4o Ŵ zA (cI<|a8 zA (a8 BC<|e5j Ak)) rfl)
 (ag (e43 (c6 lD zA aJ) rfl)
 (d97 zA))))))),?_]
  show#[_,1,n,jT,h1,vb,_,1,pr (dr3 N.dr (d':=.str x) (d2:=.str y) rfl rfl) #[hx,hy,#[0],hb,hL] λ_ H0 e0 _=>?_];show#[_,1,pr (XZ (d:=.int d) rfl) #[hi1,hi2] λ_ e2t hv=>#[_,hv,jH ?_]];let e1:=e0.trans e1;show#[Bs,e1J h1,wW,1,dt,ķ,1,e1J hd,mK,1,jI wH oN]
  ·let:=HR z;omega
  show#[Bs,e1J h1,O.cn,O.fn,1,?_];show#[yY,yY,(by change 4<=sizeLine;decide),λtp e15 h02 WD=>?_];let SS:=e1.trans e2;let hv:cC ķ c2F=none:=by
   cases hs:cC ķ c2F with
   | none=>rfl
   | some v=>
    let:=(kT<|Paired.O2 hp λe2s=>(by let#[a,b]:=J';show#[a,b.dr]))
    let h2:=(Md.val (y:=.inl S.next) this.1 this.2).1;rw[h2 (Option.not_isSome_iff_eq_none.mp λz=>by rw[lU,Ki]at z;let#[t,ht,et]:=Ht.mp z;let:=a8U t ht;omega)]at hs
    cases hs
  let nnt:n≠dt:=bz h1 hd λz=>nomatch z;show#[Bs,e9l h1,wW,vb,dt,_,1,Us.k (k:=Sum.inl S.next) (e9l hd) (by change ķ.length<2 ^ 24;omega),?_];rw[iw _ hv];show#[_,1,_,_,2,_,1,n,c.MJ,dx,_,1,by rw[a9 nnt];show SS _ _ h1,O.cn,O.fn,(by change 3<1000;decide),?_];let b2:a59 n dt H (upd (e4Z dt<|.dK (ķ++b5W)) n<|.ins c.MJ dx [b7V,b8v,("next_number",.int<|S.next+1)]):=λa o na nd ha=>by rw[a9 na,a9 nd];show SS _ _ ha
  show#[_,1,q5 _ b2 ?_];let#[_,#[kp,h2,p2],_,h4]:=N;let Ti:∀ {v:V}{q:Str×Kd},e6y q->v≠.ref n->Nj c _ v q:=λ{v q} J' U8=>by let#[yT,hb]:=J';show#[yT,b2 b _ (λz=>U8<|by rw[eb,z]) (bz hb hd λz=>nomatch z) hb]
  let UK:∀ {v:V}{t:Mv},f05 t->NC _ v t:=λ{v t} J'=>by let#[b,eb,hb]:=J';show#[b,eb,b2 b _ (d81 hb h1) Sc hb]
  let ntp:tp≠n:=(aj (e1J h1) h02).symm;let ntd:tp≠dt:=(aj (e1J hd) h02).symm;show#[#[dx,ae],#[kp,b2 dp _ (d81 h2 h1) h4 h2,Paired.O2 p2 fun kv p ⟨a1,a2⟩=>#[a1,Ti a2 ?_]],#[ķ++b5W,by rw[a9 nnt.symm];show ae,Paired.QI (Paired.O2 hp λe2s=>(by let#[a1,a2]:=J';show#[a1,UK a2])) #[1,tp,1,?_]],h4]
  ·let#[yT,RI]:=a2;rintro z;rw[z]at eb
   cases eb;rw[h1]at RI;injection RI with RI;injection RI with _ _ RI
   cases RI
  ·rw[a9 ntp,a9 ntd];show WD
theorem bC (d0D)(kf:α->vm)(nm:List α)(as:υ):ξ:=(nm.zip as).map λp=>c04
def a6t [DecidableEq α](kj):∀ (nm:List α)(as:υ),nm.Nodup->as.Nodup->nm.length=as.length->∃ LA:α->Addr,(∀ x∈nm,cC Gq (kf x)=!.ref yF/\LA x∈as)/\(∀ x∈nm,∀ y∈nm,LA x=LA y->x=y)/\as=nm.map LA:=by
 intro nm
 induction nm with
 | nil=>
  intro as _ _ hl
  cases as with
  | nil=>show#[λ_=>0,b9B,b9B,1]
  | cons _ _=>cases hl
 | cons x nm ih=>
  intro as h1 h2 hl
  cases as with
  | nil=>cases hl
  | cons a as=>
   let#[n1,n2]:=Ii.mp h1;let#[a1,a2]:=Ii.mp h2;let#[LA,l1,l2,l3]:=ih as n2 a2 Ķ;let ne:∀ y∈nm,y≠x:=λe3D e=>n1<|e▸hy;show⟨λy=>if y=x then a else LA y,λe3D=>?_,λe3D e9v e=>?_,?_⟩
   ·rcases HK.mp hy with rfl|hy
    ·simp only[if_pos rfl];show#[jY rfl,HS ..]
    ·simp only[if_neg<|ne y hy];show⟨?_,HM _ (l1 y hy).2⟩;rw[show bC kf (x::nm) (a::as)=(kf x,V.ref a)::e6O as from rfl,jZ λz=>ne y hy (kj _ _ z).symm];show (l1 y hy).1
   ·grind
   ·simp_all
def rNs:∀ (a b:ξ),((a++b).map (·.1)).Nodup->bn a b=a++b:=by
 intro a b
 induction b generalizing a with
 | nil=>intro _;rw[HV];rfl
 | cons k b ih=>
  intro h;let hk:cC a k.1=none:=by
   grind [cC]
  change bn (eO a k.1 k.2) b=_
  simp_all [iw]
def c2W {kf:α->vm}(kj)(h:nm.Nodup)(hl:nm.length<=as.length):bn [] Gq=e6O as:=by
 rw[rNs [] _ ?_]
 ·rfl
 ·rw[Ji];unfold bC;rw[Hv];let e:((λx:vm×V=>x.1) ∘ λp:α×Addr=>c04)=kf ∘ (·.1):=rfl;rw[e,<- Hv];let hs:((nm.zip as).map (·.1)).Nodup:=by
   simp_all [List.map_fst_zip]
  show L9 _ (λa b Xr e=>Xr<|kj _ _ e) hs
def c1h (c7x)(t:Mv)(x):gV (ts++[t]) x=gV ts x++(if t.2.1=x\/t.2.2.1=x then [t] else []):=by
 unfold gV
 grind
def b88:∀ nm:List α,e6O (nm.map LA)=nm.map λx=>b2r:=by
 intro r'
 induction r' with
 | nil=>
  show rfl
 | cons x nm ih'=>
  show congrArg ((kf x,V.ref<|LA x)::·) (ih')
def P5:∀ {nm:η}{vs:π},Md G (nm.map .str) vs->vs=nm.map V.str
 | [],_,h=>h
 | _::_,_,⟨_,_,e,h1,h2⟩=>by rw[e,P5 h2,show _=V.str _ from h1];rfl
def a7B:∀ {ts:List Mv}{vs:π},Md G Zq vs->f0q ts:=by
 intro r'
 induction r' with
 | nil=>
  intro _ h
  ext d8c
 | cons _ _ ih'=>
  ext d3J;let#[AS,h,c6W]:=h1;show .cons #[a,1,h] (ih' h2)
def f2I:∀ {ts:List Mv}{vs:π},f0q ts->Md G Zq vs:=by
 intro ts vs h
 induction h with
 | nil=>rfl
 | cons a r ih=>show#[P8,a.dr,ih]
def fB:∀ {l:List α},(∀ x∈l,DR G (g x) (h x))->Md G gC (l.map h):=by
 intro r'
 induction r' with
 | nil=>
  ext d6H
 | cons _ _ ih'=>
  intro k;show #[_,_,1,k _ HS,ih' λe1h=>k x<|HM _ hx]
def a7f:au ["names","ties","touching","tie"] pX (d9i 69):=PD
def b4J [Bx:Bd](d1G):Tk 1 "ties_by_post" (top 69) pX (Pr c4G):=by
 ext d27;show F.ok a7f Zk cJ
 ·obtain⟨G,_,_,sF,hl,@⟨nm,ts,Zw,hz,htz,hE,U8⟩,q⟩:=h;let#[P8,#[ln,vs1,1,a81,hd1],P8,#[l,xs,1,hx0,U6],1]:=hl;let Zx:H ln=!(.lst<|nm.map V.str):=by rw[<- P5 hd1];show sF _ _ a81
  let hx:=e2B hx0;let hp:=a7B U6;let ND:=a7f.nd;let WB:=Paired.length hp;show#[_,(ag (pS 2 ND (e4r (a8 (e71 (d92 0)
  ĕ
  jO
  (d9J lr)) K')))
 (ag (e0N (d92 1) xO
  (ag (aw<|e0s b3k Ak)
 (d8V b3k mm)))
 (d97 jF))),?_]
  show#[_,1,ln,1,#[_,Ma.of Zx],c51 (K:=Bx.K) (xs:=nm.map V.str) (λlc i H1=>H lc=none/\gR H H1/\∃ as:υ,as.length=i/\as.Nodup/\(∀ a∈as,H1 a=!.lst []/\H a=none/\a≠lc)/\∃ vs,H1 lc=!.lst vs/\Paired (λv (kv:vm×V)=>∃ t,v=.ref t/\H1 t=!.tup xo) vs (e0O mE as))
   (λlc Vp=>#[Vp,c5g]) (λlc i H1 _ h=>Ma.of<|h.2.1 _ _ Zx) (λlc i v H1 ev h=>?_) (λlc H1 h=>?_)]
  ·let#[c5v]:=h;obtain⟨x,ex,rfl⟩:∃ x,nm[i]?=!x/\v=.str x:=by
    rw[Hy]at ev
    cases hm:nm[i]? with
    | none=>rw[hm]at ev;cases ev
    | some m=>rw[hm]at ev;show#[m,1,by simpa using ev.symm]
   let hi:i<nm.length:=(Ho.mp ex).1;dsimp only[yz];ext d6l;show#[_,Fq,λf2z=>#[(by change 2<=sizeLine;decide),λt e7f h3 ht=>?_]];let hvl:=Paired.length Xk;let Xi:(e0O mE as).length=i:=by unfold bC;rw[Hl,JE,HF,WJ];omega
   let alc:a≠lc:=λz=>by rw[z,SQ]at h2;cases h2
   let tlc:t≠lc:=λz=>by rw[z,e1x SQ]at h3;cases h3
   show#[vs,e3 _ _<|e1x SQ,by rw[hvl,Xi];change i<2 ^ 24;omega,Vp,bg Ŷ Vp,as++[a],by rw[HE,WJ];rfl,?_,λe1C=>?_,vs++[.ref t],ae,?_]
   ·ext d5s;let:=(has a hb).1;rw[h2]at this
    ext d3Q
   ·rcases HW.mp hb with hb|hb
    ·let#[mJ]:=has b hb;show#[by rw[a9 b3];show e3 _ _<|e1x b1,b2,b3]
    ·rw[HH.mp hb];show#[by rw[a9 alc];show e3 _ _ ha,e1.free h2,alc]
   ·let tk:nm.take (i+1)=nm.take i++[x]:=by rw[Jq,ex];rfl
    let er:e0O (nm.take<|i+1) (as++[a])=e0O mE as++[(Sum.inr x,.ref a)]:=by unfold bC;rw[tk,List.zip_append (by rw[HF,WJ];omega),Hx];rfl
    ext d4A;let:=e3 _ _<|e1x UP;rw[a9 (λz=>by rw[z,e3 _ _<|e1x SQ]at this;cases this)];show this
  ·let#[c5v]:=h;rw[Hl]at WJ Xk;rw[Iu]at Xk;let Xi:(e0O nm as).length<=1000:=by unfold bC;rw[Hl,JE,WJ];omega
   show#[lc,_,1,#[vs,SQ,Xk],c6h];rw[c2W b9C Zw<|by omega]at hd;let#[LA,Yj,la2,la3]:=a6t (λ_ _=>Sum.inr.inj) nm as Zw han WJ.symm;let ek:e0O nm as=nm.map λx=>(.inr x,V.ref<|LA x):=la3▸b88 nm;generalize bC (Sum.inr:Str->vm) nm as=ķ at Yj hd ek;let T4:=e1.trans e2;let dN:∀ x∈nm,LA x≠d:=λe1h z=>by
    let:=(has _ (Yj x hx).2).1;rw[z,h2]at this
    ext d3Q
   let lN:∀ x∈nm,H yF=none:=λe1h=>(has _ (Yj x hx).2).2.1;show#[_,1,l,1,#[_,Ma.of<|e5k hx],?_];show a5B (K:=Bx.K) (xs:=xs) (λj σ H3=>(∃ o,σ=[some<|.ref ln,some<|.ref l,some<|.ref d,o])/\gR H H3/\H3 d=!.dK ķ/\∀ x∈nm,∃ us,H3 yF=!.lst us/\Paired (NC G) us (gV (ts.take j) x))
    #[#[_,1],T4,hd,λe1h=>#[[],e1x (has _ (Yj x hx).2).1,.nil]] (λj σ H3 _ h=>Ma.of<|h.2.1 _ _ hx) ?_ ?_
   ·rintro j v σ H3 ev ⟨⟨o,rfl⟩,e3,hd3,hT⟩;let#[t,et,p,1,hpt]:=Paired.at hp ev;let htm:t∈ts:=Hs et;let#[m1,m2]:=hE t htm;let tk:ts.take (j+1)=ts.take j++[t]:=by rw[Jq,et];rfl
    let n12:LA t.2.1≠LA t.2.2.1:=λz=>U8 t htm<|la2 _ m1 _ m2 z;let hp3:=e3 _ _<|e2B hpt;let#[ys,hy,Zu]:=hT _ m1;let#[zs,hz3,hpz]:=hT _ m2;let hyl:ys.length<=1000:=by rw[Paired.length Zu];show HU GD b5X
    let hzl:zs.length<=1000:=by rw[Paired.length hpz];show HU GD b5X
    show#[_,1,_,1,p,_,(1),_,2,Oi.of hp3,1,d,.ref<|LA t.2.1,1,(by rw[<- (Yj _ m1).1];show Pw.k (k:=Sum.inr t.2.1) hd3),.inl #[1,_,Ma.of hy],_,1,LA t.2.1,_,_,2,hy,by change ys.length<2 ^ 24;omega,?_];let e4:gR H (upd H3 c1M<|.lst (ys++Cd)):=bg e3<|lN _ m1;let hd4:e5B d=!.dK ķ:=by rw[a9 (dN _ m1).symm];show hd3
    let hz4:e5B (LA t.2.2.1)=!.lst zs:=by rw[a9 n12.symm];show hz3
    let hp4:=e4 _ _<|e2B hpt;show#[_,1,_,1,p,_,(2),_,2,Oi.of hp4,1,d,.ref<|LA t.2.2.1,1,(by rw[<- (Yj _ m2).1];show Pw.k (k:=Sum.inr t.2.2.1) hd4),.inl #[1,_,Ma.of hz4],_,1,LA t.2.2.1,_,_,2,hz4,by change zs.length<2 ^ 24;omega,?_];show#[#[_,1],bg e4<|lN _ m2,by rw[a9 (dN _ m2).symm];show hd4,λe1h=>?_];rw[tk,c1h];by_cases h1:t.2.1=x
    ·rw[if_pos<|.inl h1];subst h1;show#[ys++Cd,by rw[a9 n12,ae],?_];show Paired.QI Zu #[p,1,hpt]
    ·by_cases h2:t.2.2.1=x
     ·rw[if_pos<|.inr h2];subst h2;show#[zs++Cd,ae,?_];show Paired.QI hpz #[p,1,hpt]
     ·rw[if_neg (by rintro (z|z);show h1 z;show h2 z),HV];let#[us,hu,hpu]:=hT x hx;show⟨us,?_,hpu⟩;rw[a9 λz=>h2 (la2 _ hx _ m2 z).symm,a9 λz=>h1 (la2 _ hx _ m1 z).symm];show hu
   ·rintro σ H3 ⟨⟨o,rfl⟩,e3,hd3,hT⟩;rw[WB,Iu]at hT;show#[_,1,q _ H3 e3 #[d,ķ,1,.inl (by rw[aE<|e1.free h2];show hd3),by rw[ek,Hv,Hv];rfl,?_]];rw[ek,Hv,Hv];show fB λe1h=>?_;let#[us,hu,hpu]:=hT x hx;show#[LA x,us,1,by rw[aE<|lN x hx];show hu,Md.mono (ao sF) _ _<|f2I hpu]
def b7n:∀ {xs ys:η},xs.Nodup->c0k->xs.length<=ys.length:=by
 intro r'
 induction r' with
 | nil=>
  intro ys _ _;show Iv _
 | cons x xs ih'=>
  intro ys nd h;ext d4E;let hx:=h x Ĕ;let:=ih' (ys:=ys.erase x) nd.2 λe3D=>(Lk (λz:y=x=>nd.1 (by rw[<- z];show hy))).mpr (h y<|by simp[hy])
  grind
theorem bP (bs):Nat->η
 | 0=>[]
 | k+1=>bP bs k++[(bN bs (bP bs k)).getD ""]
structure CG (bs:List (Str×η)):Prop where
 nd:(bs.map (·.1)).Nodup
 ends:∀ b∈bs,∀ y∈b.2,y∈bs.map (·.1)
 rk:∃ rank:Str->Nat,∀ b∈bs,∀ y∈b.2,rank y<rank b.1
def b1t (A:CG bs)(NU:ts.length<bs.length):∃ x,bN bs ts=!x/\x∈bs.map (·.1)/\x∉ts:=by
 let#[rank,hrk]:=A.rk;let one:∃ b∈bs,b.1∉ts:=by
  by_cases h:∃ b∈bs,b.1∉ts
  ·show h
  ·let hs:∀ x∈bs.map (·.1),x∈ts:=λe1h=>by
    let#[b,hb,1]:=Ht.mp hx;by_cases hh:b.1∈ts
    ·show hh
    ·show absurd #[b,hb,hh] h
   let:=b7n A.nd hs;ext d8C
   lia
 let key:∀ n,∀ b∈bs,b.1∉ts->rank b.1=n->∃ b'∈bs,ip ts b'=true:=by
  intro n
  induction n using Nat.strongRecOn with
  | ind n ih=>
   intro b hb hbt hn;by_cases Rp:∀ y∈b.2,y∈ts
   ·show#[b,hb,?_];unfold ip
    simp_all
   ·let#[y,hy]:=Classical.not_forall.mp Rp;let#[hy1,hy2]:=Classical.not_imp.mp hy;let#[b',RI,e']:=Ht.mp<|A.ends b hb y hy1;show ih _ (by rw[<- hn];show hrk b hb y hy1) b' RI (by rw[e'];show hy2) (by rw[e'])
 let#[b,hb,hbt]:=one;let#[b',RI,Xj]:=key _ b hb hbt rfl
 cases hf:bs.find? _ with
 | none=>show absurd Xj (by let:=e9m b' RI;simpa using this)
 | some c=>
  let hc:=Jj hf;show#[c.1,by unfold bN;rw[hf];rfl,HA<|Iw hf,λz=>?_];unfold ip at hc
  simp_all
def oH (A:CG bs):∀ k,k<=bs.length->(bP bs k).Nodup/\(bP bs k).length=k:=by
 intro r'
 induction r' with
 | zero=>
  intro _;show #[Jt,1]
 | succ k ih'=>
  intro h;let#[yi]:=ih' #[];let#[x,e,hx,hn]:=e3Y #[];show#[?_,by simp[bP,h2]];change (bP bs k++[(bN bs<|bP bs k).getD ""]).Nodup;rw[e,HX]
  grind
theorem cZ (c7x)(x):η:=(ts.filter λt=>decide E3).map (·.2.1)
theorem bD (S:NS):List (Str×η):=S.names.map λx=>(x,f1D x)
def c4N (c7x)(t:Mv)(x):cZ (ts++[t]) x=cZ ts x++(if t.2.2.1=x then [t.2.1] else []):=by
 unfold cZ;congr 1;by_cases h:t.2.2.1=x
 ·simp[h]
 ·simp[h]
def qD (c7x)(x):(cZ ts x).length<=ts.length:=by unfold cZ;ext d37
def b4z (A:CG bs):∀ k,k<=bs.length->∀ x,x∈bP bs k->x∈bs.map (·.1):=by
 intro r'
 induction r' with
 | zero=>
  intro _ x h;show (Iz h).elim
 | succ k ih'=>
  intro hk x h;let#[y,ey,hy,_]:=e3Y (by rw[(oH A k<|by lia).2];lia);unfold bP at h;ext d5W
  ·show ih' #[] x h
  ·grind
def f2M (d10):bK cs k=none:=by unfold bK;let:(cs.find? λx=>decide zL)=none:=Jh.mpr λe1h z=>h<|HR z▸HA hx;rw[this];rfl
def a2h:∀ {ř:List bx},(ř.map (·.1)).Nodup->∀ r∈ř,io ř r.1=!r:=by
 intro r'
 induction r' with
 | nil=>
  ext d7U
 | cons x ws ih'=>
  intro nd r h;unfold io;ext d5R
  ·simp_all
  ·let ne:¬ x.1=r.1:=λz=>nd.1<|z▸HA h;ext d7p
theorem ai (S:NS):List Nf:=LV S ŧ
def a1n (ds:Cs)(h:k∈cs.map (·.1)):bK (cs++ds) k=bK cs k:=by grind [b4N,bK,List.find?_append]
def f2N (d10):bK (cs++[(k,n)]) k=!n:=by
 let hn:=f2M h;unfold bK at hn ⊢;rw[L5]
 cases hf:cs.find? (λx=>decide zL) with
 | some x=>simp_all
 | none=>
  simp_all
def a7c (ds:Cs):∀ {mo:Λ},(∀ ks,mo=!ks->∀ k∈ks,k∈cs.map (·.1))->inc msg (cs++ds) mo=inc msg cs mo
 | none,_=>rfl
 | some ks,h=>Ia λe7e=>by rw[a1n ds<|h ks rfl k hk]
def a7x (F:CD ms):∀ i,i<=ms.length->∀ m∈ms.take i,bK b7G m.1=!fC p ř msg fo b7G m
 | 0,_,_,h=>by rw[KS]at h;show (Iz h).elim
 | i+1,hi,m,h=>by
  let ih:=e2X i #[0];let NU:i<ms.length:=#[0]
  obtain⟨r,er⟩:∃ r,ms[i]?=!r:=#[_,Hm NU]
  let tk:ms.take (i+1)=ms.take i++[r]:=by rw[Jq,er];rfl
  let ck:=e5Q Bm [];rw[Jg,Ji]at ck;let nd:=F.nd;rw[<- IQ (i+1) ms,Hx]at nd;let nd:=(HX.mp nd).1;rw[tk,Hx]at nd;let fr:¬ r.1∈(e0W Bm []).map (·.1):=λz=>by rw[ck]at z;show (HX.mp nd).2.2 _ z _ Ĕ rfl
  rw[tk]at h ⊢;rw[a6V];ext d5W
  ·let mk:m.1∈(e0W Bm []).map (·.1):=by rw[ck];show HA h
   rw[a1n _ mk,ih m h];ext d5H;let#[j,hj,ej]:=JU h;rw[HF]at hj;let ej':ms[j]?=!m:=by rw[List.getElem_take]at ej;rw[Hm<|by omega,ej]
   let:=(F.ahead j m ks ej' hks).2 k hk;let#[y,hy,e]:=Ht.mp this;show Ht.mpr #[y,(List.take_sublist_take_left<|by omega).subset hy,e]
  ·rw[HH.mp h,f2N fr];ext d5H;show (F.ahead i r ks er hks).2 k hk
def b8T (F:CD ms)(h:m∈ms):bK De m.1=!fC p ř msg fo De m:=by let:=e2X ms.length<|Hz _;rw[Iu]at this;show this m h
def dD0 (A:CG bs):∀ k,k<=bs.length->∀ (i:Nat) x,(bP bs k)[i]?=!x->∃ b∈bs,b.1=x/\∀ y∈b.2,y∈(bP bs k).take i
 | 0,_,i,x,h=>by simp[bP]at h
 | k+1,hk,i,x,h=>by
  let hl:=(oH A k<|by lia).2;unfold bP at h ⊢;by_cases c:i<(bP bs k).length
  ·rw[Ij c]at h;let#[b,hb,e,hy]:=dD0 A k #[] i x h;show#[b,hb,e,λy yy=>by rw[Kf<|by lia];show hy y yy]
  ·rw[Iq<|by lia]at h;let ei:i=(bP bs k).length:=by
    by_cases c2:i - (bP bs k).length=0
    ·lia
    ·simp_all
   subst ei;rw[Nat.sub_self]at h;let#[z,ez,_,_]:=e3Y #[];rw[ez]at h;let h:z=x:=by simpa using h
   subst h;unfold bN at ez;let#[b,hf,hb]:=HZ.mp ez;show#[b,Iw hf,hb,λe3D=>?_];rw[Kf<|Hz _,Iu];let hr:=Jj hf
   simp_all [ip,Jn,JC]
def a9O (f:α->List β):∀ (ns:List α)(i:Nat)(m:β),(ns.flatMap f)[i]?=!m->∃ j x,ns[j]?=!x/\m∈f x/\∀ m'∈(ns.take j).flatMap f,m'∈(ns.flatMap f).take i:=by
 intro r'
 induction r' with
 | nil=>
  intro i m h;simp at h
 | cons a ns ih'=>
  intro i m h;rw[KZ]at h ⊢;by_cases c:i<(f a).length
  ·rw[Ij c]at h;show#[(0),a,1,Hs h,λm' hm=>by simp at hm]
  ·rw[Iq<|by lia]at h;let#[j,x,hj,hm,k]:=ih' _ m h;show⟨j+1,x,hj,hm,λm' Yu=>?_⟩;rw[List.take_append,Jf<|by lia];rw[List.take_succ_cons,KZ]at Yu;rcases HW.mp Yu with z|z
   ·simp_all
   ·show Ih _ (k m' z)
def c7 {xs:List α}(nd:xs.Nodup){i:Nat}{x:α}(h1:xs[i]?=!x)(h2:xs[j]?=!x):i=j:=by let#[hi,e1]:=Ho.mp h1;let#[hj,e2]:=Ho.mp h2;show (List.getElem_inj nd).mp c0v
abbrev LT:=Int×Str×Str
theorem dP (R)(x):Ξ:=(R.filter λr=>decide (r.2.2=x)).map (·.1)
structure LN (S:NS)(ord:η)(d0x):Prop where
 XO:S.names.Nodup
 nin:∀ x∈S.names,x∈ord
 nd:ord.Nodup
 zero:ord[0]?=!("h":Str)
 LK:S.LK.map (λt=>vM)=R
 mem:∀ r∈R,r.2.1∈S.names/\r.2.2∈S.names
 ok:∀ r∈R,∃ u v:Nat,u<v/\ord[u]?=!r.2.1/\ord[v]?=!r.2.2
 asc:(R.map (·.1)).Pairwise (·<·)
 len:ord.length<=20
 UH:R.length<=40
section
variable {S:NS}{ord:η}{R:List LT}
def LN.Vb (c7X)(d0f):∃ u v:Nat,u<v/\ord[u]?=!t.2.1/\ord[v]?=!t.2.2.1:=h.ok _ (h.LK▸HA ht)
def LN.Y6 (c7X)(d0f):t.2.1∈S.names/\t.2.2.1∈S.names:=h.mem _ (h.LK▸HA ht)
def LN.Uk (c7X):(bD S).map (·.1)=S.names:=by unfold bD;rw[Hv];show List.map_id _
def LN.ends (c7X):∀ t∈S.LK,t.2.2.1∈S.names:=λe8S=>(h.Y6 ht).2
def LN.XF (c7X):CG VV where
 nd:=by rw[h.Uk];show h.XO
 ends:=λe1C e3D=>by rw[h.Uk];let#[x,hx,1]:=Ht.mp hb;let#[uP]:=Ht.mp hy;show (h.Y6 (HN.mp ht).1).1
 rk:=by
  show#[λx=>ord.idxOf x,λe1C e3D=>?_];let#[x,hx,1]:=Ht.mp hb;let#[uP]:=Ht.mp hy;let#[ht,htx]:=HN.mp ht;let htx:=HR htx;let#[u,v,uv,yi]:=h.Vb ht;rw[htx]at h2;let ix:∀ (i:Nat) z,ord[i]?=!z->ord.idxOf z=i:=λi e9v=>by let hl:=List.idxOf_lt_length_of_mem<|Hs hz;show c7 h.nd ġ hz
  change ord.idxOf t.2.1<ord.idxOf x;ext d7i
def LN.LV (c7X):(ai S).Perm (S.LK.map λt=>jp):=by
 ext d5I;let#[ond,b3n]:=oH h.XF S.names.length #[0];let a7T:=λe1h=>by let:=b4z h.XF S.names.length #[0] x hx;rw[h.Uk]at this;show this
 let fin:∀ t∈S.LK,t.2.1∈bP _ S.names.length:=λe8S=>by show (Mw.UC _ _ ond a7T<|by omega) _ (h.Y6 ht).1
 let e1:ai S=((e9n S.names.length).flatMap λx=>S.LK.filter λt=>decide nN).map λt=>jp:=by
  unfold ai K72.LV NS.Oj;rw[List.map_flatMap];congr 1;funext x
  simp_all
 rw[e1];show (Mw.Tt (λt:Mv=>t.2.1) _ S.LK ond fin).map _
def LN.keys (c7X):((ai S).map (·.1)).Perm nC:=by let:=h.LV.map (·.1);rw[Hv]at this;rw[<- h.LK,Hv];show this
def LN.into (c7X)(x):S.into x=dP R x:=by unfold NS.into dP;rw[<- h.LK,List.filter_map,Hv];rfl
def LN.a4l (c7X)(x):(S.into x).length<=1000:=by
 rw[h.into];unfold dP;rw[Hl];let:=Im (λr:LT=>decide (r.2.2=x)) R;let:=h.UH
 lia
def LN.MW (c7X):(ai S).length<64:=by
 let:=h.keys.length_eq;rw[Hl,Hl]at this;let:=h.UH
 lia
def LN.fits (c7X):CD yZ where
 MW:=h.MW
 nd:=h.keys.nodup_iff.mpr (h.asc.imp λz=>Int.ne_of_lt z)
 ahead:=λi m ks hi hk=>by
  ext d5I;let#[j,x,hj,hm,up]:=a9O _ _ _ _ hi;let#[k0,_,1]:=Ht.mp hm;let hk:=hk;let ek:ks=S.into x:=by
   unfold bt at hk
   simp_all
  subst ek;show#[h.a4l x,λe7e=>?_];let#[t,ht0,1]:=Ht.mp hk;let#[ht1,htx]:=HN.mp ht0;let#[b,hb,e,hy]:=dD0 h.XF S.names.length #[0] j x hj;let#[x',_,1]:=Ht.mp hb;let e:=e;subst e;let:=up _<|JX.mpr #[_,hy t.2.1<|HA (HN.mpr #[ht1,htx]),Ht.mpr #[t.1,HA<|HN.mpr #[ht1,Hu rfl],1]];show HA this
universe e
theorem bv (S:NS)(ho:Option Str)(N m:Nat)(ç):List Δ:=ç.map λks=>S.Mi.map λg=>jq c1N
def b3v (c7x)(h g:Str)(N m:Nat):bb ts (!h) g N m=match dG ts (!h) g N m [] with
  | .inl ks=>.inl ks
  | .inr U=>.inr (e3j m<|ts.filter λt=>O9 U t.1):=rfl
def bX (c8Q){x d:α}(h:l[i]?=!x):e6E d=x:=by rw[Hq,h];rfl
structure yk (p:Int)(d1D)(m:Nat):Prop where
 len:v.length=m
 fit:WQ p v
 some:v.filter (λz=>not (decide (z=0)))≠[]
 ker:∀ r∈t,Mx.dot r v % p=0
def c5r (c9p):∀ {ws1:List Mv}{t:Mv}{ws2:List Mv},ws=ws1++t::ws2->Qo ts x ws1 t.2.1/\t∈ts:=by
 induction W with
 | nil=>intro ws1 t ws2 e;simp at e
 | @snoc ws t' A ht ih=>
  intro ws1 t ws2 e;rcases List.eq_nil_or_concat ws2 with rfl|⟨ws3,t3,rfl⟩
  ·simp_all
  ·rw[List.concat_eq_append,<- List.cons_append,<- Ik]at e;let#[e1,_]:=List.append_inj' e rfl;show ih e1
def hX (c9p):(ws=[]/\y=x)\/∃ VA t,ws=VA++[t]/\t∈ts/\t.2.2.1=y/\Qo ts x VA t.2.1:=by
 cases W with
 | nil=>show .inl #[2]
 | snoc A ht=>show .inr #[P8,ht,1,A]
def a6L (k:∀ t∈ts,t∈ts')(c9p):Qo ts' x ws y:=by
 induction W with
 | nil=>show .nil _
 | snoc A ht ih=>show .snoc ih (k _ ht)
def lQ (c7x)(h g:Str):e3c (O9 []) h g 0:=by show Flow.none ts h g
structure WN (S:NS)(h:Str)(ord:η)(d0x):Prop where
 ln:LN S ord R
 Mt:S.Mt.map (·.1)=!h
 P4:h∈S.names
 no:∀ t∈S.LK,t.2.2.1≠h
 pos:∀ t∈S.LK,0<=t.1
def WN.mem (W)(d0f):jp∈ai S:=W.ln.LV.mem_iff.mpr (Ht.mpr #[uP])
def WN.one (W)(h1:(k,a)∈ai S)(h2:(k,b)∈ai S):a=b:=by
 let#[i,hi,e1]:=IG.mp h1;let#[j,hj,e2]:=IG.mp h2;let g1:((ai S).map (·.1))[i]?=!k:=by simp_all
 let g2:((ai S).map (·.1))[j]?=!k:=by simp_all
 let:=c7 W.ln.fits.nd g1 g2
 simp_all
def WN.a01 (W):bt S h=none:=by unfold bt;rw[if_pos W.Mt]
def WN.Yi (W)(n:x≠h):bt S x=!S.into x:=by unfold bt;rw[if_neg λz=>n<|Option.some.inj (z.symm.trans W.Mt)]
def c3P {S:NS}(d0f):t.1∈S.into t.2.2.1:=by show HA (HN.mpr #[ht,Hu rfl])
def WN.sub (d1A):∀ (n:Nat) {ws:List Mv}{y:Str},ws.length=n->Qo ts h ws y->∀ {t:Mv}{i:Nat},t∈S.LK->t.2.1=y->(ai S)[i]?=!(t.1,bt S t.2.1)->(aB ws).Sublist (((ai S).take i).map (·.1)):=by
 intro r'
 induction r' with
 | zero=>
  ext d7V;rw[JM.mp hn];show List.nil_sublist _
 | succ n ih'=>
  ext d7V;ext d4G
  ·simp at hn
  ·let nh:t.2.1≠h:=λz=>W.no t' AU (by rw[e',<- ey,z]);let hk:t'.1∈((ai S).take i).map (·.1):=(e2C _ _ hi<|W.Yi nh).2 _ (by rw[ey,<- e'];show c3P<|hs t' UP);let#[r,hr,er]:=Ht.mp hk;let#[j,hj,ej]:=KF.mp hr;let Zz:j<(ai S).length:=#[]
   let ejr:(ai S)[j]?=!(t'.1,bt S t'.2.1):=by rw[Hm Zz,ej];let#[k,mx]:=r;let er:k=t'.1:=er;subst er;let:=W.one (a:=mx) (b:=bt S t'.2.1) (by rw[<- ej];show IH Zz)<|W.mem AU;rw[this]
   let ih:=ih' b98 A' AU rfl ejr;let tk:((ai S).take<|j+1).map (·.1)=((ai S).take j).map (·.1)++[t'.1]:=by rw[Jq,ejr,Hx];rfl
   let en:aB (VA++[t'])=aB VA++[t'.1]:=by unfold aB;rw[Hx];rfl
   rw[en];show List.Sublist.trans (d9x ih) ?_;rw[<- tk];show List.Sublist.map _ (List.take_sublist_take_left<|by lia)
def WN.whole (d1A)(A:Qo ts h ws y):(aB ws).Sublist ((ai S).map (·.1)):=by
 ext d4G
 ·show List.nil_sublist _
 ·let#[tD]:=IG.mp<|W.mem AU;let ei:(ai S)[i]?=!(t'.1,bt S t'.2.1):=by rw[Hm hi,ei]
  let tk:((ai S).take<|i+1).map (·.1)=((ai S).take i).map (·.1)++[t'.1]:=by rw[Jq,ei,Hx];rfl
  let en:aB (VA++[t'])=aB VA++[t'.1]:=by unfold aB;rw[Hx];rfl
  rw[en];show List.Sublist.trans (d9x (W.sub hs _ rfl A' AU rfl ei)) ?_;rw[<- tk];show List.Sublist.map _ xP
def a8p (P4)(O:V1 S (!ks) N)(e:bb mr (!h) g N m=.inr w):
  ∃ Ng:List DU,w=Ng.map aB/\Ng.length=m/\(∀ ws∈Ng,Qo mr h ws g)/\w.flatten.Nodup:=by
 rw[b3v]at e;let PT:=O.parts;let#[rk,Ys,Zt]:=PT.rk;let#[w1,_]:=a63 PT.nd O.ends P4 O.hN m [] 0 (lQ _ h g) Jt
 cases hw:dG _ _ g N m [] with
 | inl XQ=>ext d7F
 | inr U=>
  rw[hw]at e;let F:=(w1 U hw).1;rw[KB]at F;let#[Ng,c6t]:=a47 PT.nd Ys Zt m _ F;let e:=Sum.inr.inj e;rw[<- e,e1];show#[Ng,1,e2,λws Wf=>a6L b76<|e3 ws Wf,e4]
def b9P:∀ (l:List Δ)(k:Nat),(∀ x∈l,x.length=n)->((l.zipIdx k).flatMap λx=>x.1.map λways=>qu).length=l.length * n
 | [],_,_=>by simp
 | x::l,k,h=>by
  rw[List.zipIdx_cons,KZ,HE,Hl,b9P l (k+1) λe3D=>h y<|by simp[hy],h x<|by simp,I0,Nat.succ_mul]
  lia
def c4y (he:M'∈Mk.LQ (bv S ho N m ç)):∃ ks g,ç[M'.1]?=!ks/\g∈S.Mi/\M'.2=jq c1N:=by let#[#[bl,c],hx,hm]:=JX.mp he;let hx:=J4.mp hx;unfold bv at hx;rw[Hy]at hx;let#[ks,hk,1]:=HZ.mp hx;let#[ways,hw,1]:=Ht.mp hm;let#[g,hg,1]:=Ht.mp hw;show#[ks,g,hk,hg,1]
def cQ (ht:t∈aP ts !ks):t∈ts/\¬ t.1∈ks:=by let#[yi]:=HN.mp ht;show#[h1,by simpa using h2]
def b1x (P4)(hO)(he:M'∈Mk.LQ Bu):
  ∃ ks g,ç[M'.1]?=!ks/\g∈S.Mi/\∃ Ng:List DU,M'.2=Ng.map aB/\Ng.length=m/\(∀ ws∈Ng,Qo mr h ws g)/\M'.2.flatten.Nodup:=by
 let#[ks,g,hk,hg,e]:=c4y he;let#[O,hW]:=hO ks<|Hs hk;let#[w,ew]:=hW g hg;let#[Ng,C8,d]:=a8p P4 O ew;rw[ew]at e;let e:=e;show#[ks,g,hk,hg,Ng,e.trans a,b,c,e▸d]
def WN.Wo (d1U):
  Mk.PX p m ç Ea yZ:=by
 let perm:=W.ln.LV;let inm:∀ x∈ai S,∃ t∈S.LK,x=_:=λe1h=>by let#[t,ht,e]:=Ht.mp<|perm.mem_iff.mp hx;show#[t,ht,e.symm]
 let Y5:(S.LK.map (·.1)).Nodup:=by
  let:=W.ln.fits.nd;let pk:=(perm.map (·.1))
  rw[Hv]at pk;show pk.nodup_iff.mp this
 show#[hP,W.ln.fits.nd,λe1h=>?_,λe1h ks e=>?_,λi x ks hi e e7e=>(e2C x ks hi e).2 k hk,λM' he=>?_,λM' he=>?_,λf0D=>?_,λf0D l k r e mx hm w hwm=>?_,λM' he=>?_,λf0D e7e=>?_,?_]
 ·let#[uP]:=inm x hx;show W.pos t ht
 ·let#[uP]:=inm x hx;let e:=e;unfold bt at e;split at e
  ·cases e
  ·cases e;show Y5.sublist b7w
 ·let#[ks,g,hk,_]:=e3l he;show (Ho.mp hk).1
 ·let#[Fc,e,l,_]:=e3l he;rw[e,Hl,l]
 ·let#[Fc,e,_,wk,_]:=e3l he;rw[e]at hw;ext d3Y;show W.whole c0m (wk ws Wf)
 ·let#[Fc,e',_,wk,_]:=e3l he;rw[e']at hw;ext d3Y;let#[ws1,b2V,1,zw]:=List.map_eq_append_iff.mp e;let#[t,ws2,1,e3,e4]:=List.map_eq_cons_iff.mp e2;let#[A,ht]:=c5r (wk _ Wf) rfl;let em:=W.one hm<|e3▸W.mem ((cQ ht).1);rcases hX A with⟨rfl,eh⟩|⟨VA,t',rfl,UP,et',_⟩
  ·subst e1;rw[em,eh,W.a01];show HA (IB.mpr hwm)
  ·subst e1;let nh:=λz=>W.no t' (cQ UP).1<|et'.trans z;rw[em,W.Yi nh,Hx];rw[List.getLast?_append];rw[<- et'];show c3P (cQ UP).1
 ·let#[Fc,Lq,nd]:=e3l he;show nd
 ·let#[ks,g,VS,_,Ng,e,_,wk,_]:=e3l he;rw[e]at hw;ext d3Y;let#[uP]:=Ht.mp hk;let:=(cQ<|(wk ws Wf).sub t ht).2;rw[Hq,VS];show this
 ·let:=b9P Bu 0 λe1h=>by let#[ks,_,1]:=Ht.mp hx;rw[Hl]
  unfold Mk.LQ;rw[this];unfold bv;rw[Hl];show MW
def b4p (hj:j<m):(e6M m k).getD j 0=(bK wE k).getD 0:=by
 show bX ?_;unfold dD
 simp_all
def b2G (G:f1E ms)(F:CD ms)(c8R)(d1j)(hT:∀ (n:Nat) x,ms[n]?=!x->bF ř x.1=e0B (d9V Mk.stN ms n) x):∀ (n:Nat) x,ms[n]?=!x->e6M m x.1=Mk.lk (d9V Mk.Uh ms c) x.1:=by
 intro n
 induction n using Nat.strongRecOn with
 | ind n ih=>
  intro x hx;rw[Mk.YE G hc hx];unfold dD;let one:∀ j,(bK wE x.1).getD 0=if x.1∈ks then 0 else Mx.M9 p (bF ř x.1) _:=λj=>by
   rw[b8T F<|Hs hx];change fC _ _ _ _ _ _=_;unfold fC;rw[hf];by_cases P4:x.1∈ks
   ·rw[if_pos P4,if_pos<|Hu P4]
   ·rw[if_neg P4,if_neg<|by simpa using P4]
  unfold Mk.newRow;by_cases P4:x.1∈ks
  ·rw[if_pos P4];apply JN;intro j;rw[Hy];by_cases hj:j<m
   ·rw[Kb hj,Kg hj];change some ((bK wE x.1).getD 0)=_;rw[one j,if_pos P4]
   ·rw[II<|by simpa using hj,II<|by simpa using hj];rfl
  ·rw[if_neg P4];unfold Mx.MZ Mx.cols;rw[Hv];ext d7G;ext d5t;rw[one j,if_neg P4,hT n x hx];change _=e4c (Mx.col _ j) _;rw[Mx.Mr,Mx.Mr,Mx.N4];congr 2
   cases h2:x.2 with
   | none=>
    change Mx.LL m j=Mx.col ((Mk.starts m).map _) j;rw[<- Mx.Xz m j hj];congr 1;unfold Mx.ones Mk.starts;rw[Hv];show Ia λw hw=>(Mk.Wt G hc<|IB.mp hw).symm
   | some XQ=>
    unfold Mx.col;rw[Hv];show Ia λe7e=>?_;let#[r,hr,1]:=Ht.mp<|(F.ahead n x XQ hx h2).2 k hk;let#[tD]:=KF.mp hr;let:=ih i #[] r (by rw[Hm<|by lia,ei]);change _=(Mk.lk _ r.1).getD j 0;rw[<- this,b4p hj]
def Mut {ws:List Mv}(A:e9Y g)(hk:(aB ws).getLast?=!k):∃ t∈ts,t.1=k/\t.2.2.1=g:=by
 rcases hX A with⟨rfl,_⟩|⟨VA,t,rfl,ht,e,_⟩
 ·cases hk
 ·let en:aB (VA++[t])=aB VA++[t.1]:=by unfold aB;rw[Hx];rfl
  rw[en,List.getLast?_append]at hk;show#[t,ht,Option.some.inj hk,e]
def WN.reads (d1U){c:Nat}(c8R){ř:List bx}(d1j)(hT:∀ (n:Nat) x,(ai S)[n]?=!x->bF ř x.1=Mk.LW p m Ea (Mk.stN p m ç Ea yZ n) x)(hg:g∈S.Mi)(ngh:g≠h)(hS:yk p (dg S p ř fo yZ m g) v m):False:=by
 let G:=W.Wo hP hO MW;let a9g:=b2G G W.ln.fits hc hf hT;let#[O,hW]:=hO ks<|Hs hc;ext d48;let a9N:((c,w))∈Mk.LQ (bv S (some h) N m ç):=by show JX.mpr ⟨(S.Mi.map λg=>jq<|bb _ _ g N m,c),J4.mpr ?_,Ht.mpr #[w,Ht.mpr #[g,hg,by rw[ew];rfl],1]⟩;unfold bv;rw[Hy,hc];rfl
 let#[e,he]:=Lc.mp a9N;let sep:=λ{y:Ξ} (hy:y.length=m)=>Mk.YD G he (λway hw=>?_) hS.len (λway hw e7e=>?_) hy
 ·apply hS.some;rw[Jx];intro z hz;let#[j,hj,ej]:=IG.mp hz;let hd:=sep<|Mx.Mb m j;rw[Mx.N4,Mx.N3 _ _ _ hS.len,Hq,Hm hj]at hd;let hd:=hd;rw[ej]at hd;let f:=hS.fit z hz;let:z=0:=by
   rcases Int.lt_trichotomy z 0 with q|q|q
   ·lia
   ·show q
   ·let:=Lh q hd;lia
  rw[this];simp
 ·ext d7q;intro z;rcases hX (e3 ws Wf) with⟨_,eg⟩|⟨VA,t,rfl,_⟩
  ·show ngh eg
  ·unfold aB at z;simp at z
 ·ext d7q;let#[uP,etg]:=Mut (e3 ws Wf) hk;let hts:=(cQ ht).1;let#[tD]:=IG.mp<|W.mem hts;let:=a9g i _ (by rw[Hm hi,ei]);let this:=this;rw[<- this,Mx.N4];show IZ (hS.ker _ ?_);show Ht.mpr #[t.1,etg▸c3P hts,1]
def b7t:∀ (m:Nat)(ps:À),(∀ q,q<m->q∈ps)->m<=ps.length:=by
 intro r'
 induction r' with
 | zero=>
  intro _ _;show Iv _
 | succ m ih'=>
  intro ps h;let hm:=h m<|J3 m;let:=ih' (ps.erase m) λe9t=>(Lk<|by lia).mpr (h q<|by lia)
  grind
structure b0t (c9m)(L:Nat):Prop where
 rd:(Mx.MN rG m).length=L
 le:L<=m
 un:nM p t m=[] ↔ L=m
def b7d (c9y):∃ L,b0t p t m L:=by
 ext d2Y;let#[ps,AO,_]:=Mx.RR.run #[0] Dq (Mx.Rh #[0] S) m;let#[Yg,mJ,_]:=Mx.RR.run #[0] Dq S m;let e1:=Mx.NQ a2;let e2:=Mx.NQ b2;let el:ps.length=Yg.length:=by
  let:=Mx.UG (p:=p) (bk:=My.bk p) (ř:=Mx.joined t) m<|Hz _;rw[Mx.UM S]at this
  simp_all
 show#[ps.length,by rw[e1],by rw[el];show b2.MW,?_];let eu:nM p t m=(List.range m).filter λq=>not (decide (q∈Yg)):=by unfold nM Om;rw[e2]
 rw[eu,el];ext d4L
 ·intro h;let:=b7t m Yg λe9t=>by
   simp_all
  let:=b2.MW;omega
 ·intro h;let:=b2.all h
  simp_all
abbrev rdr (c9m):Θ:=((e8B m).take m).map (List.drop m)
structure tZ (p:Int)(t R:Θ)(m:Nat):Prop where
 len:R.length=m
 QE:∀ r∈R,r.length=t.length
 fit:∀ r∈R,WQ p r
 ones:∀ i j,i<m->j<m->Mx.dot (R.getD i []) (Mx.col t j) % p=if i=j then 1 else 0
def b2k (c9y)(h:(Mx.MN rG m).length=m):tZ p t (rdr p t m) m:=by
 ext d2Y;let#[ps,AO,a4]:=Mx.RR.run #[0] Dq (Mx.Rh #[0] S) m;let e1:=Mx.NQ a2;rw[e1]at h;let hl:(e6K m).length=t.length:=by rw[a3,Mx.NR]
 let hm:m<=(e6K m).length:=by let h2:=a2.len;rw[h]at h2;show h2
 let mem:∀ r∈rdr p t m,∃ r0∈red p Ň m,r=r0.drop m:=λe3I=>by let#[r0,h0,1]:=Ht.mp hr;show#[r0,Lj h0,1]
 show#[by rw[Hl,HF];omega,λe3I=>?_,λe3I=>?_,λf0C=>?_]
 ·let#[r0,h0,1]:=mem r hr;rw[KA,a2.sh.QE r0 h0];omega
 ·let#[r0,h0,1]:=mem r hr;intro z hz;show a2.sh.fit r0 h0 z (List.mem_of_mem_drop hz)
 ·let:=Mx.W7 #[0] S a2 (a2.all h) hl a4 i j hi hj;let eg:(rdr p t m).getD i []=((e6K m).getD i []).drop m:=by
   let SW:i<(e6K m).length:=#[0]
   show bX ?_;rw[Hy,IT hi,Hm SW,bX<|Hm SW];rfl
  rw[eg];show this
def b16 (c9y)(h:nM p t m=u::rest):yk p t (Mx.MI p Pz (Om p t m) m u) m:=by
 ext d2Y;let#[ps,mJ,b4]:=Mx.RR.run #[0] Dq S m;let e2:Om p t m=ps:=Mx.NQ b2;let hu:u∈nM p t m:=by rw[h];show HS
 let#[hu1,hu2]:=HN.mp hu;let hum:=IB.mp hu1;let hup:u∉ps:=by rw[e2]at hu2;simpa using hu2
 let#[n1,n2,n3,n4]:=Mx.W' #[0] b2 hum hup;rw[e2];generalize Mx.MI p _ ps m u=v at n1 n2 n3 n4;show#[n3,n4,λz=>?_,λe3I=>JO<|(b4 v).mp n1 r hr];let hv:v.getD u 0∈v:=dZ #[0];let:v.getD u 0∈v.filter (λz=>not (decide (z=0))):=HN.mpr #[hv,by let n2':v.getD u 0=1:=n2;rw[n2'];rfl]
 grind
def b8N (c9y):(¬ (Om p Ň m).length<m/\∃ R,fP p t m=.tup [.str "reads",tb R]/\tZ p t R m)\/∃ v,yk p t v m:=by
 let#[L,B]:=b7d hP S;let e:(Om p _ m).length=L:=B.rd;unfold fP wg;ext d7f
 ·show .inr ?_
  cases hu:nM p t m with
  | nil=>
   let:=B.un.mp hu;omega
  | cons u rest=>show#[_,b16 hP S hu]
 ·ext d40;let:=B.le;show .inl #[c,_,1,b2k hP S (by change (Om p _ m).length=m;omega)]
def a1z (d0J)(sF:gR F H)(hJ:W2 F J (nm.map u))(c8i)(hd:∀ lc H' (as:υ) vs,gR H H'->H lc=none->H' lc=!.lst vs->as.length=nm.length->as.Nodup->(∀ a∈as,H' a=!.lst []/\H a=none)->e6P Gq->G lc H'):e3q G J H:=by
 intro lc Vp;show#[λi m σ' H1=>m=nm.length - i/\i<=nm.length/\(∃ o,σ'=o::js.map λj=>(σ[j]?).join)/\gR H H1/\∃ as:υ,as.length=i/\as.Nodup/\(∀ a∈as,H1 a=!.lst []/\H a=none/\a≠lc)/\∃ vs,H1 lc=!.lst vs/\Paired (λv kv=>∃ t,v=.ref t/\H1 t=!.tup xo) vs (f1F as),#[nm.length,EE,c5g],?_];rintro i m σ' H1 ⟨rfl,hi,⟨o,rfl⟩,e1,as,WJ,han,has,vs,SQ,Xk⟩;by_cases c:i<nm.length
 ·let ex:=Hm c;let#[go,yl]:=hJ.go H1 i _ v4 (by rw[Hy,ex];rfl);show .inr #[go,λx H2 y=>?_];let#[e2,dx]:=yl x H2 y;show#[λ_=>False,λv H5=>∃ a t,v=.ref t/\gR H2 H5/\H2 a=none/\H2 t=none/\H5 a=!.lst []/\H5 t=!.tup [kV<|kf nm[i],.ref a],λ_ h=>h.elim,λv H5 h=>?_,?_]
  ·let#[a,t,1,e5,ha0,ht0,ha,ht]:=h;let Wu:=e2.trans e5;let Xi:(f1F as).length=i:=by unfold bC;rw[Hl,JE,HF,WJ];omega
   let alc:=(aj (e1x SQ) ha0).symm;let tlc:=(aj (e1x SQ) ht0).symm;show#[vs,Wu _ _ SQ,by rw[Paired.length Xk,Xi];change i<2 ^ 24;omega,_,?_,1,c,#[_,1],bg (e1.trans Wu) Vp,as++[a],by rw[HE,WJ];rfl,?_,λe1C=>?_,vs++[.ref t],ae,?_]
   ·omega
   ·ext d5s;let:=e1x (has a hb).1;rw[ha0]at this
    ext d3Q
   ·rcases HW.mp hb with hb|hb
    ·let#[mJ]:=has b hb;show#[by rw[a9 b3];show Wu _ _ b1,b2,b3]
    ·rw[HH.mp hb];show#[by rw[a9 alc];show ha,(e1.trans e2).free ha0,alc]
   ·let er:bC kf (nm.take<|i+1) (as++[a])=f1F as++[(kf nm[i],.ref a)]:=by unfold bC;rw[aW ex,List.zip_append (by rw[HF,WJ];omega),Hx];rfl
    ext d4A;let:=Wu _ _ UP;rw[a9 (λz=>by rw[z,Wu _ _ SQ]at this;cases this)];show this
  ·show ht nm[i] (IH c) x H2 _ (d9l (aO v4 e2) dx) λa t e7f a0 t0 a1 t1=>#[a,t,1,e3,a0,t0,a1,t1]
 ·let ei:i=nm.length:=#[0]
  subst ei;rw[Iu]at Xk;show .inl #[hJ.stop H1 _ v4 (by rw[Hl];show Hz _),hd lc H1 as vs e1 Vp SQ WJ han (λa ha=>let ⟨x,y,_⟩:=has a ha;#[x,y]) Xk]
def a0b [DecidableEq α](kj)(nd:nm.Nodup)(hl:nm.length<=1000)(e)(SQ:H' lc=!.lst vs)(al:as.length=nm.length)(an:as.Nodup)(has:∀ a∈as,H' a=!.lst []/\H a=none)(hp:e6P Gq)(q:∀ d H2 (LA:α->Addr),gR H H2->H d=none->H2 d=!.dK c1O->(∀ x∈nm,H2 yF=!.lst []/\H yF=none/\cC c1O (kf x)=!.ref yF)->(∀ x∈nm,∀ y∈nm,LA x=LA y->x=y)->Q kR H2):∃ p ķ,[V.ref lc]=Cd/\b7i H' p ķ/\ķ.length<=1000/\O7 H' Ŭ Q:=by
 let Xi:(e6O as).length<=1000:=by
  unfold bC
  simp_all
 show#[lc,_,1,#[vs,SQ,hp],c6h];rw[c2W kj nd<|by omega]at hd;let#[LA,Yj,la2,la3]:=a6t kj nm as nd an al.symm;let ek:e6O as=nm.map λx=>_:=la3▸b88 nm;rw[ek]at hd Yj;show q d H2 LA (e.trans e2) (e.free h2) hd (λe1h=>let ⟨a,b⟩:=Yj x hx;let #[c,c']:=has _ b;#[e1x c,c',a]) la2
theorem a3Q (a)(o:HO):Hp:=λb=>if b=a then some o else none
def sK (h:H a=!o):gR (a3Q a o) H:=λb u hb=>by
 grind [a3Q]
def a6w (d0J){ð:ι}(sF:gR F H1)(p1:Rd F dp Cv)(p2)(fz:e9R dp o ķ)(hk:ð.map pK=nm.map u)(c8i)(hd:∀ lc H' (as:υ) vs,gR H1 H'->H' lc=!.lst vs->as.length=nm.length->as.Nodup->(∀ a∈as,H' a=!.lst []/\H1 a=none)->e6P Gq->Q (d9G lc) H'):e3q b4O (Itk o dp) H2:=by
 let#[f1,f2]:=fz;rcases f2 with⟨h1,f2,nf⟩|f2
 ·show a1z (sK f1) b6k hl ht λe79 h0 e3J=>.inl #[dp,o,ķ,nf,e' _ _ f1,?_];let nd:∀ {b:Addr},H2 b=none->b≠dp:=λhb=>(aj f1 hb).symm;subst f2;show hd lc _ as vs (Bv h1 e') (by rw[a9<|nd h0];show SQ) al an (λa ha=>let ⟨x,y⟩:=has a ha;#[by rw[a9<|nd y];show x,by let:=nd y;rwa [a9 this]at y]) (Paired.imp' (λv kv J'=>(by let#[t,et,ht]:=J';show#[t,et,by rw[a9 (λz=>by rw[z,e' _ _ f1]at ht;cases ht)];show ht])) hp)
 ·subst f2;show a1z (sK f1) b6k hl ht λe79 h0 e3J=>.inr (hd lc H' as vs e' SQ al an has hp)
def a02 (k:Nat)(s)(d00)(h:Md ő l vs)(τ:St)(hσ:σ=vs.map some++τ)(hk:k<=τ.length):Ss F H ő σ G (l.map .fz++e1a .un):=by
 let hl:=h.length;subst hσ;show#[e,s,ao s,gR.refl _,by simp;omega,λe9u=>?_,λe9u=>?_,λi j c d a n q=>?_]
 ·by_cases c:i<l.length
  ·rw[Ij<|by simpa using c,Hy]at q
   cases z:l[i]? with
   | none=>ext d58
   | some y=>
    ext d78;show#[v,by rw[Ij<|by simp[hl,c],Hy,a];rfl,b]
  ·rw[Iq<|by simpa using c]at q
   cases (JJ<|Hs q)
 all_goals
  rcases HW.mp (Hs q) with z|z
  ·simp_all
  ·cases JJ z
def sd1 (s)(c9w):e94 H [!d]:=#[s,by simp,λi e q=>by
 match i,q with
 | 0,q=>simp_all
 | i+1,q=>simp at q]
def qAt (F0 H0:Hp)(h:f1a r):f1o E5:=h F0 H0
theorem rD (d0d):Prop:=ns=e9n S.names.length/\CG VV/\(∀ t∈S.LK,t.2.2.1∈S.names)/\S.LK.length<=900/\S.LO.length<=900
def c5N:au ["self","begins",Aa,"told"] Þ (aa vN):=PD
def c6B [Bx:Bd](O)(d1G)(LP)(OO:MR 1 "first_ready" c1s (Pr Od)):Tm 2 "ordered" "Net.ordered" vN Þ (Pr (qM c rD)):=by
 ext d27;ext d5r;show F.ok c5N Zk cJ
 ·obtain⟨G,_,_,sF,hl,@⟨S,ns,hN⟩,q⟩:=h;let#[_,ac,a41,htz,hpz]:=id hN;let#[1,_]:=hN;let#[v,_,1,hv,1]:=hl;let ND:=c5N.nd;let bnm:(bD S).map (·.1)=S.names:=by unfold bD;rw[Hv];show List.map_id _
  let XO:S.names.Nodup:=by rw[<- bnm];show ac.nd
  let nl:S.names.length<=1000:=by unfold NS.names;rw[Hl];omega
  let pk:(S.LO.map λp=>((.inr p.1:vm),gW c p)).map pK=S.names.map .str:=by unfold NS.names;rw[Hv,Hv];rfl
  show#[_,(ag (pS 1 ND (e4r (a8 (PE.Y' (t':=λe0i=>ja (C5 _<|tP _) _ _ _ _ _ σ H<|Y' _ Q) (e71 (av<|V7 M8 (Đ 0))
  ĕ
  jO
  (λe0m=>cI<|a8 (pv 0) (a8 (bV K') K'))) λe1j=>h) K')))
   (ag (e0N b4V (e1R (n:=4) rfl<|af AV (af xO<|f1G (af Id aG)))
  (d8V (pD Ba BC<|pv 4) mm))
   (qAt G H (qC c2D
 (qC (qW HB (e3V (d91 6)<|e8D (Đ 1))
  (q1<|qA (aw<|e0s xU (a8 (dF OO hr.m rfl<|e0z (e3a LS)) K')) (λe1j=>h)))
 (qr<|Đ 6)))))),?_]
  show#[λe3C=>gR H H1/\DR (grow G H H1) (DB c S) x,tP.go (ε:=[some<|aK c S]) (sd1 sF hv) ⟨rfl,rfl,rfl⟩ λx e2t _ hx=>#[e1,hx],λe3C h=>?_];let#[e1,dp,ķ,1,hd,hk,hds]:=h;let sF1:=aO sF e1;show#[dp,1,.inr<|.inr ⟨ķ,hd.mono sF1,λf2x=>?_⟩];show a6w sF1 hd hk fz pk nl (λe1h v H1 Q hv q=>#[_,Fq,λf2z=>#[(by change 2<=sizeLine;decide),λt e7f h3 ht=>q a t H3 (e2.trans e3) h2 (e2.free h3) (e9a ha) (by cases hv;show ht)]]) λe79 e3J=>a0b b9C XO nl (e1.trans e') SQ al an (λa ha=>let ⟨x,y⟩:=has a ha;#[x,e1.free y]) hp λd H3 LA e3 d0 hd3 Wn inj=>?_;show tP.go (F:=G) (ε:=[some<|aK c S]) (sd1 (sF.trans e3) hv) ⟨rfl,rfl,by decide,⟨#[0]⟩⟩ λx f2w _ hx=>?_;let#[lt,xs,1,NU,hxs]:=hx;let hp:=a7B hxs;let WB:=Paired.length hp;let le4:gR (grow G H3 H4) H4:=aO (sF.trans e3) e4;let laN:∀ x∈S.names,grow G H3 H4 yF=none:=λe1h=>by unfold grow;rw[if_neg (by rw[(Wn x hx).1];show nofun)];show sF.free (Wn x hx).2.1
  generalize grow G H3 H4=Γ at *
  show#[lt,1,#[_,Ma.of<|le4 _ _ NU],e2m (xs:=xs) (λj σ Hj=>(∃ o2 o3 o4 o5,σ=[!v,some<|.ref d,o2,o3,o4,o5,none])/\gR H Hj/\gR Γ Hj/\Hj d=!(.dK<|S.names.map λx=>(Sum.inr x,V.ref<|LA x))/\∀ x∈S.names,Hj yF=!(.lst<|(f0r x).map V.str)) ⟨⟨_,_,_,_,rfl⟩,e3.trans e4,le4,e4 _ _ hd3,λe1h=>e4 _ _ (Wn x hx).1⟩ (λj σ Hj _ h=>Ma.of<|h.2.2.1 _ _ NU) ?_ ?_]
  ·rintro j w σ Hj ev ⟨⟨o2,o3,o4,o5,rfl⟩,eH,eΓ,hdj,bj⟩;let#[t,et,b,1,hb]:=Paired.at hp ev;let hy:=a41 t<|Hs et;show#[b,_,1,Oi.of<|eΓ _ _ hb,1,_,_,1,_,_,1,_,_,1,_,[],2,?_];show#[_,1,_,1,d,.ref<|LA t.2.2.1,1,(by rw[<- (Wn _ hy).2.2];show Pw.k (k:=Sum.inr t.2.2.1) hdj),.inl #[1,_,Ma.of<|bj _ hy],_,1,LA t.2.2.1,_,_,2,bj _ hy,?_,#[xT,1],bg eH (Wn _ hy).2.1,bg eΓ<|laN _ hy,?_,λe1h=>?_]
   ·let h3:=qD (S.LK.take j) t.2.2.1;rw[HF]at h3;rw[Hl];change (f0r t.2.2.1).length<2 ^ 24;omega
   ·rw[a9 (λz=>by rw[z,bj _ hy]at hdj;cases hdj)];show hdj
   ·rw[aW et,c4N];by_cases cx:t.2.2.1=x
    ·subst cx;rw[if_pos rfl,ae,Hx];rfl
    ·rw[if_neg cx,HV,a9 λz=>cx (inj _ hx _ hy z).symm];show bj x hx
  ·rintro σ Hj ⟨⟨o2,o3,o4,o5,rfl⟩,eH,eΓ,hdj,bj⟩;rw[WB,Iu]at bj;let ebs:((bD S).map λb=>b7H)=S.names.map λx=>(.inr x,aQ<|f1D x):=by unfold bD;rw[Hv];rfl
   let bsl:(bD S).length=S.names.length:=by unfold bD;rw[Hl]
   show#[grow G H Hj,[.fz<|aK c S,.fz<|vq VV,.un,.un,.un,.un,.un],.rt<|aQ ŧ,a02 (l:=[aK c S,vq<|bD S]) (vs:=[v,.ref d]) 5 sF eH #[_,_,1,hv.mono<|ao sF,_,_,1,#[d,_,1,.inl<|(aE d0).trans hdj,?_,?_],1] [o2,o3,o4,o5,none] rfl<|Hz 5,?_,λx H' e' _ h=>q x H' e' h]
   ·rw[ebs,Hv,Hv];rfl
   ·rw[ebs,Hv,Hv];show fB λe1h=>#[LA x,_,1,(aE (Wn x hx).2.1).trans<|bj x hx,by change Md _ ((f1D x).map D.str) ((f1D x).map V.str);show fB λy _=>rfl]
   show .nx #[pQ] ?_;show fJ (β:=Nat) (b:=0) (λk ε=>ε=[.fz<|aK c S,.fz<|vq VV,.un,.un,.un,.un,.ow<|aQ (f1H k)]/\k<=S.names.length) (λk=>S.names.length - k) #[1,Iv _] λk e3m=>?_;let#[he,hk]:=J';subst he;let#[on,ol]:=oH ac k #[0];let l1:=Oc.m (g:=D.str) (x:=e9n k);rw[ol]at l1;let l2:Oc [vq<|bD S] (.int S.names.length):=by let:=Oc.k (ð:=(bD S).map λb=>b7H);rwa [Hl,bsl]at this
   let rd:=lt_int (ε:=[some<|aK c S,some<|vq VV,none,none,none,none,some<|aQ (e9n k)]) (ra:=rF Oc<|rA (rV 6) SO) (rb:=rF Oc<|rA AH SO) (i:=k) (j:=S.names.length) #[#[2],l1] #[#[2],l2];by_cases g:k<S.names.length
   ·rw[Hu<|by omega]at rd;let#[x,ex,hx,hn]:=b1t ac (ts:=f1H k) #[0];let fr:=Od.mk (bs:=bD S) (ts:=f1H k) ac.nd λe1C=>by unfold bD at hb;let#[y,_,1]:=Ht.mp hb;show HU (qD _ _) #[0]
    rw[ex]at fr;show .inr #[rd,k+1,_,#[1,by rw[Hl,ol];omega,.a #[#[3],fr] rfl],#[?_,g],#[0]];change _=[_,_,_,_,_,_,Sl.ow<|aQ (e9n k++[(bN VV<|e9n k).getD ""])]
    rw[ex,show aQ (_++[(!x).getD ""])=.lst (List.map D.str _++[.str x]) from congrArg D.lst Hx];rfl
   ·let g:k=S.names.length:=#[0]
    rw[Hw<|by omega]at rd;show .inl #[rd,1,by rw[g]]
def TV (s):e8v H []:=#[s,Iv _,λe9u=>by simp at q]
def ML (c7N):Sd F (o::σ) H (none::ε):=#[S.le,Nat.succ_le_succ S.len,λe9u=>by
 cases i with
 | zero=>cases q
 | succ i=>show S.rd i d q]
def NY (c9w)(c7N):e94 H (some d::ε):=#[S.le,Nat.succ_le_succ S.len,λi e q=>by
 cases i with
 | zero=>simp_all
 | succ i=>show S.rd i e q]
def bu (h:H a=none):e0U (upd G a o)=upd ő a o:=by
 funext b;by_cases c:b=a
 ·subst c;rw[aE h,ae,ae]
 ·ext d7b;rw[a9 c,a9 c]
def prG (s)(d00)(hl:Md ő l vs)(hR:R l d)(c95):Pr R vs G Q E0:=#[_,l,d,aO s e,hl,hR,λx G' e' h=>q x G' e'<|by rwa [ay e e']at h]
def tPG (d00)(S:Sd ő σ G ε)(h:r ε d)(c95):tP r σ G Q:=e6C h λx G' e' _ k=>q x G' e' (by rwa [ay e e']at k)
def C7 (d00)(e':gR G G')(hl:G l=!o):gR (grow (aU l ő) G G') (aU l b7I):=λb u hb=>by
 by_cases c:G b=none
 ·rw[aE c]at hb;rw[aR (aj hl c).symm,aE<|e.free c];show hb
 ·rw[show grow _ G G' b=aU l _ b from if_neg c]at hb;show cV (b6 e') b u hb
theorem xw:Hp:=λ_=>none
def c9:gR xw H:=λf2s=>nomatch h
section
variable {C CE f:Addr}
abbrev rW (CE dx d l:Addr):HO:=.ins CE dx [("rows",.ref d),("probes",.ref l)]
inductive jx (c9Y)(c84):Prop
 |mk (x dx d:Addr) (m:Nat):vs=[.ref x,.ref d,.int (m:Int)]->H x=!.ins CE dx []->m<=1000->(∀ l H1,gR b0R H1->DR (grow xw b0R H1) c2G z8->Q .non (upd H1 x (rW CE dx d l)))->jx CE vs H Q E
def c4i:au þ þ (aa zu):=PD
def c3T [Bx:Bd](c7l)(O8):Tm 3 "__init__" "Ear.__init__" zu þ (jx CE):=by
 ext d27;show F.k c4i λe2v=>?_
 ·let#[x,dx,d,m,1,hx,hm,q]:=h;show#[_,(ag (e43 BC rfl)
 (ak<|e43 (be O8 hr.m rfl<|e5j K') rfl)),?_]
  show#[yY,x,CE,jT,hx,T.cl,T.nR,by decide,?_];show#[M1,#[hm],λl e2t hN=>?_];let#[a,xs,1,hN]:=hN;show#[_,1,x,CE,jT,e1J ae,T.cl,T.nB,(by change 1<1000;decide),q a H1 e1 #[a,xs,1,hN]]
inductive u9 (C CE:Addr)(c84):Prop
 |mk (F:Hp) (a f d dx l:Addr) (p k:Int) (i:Nat) (B:Θ) (R:Mk.Qu):gR F H->vs=[.ref a,.ref f,.int (i:Int),.int k]->F a=!rW CE dx d l->DR F (aI R) kR->DR F (tb B) z8->DR F (fD C p) oh->0<p->p<=1000000->k∈R.map (·.1)->i<B.length->(∀ r∈B,WQ p r/\r.length<=1000)->B.length<=1000 ->
  (∀ l' H1,gR H H1->DR yv (tb (Mk.moved p B i Ž)) (d9G l')->Q .non (upd H1 a (rW CE dx d l')))->u9 C CE vs H Q E
inductive MvI (F H:Hp)(a f ml:Addr)(i:Nat)(k:Int)(ow of:V)(ps:Θ)(j:Nat)(c7R):Prop
 |mk (o7 o8 o9:Ç) (ys:π):σ=[!.ref a,!.ref f,!.int (i:Int),!.int k,!ow,!of,!.ref ml,o7,o8,o9]->gR H G->G ml=!.lst ys->Md (aU ml ő) ((ps.take j).map rw) ys->MvI F H a f ml i k ow of ps j σ G
def a7C:au [c5n,"own","often","moved","place","probe","less"] ã (aa BZ):=PD
def a95 [Bx:Bd](hn)(c7l)(N5)(LM):Tm 5 "move_front" "Ear.move_front" BZ ã (u9 C CE):=by
 ext d27;show F.k a7C λe2v=>?_
 ·let#[F,a,f,d,dx,l,p,k,i,B,R,sF,1,ha,hR,hB,hf,p0,p1,hk,hi,hF,hz,q]:=h;let ND:=a7C.nd;let#[l',xs,el,hl,hp]:=id hB
  cases el;let hE:DR F (zB CE R B) kX:=#[a,jT,ha,1,P8,hR,P8,hB,1]
  let WB:=hp.length;rw[Hl]at WB;let#[vo,evo,hvo]:=hp.at (i:=i) (d:=rw š) (by rw[Hy,Hm hi,Hq,Hm hi];rfl)
  let sh:∀ {j:Nat},j<B.length->qJ C CE [zB CE R B,fD C p,.int j,.int k] (.int<|e4c (B.getD j []) (e2g k)):=λhj=>#[p0,p1,hk,hj,(hF _<|dZ hj).1,(hF _<|dZ hj).2]
  let rs:∀ x y:Ξ,0<=e4c x y/\Mx.M9 p x y<p:=λx y=>by rw[Mx.Mr];show#[IW _<|by omega,IJ _ p0]
  show#[_,(ag (pS 4 ND<|pI Ů Ŵ jF)
   (ag (pS 5 ND<|e1p N5 hr.m b5R)
   (ag (pS 6 ND<|bV K')
   (ag (e0N (e8I T.Np<|a8 Ŵ K') (e4h rfl<|af zi (af yV aG))
    (ag (pS 9 ND<|YI (e1b (Đ 7)<|Đ 2) (dC aJ) (e1p N5 hr.m<|e0z (da (Đ 7)<|e1s LS)))
    (ak (jA (pT bo (pv 9) aJ)
    (d8V xU zE)
    (ak (aw (e0s xU (a8 (e9d (cS 2 [1,5,9] [c5e,"less"]) (f1p T.Oz<|f1I (e1M LS))
     ū
     (λe0m=>df0)
     (λe0m=>e3U LM hr.m<|da (dO uy dq b0l<|e2k (Đ 4) (Đ 1)) LS)) K'))))))))
   (ak<|e43 xU rfl))))),?_]
  show#[_,1,a,CE,dx,_,_,1,e2B ha,T.cl,T.nB,1,_,1,l,xs,_,_,2,Ma.of<|e2B hl,fG evo,?_];show tP.go (ε:=[some<|zB CE R B,some<|fD C p,some<|.int i,some<|.int k]) (NY hE<|NY hf (NY rfl<|e2n (TV sF))) ⟨rfl,by decide,⟨rfl,rfl,rfl,rfl⟩,sh hi⟩ λx e2t _ hx=>?_
  cases hx;show#[(by change 0<=sizeLine;decide),λml e15 h2 hml=>?_];let T4:=e1.trans e2;let Xn:H ml=none:=e1.free h2;let gF:∀ {G:Hp},gR F (aU ml<|e0U G):=λ{G} b o hb=>by rw[aR (λz=>by rw[z]at hb;rw[e2B hb]at Xn;cases Xn)];show ao sF _ _ hb
  show#[_,1,a,CE,dx,_,_,1,T4 _ _<|e2B ha,T.cl,T.nB,1,l,xs,1,T4 _ _<|e2B hl,e7P (xs:=xs) (e7Q b80<|e4d B i (e2g k)) ⟨none,none,none,[],rfl,T4,hml,rfl⟩ (λj e3K=>(by let#[xT,_,eG,_,_]:=J';show Ma.of<|f1J (e2B hl))) ?_ ?_]
  ·rintro j v Tp σ G ev ⟨o7,o8,o9,ys,rfl,eG,Zs,Zu⟩ hTp;let hj:j<B.length:=by let:=(Ho.mp ev).1;omega
   let#[v',ev',hv]:=hp.at (i:=j) (d:=rw EG) (by rw[Hy,Hm hj,Hq,Hm hj];rfl)
   rw[ev]at ev'
   cases ev';let eT:gR G (upd G Tp<|.tup [.int j,v]):=aY Ě hTp;generalize upd G Tp (.tup [.int j,v])=G1 at eT;let e1G:=eG.trans eT;let yl:=Zu.length;rw[Hl,HF]at yl;let tk:(e4d B i<|e2g k).take (j+1)=(e4d B i<|e2g k).take j++[e5l Ž j]:=by show aW ?_;unfold Mk.moved;rw[Hy,Kb hj];rfl
   let MW:ys.length<2 ^ 24:=#[0]
   let put:∀ (G2:Hp)(u:V)(o9':Ç),gR G1 G2->DR (aU ml<|e0U G2) (rw (e5l Ž j)) u->e7Q b80 (e4d B i<|e2g k) (j+1) [some<|.ref a,some<|.ref f,some<|.int (i:Int),some<|.int k,!vo,some<|.int Fd,some<|.ref ml,some<|.int (j:Int),!v,o9'] (upd G2 ml<|.lst (ys++[u])):=λG2 u o9' e hu=>by show#[xT,1,bg (e1G.trans e) Xn,ae,?_];rw[tk,Hx,bu Xn,dA];show (Zu.mono<|cV (b6<|eT.trans e)).app (.one hu)
   let S1:Sd F [some<|.ref a,some<|.ref f,some<|.int (i:Int),some<|.int k,!vo,some<|.int Fd,some<|.ref ml,some<|.int (j:Int),!v,o9] G1 a3R:=NY hE<|NY hf (NY rfl<|e2n (ML<|ML (ML<|e2n (TV<|sF.trans e1G))));let md:e5l (e2g k) j=if j=i\/Mx.M9 p (B.getD j []) (e2g k)=0 then B.getD j [] else List.zipWith (λx y=>(e4c š Ž * x - Mx.M9 p EG Ž * y) % p) EG š:=rfl
   let r1:=eq_int (ε:=a3R) (ra:=rV 7) (rb:=rV 2) rfl rfl;by_cases cj:j=i
   ·rw[Hu<|by omega]at r1;show tP.go S1 (.t r1 rfl) λx G2 Qj _ hx=>?_
    ext d6L;show⟨_,λe7d h=>h,_,rfl,rfl,_,rfl,Gz #[c4f]⟩;rw[md,if_pos<|.inl cj];show hv.mono gF
   ·rw[Hw<|by omega]at r1;show tP.go S1 (.f r1 ⟨rfl,by decide,⟨rfl,rfl,rfl,rfl⟩,sh hj⟩) λx G2 Qj _ hx=>?_
    ext d6L;let e2G:=e1G.trans Qj;show⟨_,λe7d h=>h,_,rfl,rfl,_,rfl,jI wH wH⟩
    ·let z:e4c EG Ž=0:=by let:=HR z;injection this
     show#[c4f];rw[md,if_pos<|.inr z];show hv.mono gF
    ·let z:¬ e4c EG Ž=0:=λy=>z<|Hu (by rw[y]);let jl:(B.getD j []).length<=1000:=(hF _<|dZ hj).2;let b1:=rs š<|e2g k;let b2:=rs EG<|e2g k;show#[_,1,.inl b5y,?_];show tPG (F:=aU ml<|e0U G2) (H:=G2) Ě (ε:=[none,some<|fD C p,none,none,some<|rw š,some<|.int Fd,none,none,some<|rw EG,some<|.int (e4c EG<|e2g k)]) ?_ (cv (xs:=(B.getD j []).zip<|B.getD i []) (u:=λz=>.tup vj) (h:=λz=>.int<|(e4c (B.getD i []) (e2g k) * z.1 - Mx.M9 p (B.getD j []) (e2g k) * z.2) % p) (d:=rw (e5l (e2g k) j)) ⟨_,_,⟨rfl,rfl,rfl⟩,gu _ _⟩ (by rw[JE];omega) (λe9v=>#[Fa,vP,#[#[#[2,wI],#[2,wI],y9],1],#[#[0]]]) ?_) λx G3 e3 hx=>?_
     ·let gg:∀ {d:D}{v:V},e3S v->DR (grow (aU ml<|e0U G2) G2 G2) d v:=λh=>(h.mono gF).mono<|ao b81;show ML (NY (gg hf)<|ML (ML<|NY (gg hvo) (NY rfl<|ML (ML<|NY (gg hv) (NY rfl<|TV (aO b81<|gR.refl _))))))
     ·rw[md,if_neg λy=>y.elim cj z,<- Js];ext d7E
     ·show#[ml,_,_,2,e9a UN,MW,put G3 x _ (Qj.trans e3)<|hx.mono (C7 e2G e3 UN)]
  ·rintro σ G ⟨o7,o8,o9,ys,rfl,eG,Zs,Zu⟩;rw[Jf (by unfold Mk.moved;rw[Hl,ID];omega)]at Zu;show#[_,1,_,1,a,CE,dx,_,1,eG _ _<|e2B ha,T.cl,T.nB,(by change 2<1000;decide),q ml G eG #[ml,ys,1,by rw[aE Xn];show Zs,Zu.mono Mm]]
universe e
def aA {D:Ends}(h:∀ P:Υ,(∀ σ' H',u D σ' H'->P σ' H')->t { D with nx:=P } σ H):a3j t u D σ H:=h (u D) λ_ _=>id
def qj {g:α->D}(c8Q){i:Nat}(h:Md F gC vs)(e:vs[i]?=!v):∃ y,l[i]?=!y/\DR F (g y) v:=by let#[d,yi]:=h.at' e;rw[Hy]at h1;let#[y,h3,1]:=HZ.mp h1;show#[y,h3,h2]
def b9T (d1h):∀ {l:List α},(l.map f).Nodup->∀ r∈l,l.find? (λx=>decide (f x=f r))=!r:=by
 intro r'
 induction r' with
 | nil=>
  ext d7U
 | cons x ws ih'=>
  intro nd r h;ext d5R
  ·simp_all
  ·let ne:¬ f x=f r:=λz=>nd.1<|z▸HA h;ext d7p
theorem jL (as:υ)(G:Hp):Hp:=λb=>if b∈as then none else G b
instance t9 (e:gR G G'):gR (jL as G) (jL as G'):=λb o h=>by
 unfold jL at h ⊢;split at h
 ·cases h
 ·rename_i c;rw[if_neg c];show e _ _ h
def c6D (h:l∈as)(o:HO):jL as (upd G l o)=jL as G:=by
 funext b;unfold jL
 grind [a9]
def j4:gR (jL as G) G:=λb o h=>by
 unfold jL at h;split at h
 ·cases h
 ·show h
def v3 (h:¬ b∈as):jL as G b=G b:=if_neg h
def qg:gR (d9P G) G:=λb o h=>by
 ext d6k
 ·rwa [if_pos c]at h
 ·ext d5J
theorem XI (N0:υ)(H)(v)(a:Mk.Ask):Prop:=∃ b ea,v=.ref b/\N0[a.1]?=!ea/\H b=!.tup b1U
def XI.mono (zs:υ)(e)(h:XI N0 H v a):XI (N0++zs) H' v a:=by let#[b,ea,xu]:=h;show#[b,ea,h1,by rw[Ij (Ho.mp h2).1];show h2,e _ _ h3]
theorem Wz (c9Y)(MT:υ)(m)(H)(ea)(M':Mk.MB):Prop:=∃ d dx l,MT[M'.1]?=!d/\H ea=!rW CE dx d l/\DR H c2G z8
def Wz.mono {CE:Addr}(e)(h:e95 H ea M'):e95 H' ea M':=let ⟨d,dx,l,a,b,c⟩:=h;#[c5R]
abbrev _root_.Û:=Int->Addr
abbrev nwL (ks:Ξ)(LA:Û)(H G:Hp):Hp:=jL xG (d9P G)
def z4 (h:¬ b∈ks.map LA)(h0:H b=none):e5m G b=G b:=(v3 h).trans (aE h0)
inductive Ux (c7i)(es:List Mk.MB)(L:List b7J)(N0:υ)(G:Hp):Prop
 |mk:gR G0 (jL xG G)->(∀ k∈ks,H Dl=none/\∃ xs,G Dl=!.lst xs/\Paired (XI N0 (nwL ks LA H G)) xs (Mk.pick L k))->Paired (Wz CE MT m (nwL ks LA H G)) N0 es->N0.Nodup->Ux CE H G0 ks LA MT m es L N0 G
section
variable {CE:Addr}
def Ux.mono (d2l)(c7Y):e3d es L N0 G':=by let#[Ab]:=h;let e':=t9 (as:=ks.map LA)<|b6 (F0:=xw) (H0:=H) e;show#[h1.trans<|t9 e,λe7e=>?_,Paired.O2 h3 λ_ _ z=>z.mono e',h4];let#[g0,xs,oj]:=h2 k hk;show#[g0,xs,e _ _ g1,Paired.O2 g2 λ_ _ z=>by let:=z.mono [] e';rwa [HV]at this]
def Ux.out (c7Y)(hb:G b=none):¬ b∈ks.map LA:=λz=>by
 let#[_,h2,_,_]:=h;let#[k,hk,1]:=Ht.mp z;let#[_,xs,g1,_]:=h2 k hk
 grind
def Ux.app (inj:∀ x∈ks,∀ y∈ks,LA x=LA y->x=y)(c7Y)(hk:k∈ks)(hx:G Dl=!.lst xs)(he:N0[a.1]?=!ea)(hb0:H b=none)(hb:G b=!.tup b1U):
  Ux CE H G0 ks LA MT m es Ff N0 (upd G Dl (.lst (xs++[.ref b]))):=by
 let#[Ab]:=h;let km:=HA (f:=LA) hk;let hu:e5m (upd G Dl<|.lst (xs++[.ref b]))=e5m G:=by unfold nwL;rw[bu (h2 k hk).1,c6D km]
 let nb:¬ b∈ks.map LA:=λz=>by
  let#[k',VS,1]:=Ht.mp z;let#[_,ys,g1,_]:=h2 k' VS;rw[hb]at g1
  cases g1
 show#[by rw[c6D km];show h1,λk' VS=>?_,by rw[hu];show h3,h4];rw[hu];let#[g0,ys,oj]:=h2 k' VS;show#[g0,?_];by_cases c:k=k'
 ·subst c;rw[hx]at g1
  cases g1;rw[Mk.W9];show#[_,ae,Paired.QI g2 #[b,ea,1,he,(z4 nb hb0).trans hb]]
 ·rw[Mk.Vf _ c];show#[ys,by rw[a9 λz=>c (inj _ VS _ hk z).symm];show g1,g2]
def Ux.M' (c7Y)(hx:G x=none)(d2l)(hE:e95 (e5m G') x sw):e3d (es++[sw]) L (N0++[x]) G':=by
 let#[Ab]:=h.mono e;let#[_,_,g3,_]:=h;show#[h1,λe7e=>?_,Paired.QI h3 hE,?_]
 ·let#[g0,xs,FE]:=h2 k hk;show#[g0,xs,q1,Paired.O2 q2 λ_ _ z=>z.mono [x]<|gR.refl _]
 ·show HX.mpr #[h4,by simp,λe3D e9v ez=>?_];rw[HH.mp hz]at ez;subst ez;let#[tD]:=IG.mp hy;let#[M',_,d',dx,l,_,q,_]:=Paired.at g3 (Hm hi);rw[ei]at q;rw[qg _ _<|j4 _ _ q]at hx
  cases hx
universe e
inductive As1 (c7i)(v:V)(fa rb ls d:Addr)(d0v)(d11):Prop
 |mk (o6 o7 o8 o9 Pm OI Og Of:Ç) (N0:υ):σ=[c28,o6,o7,Dc]->Ux CE H G0 ks LA MT m (Mk.LQ gN) (Mk.Oo (Mk.LQ gN)) N0 G->As1 CE H G0 ks LA MT m v fa rb ls d found i σ G
inductive As2 (c7i)(v:V)(fa rb ls d ba rd:Addr)(e0:List Mk.MB)(i:Nat)(bl:Δ)(j:Nat)(c7R):Prop
 |mk (o8 o9 Pm OI Og Of:Ç) (N0:υ):σ=[some v,some (.int (m:Int)),some (.ref fa),some (.ref rb),some (.ref ls),some (.ref d),some (.ref ba),some (.ref rd),Dc]->Ux CE H G0 ks LA MT m (e0++(bl.take j).map λways=>lu) (Mk.Oo (e0++(bl.take j).map λways=>lu)) N0 G->As2 CE H G0 ks LA MT m v fa rb ls d ba rd e0 i bl j σ G
inductive As3 (c7i)(v:V)(fa rb ls d ba rd wa ea:Addr)(d1B)(n:Nat)(ways:Θ)(N0:υ)(w:Nat)(c7R):Prop
 |mk (Pm OI Og Of:Ç):σ=[c4B,Pm,OI,Og,Of]->Ux CE H G0 ks LA MT m e1 (L++Mk.Ow n yu) N0 G->As3 CE H G0 ks LA MT m v fa rb ls d ba rd wa ea e1 L n ways N0 w σ G
inductive As4 (c7i)(v:V)(fa rb ls d ba rd wa ea wy lz:Addr)(d1B)(n w:Nat)(way:Ξ)(N0:υ)(k:Nat)(c7R):Prop
 |mk (Og Of:Ç):σ=[c4B,!.int (w:Int),!.ref wy,Og,Of]->G lz=!.lst ([V.int (Mk.st w)]++way.map V.int)->¬ lz∈ks.map LA->Ux CE H G0 ks LA MT m e1 (L++(Mk.Qg n w way).take k) N0 G->As4 CE H G0 ks LA MT m v fa rb ls d ba rd wa ea wy lz e1 L n w way N0 k σ G
section
variable {c:Cl}{CE:Addr}
inductive a7J (H:Hp)(ad:Addr)(ks:Ξ)(d1V)(N0:υ):Prop
 |mk (ķ:ξ) (LA:Û):H ad=!.dK ķ->(∀ k∈ks,cC ķ ud=!.ref Dl/\∃ xs,H Dl=!.lst xs/\Paired (XI N0 H) xs (Mk.ME ê k))->a7J H ad ks ê N0
inductive uc (c:Cl)(c9Y)(c84):Prop
 |mk (F:Hp) (v x:V) (rb:Addr) (S:NS) (m:Nat) (found:List Δ) (MT:υ):gR F H->vs=[v,.int (m:Int),x,.ref rb]->DR F Ya v->S.LK.length<=1000->(S.LK.map (·.1)).Nodup->DR F (Td found) x->H rb=!.lst (MT.map V.ref)->MT.length=found.length->found.length<=1000->m<=1000->(Mk.Oo Gy).length<=1000000 ->
  (∀ bl∈found,bl.length<=1000/\∀ ways∈bl,ways.length<=m/\∀ way∈ways,way.length<=1000/\∀ k∈way,k∈S.LK.map (·.1)) ->
  (∀ ad H' N0,gR H H'->a7J (d9P H') ad (S.LK.map (·.1)) Gy N0->Paired (Wz CE MT m (d9P H')) N0 Gy->N0.Nodup->Q (d9G ad) H')->uc c CE vs H Q E
def c4j:au [uK,c4k,"starts","told","by_listener","rows","ear_ways","ear","place","way","number","ahead"] ò (d9i 82):=PD
def TgD [Bx:Bd](hn)(c7l)(TD)(MK)(LP)(XG:Wv 3 "Ear" CE þ (jx CE)):Tk 5 "asks_by_tie" (top 82) ò (uc c CE):=by
 ext d27;show F.k c4j λe2v=>?_
 ·let#[F,v,x,rb,S,m,found,MT,sF,1,hv,tz,Y5,#[fa,fs,1,hfa,hfp],hrb,rl,fz,hm,hB,YM,q]:=h;let ND:=c4j.nd;let hfa:=e2B hfa;show#[_,(ag (pS 4 ND<|be MK hr.m rfl BD)
   (ag (pS 5 ND (cU (cw rfl) rfl TD boot_dict (a8 (dY rfl c1G b4V
  ĕ
  jO
  (d9J (pI (Gw Bx.K) lr aJ))) K')))
   (ag (e0N (e7R T.Oz<|e5j Ak) (e4h rfl<|f1q (af zi aG))
  (ak (e0N (d92 6) yV
  (ag (pS 9 ND<|iB XG hr.m rfl (d83 xi BC))
 (ak (e0N (e8I T.Np<|a8 zE K') (d9N 10 CQ)
  (ak (e0N (e7R T.Oz<|a8 (pv 11) (a8 (c6 b7r (bV<|a8 b3o K')<|pv 11) K')) (d9N 12 yL)
  (d8V (pD Ba qt<|pv 12) (cI<|a8 (pv 9) (a8 (pv 10)<|a8 (pv 13) K')))))))))))
   (d97 qt)))),?_]
  show#[M1,#[hm],λls e2t hls=>?_];let#[ls,us,1,hls,hus]:=hls;rw[iI hus]at hls;let hls:=qg _ _ hls;show tP.go (F:=F) (ε:=[some<|aK c S]) (sd1 (sF.trans e1) hv) ⟨rfl,rfl,by decide,⟨tz⟩⟩ λx e15 _ hx=>?_;let#[tl,ts,1,Yp,WD]:=hx;let le2:gR (grow F H1 H2) H2:=aO v4 e2;let ut:∀ t∈S.LK,bY ((S.LK.find? λt'=>decide (t'.1=t.1)).getD (0,"","",0))=bY t:=λe8S=>by rw[b9T Y5 t ht];rfl
  let eu:(S.LK.map (·.1)).map (λk=>bY<|(S.LK.find? λt=>decide (t.1=k)).getD (0,"","",0))=S.LK.map bY:=by rw[Hv];show Ia ut
  rw[<- eu]at WD;show#[tl,1,#[_,Ma.of<|le2 _ _ Yp],a1z (kf:=(Sum.inl:Int->vm)) le2 (AB (.inl Yp) WD) (by rw[Hl];show tz) (λe7e v H3 Q hv q=>?_) λlc H3 as vs e3 h0 e3J=>a0b (λ_ _=>Sum.inl.inj) Y5 (by rw[Hl];show tz) e3 SQ al an has hp λd H4 LA e4 d0 hd Wn inj=>?_]
  ·let#[uP]:=Ht.mp hk;rw[ut t ht]at hv;let#[tp,vs,1,WD,c6W]:=hv;show#[_,1,tp,_,(0),_,2,Oi.of WD,Fq,λf2z=>#[(by change 2<=sizeLine;decide),λt' e7f h3 ht=>q a t' H3 (e2.trans e3) h2 (e2.free h3) (e9a ha) ht]]
  generalize hkv:(S.LK.map (·.1)).map (λx=>((Sum.inl x:vm),V.ref<|LA x))=ķ at hd Wn;generalize hks:S.LK.map (·.1)=ks at *
  let T4:=e1.trans e2;let e04:=T4.trans e4;let laN:∀ b∈ks.map LA,H2 b=none/\H4 b=!.lst []:=λe1C=>by let#[k,hk,1]:=Ht.mp hb;let#[oj,_]:=Wn k hk;show#[g2,g1]
  let hG0:∀ {b o},H2 b=!o->jL xG H4 b=!o:=λ{b o} hb=>by rw[v3 (λz=>by rw[(laN b z).1]at hb;cases hb)];show e4 _ _ hb
  let hd0:jL xG H4 d=!.dK ķ:=by rw[v3 (λz=>by rw[(laN d z).2]at hd;cases hd)];show hd
  let st:Ux CE H (jL xG H4) ks LA MT m [] [] [] H4:=#[gR.refl _,λe7e=>#[T4.free (Wn k hk).2.1,[],(Wn k hk).1,.nil],.nil,Jt]
  generalize jL xG H4=G0 at st hG0 hd0;let toG:∀ {es L N0 G},e3d es L N0 G->gR H2 G:=λ{es L N0 G} J' b o hb=>by let#[g,Lq]:=J';show j4 _ _ (g _ _<|hG0 hb)
  let fl:=hfp.length;rw[Hl]at fl;show#[_,1,_,1,fa,rb,1,#[_,Ma.of<|e04 _ _ hfa],#[_,Ma.of<|e04 _ _ hrb],e7S (xs:=fs) (ys:=MT.map V.ref) (As1 CE H G0 ks LA MT m v fa rb ls d found)
   #[p9,p9,none,none,[],1,st] (λi e3K=>(by let#[xT,On,I]:=J';show#[Ma.of<|e5n (e5k hfa),Ma.of<|e5n (e5k hrb)])) ?_ ?_]
  ·rintro i x y Tz σ G ex ey ⟨o6,o7,o8,o9,Pm,OI,Og,Of,N0,rfl,I⟩ hTz;let#[bl,ebl,ba,bs,1,hba,hbp]:=qj hfp ex;let hba:=e2B hba;rw[Hy]at ey;let#[rd,erd,1]:=HZ.mp ey;let#[blz,bw]:=YM bl<|Hs ebl;let eT:gR G b9D:=aY Ě hTz;let Xs:b9D Tz=!.tup v6:=ae;generalize upd G Tz (.tup v6)=G1 at eT Xs;let I1:=I.mono eT;let bl2:=hbp.length;rw[Hl]at bl2;show#[c5h];show#[_,1,ba,1,#[_,Ma.of<|toG I1 _ _ (e5k hba)],e2m (xs:=bs) (As2 CE H G0 ks LA MT m v fa rb ls d ba rd (Mk.LQ<|found.take i) i bl)
    #[_,_,_,_,_,_,N0,1,by rw[KS,Jg,HV];show I1] (λj e3K=>(by let#[mX,I]:=J';show Ma.of<|e5n (e5k hba))) ?_ ?_]
   ·rintro j x σ G ex ⟨o8,o9,Pm,OI,Og,Of,N0,rfl,I⟩;let#[ways,ew,wa,wsx,1,hwa,hwp]:=qj hbp ex;let hwa:=e2B hwa;let#[wl,wb]:=bw ways<|Hs ew;let wl2:=hwp.length;rw[Hl]at wl2;let hA:∀ {w i2:Nat}{way:Ξ},ways[w]?=some way->(Mk.Oo (Mk.LQ (found.take i)++(bl.take j).map λways=>lu)++Mk.Ow (Mk.LQ gN++(bl.take j).map λways=>lu).length yu++(Mk.Qg (Mk.LQ gN++(bl.take j).map λways=>lu).length w way).take i2).length<=1000000:=λhw=>Mk.room hB ebl ew hw;let tkb:Mk.LQ gN++(bl.take<|j+1).map (λways=>lu)=b0S++[lu]:=by rw[aW ew,Hx,Ik];rfl
    generalize b0S=es at I hA tkb;show#[yY,λea dx nx ndx nex=>#[ea,dx,rd,m,1,ae,hm,λlp G2 Qj hN=>?_]];let nin:=I.out nx;let hn:∀ {b:Addr},e1f b=none->b≠ea/\G b=none:=λ{b} hb=>by
     let c1:b≠ea:=λz=>by rw[z,ae]at hb;cases hb
     let c2:b≠dx:=λz=>by rw[a9 c1,a9 c1,z,ae]at hb;cases hb
     rw[a9 c1,a9 c1,a9 c2]at hb;show#[c1,hb]
    let eE:gR G (upd G2 ea<|e6Q rd lp):=λe0u=>by let c1:b≠ea:=aj hb nx;rw[a9 c1];show Qj _ _ (by rw[a9 c1,a9 c1,a9<|aj hb ndx];show hb)
    let H2G:=T4.trans<|toG I;let I2:=I.M' (ways:=ways) (c:=i) nx eE #[rd,dx,lp,erd,(z4 nin<|H2G.free nx).trans ae,hN.mono λe0u=>by
     unfold grow at hb;by_cases c1:e1f b=none
     ·rw[if_pos c1]at hb;let#[c2,c3]:=hn c1;rw[z4 (I.out c3)<|H2G.free c3,a9 c2];show hb
     ·rw[if_neg c1]at hb;cases hb]
    let eal:(N0++[ea])[es.length]?=!ea:=by let#[_,_,g3,_]:=I;rw[<- Paired.length g3,Iq<|Hz _,Nat.sub_self];rfl
    generalize N0++[ea]=a1O at I2 eal;generalize upd G2 ea (e6Q rd lp)=G3 at I2;show#[1,_,1,wa,wsx,1,toG I2 _ _<|e5k hwa,e7P (xs:=wsx) (As3 CE H G0 ks LA MT m v fa rb ls d ba rd wa ea (es++[lu]) (Mk.Oo es) es.length ways a1O)
     #[_,_,_,_,1,by let e:e5o (ways.take 0)=[]:=rfl;rw[e,HV];show I2] (λw e3K=>(by let#[xT,_,I]:=J';show Ma.of<|e5n (e5k hwa))) ?_ ?_]
    ·rintro w x Tw σ G ex ⟨Pm,OI,Og,Of,rfl,I⟩ hTw;let#[way,ewy,wy,ns,1,VO,WG]:=qj hwp ex;rw[iI WG]at VO;let VO:=e2B VO;let#[wyz,wyk]:=wb way<|Hs ewy;let I1:=I.mono<|aY Ě hTw (o:=.tup c2H);generalize upd G Tw (.tup c2H)=G1 at I1;let hwm:w<m:=by let:=(Ho.mp ewy).1;lia
     let est:((Mk.starts m).map V.int)[w]?=!(.int<|Mk.st w):=by unfold Mk.starts;rw[Hy,Hy,Kb hwm];rfl
     let a4t:=toG I1 _ _<|e5k VO;show#[_,1,_,1,_,1,ls,_,_,_,2,Ma.of<|toG I1 _ _ (e1x hls),fG est,(by change 1<=sizeLine;decide),λl1 G3 e3' _ U9=>#[_,1,l1,wy,DW,U9,e3' _ _ a4t,?_,λlz G4 e4' lz0 hlz=>?_]]
     ·rw[Hl];change 1+way.length<=2 ^ 24
      lia
     let I4:=(I1.mono e3').mono e4';let ZI:=e3'.trans e4';show#[wy,lz,1,#[_,Ma.of<|ZI _ _ a4t],#[_,Ma.of hlz],e7S (xs:=way.map V.int) (ys:=c2I++way.map V.int) (As4 CE H G0 ks LA MT m v fa rb ls d ba rd wa ea wy lz (es++[lu]) (Mk.Oo es++e5o yu) es.length w way a1O)
      #[_,_,1,hlz,(I1.mono e3').out lz0,by rw[KS,HV];show I4] (λk e3K=>(by let#[Lq,hz,_,I]:=J';show#[Ma.of<|e5n (e5k VO),Ma.of hz])) ?_ ?_]
     ·rintro k x y Tq σ G ex ey ⟨Og,Of,rfl,hlz,nlz,I⟩ hTq;let#[num,en,1]:=uT ex;let#[ah,eah,1]:=uT<|show ((Mk.st w::way).map V.int)[k]?=some y from ey;let tkw:(e2D way).take (k+1)=(e2D way).take k++[(num,es.length,w,ah)]:=by show aW ?_;unfold Mk.Qg;rw[Hy,(@LF _ _ way (Mk.st w::way) (num,ah) k).mpr #[en,eah]];rfl
      let hk:=wyk num<|Hs en;let eq:gR G b9E:=aY Ě hTq;let a5m:b9E Tq=!.tup Zm:=ae;generalize upd G Tq (.tup Zm)=G5 at eq a5m;let I5:=I.mono eq;let#[oj,_,_]:=id I5;let#[_,ys,Zs,hyp]:=g2 num hk;let yl:=Paired.length hyp;show#[Tq,_,1,Oi.of a5m,1,P8,_,[],2,?_];show#[_,1,_,1,d,.ref<|LA num,1,(by rw[<- (Wn num hk).2.2];show Pw.k (k:=Sum.inl num)<|j4 _ _ (g1 _ _ hd0)),.inl ⟨rfl,_,Ma.of Zs⟩,_,1,_,1,_,1,(by change 3<=sizeLine;decide),λtb G6 e6 h6 htb=>?_];show#[LA num,DW,e6 _ _ Zs,?_,P8,?_,nlz,?_]
      ·let h1:=Mk.Yh (Mk.Oo es++e5o yu++(e2D way).take k) num;let h2:=hA (i2:=k) ewy;change ys.length<2 ^ 24
       lia
      ·rw[a9<|show lz≠LA num from λz=>nlz (by rw[z];show HA hk)];show e6 _ _ (eq _ _ hlz)
      ·rw[tkw,<- Ik];show (I5.mono e6).app inj hk (e6 _ _ Zs) eal ((T4.trans<|toG I5).free h6) htb
     ·rintro σ G ⟨Og,Of,rfl,_,_,I⟩;show#[xT,1,?_];let:min (way.map V.int).length (c2I++way.map V.int).length=(e2D way).length:=by let:=congrArg List.length<|Mk.Tb es.length w way;rw[Hl]at this;rw[HE,Hl,this];simp
      rw[this,Iu]at I;rw[Mk.Tu ewy,<- Ik];show I
    ·rintro σ G ⟨Pm,OI,Og,Of,rfl,I⟩;rw[wl2,Iu,<- Mk.TC es lu]at I;show#[_,_,_,_,_,_,a1O,1,by rw[tkb];show I]
   ·rintro σ G ⟨o8,o9,Pm,OI,Og,Of,N0,rfl,I⟩;show#[mX,N0,1,?_];rw[bl2,Iu]at I;rw[Mk.RJ ebl];show I
  ·rintro σ G ⟨o6,o7,o8,o9,Pm,OI,Og,Of,N0,rfl,I⟩;let:min fs.length (MT.map V.ref).length=found.length:=by rw[Hl,fl,rl,Nat.min_self]
   rw[this,Iu]at I;let#[Eu,g4]:=id I;show#[_,1,q d G N0 (T4.trans<|toG I) ⟨ķ,LA,?_,λe7e=>#[(Wn k hk).2.2,?_]⟩ (Paired.O2 g3 λea M' z=>z.mono j4) g4]
   ·rw[aE<|T4.free d0];show j4 _ _ (g1 _ _ hd0)
   ·let#[g0,xs,a,b]:=g2 k hk;show#[xs,by rw[aE g0];show a,Paired.O2 b λ_ _ z=>by let:=z.mono [] j4;rwa [HV]at this]
universe e
theorem KT (H G:Hp):Prop:=(∀ b xs,H b=!.lst xs->G b=!.lst xs)/\∀ b xs,H b=!.tup xs->G b=!.tup xs
def KT.of (d00):KT H G:=#[λf2s=>e _ _ h,λf2s=>e _ _ h]
def KT.trans (a:KT H G)(b:KT G G'):KT H G':=#[λf2s=>b.1 _ _<|a.1 _ _ h,λf2s=>b.2 _ _<|a.2 _ _ h]
def KT.put (hd:G d=!o)(hl:∀ xs,o≠.lst xs)(ht:∀ xs,o≠.tup xs):KT G (upd G d o'):=
 #[λb xs h=>by rw[a9 λz=>by simp_all];show h,λb xs h=>by rw[a9 λz=>by simp_all];show h]
def w6 (k:KT H G)(h:DR H (rw r) v):DR G (rw r) v:=by let#[a,vs,e,yi]:=h;rw[iI h2]at h1;show#[a,_,e,k.1 _ _ h1,sY _]
def ug {g:α->Ξ}(k:KT H G):∀ {l:List α}{vs:π},Md H C9 vs->Md G C9 vs:=by
 intro r'
 induction r' with
 | nil=>
  intro _ h;show h
 | cons _ _ ih'=>
  intro _ y1';let#[v,ws,e,yi]:=y1';show #[v,ws,e,w6 k h1,ih' h2]
def zY (k:KT H G)(h:DR H (tb t) v):DR G (tb t) v:=by let#[a,vs,e,yi]:=h;show#[a,vs,e,k.1 _ _ h1,ug k h2]
theorem MO (H)(d)(R:Mk.Qu):Prop:=∃ ķ,H d=!.dK ķ/\ķ.map (·.1)=R.map (λr=>(.inl r.1:vm))/\Md H (R.map λr=>rw r.2) Ņ
def MO.dr (h:MO H d R):DR H (aI R) kR:=by let#[ķ,xu]:=h;show#[d,ķ,1,.inl h1,by rw[h2,Hv];rfl,?_];rw[Hv];show h3
def MO.mono (e)(h:MO H d R):MO H' d R:=let ⟨ķ,h1,h2,h3⟩:=h;#[ķ,e _ _ h1,h2,h3.mono e]
def MO.kt (k:KT G G')(hd:G' d=G d)(h:MO G d R):MO G' d R:=let ⟨ķ,h1,h2,h3⟩:=h;#[ķ,hd.trans h1,h2,ug k h3]
def MO.put (h:MO Γ d R)(e:gR Γ G)(hk:¬ k∈R.map (·.1))(hv:DR Γ (rw r) v)(hz:R.length<2 ^ 24):
  ∃ o,Us G d (.int k) v (upd G d o)/\MO (upd Γ d o) d (R++[(k,r)])/\KT Γ (upd Γ d o)/\∃ ķ,Γ d=!.dK ķ:=by
 let#[ķ,xu]:=h;let kl:ķ.length=R.length:=by let:=e0g h2;rwa [Hl,Hl]at this
 let hn:cC ķ ud=none:=by
  unfold cC;rw[Jh.mpr λe9t z=>hk ?_]
  ·rfl
  ·let:ud∈ķ.map (·.1):=HR z▸HA hq
   simp_all
 let kt:KT Γ (upd Γ d<|.dK (eO ķ (Sum.inl k) v)):=KT.put h1 (λ_ z=>nomatch z) λ_ z=>nomatch z;show#[_,Us.k (k:=Sum.inl k) (e _ _ h1) (by rw[kl];show hz),#[_,ae,cW],kt,_,h1]
 ·rw[iw _ hn,Hx,h2,Hx];rfl
 ·rw[show (eO ķ _ v).map _=ķ.map _++[v] by rw[iw _ hn,Hx];rfl,Hx];show (ug kt h3).app (.one<|w6 kt hv)
structure SH (c9Y)(G:Hp)(MT N0:υ)(ears:List Mk.MB)(T:Mk.T7):Prop where
 rows:∀ c d,MT[c]?=!d->MO G d (T.R.getD c [])
 ears:∀ e ea,N0[e]?=!ea->∃ d dx l,MT[(ears.getD e (0,[])).1]?=!d/\G ea=!rW CE dx d l/\DR G (tb uG) z8
def SH.mono (d0K)(d2l)(d2w):SH CE G' MT N0 ê T:=
 #[λc d hc=>(h.rows c d hc).mono e,λi ea he=>let ⟨d,dx,l,a,b,c⟩:=h.ears i ea he;#[c5R]]
def SH.put (d0K)(d2w)(hp:G pd=!.dK ķ)(k:KT G (upd G pd o))(np:¬ pd∈MT):SH CE (upd G pd o) MT N0 ê T:=
 #[λc d hc=>(h.rows c d hc).kt k<|a9 λz=>np<|z▸Hs hc,λe ea he=>let ⟨d,dx,l,a,b,c⟩:=h.ears e ea he;#[d,dx,l,a,by rw[a9 λz=>by grind];show b,zY k c]]
def qh (c9U):gR c2J (d9b H2):=λb o h=>by
 unfold grow at h;by_cases c:H1 b=none
 ·rw[if_pos c]at h;rw[aE<|e.free c];show h
 ·ext d5J
def j5 (h:grow xw H G b=!o):H b=none/\G b=!o:=by
 ext d6k
 ·rw[if_pos c]at h;show#[c,h]
 ·ext d5J
def b4x:∀ {vs:π}{l:List α},Paired R vs l->(∀ v a,a∈l->R v a->DR F (g a) v)->Md F gC vs:=by
 intro vs l h
 induction h with
 | nil=>intro _;rfl
 | cons h t ih=>intro k;show#[_,_,1,k _ _ HS h,ih λv a ha=>k v a<|HM _ ha]
def a2O (m):(Mk.starts m).Nodup:=by ext d8R;rw[List.Nodup,K8];show List.nodup_range.imp λn z=>n (by unfold Mk.st at z;lia)
theorem ki (m):Mk.Qu:=(List.range m).map λw=>(Mk.st w,Mx.LL m w)
theorem cq (p)(m)(ç)(d1V)(ord)(n):Mk.Qu:=(List.range n).map λi=>((ord.getD i wK).1,e0B Ų c2K)
def eQ (ord):(e8Q ord.length).map (·.1)=ord.map (·.1):=by
 unfold cq;show JN λj=>?_;by_cases hj:j<ord.length
 ·simp_all
 ·simp_all
structure b2J (S:NS)(d2m)(ç:Θ)(d0v):Prop where
 ord:rD S ŧ
 mem:∀ x∈bP VV S.names.length,x∈S.names
 Y5:(S.LK.map (·.1)).Nodup
 MW:(ai S).length<64
 mt:∀ r∈ai S,r.1∈S.LK.map (·.1)/\∀ ks,r.2=!ks->ks.length<=1000
 p1:p<=1000000
 fl:found.length=ç.length
 fz:found.length<=1000
 mz:m<=1000
 Wo:Mk.PX p m ç Gy yZ
 all:(Mk.Oo Gy).length<=1000000
 YM:∀ bl∈found,bl.length<=1000/\∀ ways∈bl,ways.length<=m/\∀ way∈ways,way.length<=1000/\∀ k∈way,k∈S.LK.map (·.1)
 ez:(Mk.LQ found).length<=1000
inductive B6 (c:Cl)(c7L):Ä
 |mk {S:NS}{m:Nat}{p:Int}{ç:Θ}{found:List Δ}:b2J S m p ç found->B6 c C [l9,tb ç,Td found] (aI (UD (·.1) (cq p m ç Gy yZ (ai S).length)))
section
variable {c:Cl}{CE:Addr}
inductive MpI (c9Y)(F H Γ1:Hp)(v0 vf vl vx:V)(rb ad pd:Addr)(d2m)(ç:Θ)(d1V)(ord:List Mk.Nf)(Wb:ξ)(MT N0:υ)(d11):Prop
 |mk (o8 o9 Pm OI Og Of VH X3:Ç):σ=[!v0,!.int (m:Int),!vf,!vl,!vx,!.ref rb,!.ref ad,!.ref pd,Dc,VH,X3]->gR H G->KT Γ1 ő->grow F H G ad=!.dK Wb->MO ő pd (d9V cq ord i)->SH CE ő MT N0 ê Ų->MpI CE F H Γ1 v0 vf vl vx rb ad pd m p ç ê ord Wb MT N0 i σ G
inductive Mp0 (H:Hp)(m:Nat)(l:Addr)(i:Nat)(H1:Hp):Prop
 |mk (MT:υ):H l=none->gR H H1->MT.length=i->MT.Nodup->(∀ d∈MT,MO (aU l (d9P H1)) d (ki m))->H1 l=!.lst (MT.map V.ref)->Mp0 H m l i H1
inductive Mp3 (c9Y)(F H G4:Hp)(c8k)(Of VH X3:Ç)(pl:Mk.Qu)(X R:List Mk.Qu)(P:Δ)(c:Nat)(c7R):Prop
 |mk (OI Og:Ç):σ=a2R->gR H G->KT (d9b G4) ő->grow F H G ad=!.dK Wb->MO ő pd pl->SH CE ő MT N0 ê ⟨X.take c++R.drop c,P⟩->Mp3 CE F H G4 v0 vx mv mx fa lc rb ad pd m Wb MT N0 ê k Of VH X3 pl X R P c σ G
inductive Mp4 (c9Y)(F H G5:Hp)(c8k)(OI Og:Ç)(pl:Mk.Qu)(d2u)(T:Mk.T7)(j:Nat)(c7R):Prop
 |mk (Of VH X3:Ç):σ=a2R->gR H G->KT (d9b G5) ő->grow F H G ad=!.dK Wb->MO ő pd pl->SH CE ő MT N0 ê ((A.take j).foldl (Mk.OA p ê k) T)->Mp4 CE F H G5 v0 vx mv mx fa lc rb ad pd m Wb MT N0 ê k OI Og pl p A T j σ G
def b6T:au [uK,zd,"rows_by_choice","asks","plan","number","into","mixed","choice","rows",c6V] ï (d9i 86):=PD
def b5G [Bx:Bd](hn)(c7l)(TD)(MK)(O8)(OQ:MR 5 "asks_by_tie" ò (uc c CE))(Mo:MR 3 "mixing_ties" ["net"] (Pr (l6 c rD)))(OM:MR 5 "multipliers" b6W (Pr (gT C CE)))(Q3:MR 5 "mixed_row" b1G (d8X c3x))(NO:N6 5 CE "move_front" ã (u9 C CE))(Mj):Tk 6 "made_plan" (top 86) ï (Pr (B6 c C)):=by
 ext d27;show F.ok b6T Zk cJ
 ·obtain⟨F,_,_,sF,hl,@⟨S,m,p,ç,found,O⟩,q⟩:=h;let#[v0,_,1,h0,DW,vf,_,1,hf,vl,_,1,a84,vx,_,1,hx,1]:=hl;let#[lc,cs,1,a83,hcp]:=id a84;let#[fa,P8,_]:=id hf;let Vp:=e2B a83;let ND:=b6T.nd;let p2:=((My.M3 p).mp O.Wo.prime).1;let cl:=hcp.length;rw[Hl]at cl;let mz:=O.mz;let fl:=O.fl;let fz:=O.fz;show#[_,(ag (e6e (d9y "choice" "many") (d92 3)
  ĕ
  jO
  (λe0m=>c03 Bx.K rfl rfl TD rfl T.Oz<|a8 (be MK hr.m rfl<|e6g K') (a8 (be O8 hr.m rfl<|e6g K') K')))
 (ag (pS 6 ND<|be OQ hr.m rfl (a8 lr<|e6g (d83 zA qt)))
 (ag (pS 7 ND QP)
 (ag (e0N (rB Bx.K<|be Mo hr.m rfl D8) (e4h rfl<|af yV (af (pN 9 ND) aG))
  (ag (pS 10 ND<|YI (dT b1O b8U (Đ 9)<|dC b1j) (dF MK hr.m rfl<|e0z LS) (Đ 9))
 (ag (e4o xi zE (be OM hr.m rfl<|e5j (d83 (pv 10) (pD Ba xU<|pv 8))) rfl)
 (ag (e0N (e7R T.Oz<|f1C (a8 qt K')) a7g
  (ak<|e4o (pv 12) zE (YI (e5c (Đ 8)<|Đ 11) (dO c0H a2b ((cO<|da (dC aJ) LS).p)<|Đ 1)<|dF Q3 hr.m rfl (da (Đ 2)<|da (Đ 10) (da (d96 dS 8)<|da (Đ 12) No))) rfl))
 (ak (e0N (rB Bx.K<|pD Ba xU zE) (e4g rfl<|af yL (af (pN 14 ND)<|af (pN 15 ND) aG))
  (ak<|aw (bh (pv 13) NO hr.m<|e5j (d83 (pv 14) zE)))))))))
 (d97 (be Mj hr.m rfl<|a8 xi K')))))),?_]
  show aA λZ hZ=>?_;show#[_,1,lc,1,#[_,Ma.of Vp],c51 (K:=Bx.K) (xs:=cs) (Mp0 H m)
   (λl hl=>#[[],hl,aY Ě hl,1,Jt,b1T,ae]) (λl i H1 _ h=>let ⟨_,_,e,_,_,_,_⟩:=h;Ma.of<|e _ _ Vp) (λl i v H1 ev h=>?_) (λrb H1 h=>?_)]
  ·let#[MT,hl,e1,rl,rn,Yr,Xi]:=h;let hi:i<cs.length:=(Ho.mp ev).1;dsimp only[yz];rw[if_pos rfl];show#[M1,#[mz],λla e15 hla=>?_];show#[M1,#[mz],λlo e7f hlo=>?_];let#[la,us,1,hla,hus]:=hla;let#[lo,os,1,hlo,hos]:=hlo;let Vt:=e2.trans e3;let k1:(ki m).map (λr=>D.int r.1)=(Mk.starts m).map .int:=by unfold ki Mk.starts;rw[Hv,Hv];rfl
   let k2:(ki m).map (λr=>rw r.2)=(Mx.ones m).map rw:=by unfold ki Mx.ones;rw[Hv,Hv];rfl
   let a8L:=hos.mono<|qh (F:=xw) (e1.trans e2);let#[ķ,AO]:=c4L (F:=grow xw H H3) (ð:=(ki m).map λr=>ZB) (vs:=us) (us:=os) (by rw[Hv];rw[iI hus];show k1▸sY _) (by rw[Hv];show k2▸a8L);let kl:ķ.length=m:=by let:=e0g a3;rw[Hl,Hl,Hl]at this;rw[this];simp[ki]
   show#[la,lo,ķ,1,Ma.of ?_,Ma.of ?_,#[],λd f2w h4 hd=>?_]
   ·rw[<- a1];show e3 _ _ (qg _ _ hla)
   ·rw[<- a2];show qg _ _ hlo
   rw[rNs [] _ (by rw[Ji,a3];show uR (f:=λr:Int×List Int=>r.1) ?_;unfold ki;rw[Hv];show a2O m),Ji]at hd
   let ZI:=Vt.trans e4;let a8F:=ZI _ _ Xi;let ndl:d≠l:=(aj (Vt _ _ Xi) h4).symm;let hd0:H d=none:=(e1.trans Vt).free h4;show#[_,a8F,by rw[Hl,rl];change i<2 ^ 24;lia,MT++[d],hl,bg (e1.trans ZI) hl,by rw[HE,rl];rfl,?_,λe1C=>?_,by rw[ae,Hx];rfl]
   ·show HX.mpr #[rn,by simp,λe1C b' RI e=>?_];rw[HH.mp RI]at e;subst e;let#[a4g,g1,_]:=Yr b hb;let:=Vt _ _<|qg _ _ (Mm _ _ g1);rw[h4]at this
    cases this
   ·rw[bu hl,dA];rcases HW.mp hb with hb|hb
    ·show (Yr b hb).mono (cV<|b6 ZI)
    ·rw[HH.mp hb];show#[ķ,by rw[aR ndl,aE hd0];show hd,by rw[a3,Hv];rfl,?_];rw[k2,<- a2];show hos.mono λe0u=>?_;let#[b1,b2]:=j5 hb;rw[aR (λz=>by rw[z,e1x Xi]at b1;cases b1),aE<|(e1.trans e2).free b1];show e4 _ _ b2
  ·let#[MT,a8G,e1,rl,rn,Yr,hrb]:=h;show hZ _ _ Bq;let rlf:MT.length=found.length:=#[]
   show#[_,1,_,1,_,1,_,1,F,v0,vx,rb,S,m,found,MT,sF.trans e1,1,h0,by let:=O.ord.2.2.2.1;lia,O.Y5,hx,hrb,rlf,fz,mz,O.all,O.YM,λad H2 N0 e2 hA hEN end_=>?_];show hZ _ _ Bq;intro pd hpd;show hZ _ _ Bq;let SS:=e1.trans e2;let Wg:H pd=none:=SS.free hpd;let e23:gR H2 (e4Z pd<|.dK []):=aY Ě hpd;let a4K:e4Z pd mS pd=!.dK []:=ae;generalize upd H2 pd mS=H3 at e23 a4K;let e03:=SS.trans e23;show#[_,1,prG sF e03 (XZ<|h0.mono (ao sF)) (.mk O.ord O.mem (by let:=O.ord.2.2.2.1;lia) (by let:=O.MW;unfold ai at this;lia)) λx f2w hmx=>?_];let#[l,xs,1,hl,hmx]:=hmx;let e04:=e03.trans e4;let g24:gR (d9b H2) iG:=b6<|e23.trans e4;let hA:=hA;let#[Wb,LA,had,a9l]:=id hA;let toΓ:gR c2J iG:=(qh e1).trans g24;generalize a1s:LV S ŧ=ord at hmx;let a1s:ai S=ord:=a1s;let G:=O.Wo;let MW:=O.MW;let mt:=O.mt;rw[a1s]at G MW mt q;generalize a42:Mk.LQ found=ê at *
   let xl:=hmx.length;rw[Hl]at xl;let el:=Paired.length hEN;let rd1:∀ {d},d∈MT->H d=none/\∃ ķ,H1 d=!.dK ķ:=λ{d} hd=>by let#[ķ,g,_]:=Yr d hd;let#[oj]:=j5<|Mm _ _ g;show#[g1,ķ,g2]
   let nad:¬ ad∈MT:=λz=>by
    let#[_,_,g]:=rd1 z;rw[(j5 had).1]at g
    cases g
   let npd:¬ pd∈MT:=λz=>by
    let#[_,_,g]:=rd1 z;rw[e1x g]at hpd
    cases hpd
   let nap:ad≠pd:=λz=>by
    let:=(j5 had).2;rw[z,hpd]at this
    ext d3Q
   let eaN:∀ {e ea},N0[e]?=!ea->H ea=none:=λhe=>by let#[On,g,_]:=Paired.at hEN he;show e1.free (j5 g).1
   let st0:SH CE iG MT N0 ê (d9V Mk.stN ord 0):=by
    show#[λc d hc=>?_,λe ea he=>?_]
    ·let V6:=(Ho.mp hc).1;let:(e3Z ê).R.getD c []=ki m:=bX (by change (ç.map λ_=>_)[c]?=_;rw[Hy,Hm<|by lia];rfl)
     change MO _ d ((e3Z ê).R.getD c []);rw[this];show (Yr d<|Hs hc).mono (Mm.trans<|(qh (F:=F)<|gR.refl H).trans (b6<|e2.trans (e23.trans e4)))
    ·let#[M',ee,c6c]:=Paired.at hEN he;let:(e3Z ê).P.getD e []=Mx.ones m:=bX (by change (ê.map λ_=>Mx.ones m)[e]?=_;rw[Hy,ee];rfl)
     show#[d,dx,l,by rw[bX ee];show hd,e4L g1,?_];change DR _ (tb<|(e3Z ê).P.getD e []) z8;rw[this];show g2.mono toΓ
   let hl4:=aO sF e04 _ _ hl;show#[l,1,#[_,Ma.of hl4],e2m (xs:=xs) (MpI CE F H iG v0 (d9G fa) (d9G lc) vx rb ad pd m p ç ê ord Wb MT N0) #[none,none,none,none,none,none,none,none,1,e04,KT.of<|gR.refl _,e4L had,⟨[],by rw[aE Wg];show e4 _ _ a4K,rfl,rfl⟩,st0] (λi σ G h1 h=>?_) ?_ ?_]
   ·let#[mX,_,eG,kG,Lq]:=h;show Ma.of (aO sF eG _ _<|kG.1 _ _ hl)
   ·rintro i v σ G1 ev ⟨o8,o9,Pm,OI,Og,Of,VH,X3,rfl,eG,kG,a1B,plG,M⟩;let#[r,er,hv]:=qj hmx ev;let#[tp,_,1,WD,DW,mv,_,1,hmv,1]:=hv;let hi:i<ord.length:=(Ho.mp er).1;let rm:=Hs er;let I:=Mk.P7 G i #[];let pre:=Mk.U3 I G er;let ego:ord.getD i wK=r:=bX er;let a8Y:DR (d9b G1) (Th r.2) mv:=by
     cases h:r.2 with
     | none=>rw[h]at hmv;show hmv
     | some ks=>rw[h]at hmv;show w6 kG hmv
    show#[tp,_,1,Oi.of<|aO sF eG _ _ (kG.2 _ _ WD),1,_,_,1,_,[],2,?_];ext d7H;show tPG eG (ε:=[none,some<|.int m,none,none,none,none,none,none,none,some<|Th r.2]) (d:=rw FI) (ML<|e2n (ML<|ML (ML<|ML (ML<|ML (ML<|NY a8Y (TV<|aO sF eG)))))) ?_ λmx G2 SS a4R=>?_
    ·cases r.2 with
     | none=>show .t #[2,.mk] #[#[2],#[mz]]
     | some ks=>show .f #[2,.mk] rfl
    ext d2S;let#[hkv,axs,a5i,hap]:=a9l r.1 (mt r rm).1;let axl:=Paired.length hap;let mk:∀ R∈(e1W i).R,∀ k∈Mk.MD m r.2,k∈R.map (·.1):=λR hR e7e=>by
     rw[e4K hR]
     cases h:r.2 with
     | none=>ext d5X
     | some ks=>rw[h]at hk;show Ih _ (G.ahd i r ks er h k hk)
    let mlz:(f1K r.2).length<=1000:=by
     cases h:r.2 with
     | none=>change (Mk.starts m).length<=1000;ext d8R;simpa using mz
     | some ks=>show (mt r rm).2 ks h
    let alz:(e2P r.1).length<=1000:=HU (Mk.V0 G.wnd r.1)<|a42▸O.ez;let pn:e8Q (i+1)=e8Q i++[(r.1,e0B Ų r)]:=by unfold cq;rw[List.range_succ,Hx,HL,ego];rfl
    let nk:¬ r.1∈(e8Q i).map (·.1):=λz=>by
     unfold cq at z;rw[Hv]at z;let#[j,hj,ej]:=Ht.mp z;ext d5t;let e1:(ord.map (·.1))[j]?=!r.1:=by rw[Hy,Hm<|by lia];let ej:(ord.getD j wK).1=r.1:=ej;rw[bX<|Hm #[]]at ej;show congrArg some ej
     let e2:(ord.map (·.1))[i]?=!r.1:=by rw[Hy,er];rfl
     let:=c7 G.nd e1 e2
     lia
    let st:e1W (i+1)=Mk.Sn p m ç ê Ų r:=by change Mk.Sn p m ç ê Ų c2K=_;rw[ego]
    let told:Mk.Vj p FI rE (Mk.shown p ê<|e1W i)=e0B Ų r:=rfl;let eG2:=eG.trans SS;let k2:KT iG (d9b G2):=kG.trans<|KT.of (b6 SS);let hdm:(e8Q i).length<2 ^ 24:=by unfold cq;rw[Hl,ID];lia
    let M2:=M.mono<|b6 SS;generalize hT:e1W i=Tm at *
    let one:∀ a∈Mk.ME ê r.1,∃ M',ê[a.1]?=!M'/\M'∈ê/\a.2.1<m/\ê.getD a.1 (0,[])=M':=λa am=>by let#[M',way,h1,ZC,_]:=Mk.PK.mp<|Mk.PJ.mp am;let em:=Hs h1;show#[M',h1,em,e5g em▸(Ho.mp ZC).1,bX h1]
    let K1:a6a p rE (λa=>Tm.R.getD (ê.getD a.1 (0,[])).1 []) (λa=>Tm.P.getD a.1 []) (Mk.shown p ê Tm):=by
     show#[λa am=>?_,λa am=>?_,λa am b bm=>?_,λa am k=>?_];all_goals let⟨M',h1,em,hw,eg1⟩:=one a am
     ·rw[(e5h h1).len];show hw
     ·let:=(e5h h1).at hw;show#[this.2,by rw[this.1];show mz]
     ·rw[eg1];show mk _ (Mk.Zg I G em) _ (pre.ahead b bm)
     ·unfold Mk.shown;rw[Mk.OV h1,eg1]
    show#[_,1,_,1,_,1,_,1,ad,.ref<|LA r.1,1,(by rw[<- hkv];show Pw.k (k:=Sum.inl r.1)<|aO sF eG2 _ _ (b6 SS _ _ a1B)),prG sF eG2 (dr3 c2L a4R (d2:=.lst<|(e2P r.1).map (yf CE _ _)) #[LA r.1,axs,1,k2.1 _ _<|e4L a5i,b4x hap λv a am h=>?_]) (.mk O.p1 K1 pre mlz alz) λlt G3 e3 NU=>?_]
    ·let#[b,ea,1,Sa,hb]:=h;let#[c6c]:=M2.ears a.1 ea Sa;show#[b,_,1,k2.2 _ _<|e4L hb,_,_,1,#[ea,jT,g1,1,P8,(M2.rows _ d hd).dr,P8,g2,1],_,_,2,_,_,3]
    let Vt:=SS.trans e3;let eG3:=eG.trans Vt;let#[o,a1p,Yq,kp,kvp,hkp]:=(plG.mono<|b6 Vt).put (aO sF eG3) nk NU hdm;show⟨_,rfl,_,rfl,pd,_,rfl,a1p,?_⟩;show hZ _ _ (aA λZ hZ=>?_);rw[told,<- pn]at Yq;let hG4:gR H (upd G3 pd o):=bg eG3 Wg;let Zo:KT (d9b G3) Es:=by rw[bu Wg];show kp
    let k4:KT iG Es:=(k2.trans<|KT.of (b6 e3)).trans Zo;let ad4:e0U (upd G3 pd o) ad=!.dK Wb:=by rw[bu Wg,a9 nap];show b6 Vt _ _ a1B
    let M4:SH CE Es MT N0 ê Tm:=by rw[bu Wg];show (M.mono<|b6 Vt).put hkp kp npd
    let mx4:DR Es (rw FI) mx:=w6 Zo<|a4R.mono (b6 e3);rw[<- bu Wg]at Yq;generalize upd G3 pd o=G4 at hG4 k4 ad4 M4 mx4 Yq;let rbΓ:e0U H4 rb=!(.lst<|MT.map V.ref):=by rw[aE a8G];show e4 _ _ (e23 _ _<|e1x hrb)
    let Rl:=I.rl;let Xl:(e0n r<|e6j r).length=ç.length:=by unfold Mk.M0;rw[List.length_zipWith,Rl,Nat.min_self]
    show#[_,1,_,1,lc,rb,1,#[_,Ma.of<|hG4 _ _ Vp],#[_,Ma.of<|aO sF hG4 _ _ (k4.1 _ _ rbΓ)],e7S (xs:=cs) (ys:=MT.map V.ref) (Mp3 CE F H G4 v0 vx mv mx fa lc rb ad pd m Wb MT N0 ê r.1 Of VH X3 wq (e0n r<|e6j r) Tm.R Tm.P)
     #[_,_,1,hG4,KT.of<|gR.refl _,ad4,Yq,by rw[KS,L6,Ji];show M4] (λc e3K=>(by let#[Lq,a,b,Lq]:=J';show#[Ma.of<|a _ _ Vp,Ma.of<|aO sF a _ _ (b.1 _ _<|k4.1 _ _ rbΓ)])) ?_ ?_]
    ·rintro c x' y' Tz σ G5 ex ey ⟨OI,Og,rfl,eG5,k5,ad5,VR,M5⟩ hTz;let#[ks,eks,hca]:=qj hcp ex;rw[Hy]at ey;let#[rd,erd,1]:=HZ.mp ey;let hc:c<ç.length:=(Ho.mp eks).1;let eT:gR G5 b83:=aY Ě hTz;let Xs:b83 Tz=!.tup uI:=ae;generalize upd G5 Tz (.tup uI)=G6 at eT Xs;let YG:=eG5.trans eT;let mx6:=(w6 k5 mx4).mono<|b6 eT;let UR:=VR.mono<|b6 eT;let eR:Tm.R[c]?=!Tm.R.getD c []:=by rw[Hq,Hm (by rw[Rl];show hc)];rfl
     let Rm:Tm.R.getD c []∈Tm.R:=Hs eR;let gdc:((e0n r<|e6j r).take c++Tm.R.drop c).getD c []=Tm.R.getD c []:=by rw[Mk.V' _ _<|by lia,if_neg<|Jm _]
     let a4H:MO (d9b G6) rd EY:=gdc▸(M5.rows c rd erd).mono (b6 eT);show#[c5h];show tPG YG (ε:=[none,some<|.int m,some<|fD C p,none,none,none,none,some<|aI wq,some<|.int r.1,none,some<|rw FI,some<|rw ks,some<|aI EY]) (d:=rw (Mk.newRow p m ks EY r<|e6j r)) (ML<|e2n (NY c2L<|ML (ML<|ML (ML<|NY UR.dr (NY rfl<|ML (NY mx6<|NY (hca.mono<|ao sF) (NY a4H.dr<|TV (aO sF YG)))))))) ?_ λln G7 e67 Zx=>?_
     ·let ri:=gL (n:=false) (i:=r.1) (ks:=ks);unfold Mk.newRow;by_cases P4:r.1∈ks
      ·rw[Hu P4]at ri;rw[if_pos P4,b1m];show .t #[2,ri] #[wF,1,#[mz]]
      ·rw[Hw P4]at ri;rw[if_neg P4];show .f #[2,ri] #[#[2,#[2,.k (yt (by rw[pn,Hx];simp)) kI],3],?_];rw[pn,Mk.U4 nk];show .mk #[] O.p1 (λe7e=>#[mk _ Rm k hk,I.rows _ Rm (k,_)<|Mk.VL (mk _ Rm k hk)]) mlz mz
     let b0d:(Tm.R.getD c []).length<2 ^ 24:=by
      let:=congrArg List.length<|I.keys _ Rm;rw[Hl,HE,Hl,HF]at this;unfold Mk.starts at this;rw[Hl,ID]at this
      lia
     let eG7:=YG.trans e67;let#[o,a1p,Pp,k7,kk,hkk]:=(a4H.mono<|b6 e67).put (aO sF eG7) (Mk.Ts I G er _ Rm) Zx b0d;let rdm:=Hs erd;let rd0:=(rd1 rdm).1;rw[<- bu rd0]at Pp k7;let g57:=b6 (F0:=F) (H0:=H)<|eT.trans e67;show#[yY,rd,_,1,a1p,P8,bg eG7 rd0,(k5.trans<|KT.of g57).trans k7,?_,(VR.mono g57).kt k7 ?_,?_]
     ·rw[bu rd0,a9<|show ad≠rd from λz=>nad<|z▸rdm];show g57 _ _ ad5
     ·rw[bu rd0,a9<|show pd≠rd from λz=>npd<|z▸rdm]
     ·let M7:=M5.mono g57;show#[λc' d' Pq=>?_,λe ea he=>?_]
      ·change MO _ d' (((e0n r<|e6j r).take (c+1)++Tm.R.drop (c+1)).getD c' []);rw[Mk.V' _ _<|by lia];by_cases cc:c'=c
       ·subst cc;rw[erd]at Pq
        cases Pq;rw[if_pos<|J3 _,Mk.PF eks<|by lia];show Pp
       ·let nd':d'≠rd:=λz=>cc<|c7 rn (z▸Pq) erd;let h7:=(M7.rows c' d' Pq).kt k7 (by rw[bu rd0,a9 nd']);let e7:((e0n r<|e6j r).take c++Tm.R.drop c).getD c' []=if c'<c+1 then (e0n r<|e6j r).getD c' [] else Tm.R.getD c' []:=by
         rw[Mk.V' _ _<|by lia];by_cases lt:c'<c
         ·rw[if_pos lt,if_pos<|by lia]
         ·rw[if_neg lt,if_neg<|by lia]
        rw[<- e7];show h7
      ·let#[c6c]:=M7.ears e ea he;show#[d,dx,l,hd,by rw[bu rd0,a9 (λz=>by rw[z,hkk]at g1;cases g1)];show g1,zY k7 g2]
    ·rintro σ G5 ⟨OI,Og,rfl,eG5,k5,ad5,VR,M5⟩;ext d6z;let mn:min cs.length (MT.map V.ref).length=ç.length:=by rw[Hl];lia
     rw[mn,Jf<|by lia,L7<|by lia,HV]at M5;let k05:=k4.trans k5;let a5T:=k05.1 _ _<|e4L a5i;let nda:=Mk.Se G.wnd r.1;show#[_,1,_,1,ad,.ref<|LA r.1,1,(by rw[<- hkv];show Pw.k (k:=Sum.inl r.1)<|aO sF eG5 _ _ ad5),LA r.1,1,#[_,Ma.of<|aO sF eG5 _ _ a5T],e2m (xs:=axs) (Mp4 CE F H G5 v0 vx mv mx fa lc rb ad pd m Wb MT N0 ê r.1 OI Og wq p rE { Tm with R:=e0n r vE })
      #[_,_,_,1,eG5,KT.of<|gR.refl _,ad5,VR,M5] (λj e3K=>(by let#[xT,a,b,Lq]:=J';show Ma.of<|aO sF a _ _ (b.1 _ _ a5T))) ?_ ?_]
     ·rintro j v σ G6 ev ⟨Of,VH,X3,rfl,YG,k6,ad6,UR,M6⟩;let#[a,YF,b,ea,1,Sa,hb]:=Paired.at hap ev;let#[M',h1,em,hw,eg1]:=one a<|Hs YF;let K1:=e5h h1;let a9e:=e9k em;let tka:=aW YF;let ndt:(((e2P r.1).take j).map (·.1)).Nodup:=by rw[JD];show nda.sublist xP
      let#[f1,f2,f3,_]:=Mk.Qb (p:=p) (ê:=ê) r.1 ((e2P r.1).take j) { Tm with R:=e0n r vE } ndt;let fa':=f3 a.1 λa' ha' z=>by
       let#[j',Zz,ej']:=KF.mp ha';let g1:((e2P r.1).map (·.1))[j']?=!a.1:=by rw[Hy,Hm<|by lia,ej'];show congrArg some z
       let g2:((e2P r.1).map (·.1))[j]?=!a.1:=by rw[Hy,YF];rfl
       let:=c7 nda g1 g2
       lia
      let hT7:((e2P r.1).take<|j+1).foldl jK { Tm with R:=e0n r vE }=Mk.OA p ê r.1 (((e2P r.1).take j).foldl jK { Tm with R:=e0n r vE }) a:=by rw[tka,List.foldl_append];rfl
      generalize hT6:((e2P r.1).take j).foldl jK { Tm with R:=e0n r vE }=T6 at *
      let fa':T6.P.getD a.1 []=Tm.P.getD a.1 []:=fa';let#[d,dx,lp,hd,hx6,htb]:=M6.ears a.1 ea Sa;rw[eg1]at hd;let ekc:ç[M'.1]?=!ç.getD M'.1 []:=by rw[Hq,Hm a9e];rfl
      let R6:T6.R.getD M'.1 []=Tm.R.getD M'.1 []++[(r.1,Mk.newRow p m Tl (Tm.R.getD M'.1 []) r<|e6j r)]:=by rw[f1];show Mk.PF ekc #[]
      let le6:=aO sF YG;show#[b,_,1,Oi.of<|le6 _ _ (k6.2 _ _<|k05.2 _ _ (e4L hb)),1,_,_,1,_,_,1,_,[],2,?_];show#[_,1,ea,dx,_,1,le6 _ _ hx6,1,_,1,_,1,_,1,e0U G6,ea,fa,d,dx,lp,p,r.1,a.2.1,T6.P.getD a.1 [],T6.R.getD M'.1 [],le6,1,hx6,(M6.rows M'.1 d hd).dr,htb,hf.mono<|ao sF,#[],O.p1,by rw[R6,Hx];simp,by rw[fa',K1.len];show hw,λe3D=>?_,by rw[fa',K1.len];show mz,λl' G7 e7 hl'=>?_]
      ·rw[fa']at hy;show#[(K1.QE y hy).2,by rw[(K1.QE y hy).1];show mz]
      rw[ay YG e7]at hl';let ea0:=eaN Sa;let g67:=b6 (F0:=F) (H0:=H) e7;let hx7:=g67 _ _ hx6;let k7:KT (d9b G7) (grow F H<|upd G7 ea (e6Q d l')):=by rw[bu ea0];show KT.put hx7 (λ_ z=>nomatch z) Ĵ
      let k67:=(KT.of g67).trans k7;let nea:∀ {c ķ},e0U G6 c=!.dK ķ->c≠ea:=λhc z=>by rw[z,hx6]at hc;cases hc
      let kep:∀ {c:Addr},c≠ea->e0U (upd G7 ea<|e6Q d l') c=e0U G7 c:=λhc=>by rw[bu ea0,a9 hc]
      let M7:=M6.mono g67;let a3y:∀ {d' R'},MO (d9b G6) d' R'->MO (grow F H<|upd G7 ea (e6Q d l')) d' R':=λh=>by let#[ķ,hk,_]:=id h;show (h.mono g67).kt k7 (kep<|nea hk)
      show#[_,_,_,1,bg (YG.trans e7) ea0,k6.trans k67,(kep<|nea ad6).trans<|g67 _ _ ad6,a3y UR,?_];rw[hT7];show⟨λc' d' Pq=>a3y<|M6.rows c' d' Pq,λe ea2 he=>?_⟩;let al:a.1<T6.P.length:=by rw[f2];change a.1<Tm.P.length;rw[I.pl];ext d8b
      by_cases ce:e=a.1
      ·subst ce;rw[Sa]at he
       cases he;show#[d,dx,l',by rw[eg1];show hd,by rw[bu ea0,ae],?_];change DR _ (tb<|(T6.P.set a.1<|e4d (T6.P.getD a.1 []) a.2.1 (Mk.lk (Mk.rowsOf ê T6 a.1) r.1)).getD a.1 []) _;rw[bX<|KU al,Mk.OV h1];show zY k7 hl'
      ·let#[d2,dx2,l2,hd2,oj]:=M7.ears e ea2 he;show#[d2,dx2,l2,hd2,(kep λz=>ce<|c7 end_ (z▸he) Sa).trans g1,?_];change DR _ (tb<|(T6.P.set a.1 _).getD e []) _;rw[Hq,a7P<|Ne.symm ce,<- Hq];show zY k7 g2
     ·rintro σ G6 ⟨Of,VH,X3,rfl,YG,k6,ad6,UR,M6⟩;rw[axl,Iu]at M6;show#[_,_,_,_,_,_,_,_,1,YG,k05.trans k6,ad6,UR,by rw[st];show M6]
   ·rintro σ G1 ⟨o8,o9,Pm,OI,Og,Of,VH,X3,rfl,eG,kG,a1B,plG,M⟩;show hZ _ _ ?_;rw[xl]at plG;let pk:=e3F ord;show#[_,1,prG sF eG (XZ plG.dr) (.mk (f:=λr:Int×List Int=>r.1) (g:=λr=>rw r.2) ?_ (by rw[pk];show G.nd)) λx H7 e7 hx7=>q x H7 (eG.trans e7) hx7];let:=e0g pk;rw[Hl,Hl]at this
    lia
universe e
def b0Y:∀ (ê:List Mk.MB)(k:Nat),(∀ M'∈ê,M'.2.flatten.length<=B)->((ê.zipIdx k).flatMap λx=>Mk.Ow x.2 x.1.2).length<=ê.length * B
 | [],_,_=>by simp
 | x::l,k,h=>by
  let ih:=b0Y l (k+1) λe3D=>h y uM;let hx:=h x Ĕ;rw[<- Mk.Tv k x.2,Hl]at hx;rw[List.zipIdx_cons,KZ,HE,I0,Nat.succ_mul]
  grind
def sub_len:∀ {xs ys:Ξ},xs.Nodup->c0k->xs.length<=ys.length
 | [],ys,_,_=>Iv _
 | x::xs,ys,nd,h=>by
  ext d4E;let hx:=h x Ĕ;let:=sub_len (ys:=ys.erase x) nd.2 λe3D=>(Lk (λz:y=x=>nd.1 (by rw[<- z];show hy))).mpr<|h y uM;rw[List.length_erase_of_mem hx]at this;let h1:0<ys.length:=List.length_pos_of_mem hx;rw[I0]
  lia
def WN.Y7 (W):S.LK.length<=40:=by let:=W.ln.UH;rw[<- W.ln.LK,Hl]at this;show this
def WN.Y5 (W):(S.LK.map (·.1)).Nodup:=by let pk:=W.ln.LV.map (·.1);rw[Hv]at pk;show pk.nodup_iff.mp W.ln.fits.nd
def WN.a3S (W):∀ x∈bP VV S.names.length,x∈S.names:=λe1h=>by let:=b4z W.ln.XF S.names.length (by simp[bD]) x hx;rwa [W.ln.Uk]at this
def WN.a3O (W)(pz):rD S ŧ:=#[1,W.ln.XF,W.ln.ends,by let:=W.Y7;lia,#[]]
def WN.a77 (W)(pz):Fm rD S ŧ:=#[W.a3O pz,W.a3S,by let:=W.Y7;lia,W.ln.fits]
def WN.wok (W)(d0y)(fo):V1 S fo 21:=by
 let sub:(aP S.LK fo).Sublist S.LK:=by
  cases fo with
  | none=>show List.Sublist.refl _
  | some ks=>show KJ
 let nl:S.names.length<=20:=by unfold NS.names;rw[Hl];show pz
 let ol:=W.ln.len;let tl:=W.Y7;let sl:=sub.length_le;let ix:∀ (i:Nat) z,ord[i]?=!z->ord.idxOf z=i:=λi e9v=>by let hl:=List.idxOf_lt_length_of_mem<|Hs hz;show c7 W.ln.nd ġ hz
 show#[#[W.Y5.sublist<|sub.map _,⟨λz=>ord.idxOf z,λe8S=>?_,λz=>?_⟩,#[0],#[0]],λe8S=>W.ln.Y6<|sub.subset ht,W.ln.XO,#[0],#[0],#[0]]
 ·let#[u,v,uv,yi]:=W.ln.Vb<|sub.subset ht;change ord.idxOf t.2.1<ord.idxOf t.2.2.1;ext d7i
 ·grind
def WN.make (d1U)(p1)(pz)(ez:ç.length * S.Mi.length<=1000)(fz:ç.length<=1000)(mz:m<=1000):b2J S m p ç Bu:=by
 let G:=W.Wo hP hO MW;let kt:∀ k∈(ai S).map (·.1),k∈S.LK.map (·.1):=λe7e=>by let#[r,hr,1]:=Ht.mp hk;let#[uP]:=Ht.mp<|W.ln.LV.mem_iff.mp hr;show HA ht
 let el:=b9P Bu 0 λe3D=>by let#[ks,_,1]:=Ht.mp hy;rw[Hl]
 let fl:(bv S (!h) N m ç).length=ç.length:=Hl _;let el:(Mk.LQ<|bv S (!h) N m ç).length=ç.length * S.Mi.length:=by unfold Mk.LQ;rw[el,fl]
 let a5t:=W.ln.MW;let lz:S.Mi.length<=S.LO.length:=by unfold NS.Mi;ext d37
 show#[W.a3O pz,W.a3S,W.Y5,a5t,λe3I=>#[kt _<|HA hr,λks hk=>?_],p1,fl,by rw[fl];show fz,mz,G,?_,λbl hbl=>?_,by rw[el];show ez]
 ·let#[tD]:=IG.mp hr;show (e2C r ks ġ hk).1
 ·let:=b0Y (B:=64) _ 0 λM' he=>by
   let sub:∀ k∈M'.2.flatten,k∈(ai S).map _:=λe7e=>by let#[way,hw,hk]:=List.mem_flatten.mp hk;show (G.Y2 M' he way hw).subset hk
   let:=sub_len (G.wnd M' he) sub;ext d8C
   lia
  show HU this ?_
  lia
 ·let#[ks,hk,1]:=Ht.mp hbl;show#[by rw[Hl];lia,λways hw=>?_];let#[g,hg,1]:=Ht.mp hw;let#[O,hW]:=hO ks hk;ext d48;let e:jq (bb c00 (!h) g N m)=w:=by rw[ew];rfl
  rw[e,e1];show#[by simp_all,λway hw=>?_];ext d3Y;let sb:=W.whole c0m<|e3 ws Wf;let sl:=sb.length_le;rw[Hl]at sl;show⟨#[],λe7e=>kt k<|sb.subset hk⟩
def WN.told (W)(n)(x:Nf)(hx:(ai S)[n]?=!x):io a90 x.1=!(x.1,e0B (d9V Mk.stN yZ n) x):=by let nd:((UD (·.1)<|e1N _ (ai S).length).map _).Nodup:=(Nu.map _).nodup_iff.mpr (by rw[eQ];show W.ln.fits.nd);show a2h nd (x.1,_) (Nu.mem_iff.mpr ?_);show Ht.mpr #[n,IB.mpr<|(Ho.mp hx).1,by rw[bX hx]]
def WN.good (W)(hP)(G:f1E yZ)(mz:m<=1000):R9 m p yZ a90:=by
 let pm:=e4s (l:=e1N yZ (ai S).length);let MW:=W.ln.MW;let kl:=congrArg List.length<|e3F (ai S);rw[Hl,Hl]at kl;show⟨λe1h=>?_,λe3I=>?_,?_⟩
 ·let#[n,hn]:=List.getElem?_of_mem hx;show#[_,W.told n x hn,?_];let#[yi,_]:=Mk.VJ<|Mk.U3 (Mk.P7 G n (by let:=(Ho.mp hn).1;lia)) G hn;let#[tD]:=IG.mp hx;let mw:((f1K x.2).length)=Be m x.2/\(f1K x.2).length<=1000:=by
   cases e2:x.2 with
   | none=>
    let:(f1K none).length=m:=by change (Mk.starts m).length=m;ext d8R;simp
    rw[this];show#[1,mz]
   | some ks=>show#[1,(e2C x ks ġ e2).1]
  rw[<- h1]at mw;show#[mw.1,h2,mw.2]
 ·let:=HA (f:=λr:Int×List Int=>r.1)<|pm.mem_iff.mp hr;rwa [eQ]at this
 ·rw[pm.length_eq]
  lia
universe K72
namespace L2
open PySem PySem.Spec PyProof.Rows
theorem a3i (K)(C1 C2:Addr)(i)(tb:(St->XK)->TS)(th1 th2:Addr->TS):TS:=λe6n=>
 tb (λσ' cls od H'=>
  (e4e cls (d9G C1)=!true/\∀ ea,H' ea=none->
   th1 ea { D with nx:=λe2h=>D.nx ů H2,bk:=λe2h=>D.bk ů H2,ct:=λe2h=>D.ct ů H2 } b9F (e5p gy)) \/
  (e4e cls (d9G C1)=!false/\W.exmOne K cls (d9G C2)=!true/\∀ ea,H' ea=none->
   th2 ea { D with nx:=λe2h=>D.nx ů H2,bk:=λe2h=>D.bk ů H2,ct:=λe2h=>D.ct ů H2 } b9F (e5p gy))) D σ H
def FS {x1:Str}{tb:(St->XK)->TS}(d1a)(d17)(hg1:Gl X x1)(Vo:X.mg x1=!.ref C1)(hg2:Gl X x2)(hm2:X.mg x2=!.ref C2)(hb:∀ pn W,Qe (X.a3d pn W) body (tb W))(hh1:∀ ea pn,Qe tW (b1::Vd) (th1 ea))(hh2:∀ ea pn,Qe tW (b2::TU) (th2 ea))(a48:(x1==("__debug__":Str))=false:=ö)(a9f:(x2==("__debug__":Str))=false:=ö):
  PS X (.Try body [.ExceptHandler (!.Name x1 np1) (!n) (b1::Vd) Zv,.ExceptHandler (!.Name x2 np2) (!n) (b2::TU) Xm] [] [] pos) (a3i X.K C1 C2 i tb th1 th2):=by
 ext d2I;show wpAny_Try_except ?_;show Jd (hb ñ _ [] s σ H D (I.a0h.RL _) h) (λf s1 q=>?_) (λe s1 q=>?_)
 ·cases f with
  | next=>
   let#[GH,I',q]:=q;show Lu #[jV,q]
  | brk=>ext d5S;show#[jV,q]
  | cont=>ext d5S;show#[jV,q]
  | ret u=>let⟨v,σ',H',I',r,q⟩:=q;show#[v,jV,r,q]
 ·let#[QO,σ',Hc,sc,Ic,c5b,di,c5q,hQ]:=q;let I1:=Ic.SA os u LY bare λb z=>e6w Ĕ;let fl':=fl;rw[O.VD]at fl';let a89:X.A.frames=!(X.env::X.outer):=by rw[I.ok.frames,O.VD]
  show b58 a89 O.frm di fl' λh4 held up4 d4=>?_;show a07 d4 held λh5 fl5 up5 d5=>?_;let US:∀ b∈Ra X.stack,∃ o,s1.heap.get? b=!o/\∀ vs,o.data≠.fields vs:=λe1C=>by let#[_,jQ]:=fl.2.2.1.mem hb;show#[jQ]
  let at_:∀ {h6:Heap},B.StaysIn h6->s1.heap.UpToSlots h6->e9J σ' H' { s1 with heap:=h6 }:=λ{h6} hB up=>by let#[u6,a8M,_]:=a0e u LY fl.1 hB up US I1.P6 old;show Ic.SA os u6 a8M bare λb z=>e6w Ĕ
  let I5:=at_ fl5.1<|up4.trans up5;let J5:=I5.VC (ea:=ea);let#[ob,hob,a8S]:=fl5.there;let LT:PySem.W.Looks ē h5 (typeOf<|.ref ea) cls:=by subst a8S;show (PySem.W.Looks.ld hob).andThen .now
  let run:∀ (b₀:Stmt)(WX:Í)(a1q:Pos)(th:Addr->TS),(∀ ea pn,Qe tW (b₀::WX)<|th ea)->(∀ ea,H' ea=none->th ea { D with nx:=λe2h=>D.nx ů H2,bk:=λe2h=>D.bk ů H2,ct:=λe2h=>D.ct ů H2 } (σ'.set i<|some za) (upd H' ea<|f0Z od))->
    codeAny ē (X.A.mark<|some (.ref ea)) (.handlers (.ref ea) [.ExceptHandler none (some n) (b₀::WX) a1q] X.env) (λr s₂=>match r with
     | .ok f=>e0h (do bindName X.env n .none;unbindBehindTheSuite X.env n a1q) (λ_ s₃=>e4W D f s₃) X.xe s₂
     | .error x=>cameBackBy ē X.A X.env X.xe x s₂) { s1 with heap:=h5 }:=λb₀ WX a1q th hh hth=>by
   show codeAny_handlers_suite_as ?_;let a9D:=fl5;show b41 d5 a9D λh6 fl6 up6 d6=>?_;let#[oe,vs,hoe,Uv,a4O,h62]:=d6;let I6:=at_ fl6.1<|up4.trans (up5.trans up6);let J6:=I6.VC (ea:=ea);let a8Q:oe.cls=cls:=by
    let#[oe2,_,a4P,hc2,_]:=fl6.first;rw[hoe]at a4P
    cases a4P;show hc2
   let h0:X.s₀.heap.get? ea=none:=by
    cases q:X.s₀.heap.get? ea with
    | none=>rfl
    | some o=>
     let#[o',e]:=Ic.base.there ea o q (by rw[O.exs];simp);rw[hsc]at e;cases e
   let J7:=J6.a0f Sa h0 hoe a4O (λH2=>by let:=a6q (P:=X.prog) (w:=X.w) (H:=H2) hoe a8Q a4O h62;rw[Uv]at this;show this) (λf0z z=>by let:=(Ic.pin p<|Ir _ a74).1;rw[z,hsc]at this;cases this)
   show g9 (X:=f0Y ñ) (v:=.ref ea) J7 hN hi (.inl hk) rfl (λs8 J8=>?_) (.inr hk);show Jd (hh ea ñ [] s8 _ _ _ J8<|hth ea Sa) (λf s9 q9=>?_) (λ_ _ z=>False.elim z)
   cases f with
   | next=>
    ext d21
   | brk=>
    ext d21
   | cont=>
    ext d21
   | ret u=>
    let#[v,c6u,r,q]:=q9;show b40 (X:=f0Y ñ) I9 hN hi hk λs10 YR=>#[v,_,H9,Inv.S6 I.ok YR,r,q]
  rcases hQ with⟨w1,hth⟩|⟨w1,w2,hth⟩
  ·ext d3i;show run b1 Vd Zv th1 hh1 hth
  ·ext d3i;show wpAny_handleBy_cons (codeAny_handlers_test (cL J5 hg2 hm2 ?_ a9f)) (by intro q;cases q);show (PySem.W.exm_one J5.Oh LT w2).here ?_;show run b2 TU Xm th2 hh2 hth
theorem c5S (b:mL)(c78)(ea):mL:=⟨rQ h λa=>if (b.get? a).isSome=true\/a=ea then none else !.lst [],!ea⟩
def c6Z {h:Heap}:∀ {l:List Env},(∀ b o,base.get? b=none->h.get? b=!o->Ÿ->ZO.get? b=none)->h.FunFrames base l->h.FunFrames ZO l
 | [],_,_=>trivial
 | _::_,k,⟨a,⟨L,o,b,c,d,e⟩,r⟩=>#[a,#[L,o,b,k L o c d e,d,e],c6Z k r]
section
variable {σ:St}{H:Hp}{ea:Addr}
def Inv.a9M (I)(c8q):e60 (e1S ea) X.A X.stack s xH/\Inv X ñ σ xH s:=by
 let l:Ox s.heap ea/\∃ φ,H ea=!.ext φ:=by
  cases od with
  | none=>show#[let ⟨o,vs,a,_,c,d⟩:=show a1J ea cls s.heap from (e7T he).1;#[Go],_,he]
  | some dx=>show#[let ⟨o,vs,a,_,c,_,d⟩:=show AR ea cls dx s.heap from (e7T he).1;#[Go],_,he]
 let#[#[pH,le,ld,l2],φ,hφ]:=l;let J:=I.VB hφ;let kp:∀ b o,X.base.get? b=!o->(e1S ea).get? b=!o:=λe0D=>a8q (I.bs b o e).1<|if_pos (.inl (by rw[e];rfl));let ns:∀ {b:Addr}{m:Ω},X.base.Ns b m->(e1S ea).Ns b m:=λJ'=>by let#[yH,e,d,r]:=J';show#[yH,e46 e,d,r]
 let P4:∀ b o,(e1S ea).get? b=!o->s.heap.get? b=!o/\((∃ o',X.base.get? b=!o')\/b=ea):=λe0D=>by
  let#[a,c]:=b5J e;show#[a,?_];by_cases q:(X.base.get? b).isSome=true\/b=ea
  ·simp_all [IS]
  ·rw[if_neg q]at c;cases c
 show#[#[I.ok.frames,#[I.ok.mod.Wa.keeps kp,ns I.ok.mod.glob,let ⟨mb,a,b⟩:=I.ok.mod.blt;#[mb,ns a,b],I.ok.mod.nolimit.keeps kp,λYF z=>?_],λe0D=>?_,KR<|b89 _ _,c6Z (λb o n q d=>?_) I.stack,J.P6,J.LY,J.bare],J]
 ·cases z;show#[oe,ws,a8q le<|if_pos (Or.inr rfl),ld,l2]
 ·let#[a,c]:=P4 b o e;show#[a,?_];by_cases q:b=ea
  ·rw[q];show eB
  ·rw[aR q];let#[o',c]:=c.resolve_right q;show (I.bs b o' c).2
 ·cases q2:(e1S ea).get? b with
  | none=>rfl
  | some o2=>
   let#[a,c]:=P4 b o2 q2
   simp_all
variable {k:Nat}{ps:η}{sp:Sp}{x:Str}{t:TA}
theorem DfU (P)(w)(K)(mg)(k:Nat)(x)(ps)(sp):Prop:=∀ b:mL,K.In b->b.Ns mainGlobals mg->Df P w K mg b k x ps sp
inductive b5q (ea:Addr)(sp:Sp)(Q:VK)(d14):Prop
 |mk:∀ cls od,H1 ea=some (fh ea cls od)->(sp vs (aU ea H1) (λv H2=>Q v (upd H2 ea gy)) λ_ _ _=>False)->b5q ea sp Q vs H1
theorem D6 (ea)(sp)(t:TA):TE:=λe0i=>t σ H λe7c=>b5q ea sp Q vs H1
def Inv.a11 (I)(c8q)(h:e7k xH s (λv H2=>Q v (e4Z ea gy)) u s'):e2Z u s':=by
 ext d3Z;obtain⟨φ,hφ⟩:∃ φ,f0Z od=.ext φ:=by cases od <;> show#[_,1]
 rw[hφ]at he q;let nf:ea∉Ra X.stack:=λz=>by rw[I.P6 ea z]at he;cases he
 let#[p,#[o,e],st]:=(e7T he)
 let ke:=λo e=>un.keep ea o e eB nf Ĕ;let fr:=un.free ea o e eB Ĕ;let up:∀ {b:Addr}{u:HO},H' b=!u->e5p (.ext φ) b=!u:=λ{b u} e=>by rw[a9<|aj e fr];show e
 let hd:∀ {b:Addr},H b=none->b≠ea/\aU ea H b=none:=λ{b} n=>have x:=(λz=>by rw[z,he]at n;cases n);#[x,(aR x).trans n];show#[v,_,I.call #[λe0D n=>un.keep b o e (hd n).2,λe0D n=>un.slot b o e (hd n).2,λe0D n x=>?_,un.there,λb xs n=>up (un.QF b xs ?_),λb o u n=>up (un.Qi b o u ?_)] (λa u e=>?_) bare λb z=>absurd z<|by simp,r,q]
 ·rw[a9 (hd n).1];show un.free b o e (hd n).2 x
 ·ext d5B
 ·ext d5B
 ·by_cases ha:a=ea
  ·rw[ha,ae]at e
   cases e;rw[ha];show#[st _ _ p ke,#[o,ke o ‹_›],st]
  ·rw[a9 ha]at e;show (LY a u e).Nb Eo (λe1C=>up hb) λb xs hb=>up hb
def oE (D:DfU X.prog X.w X.K X.mg k x ps sp)(hA:X.A.handled=!.ref ea)(hr:X.A.depth+3 * k+5<recursionLimit/\X.A.units+16 * k+200<cLine)(c7h):
  PE X Ę (D6 ea sp t):=by
 ext d2y;let#[w4,hm,hk,hb,F]:=D X.base I.ok.mod.Wa I.ok.mod.glob;show Je Ez;show Kk I.ok.mod.Wa hk (Mn Ř fun us s1 ⟨vs,H1,I1,r1,cls,od,q0,q1⟩=>EI) he uz;let#[e0,J]:=I1.a9M q0;let#[f',fd',Yu,_,RI,F']:=D _ e0.mod.Wa e0.mod.glob;rw[hm]at Yu
 cases Yu;let hl:(us++[]).length=ps.length:=by rw[HV,<- r1.length];show F'.len _ _ _ _ q1
 let hbb:=RI s1 us I1.Oh hl;rw[HV]at hbb;show KN (JI (F'.run X.A X.stack s1 _ D9 us vs _ _ #[hA,hr.1,hr.2] e0 hbb r1 q1) λr s' hq=>?_)
 cases r with
 | error e=>ext d2U
 | ok fl=>
  cases fl with
  | ret u=>show I1.a11 q0 hq
  | next=>ext d2U
  | brk=>ext d2U
  | cont=>ext d2U
universe e
open L2.Sk
def b7F (k:e5W H h)(c8q):Ox h ea:=by
 cases od with
 | none=>show let ⟨o,vs,a,_,c,d⟩:=(k ea _ he).1;#[Go]
 | some dx=>show let ⟨o,vs,a,_,c,_,d⟩:=(k ea _ he).1;#[Go]
theorem Hh (K)(ea a:Addr):It:=⟨(W0 K a).go,(W0 K a).W4,λi H=>(W0 K a).stop i H/\∃ cls od,H ea=!fh ea cls od⟩
def c20 (c8F):f2k (uZ X.K (Hh X.K ea) tl):=
 b5H (λa it=>b2X a it rfl rfl λe1Y hh I f0 _ J'=>(by let#[h,_,_,he]:=J';show#[h,.inr #[ea,hh,aj he f0,b7F I.LY he]])) hl
def a3K (K)(ea)(c8F)(h):f2k (f2l tl):=h▸c20 hl
inductive rSS (r:Rx)(c71):Prop
 |mk {ns:Ξ}:r ε (.lst n8)->ns.Pairwise (·<·)->ns.length<64->d=.lst n8->rSS r ε d
def a6v:∀ {xs ys:Ξ},xs.Perm ys->xs.Pairwise E6->ys.Pairwise (·<·)->xs=ys:=λ{xs ys} p h1 h2=>
 p.eq_of_pairwise b0P h1 (h2.imp λz=>Int.le_of_lt z)
instance dSS (hm:X.mg "sorted"=none)(hm2:X.mg "set"=none)(ha:PE X e (tP r))(hc:X.calm=true:=ă)(hg:Gl X "sorted":=ă)(hg2:Gl X "set":=ă)(hs:starEach [e] X.env=Ŋ::starEach [] X.env:=ă)(S7:starEach [.Call (.Name "set" p2) [e] [] p3] X.env=(false,eval (.Call (.Name "set" p2) [e] [] p3) X.env)::starEach [] X.env:=ă):PE X (.Call (.Name "sorted" p) [.Call (.Name "set" p2) [e] [] p3] [] pos) (tP (rSS r)):=by
 show (bi (nq hc) hg hm boot_sorted<|a8 (cU (zI hc) hg2 hm2 (show bootBuiltins "set"=some _ by decide +kernel) (a8 ha K' hs) (he:=hs)) K' S7).imp λσ H Q h=>?_;let#[F,ε,d,S,#[h1,h2,h3,1],q]:=h;rename_i ns;show tP.go S h1 λx H1 e1 S1 hx=>?_;let#[a,vs,1,ha,hv]:=hx
 cases iI hv;show#[a,ns,1,S1.le _ _ ha,#[],λrs hr=>#[rs,_,1,ae,Kl (Ci ns) h3,λPH p1 p2=>?_]];rw[f2C<|h2.imp λz=>Int.ne_of_lt z]at p1;rw[a6v p1 p2 h2];intro l H2 e n z;let e2:=λb o hb=>e b o (by rw[a9<|aj (e1 _ _ hb) hr];show e1 _ _ hb);show q _ H2 e2 #[l,_,1,?_,sY ns];rw[aE]
 ·show z
 ·cases hl:H l with
  | none=>rfl
  | some o=>rw[a9<|aj (e1 _ _ hl) hr,e1 _ _ hl]at n;cases n
inductive Cr:D->String->Prop
 |l {xs:χ}:Cr lO "list"
 |k {ks:List vm}{xs:χ}:Cr (.dct ks xs) "dict"
 |i {i:Int}:Cr tV "int"
inductive rIi (K:Ψ)(d1M)(r:Rx)(c71):Prop
 |mk {a:D}{t:String}{b:Bool}:r ε a->Cr a t->W.kitOne K (.type t) TW=!b->d=.bl b->rIi K T r ε d
def b1B (K)(hm:X.mg "isinstance"=none)(hm2:X.mg x=none)(hb:bootBuiltins x=!.type T)(ha:e06 (tP r))(hK)(hg:Gl X "isinstance":=ă)(hg2:Gl X x:=ă)(c7H)(OW)(hs:starEach [e,e8h p2] X.env=Ŋ::e7U X.env:=ă)(S7:e7U X.env=(false,eval (e8h p2) X.env)::starEach [] X.env:=ă)(uz:(e01 (e7U X.env)).any (·.1)=false:=ă):PE X (.Call (.Name "isinstance" p) [e,e8h p2] [] pos) (tP (rIi K T r)):=by
 show (bi (Ex K hK) hg hm bQ (a8 ha (a8 (kr (v:=.ty T) hg2 hm2 hb rfl hn OW) K' S7) hs) (he:=hs)).imp λe0i h=>?_;let#[xN,#[xu,1],q]:=h;show tP.go S h1 λv e2t S1 hx=>#[v,_,T,QJ,h3,e25 rfl]
 cases h2 with
 | l=>let⟨a,vs,rfl,ha,_⟩:=hx;show .lst (e1n ha)
 | k=>let⟨a,ķ,rfl,ha,_⟩:=hx;show .dK (ha.mono S1.le)
 | i=>cases hx;show .int _
def dFd {dl:χ}(Dd:e2V DN/\∀ F,Md F dl dvs)(hr)(c8L)(c72)(c8E):
  PE X Ę (tP b6A):=(DM Dd.1 hr hg ha OW he uz).imp λe0i h=>OH.call Dd.2 h
def a5z (K)[DecidableEq α](c7D):NK X vK (λe2r=>∃ as bs,e52 as/\c8 K R H y bs/\Q Di H):=by subst hK;show a0O h hu
def a78 (K)[DecidableEq α](c7D):e8Z (λe2r=>∃ as bs,e52 as/\c8 K R H y bs/\Q ļ H):=by subst hK;show oK h hu
def c33 {K:Ψ}(ha:H a=!.lst xs)(c8q)(hs:∀ (i:Nat)(x:V) H2,xs[i]?=!x->gR H H2->tt Fe H2 λb H4=>if b=true then te Fe H4 λ_ _=>False else gR H2 H4)(hd:∀ l H',gR H H'->H' l=!.lst []->F l H'):e62 (Hh K ea a) H:=by
 intro l Yv;show#[λi m σ' H2=>m=xs.length - i/\i<=xs.length/\(∃ o,σ'=o::js.map λj=>(σ[j]?).join)/\gR H H2/\H2 l=!_,#[xs.length,EE,aY Ě Yv,ae],?_];ext d4Y;let q:Ma K H2 a xs:=Ma.of<|e _ _ ha;by_cases NU:i<xs.length
 ·show .inr #[QY,λx H3 y=>?_];let#[1,y]:=y;show#[λH4=>gR H3 H4,λ_ _=>False,λf2w=>#[_,#[],1,NU,#[_,1],e.trans e4,e4 _ _ hl],λ_ _=>False.elim,hs i x H3 (y xs q) e]
 ·let ei:i=xs.length:=#[]
  subst ei;show .inl #[#[Z',_,_,e _ _ he],hd l H2 e hl]
universe L2
namespace K72
open PySem L2
open PyProof.Rows (boot_all boot_any boot_bool boot_dict boot_int boot_list boot_sorted boot_str boot_tuple)
def b6d (h0:0<=i)(h:i<xs.length):∃ v,xs[i.toNat]?=!v/\RV xs i=!v:=by
 let hj:i.toNat<xs.length:=#[0]
 show#[xs[i.toNat],Hm hj,?_];let:=fG<|Hm hj;rwa [Int.toNat_of_nonneg h0]at this
structure a7e (mg:Ω):Prop where
 Me:mg "len"=none
 Ml:mg "range"=none
 Qr:mg "list"=none
 Np:mg "enumerate"=none
 VI:mg "int"=none
 Oz:mg "zip"=none
 X5:mg "sum"=none
 MC:mg "isinstance"=none
 QQ:mg "sorted"=none
 a39:mg "set"=none
 O5:mg "dict"=none
abbrev B9:Int:=(10:Int) ^ (9:Int).toNat
theorem zD:Nat->Int->Ξ
 | 0,_=>[]
 | n+1,x=>if 0<x then x % B9::zD n (x / B9) else []
theorem z7:Nat->Int->Int->Ξ
 | 0,_,_=>[]
 | n+1,k,x=>x * c05 % 2147483647::z7 n (k+1) (x * c05 % 2147483647+1)
def a5l:∀ n k x,(z7 n k x).length=n:=by
 intro r'
 induction r' with
 | zero=>
  ext d7u
 | succ n ih'=>
  intro k x;unfold z7;rw[I0,ih']
def b3U:∀ n x,(zD n x).length<=n
 | 0,_=>Hz _
 | n+1,x=>by
  unfold zD;split
  ·simp_all [I0,b3U]
  ·show Iv _
theorem xQ (c:Int)(m):Ξ:=if c % 2=0 then zD m (c / 2) else []
theorem fg (c:Int)(m):Ξ:=(xQ c m++z7 m 0 b2u).take m
def b1V (c:Int)(m):(fg c m).length=m:=by unfold fg;rw[HF,HE,a5l];omega
section
variable {c:Cl}
def b7C:au û û (d9i 92):=PD
inductive ie (K:Ψ)(c84):Prop
 |mk (a:Addr) (k:Int) (ns:Ξ):vs=[.ref a,.int k]->0<=k->Ma K H a ł->(∀ c:Int,Q (.int c) H)->ie K vs H Q E
def a9E [Bx:Bd](c8v):Tk 1 "_law_cell_at" (top 92) û (ie Bx.K):=by
 ext d27;show F.k b7C λe2v=>?_
 ·let#[a,k,ns,1,hk,hS,q]:=h;show#[_,(ag (dJ (pT gf BC<|e68 boot_len D8)
  (d97 (pI Ů lr<|pv 1))
  MQ)
 (d97 aJ)),?_]
  show#[yY,a,_,1,.inl hS,mK,1,?_];show jI (λhc=>?_) (λhc=>?_)
  ·let hc:=HR hc;let#[v,ev,e]:=b6d hk hc;rw[Hy]at ev
   cases hn:ns[k.toNat]? with
   | none=>rw[hn]at ev;cases ev
   | some z=>
    rw[hn]at ev;let:v=.int z:=by simpa using ev.symm
    ext d5M;show#[yY,a,_,k,_,2,hS,e,q z]
  ·show q 0
inductive a4Z:Ä
 |mk {c:Int}{m:Nat}:m<=100->a4Z [.int c,.int m] (rw (fg c m))
def c50 [Bx:Bd](c8v):Tk 1 "_law_stream" (top 93) b6m (Pr a4Z):=by
 show NA ["_law_found","_law_number","_law_k"] ?_ λe0b=>(qC c2u
 (qC (qs 3 ND<|e6J (Đ 0) dI)
 (qC (qW HB (d9f rY (d98 (e02 (Đ 0) dI)) (rY (e9g (Đ 3) dI)<|dc (e3V Gv<|Đ 1)))
  (qC (qA (aw<|e0s jF (a8 (e02 (Đ 3)<|dO c0J OU dI dI) K')) λe1j=>h)
 (d9K 3 (e6J (Đ 3)<|dO c0J OU dI dI))))
 (qC (qs 3 ND<|e02 (e2k (VW b9G dI) dI) dI)
 (qC (e1r EZ iL (aM 4)
  (qC (qs 3 ND<|e02 (e2k (Đ 3)<|VW (VW (e6J (Đ 3) dI) dI) (Đ 4)) dI)
 (qC (qA (aw<|e0s (pv 2) (a8 (Đ 3) K')) λe1j=>h)
 (d9K 3 (VW (Đ 3) dI)))))
 (qr<|ZM (Đ 2) ZK (ZJ<|Đ 1)))))))
 rintro _ _ @⟨c,m,hm⟩;show .nx #[pQ] (.nx #[yS] ?_);show fJ (b:=(([]:Ξ),c / 2)) (λb ε=>(c % 2=0->b.1++zD (m - b.1.length) b.2=zD m (c / 2))/\(c % 2≠0->b.1=[])/\∃ o4,ε=[.fz<|.int c,.fz<|.int m,.ow<|rw b.1,.fz<|.int b.2,o4]) (λb=>m - b.1.length) #[λ_=>rfl,λ_=>rfl,_,1] λb ε h=>?_;let#[l,x]:=b;let#[yi,o4,1]:=h;dsimp only at h1 h2 ⊢;let r1:=eq_int (ε:=[some<|.int c,some<|.int m,some<|rw l,some<|.int x,o4.a]) (ra:=e2F Zn<|rC (.int 2)) (rb:=rC<|.int 0) (i:=c % 2) #[2,qw] rfl;let r2:=gt_int (ε:=a62) (ra:=rV 3) (rb:=rC<|.int 0) rfl rfl;let r3:=lt_int (ε:=a62) (ra:=rF Oc<|rA kz SO) (rb:=rV 1) yW rfl;by_cases c0:c % 2=0/\0<x/\l.length<m
 ·let#[c1,c2,c3]:=c0;ext d6x;rw[Hu c2]at r2;rw[Hu<|by lia]at r3;show .inr #[.t r1<|.t r2 r3,(l++[x % B9],x / B9),_,.nx ⟨rfl,by simp;lia,.z ⟨rfl,⟨rfl,rfl,⟨⟨by decide,by decide,by decide⟩⟩⟩,⟨by decide⟩⟩⟩ ⟨⟨rfl,⟨rfl,rfl,⟨⟨by decide,by decide,by decide⟩⟩⟩,⟨⟨by decide,by decide⟩⟩⟩⟩,⟨λz=>?_,λz=>absurd c1 z,o4,?_⟩,by simp;lia]
  ·let e:m - l.length=(m - (l++[x % B9]).length)+1:=by simp;lia
   rw[<- h1 c1,e,Ik];change _=l++(if 0<x then _ else _)
   rw[if_pos c2];rfl
  ·rw[show rw (l++[x % B9])=.lst (l.map .int++[.int<|x % B9]) from congrArg D.lst Hx];rfl
 ·show .inl #[cW]
  ·by_cases c1:c % 2=0
   ·ext d6x;by_cases c2:0<x
    ·rw[Hu c2]at r2;rw[Hw λz=>c0 #[c1,c2,#[]]]at r3;show .t r1 (.t r2 r3)
    ·rw[Hw c2]at r2;show .t r1 (.f r2)
   ·rw[Hw c1]at r1;show .f r1
  let hl:l=xQ c m:=by
   unfold xQ;by_cases c1:c % 2=0
   ·rw[if_pos c1,<- h1 c1]
    cases e:m - l.length with
    | zero=>show (HV _).symm
    | succ n=>rw[show zD (n+1) x=[] from if_neg λz=>c0 #[c1,z,#[]],HV]
   ·rw[if_neg c1];show h2 c1
  show .nx #[#[#[#[yS,1,.i],1,#[.inr vY]],1,qw]] ?_;let hz:=b3U m<|c / 2;let dl:(xQ c m).length<=m:=by unfold xQ;split;show hz;show Iv _
  show cB oW (u:=λ(i:Nat)=>.int (i:Int)) (λi ε=>∃ ys y o4,ε=[.fz<|.int c,.fz<|.int m,.ow<|rw (xQ c m++ys),.fz<|.int y,o4]/\ys.length=i/\0<=y/\y<=2147483647/\ys++z7 (m - i) i y=z7 m 0 b2u) #[[],_,o4,by rw[hl,HV];rfl,1,IW _<|by decide,Int.le_of_lt<|IJ _ (by decide),1] ⟨m,#[],⟨rfl,rfl⟩,(bI _).symm⟩ (λi z ε hi h=>?_) λε h=>?_
  ·let#[ys,y,o4,1,yl,y0,y1,ym]:=h;let#[1,hil]:=iu hi;show#[_,1,_,.nx #[#[#[1,#[#[yS,1,.i],1,.i],Eh],1,qw]]<|.nx #[1,by simp;lia,.z rfl] #[2,.i],ys++b78,y * oJ % 2147483647+1,.fz<|.int i,?_,by simp[yl],?_,?_,?_]
   ·rw[<- Ik,show rw (xQ c m++ys++b78)=.lst ((xQ c m++ys).map .int++[.int<|y * oJ % 2147483647]) from congrArg D.lst Hx];rfl
   ·let:=IW (y * oJ) (show (2147483647:Int)≠0 by decide);lia
   ·let:=IJ (y * oJ) (show (0:Int)<2147483647 by decide);lia
   ·rw[<- ym,Ik,show m - i=(m - (i+1))+1 by lia];rfl
  ·let#[ys,y,o4,1,yl,_,_,ym]:=h;rw[ID]at ym;rw[Nat.sub_self,show z7 0 _ _=[] from rfl,HV]at ym;show#[xJ,?_];unfold fg;rw[<- ym,cX,<- JD]
abbrev gI (r:LT):D:=.tup b3D
abbrev aT (d0x):D:=.lst (R.map gI)
inductive b2m:Ä
 |mk {R:List LT}{x:Str}:R.length<=1000->b2m [aT R,.str x] (rw (dP R x))
def Vis [Bx:Bd]:Tk 1 "_law_into" (top 96) ú (Pr b2m):=by
 show NA [] ?_ λe0b=>(qr (e0H (d9y "_law_tie" "_law_name") lG
  ĕ
  (λe0m=>bU<|e1b Ŧ (Đ 1))
  yb))
 rintro _ _ @⟨R,x,hl⟩;show#[?_,TY (λr:LT=>r.1) _];show bB (u:=gI) (λr=>decide _) xp hl λe3I=>#[_,1,eq_str m4 rfl,λ_=>m4]
universe e
universe K72
namespace L2
open PySem PySem.Spec PyProof.Rows
section
variable {K:Ψ}
def b8x:∀ {as:Ξ}{vs:π},Md F (as.map .int) vs->Paired (Wd H) vs as:=by
 intro r'
 induction r' with
 | nil=>
  intro _ h
  ext d8c
 | cons _ as ih'=>
  ext d3J;show .cons h1 (ih' h2)
def ui (s)(h:DR F (rw as) v):c8 K Wd H v as:=let ⟨a,vs,e,h1,h2⟩:=h;#[a,vs,e,Ma.of<|s _ _ h1,b8x h2]
def b27 (s):∀ {t:Θ}{vs:π},Md F lY vs->Paired (c8 K Wd H) vs t:=by
 intro r'
 induction r' with
 | nil=>
  intro _ h
  ext d8c
 | cons _ t ih'=>
  ext d3J;show .cons (ui s h1) (ih' h2)
def c3D (s)(h:DR F (tb t) v):f0s v t:=let ⟨a,vs,e,h1,h2⟩:=h;#[a,vs,e,Ma.of<|s _ _ h1,b27 s h2]
def P5:∀ {as:η}{vs:π},Md F Ge vs->Paired (isA H) vs b5C
 | [],_,h=>by cases h;show .nil
 | _::as,_,⟨_,_,e,h1,h2⟩=>by subst e;show .cons h1 (P5 h2)
def b23 (s){as:η}(h:DR F (.lst Ge) v):e96 v b5C:=let ⟨a,vs,e,h1,h2⟩:=h;#[a,vs,e,Ma.of<|s _ _ h1,P5 h2]
def a1k {as:η}:decide (as.map (Sum.inr:Str->vm)=bs.map Sum.inr)=decide vA:=by simp[List.map_inj_right]
inductive fL (n:Bool):D->D->D->Prop
 |r {as bs:Ξ}:fL n (rw as) (rw bs) P3
 |t {as bs:Θ}:fL n (tb as) (tb bs) P3
 |s {as bs:η}:fL n (.lst Ge) (.lst (bs.map .str)) P3
def c21 (hr:X.A.units+2<cLine):e8Z (λe2r=>(∃ as bs,e7n Wd H x as/\c8 X.K Wd H y bs/\Q ļ H)\/(∃ as bs,e7n (e7n Wd) H x as/\c8 X.K (e7n Wd) H y bs/\Q ļ H)\/(∃ as bs,e7n isA H x as/\c8 X.K isA H y bs/\Q ļ H)):=
 NK.or (oK b4P<|by lia) (NK.or (oK (EJ b4P) hr)<|oK kQ #[])
def c5G:Ul (fL true) (λe2r=>(∃ as bs,c8 K Wd H x as/\c8 K Wd H y bs/\Q ļ H)\/(∃ as bs,f0s x as/\c8 K (c8 K Wd) H y bs/\Q ļ H)\/(∃ as bs,e96 x as/\c8 K isA H y bs/\Q ļ H)):=λe0Q=>by
 cases z with
 | r=>show .inl #[_,_,ui s hu,ui s hv,e0R (by rw[Bool.true_xor];rfl)]
 | t=>show .inr (.inl #[_,_,c3D s hu,c3D s hv,e0R (by rw[Bool.true_xor];rfl)])
 | s=>show .inr (.inr #[_,_,b23 s hu,b23 s hv,e0R (by rw[a1k,Bool.true_xor];rfl)])
universe e
section
variable {α:Type}[DecidableEq α]{R:Hp->V->α->Prop}
open Classical in
theorem eOf (its:θ)(as:List α)(a:α)(u):Bool:=if h:∃ b,∃ i:Nat,its[i]?=!u/\as[i]?=some b then decide (h.choose=a) else false
def b2N (h:Uw X.K R k)(I)(c88):
  (∀ (i:Nat) u b,its[i]?=!u->as[i]?=!b->eOf its as a u=decide (b=a)):=λi u b e2H=>by
 let ex:∃ b,∃ i:Nat,its[i]?=!u/\as[i]?=!b:=#[b,i,yi]
 unfold eOf;rw[dif_pos ex];let#[j,zh]:=ex.choose_spec;let at':∀ (i:Nat) b,its[i]?=!u->as[i]?=!b->∃ v,e5V u/\R H v b:=λi b e2H=>by
  let hi:i<vs.length:=by rw[r.length];ext d8b
  let#[u',oj]:=r.get<|Hm hi;let#[b',g3,g4]:=Paired.at p (Hm hi);rw[h1]at g1;cases g1;rw[h2]at g3;cases g3;show#[_,g2,g4]
 let#[v,FE]:=at' i b h1 h2;let#[v',q3,q4]:=at' j _ h3 h4;rw[q1.inj q3]at q2;rw[h.fn X ñ s σ H _ _ _ rfl I q4 q2]
def a1P (h:Uw X.K R k)(I)(d0m)(c88)(rx)(ra:R H x a):∀ u∈its,e1E u v (eOf its as a u):=λu hu'=>by
 let#[i,hi,e]:=IG.mp hu';let h1:its[i]?=!u:=by simp_all
 let hv:i<vs.length:=by rw[r.length];show hi
 let#[u',oj]:=r.get<|Hm hv;let#[b,g3,g4]:=Paired.at p (Hm hv);rw[h1]at g1;cases g1;rw[b2N h I r p i u b h1 g3];show h.eq X A ñ s σ H _ _ _ _ b a rfl I g2 rx g4 ra hu
inductive uq (K:Ψ)(c9s)(x:V)(ws:π)(c67):Prop
 |mk:∀ (v:V)(a:α)(as:List α)(j:Nat),ws=[v]->R H v a->c8 K R H x as->as[j]?=!a->(∀ i b,i<j->as[i]?=!b->b≠a)->Q (.int (j:Nat)) H->uq K R x ws H Q
def a1K (c8s):Za X "list.index" (uq X.K R):=by
 intro ñ s σ H x ws v us Q I rx rv hq;let#[w,a,as,j,1,ra,#[l,vs,1,hs,hp],hj,hno,q]:=hq
 cases rx;let#[u,1,ru]:=df rv;let#[zq]:=I.list hs;let hlen:its.length=as.length:=by rw[<- r.length,Paired.length hp]
 let sp:=b2N (a:=a) h I r hp;let hjl:j<its.length:=by rw[hlen];show (Ho.mp hj).1
 let hn:=pE;let#[#[kB],ho,hc,n,hd]:=id pl.isList;subst hc hd;show LC F.slot_list_index #[_,ho,1] F.entry_list_index (F.args_list_index_2 _ _) (SeqAt.list_indexAt l its.toArray n odi O4 u _ j (hjl) ?_ ?_ ?_) #[ho,λy' hy'=>a1P h I #[0] r hp ru ra y'<|by simpa using hy',?_]
 ·let:=(Ho.mp hj).1;rw[<- Paired.length hp]at this;omega
 ·rw[List.getElem_toArray,sp j _ a (Hm hjl) hj];show Hu rfl
 ·intro m hm hmj;let Yu:m<its.length:=by simpa using hm
  let h2:=Hm (show m<as.length by omega);rw[List.getElem_toArray,sp m _ _ (Hm Yu) h2];show Hw (hno m _ hmj h2)
 ·show#[.int _,cT,q]
universe e
def b0X:∀ l:Ξ,Md F (l.map .int) (l.map V.int):=by
 intro r'
 induction r' with
 | nil=>
  show rfl
 | cons _ l ih'=>
  show #[DW,ih']
inductive Ds (d0S):Fl->Prop
 |mk {l:Ξ}{d:D}:re ĭ d->d=rw l->Ds i re ε (d9k (.ow (rw l)))
def qON (d0E)(c9e):e1z (Ds i re):=λe18=>h.imp λe0t=>by let#[Bp]:=J';let#[h1,1]:=h;show k _ _ _ #[Lq,S.a,c6y];let#[vs,w1,w2]:=w;let#[F',u,S']:=S.a3v i n e1<|show V8 _ H1 (rw _) a from #[vs,w1,by rw[iI w2];show b0X _];show p _ H1 F' u S'
def a5I (d2f):PE X (.BinOp a .Mult b pos) (tN (rO mQ ra rb)):=(c6 c0H ha hb).imp λe1U=>by
 ext d8H;obtain @⟨_,_,hx,hy,f⟩:=h;obtain @⟨x,k,hk⟩:=f;show tP.go S hx λu e0o=>e4H hy λv e3M=>?_;let#[AS,p1,w,ws,1,p2,1]:=q1;show#[a,k,[w],1,q2,e2 _ _<|e1n p1,#[0],#[0],?_,λp n=>q p _ ((e1.trans e2).trans<|aY Ě n) ((e1.trans e2).free n) #[_,ae,?_]]
 ·ext d47
 ·let np:e0U H1 p=none:=by
   cases z:e0U H1 p with
   | none=>rfl
   | some o=>rw[e2 _ _<|e1n z]at n;cases n
  rw[Il];let p2:=p2.mono<|lx (b6<|e2.trans (aY (o:=.lst<|(List.replicate k [w]).flatten) Ě n)) np;generalize aU p _=G at p2 ⊢;clear hk hy q2 q
  induction k with
  | zero=>rfl
  | succ k ih=>show#[w,_,1,p2,ih]
inductive c0s:Ä
 |b {b:Bool}:c0s [.bl b] (.int b9j)
def a1Y:Cb c0s c3O:=λf0F=>by
 obtain⟨⟩:=z;obtain⟨v,ws,rfl,h1,h2⟩:=hx
 cases h1
 cases h2;show .inr #[_,1,e0R rfl]
universe L2
namespace K72
open PySem L2
open PyProof.Rows (boot_all boot_any boot_bool boot_dict boot_int boot_list boot_sorted boot_str boot_tuple)
theorem iK (R)(col)(x):List bx:=(R.filter λr=>decide (r.2.1=x)).map λr=>p8
theorem bT (R)(col)(ord:η):List bx:=ord.flatMap (iK R col)
def a1f {R:List LT}(c9G)(h:r∈R)(h':r'∈R)(e:r.1=r'.1):r=r':=c26 nd h h' e
def Qa:x∈bT R col ord ↔ ∃ r∈R,r.2.1∈ord/\x=p8:=by
 unfold bT iK;rw[JX];ext d4L
 ·rintro⟨y,hy,h⟩;let#[r,yi]:=Ht.mp h;let#[zh]:=HN.mp h1;show#[r,h3,by simp_all,h2.symm]
 ·rintro⟨r,h1,h2,rfl⟩;show#[r.2.1,h2,Ht.mpr #[r,HN.mpr #[h1,Hu rfl],1]]
def ik (c9G):∀ {ord:η},ord.Nodup->((e13 ord).map (·.1)).Nodup:=by
 intro r'
 induction r' with
 | nil=>
  intro _;show .nil
 | cons x ord ih'=>
  intro h;let#[yi]:=Ii.mp h;rw[show bT R col (x::ord)=iK R col x++e13 ord from rfl,Hx,HX];show#[?_,ih' h2,λe6Z e=>?_]
  ·unfold iK;rw[Hv];show nd.sublist (List.filter_sublist.map _)
  ·unfold iK at ha;rw[Hv]at ha;let#[r,hr,1]:=Ht.mp ha;let#[hr,hx]:=HN.mp hr;let#[y,hy,e2]:=Ht.mp hb;let#[r',Xj,ho,1]:=Qa.mp hy;let:=a1f nd hr Xj (e.trans e2.symm)
   grind
def Bw (c9G)(h:ord.Nodup):(e13 ord).length<=R.length:=by
 let:=sub_len (ys:=R.map _) (e6R nd h) λe7e=>by let#[x,hx,1]:=Ht.mp hk;let#[r,hr,_,1]:=Qa.mp hx;show HA hr
 simp_all
section
variable {r2 rb:Rs}{ε:Ev}{J:Ú}{q:Õ}{α β:Type}{u:α->D}{ri:Ri}
def a9I (h:rt ĭ true)(k:∃ ε2,rx ε pG/\J ε2):∃ ε2,f1c ry ε pG/\J ε2:=let ⟨ε2,a,b⟩:=k;#[ε2,.t h a,b]
def a9J (h:rt ĭ false)(k:∃ ε2,ry ε pG/\J ε2):∃ ε2,f1c ry ε pG/\J ε2:=let ⟨ε2,a,b⟩:=k;#[ε2,.f h a,b]
def a5x (c7q)(fin:∀ ε',I JZ ε'->∃ ε2,r2 ε' pG/\J ε2):∃ ε',e26 nK/\J ε':=
 let #[ze]:=c1V I g xs k h0;let #[ε2,zh]:=e6H h2
 #[ε2,.nx jj h3,h4]
universe e
theorem yj (m)(p)(col)(row:Ξ)(z:Int×Int):Ξ:=(List.range m).map λj=>(row.getD j 0+z.1 * (col z.2).getD j 0) % p
structure b86 (d0x)(ord:η)(pl:List bx)(d2m)(col:Int->Ξ):Prop where
 key:(R.map (·.1)).Nodup
 ond:ord.Nodup
 MW:R.length<=100
 m1:m<=1000
 p0:0<p
 pnd:(pl.map (·.1)).Nodup
 pin:∀ r∈R,GS∈pl
 pz:∀ r∈R,∀ z∈bF pl r.1,0<=z/\z<1000000
 pln:∀ r∈R,(bF pl r.1).length<=1000
 len:∀ r∈R,(col r.1).length=m
 up:∀ t∈R,∀ (i:Nat),ord[i]?=!t.2.2->t.2.1∈ord.take i
 fix:∀ r∈R,col r.1=if r.2.1="h" then bF pl r.1 else ((bF pl r.1).zip (dP R r.2.1)).foldl vU Fh
def kq {pl:List bx}(nd:(pl.map (·.1)).Nodup)(h:(k,row)∈pl):cD (pl.map λr=>Fr) fK=!rw row:=by show eL ?_ (Ht.mpr #[_,h,1]);rw[Hv];let:=L9 (S:=λa b:vm=>a≠b) (λk:Int=>_) b33 nd;ext d41
inductive a6c:Ä
 |mk {R:List LT}{ord:η}{pl:List bx}{m:Nat}{p:Int}{col:Int->Ξ}:b86 R ord pl m p col->a6c [aT R,aQ ord,aI pl,nU] (aI (bT R col ord))
def a6f [Bx:Bd](hn)(c8v)(Oe):Tk 2 "_law_rows" (top 98) í (Pr a6c):=by
 show NA ["_law_rows_here","_law_name",xD,c4C] ?_ λe0b=>(qC (qo 5 ND vB)
 (qC (e0A UF AE (aM 6)
  (q1 (e6T a6m c1T
  (q1 (qI (d9f rY b7L (dc<|e1b (Đ 6) gr))
  (q1<|qP (e4o qt (Đ 7) (e2N boot_list<|da (MU hr (Đ 2)<|Đ 7) LS) rfl) (λe1j=>h))
  (q1 (qI b7L
  (qC (qo 10 ND<|a5I (cO<|da dI LS).p (Đ 3))
 (qC (e1r (f1p T.Oz<|da (d9t 7) (da (e97 rfl<|e1q (e3a LS)) LS)) a7g (d8 Bx.K [11,12])
  (q1 (qON (pS 10 ND (dLN 0 rfl (cS 1 [4,5,10,11,12] ["_law_k","_law_prime","_law_rows_here",c4C]) (We rfl T.Ml<|e1s LS)
  ĕ
  Px
  (λe0m=>e02 (VW (MU hr (Đ 3)<|Đ 0)<|e2k (Đ 4) (MU hr (d9t 5)<|Đ 0))<|Đ 1))) λe1j=>h)))
 (qZ 10<|q1 (qP (e9V (pv 5) (Đ 7) (Đ 10) rfl) λe1j=>h))))
  q0)))))))
 (qr<|Đ 5)))
 rintro _ _ @⟨R,ord,pl,m,p,col,O⟩;ext d8O;show cB ord (u:=.str) (λi ε=>∃ o7 o8 o9 Pm OI Og Of,ε=[.fz<|aT R,.fz<|aQ ord,.fz<|aI pl,.fz<|.int m,.fz<|.int p,.ow<|aI (bT R col<|ord.take i),o7,o8,o9,Pm,OI,Og,Of]) ⟨_,_,_,_,_,_,_,rfl⟩ ⟨rfl,.l .lst⟩ (λi x e6Y=>?_) λe3m=>?_
 ·let#[o7,Dc,he]:=J';subst he;show#[_,1,GJ R (u:=gI) (λj ε=>∃ o8 o9 Pm OI Og Of,ε=[.fz<|aT R,.fz<|aQ ord,.fz<|aI pl,.fz<|.int m,.fz<|.int p,.ow<|aI (e13 AM++e6h x),.fz<|.str x,o8,o9,Pm,OI,Og,Of]) ⟨_,_,_,_,_,_,by rw[show iK (R.take 0) col x=[] from rfl,HV];rfl⟩ ⟨rfl,.l .lst⟩ (λj r ε hj J'=>?_) λε' J'=>?_]
  ·ext d8S;let hr:=Hs hj;let xm:=Hs hi;let sub:∀ j,(e13 AM++e6h x).Sublist (bT R col<|ord.take (i+1)):=λj=>by rw[aW hi,show bT R col c1U=e13 AM++iK R col x by unfold bT;rw[Jo];simp];show (List.Sublist.refl _).append (((K7 _ _).filter _).map _)
   let nd1:=O.ond.sublist<|K7 (i+1) ord;let ndb:=(e6R O.key nd1).sublist<|(sub<|j+1).map (·.1);let ndj:=(e6R O.key nd1).sublist<|(sub j).map (·.1);let rl:(e13 AM++e6h x).length<=1000:=HU (sub j).length_le<|HU (Bw O.key nd1) (HU O.MW<|by decide);let inb:∀ k∈dP R x,(k,col k)∈bT R col (ord.take i)++iK (R.take j) col x/\(col k).length=m:=λe7e=>by let#[uP]:=Ht.mp hk;let#[ht,e]:=HN.mp ht;let e:=HR e;show#[Ir _<|Qa.mpr #[t,ht,O.up t ht i (by rw[e];show hi),1],O.len t ht]
   generalize hb:e13 AM++e6h x=b at rl ndj inb ⊢;let eb:r.2.1=x->e13 AM++e72 x=b++[(r.1,col r.1)]:=λe=>by rw[<- hb,aW hj];unfold iK;rw[Ju,Hx,IK,if_pos<|Hu e,Ik];rfl
   let en:r.2.1≠x->e13 AM++e72 x=b:=λe=>by rw[<- hb,aW hj];unfold iK;rw[Ju,Hx,IK,if_neg (by rw[Hw e];show nofun),List.filter_nil,Jg,HV]
   let r1:=f0t (ra:=rV 8) (rb:=rV 6) rfl rfl;let r2:=f0t (ra:=rV 6) (rb:=rC<|.str "h") rfl rfl;ext d8P;by_cases c1:r.2.1=x
   ·rw[eb c1]at ndb;let nk:(.inl r.1:vm)∉(b.map λr=>ZB).map (·.1):=λz=>by rw[Hv]at z;let#[y,hy,e]:=Ht.mp z;rw[Hx]at ndb;show (HX.mp ndb).2.2 y.1 (HA hy) r.1 Ĕ (Sum.inl.inj e)
    rw[eb c1];ext d6x;let put:∀ {OI Og Of:Sl},[Sl.fz<|aT R,.fz<|aQ ord,.fz<|aI pl,.fz<|.int m,.fz<|.int p,.ow<|Nt (ur (b.map λr=>Fr) (.inl r.1)<|rw (col r.1)),.fz<|.str x,.fz<|.int r.1,.fz<|.str r.2.1,.fz<|.str r.2.2,OI,Og,Of]=[Sl.fz<|aT R,.fz<|aQ ord,.fz<|aI pl,.fz<|.int m,.fz<|.int p,.ow<|aI (b++[p8]),.fz<|.str x,.fz<|.int r.1,.fz<|.str r.2.1,.fz<|.str r.2.2,OI,Og,Of]:=λ{_ _ _}=>by rw[dj nk,show aI (b++[p8])=Nt (b.map _++[(.inl r.1,rw (col r.1))]) from congrArg Nt Hx]
    let bl:(b.map λr=>ZB).length<=1000:=by rw[Hl];show rl
    let fx:=O.fix r hr;by_cases c3:x="h"
    ·rw[c1,if_pos c3]at fx;rw[Hu c3]at r2;show#[_,.t uV #[1,bl,.z (d:=rw (col r.1)) ?_,1,kI],On,put];rw[fx];show#[#[b3s,1],.s<|.sq .lst]
    ·rw[c1,if_neg c3]at fx;rw[Hw c3]at r2;show a9J uV<|a9I r1 (qd (ε1:=[.fz<|aT R,.fz<|aQ ord,.fz<|aI pl,.fz<|.int m,.fz<|.int p,.ow<|aI b,.fz<|.str x,.fz<|.int r.1,.fz<|.str r.2.1,.fz<|.str r.2.2,.ow<|rw Fh,Og,Of]) (.mk (d:=rw Fh) (by rw[show rw (e2R (0:Int))=.lst (List.replicate m<|.int 0) from congrArg D.lst List.map_replicate];show#[wF,1,.mk O.m1])) ?_);show a5x ((bF pl r.1).zip<|dP R x) (u:=λz=>.tup vj) (λrow ε=>row.length=m/\∃ Og Of,ε=[.fz<|aT R,.fz<|aQ ord,.fz<|aI pl,.fz<|.int m,.fz<|.int p,.ow<|aI b,.fz<|.str x,.fz<|.int r.1,.fz<|.str r.2.1,.fz<|.str r.2.2,.ow<|rw row,Og,Of]) vU (b:=e2R 0) #[by simp,P8] #[_,_,#[b3s,#[#[3],.mk<|HU O.MW (by decide)],1],gu _ _] (λrow z ε hz h=>?_) λε' h=>?_
     ·let#[hl,Og,Of,1]:=h;let#[z1,z2]:=K2 hz;let#[k1,k2]:=inb z.2 z2;let zb:=O.pz r hr z.1 z1;show#[_,#[_,3],_,.mk (l:=yj m p col row z) (cv (xs:=List.range m) (u:=λ(j:Nat)=>.int (j:Int)) (h:=λj=>.int<|(row.getD j 0+z.1 * (col z.2).getD j 0) % p) ⟨m,O.m1,⟨rfl,rfl⟩,(bI _).symm⟩ (by rw[ID];show O.m1) (λe8R=>F8)<|Fl.rt.inj pY) rfl,by unfold yj;rw[Hl,ID],.fz<|.int z.1,.fz<|.int z.2,1];ext d5t;show#[#[b9x,#[1,#[#[2,.k (kq ndj k1) kI],1,.l .lst<|cM #[]],Eh],.i],1,#[O.p0]]
     ·let#[hl,Og,Of,1]:=h;rw[<- fx];show#[_,#[_,2,bl,.z rfl,1,kI],On,put]
   ·rw[Hw c1]at r1;rw[en c1];show#[_,.f (.f r1)<|.f r1 rfl,_,_,_,_,_,_,1]
  ·ext d8S;rw[Iu];show#[.fz<|.str x,o8,o9,Pm,OI,Og,Of,?_];rw[aW hi,show bT R col c1U=e13 AM++iK R col x by unfold bT;rw[Jo];simp]
 ·let#[xT,Lq,he]:=J';ext d8Q
def c3w (h1:xs.length=n)(h2:ys.length=n):((List.range n).map λi=>e09 0 * ys.getD i 0).sum=Mx.dot xs ys:=by
 rw[<- gP];congr 1;show JN λi=>?_;by_cases c:i<n
 ·simp_all
 ·simp_all
def b2M (d2i):(Mx.col t j).getD i 0=(t.getD i []).getD j 0:=by
 unfold Mx.col
 simp_all
inductive c5D:Ä
 |mk {T ř:Θ}{m:Nat}{p:Int}:tZ p ř T m->m<=100->ř.length<=1000->(∀ r∈ř,r.length=m)->0<p->p<=1000000->c5D [tb T,tb ř,nU] ņ
def a85 [Bx:Bd](hn)(c8v):Tk 2 "_law_reads" (top 99) ô (Pr c5D):=by
 show NA ["_law_k",c6d,"_law_made"] ?_ λe0b=>(qC (qI (e1c lF<|Đ 2)
  oB
  q0)
 (qC (e1r (iE rfl T.Np<|e1q LS) (e1R rfl<|f1G (af Id aG)) (d8 Bx.K [4,5])
  (qC (qI (e1c EC<|e8D (Đ 1))
  oB
  q0)
 (q1 (e1r ZZ AE (aM 6)
  (qC (qs 7 ND (e02 (e5A (da (e9e (cS 1 [1,5,6] ["_law_i","_law_rows_here",c6d]) (We rfl T.Ml<|da zP LS)
  ĕ
  Px
  (λe0m=>e2k (d9t 0)<|MU hr wQ (Đ 3))) LS))<|Đ 3))
 (q1 (qI (e1c (Đ 7)<|ZN a1Y emp rfl T.VI boot_int (da (dM bo cK (Đ 4)<|Đ 6) LS))
  oB
  q0)))))))
 oB))
 rintro _ _ @⟨T,ř,m,p,R,hm,hl,hw,p0,p1⟩;let r1:=ne_int (ε:=[some<|tb T,some<|tb ř,some<|.int m,some<|.int p,none,none,none,none]) (ra:=rF Oc<|rA (rV 0) SO) (rb:=rV 2) ⟨⟨rfl,rfl⟩,Oc.m⟩ rfl;rw[Hw (by rw[R.len];show λz=>z rfl)]at r1;show .nx (.f r1 rfl) ?_;show cB T.zipIdx (u:=λz=>.tup [.int (z.2:Int),rw z.1]) (λi ε=>∃ o4 o5 o6 o7,ε=[.fz<|tb T,.fz<|tb ř,.fz<|.int m,.fz<|.int p,o4,o5,o6,o7]) ⟨_,_,_,_,rfl⟩ ⟨_,⟨rfl,rfl⟩,?_⟩ (λi z e6Y=>?_) λe3m=>by let#[xT,he]:=J';subst he;show#[2]
 ·rw[List.zipIdx_map,Hv];rfl
 ·ext d7W;rw[List.getElem?_zipIdx]at hi;let#[l,h1,1]:=HZ.mp hi;let km:=(Ho.mp h1).1;rw[R.len]at km;let lm:=Hs h1;let lw:=R.QE l lm;let eD:T.getD i []=l:=by rw[Hq,h1];rfl
  show#[c5u,qd (ε1:=[.fz<|tb T,.fz<|tb ř,.fz<|.int m,.fz<|.int p,.fz<|.int ((0+i:Nat):Int),.fz<|rw l,o6,o7]) ?_ ?_]
  ·let r2:=ne_int (ε:=[some<|tb T,some<|tb ř,some<|.int m,some<|.int p,some<|.int ((0+i:Nat):Int),some<|rw l,o6.a,o7.a]) (ra:=rF Oc<|rA (rV 5) SO) (rb:=rF Oc<|rA (rV 1) SO) ⟨⟨rfl,rfl⟩,Oc.m⟩ ⟨⟨rfl,rfl⟩,Oc.m⟩;rw[Hw (by rw[lw];show λz=>z rfl)]at r2;show .f r2 rfl
  ·show GJ oW (u:=λ(j:Nat)=>.int (j:Int)) (λj ε=>∃ o6 o7,ε=[.fz<|tb T,.fz<|tb ř,.fz<|.int m,.fz<|.int p,.fz<|.int ((0+i:Nat):Int),.fz<|rw l,o6,o7]) ⟨_,_,rfl⟩ ⟨m,#[0],⟨rfl,rfl⟩,(bI _).symm⟩ (λj x ε hj J'=>?_) fun ε' ⟨o6,o7,he⟩=>#[xT,he]
   ext d4F;let#[1,jm]:=iu hj;let on:=R.ones i j km jm;rw[eD]at on;let es:=c3w (n:=ř.length) (xs:=l) (ys:=e30 j) lw (by unfold Mx.col;rw[Hl]);show#[_,1,_,.nx (.mk (d:=.int<|Mx.dot l (e30 j) % p) ⟨⟨⟨bc (xs:=List.range ř.length) (u:=λ(i:Nat)=>.int (i:Int)) (h:=λi=>.int<|e6E 0 * (e30 j).getD i 0) ⟨ř.length,hl,⟨⟨⟨rfl,rfl⟩,Oc.m⟩,rfl⟩,(bI _).symm⟩ (by rw[ID];show hl) λe3D=>F8,rfl⟩,?_⟩,rfl,#[p0]⟩) (.f ?_ rfl),P8]
   ·let hy:=IB.mp hy;let lz:=R.fit l lm (l.getD y 0)<|dZ #[0];rw[b2M hy];show#[#[2,.l .lst<|cM #[0]],#[#[2,.l .lst<|vv hy],1,.l .lst<|cM (by rw[hw _<|dZ hy];show jm)],wI]
   ·rw[<- es,show D.lst (List.map (λi=>D.int<|e6E 0 * (e30 j).getD i 0)<|List.range ř.length)=rw ((List.range ř.length).map λi=>e6E 0 * (e30 j).getD i 0) from (Fl.rt.inj<|TY _ _).symm];show .mk rfl
   ·let r3:=ne_int (ε:=[some<|tb T,some<|tb ř,some<|.int m,some<|.int p,some<|.int ((0+i:Nat):Int),some<|rw l,some<|.int j,some<|.int (Mx.dot l (e30 j) % p)]) (ra:=rV 7) (rb:=rF c0s<|rA (rO BQ wc<|rV 6) SO) (j:=if decide (((0+i:Nat):Int)=(j:Int))=true then 1 else 0) rfl #[#[eq_int rfl rfl,1],.b];rw[Hw]at r3
    ·show r3
    ·rw[on];show λz=>z ?_;by_cases e:i=j
     ·subst e;rw[if_pos rfl,if_pos<|by simp]
     ·rw[if_neg e,if_neg (by simp;omega)]
theorem Qt (R)(q:Str->Bool)(seen:η):Prop:=(∀ y∈seen,q y=true/\y∈("h":Str)::R.map (·.2.2))/\seen.Nodup
def Qt.len (h:Qt R q seen):seen.length<=R.length+1:=by let:=Wy.sub_len h.2 λe3D=>(h.1 y hy).2;rwa [I0,Hl]at this
def Qt.add (h:Qt R q seen)(hr:r∈R)(hq:q r.2.2=true)(n:r.2.2∉seen):Qt R q (seen++[r.2.2]):=by
 show#[λe3D=>?_,HX.mpr #[h.2,by simp,λe6Z e=>n<|by simp_all]];ext d8p
 ·show h.1 y hy
 ·rw[HH.mp hy];show#[hq,HM _<|HA hr]
inductive b6r:Ä
 |mk {R:List LT}{wo:Ξ}{x:Str}{q:Str->Bool}:R.length<=100->q "h"=true->(∀ r∈R,r.1∉wo->q r.2.1=true->q r.2.2=true)->q x=false->b6r [aT R,rw wo,.str x] zp
def b6s [Bx:Bd](c8v):Tk 1 "_law_leads" (top 100) b0U (Pr b6r):=by
 show NA ["_law_seen","_law_turn",xD] ?_ λe0b=>(qC (qo 3 ND<|cO (da gr LS))
 (qC (e1r (We rfl T.Ml<|da lF LS) iL (aM 4)
  (q1 (e6T (d9I aG) (d8 Bx.K [5,6,7])
  (q1 (qI (d9f rY (e3W (Đ 5)<|Đ 1) (rY (e5c (Đ 6)<|Đ 3)<|dc (d96 Vc 3)))
  a5F
  q0)))))
 (qr<|dIn Ba (Đ 2) (Đ 3))))
 rintro _ _ @⟨R,wo,x,q,rl,hh,hq,hx⟩;show .nx #[wF] ?_;show cB (List.range R.length) (λi ε=>∃ seen o4 o5 o6 o7,ε=[.fz<|aT R,.fz<|rw wo,.fz<|.str x,.ow<|aQ seen,o4,o5,o6,o7]/\Qt R q seen) ⟨["h"],_,_,_,_,rfl,⟨λe3D=>by rw[HH.mp hy];show#[hh,HS],by simp⟩⟩ #[R.length,#[],#[yW,1],(bI _).symm] (λi z ε hi h=>?_) λε h=>?_
 ·ext d8T;let#[1,il]:=iu hi;show#[_,1,GJ R (λj ε=>∃ seen o5 o6 o7,ε=[.fz<|aT R,.fz<|rw wo,.fz<|.str x,.ow<|aQ seen,.fz<|.int i,o5,o6,o7]/\Qt R q seen) ⟨seen,_,_,_,rfl,hs⟩ ⟨rfl,.l .lst⟩ (λj r ε hj h=>?_) λε' h=>?_]
  ·let#[seen,AI,1,hs]:=h;let jl:=(Ho.mp hj).1;let n1:=gL (n:=true) (i:=r.1) (ks:=wo);let n2:=gK (n:=false) (i:=r.2.1) (ks:=seen);let n3:=e4p (i:=r.2.2) (ks:=seen);rw[if_pos rfl]at n1 n3;rw[if_neg Ig]at n2;ext d8P;by_cases c1:r.1∈wo
   ·rw[Hu c1]at n1;show#[_,.f (.f #[2,n1]) rfl,c60]
   ·rw[Hw c1]at n1;by_cases c2:r.2.1∈seen
    ·rw[Hu c2]at n2;by_cases c3:r.2.2∈seen
     ·rw[Hu c3]at n3;show#[_,.f b3E rfl,c60]
     ·rw[Hw c3]at n3;show#[_,.t b3E #[1,by let:=hs.len;simp;lia,.z rfl],seen++[r.2.2],.fz<|.int r.1,.fz<|.str r.2.1,.fz<|.str r.2.2,?_,hs.add (Hs hj) (hq r (Hs hj) c1 (hs.1 _ c2).1) c3];rw[show aQ (seen++[r.2.2])=.lst (seen.map .str++[.str r.2.2]) from congrArg D.lst Hx];rfl
    ·rw[Hw c2]at n2;show#[_,.f (.t #[2,n1]<|.f #[2,n2]) rfl,c60]
  ·let#[seen,AI,1,hs]:=h;show#[seen,xT,1,hs]
 ·ext d8T;let n2:=gK (n:=false) (i:=x) (ks:=seen);rw[if_neg Ig,Hw λz=>by rw[(hs.1 x z).1]at hx;cases hx]at n2;show#[#[2,n2],1]
open L2.Wy
structure wT (K:Ψ):Prop where
 l:W.kitOne K Ł Ł=!true
 d:W.kitOne K Ţ Ţ=!true
 i:W.kitOne K ż ż=!true
inductive B7:Ä
 |mk {R:List LT}{g:Str}{ns:Ξ}{m:Nat}{q:Str->Bool}:ns.length<m->m<=10->ns.Pairwise (·<·)->(∀ k∈ns,k∈R.map (·.1))->R.length<=100->q "h"=true->(∀ r∈R,r.1∉ns->q r.2.1=true->q r.2.2=true)->q g=false->B7 b5Y ņ
def rK [Bx:Bd](c8v)(TJ:wT Bx.K)(SN:MR 1 "_law_leads" b0U (Pr b6r)):Tk 2 "_law_cut_right" (top 101) õ (Pr B7):=by
 show NA [] ?_ λe0b=>(qC (qI (d9f Ww (rX<|dV (bA<|e9q (Đ 2))) (Ww (dT sJ dq Gv<|Đ 3)<|cH (e7V (Đ 2)<|dSS T.QQ T.a39 (Đ 2))))
  oB
  q0)
 (qC (qI (e7V (e0H (cS 1 [0] ["_law_number","_law_ties"]) Bh
  ĕ
  (λe0m=>(bU (e3W (Đ 0) (e0H b79 UF
  ĕ
  Px
  yb))))
  Ő) (cO LS).p)
  oB
  q0)
 (qr<|a5J (dF SN hr.m rfl<|e1q (da (Đ 2)<|e0z LS)))))
 rintro _ _ @⟨R,g,ns,m,q,nl,m1,asc,sub,rl,q1,q2,q3⟩;let l1:=f2m (as:=ns) (bs:=ns);ext d4d;let r3:decide ((m:Int)<=(ns.length:Int))=false:=Hw #[];show .nx (d93 (.f #[1,.l,TJ.l,1]<|.f (by rw[<- r3];show#[yW,1,y9]) #[1,#[1,asc,#[],1],l1]))<|.nx (d93 #[?_,pQ,l2]) #[.mk (b:=false) #[#[4],.mk rl q1 q2 q3],1];let:=bB (n:=0) (js:=[0]) (ri:=Yc<|rV 2) (rt:=λε c=>rO (WO true) Zn (rL 0 [] (Yc<|rV 1) yG<|e2E Zn uJ) ε<|.bl c) (re:=rV 0) (ε:=[some<|aT R,some<|.str g,some<|rw ns,some<|.int m]) (xs:=ns) (u:=.int) (h:=.int) (λ_=>false) xp #[] λe1h=>#[QJ,nofun]
 ·rwa [show ns.filter vF=[] from Jx.mpr λ_ _=>nofun]at this
 ·let n1:=gL (n:=true) (i:=x) (ks:=R.map (·.1));rw[if_pos rfl,Hu<|sub x hx]at n1;show⟨rfl,e2W #[] (λr _=>E9)<|e3x Hv,n1⟩
inductive He:Ä
 |mk {R:List LT}{pl:List bx}{m:Nat}{p:Int}:(pl.map (·.1)).Perm nC->(R.map (·.1)).Pairwise (·<·)->R.length<=40->(∀ r∈R,GS∈pl/\(bF pl r.1).length=a80/\(bF pl r.1).length<=1000/\∀ z∈bF pl r.1,0<=z/\z<p)->He b5Z ņ
def a6Y [Bx:Bd](hn)(c8v)(TJ:wT Bx.K)(Oe):Tk 2 "_law_is_plan" (top 97) ù (Pr He):=by
 show NA [xD,"_law_wide"] ?_ λe0b=>(qC (qI (PW.pt (Ww (rX<|dV (bA<|e4t T.O5 boot_dict (Đ 1))) (cH (e7V (e6L boot_sorted<|e0z LS) (e0H b79 lG
  ĕ
  Px
  yb)))))
  oB
  q0)
 (qC (e6T (e4g rfl<|f1G (af Id<|f1q aG)) (d8 Bx.K [4,5,6])
  (qC (qs 7 ND<|Đ 2)
 (qC (qI (e1c (Đ 5) gr)
  (d9K 7 (cu T.Me<|e97 rfl (da (Đ 0)<|e1t LS)))
  q0)
 (qC (qI (d9f Ww (rX<|dV (bA<|e9q (MU hr (Đ 1)<|Đ 4))) (cH<|e1c (cu T.Me<|e28 (Đ 4)) (Đ 7)))
  oB
  q0)
 (q1 (qI (e7V (e0H (cS 1 [3] ["_law_one","_law_prime"]) (av<|e28 (Đ 4))
  ĕ
  (λe0m=>bU<|PW.pt (Ww (rX<|dV (bA<|e4t T.VI boot_int (Đ 0)))<|Ww b9z (cH<|dT sJ dq (Đ 0) (Đ 1))))
  Ő) (cO LS).p)
  oB
  q0))))))
 oB))
 rintro _ _ @⟨R,pl,m,p,pm,asc,rl,hr⟩;let nd:=asc.imp λ{a b} (z:a<b)=>Int.ne_of_lt z;let pnd:(pl.map (·.1)).Nodup:=pm.nodup_iff.mpr nd;let l1:=f2m (as:=R.map (·.1)) (bs:=R.map (·.1));ext d4d;let pl1:(pl.map (·.1)).length=R.length:=by rw[pm.length_eq,Hl]
 show .nx (.f (.f #[1,.k,TJ.d,1] #[#[#[2],.k (ns:=pl.map (·.1)) (ms:=R.map (·.1)) (by rw[Hv,Hv];rfl) #[] λPH p1 p2=>a6v (p1.trans pm) p2 asc],e2W #[] (λr _=>E9)<|e3x Hv,l1]) rfl) ?_;show cB R (u:=gI) (λi ε=>∃ o4 o5 o6 o7,ε=[.fz<|aT R,.fz<|aI pl,.fz<|.int m,.fz<|.int p,o4,o5,o6,o7]) ⟨_,_,_,_,rfl⟩ ⟨rfl,.l .lst⟩ (λi r e6Y=>?_) λe3m=>by let#[xT,he]:=J';subst he;show#[2]
 ext d7W;let#[Ab]:=hr r<|Hs hi;generalize hW:a80=W at h2;generalize bF pl r.1=row at h1 h2 h3 h4;let r1:=ne_str (ε:=[some<|aT R,some<|aI pl,some<|.int m,some<|.int p,some<|.int r.1,some<|.str r.2.1,some<|.str r.2.2,some<|.int m]) (ra:=rV 5) (rb:=rC<|.str "h") rfl rfl;let sb:∀ z:D,e2E AH wc [some<|aT R,some<|aI pl,some<|.int m,some<|.int p,some<|.int r.1,some<|.str r.2.1,some<|.str r.2.2,some z] (rw row):=λz=>#[2,.k (kq pnd h1) kI]
 let r3:=ne_int (ra:=rF Oc<|rA (e2E AH<|rV 4) SO) (rb:=rV 7) #[#[sb<|.int W,1],Oc.m] rfl;rw[Hw λz=>z<|by rw[h2]]at r3;show#[c5u,qd (ε1:=[.fz<|aT R,.fz<|aI pl,.fz<|.int m,.fz<|.int p,.fz<|.int r.1,.fz<|.str r.2.1,.fz<|.str r.2.2,.fz<|.int m]) #[1] (qd (ε1:=[.fz<|aT R,.fz<|aI pl,.fz<|.int m,.fz<|.int p,.fz<|.int r.1,.fz<|.str r.2.1,.fz<|.str r.2.2,.fz<|.int W]) ?_<|qd (d93 (.f #[sb _,.l,TJ.l,1] r3)) #[_,.f #[?_,pQ,l2] rfl,xT,1])]
 ·by_cases c1:r.2.1="h"
  ·rw[if_pos c1]at hW;rw[Hw λz=>z c1]at r1;rw[<- hW];show .f r1 rfl
  ·rw[if_neg c1]at hW;ext d6x;rw[<- hW];show .t r1 #[#[#[#[#[3],.mk<|by lia],1],Oc.m]]
 ·let:=bB (n:=0) (js:=[3]) (ri:=Yc<|e2E (rV 1) (rV 4)) (rt:=rOr (λε b=>rIi Bx.K "int" Zn ε<|.bl (not b))<|rOr (λε b=>rO (fI Bb λi j=>RO<|.bl (decide (i<j))) Zn uJ ε<|.bl b) λε b=>rO (fI Bb λi j=>RO<|.bl (decide (j<=i))) Zn AH ε<|.bl b) (re:=rV 0) (ε:=[some<|aT R,some<|aI pl,some<|.int m,some<|.int p,some<|.int r.1,some<|.str r.2.1,some<|.str r.2.2,some<|.int W]) (xs:=row) (u:=.int) (h:=.int) (λ_=>false) #[sb _,.l .lst] h3 λe1h=>#[QJ,nofun]
  ·rwa [show row.filter vF=[] from Jx.mpr λ_ _=>nofun]at this
  ·let#[z1,z2]:=h4 x hx;let e1:decide (x<0)=false:=Hw #[];let e2:decide (p<=x)=false:=Hw #[];show .f #[1,.i,TJ.i,1] (.f (by rw[<- e1];show#[2,y9]) (by rw[<- e2];show#[2,y9]))
section
variable {c:Cl}
theorem Yf (x)(ws:List Mv):Str:=(ws.getLast?.map (·.2.2.1)).getD x
instance zT (W:Qo ts x ws y):y=Yf x ws/\∀ (j:Nat) t,ws[j]?=!t->t.2.1=Yf x (ws.take j):=by
 induction W with
 | nil=>show#[1,λj t h=>nomatch h]
 | snoc W ht ih=>
  rename_i ws t;show⟨by simp[Yf],λj t' h=>?_⟩;by_cases c:j<ws.length
  ·rw[Ij c]at h;rw[Kf<|Km c];show ih.2 j t' h
  ·rw[Iq<|by lia]at h;let e:j=ws.length:=by
    cases hj:j - ws.length with
    | zero=>lia
    | succ n=>rw[hj]at h;cases h
   simp_all
structure a14 (d0x)(g:Str)(Ng:List DU):Prop where
 nd:(Ng.map aB).flatten.Nodup
 mem:∀ ws∈Ng,∀ t∈ws,vM∈R
 fin:∀ ws∈Ng,g=Yf "h" ws
 pt:∀ ws∈Ng,∀ (j:Nat) t,ws[j]?=!t->t.2.1=Yf "h" (ws.take j)
 key:(R.map (·.1)).Nodup
 MW:R.length<=100
theorem gn (R):ι:=R.map λr=>c0p
inductive m9 (c:Cl):Ä
 |mk {S:NS}{R:List LT}{g:Str}{m N:Nat}{Ng:List DU}:V1 S none N->g∈S.Mi->1<=m->m<=100->m * N+N<=1000->bb (aP S.LK none) ħ g N m=.inr jX->Ng.length=m->a14 R g Ng->m9 c vg ņ
def a8t [Bx:Bd](c8v)(Uo:ET 4 "ways" â FK (d9m Pn)/\∀ F,Md F FK FK):Tk 5 "_law_ways_right" (top 102) ó An:=by
 show NA ["_law_word","_law_told","_law_ends",xD,"_law_used","_law_way","_law_at"] ?_ λe0b=>(qC (qT (yK (dFd Uo hr.m rfl<|e1q b6g)<|e4h rfl (af iL<|af Id aG))<|d8 Bx.K [4,5])
 (qC (qI (d9f Ww (e1c (Đ 4) gr) (cH<|e1c EC (Đ 3)))
  oB
  q0)
 (qC (qo 6 ND vB)
 (qC (e0A UF a6m c1T
  (q1<|qP (e4o xU (Đ 7) (qm<|f1I (f1r LS)) rfl) (λe1j=>h)))
 (qC (qo 10 ND<|cO LS)
 (qC (e0A F9 CQ (aM 11)
  (qC (qs 12 ND gr)
 (qC (e0A (av<|Đ 11) zi (aM 7)
  (qC (qI (d9f Ww (d96 b1Z 10) (Ww (d96 Vc 6)<|cH (e1c (e5C dI)<|Đ 12)))
  oB
  q0)
 (qC (qA (aw<|e0s (pv 10) (a8 (Đ 7) K')) λe1j=>h)
 (q1<|MtR (pS 12 ND<|e5C dI) (λe1j=>h)))))
 (q1 (qI (e1c (Đ 12)<|Đ 2)
  oB
  q0)))))
 oB))))))
 rintro _ _ @⟨S,R,g,m,N,Ng,O,hg,m1,m2,hz,ew,wl,W⟩;let c1:=f2h hg m1 #[] hz;rw[ew]at c1;let r1:=ne_str (ε:=a2x) (ra:=rV 4) (rb:=rC<|.str "ways") rfl rfl;let r2:=ne_int (ε:=a2x) (ra:=rF Oc<|rA (rV 5) SO) (rb:=rV 3) ⟨⟨rfl,rfl⟩,Oc.m⟩ rfl;rw[Hw λz=>z rfl]at r1;rw[Hw λz=>z<|by rw[Hl,wl]]at r2;let rl:=W.MW;show .nx (.mk (d:=.tup [.str "ways",tb<|Ng.map aB]) wu #[_,3])<|.nx (.f (.f r1 r2) rfl) (.nx ⟨rfl⟩ ?_);show cB R (u:=gI) (λi ε=>∃ o7 o8 o9,ε=[.fz<|aK c S,.fz<|aT R,.fz<|.str g,.fz<|.int m,.fz<|.str "ways",.fz<|tb jX,.ow<|Nt (gn<|R.take i),o7,o8,o9,.un,.un,.un]) ⟨_,_,_,rfl⟩ ⟨rfl,.l .lst⟩ (λi r e6Y=>?_) λe3m=>?_
 ·let#[o7,Az]:=J';subst he;let nd:=W.key.sublist<|(K7 (i+1) R).map (·.1);rw[aW hi,Hx]at nd;let nk:(.inl r.1:vm)∉(gn<|R.take i).map (·.1):=λz=>by unfold gn at z;rw[Hv]at z;let#[y,hy,e]:=Ht.mp z;show (HX.mp nd).2.2 y.1 (HA hy) r.1 Ĕ (Sum.inl.inj e)
  show#[_,#[_,3],_,#[1,by unfold gn;rw[Hl,HF];lia,.z (d:=.tup jk) Lb,1,kI],.fz<|.int r.1,.fz<|.str r.2.1,.fz<|.str r.2.2,?_];rw[dj nk,aW hi,show gn (R.take i++[r])=gn (R.take i)++[c0p] from Hx];rfl
 let#[o7,Az]:=J';ext d3M;let pre:∀ k,((Ng.take k).map aB).flatten.Sublist (Ng.map aB).flatten:=λk=>by rw[show Ng.map aB=(Ng.take k).map aB++(Ng.drop k).map aB by rw[<- Hx,IQ],List.flatten_append];show List.sublist_append_left _ _
 let all:(Ng.map aB).flatten.length<=R.length:=by
  let:=sub_len (ys:=R.map (·.1)) W.nd λe1h=>by let#[l,hl,hx]:=List.mem_flatten.mp hx;let#[ws,hw,1]:=Ht.mp hl;let#[uP]:=Ht.mp hx;show Ht.mpr #[_,W.mem ws hw t ht,1]
  rwa [Hl]at this
 show .nx pQ (cB Ng (u:=λws=>rw dL) (λi ε=>∃ o7 OI Og,ε=[.fz<|aK c S,.fz<|aT R,.fz<|.str g,.fz<|.int m,.fz<|.str "ways",.fz<|tb jX,.ow<|Nt (gn R),o7,o8,o9,.ow<|rw ((Ng.take i).map aB).flatten,OI,Og]) ⟨_,_,_,rfl⟩ (by rw[show Ng.map (λws=>rw dL)=(Ng.map aB).map rw by rw[Hv];rfl];show#[1,.l .lst]) (λi ws e6Y=>?_) λe3m=>(by let#[Lq,he]:=J';subst he;show#[2]));let#[o7,OI,Og,he]:=J';subst he;let hw:=Hs hi;let eU:((Ng.take<|i+1).map aB).flatten=((Ng.take i).map aB).flatten++aB ws:=by rw[aW hi,Hx,List.flatten_append];simp
 let sub:∀ j,(((Ng.take i).map aB).flatten++(aB ws).take j).Sublist (Ng.map aB).flatten:=λj=>by show .trans ?_ (pre<|i+1);rw[eU];show (List.Sublist.refl _).append xP
 rw[eU];generalize ((Ng.take i).map aB).flatten=U at sub;show#[_,1,qd (ε1:=[.fz<|aK c S,.fz<|aT R,.fz<|.str g,.fz<|.int m,.fz<|.str "ways",.fz<|tb jX,.ow<|Nt (gn R),o7,o8,o9,.ow<|rw U,.fz<|rw dL,.fz<|.str "h"]) ⟨rfl⟩ (EH ws (u:=λt=>.int t.1) (λj ε=>∃ o7,ε=[.fz<|aK c S,.fz<|aT R,.fz<|.str g,.fz<|.int m,.fz<|.str "ways",.fz<|tb jX,.ow<|Nt (gn R),o7,o8,o9,.ow<|rw c0r,.fz<|rw dL,.fz<|.str (Yf "h"<|ws.take j)]) ⟨_,by rw[KS,HV];rfl⟩ (by rw[show ws.map (λt=>D.int t.1)=(aB ws).map .int by unfold aB;rw[Hv];rfl];show#[1,.l .lst]) (λj t ε hj J'=>?_) λe3m=>?_)]
 ·let#[o7,he]:=J';subst he;let ht:=Hs hj;let hn:(aB ws)[j]?=!t.1:=by unfold aB;rw[Hy,hj];rfl
  let s1:=sub<|j+1;rw[aW hn,<- Ik]at s1;let nd1:=W.nd.sublist s1;let ul:=s1.length_le;let v1:cD (gn R) (.inl t.1)=some (.tup [.str t.2.1,.str t.2.2.1]):=eL (by unfold gn;rw[Hv,show ((λx:vm×D=>x.1) ∘ λr:LT=>((.inl r.1:vm),D.tup jk))=(λk:Int=>(.inl k:vm)) ∘ λr:LT=>r.1 from rfl,<- Hv];show L9 _ b33 W.key)<|Ht.mpr ⟨_,W.mem ws hw t ht,rfl⟩;let n1:=gL (n:=false) (i:=t.1) (ks:=U++(aB ws).take j);rw[if_neg Ig,Hw λz=>(HX.mp nd1).2.2 _ z _ HS rfl]at n1;let n3:=ne_str (ε:=[some<|aK c S,some<|aT R,some<|.str g,some<|.int m,some<|.str "ways",some<|tb jX,some<|Nt (gn R),some<|.int t.1,o8.a,o9.a,some<|rw c0r,some<|rw dL,some<|.str (Yf "h"<|ws.take j)]) (ra:=e2E (e2E (rV 6)<|rV 7)<|rC (.int 0)) (rb:=rV 12) (x:=t.2.1) ⟨⟨rfl,rfl,.k v1 kI⟩,rfl,.t rfl⟩ rfl;rw[Hw λz=>z<|W.pt ws hw j t hj]at n3;show#[_,1,_,.nx (d93 (.f #[2,n1]<|.f #[2,e9p (by rw[v1];rfl)] n3))<|.nx #[1,by rw[Hl];rw[HE,IN]at ul;lia,.z rfl] #[#[#[2,.k v1 kI],1,.t rfl],1],.fz<|.int t.1,?_];rw[aW hn,<- Ik,show rw (U++(aB ws).take j++[t.1])=.lst ((U++(aB ws).take j).map .int++[.int t.1]) from congrArg D.lst Hx,show Yf "h" (ws.take<|j+1)=t.2.2.1 by rw[aW hj];simp[Yf]];rfl
 ·let#[o7,he]:=J';rw[Iu,Jf (by unfold aB;rw[Hl];show Hz _),<- W.fin ws hw]at he;subst he;let r5:=ne_str (ε:=[some<|aK c S,some<|aT R,some<|.str g,some<|.int m,some<|.str "ways",some<|tb jX,some<|Nt (gn R),o7.a,o8.a,o9.a,some<|rw (U++aB ws),some<|rw dL,some<|.str g]) (ra:=rV 12) (rb:=rV 2) rfl rfl;rw[Hw λz=>z rfl]at r5;show#[_,.f r5 rfl,nJ]
universe e
def c4p (f:Nat->Int)(h:j<m):((List.range m).map f).getD j 0=f j:=bX (by rw[Hy,Kb h];rfl)
def b0k:∀ (l:List (Int×Int))(b:Ξ),b.length=m->(∀ j,j<m->e4G 0 % p=e4G 0)->l.foldl vU b=(List.range m).map λj=>(e4G 0+(l.map λz=>z.1 * (col z.2).getD j 0).sum) % p:=by
 intro r'
 induction r' with
 | nil=>
  intro b hb h;show (Mx.Ol b m hb).symm.trans (Ia λe8R=>?_);rw[Jg,List.sum_nil,Int.add_zero,h j<|IB.mp hj]
 | cons z l ih'=>
  intro b hb h;rw[JR,ih' _ (by unfold yj;simp) λe8R=>by unfold yj;rw[c4p _ hj,Int.emod_emod]];ext d7G;unfold yj;rw[c4p _<|IB.mp hj,Int.emod_add_emod,HL,List.sum_cons,Int.add_assoc]
def c0q:∀ {l:List α}{x:α},l.find? p=!x->∃ i:Nat,l[i]?=!x/\(∀ j y,j<i->l[j]?=!y->p y=false)/\p x=true:=by
 intro l
 induction l with
 | nil=>intro x h;cases h
 | cons y l ih=>
  intro x h;rw[JF]at h
  cases hy:p y with
  | true=>rw[hy]at h;cases h;show#[(0),1,λj y h=>absurd h<|JQ _,hy]
  | false=>
   rw[hy]at h;let#[i,xu]:=ih h;show#[i+1,h1,λj z hj hz=>?_,h3]
   cases j with
   | zero=>cases hz;show hy
   | succ j=>show h2 j z #[] hz
theorem vQ (R)(col)(g:Str):Θ:=(dP R g).map col
section
variable {S:NS}{p:Int}{m:Nat}{pl:List bx}
theorem lV (S:NS)(p)(pl:List bx)(m)(k:Int):Ξ:=dD p kW none yZ m k
def WN.key (c7U):(R.map (·.1)).Nodup:=W.ln.asc.imp λz=>Int.ne_of_lt z
def WN.WV (c7U)(h:r∈R):(r.1,bt S r.2.1)∈ai S:=by rw[<- W.ln.LK]at h;let#[uP]:=Ht.mp h;show W.mem ht
def WN.row (c7U)(d1k)(hr:r∈R):GS∈pl/\((bF pl r.1).length:Int)=Be m (bt S r.2.1)/\WQ p (bF pl r.1)/\(bF pl r.1).length<=1000:=by
 let#[q,Ab]:=G.row _<|W.WV hr;let e:bF pl r.1=q.2:=by unfold bF;rw[h1];rfl
 let e1:=HR<|Jj (p:=λx:bx=>decide _) h1;rw[e];show#[by rw[<- e1];show Iw h1,h2,h3,h4]
def WN.rows (c7U)(c9v)(p1)(m1:m<=100)(d1k)(pnd:(pl.map (·.1)).Nodup):b86 R ord pl m p A6:=by
 let rl:=W.ln.UH;let row:=λe3I=>W.row (r:=r) G hr;show#[W.key,W.ln.nd,#[0],#[0],hp,pnd,λe3I=>(row r hr).1,λe3I e9v=>?_,λe3I=>(row r hr).2.2.2,λe3I=>by unfold lV dD;simp,λe8S i hi=>?_,λe3I=>?_]
 ·let:=(row r hr).2.2.1 z hz;omega
 ·let#[u,v,uv,yi]:=W.ln.ok t ht;let:=c7 W.ln.nd h2 hi;ext d5M;show Hs (by rw[IT uv,h1])
 ·let#[_,h2,h3,_]:=row r hr;let one:∀ j,(bK (bH p _ pF none yZ []) r.1).getD 0=Mx.dot _ _ % p:=λj=>by
   rw[b8T W.ln.fits<|W.WV hr];let eg:bF kW r.1=bF pl r.1:=by let:=c5F (ř:=pl) W.ln.fits.nd<|W.WV hr;change ((io _ r.1).map (·.2)).getD []=_;rw[this];rfl
   change Mx.M9 p (bF _ r.1) _=_;rw[eg,Mx.Mr]
  let ec:e7W m r.1=(List.range m).map λj=>Mx.dot _ _ % p:=Ia λj _=>one j;rw[ec];by_cases e:r.2.1="h"
  ·rw[e,W.a01]at h2 ⊢;let hl:=Int.ofNat.inj h2;show Eq.trans (Ia λe8R=>?_)<|Mx.Ol (bF pl r.1) m hl;change Mx.dot _ pF % p=_;rw[Mx.N4,Mx.N3 _ _ _ hl];ext d5t;let hm:(bF pl r.1).getD j 0∈bF pl r.1:=dZ #[0];show Jr (h3 _ hm).1 (h3 _ hm).2
  ·ext d7I;rw[b0k _ _ Ĕ λe8R=>by rw[bX<|Kg hj];rfl];ext d7G;ext d5t;rw[bX<|Kg hj,KB];congr 1;change Mx.dot _ ((dP R r.2.1).map _)=_;rw[<- gP,List.zip_map_right,Hv];congr 1;show Ia λe9v=>?_;change z.1 * _=z.1 * (dD _ _ _ _ _ _).getD j 0;rw[b4p hj];rfl
def WN.a7R (c7U)(d0y)(hP)(p1)(m2)(hw:∀ g∈S.Mi,∃ w,e8J 21 m=.inr w)(MW:(S.Mi.length:Int)<=p)(ngh:("h":Str)∉S.Mi):
  ∃ pl,R9 m p yZ pl/\(pl.map (·.1)).Perm nC/\B6 c C [l9,tb P',Td (P'.map (b7 S 21 m))] (aI pl)/\∃ T:Str->Θ,Pb c rD [aK c S,aI pl,nU,.non] (Nt (S.Mi.map λg=>(.inr g,.tup [.str "reads",tb (T g)])))/\∀ g∈S.Mi,tZ p Al (T g) m:=by
 let hO:∀ ks∈P',V1 S (!ks) 21/\∀ g∈S.Mi,∃ w,e7N (some "h") g 21 m=.inr w:=λks hk=>#[W.wok pz<|some ks,by rw[HH.mp hk,<- W.Mt];show hw]
 let lz:S.Mi.length<=S.LO.length:=by unfold NS.Mi;ext d37
 let m1:m<=100:=#[]
 ext d2Y;let a5u:((P'.length * S.Mi.length:Nat):Int)<=p:=by rw[show P'.length=1 from rfl,Nat.one_mul];show MW
 let M:=W.make hP hO a5u p1 #[] (by rw[show P'.length=1 from rfl];lia) ĺ #[];let e:P'.map (b7 S 21 m)=bv S mF 21 m P':=by unfold b7 bv;rw[W.Mt]
 let pm:=e4s (l:=cq p m P' (Mk.LQ<|e73 P') (ai S) (ai S).length);let G:=W.good hP M.Wo #[];let tz:∀ g,(S.into g).length<=100:=λg=>by
  rw[W.ln.into];unfold dP;rw[Hl];let:=e4C R;let:=W.ln.UH
  lia
 let hT:∀ (n:Nat) x,(ai S)[n]?=!x->bF _ x.1=Mk.LW p m (Mk.LQ<|bv S mF 21 m P') (Mk.stN p m P' (Mk.LQ<|e73 P') (ai S) n) x:=λn e1h=>by unfold bF;rw[W.told n x hx];rfl
 show#[_,G,(pm.map _).trans ?_,by rw[e];show .mk M,?_]
 ·rw[eQ];show (W.ln.LV.map _).trans ?_;rw[Hv,<- W.ln.LK,Hv];show .refl _
 generalize UD (λr:Int×List Int=>r.1) _=pl at G hT;let all:∀ g∈S.Mi,¬ (Om p (Mx.joined<|e3B g) m).length<m/\∃ T,fP p (e3B g) m=.tup [.str "reads",tb T]/\tZ p (vQ R (e7W m) g) T m:=λg hg=>by
  let e:vQ R A6 g=e7X g:=by unfold vQ dg;rw[W.ln.into];rfl
  rw[e];rcases b8N hP (zZ #[] (tz g) m1).1 with h|⟨v,hS⟩
  ·show h
  ·show (W.reads hP hO a5u (c:=0) rfl (λk=>rfl) (λn e1h=>by rw[<- hT n x hx];unfold bF;rw[c5F W.ln.fits.nd<|Hs hx];rfl) hg (λz=>ngh<|z▸hg) hS).elim
 let:∀ g,∃ T,g∈S.Mi->fP p (e7X g) m=.tup [.str "reads",tb T]/\tZ p Al T m:=λg=>by
  by_cases h:g∈S.Mi
  ·let#[_,T,hT]:=all g h;show#[T,λ_=>hT]
  ·show#[[],λa=>(h a).elim]
 show#[λg=>Classical.choose<|this g,?_,λg hg=>(e4u hg).2];let h:=Pb.mk (c:=c) (W.a77<|by lia) hP p1 G m1 #[] W.ln.XO (λe8S=>HA<|W.mem ht) λg hg=>(all g hg).1;rw[<- Ia λg hg=>by rw[<- (e4u hg).1]];show h
def WN.is (c7U)(d1k)(pm:(pl.map (·.1)).Perm nC):He b5Z ņ:=by
 show .mk pm W.ln.asc W.ln.UH λe3I=>?_;let#[Ab]:=W.row G hr;show#[h1,Int.ofNat.inj (h2.trans ?_),h4,h3];by_cases e:r.2.1="h"
 ·rw[if_pos e,e,W.a01];rfl
 ·ext d7I;rfl
def a1S (h:¬ ∀ g∈S.Mi,∃ w,e8J N m=.inr w):∃ g ns,B8 S m N P' [] g ns:=by
 show let q:=λg=>not (e8K N m).isRight;?_;let qf:∀ g,q g=false->∃ w,bb (aP S.LK<|some []) (S.Mt.map (·.1)) g N m=.inr w:=λg h=>by
  cases e:bb _ _ g N m with
  | inr w=>show#[w,1]
  | inl ns=>have:b4W=false:=h;ext d5y;ext d3Q
 cases hf:S.Mi.find? q with
 | none=>show (h λg hg=>qf g<|Bool.eq_false_iff.mpr (e9m g hg)).elim
 | some g=>
  let#[n,wO]:=c0q hf;let k3:b4W=true:=k3
  cases e:e8K N m with
  | inr w=>rw[e]at k3;cases k3
  | inl ns=>show#[g,ns,.mk rfl k1 e (λj x hj hx=>qf x<|k2 j x hj hx) λj _ hj=>absurd hj<|JQ _]
def b0p (c7x):aP ts (![])=ts:=KK.mpr λ_ _=>rfl
def WN.cut (c7U)(O:V1 S (![]) N)(m2)(e:bb b3t mF g N m=.inl ns):B7 b5Y ņ:=by
 rw[b3v]at e
 cases hw:dG _ _ g N m [] with
 | inr U=>ext d7F
 | inl XQ=>
  rw[hw]at e
  cases e;let#[i,V,q,hi,_,_,C,hl]:=(e4v m [] 0 (lQ _ "h" g) Jt).2 _ hw;let ek:=C.ks;rw[b0p]at ek;let et:R.map (·.1)=S.LK.map (·.1):=by rw[<- W.ln.LK,Hv];rfl
  let sb:ns.Sublist nC:=by rw[ek,et];show List.filter_sublist.map _
  let rl:=W.ln.UH;show .mk #[] m2 (W.ln.asc.sublist sb) (λe7e=>sb.subset hk) #[] C.hh (λe3I hn hq=>?_) C.hg;rw[<- W.ln.LK]at hr;let#[uP]:=Ht.mp hr
  cases h:q t.2.2.1 with
  | true=>rfl
  | false=>
   show (hn ?_).elim;rw[ek];show Ht.mpr #[t,HN.mpr #[ht,?_],1];let hq:=hq;unfold zF;rw[hq,h];rfl
def WN.ways (c7U)(d0y)(m1:1<=m)(m2)(hg:g∈S.Mi)(e:e8J 21 m=.inr w):m9 c vg ņ:=by
 let O:=W.wok pz none;let ew:=e;rw[W.Mt,b0p,b3v]at e
 cases hw:dG S.LK _ g 21 m [] with
 | inl ks=>ext d7F
 | inr U=>
  rw[hw]at e;let F:=((e4v m [] 0 (lQ _ "h" g) Jt).1 _ hw).1;rw[KB]at F;let#[rk,hr,hN]:=O.parts.rk;let#[Ng,Ab]:=a47 O.parts.nd hr hN m _ F;let e:=(Sum.inr.inj e).symm.trans h1;rw[e,b0p]at ew;let rl:=W.ln.UH;show .mk O hg m1 #[] #[] ew h2 #[h4,λws hw e8S=>?_,λws hw=>(zT<|h3 ws hw).1,λws hw=>(zT<|h3 ws hw).2,W.key,#[]];rw[<- W.ln.LK];show Ht.mpr #[t,(HN.mp<|(h3 ws hw).sub t ht).1,1]
universe e
theorem NS.cut (S:NS)(k:Int):NS:={ S with LK:=S.LK.filter λt=>decide (t.1≠k) }
def zU {H:Hp}{k:Int}:∀ {ķ:ξ}{ts:List Mv},f1L ķ ts->((cC ķ ud).isSome=true ↔ k∈ts.map (·.1)):=by
 intro ķ ts h
 induction h with
 | nil=>simp[cC]
 | @cons kv t ķ ts a r ih=>
  let e:=a.1;by_cases h:t.1=k
  ·rw[jY<|by rw[e,h]];simp[h]
  ·rw[jZ (by rw[e];show λz=>h<|Sum.inl.inj z),ih];simp[Ne.symm h]
def lS {H:Hp}{k:Int}:∀ {ķ:ξ}{ts:List Mv},f1L ķ ts->f1L (gq ķ ud) (ts.filter λt=>decide (t.1≠k)):=by
 intro ķ ts h
 induction h with
 | nil=>show .nil
 | @cons kv t ķ ts a r ih=>
  unfold gq at ih ⊢;rw[IK,IK];let e:=a.1;by_cases c:t.1=k
  ·rw[if_neg (by rw[e,c];simp),if_neg<|by simp[c]];show ih
  ·rw[if_pos (by rw[e];show Hu λz=>c<|Sum.inl.inj z),if_pos<|Hu c];show .cons a ih
inductive jy (c:Cl)(c84):Prop
 |mk (n dp dt:Addr) (S:NS) (k:Int):vs=[.ref n,.int k]->MA c H n dp dt S->k∈S.LK.map (·.1)->(∀ H',Ut dt H H'->MA c H' n dp dt (S.cut k)->Q .non H')->jy c vs H Q E
def c1P:au á á (aa GX):=PD
def b4r [Bx:Bd](O)(MP:MR 1 "is_whole" ý b4g):Tm 2 "cut_tie" "Net.cut_tie" GX á (jy c):=by
 ext d27;show F.k c1P λe2v=>?_
 ·let#[x8,S,k,1,N,hk,q]:=h;ext d7h;show#[_,(ag (dJ (d9f ww (iy<|bA (be MP hr.m rfl<|e6g K')) (cH<|a0E (BG Ba BC<|rS Bx.K lr rfl)))
  qU
  MQ)
 (ak<|aw (wC Ŵ BC #[4]))),?_]
  let hs:=(zU hp).mpr hk;show#[_,1,k,vb,jH ?_];show#[jN,h1,wW,1,dt,_,1,Pw.k (k:=Sum.inl k) hd,QJ];rw[hs];show jH ?_;let#[v,hv]:=IS.mp hs;show#[Bs,h1,wW,1,dt,1,.inl #[ķ,.inl hd],_,1,ķ,Sum.inl k,v,hd,1,hv,?_];let b1:Ut dt H (upd H dt<|.dK (gq ķ<|Sum.inl k)):=λa o na ha=>by rw[a9 na];show ha
  show q _ b1 ?_;let#[_,#[kp,h2,p2],_,h4]:=N;let Ti:∀ {v:V}{q:Str×Kd},e6y q->Nj c _ v q:=λJ'=>by let#[yT,hb]:=J';show#[yT,f1M Sc hb]
  let UK:∀ {v:V}{t:Mv},f05 t->NC _ v t:=λJ'=>by let#[b,eb,hb]:=J';show#[b,eb,f1M Sc hb]
  show#[#[dx,f1M b6j h1],#[kp,f1M h4 h2,Paired.O2 p2 λe2s=>(by let#[x,y]:=J';show#[x,Ti y])],#[_,ae,Paired.O2 (lS hp) λe2s=>(by let#[x,y]:=J';show#[x,UK y])],h4]
structure yQ (nl:η)(d0L):Prop where
 nd:(ps.map (·.1)).Nodup
 eq:∀ x,x∈ps.map (·.1) ↔ x∈nl
 XO:nl.Nodup
 zero:nl[0]?=!("h":Str)
 house:∀ q∈ps,q.1="h" ↔ SV q.2=false
 len:ps.length<=20
def yQ.of {qs:List (Str×Kd)}(e:ps.map (·.1)=xs)(h:∀ q∈ps,SV q.2=true)(nd:(("h":Str)::xs).Nodup)(p:qs.Perm (("h",Kd.house)::ps))(l:xs.length<=19):yQ ("h"::xs) qs:=by
 let pm:=p.map (·.1);rw[HL,e]at pm;let pl:=p.length_eq;rw[I0,<- Hl (as:=ps),e]at pl;show#[pm.nodup_iff.mpr nd,λx=>pm.mem_iff,nd,1,λe9t=>?_,#[0]];rcases HK.mp (p.mem_iff.mp hq) with rfl|hq
 ·show#[λ_=>rfl,λ_=>rfl]
 ·rw[h q hq];show#[λz=>((Ii.mp nd).1 (by rw[<- z,<- e];show HA hq)).elim,nofun]
structure R8 (nl:η)(S:NS)(d0x):Prop where
 LO:yQ nl S.LO
 LK:S.LK.map (λt=>vM)=R
 up:∀ r∈R,∃ u v:Nat,u<v/\nl[u]?=!r.2.1/\nl[v]?=!r.2.2
 asc:(R.map (·.1)).Pairwise (·<·)
 YM:∀ r∈R,0<=r.1/\r.1<S.next
 nx:0<=S.next
def b4Q:∀ {R:List LT}{j:Nat}{r:LT},(R.map (·.1)).Nodup->R[j]?=!r->(R.filter λx=>decide (x.1≠r.1))=R.eraseIdx j
 | x::R,0,r,nd,h=>by cases h;rw[IK,if_neg<|by simp,List.eraseIdx_zero,List.tail_cons];show KK.mpr λe3D=>Hu λe=>(Ii.mp nd).1 ?_;change x.1∈_;rw[<- e];show HA hy
 | x::R,j+1,r,nd,h=>by let#[n1,n2]:=Ii.mp nd;rw[IK,if_pos<|Hu (show x.1≠r.1 from λe=>n1 (by change x.1∈_;rw[e];show HA<|Hs (i:=j) h)),List.eraseIdx_cons_succ,b4Q n2 h]
def b0E (S:NS):S.Mi.length<=S.LO.length:=by unfold NS.Mi;ext d37
def R8.MW (L):S.LK.length=R.length:=by rw[<- L.LK,Hl]
def R8.inR (L)(d0f):vM∈R:=L.LK▸HA (f:=λt:Mv=>vM) ht
def R8.no (L)(v0:0<v):nl[v]?≠!("h":Str):=λh=>by
 let:=e98 h L.LO.zero
 lia
def R8.wn (L)(m6:nl.length<=20)(rl:R.length<=40):WN S "h" nl R:=by
 let hh:=(L.LO.eq _).mpr<|Hs L.LO.zero;show⟨⟨L.LO.nd,λx=>(L.LO.eq x).mp,L.LO.XO,L.LO.zero,L.LK,λe3I=>?_,L.up,L.asc,m6,rl⟩,?_,hh,λe8S z=>?_,λe8S=>(L.YM _<|L.inR ht).1⟩
 ·let#[u,v,h1,zh]:=L.up r hr;show#[(L.LO.eq _).mpr<|Hs h3,(L.LO.eq _).mpr<|Hs h4]
 ·unfold NS.Mt
  cases hf:S.LO.find? λp=>not (SV p.2) with
  | none=>
   let#[q,hq,e]:=Ht.mp hh;show (e9m q hq (by rw[(L.LO.house q hq).mp e];rfl)).elim
  | some q=>
   let h2:=Jj hf;show congrArg some ((L.LO.house q<|Iw hf).mpr<|by simpa using h2)
 ·let#[u,v,uv,_,hv]:=L.up _<|L.inR ht;show L.no #[] (hv.trans<|congrArg some z)
def R8.Mt (L):("h":Str)∉S.Mi:=λh=>by
 let#[q,hq,e]:=Ht.mp h;let#[yi]:=HN.mp hq;let:=(L.LO.house q h1).mp e;let#[x,k]:=q
 cases k with
 | house=>cases h2
 | post=>ext d3Q
 | listener=>ext d3Q
def R8.Om (L)(hy:nl[i]?=!y)(h:ji S.LK y z):∃ j:Nat,i<=j/\nl[j]?=!z:=by
 induction h with
 | refl=>show#[i,Hz _,hy]
 | step ht _ ih=>
  let#[j,ij,hj]:=ih;let#[u,v,uv,hu,hv]:=L.up _<|L.inR ht;let:=e98 hu hj;show#[v,#[],hv]
def R8.Vb (L){u:Nat}(d0j):
  R8 nl kM zS/\¬ ji S.LK y x/\∀ p∈S.LO,p.1=y->SV p.2=true:=by
 let nx:=L.nx;show#[#[L.LO,?_,λe3I=>?_,?_,λe3I=>?_,by change 0<=S.next+1;lia],λz=>?_,λf0z z=>?_]
 ·unfold NS.Vb;rw[Hx,L.LK];rfl
 ·rcases HW.mp hr with hr|hr
  ·show L.up r hr
  ·rw[HH.mp hr];show#[u,v,uv,hx,hy]
 ·rw[Hx,List.pairwise_append];show#[L.asc,e5N _,λe6Z=>?_];let#[r,hr,1]:=Ht.mp ha;rw[HH.mp hb];show (L.YM r hr).2
 ·change 0<=r.1/\r.1<S.next+1;rcases HW.mp hr with hr|hr
  ·let:=L.YM r hr;lia
  ·rw[HH.mp hr];show#[nx,#[]]
 ·let#[j,yi]:=L.Om hy z;let:=e98 hx h2
  lia
 ·cases hb:SV p.2 with
  | true=>rfl
  | false=>show (L.no #[]<|hy.trans (congrArg some<|z.symm.trans ((L.LO.house p hp).mpr hb))).elim
def R8.cut (L)(h:R[j]?=!r):R8 nl (S.cut r.1) (R.eraseIdx j)/\r.1∈S.LK.map (·.1):=by
 let sb:=List.eraseIdx_sublist R j;show#[#[L.LO,?_,λe1h=>L.up x<|sb.subset hx,L.asc.sublist<|sb.map _,λe1h=>L.YM x<|sb.subset hx,L.nx],?_]
 ·rw[<- b4Q (L.asc.imp λz=>Int.ne_of_lt z) h,<- L.LK,List.filter_map];rfl
 ·let:=Hs h;rw[<- L.LK]at this;let#[uP]:=Ht.mp this;show Ht.mpr #[uP]
def qy (h:H d=none)(d00)(b:Ut d G G'):gR H G':=λa o ha=>b a o (aj ha h) (e _ _ ha)
theorem R1 (G:Hp)(l:Addr)(R):Prop:=∃ xs,G l=!.lst xs/\Paired (λv (r:LT)=>∃ b,v=.ref b/\G b=!.tup b3D) xs R
def R1.keep (e1:∀ xs,G l=!.lst xs->G' l=!.lst xs)(e2:∀ b xs,G b=!.tup xs->G' b=!.tup xs)(h:R1 G l R):R1 G' l R:=let ⟨xs,a,b⟩:=h;#[xs,e1 _ a,Paired.O2 b λe2s=>(by let#[x,y,z]:=J';show#[x,y,e1x z])]
def R1.mono (d2l)(h:R1 G l R):R1 G' l R:=h.keep (λ_=>e _ _) λ_ _=>e _ _
def MA.a0c (N:e5R S)(h:G l=!.lst xs):MA c (upd G l o) n dp dt S:=by
 let#[BN,h4]:=N;let k:∀ {b:Addr}{u:HO},G b=!u->(∀ ys,u≠.lst ys)->upd G l o b=!u:=λhb hu=>by rw[a9<|bz hb h (hu _)];show hb
 show#[#[dx,k h1 λ_ z=>nomatch z],#[kp,k h2 Ĵ,Paired.O2 p2 λe2s=>(by let#[x,b,y,e,z]:=J';show#[x,b,y,c6i])],#[kt,k h3 Ĵ,Paired.O2 p3 λe2s=>(by let#[x,b,e,z]:=J';show#[x,b,c6i])],h4]
def a6n (h:R1 G l R):DR G (.lst (R.map gI)) z8:=by let#[xs,a1,a2]:=h;show#[l,xs,1,a1,b4x a2 λv r _ J'=>(by let#[b,e,hb]:=J';show#[b,_,e,hb,Av,2,_,_,3])]
def GW {nl:η}{k:Nat}(h:nl[k]?=!x):RV uH (k:Int)=!.str x:=fG (by rw[Hy,h];rfl)
def Loc (K){D:Ends}{u:Nat}(sn:σ[jn]?=!some (d9G n))(st:σ[jt]?=!some (d9G tl))(so:σ[jo]?=!some (d9G Ln))(h1:∀ H Q,f0u H->t1 σ H Q)(h2:∀ H Q,f0v H->t2 σ H Q)(N:e5R S)(T:R1 G tl R)(L)(hL:G Ln=!.lst uH)(d0j)(rl:R.length<=39)(lnt:Ln≠tl)(k:∀ G',(∀ b o,b≠n->b≠dt->b≠tl->G b=!o->G' b=!o)->e5q kM->R1 G' tl zS->R8 nl kM zS->G' Ln=!.lst uH->e6q G'):
  vR (tBM K "list" ko (cP jt) (cE (D1 (cE (mj c.MJ "tie" (jw c) [.int 1] E0 (cP jn) a6M) a6M)) ju)) D σ G:=by
 let#[L2,nl',thr]:=L.Vb uv hx hy;let#[dx,hN]:=id N.ins;let#[ts,Yp,_]:=id T;let#[kt,ht,_]:=id N.LK;let MW:=L.MW;show#[_,st,.inl #[1,_,Ma.of Yp],_,sn,n,jT,hN,1,_,so,h1 _ _ #[Ln,Lq,2,Ma.of hL,GW hx,_,so,h2 _ _ #[Ln,Lq,2,Ma.of hL,GW hy,?_]]];show#[n,dp,dt,S,_,_,(1),1,N,(L.LO.eq _).mpr<|Hs hx,(L.LO.eq _).mpr<|Hs hy,λe8S=>(L.YM _<|L.inR ht).2,thr,nl',by decide,by decide,#[],λH9 b9 N9=>?_];let k9:∀ {b:Addr}{xs:π},G b=!.lst xs->H9 b=!_:=λh=>f1N b60 b61 h;let T9:=T.keep (λ_=>k9) λf2s=>f1N b60 b61 h;let hL9:=k9 hL;show#[_,so,h1 _ _ #[Ln,Lq,2,Ma.of hL9,GW hx,_,so,h2 _ _ #[Ln,Lq,2,Ma.of hL9,GW hy,(by change 3<=sizeLine;decide),λT' RK Xy h10 hT=>?_]]];let#[a3c,VP,a4M]:=T9.mono Xy;let RM:=Paired.length a4M;show#[tl,a3c,_,2,VP,(by let:sizeLine=2 ^ 24:=rfl;lia),k _ (λb o n1 n2 n3 hb=>by rw[a9 n3];show Xy _ _<|f1N n1 n2 hb) ((N9.mono Xy).a0c VP) ⟨_,ae,Paired.QI (Paired.O2 a4M λe2s=>(by let#[x,y,z]:=J';show#[x,y,by rw[a9<|bz z VP (λz=>nomatch z)];show z])) #[T',1,by rw[a9<|bz hT VP (λz=>nomatch z)];show hT]⟩ L2 (by rw[a9 lnt];show Xy _ _ hL9)]
theorem NT:η:=["b","a","ab","c","ba","d","abc"]
def b4w:∀ k,k<7->gJ (NT.getD k "")=true/\NT.getD k ""∉NT.take k/\(NT.getD k "").length<=1000/\NT.take (k+1)=NT.take k++[NT.getD k ""]/\NT[k]?=!NT.getD k ""/\(("h":Str)::NT.take (k+1)).Nodup:=by decide +kernel
theorem ZW (xs:η)(d0L):Prop:=ps.map (·.1)=xs/\∀ q∈ps,SV q.2=true
def ZW.add (h:ZW xs ps)(hk:SV k=true):ZW (xs++[x]) (ps++[(x,k)]):=by
 show#[by rw[Hx,h.1];rfl,λe9t=>?_];ext d8o
 ·show h.2 q hq
 ·simp_all
def uS (l:ps.length<=19)(ll:X0 k=true->(NS.Mi yp).length<=7)(hk:SV k=true\/∀ q∈ps,SV q.2=true)(hx:gJ x=true)(nx:x∉ps.map (·.1)):FW yp x k:=by
 show#[hx,nx,λJ'=>?_,?_]
 ·let#[z1,z2]:=J';rcases hk with hk|hk
  ·rw[hk]at z1;cases z1
  ·let#[q,hq]:=IS.mp z2;let h2:=Jj hq;rw[hk q<|Iw hq]at h2;cases h2
 ·unfold GF;rw[Hw<|show ¬ 20<=ps.length by lia,Bool.false_or]
  cases hr:X0 k with
  | false=>rfl
  | true=>show Hw (by let:=ll hr;lia)
theorem a7o (r:LT):List vm:=[.inl r.1,.inr r.2.1,.inr r.2.2]
def b2w (h:e3e l m)(k:∀ a b,F a b->G a (g b)):Paired G l (m.map g):=by
 induction h with
 | nil=>show .nil
 | cons a _ ih=>show .cons (k _ _ a) ih
def uw (h:e3e l m):∀ k,e3e (l.eraseIdx k) (m.eraseIdx k):=by
 induction h with
 | nil=>show λk=>.nil
 | cons a t ih=>show λk=>match k with
  | 0=>t
  | k+1=>.cons a (ih k)
def a8j (ns)(d0Y):∃ cs:Ξ,kU ł lo hi=cs.map V.int:=by unfold kU;rw[<- Lf,<- JD];show#[_,1]
def a7O (xs:π)(lo hi:Nat):(kU xs (!(lo:Int)) !(hi:Int)).length<=hi - lo:=by
 unfold kU;rw[HT.Q8,HT.Q8,HF,KA]
 lia
def iW (x:Int){k:Nat}(h:0<k):∃ v:Nat,x % (k:Int)=(v:Int)/\v<k:=by let h1:=IW x (show (k:Int)≠0 by lia);let h2:=IJ x (show (0:Int)<k by lia);show#[(x % (k)).toNat,rP]
section
variable {c:Cl}
def c5Y {Q:Ù}(hn:H n=none)(UT:H dx=none)(k:∀ dp dt H2,H dp=none->H dt=none->gR H H2->MA c H2 n dp dt #[[],[],(0)]->Q H2):i8 c [.ref n] (d8W H dx n c.MJ) (λv H2=>v=.non/\Q H2) E0:=
 #[n,dx,1,ae,λdp dt H2 p1 p2 p3 b1 hi hp ht=>#[1,by
  let x1:dp≠n:=λz=>by rw[z,ae]at p1;cases p1
  let x2:dt≠n:=λz=>by rw[z,ae]at p2;cases p2
  let of:∀ {d:Addr},d≠n->upd (upd H dx<|.own n) n (.ins c.MJ dx []) d=none->H d=none:=λ{d} x p=>by
   rw[a9 x]at p;by_cases z:d=dx
   ·rw[z];show UT
   ·rwa [a9 z]at p
  show k dp dt H2 (of x1 p1) (of x2 p2) (λa o ha=>b1 a o (aj ha hn) (by rw[a9<|aj ha hn,a9<|aj ha UT];show ha)) #[#[dx,hi],#[[],hp,.nil],#[[],ht,.nil],p3]]]
inductive iS (K:Ψ)(c:Cl)(c84):Prop
 |mk (a:Addr) (fi:Int) (ns:Ξ):vs=[.int fi,.ref a]->Ma K H a ł->(∀ x H' nl S R,gR H H'->DR H' (.tup [aK c S,aT R,aQ nl]) x->nl.length<=20->R.length<=40->R8 nl S R->Q x H')->iS K c vs H Q E
inductive Ln1 (d01)(d11):Prop
 |mk (kn:Int) (o5 o6 o7:Ç) (ps:List (Str×Kd)):σ=[!.int fi,tM,!.int kn,AI,p9,none]->gR H G->G Ln=!.lst b2B->ZW (NT.take i) ps->MA c G n dp dt ⟨ps,[],0⟩->Ln1 c H fi a Ln n dp dt i σ G
inductive a2j (d01)(kn:Int)(i:Nat)(d0L)(c7R):Prop
 |mk (kd:Kd):σ=[!.int fi,tM,!.int (kn / 2),!.int (i:Int),!.str (NT.getD i ""),!.int (kn % 2),p9,none]->gR H G->G Ln=!.lst b2B->ZW (NT.take (i+1)) (ps++c0t)->MA c G n dp dt ⟨ps++c0t,[],0⟩->a2j c H fi a Ln n dp dt kn i ps σ G
inductive Ln2 (c92)(nl:η)(cs:Ξ)(a Ln n dp dt tl sl:Addr)(d11):Prop
 |mk (o0 o4 o5 o6 o7 o9 Pm OI:Ç) (S:NS) (R:List LT):σ=[o0,tM,o4,AI,!.ref tl,o9,Pm,OI]->gR H G->G Ln=!.lst uH->G sl=!.lst (cs.map V.int)->MA c G n dp dt S->R1 G tl R->R8 nl S R->R.length<=i->Ln2 c H nl cs a Ln n dp dt tl sl i σ G
def c1H:au [c61,"_law_order","_law_kinds",c6A,"_law_heard_by","_law_ties","_law_xs",c27] è (d9i 94):=PD
def c1R [Bx:Bd](c8v)(TF)(RE:MR 1 "_law_stream" b6m (Pr a4Z))(Nr)(MS)(NM)(Nk)(OS:N6 2 c.MJ "cut_tie" á (jy c)):Tk 6 "_law_net" (top 94) è BL:=by
 ext d27;show F.k c1H λe2v=>?_
 ·let#[a,fi,ns,1,hS,q]:=h;let ND:=c1H.nd;show#[_,(ag b6n
   (ag (pS 3 ND<|bV (a8 jB K'))
   (ag (pS 4 ND<|c6 bW lr aJ)
   (ag (e0N (iU rfl T.Ml<|a8 (c6 lD aJ<|c6 bf lr aJ) K') Id
   (ag (pS 6 ND<|MU hr (cO<|da gr (d9v gr)).p (Đ 5))
   (ag (a0G (i:=4) (j:=7) rfl ND rfl rfl ĺ rfl rfl (d83 (c6 bW zA aJ) (c6 bf zA aJ)) rfl)
   (ag (jA (d9f Ww (e1b (Đ 5) dI) (cH<|e1b (Đ 7) dI))
    b3J
    b3K)
   (d8V mm xU)))))
   (ag b34
   (ag (pS 8 ND<|bV K')
   (ag (e0N b0u (pN 0 ND)
   (ag (pS 9 ND<|dF RE hr.m rfl (da (Đ 0)<|da dI LS))
   (ag (pS 10 ND<|e6J (e02 FC<|e8D (Đ 3)) (MU hr (cO<|da dI (da dI LS)).p<|e02 FC dI))
   (ag (pS 11 ND<|e02 FC (d91 3))
   (ak (jA (e3V (Đ 10)<|Đ 11)
    (d8V zE (d95 c06 c07))
    (ak (jA (d9f yI (pT bo (c6 bf c1X aJ) aJ) (dc<|pT (oK (GL kQ)<|C6 hr) zE (bV K')))
     (ak<|aw (bh jF OS hr.m<|a8 (pI (Gw Bx.K) (d9a zE (c6 bf c1X<|f2n boot_len (a8 zE K'))) aJ) K'))
     MQ))))))))
   (d97 (cI<|e5j (d83 zE mm)))))))))),?_]
  obtain⟨m,em,m1,m7⟩:∃ m:Nat,2+fi % 6=(m:Int)/\2<=m/\m<=7:=by let b1:=IW fi (show (6:Int)≠0 by decide);let b2:=IJ fi (show (0:Int)<6 by decide);show#[(2+fi % 6).toNat,rP,#[]]
  ext d3q;let put:∀ {ps:List (Str×Kd)}{x:Str}{kd:Kd}{G:Hp},FW yp x kd->ps.length<=1000->x.length<=1000->gR H G->e5R yp->∀ {Q:VK},(∀ G',gR H G'->Ut dp G G'->e5q #[ps++[(x,kd)],[],(0)]->e21 G')->cR c kd [vy] G Q E0:=λmy l xl eG NG Q q=>
   #[x8,P8,NG,xl,l,my,λG' b N'=>q G' (qy p1 eG b) b N']
  show#[(by change 1<=sizeLine;decide),λLn G2 Qj ZC hLn=>?_];ext d2S;let Ln0:H Ln=none:=e2.free ZC;show#[_,1,fi,(6),2,vY,?_];ext d2S;show#[_,1,fi,DT,(2),fi % 6,2,2+fi % 6,1,rP,?_];rw[em,Il];let pl:∀ {i:Nat}{ps:List (Str×Kd)},ZW (NT.take i) ps->i<=7->ps.length=i:=λ{i ps} h l=>by
   ext d7J;rw[Hl,HF,show NT.length=7 from rfl]at this
   lia
  show tyD (lo:=0) (n:=m) (Ln1 c H fi a Ln n dp dt) #[fi / 6,p9,[],1,e2.trans Qj,hLn,#[1,nofun],N2.mono Qj] ?_ ?_
  ·rintro i σ G him ⟨kn,o5,o6,o7,ps,rfl,eG,Ov,RH,NG⟩;rw[KB];ext d7H;let#[zf,_]:=b4w i #[];let il:=pl RH #[];let ll:=b0E yp;show tP.go (F:=xw) (ε:=[none,none,none,none,none,some<|.int i]) (ML<|ML (ML<|ML (ML<|e2n (TV c9)))) (d:=.str<|NT.getD i "") #[#[#[8],B2],1,.l .lst<|fG (show (NT.map D.str)[i]?=_ by rw[Hy,t5];rfl)] λx Ga ea _ hx=>?_
   cases hx;ext d2S;show#[_,1,kn,(2),2,vY,_,1,kn,(2),2,show (0:Int)<2 by decide,P8,?_];ext d2S;let r1:=f0w (ra:=rV 5) (rb:=rC<|.int 1) rfl rfl;let r2:=f0w (ra:=rV 7) (rb:=rC<|.int 1) rfl rfl;obtain⟨b,hb⟩:∃ b,rOr (λε b=>rO BQ (rV 5) (rC<|.int 1) ε<|.bl b) (λε b=>rO BQ (rV 7) (rC<|.int 1) ε<|.bl b) Ei b:=by
    cases h:decide ((i:Int)=1) with
    | true=>rw[h]at r1;show#[_,.t r1]
    | false=>rw[h]at r1;show#[_,.f r1 r2]
   show#[e4M ps,?_,xw,Ei,b,ML<|ML (ML<|ML (ML<|e2n (ML<|e2n (TV c9)))),hb,λG' e=>?_]
   ·rintro σ G' ⟨kd,rfl,eG',hL,hp',NG'⟩;ext d6z;show#[_,1,.inl #[1,_,Ma.of hL],_,1,Ln,DW,hL,(by rw[Hl,I0,HF];let:sizeLine=2 ^ 24:=rfl;let:NT.length=7:=rfl;lia),xT,_,1,bg eG' Ln0,?_,hp',NG'.a0c hL];rw[ae,t4,<- List.cons_append,Hx];rfl
   ·let e:=ea.trans e;let NG:=NG.mono e;let#[YH,Yx]:=id NG.ins;let Ov:=e _ _ Ov;let#[kp,Wj,_]:=id NG.LO;let fin:∀ {kd:Kd}{σ:St},SV kd=true->σ=[some<|.int fi,some<|.ref a,some<|.ref n,some<|.ref Ln,some<|.int (kn / 2),some<|.int (i:Int),some<|.str (NT.getD i ""),some<|.int (kn % 2),none,none,none,none]->cR c kd [.ref n,.str<|NT.getD i ""] G' (λ_ G2=>e4M ps σ G2) E0:=λhk hσ=>put (uS #[] (λ_=>by let:(NS.mk ps [] 0).LO.length=ps.length:=rfl;lia) (.inl hk) t1 (by rw[RH.1];show t2)) #[] t3 (eG.trans e) NG λG2 e2 b N2=>#[_,hσ,e2,b _ _ wJ Ov,by rw[t4];show RH.add hk,N2]
    show jI b0v b0v
  ·rintro σ G ⟨kn,o5,o6,o7,ps,rfl,eG,Ov,RH,NG⟩;ext d2S;ext d49;let#[xT,_,nd]:=b4w (m - 1) #[];rw[show m - 1+1=m by lia]at nd;let pm:=pl RH m7;show#[oS,1,put (x:="h") (uS #[] (λz=>absurd z<|by decide) (.inr RH.2) (by decide +kernel) (by rw[RH.1];show (Ii.mp nd).1)) #[] (by decide) eG NG λG1 eG1 b1 N1=>?_];ext d2S;let a1D:=f1M wJ Ov;let L0:R8 b8a #[ps++[vX],[],(0)] []:=#[.of RH.1 RH.2 nd (List.perm_append_singleton _ _) (by rw[HF];lia),1,nofun,.nil,nofun,Int.le_refl _]
   let nl2:((("h":Str)::NT.take m).length)=m+1:=by rw[I0,HF,show NT.length=7 from rfl];lia
   generalize b8a=nl at L0 nl2 a1D;show#[(by change 0<=sizeLine;decide),λtl G3 e3 h3 Yp=>?_];ext d2S;let#[cs,ec]:=a8j ns (!1)<|some 17;let cl:cs.length<=16:=by let:=a7O ł 1 17;rw[show ((1:Nat):Int)=1 from rfl,show ((17:Nat):Int)=17 from rfl,ec,Hl]at this;show this
   show#[_,1,(1),1,(17),1,a,_,1,(eG1.trans e3).seq hS,λsl G4 e4 h4 Xh=>?_];rw[ec]at Xh;let tl0:H tl=none:=eG1.free h3;let sl0:sl≠tl:=λz=>by rw[z,Yp]at h4;cases h4
   let lnt:Ln≠tl:=λz=>by rw[<- z,a1D]at h3;cases h3
   let e34:=e3.trans e4;ext d7j;show#[sl,1,#[_,Ma.of Xh],e7a (e4D sl)
    #[mX,_,[],1,eG1.trans e34,e34 _ _ a1D,Xh,N1.mono e34,#[[],e4 _ _ Yp,.nil],L0,Hz _] (λi σ G _ h=>let ⟨_,_,_,_,_,_,_,_,_,_,_,_,_,h,_,_,_,_⟩:=h;Ma.of h) ?_ ?_]
   ·rintro i v σ G ev ⟨o0,o4,o5,o6,o7,o9,Pm,OI,S,R,rfl,eG,Ov,a4C,NG,TG,L,rl⟩;ext d7H;let#[cell,ec,1]:=uT ev;let i9:i<16:=by let:=(Ho.mp ec).1;lia
    show tP.go (F:=xw) (ε:=[some<|.int cell]) (sd1 c9 rfl) (d:=rw (e2q 3)) #[#[3],.mk<|by decide] λx Ga ea _ hx=>?_;let#[xl,us,1,WB,hus]:=hx;rw[iI hus]at WB;ext d2S;let WB:=(j5 WB).2;let sl2:=b1V cell 3;ext d3z
    let dX:∀ {G:Hp},G xl=!(.lst<|(e2q 3).map V.int)->DR G (rw (e2q 3)) (.ref xl):=λh=>#[xl,_,1,h,sY _]
    let aX:∀ {k:Nat},k<3->RV ((e2q 3).map D.int) ((k:Nat):Int)=!(.int<|(e2q 3).getD k 0):=λh=>cM #[];obtain⟨d,ed,d1,d9⟩:∃ d:Int,RV ([1,2].map D.int) ((e2q 3).getD 2 0 % 2)=!.int d/\1<=d/\d<=2:=by
     rcases Int.emod_two_eq ((e2q 3).getD 2 0) with h|h <;> rw[h]
     ·show#[(1),c6e]
     ·show#[(2),c6e]
    obtain⟨u,eu,hu⟩:∃ u:Nat,(e2q 3).getD 0 0 % (nl.length:Int) / d=(u:Int)/\u<nl.length:=by let h1:=IW b8b (show (nl.length:Int)≠0 by lia);let h2:=IJ b8b (show (0:Int)<nl.length by lia);let h3:=Int.ediv_le_self d h1;let h4:=Int.ediv_nonneg h1 (show 0<=d by lia);show#[((e2q 3).getD 0 0 % (nl.length:Int) / d).toNat,rP]
    let#[v,ev',hv]:=iW b8c (show 0<nl.length by lia);show tP.go (F:=Ga) (ε:=a4W) (ML<|ML (ML<|NY (dN<|ea _ _ Ov) (d9z (dX WB)))) (d:=.int (u:Int)) (by rw[<- eu];show#[#[#[2,.l .lst<|aX (k:=0) ĺ],#[#[2],l1],#[#[]]],#[Lb,#[#[2,.l .lst<|aX (k:=2) (by decide)],1,⟨by decide⟩],.l .lst ed],⟨⟨#[],#[]⟩⟩]) λx Gb eb _ hx=>?_
    cases hx;ext d2S;show tP.go (F:=Gb) (ε:=a4W) (ML<|ML (ML<|NY (dN<|eb _ _ (ea _ _ Ov)) (d9z (dX<|eb _ _ WB)))) (d:=.int (v:Int)) (by rw[<- ev'];show#[#[2,.l .lst<|aX (k:=1) (by decide)],⟨⟨rfl,rfl⟩,l1⟩,⟨#[]⟩]) λx Gc ec' _ hx=>?_
    cases hx;ext d6z;let r3:=lt_int (ε:=[none,none,none,none,none,none,none,none,none,none,some<|.int u,some<|.int v]) (ra:=rV 10) (rb:=rV 11) rfl rfl;show⟨_,λσ' G' h=>h,xw,[none,none,none,none,none,none,none,none,none,none,some<|.int u,some<|.int v],_,ML<|ML (ML<|ML (ML<|ML (ML<|ML (ML<|ML (NY rfl<|e2n (TV c9)))))),r3,λG8 e8=>?_⟩;let eG8:=(ea.trans<|eb.trans ec').trans e8;let a4s:=(eb.trans<|ec'.trans e8) _ _ WB;let N8:=NG.mono eG8;let T8:=TG.mono eG8;let a1C:=eG8 _ _ Ov;let Xg:=eG8 _ _ a4C;let e08:=eG.trans eG8;let off:∀ {b:Addr}{o:HO},H b=some o->b≠n/\b≠dt/\b≠tl:=λh=>b5I
    let#[dx8,Xt]:=id N8.ins;let#[kt,ht8,_]:=id N8.LK;show jI Su Su
    ·show Loc Bx.K rfl rfl rfl pJ pJ N8 T8 L a1C (by let:=HR g;lia) (Hm hu) (Hm hv) #[] lnt λG' k' N' T' L' hL'=>?_;show#[_,_,_,_,_,_,_,_,_,_,1,λe0u=>let ⟨n1,n2,n3⟩:=off hb;k' b o n1 n2 n3<|e08 _ _ hb,hL',k' _ _ (bz Xg Xt λz=>nomatch z) (d81 Xg ht8) sl0 Xg,N',T',L',by rw[HE,IN];lia]
    let skip:∀ G',gR G8 G'->e4D sl (i+1) [some<|.int cell,some<|.ref a,some<|.ref n,some<|.ref Ln,o4,o5,o6,o7,some<|.ref tl,some<|.ref xl,some<|.int u,some<|.int v] G':=λG' e=>#[mX,S,R,1,e08.trans e,e _ _ a1C,e _ _ Xg,N8.mono e,T8.mono e,L,#[]]
    let#[YV,Xe,hp8]:=id T8;let RM:YV.length=R.length:=Paired.length hp8;let aV:∀ {k:Nat},k<3->RV ((e2q 3).map V.int) ((k:Nat):Int)=!(.int<|(e2q 3).getD k 0):=λ{k} h=>fG (by rw[Hy,Hm<|by lia];simp[Hq,Hm<|show k<(e2q 3).length by lia]);show⟨_,λσ' G' h=>h,?_⟩;show#[_,1,xl,_,(2),_,2,Ma.of a4s,aV (k:=2)<|by decide,_,(11),2,show (0:Int)<11 by decide,1,_,1,jI (λg1=>?_) λg1=>jH<|skip G8 (gR.refl _)];show⟨_,rfl,Iv _,λe8 G9 e9 h9 he=>#[R.map a7o,[],#[tl,YV,1,Ma.of<|e9o Xe,b2w hp8 λv r J'=>(by let#[b,e,hb]:=J';show#[b,_,e,Oi.of<|e9o hb,.cons rfl<|e4Y (e4Y .nil)])],⟨e8,[],rfl,Ma.of he,.nil⟩,_,1,jI (λg2=>?_) λg2=>skip G9 e9]⟩;let R0:0<R.length:=by
     cases R with
     | nil=>show absurd g2 ĺ
     | cons=>show Nat.succ_pos _
    let#[k,ek,hk]:=iW b8c R0;let#[j,s1,s2,_]:=a9o<|fG (Hm<|show k<YV.length by lia);let#[r,Ys,b,eb,hb]:=Paired.at hp8 s2;let#[L',VS]:=L.cut Ys;let Yo:=e9o Xe;let ebt:b≠tl:=bz hb Xe λz=>nomatch z;let N9:=(N8.mono e9).a0c (o:=.lst<|YV.eraseIdx j) Yo;let kk:∀ {b:Addr}{o:HO},b≠tl->G8 b=!o->upd G9 tl (.lst<|YV.eraseIdx j) b=some o:=λn h=>by rw[a9 n];show e9 _ _ h
    show#[_,1,n,dx8,_,1,e9o Xt,1,_,1,.inl #[1,_,Ma.of Yo],_,1,xl,_,(1),_,2,Ma.of<|e9o a4s,aV (k:=1)<|by decide,_,1,.inl #[tl,YV,1,.inl<|Ma.of Yo,_,_,2,show (0:Int)<YV.length by lia,tl,YV,_,j,_,2,Yo,by rw[RM,ek];lia,by rw[RM,ek];lia,by rw[RM,ek,<- RM];show s1,s2,?_]];show#[b,_,(0),_,eb,1,Oi.of<|kk ebt hb,1,n,dp,dt,S,r.1,1,N9,VS,λH9 b9 N9'=>?_];let k9:∀ {b:Addr}{o:HO},b≠tl->(∀ ks,o≠.dK ks)->G8 b=!o->H9 b=!o:=λn1 n2 h=>f1N (bz h ht8<|n2 _)<|kk n1 h;show⟨_,_,_,_,_,_,_,_,_,_,rfl,λe0u=>let ⟨_,n2,n3⟩:=off hb;b9 _ _ n2<|kk n3 (e08 _ _ hb),k9 lnt (λ_ z=>nomatch z) a1C,k9 sl0 Ĵ Xg,N9',#[_,f1N (d81 Xe ht8) ae,Paired.O2 (uw hp8 j) λe2s=>(by let#[x,y,z]:=J';show#[x,y,k9 (d81 z Xe) Ĵ z])],L',by let:=List.length_eraseIdx_le R j;lia⟩
   ·rintro σ G ⟨o0,o4,o5,o6,o7,o9,Pm,OI,S,R,rfl,eG,Ov,a4C,NG,TG,L,rl⟩;rw[Hl]at rl;ext d6z;show#[c4t,λt G2 Qj ZC ht=>q _ G2 nl S R (eG.trans Qj) #[t,_,1,ht,_,_,1,(NG.mono Qj).dr,_,_,1,a6n<|TG.mono Qj,_,_,1,⟨Ln,_,rfl,Qj _ _ Ov,fB λ_ _=>rfl⟩,1] #[] #[] L]
universe e
theorem SG:Str:="abcdefghijklmnopqrs"
theorem PL:η:=["pa","pb","pc","pd","pe","pf","pg","ph","pi","pj","pk","pl","pm","pn","po","pp","pq","pr","ps"]
def DC:∀ k,k<19->gJ (PL.getD k "")=true/\PL.getD k ""∉PL.take k/\(PL.getD k "").length<=1000/\PL.take (k+1)=PL.take k++[PL.getD k ""]/\PL[k]?=!PL.getD k ""/\(("h":Str)::PL.take (k+1)).Nodup/\("p":Str)++sgn SG k=PL.getD k ""/\(sgn SG k).length<=1:=by decide +kernel
theorem Ct (v i:Nat):Nat:=((List.range i).filter λk=>decide (k % 6=v)).length
def a7S:∀ i,i<19->PL.getD i ""≠("h":Str):=by decide +kernel
def a5C:∀ i,i<19->∀ v,v<6->Ct v i<=7:=by decide +kernel
def a2s (v i:Nat):Ct v (i+1)=Ct v i+(if i % 6=v then 1 else 0):=by
 unfold Ct;rw[List.range_succ,Ju,HE];congr 1;by_cases h:i % 6=v
 ·simp_all
 ·simp_all
section
variable {c:Cl}
inductive Ll1 (c92)(fi:Int)(a Nn Ln n dp dt:Addr)(j v i:Nat)(c7R):Prop
 |mk (o5 o6:Ç) (ps:List (Str×Kd)):σ=[some (.int fi),some (.ref a),some (.ref n),some (.ref Nn),some (.ref Ln),o5,o6,p9,none]->gR H G->G Ln=some (.lst ((("h":Str)::PL.take j).map V.str))->G Nn=some (.lst ((PL.take j).map V.str))->ZW (PL.take i) ps->(ps.filter λp=>X0 p.2).length=Ct v i->MA c G n dp dt ⟨("h",.house)::ps,[],0⟩->Ll1 c H fi a Nn Ln n dp dt j v i σ G
inductive Ef (c92)(nl:η)(cs:π)(a Nn Ln n dp dt tl sl:Addr)(oo:Option V->Prop)(k:Nat)(c7R):Prop
 |mk (o0 o5 o6 o8 o9 Pm:Ç) (S:NS) (R:List LT):σ=[o0,!.ref a,!.ref n,!.ref Nn,!.ref Ln,o5,o6,!.ref tl,o8,o9,Pm]->oo o5->gR H G->G Ln=!.lst uH->G sl=!.lst cs->MA c G n dp dt S->R1 G tl R->R8 nl S R->R.length<=k->Ef c H nl cs a Nn Ln n dp dt tl sl oo k σ G
def b3W:au [c61,"_law_names","_law_order",c6A,"_law_ties","_law_turn",c27] è (d9i 95):=PD
def c0l [Bx:Bd](hn)(c8v)(TF)(Nr)(MS)(NM)(Nk):Tk 6 "_law_long_net" (top 95) è BL:=by
 ext d27;show F.k b3W λe2v=>?_
 ·let#[a,fi,ns,1,hS,q]:=h;let ND:=b3W.nd;show#[_,(ag b6n
   (ag b34
   (ag (pS 3 ND<|iA (Db Bx.K) (dY rfl (cS 1 [] ["_law_sign"]) (DF jB) (λe0m=>pC 0) jO λe0m=>c6 c5X jB<|pv 0) U0 (gA<|c6 lD aJ (c6 bf lr aJ)))
   (ag (pS 4 ND<|c6 b7r (bV<|a8 jB K') mm)
   (ag (e0N (e8I T.Np<|f1C K') (e4h rfl<|af Id (f1q aG))
  (ak (jA (pT bo (c6 bf qt aJ)<|c6 bf (c6 bW lr aJ) aJ)
  b3J
  b3K)))
   (ag (pS 7 ND<|bV K')
   (ag (e0N (iU rfl T.Ml<|a8 (f2n boot_len<|f1C K') K') Id
   (ak (e0N (iU rfl T.Ml<|a8 aJ K') yV
    (d8V xi (d95 c1Y b7U)))))
   (ag (e0N b0u (pN 0 ND)
   (ag (pS 9 ND<|e02 b9G zJ)
   (ag (pS 10 ND<|e02 (Đ 0) zJ)
   (ak (jA (e3V (Đ 9)<|Đ 10)
    (d8V xi (d95 c1Z b3o))
    MQ)))))
   (d97 (cI<|e5j (d83 xi zA))))))))))),?_]
  let#[j0,ej0,hj0]:=iW fi (show 0<7 by decide);let#[v,ev,hv]:=iW (fi / 7) (show 0<6 by decide);obtain⟨j,ej,j13,j19⟩:∃ j:Nat,13+fi % 7=(j:Int)/\13<=j/\j<=19:=#[13+j0,by rw[show fi % 7=(j0:Int) from ej0];lia,#[],#[]]
  ext d3q;let#[YH,Yx]:=id N2.ins;show#[oS,1,x8,P8,N2,c3F,uS ĺ (λz=>absurd z<|by decide) (.inr nofun) (by decide +kernel) nofun,λG1 b1 N1=>?_];ext d2S;let e1:=qy p1 e2 b1;show#[SG,1,b3q (λi=>.str<|PL.getD i "") (by decide) (λi H3 hi e=>?_) (λl0 H3 Yv e3 hl=>?_)]
  ·let#[On,t7,t8]:=DC i hi;show#[_,1,"p",_,2,by let:sizeLine=2 ^ 24:=rfl;let:("p":Str).length=1:=rfl;lia,by rw[t7],gR.refl _]
  let hl:H3 l0=!(.lst<|PL.map V.str):=hl;show⟨_,rfl,fi,7,rfl,rfl,show (0:Int)<7 by decide,13,fi % 7,rfl,rfl,13+fi % 7,rfl,l0,_,rfl,Ma.of hl,λNn G4 e4 h4 hNn=>?_⟩;ext d2S;let ec:kU (PL.map V.str) none (some<|13+fi % 7)=(PL.take j).map V.str:=by rw[ej];unfold kU;rw[HT.Q8,HT.QL,L6,JD,Nat.sub_zero,Nat.min_eq_left (by rw[Hl];show j19)]
  rw[ec]at hNn;show#[(by change 1<=sizeLine;decide),λlh G5 e5 h5 hlh=>#[_,1,lh,Nn,DW,hlh,e5 _ _ hNn,(by rw[Hl,HF,IN];let:sizeLine=2 ^ 24:=rfl;lia),λLn G6 e6 h6 hLn=>?_]];ext d2S;let e16:=e1.trans<|e3.trans (e4.trans<|e5.trans e6);let a5n:=e6 _ _<|e5 _ _ hNn;let Ln0:H Ln=none:=(e1.trans<|e3.trans (e4.trans e5)).free h6;let pl:∀ {i:Nat}{ps:List (Str×Kd)},ZW (PL.take i) ps->i<=19->ps.length=i:=λ{i ps} h l=>by
   ext d7J;rw[Hl,HF,show PL.length=19 from rfl]at this
   lia
  let jl:(PL.take j).length=j:=by rw[HF,show PL.length=19 from rfl];lia
  let#[xT,_,a34,_]:=DC (j - 1) #[];rw[show j - 1+1=j by lia]at a34;show#[_,1,Nn,_,1,a5n,e7P (xs:=(PL.take j).map V.str) (e4N v) #[none,none,[],1,e16,hLn,a5n,#[1,nofun],1,N1.mono<|e3.trans (e4.trans<|e5.trans e6)] (λi σ G _ h=>let ⟨_,_,_,_,_,_,h,_,_,_⟩:=h;Ma.of h) ?_ ?_]
  ·rintro i x T0 σ G ex ⟨o5,o6,ps,rfl,eG,Ov,UW,RH,hc,NG⟩ hT;rw[Hy]at ex;let#[y,ey,1]:=HZ.mp ex;let ij:i<j:=by let:=(Ho.mp ey).1;lia
   let#[zf,_]:=DC i #[];rw[IT ij,t5]at ey
   cases ey;let il:=pl RH #[];let eT:gR G (upd G T0<|.tup [.int i,.str<|PL.getD i ""]):=aY Ě hT;let NG:=NG.mono eT;let Ov:=eT _ _ Ov;let UW:=eT _ _ UW;ext d49;let cc:=a5C i #[] v hv;let lc:(NS.Mi c10).length=Ct v i:=by rw[<- hc];unfold NS.Mi;rw[Hl];rfl
   let nx:PL.getD i ""∉(vX::ps).map (·.1):=by
    rw[HL,RH.1];intro z;rcases HK.mp z with z|z
    ·show a7S i #[] z
    ·show t2 z
   let fin:∀ {kd:Kd}{Qx:VK},SV kd=true->(X0 kd=true ↔ i % 6=v)->(∀ G2,e4N v (i+1) [some<|.int fi,some<|.ref a,some<|.ref n,some<|.ref Nn,some<|.ref Ln,some<|.int i,some<|.str (PL.getD i ""),none,none,none,none] G2->Qx .non G2)->cR c kd [.ref n,.str<|PL.getD i ""] (upd G T0<|.tup [.int i,.str<|PL.getD i ""]) Qx E0:=λ{kd Qx} hk hr k=>#[n,dp,dt,_,_,1,NG,t3,by change (_::ps).length<=1000;rw[I0];lia,uS (by rw[I0];lia) (λ_=>by rw[lc];show cc) (.inl hk) t1 nx,λG2 b N2=>k _ #[_,_,_,1,qy p1 (eG.trans eT) b,b _ _ wJ Ov,b _ _ (d81 UW Wj) UW,by rw[t4];show RH.add (x:=PL.getD i "") hk,by
     change (List.filter _<|ps++[(PL.getD i "",kd)]).length=_;rw[a2s,Ju,HE,hc];congr 1
     cases hb:X0 kd with
     | true=>rw[if_pos<|hr.mp hb,IK,if_pos hb];rfl
     | false=>rw[if_neg (λz=>by rw[hr.mpr z]at hb;cases hb),IK,if_neg (by change ¬ X0 kd=true;rw[hb];show nofun)];rfl,N2]]
   show#[_,λσ' G' h=>h,_,1,(i:Int),DT,_,1,fi,(7),2,vY,fi / 7,DT,vb,jI Su Su]
   ·let g:(i:Int) % 6=fi / 7 % 6:=by simpa using g
    show#[oS,vb,fin rfl #[λ_=>by lia,λ_=>rfl] λG2 h=>h]
   ·let g:¬ (i:Int) % 6=fi / 7 % 6:=by simpa using g
    show#[oS,vb,fin rfl #[Ĺ,λz=>absurd z<|by lia] λG2 h=>h]
  rintro σ G ⟨o5,o6,ps,rfl,eG,Ov,UW,RH,hc,NG⟩;ext d2S;rw[Hl,jl]at RH hc;let pj:=pl RH j19;let L0:R8 b8d c10 []:=#[.of RH.1 RH.2 a34 (.refl _)<|by lia,1,nofun,.nil,nofun,Int.le_refl _]
  let nl2:(("h":Str)::PL.take j).length=j+1:=by rw[I0,jl]
  generalize b8d=nl at L0 nl2 Ov;show#[(by change 0<=sizeLine;decide),λtl G7 e7 h7 Yp=>?_];ext d2S;let tl0:H tl=none:=eG.free h7;let lnt:Ln≠tl:=λz=>by rw[<- z,Ov]at h7;cases h7
  let nnt:Nn≠tl:=λz=>by rw[<- z,UW]at h7;cases h7
  let off:∀ {b:Addr}{o:HO},H b=!o->b≠n/\b≠dt/\b≠tl:=λh=>b5I
  let step:∀ {G8:Hp}{σ:St}{t1 t2:TE}{D:L2.Ends}{S:NS}{R:List LT}{sl:Addr}{cs:π}{u v:Nat},σ[2]?=!(some<|.ref n)->σ[7]?=!(some<|.ref tl)->σ[4]?=!(some<|.ref Ln)->(∀ H Q,f0u H->t1 σ H Q)->(∀ H Q,f0v H->t2 σ H Q)->gR H G8->G8 Ln=!(.lst<|nl.map V.str)->G8 sl=!.lst cs->sl≠tl->MA c G8 n dp dt S->R1 G8 tl R->R8 nl S R->R.length<=39->u<v->v<nl.length->
    (∀ G' S' R',gR H G'->G' Ln=!(.lst<|nl.map V.str)->G' sl=!.lst cs->e5q S'->R1 G' tl R'->R8 nl S' R'->R'.length=R.length+1->e6q G')->vR (tBM Bx.K "list" ko (cP 7)<|cE (D1<|cE (mj c.MJ "tie" (jw c) [.int 1] E0 (cP 2)<|cE b62 (cE b63 ju)) (cE b62<|cE b63 ju)) ju) D σ G8:=by
   intro G8 σ t1 t2 D S R sl cs u v s2 s7 s4 h1 h2 e8 hL hs st N8 T8 L rl uv vl k;let#[dx8,Xt]:=id N8.ins;let#[kt,ht8,_]:=id N8.LK;show Loc Bx.K s2 s7 s4 h1 h2 N8 T8 L hL uv (Hm<|by lia) (Hm vl) rl lnt λG' k' N' T' L' hL'=>k G' _ _ (λe0u=>let ⟨n1,n2,n3⟩:=off hb;k' b o n1 n2 n3<|e8 _ _ hb) hL' (k' _ _ (bz hs Xt λz=>nomatch z) (d81 hs ht8) st hs) N' T' L' (by rw[HE];rfl)
  show#[_,1,.inl #[Nn,_,1,.inl<|Ma.of (e7 _ _ UW),_,1,by rw[Hl,jl];lia,by rw[Hl,jl];lia,?_]];rw[Hl,jl,Il];show tyD (lo:=0) (n:=j) (λi=>e4w tl Nn (λ_=>True)<|2 * i) #[xT,Lq,[],sL,eG.trans e7,e7 _ _ Ov,e7 _ _ UW,NG.mono e7,#[[],Yp,.nil],L0,Hz _] ?_ ?_
  ·rintro i σ G8 hij ⟨o0,o5,o6,o8,o9,Pm,S,R,rfl,_,e8,VU,Xt,N8,T8,L8,r8⟩;rw[KB];show#[(2),1,rP,tyD (lo:=0) (n:=2) (λt=>e4w tl Nn (λo=>o=!.int (i:Int))<|2 * i+t) #[On,S,R,2,c6w] ?_ ?_]
   ·rintro t σ G9 ht ⟨o0,o5,o6,o8,o9,Pm,S,R,rfl,rfl,e8,VU,Xt,N8,T8,L8,r8⟩;show step (u:=i) (v:=i+1) rfl rfl rfl pJ (λf2p=>#[_,1,_,(1),2,q]) e8 VU Xt nnt N8 T8 L8 #[] #[] #[] λG' S' R' e2i=>#[On,S',R',2,AO,a4,a5,a6,#[]]
   ·rintro σ G9 ⟨o0,o5,o6,o8,o9,Pm,S,R,rfl,_,e8,VU,Xt,N8,T8,L8,r8⟩;show#[On,S,R,sL,c6w]
  rintro σ G8 ⟨o0,o5,o6,o8,o9,Pm,S,R,rfl,_,e8,VU,Xt,N8,T8,L8,r8⟩;ext d2S;let#[cs,ec]:=a8j ns (!2)<|some 4;let cl:cs.length<=2:=by let:=a7O ł 2 4;rw[show ((2:Nat):Int)=2 from rfl,show ((4:Nat):Int)=4 from rfl,ec,Hl]at this;show this
  show#[_,1,(2),1,(4),1,a,_,1,e8.seq hS,λsl G9 e9 h9 Xh=>?_];rw[ec]at Xh;let sl0:sl≠tl:=λz=>by let#[ts,h,_]:=T8;rw[z,h]at h9;cases h9
  ext d7j;show#[sl,1,#[_,Ma.of Xh],e7a (λi=>Ef c H nl (cs.map V.int) a Nn Ln n dp dt tl sl (λ_=>True)<|2 * j+i) ⟨_,_,_,_,_,_,S,R,rfl,trivial,e8.trans e9,e9o VU,Xh,N8.mono e9,T8.mono e9,L8,r8⟩ (λi σ G _ h=>let ⟨_,_,_,_,_,_,_,_,_,_,_,_,h,_,_,_,_⟩:=h;Ma.of h) ?_ ?_]
  ·rintro i v σ G ev' ⟨o0,o5,o6,o8,o9,Pm,S,R,rfl,_,e8,VU,hs8,N8,T8,L8,r8⟩;let#[cell,ec,1]:=uT ev';let i2:i<2:=by let:=(Ho.mp ec).1;lia
   ext d3z
   let#[u,eu,hu]:=iW (cell / 20) (show 0<nl.length by lia);let#[v',a9L,hv']:=iW cell (show 0<nl.length by lia);show tP.go (F:=G) (ε:=a91) (NY rfl<|ML (ML<|ML (NY (dN VU)<|TV (gR.refl _)))) (d:=.int (u:Int)) (by rw[<- eu];show⟨⟨rfl,rfl,⟨⟨by decide,by decide⟩⟩⟩,⟨⟨rfl,rfl⟩,l1⟩,⟨#[]⟩⟩) λx Gb eb _ hx=>?_
   cases hx;show tP.go (F:=Gb) (ε:=a91) (NY rfl<|ML (ML<|ML (NY (dN<|eb _ _ VU)<|TV (gR.refl _)))) (d:=.int (v':Int)) (by rw[<- a9L];show⟨rfl,⟨⟨rfl,rfl⟩,l1⟩,⟨#[]⟩⟩) λx Gc ec' _ hx=>?_
   cases hx;let r3:=lt_int (ε:=[none,none,none,none,none,none,none,none,none,some<|.int u,some<|.int v']) (ra:=rV 9) (rb:=rV 10) rfl rfl;show⟨_,λσ' G' h=>h,xw,[none,none,none,none,none,none,none,none,none,some<|.int u,some<|.int v'],_,ML<|ML (ML<|ML (ML<|ML (ML<|ML (ML<|e2n (NY rfl<|TV c9))))),r3,λGd ed=>?_⟩;let eG:=eb.trans<|ec'.trans ed;show jI (λg=>?_) λg=>#[On,S,R,sL,e8.trans eG,f1J VU,f1J hs8,N8.mono eG,T8.mono eG,L8,#[]];show step (u:=u) (v:=v') rfl rfl rfl pJ pJ (e8.trans eG) (f1J VU) (f1J hs8) sl0 (N8.mono eG) (T8.mono eG) L8 #[] (by let:=HR g;lia) hv' λG' S' R' e2i=>#[On,S',R',sL,AO,a4,a5,a6,#[]]
  ·rintro σ G ⟨o0,o5,o6,o8,o9,Pm,S,R,rfl,_,e8,VU,hs8,N8,T8,L8,r8⟩;rw[Hl]at r8;ext d6z;show#[c4t,λt G2 Qj ZC ht=>q _ G2 nl S R (e8.trans Qj) #[t,_,1,ht,_,_,1,(N8.mono Qj).dr,_,_,1,a6n<|T8.mono Qj,_,_,1,⟨Ln,_,rfl,Qj _ _ VU,fB λ_ _=>rfl⟩,1] #[] #[] L8]
universe e
universe K72
namespace L2
open PySem PySem.Spec PySem.Calls PySem.W PyProof.Rows
open PySem.Builtin PySem.Builtin.ObjectAttr PySem.Builtin.Getset_descriptor
section
variable {K:Frag}{D:Addr}
def Ce {os:OsState}(X:K.In h)(hx:h.get? x=!o)(hc:o.cls=.ref D)(hm:mroIn K D zR=!true)(hq:Q () #[h,t6]):e0x (checkBuiltinCall "BaseException.__getattribute__" #[[.ref x,Zf],[]]) Q E #[h,t6]:=by
 let hk:builtinKind "BaseException.__getattribute__"=!.slot:=by decide +kernel
 let a1o:splitId "BaseException.__getattribute__"=!("BaseException","__getattribute__"):=by decide +kernel
 let ha:=F.args_bexc_ga AD Zf;let L1:=looks_mroIn (M:=M) X hm;simp only[checkBuiltinCall,hk,a1o];ext d3U
 ·unfold isInstance;repeat (first|(with_reducible show K4 hx ?_;rw[hc])|with_reducible show L1.at ?_|wp_step)
  show hq
structure EK (d1b)(D:Addr)(f:Str):Prop where
 ga:findIn K qG "__getattribute__"=!some (.builtin "BaseException.__getattribute__")
 gt:findIn K qG "__getattr__"=!none
 mb:mroIn K D zR=!true
 ic:hasDictIn K D=true
 na:findIn K qG f=!none
def a6l (T:f1O D f)(X:K.In s.heap)(I:e3R x o D !od)(hf:findObj K D (!od) name=!.value v)(hh:handedIn v=true)(d0C):
  wpAny Ē A b7a Q E s:=by
 let#[hh',t6]:=s;let hx:=I.at_;let hc:=I.cls;let L0:=I.type (M:=e2y w);let L1:=e5S T.ga;let L2:=e5S T.gt;let L3:=looks_find (M:=e2y w) X I hf;show Hk<|wpAny_mkText (IL<|Hk (L0.at (Hk (L1.at ?_))));ext d3U;show L2.at ?_;show Hk<|Jl (IL ?_);unfold callGetattribute;rw[if_neg (by cases expr <;> simp[onTheHeap])];unfold boundAndCalled;ext d6m;show KN<|Li F.attr_ValueError.ga.plain F.entry_bexc_ga (Ce X hx hc T.mb ?_);repeat (any_goals (first|assumption|(with_reducible show K4 hx ?_;rw[hc])|with_reducible show L3.at ?_|wp_step))
 change wpAny _ _ (handedOut v) _ _ _;rw[handedOut_of hh];show Hr h
universe e
def a1r {D:Addr}(I)(he:H ea=!jJ ea qG dx)(hx:H dx=!.xd fs)(T:EK X.K D f)(c8M):e2w (getAttr za f b) Q E s:=by
 let#[o,ws,ho,hc,hd,hdi,_]:=id<|(e7T he).1;let#[mA,WG,r]:=id<|I.LY dx _ hx;let#[od,Uv,hl]:=sR WG;let J:e3R ea o D !od:=#[ho,hc,by unfold notCls;rw[hd],by rw[hdi];show Uv]
 ext d5g;show a6l T I.Oh J (findObj_own T.ic T.na rfl<|by rw[hl,hu]) (tj ru) (h u _ Fn ru)
inductive b43 (d1b)(f:Str)(c8e):Prop
 |mk:∀ ea D dx fs v,x=.ref ea->H1 ea=!jJ ea qG dx->H1 dx=!.xd fs->EK K D f->fs.lookup f=!v->Q v H1->b43 K f Q x H1
theorem YY (d1b)(ta)(f):TE:=λe0i=>ta σ H λe3C=>b43 K f Q x H1
def b11 (c7j):e80 (YY X.K ta f):=by ext d2y;show a52 hb DO;let#[Ai,rx,ea,D,dx,fs,v,ex,yi,T,l,q]:=J';subst ex;obtain rfl:u=Value.ref ea:=rx;show a1r I1 h1 h2 T l λu' s2 I2 ru=>#[v,H1,I2,ru,q]
def pZ (d1b)(c7j)(h):e80 (YY K ta f):=h▸b11 he hb
universe L2
namespace K72
open PySem L2 L2.Wy
open PyProof.Rows (boot_all boot_bool boot_dict boot_int boot_list boot_sorted boot_str boot_tuple)
theorem zOf:Option D->Sl
 | none=>.un
 | some d=>.fz d
def Sd.ss (c7N):Ss F H F σ H (ε.map zOf):=by
 let old:∀ {i:Nat}{s:Sl},(ε.map zOf)[i]?=!s->∃ o,ε[i]?=!o/\zOf o=s:=λq=>by
  simp_all
 show#[gR.refl _,S.le,gR.refl _,ao S.le,by simpa using S.len,c55];all_goals
  let#[o,yi]:=old q
  cases o with
  | none=>cases h2
  | some d'=>cases h2 <;> show S.rd i _ h1
def a7L (h:f1a r):f1o (λE e3s=>∃ F0 H0,tQ F0 H0 r E σ H):=λe1i D I J'=>by let#[F0,H0,q]:=J';show h F0 H0 ñ s σ H D I q
instance Qp.one (h:Qp H dx [(a,x)]):∃ u,H dx=!.xd [(a,u)]/\DR H x u:=by
 let#[ys,hd,hp]:=h
 cases hp with
 | cons h1 t=>
  cases t;rename_i y;let#[n,u]:=y;let#[e,d]:=h1
  cases e;show#[u,hd,d]
instance Qp.three (h:Qp H dx [(a,x),(b,y),(c,z)]):∃ u v w,H dx=!.xd [(a,u),(b,v),(c,w)]/\DR H x u/\DR H y v/\DR H z w:=by
 let#[ys,hd,hp]:=h
 cases hp with
 | cons h1 t=>cases t with
  | cons h2 t=>cases t with
   | cons h3 t=>
    cases t;let#[e1,d1]:=h1;let#[e2,d2]:=h2;let#[e3,d3]:=h3;rename_i y1 y2 y3;let#[_,u]:=y1;let#[_,v]:=y2;let#[_,w]:=y3
    cases e1
    cases e2
    cases e3;show#[u,v,w,hd,d1,d2,d3]
def a8m (K)[DecidableEq α](c7D):Za X "list.index" (uq K R):=by subst hK;show a1K h hu
def b5D (h:H ea=!ho)(e:gR xH H'):gR H (e5p ho):=λe0u=>by
 by_cases z:b=ea
 ·simp_all [ae]
 ·rw[a9 z];show e b o (by rw[aR z];show hb)
def early {gs:η}(sj:σ[j]?=!some (d9G Lp))(hL:H Lp=!.lst (gs.map V.str))(c8q)(s2:σ[2]?=!some vn)(s3:σ[3]?=!some vt)(s6:σ[6]?=!some (.int m))(sm:gR G xH)(hn:DR G Ya vn)(ht:DR G (aT R) vt)(hw:∀ g∈gs,m9 c vg ņ)(q:∀ H',Q ņ H'):
  UA (λe2r=>∃ as bs,e96 x as/\c8 K isA H y bs/\Q Di H) (ja (f2l (cP j)) 1 [2,3,6] Fy (a3n (tB (D6 ea An (cE (cP 1) (cE (cP 2) (cE (cP 0) (cE (cP 3) ju))))))) (cP 0)) (YX ju) σ H Q:=by
 show#[_,sj,Lp,1,#[_,Ma.of hL],c33 hL he (λi x H2 hx e=>?_) λl H' e hl=>#[by decide,λp e7f hp h3=>#[[],[],#[l,[],1,Ma.of<|e9a hl,.nil],⟨p,[],rfl,Ma.of h3,.nil⟩,by show q _]]];rw[Hy]at hx;let#[g,hg,1]:=HZ.mp hx;let jn:∀ {k:Nat}{v:V},σ[k]?=some _->some (σ[k]?).join=some (some v):=λz=>by rw[z];rfl
 let he2:=e _ _ he;show#[_,jn s2,_,jn s3,_,1,_,jn s6,_,_,he2,G,vg,_,λe0u=>cV e b o<|sm b o hb,#[P8,hn,P8,ht,Av,3],hw g<|Hs hg,λy H' e' hy=>?_]
 cases hy;show#[true,1,b5D he2 e']
def b2U:∀ p∈(xj:Ξ),My.OJ p=true:=by intro p hp;simp only[HK,Iz,Ke]at hp;rcases hp with rfl|rfl|rfl|rfl|rfl|rfl|rfl <;> show My.Yk Ĥ ĺ
abbrev Da (c:Cl)(C aC aS:Addr):Sp:=λe4O=>Pr (Fg c C (B6 c C)) vs H Q E\/WM (a12 c aC) vs H Q E\/WM (zM c aS) vs H Q E
structure a5X (c9a)(aC aS:Addr):Prop where
 a5O:mg "Cut"=!.ref aC
 Uj:mg "SmallPrime"=!.ref aS
 m1:W.exmOne K FU FU=!true
 m2:W.exmOne K v9 FU=!false
 m3:W.exmOne K v9 v9=!true
 xf:EK K aC "fallen"
 xn:EK K aC "name"
 xk:EK K aC "numbers"
 xs:EK K aS "needed"
inductive nS (K:Ψ)(c84):Prop
 |mk (a:Addr) (ns:Ξ):vs=rf->Ma K H a ł->(∀ H',Q ņ H')->nS K vs H Q E
def a4J:au ["_law_script","_law_cell",As,"_law_order","_law_prime","_law_many","_law_listeners","_law_plan","e","_law_early","_law_rows_here","_law_tables","_law_name","_law_into_here"] qk (d9i 103):=PD
def a0S [Bx:Bd](c8v)(TE:a5X Bx.K Bx.mg aC aS)(QC:MR 1 "_law_cell_at" û (ie Bx.K))(Vz:MR 6 "_law_net" è BL)(Q7:MR 6 "_law_long_net" è BL)(LJ)(Q2:ES 7 "plan_for" ä GG (Da c C aC aS))(RB:ET 8 "judged" à FK (Pr (Pb c rD))/\∀ F,Md F FK FK)(QB:MR 2 "_law_is_plan" ù (Pr He))(Uq:MR 2 "_law_rows" í (Pr a6c))(SM:MR 2 "_law_reads" ô (Pr c5D))(Oe)(Pj:e6i 2 "_law_cut_right" õ (Pr B7))(NX:e6i 5 "_law_ways_right" ó An):Tk 10 "law" (top 103) qk (nS Bx.K):=by
 ext d27;show F.k a4J λe2v=>?_
 ·let#[a,ns,1,hS,q]:=h;let ND:=a4J.nd;let hu1:=C6 hr (n:=0+1);let Zt:=hr.mono (show 2<=9 by decide);let hr5:=hr.mono (show 5<=9 by decide);show#[_,(ag (pS 1 ND<|c6 bf (be QC hr.m rfl<|a8 lr (a8 aJ K')) aJ)
   (ag (jA (d98 b2C) (ak<|yK (be Q7 hr.m rfl<|e99 D8) (e4g rfl<|af AV (af xO<|f1G aG)))<|ak (yK (be Vz hr.m rfl<|e99 D8)<|e4g rfl (af AV<|af xO (f1G aG))))
   (ag (pS 5 ND<|MU hr (cO<|da dI (d9v dI)).p (e02 (Đ 1) dI)) (ag (pS 6 ND<|VW dI b2C) (ag (pS 7 ND<|gS (Đ 2) LJ hr.m)
   (ag (FS (i:=9) #[3] ND rfl rfl rfl TE.a5O rfl TE.Uj
    (λpn W=>ak<|pS 8 ND (BF a0Q Q2 hr.m rfl<|e2e b6p))
    (λea pn=>ag (dJ (d9f ww (pT (a78 Bx.K b4P hu1) ŵ<|bV K') (cH<|pT (a0V Bx.K) ŵ xi b44)) zK MQ)
     (ag (dJ (iy<|bA (oE (ea:=ea) Pj rfl #[Zt.dp,Zt.un] rfl<|f1C (a8 ŵ<|a8 ŵ (a8 xU K')))) zK MQ)
     (ag (pS 10 ND<|iA (Db Bx.K) xi U0 (gA<|Rb Bx.K HJ PySem.F.slot_list_index PySem.F.type_list_index (a8m Bx.K kQ hu1) xi (a8 ŵ K')))
     (ak<|br (e74 (e2S (a3K Bx.K ea<|pv 10) (λe0m=>pC 0) (λe0m=>bU<|iy (bA<|e5D (a8 BC<|e5j (a8 lr<|f1B K')))) λe0m=>pv 0)<|bV K')))))
    (λea pn=>ag (dJ (d9f ww (pT a2X ŵ<|bi (a05 (K:=Bx.K)) rfl T.Me boot_len (a8 xi K')) (cH<|pT sJ qt ŵ)) zK MQ)
     (ak<|br (e74 (e2S (a3K Bx.K ea<|pv 7) (λe0m=>pC 0) (λe0m=>bU<|iy (bA<|e5D (a8 BC<|e5j (a8 lr<|f1B K')))) λe0m=>pv 0)<|bV K'))))
   (a7L (qC (qI (d9f Ww (e3V (Đ 5)<|e8D (Đ 7)) (d99 (dF QB hr.m rfl<|e1s b6q)))
  oB
  q0)
 (qC (qs 11 ND<|dF Uq hr.m rfl (da (Đ 3)<|e1M b6q))
 (qC (qs 12 ND<|dFd RB hr.m rfl (da (Đ 2)<|f1I b6p))
 (qC (e0A (av<|Đ 7) yL (aM 13)
  (qC (Yd (K:=Bx.K) (n:=0) (bd (i:=14) ND rfl rfl rfl (cS 1 [11] ["_law_number","_law_rows_here"]) (av<|e97 rfl (da (Đ 3)<|da (Đ 13) LS))
  ĕ
  Px
  Pi) rfl)
 (q1 (qI (d9f Ww (e1c b3w gr) (d99 (dF SM hr.m rfl<|da b3w (da (Đ 14)<|e3a XV))))
  oB
  q0))))
 oB))))))))))),?_]
  show aA λZ hZ=>?_;show#[_,1,a,(0),ns,vP,hS,λc1=>#[c1,(2147483647),2,show (0:Int)<2147483647 by decide,?_]];dsimp only;generalize c1 % 2147483647=x;show hZ _ _ Bq;show#[λσ G=>∃ vn vt vo nl S R,σ=[some<|.ref a,some<|.int x,!vn,!vt,!vo,none,none,none,none,none,none,none,none,none,none]/\gR H G/\DR G Ya vn/\DR G (aT R) vt/\DR G (aQ nl) vo/\nl.length<=20/\R.length<=40/\R8 nl S R,cW]
  case refine_2=>
   let nt:∀ (G:Hp),gR H G->iS Bx.K c [.int<|x / 532,.ref a] G (λy H2=>∃ vn vt vo nl S R,∃ tp,y=.ref tp/\H2 tp=!.tup [vn,vt,vo]/\gR H H2/\DR H2 Ya vn/\DR H2 (aT R) vt/\DR H2 (aQ nl) vo/\nl.length<=20/\R.length<=40/\R8 nl S R) E0:=λG e=>#[a,x / 532,ns,1,hS.imp (λz=>z.mono e) id,λy H2 nl S R e2 hy k1 k2 L=>by let#[tp,_,1,WD,vn,_,1,U7,vt,_,1,ht,vo,_,1,ho,1]:=hy;show#[xR,tp,1,WD,e.trans e2,U7,ht,ho,k1,k2,L]]
   let r2:=eq_int (ε:=[none,some<|.int x]) (ra:=rO (fI (λx j=>0<j) λi j=>RO<|V.int (i % j)) (rO (fI a58 λi j=>RO<|V.int (i / j)) AH<|rC (RO<|V.int 28))<|rC (RO<|V.int 19)) (rb:=rC<|.int 4) #[yS,1,qw] rfl;show#[H,lW,_,ML<|e2n (TV<|gR.refl _),r2,λG e=>jI Su Su];all_goals
    show#[_,1,x,(532),2,vY,QJ];let#[a',fi,PH,e1,h1,k1]:=nt G e
    cases e1;show#[a,_,PH,1,h1,λy H2 nl S R e2 hy l1 l2 L=>?_];let#[xR,tp,1,WD,c62]:=k1 y H2 nl S R e2 hy l1 l2 L;show#[tp,_,1,Oi.of WD,1,P8,P8,_,[],2,xR,1,c62]
  rintro σ G ⟨vn,vt,vo,nl,S,R,rfl,eG,U7,ht,ho,k6,k40,L⟩;show hZ _ _ ?_;let W:=L.wn k6 k40;let pz:=L.LO.len;let ll:=b0E S;let lf:=L.MW;obtain⟨p,ep,hp⟩:∃ p:Int,RV ([2,3,5,7,13,101,999983].map D.int) (x % 7)=!.int p/\p∈(xj:Ξ):=by let#[v,yi]:=b6d (xs:=(xj:Ξ).map D.int) (i:=x % 7) (IW x<|by decide) (by let:=IJ x (show (0:Int)<7 by decide);show this);rw[Hy]at h1;let#[p,h3,1]:=HZ.mp h1;show#[p,h2,Hs h3]
  let hP:=b2U p hp;let Vn:2<=p:=((My.M3 p).mp hP).1;let p1:p<=1000000:=by
   simp only[HK,Iz,Ke]at hp
   lia
  obtain⟨m,em,m1,m2⟩:∃ m:Nat,1+x / 7 % 4=(m:Int)/\1<=m/\m<=4:=#[(1+x / 7 % 4).toNat,rP,#[]]
  show aA λZ hZ=>?_;show tP.go (F:=xw) (ε:=lW) (ML<|e2n (TV c9)) (d:=.int p) ⟨⟨⟨rfl,rfl,rfl,rfl,rfl,rfl,rfl,rfl⟩,by simp,rfl⟩,⟨rfl,rfl,⟨by decide⟩⟩,.l .lst ep⟩ λ_ e7f _ hx=>?_
  cases hx;show hZ _ _ Bq;show tP.go (F:=xw) (ε:=lW) (ML<|e2n (TV c9)) (d:=.int (m:Int)) (by rw[<- em];show⟨rfl,⟨⟨rfl,rfl,⟨⟨by decide,by decide⟩⟩⟩,rfl,⟨by decide⟩⟩,.i⟩) λ_ f2w _ hx=>?_
  cases hx;show hZ _ _ Bq;let e24:=e3.trans e4;show tP.go (F:=H4) (ε:=[none,none,some<|aK c S]) (ML<|ML (NY (d9l e24 U7)<|TV (gR.refl _))) (d:=aQ S.Mi) ⟨rfl,rfl,by decide,⟨#[]⟩⟩ λvl H5 e5 _ hl=>?_;show hZ _ _ Bq;let hl:=DR.mono (aO Ě e5) _ _ hl;let Wu:=e24.trans e5;let O:V1 S (![]) 21:=W.wok #[]<|some [];let O':∀ ks∈P',V1 S (some ks) 21:=λks hk=>by rw[HH.mp hk];show O
  show OH.go (F:=H5) (ε:=[none,none,some<|aK c S,none,none,some<|.int p,some<|.int (m:Int)]) (ML<|ML (NY (d9l Wu U7)<|ML (ML<|e2n (NY rfl<|TV (gR.refl _))))) (d:=[aK c S,nU]) ⟨rfl,rfl,rfl,rfl⟩ λvs H9 e9 S9 hv=>?_;let#[Lp,lv,1,hLp,hlv]:=hl
  cases K72.P5 hlv;let hv0:=Md.app (m:=GG) (ws:=GG) hv<|Md.one rfl;by_cases Rp:∀ g∈S.Mi,∃ w,e8K 21 m=.inr w
  case neg=>
   let#[g,PH,a5b]:=a1S Rp;obtain @⟨i0,n,hk,hgn,ec,a43,_⟩:=id a5b;show .inr (.inl #[_,_,(aC,EW [] g PH),c6x,λdx RK Xy hf=>.inl #[TE.m1,λea Sa=>?_]])
   ·show .mk hP p1 #[] O' a5b #[] m1 #[] #[]
   let#[u,v,w',UT,du,dv',dw]:=Qp.three hf
   cases dv';let ne:dx≠ea:=aj UT Sa;let hx:e5r b9H dx=!.xd [("numbers",u),("name",.str g),("fallen",w')]:=by rw[a9 ne];show UT
   let sm:gR RK (aU ea<|e5r (fh ea FU<|some dx)):=λe0u=>by let nb:=aj hb Sa;rw[aR nb,a9 nb];show hb
   let RT:gR H5 RK:=e9.trans Xy;let sm5:gR H5 (aU ea<|e5r (fh ea FU<|some dx)):=RT.trans sm;let hgl:=Hs hgn;show⟨_,rfl,ea,aC,dx,_,w',rfl,ae,hx,TE.xf,rfl,by decide,λl1 H12 SS _ U9=>#[[],[],ui ((sm.trans Mm).trans SS) dw,#[l1,[],1,Ma.of U9,.nil],QJ]⟩;rw[Hu rfl];let Wi:=e9l ae;let Ym:=e9l hx;let a0s:gR RK (aU ea H12):=sm.trans<|cV SS;let a7j:∀ {b o},RK b=some o->H12 b=some o:=λz=>Mm _ _<|a0s _ _ z;let a5o:=a7j<|RT _ _ hLp;show jH #[_,1,ea,aC,dx,_,_,1,Wi,Ym,TE.xn,1,_,1,Lp,S.Mi.map V.str,1,.inl<|Ma.of a5o,1,JC.mpr λe3D=>?_,_,1,?_]
   ·let#[z,_,1]:=Ht.mp hy;rfl
   rw[show Xd (.str g) c2N=true from (by let:=a17 g S.Mi;rw[Hv,Hu hgl]at this;show this)];show jH ?_;show#[yY,ea,aC,dx,P8,Wi,Ym,TE.xn,vb,ea,aC,dx,_,u,1,Wi,Ym,TE.xk,vb,_,_,Wi,RK,[aT R,.str g,rw PH,.int m],_,a0s,#[P8,e0P ht,DW,P8,du,_,_,3],W.cut O #[] (by rw[<- W.Mt];show ec),λy H' e' hy=>?_]
   cases hy;show#[true,1,?_];let Vt:=b5D Wi e';generalize b42:e5p b9H=H13 at Vt;let a44:=Vt _ _ Wi;let a8r:=Vt _ _ Ym;let a1E:=Vt _ _ a5o;let a7y:gR RK (aU ea H13):=a0s.trans<|cV Vt;show jH ⟨_,rfl,_,rfl,.inl ⟨rfl,_,Ma.of a1E⟩,_,rfl,ea,aC,dx,_,_,rfl,a44,a8r,TE.xn,rfl,.str g,.inr g,S.Mi.map Sum.inr,n,rfl,rfl,⟨Lp,_,rfl,Ma.of a1E,?_⟩,by rw[Hy,hgn];rfl,λi b hi hb=>?_,_,rfl,Lp,_,rfl,Ma.of a1E,λl2 H14 ZI _ WH=>?_⟩
   ·show L2.P5 hlv
   ·rw[Hy]at hb;let#[h,hh,1]:=HZ.mp hb;let#[w1,hw1]:=a43 i h hi hh;intro z
    cases z;rw[ec]at hw1
    cases hw1
   ·let ct:kU c2N none (!(n:Int))=(S.Mi.take n).map V.str:=by
     unfold kU;rw[HT.QL,HT.Q8,L6,Nat.sub_zero,JD,List.take_eq_take_iff]
     lia
    rw[ct]at WH;show early (G:=RK) (c:=c) (R:=R) rfl WH (ZI _ _ a44) rfl rfl rfl (a7y.trans<|cV ZI) (e0P U7) (e0P ht) (λg' hg'=>by let#[j,hj]:=Lc.mp hg';let jn:=(Ho.mp hj).1;rw[HF]at jn;rw[IT<|by lia]at hj;let#[w1,hw1]:=a43 j g' #[] hj;show W.ways #[] m1 #[] (Hs hj) hw1) q
  let YB:(P'.length:Int)=1:=rfl;by_cases MW:p<(S.Mi.length:Int)
  ·show .inr (.inr #[_,_,(aS,[("needed",.int<|S.Mi.length * P'.length)]),c6x,λdx RK Xy hf=>.inr #[TE.m2,TE.m3,λea Sa=>?_]])
   ·show .mk hP p1 #[] a9s #[] m1 #[] #[] (by rw[YB];lia)
   let#[u,UT,du]:=Qp.one hf
   cases du;let ne:dx≠ea:=aj UT Sa;let hx:e5r (fh ea v9<|some dx) dx=!.xd [("needed",.int<|S.Mi.length * P'.length)]:=by rw[a9 ne];show UT
   let sm:gR RK (aU ea<|e5r (fh ea v9<|some dx)):=λe0u=>by let nb:=aj hb Sa;rw[aR nb,a9 nb];show hb
   let RT:gR H5 RK:=e9.trans Xy;let a5p:=Mm _ _<|sm _ _ (RT _ _ hLp);show#[_,1,ea,aS,dx,_,_,1,ae,hx,TE.xs,1,_,1,Lp,_,1,.inl<|Ma.of a5p,?_];show#[vb,?_];rw[Hu<|by rw[Hl,YB,Int.mul_one]];show jH ⟨_,rfl,_,rfl,ea,aS,dx,_,_,rfl,ae,hx,TE.xs,rfl,p,_,rfl,rfl,_,rfl,?_⟩;rw[Hw (by rw[YB];lia)];show jH (early (G:=RK) (c:=c) (R:=R) rfl a5p ae rfl rfl rfl sm (e0P U7) (e0P ht) (λg hg=>let ⟨w1,hw1⟩:=Rp g hg;W.ways #[] m1 #[] hg hw1) q)
  ·let#[pl,GP,pm,hM,T,hJ,hT]:=W.a7R (c:=c) (C:=C) #[] hP p1 #[] Rp #[] L.Mt;show .inl #[_,_,aI pl,c6x,λvp RK Xy hvp=>?_]
   ·show .mk (N:=21) hP p1 #[] a9s #[] m1 #[] #[] (by rw[YB];lia) hM
   show hZ _ _ ?_;let hvp:DR RK (aI pl) vp:=DR.mono (aO S9.le Xy) _ _ hvp;let RT:gR H5 RK:=e9.trans Xy;let a1Q:=Wu.trans RT;show#[RK,RK,RK,[.un,.fz<|.int x,.fz<|aK c S,.fz<|aT R,.fz<|aQ nl,.fz<|.int p,.fz<|.int (m:Int),.fz<|aQ S.Mi,.fz<|aI pl,.un,.un,.un,.un,.un,.un],.rt<|.bl true,?_,?_,λy H' e' _ hy=>by cases hy;show q H']
   ·show Sd.ss (ε:=a2p) (ML<|e2n (NY (d9l a1Q U7)<|NY (d9l a1Q ht) (NY (d9l a1Q ho)<|e2n (NY rfl<|NY (d9l RT #[Lp,_,1,hLp,hlv]) (NY hvp<|ML (ML<|ML (ML<|ML (ML<|TV Ě))))))))
   let O1:=W.rows #[] p1 #[] GP<|pm.nodup_iff.mpr W.key;let r1:=lt_int (ε:=a2p) (ra:=rV 5) (rb:=rF Oc<|rA (rV 7) SO) rfl yW;rw[Hw MW]at r1;show .nx (d93 (.f r1 #[#[5],W.is GP pm]))<|.nx ⟨⟨⟨rfl,rfl,rfl,rfl,rfl,rfl⟩,.mk O1⟩⟩ (.nx ⟨⟨⟨rfl,rfl,rfl,rfl,rfl⟩,hJ⟩⟩ ?_);show cB S.Mi (u:=.str) (λi ε=>∃ Of VH,ε=[.un,.fz<|.int x,.fz<|aK c S,.fz<|aT R,.fz<|aQ nl,.fz<|.int p,.fz<|.int (m:Int),.fz<|aQ S.Mi,.fz<|aI pl,.un,.un,.fz<|aI (bT R A6 nl),.fz<|Nt (S.Mi.map λg=>(.inr g,.tup [.str "reads",tb<|T g])),Of,VH]) ⟨_,_,rfl⟩ ⟨rfl,.l .lst⟩ (λi g e6Y=>?_) λe3m=>by let#[_,_,he]:=J';subst he;show#[2]
   let#[Of,VH,he]:=J';subst he;let hg:=Hs hi;let il:(dP R g).length<=100:=by let:=e4C R;unfold dP;rw[Hl];lia
   let vt:cD (S.Mi.map λg=>((.inr g:vm),D.tup kx)) (.inr g)=!.tup kx:=by
    rw[fY]
    cases hf:S.Mi.find? λx=>decide b64 with
    | none=>show absurd (e9m g hg) Ĕ
    | some y=>
     let z:=Jj (p:=λx=>decide b64) hf
     cases HR z;rfl
   let st:∀ r∈R,r.2.1∈nl:=λe3I=>let ⟨_,_,_,h,_⟩:=L.up r hr;Hs h;let r2:=ne_str (ε:=[none,some<|.int x,some<|aK c S,some<|aT R,some<|aQ nl,some<|.int p,some<|.int (m:Int),some<|aQ S.Mi,some<|aI pl,none,none,some<|aI (bT R A6 nl),some<|Nt (S.Mi.map λg=>(.inr g,.tup kx)),some<|.str g,some<|tb Al]) (ra:=e2E (e2E (rV 12)<|rV 13)<|rC FZ) (rb:=rC<|.str "reads") (x:="reads") #[#[2,.k vt kS],1,.t rfl] rfl;rw[Hw<|by decide]at r2;show#[_,1,_,.nx (.mk (d:=tb<|vQ R A6 g)<|cv (xs:=dP R g) (u:=.int) (h:=λk=>rw (e7W m k)) #[#[#[3],.mk<|by lia],.l .lst] #[] (λe7e=>#[_,3,.k ?_ kI]) (Fl.rt.inj<|tbm (λk=>e7W m k) _))<|.f (.f r2 ⟨⟨⟨⟨rfl,rfl,.k vt kS⟩,rfl,.t rfl⟩,rfl,rfl,rfl,rfl⟩,.mk (hT g hg) #[] (by unfold vQ;rw[Hl];lia) (λe3I=>?_) #[] p1⟩) rfl,_,_,1]
   ·let#[uP]:=Ht.mp hk;show kq (ik O1.key O1.ond) (Qa.mpr #[t,(HN.mp ht).1,st t (HN.mp ht).1,1])
   ·let#[k,hk,1]:=Ht.mp hr;let#[uP]:=Ht.mp hk;show O1.len t (HN.mp ht).1
section
variable {h:Heap}
theorem ZY (K)(C)(ğ:Str)(st):Prop:=∃ f fd,Mk K C f/\PY K "__init__" ğ st f fd
def in0_mk (c74)(mk:W.makesIn K C=true)(c97)(c9b)(kc)
  (l)
  (c) (k:e3f oh=true):ZY K C ğ st:=#[f,_,#[mk,a,i,kc],v5 l c k]
theorem iV (K)(C)(m ğ:Str)(st):Prop:=∃ (f T:Addr)(t:Tok)(kV doc pm:Value)(an:ψ)(LR ct:Value)(oc:Value)(od:ψ)(O4:ω)(tc:Value)(td:ψ)(n:Nat)(RM:ω),zQ K C m f/\
 K.lookup f=some ⟨oc,od,.func a9k,O4⟩/\W.codeIn K LR ğ=true/\W.keepIn K oh=true/\K.lookup T=some ⟨tc,td,.seq [f1P t].toArray n,RM⟩
def meD0_mk {K:Ψ}{C:Addr}{m ğ:Str}(d0E){f T:Addr}{t:Tok}(c7v)(d0F)
  (l:K.lookup f=some #[lg,.func a9k,O4])
  (c) (k:e3f oh=true) (d:K.lookup T=some #[tc,td,.seq [f1P t].toArray n,RM]):iV K C m ğ st:=#[f,T,t,Ty,#[a,i,k],l,c,k,d]
def b3R [Bx:Bd](F:iV Bx.K C x ğ st)(cl:e3i C)(hb:∀ (T:Addr)(t:Tok)(kV doc pm:Value)(an:ψ)(LR ct:Value)(us:θ),us.length+1=ps.length->∃ kk,e5s D9=seqItems? nr >>= kk/\kk (some [f1P t].toArray)=pure (d9Q [f1P t]))(ok):GN k C x ps [.int 1] sp:=by let#[f,T,t,Ty,m,l,c,kp,d]:=F;show#[f,_,[f1P t],cl,m,λs us P4 hl=>?_,c5w];ext d3P
theorem CC (d08):Prop:=∃ (f T:Addr)(kV doc pm:Value)(an:ψ)(LR ct:Value)(oc:Value)(od:ψ)(O4:ω)(tc:Value)(td:ψ)(n:Nat)(RM:ω),e5u x=!some oh/\
 K.lookup f=some ⟨oc,od,.func ę,O4⟩/\W.codeIn K LR ğ=true/\W.keepIn K oh=true/\K.lookup T=some ⟨tc,td,.seq [.none].toArray n,RM⟩
def fnD0_mk {K:Ψ}(c73){f T:Addr}(c7v)(c8H)
  (l:K.lookup f=some b9I)
  (c) (k:e3f oh=true) (d:K.lookup T=some #[tc,td,.seq [.none].toArray n,RM]):CC K x ğ st:=#[f,T,Ek,k,d]
def a53 [Bx:Bd](d2x)(hb:∀ (T:Addr)(kV doc pm:Value)(an:ψ)(LR ct:Value)(us:θ),us.length=ps.length->∃ kk,e5s D9=seqItems? nr >>= kk/\kk b8e=pure SL)(ok):MR k x ps sp:=by let#[f,T,Ek,kp,d]:=F;show#[f,_,gk,ok f _ FX];rw[HV]at hl ⊢;let#[kk,yi]:=e5E hl;ext d8U
def b2l [Bx:Bd](d2x)(hb:∀ (T:Addr)(kV doc pm:Value)(an:ψ)(LR ct:Value)(us:θ),us.length+1=ps.length->∃ kk,e5s D9=seqItems? nr >>= kk/\kk b8e=pure (d9Q [.none]))(ok):ET k x ps FK sp:=by let#[f,T,Ek,kp,d]:=F;show#[f,_,[.none],gk,e4Y .nil,ok f _ FX];let#[kk,yi]:=e5E ġ;ext d8U
theorem CK (d08):Prop:=∃ (f T:Addr)(t:Tok)(kV doc pm:Value)(an:ψ)(LR ct:Value)(oc:Value)(od:ψ)(O4:ω)(tc:Value)(td:ψ)(n:Nat)(RM:ω),e5u x=!some oh/\
 K.lookup f=some ⟨oc,od,.func ę,O4⟩/\W.codeIn K LR ğ=true/\W.keepIn K oh=true/\K.lookup T=some ⟨tc,td,.seq [e7u t].toArray n,RM⟩
def fnI0_mk {K:Ψ}(c73){f T:Addr}{t:Tok}(c7v)(c8H)
  (l:K.lookup f=some b9I)
  (c) (k:e3f oh=true) (d:K.lookup T=some #[tc,td,.seq [e7u t].toArray n,RM]):CK K x ğ st:=#[f,T,t,Ek,k,d]
def c5K [Bx:Bd](F:CK Bx.K x ğ st)(c7d)(hb:∀ (T:Addr)(t:Tok)(kV doc pm:Value)(an:ψ)(LR ct:Value)(us:θ),us.length+1=ps.length->∃ kk,e5s D9=seqItems? nr >>= kk/\kk (some [e7u t].toArray)=pure (d9Q [e7u t]))(ok:∀ f fd,Nc Bx.K x ğ st f fd->f0x sp):ES k x ps GG sp:=by let#[f,T,t,Ek,kp,d]:=F;show#[f,_,[e7u t],gk,c5w];ext d3P
theorem jG (K)(C)(ğ:Str)(st):Prop:=∃ f fd,c3N K C f/\PY K "__init__" ğ st f fd
def xi0_mk (c74)(c97)(own:Am K C f=true)(c9b)(kc)
  (l)
  (c) (k:e3f oh=true):jG K C ğ st:=#[f,_,#[own,i,kc],v5 l c k]
def c3G [Bx:Bd](F:jG Bx.K C ğ st)(c7d)(aC)(hb:∀ (kV doc pm:Value)(an:ψ)(LR ct:Value)(us:θ),us.length=ps.length->bindArgs a9d D9=pure SL)(c8U):ER k x C ps sp:=by ext d8d
def Own [Bx:Bd](F:sB Bx.K x ğ st)(c7d)(hb:∀ (kV doc pm:Value)(an:ψ)(LR ct:Value)(us:θ),us.length=ps.length->bindArgs ě D9=pure SL)(ok:∀ f fd,PY Bx.K x ğ st f fd->f0x sp):GY k x ps sp:=by ext d8e
@[elab_as_elim] def b2I (c75):∀ (us:List α),us.length=1->(∀ a,P [a])->P us
 | [_],_,f=>f _
@[elab_as_elim] def Gs (c75):∀ (us:List α),us.length=2->(∀ a b,P [a,b])->P us:=λe6m f=>by
 ext d2Q
 show b2I us ŷ (f a)
@[elab_as_elim] def zg (c75):∀ (us:List α),us.length=3->(∀ a b c,P [C8])->P us:=λe6m f=>by
 ext d2Q
 show Gs us ŷ (f a)
@[elab_as_elim] def BU (c75):∀ (us:List α),us.length=4->(∀ a b c d,P [C8,d])->P us:=λe6m f=>by
 ext d2Q
 show zg us ŷ (f a)
@[elab_as_elim] def Eb (c75):∀ (us:List α),us.length=5->(∀ a b c d e,P [C8,d,e])->P us:=λe6m f=>by
 ext d2Q
 show BU us ŷ (f a)
def c4W [Bx:Bd](c7d)(c9H)(F:sB Bx.K x ğ st)(c7k):MR k x ps sp:=by ext d8e
def b1p [Bx:Bd]{C:Addr}(c9H)(F:R7 Bx.K C x ğ st)(cl:e3i C)(c7k):N6 k C x ps sp:=by let#[w4,m,F]:=F;show#[w4,cl,m,jU]
def a1l [Bx:Bd](c7d){C:Addr}(c9H)(F:ZY Bx.K C ğ st)(aC)(c8U)(hb:∀ (kV doc pm:Value)(an:ψ)(LR ct:Value)(us:θ),us.length=ps.length->bindArgs a9d D9=pure SL:=đ):Wv k x C ps sp:=by ext d8d
universe e
abbrev Nv (K:Ψ)(x:Str):=sB K x x
def all_mk {l:W.OpenLaw}{CE:Addr}(X:K.In h)(G:e4y mg)(hfa:mg "law"=!.ref fa)(ab:e0k mainGlobals "Net"=!some sT)(ac:e0k mainGlobals "Post"=!some (d9G CP))(ad:e0k mainGlobals "House"=!some (d9G CH))(ah:e0k mainGlobals "Listener"=!some (d9G CL))(al:e0k mainGlobals "Field"=!some (d9G CF))(am:e0k mainGlobals "Ear"=!some (d9G CE))(PQ:ua K CN)(a1T:ua K CP)(a1V:ua K CH)(a1U:ua K CL)(Wx:ua K CF)(a1W:ua K CE)(Sv:e0J sT "kept_posts"=!none)(SU:e0J sT "kept_ties"=!none)(RP:e0J sT "next_number"=!none)(X7:e0J (d9G CP) "name"=!none)(X9:e0J (d9G CH) "name"=!none)(X8:e0J (d9G CL) "name"=!none)(Tg:e0J (d9G CF) "prime"=!none)(X':e0J (d9G CE) "rows"=!none)(Vh:e0J (d9G CE) "probes"=!none)(Wq:e0k mainGlobals "LETTERS"=!some (.str "abcdefghijklmnopqrstuvwxyz" W5))(Sy:e0k mainGlobals "LONGEST_NAME"=!some (.int 8 Si))(Uc:e0k mainGlobals "MOST_POSTS"=!some (.int 20 TQ))(Rq:e0k mainGlobals "MOST_LISTENERS"=!some (.int 8 Rc))(UX:e0k mainGlobals "MOST_TIES"=!some (.int 40 Uz))(RS:e0k mainGlobals "LONGEST_DELAY"=!some (.int 99 RN))(Rr:e0k mainGlobals "GREATEST_PRIME"=!some (.int 1000000 Rf))(Wc:e4f wD wD=!true)(Tj:e4f ż ż=!true)(Vl:e4f ż kH=!false)(RG:e4f Ł Ł=!true)(UL:e4f Ţ Ţ=!true)(a32:CP≠CH)(a31:CP≠CL)(a33:CH≠CL)(ZP:e0k mainGlobals "Cut"=!some BT)(EF1:eX K V3 "fallen")(XA1:f1O V3 "fallen")(EF2:eX K V3 "name")(XA2:f1O V3 "name")(EF3:eX K V3 "numbers")(XA3:f1O V3 "numbers")(QZ:e0k mainGlobals "SmallPrime"=!some vD)(EF4:eX K WT "needed")(XA4:f1O WT "needed")(a9T:e4e BT BT=!true)(a9S:e4e vD BT=!false)(a9R:e4e vD vD=!true)(Ta:e0k mainGlobals "len"=!none)(Ob:e0k mainGlobals "isinstance"=!none)(a2Y:e0k mainGlobals "str"=!none)(a22:e0k mainGlobals "all"=!none)(TM:e0k mainGlobals "list"=!none)(YU:e0k mainGlobals "int"=!none)(a0a:e0k mainGlobals "bool"=!none)(RF:e0k mainGlobals "enumerate"=!none)(RY:e0k mainGlobals "range"=!none)(a20:e0k mainGlobals "min"=!none)(V9:e0k mainGlobals "dict"=!none)(Uy:e0k mainGlobals "sorted"=!none)(WS:e0k mainGlobals "zip"=!none)(YT:e0k mainGlobals "sum"=!none)(a21:e0k mainGlobals "any"=!none)(a2Z:e0k mainGlobals "set"=!none)(f0:R7 K CP "reads" "Post.reads" dU)(f1:R7 K CH "reads" "Post.reads" dU)(f2:R7 K CL "reads" "Listener.reads" b0A)(f3:R7 K CP "hears" "Post.hears" dW)(f4:R7 K CH "hears" "House.hears" b5f)(f5:R7 K CL "hears" "Post.hears" dW)(f6:R7 K CN "listeners" "Net.listeners" (d9e 12))(f7:R7 K CN "home" "Net.home" (d9e 13))(f8:R7 K CN "names" "Net.names" (d9e 11))(f9:R7 K CN "ties" "Net.ties" (d9e 14))(f10:Nv K "standing_ties" (top 68))(f11:Nv K "ties_by_post" (top 69))(f12:Nv K "step_over" (top 70))(f13:Nv K "reached_from" (top 71))(f14:Nv K "used_with" (top 72))(f15:Nv K "ties_between" (top 73))(f16:Nv K "tie_out_of" (top 74))(f17:Nv K "one_way" (top 75))(f18:Nv K "parted_ways" (top 76))(f19:CC K "ways" "ways" (top 77))(f20:Nv K "_law_ways_right" (top 102))(f21:Nv K "_law_leads" (top 100))(f22:Nv K "_law_cut_right" (top 101))(f23:Nv K "is_name" iT)(f24:ZY K CP "Post.__init__" bO)(f25:ZY K CH "Post.__init__" bO)(f26:ZY K CL "Post.__init__" bO)(f27:ZY K CN "Net.__init__" c6j)(f28:R7 K CN "check_new_name" "Net.check_new_name" (d9e 4))(f29:R7 K CN "put_in" "Net.put_in" sg)(f30:R7 K CN "post" "Net.post" FJ)(f31:R7 K CN "listener" "Net.listener" Cq)(f32:R7 K CN "house" "Net.house" vw)(f33:Nv K "is_whole" Fp)(f34:Nv K "is_delay" (top 30))(f35:Nv K "led_to" (top 31))(f36:R7 K CN "check_there" "Net.check_there" (d9e 8))(f37:R7 K CN "check_ends" "Net.check_ends" (d9e 7))(f38:iV K CN "tie" "Net.tie" CV)(f39:R7 K CN "into" "Net.into" (d9e 15))(f40:R7 K CN "out_of" "Net.out_of" (d9e 16))(f41:Nv K "first_ready" (top 32))(f42:R7 K CN "ordered" "Net.ordered" vN)(f43:Nv K "mixing_ties" (top 58))(f44:Nv K "by_number" (top 59))(f45:Nv K "wanted_lengths" (top 60))(f46:Nv K "is_number_of" (top 61))(f47:Nv K "is_row_of" (top 62))(f48:Nv K "is_prime" (top 39))(f49:ZY K CF "Field.__init__" yh)(f50:Nv K "checked_plan" (top 63))(f51:R7 K CF "fit" "Field.fit" (e59 1))(f52:R7 K CF "times" "Field.times" (e59 4))(f53:R7 K CF "minus" "Field.minus" (e59 3))(f54:R7 K CF "back" "Field.back" (e59 5))(f55:Nv K "row_sum" (top 42))(f56:Nv K "column" (top 43))(f57:Nv K "ones_row" (top 45))(f58:Nv K "ones" (top 46))(f59:Nv K "coming_in" (top 64))(f60:Nv K "flow" (top 65))(f61:CC K "carried" "carried" (top 66))(f62:Nv K "fitted_row" (top 47))(f63:Nv K "row_with" (top 48))(f64:Nv K "scaled" (top 49))(f65:Nv K "without" (top 50))(f66:Nv K "cleared" (top 51))(f67:Nv K "reduced" (top 52))(f68:Nv K "first_place" (top 53))(f69:Nv K "lead_places" (top 54))(f70:Nv K "reader" (top 55))(f71:Nv K "judgement" (top 89))(f72:CC K "judged" "judged" (top 90))(f73:Nv K "choices" (top 3))(f74:ZY K CE "Ear.__init__" zu)(f75:R7 K CE "shown" "Ear.shown" (aq FG 1))(f76:R7 K CE "move_front" "Ear.move_front" BZ)(f77:Nv K "ways_by_choice" (top 80))(f78:Nv K "message_ties" (top 81))(f79:Nv K "asks_by_tie" (top 82))(f80:Nv K "unbarred" (top 83))(f81:Nv K "multipliers" (top 84))(f82:Nv K "times_row" (top 44))(f83:Nv K "mixed_row" (top 85))(f84:Nv K "made_plan" (top 86))(f85:Nv K "kept" (top 5))(f86:jG K V3 "Cut.__init__" Dg)(f87:jG K WT "SmallPrime.__init__" qz)(f89:CK K "plan_for" "plan_for" xg)(f90:Nv K "_law_cell_at" (top 92))(f91:Nv K "_law_stream" (top 93))(f93:R7 K CN "cut_tie" "Net.cut_tie" GX)(f94:Nv K "_law_net" (top 94))(f95:Nv K "_law_long_net" (top 95))(f96:Nv K "_law_into" (top 96))(f97:Nv K "_law_rows" (top 98))(f98:Nv K "_law_reads" (top 99))(f99:Nv K "_law_is_plan" (top 97))(fl:Nv K "law" (top 103)):
  ∃ fd:È,a6p/\∀ base:Heap,K.In base->e2a mg->Mq l.prog w K mg KG NP 10 fa fd qk (nS K):=by
 let#[fL,fdL,aL,FL]:=fl;let e:=hfa.symm.trans (e4x aL)
 cases e;let O:Cl.Ok K BH:=#[PQ,a1T,a1V,a1U,Sv,SU,RP,X7,X9,X8,a32,a31,a33]
 let TL:a6E mg:=#[e0F Ta,e0F Ob,e0F a2Y,e0F a22,e0F TM]
 let TG:Hb mg:=#[#[_,e4x Wq],#[_,e4x Sy],#[_,e4x Uc],#[_,e4x Rq]]
 let TK:ya K:=#[Wc]
 let TN:Ha mg:=#[e0F Ob,e0F YU,e0F a0a,e0F Ta]
 let TH:a19 mg:=#[#[_,e4x UX],#[_,e4x RS]]
 let TI:a18 K:=#[Tj,Vl]
 let TS:GZ mg:=#[e0F V9,e0F Uy]
 let TD:c3p mg:=#[e0F V9,e0F Ta,e0F TM,e0F a20]
 let TX:Dn K mg CF:=#[Wx,Tg,c64,e0F YT,e0F Ta]
 let TP:a5W K mg CF:=#[Wx,Tg,#[_,e4x Rr]]
 let TR:FN mg:=#[e0F RY]
 let TA:a7e mg:=#[e0F Ta,e0F RY,e0F TM,e0F RF,e0F YU,e0F WS,e0F YT,e0F Ob,e0F Uy,e0F a2Z,e0F V9]
 let TJ:wT K:=#[RG,UL,Tj]
 let TX9:a5X K mg V3 WT:=#[e4x ZP,e4x QZ,a9T,a9S,a9R,XA1,XA2,XA3,XA4]
 let TE:OB K mg CE:=#[a1W,X',Vh,c64,e0F a21,e0F Ta,e0F RF]
 show#[fdL,λs v=>?_,λbase _ _=>?_]
 ·let#[lg,DV]:=FL.ex;show .of_eq rfl
 ·
  let ch:=λb:mL=>
   letI Bx:Bd:=#[l.prog,w,K,mg,b]
   let fq:=@c4W h Bx X G;let mq:=@b1p Bx;let a2c:N6 1 CP "reads" Þ (Pr<|j8 (decide ((CP:Addr)=(⟨CN,CP,CH,CL⟩:Cl).Qh))):=mq f0 a1T λe1T=>by rw[show decide ((CP:Addr)=(BH:Cl).Qh)=false from ir O .post];show eK (je F)
   let YO:N6 1 CH "reads" Þ (Pr<|j8 (decide ((CH:Addr)=(⟨CN,CP,CH,CL⟩:Cl).Qh))):=mq f1 a1V λe1T=>by rw[show decide ((CH:Addr)=(BH:Cl).Qh)=false from ir O .house];show eK (je F)
   let Vu:N6 1 CL "reads" Þ (Pr<|j8 (decide ((CL:Addr)=(⟨CN,CP,CH,CL⟩:Cl).Qh))):=mq f2 a1U λe1T=>by rw[show decide ((CL:Addr)=(BH:Cl).Qh)=true from ir O .listener];show eK (kC F)
   let a2k:N6 1 CP "hears" Þ (Pr<|j8 (not (decide ((CP:Addr)=(⟨CN,CP,CH,CL⟩:Cl).house)))):=mq f3 a1T λe1T=>by rw[show (not (decide ((CP:Addr)=(BH:Cl).house)))=true from iJ O .post];show eK (jf F)
   let YS:N6 1 CH "hears" Þ (Pr<|j8 (not (decide ((CH:Addr)=(⟨CN,CP,CH,CL⟩:Cl).house)))):=mq f4 a1V λe1T=>by rw[show (not (decide ((CH:Addr)=(BH:Cl).house)))=false from iJ O .house];show eK (oY F)
   let Vw:N6 1 CL "hears" Þ (Pr<|j8 (not (decide ((CL:Addr)=(⟨CN,CP,CH,CL⟩:Cl).house)))):=mq f5 a1U λe1T=>by rw[show (not (decide ((CL:Addr)=(BH:Cl).house)))=true from iJ O .listener];show eK (jf F)
   let OE:∀ C,jW (BH:Cl) C->N6 1 C "reads" Þ (Pr<|j8 (decide (C=(BH:Cl).Qh))):=by
    rintro _ ⟨k,rfl⟩
    cases k with
    | house=>show YO
    | listener=>show Vu
    | post=>show a2c
   let OG:∀ C,jW (BH:Cl) C->N6 1 C "hears" Þ (Pr<|j8 (not (decide (C=(BH:Cl).house)))):=by
    rintro _ ⟨k,rfl⟩
    cases k with
    | house=>show YS
    | listener=>show Vw
    | post=>show a2k
   let LJ:=mq f6 PQ<|b8L O OE;let Mz:=mq f7 PQ<|a16 O OG;let Nq:=mq f8 PQ<|a6U O TL;let LP:=mq f9 PQ<|b7o O;let Ni:=fq f10<|b9b LP (c:=BH);let Nw:=fq f11<|b4J TD;let Q0:=fq f12 b2K;let Ny:=fq f13<|b6E TL Q0;let OD:=fq f14<|b0K TS;let Nx:=fq f15 b3P;let Pe:=fq f16 b1s;let RA:=fq f17<|b0e Pe;let NW:=fq f18<|c6n TL RA;let OL:MR 4 "ways" â (Pr<|Pn ⟨CN,CP,CH,CL⟩):=a53 f19 X G (λf2A=>BU us hl λe0a=>#[_,2]) λe1T=>e3G Nx NW (c:=BH);let Uo:ET 4 "ways" â FK (Pr<|Pn ⟨CN,CP,CH,CL⟩):=b2l f19 X G (λf2A=>zg us ŷ λe0j=>#[_,2]) λe1T=>e3G Nx NW (c:=BH);let NX:=fq f20<|a8t TA ⟨Uo,λ_=>Md.one rfl⟩ (c:=BH);let SN:=fq f21<|b6s TA;let Pj:=fq f22 (rK TA TJ SN)
   LB OE (LB OG<|LB LJ (LB Mz<|LB Nq (LB LP<|LB OL (LB NX Pj))))
  letI Bx:Bd:=#[l.prog,w,K,mg,KG]
  let fq:=@c4W h Bx X G;let mq:=@b1p Bx;let iq:=@a1l h Bx X G;let#[OE,OG,LJ,Mz,Nq,LP,OL,_,_]:=ch KG;let RC:=fq f23 λe1T=>c3V rfl F TL TG TK;let Vy:=iq f24 ac λe1T=>Sqs F O;let Ur:=iq f25 ad λe1T=>Sqs F O;let QA:=iq f26 ah λe1T=>Sqs F O;let TF:=iq f27 ab λe1T=>c0K F O;let LU:=mq f28 PQ<|c3K O RC;let MG:=mq f29 PQ<|b15 O TL TG OE LJ;let NM:=mq f30 PQ<|c1B O LU MG Vy;let MS:=mq f31 PQ<|a4z O LU MG QA;let Nr:=mq f32 PQ<|c3c O LU MG Mz Ur;let MP:=fq f33 λe1T=>b2p F TN TI;let Qz:=fq f34<|b4D TH MP;let SK:=fq f35<|b4G TL;let LX:=mq f36 PQ<|c2X O;let NN:=mq f37 PQ<|b24 O OG LX LP SK;let Nk:GN 3 CN "tie" ë [.int 1] (jw ⟨CN,CP,CH,CL⟩):=b3R f38 PQ (λe0a e0a e6m=>zg us ŷ λe0j=>#[_,2]) λe1T=>c1K F O TN TH NN Qz;let Nl:=mq f39 PQ<|c41 LX LP (c:=BH);let Ph:=mq f40 PQ<|a6y LX LP (c:=BH);let OO:=fq f41<|b5k rfl TL;let OR:=mq f42 PQ<|c6B O TD LP OO;let Mo:=fq f43<|b14 Mz OR Nl Ph (c:=BH);let Mj:=fq f44<|a7I rfl TS;let NL:=fq f45<|b7p TD Mo Mj (c:=BH);let Ot:=fq f46<|c0u TX MP;let Q5:=fq f47<|Spl rfl TL Ot;let Qy:=fq f48 a9C;let MH:=iq f49 al<|b5u TP Qy;let Nz:=fq f50<|a9P TD MH NL Q5 (c:=BH);let LM:=mq f51 Wx<|a0T TX;let Mp:=mq f52 Wx<|b5e LM;let OT:=mq f53 Wx<|c4K LM;let Pk:=mq f54 Wx<|b4Z TX LM Mp;let N7:=fq f55<|a2D rfl TX LM;let P2:=fq f56 b20;let Oq:=fq f57<|b9R TX;let O8:=fq f58<|SlR TX Oq;let Q6:=fq f59 b7m;let Vx:=fq f60<|c43 N7 Q6 Mj;let Qf:MR 5 "carried" à (Pr<|l8 ⟨CN,CP,CH,CL⟩ rD):=a53 f61 X G (λf2A=>Eb us hl λe0m=>#[_,2]) λe1T=>PsN F TS MH Mo Vx O8 P2 Mj (c:=BH);let Pf:=fq f62<|b3c LM;let Qw:=fq f63<|c4a TX;let SI:=fq f64<|may Mp;let Rw:=fq f65<|a7h rfl TX Mp OT;let RD:=fq f66<|c1L TX SI Rw Pk;let Ry:=fq f67<|a1R TX Pf Qw RD;let OP:=fq f68<|b1P TX;let ON:=fq f69<|c4Q OP;let SJ:=fq f70<|b7u rfl TX O8 ON Ry;let OF:=fq f71<|c2P SJ;let a56:MR 8 "judged" à (Pr<|e75 rD):=a53 f72 X G (λf2A=>Eb us hl λe0m=>#[_,2]) λe1T=>e69 (c:=BH);let RB:ET 8 "judged" à FK (Pr<|e75 rD):=b2l f72 X G (λf2A=>BU us ŷ λe0a=>#[_,2]) λe1T=>e69 (c:=BH);let Na:=fq f73<|c4X TR LP (c:=BH);let XG:=iq f74 am<|c3T TE O8;let N5:=mq f75 a1W<|a2P TE N7;let NO:=mq f76 a1W<|a95 rfl TE N5 LM;let Mh:=fq f77<|b03 LJ OL (c:=BH);let MK:=fq f78<|a2M TE;let OQ:=fq f79<|TgD rfl TE TD.O5 MK LP XG (c:=BH);let Qv:=fq f80<|c4b rfl TE LM;let OM:=fq f81<|b5x rfl TE N5 LM Qv;let PZ:=fq f82<|a7U N7;let Q3:=fq f83<|b4o TE PZ P2;let Q4:=fq f84<|b5G rfl TE TD.O5 MK O8 OQ Mo OM Q3 NO Mj (c:=BH);let Up:=fq f85<|c3J (e0F Ob) (e0F TM) RG;let XH:ER 2 "Cut" V3 å (ZU V3 λl fs=>∃ xs z ys,l=b6X/\fs=(a61:List (Str×D))):=c3G f86 X G ZP (λf2y e6m=>BU us hl λe0a=>rfl)<|(wV EF1 EF2 EF3 Up);let Pg:ER 1 "SmallPrime" WT Ā (ZU WT λl fs=>∃ i:Int,l=mB/\fs=(mP:List (Str×D))):=c3G f87 X G QZ (λf2y e6m=>Gs us hl λ_ _=>rfl)<|(jE EF4);let b0r:GY 5 "ways_by_choice" é (WM<|B4 ⟨CN,CP,CH,CL⟩ V3):=Own f77 X G (λf2y e6m=>zg us hl λe0j=>rfl) λe1T=>kF rfl F LJ OL XH;let Q2:ES 7 "plan_for" ä GG (Da BH CF V3 WT):=c5K f89 X G (λe0a e0a e6m=>zg us ŷ λe0j=>#[_,2]) λe1T=>(Gh (c:=BH) F TL MH Na Mh LJ Q4).qx.or<|(wY (c:=BH) F MH Na b0r).or (nV (c:=BH) rfl F TL MH Na Mh LJ Pg);let QC:=fq f90<|a9E TA;let RE:=fq f91<|c50 TA;let MP:=fq f33<|kA TN TI;let OS:=mq f93 PQ<|b4r O MP;let Vz:=fq f94<|c1R TA TF RE Nr MS NM Nk OS (c:=BH);let Q7:=fq f95<|c0l rfl TA TF Nr MS NM Nk (c:=BH);let Oe:=fq f96 Vis;let Uq:=fq f97<|a6f rfl TA Oe;let SM:=fq f98<|a85 rfl TA;let QB:=fq f99<|a6Y rfl TA TJ Oe;show a0S (c:=⟨CN,CP,CH,CL⟩) (C:=CF) TA TX9 QC Vz Q7 LJ Q2 ⟨RB,λ_=>Md.one rfl⟩ QB Uq SM Oe (λb _ _=>(ch b).2.2.2.2.2.2.2.2) (λb _ _=>(ch b).2.2.2.2.2.2.2.1) _ _ FL
def walk (d1r)(hn:l.most=!63)(hdf)(hY)(F:∀ (w:World)(mg:Ω)(fa:Addr)(h:Heap),(K w.params).In h->e4y mg->mg d.name=!.ref fa->
   ∃ fd:È,a6p/\∀ base:Heap,(K w.params).In base->e2a mg->e61 NP 10 fa fd qk (nS vT)):
  W.WalkO q loose XP YP l.row.toRowW d [] wP:=
 L2.Y3 hn ĺ hdf (λ_=>#[c6e]) hY F (λ_ _ a ns hl _ hS=>#[a,ns,1,hS,λ_=>rfl]) λe0m z=>z
universe K72
end
open PySem PySem.W PyProof.Rows L2
set_option tactic.hygienic true in
theorem PySem.Challenge.cw_mixposts_k91_whole_plans_or_cuts_holds : PySem.Challenge.rw_mixposts_k91_whole_plans_or_cuts.Holds := by
  refine topOfIt ?_
  k_fill
  refine K72.walk (l := PySem.Challenge.rw_mixposts_k91_whole_plans_or_cuts) rfl rfl (λw h Y => PySem.W.kIn_of Y) ?F
  case F =>
    intro w mg fa h KX G hmg
    apply K72.all_mk KX G hmg
    all_goals first|(first|apply a2l|apply c3e|apply K72.in0_mk|apply K72.fnD0_mk|apply K72.fnI0_mk|apply K72.meD0_mk|apply K72.xi0_mk|apply ua.mk|apply eX.mk|apply EK.mk)<;>(first|k_is|kit_is|kernel_rfl)|k_is|kit_is|skip
    all_goals first|decide|lia|kts_exm|kernel_rfl|(intro h;cases h)
