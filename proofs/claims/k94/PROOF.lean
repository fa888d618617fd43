import PyProof.Rows.All
import Wide.All
import KE.RegKTryMore
import KE.RegKIsAll
import KE.KNestM
import KE.KTopLam
import Wide.FinOn
import Lean
import PySem.Challenge.RW_mixposts_k94_whole_rounds_on_the_way
import KE.KIntText
import KE.KDictOf
import KE.KDictSum
import KE.KListMore
import KE.KEqDict
import KE.KPairComp
import KE.KSortTup
set_option Elab.async false
set_option linter.all false
set_option maxRecDepth 100000
set_option maxHeartbeats 0
set_option autoImplicit true
set_option compiler.extract_closed false
set_option genSizeOf false
section
open Lean in
local macro_rules|`(command|lay_quick x)=>do
 let t:=`topOfIt
 let ns:=(List.range 1083).map (λi=>t.str s!"o_{i+43}")++[49,78,93,108,123,138,153,168,183,198,213,235,257,279,320,334,392,428,464,686,695,760,836,916,988,1041,1119].map (λi:Nat=>t.str s!"sts_{i}")++[t.str "heap_39",t.str "heap_46",t.str "heap_1126",t.str "view_39",`PySem.Challenge.pw_mixposts_k94_whole_rounds_on_the_way]
 return mkNullNode (←ns.toArray.mapM λn=>do return (←`(command|theorem $(mkIdent (.str `PySem.W.Fast s!"tw{n.hash}")):ident:True:=trivial)).raw)
lay_quick x
open PySem PySem.W PyProof.Rows
open_top topOfIt for PySem.Challenge.rw_mixposts_k94_whole_rounds_on_the_way
end
def ß(h:True:=by first|exact .inl rfl|exact .inr rfl|assumption):=h
def ö(h:True:=by decide):=h
def Ă(h:True:=by intro _;rfl):=h
def ă(h:True:=by rfl):=h
def Ą(h:True:=by with_unfolding_all rfl):=h
def Ć(h:True:=by decide +kernel):=h
def ć(h:True:=by first|exact Or.inl rfl|exact Or.inr rfl):=h
def Ċ(h:True:=by exact b00 _):=h
def đ(h:True:=by intro _ _ _ _ _ _ us hl;first|exact c4Y us hl λ_=>rfl|exact Ge us hl λ_ _=>rfl|exact DI us hl λ_ _ _=>rfl|exact wL us hl λ_ _ _ _=>rfl|exact z9 us hl λ_ _ _ _ _=>rfl|exact a9A us hl λ_ _ _ _ _ _=>rfl):=h
open Lean Parser Tactic in
local macro_rules|`(mutual $cs* end)=>do
 let R:=[Syntax.rewriteBottomUp].getLast!
 let C:=(R (·.setInfo .none) (mkNullNode cs)).getArgs
 let f:=C[0]![1]
 if !f.isOfKind ``Command.example then Macro.throwUnsupported
 let N:=Syntax.node .none
 let J:=λ(a:Array Syntax)=>N `null (mkSepArray a (mkAtom ","))
 let T:=f[2][1][1][0][0].getSepArgs
 let p:=λu:Syntax=>if u.isIdent then N ``rcasesPat.one #[u] else if u.isOfKind ``Term.hole then u.setKind ``rcasesPat.ignore else if u.isOfKind ``Term.anonymousCtor then N ``rcasesPat.tuple #[u[0],J (u[1].getSepArgs.map λv=>N ``rcasesPatLo #[N ``rcasesPatMed #[mkNullNode #[v]],mkNullNode]),u[2]] else u
 let O:=λq e=>N ``obtain #[mkAtom "let",mkNullNode #[N ``rcasesPatMed #[mkNullNode #[R p q]]],mkNullNode,mkNullNode #[mkAtom ":=",mkNullNode #[e]]]
 let B:=λ(t:Array Syntax) b=>N ``Term.byTactic #[mkAtom "by",N ``tacticSeq #[N ``tacticSeq1Indented #[mkNullNode (mkSepArray (T.extract 0 1++t++(T.extract 1 3).push (N ``refine #[mkAtom "refine",b])) mkNullNode)]]]
 let F:=[λ(M:NameMap Syntax)(s:Syntax)=>
  let k:=s.getKind
  if s.isIdent then(M.find? s.getId).getD s else
  if k==``Term.explicitBinder then
   if s[2].isNone&&s[3].isNone then(M.find? (.str s[1][0].getId "b")).getD s else
   if s[3][0].isOfKind ``Term.binderDefault then(s.setArg 3 mkNullNode).setArg 2 (mkNullNode #[s[2][0],N ``Term.app #[mkIdent `autoParam,mkNullNode #[s[2][1],mkIdent (s[3][0][1].getId.str "_auto_1")]]]) else s else
  if k==`term!_ then N ``Term.app #[mkIdent `some,mkNullNode #[s[1]]] else
  if k==``Parser.Tactic.show&&!s[1].isOfKind ``Term.paren then
   let s:=s.setKind ``refine
   let a:=s[1]
   match a[0].isNatLit? with
   |some j=>
    let c:=a[1][0]
    let e:=c[1].getSepArgs
    let r:=e.extract j
    s.setArg 1 (N ``Term.app #[mkIdent (.str `El s!"i{j}"),mkNullNode ((e.extract 0 j).push (if r.size==1 then r[0]! else c.setArg 1 (J r)))])
   |_=>s
  else
  let X:=λ_:Unit=>s[1].getSepArgs.flatMap λx=>match if x.isIdent then M.find? (.str x.getId "b") else none with|some b=>if b[2][1].isOfKind `«term[_]» then b[2][1][1].getSepArgs else #[x]|_=>#[x]
  if k==`«term[_]» then s.setArg 1 (J (X ())) else
  if k==`«term#[_,]» then
   let e:=X ()
   if e.isEmpty then f[1][1][0][1] else if e[0]!.isNatLit?==some 0 then T[3]![1] else N ``Term.anonymousCtor #[s[0],J (e.flatMap λx=>match x.isNatLit? with|some n=>.replicate n (mkIdent `rfl)|_=>#[x]),s[2]] else
  if k==``tacticLet__ then
   let q:=s[2][0]
   if q[0].isOfKind ``Term.anonymousCtor then O q[0] q[4] else s.setKind ``tacticHave__ else
  if k==``Term.let&&s[2][0][0].isOfKind ``Term.anonymousCtor then B #[O s[2][0][0] s[2][0][4]] s[4] else
  if k==``Term.fun&&s[0].isToken "λ" then
   let b:=s[1]
   let(x,t):=b[0].getArgs.foldl (λ(x,t) a=>if a.isOfKind ``Term.anonymousCtor then let z:=mkIdent (.mkSimple s!"ĥ{x.size}");(x.push z,t.push (O a z)) else(x.push (if a.isOfKind ``Term.hole then mkIdent `ĥ else a),t)) (#[],#[])
   s.setArg 1 ((b.setArg 0 (mkNullNode x)).setArg 3 (if t.isEmpty then b[3] else B t b[3])) else
  if k==``tacticSeq1Indented then
   let(o,_):=(s[0].getSepArgs.push .missing).foldl (λ(o,r,n,w) t=>
    if t.isOfKind ``obtain&&t[0].isToken "let" then(o,r.push t,r.size+1,w+t[1][0][0][0][1].getNumArgs)
    else if n>0&&(t.isOfKind ``tacticHave__||(t.getArgs.back?.getD t)[0].isOfKind ``location&&!t.isOfKind ``generalize) then(o,r.push t,n,w)
    else((o++if w<4 then r else T[0:1].toArray++r[0:n].toArray++T[1:3].toArray++r[n:].toArray).push t,#[],0,0)) (#[],#[],0,0)
   s.setArg 0 (mkNullNode (mkSepArray o.pop mkNullNode)) else
  if k==``omega&&s[1][0].getNumArgs==0 then T[3]![1][1][0][0][0] else
  if k==``Command.open&&s[1].isOfKind ``Command.openRenaming then mkNullNode (s[1][2].getSepArgs.map λx=>(Unhygienic.run `(command|noncomputable abbrev $(mkIdent x[2].getId):ident:=@$(mkIdent (s[1][0].getId++x[0].getId)))).raw) else
  if k==``Command.inductive&&s[4].getNumArgs==0 then
   let y:=s[2]
   let t:=y[1][0]
   let(g,e):=(List.range 30).foldl (λ(g,t) _=>let i:=if t.isOfKind ``Term.arrow then 2 else if t.isOfKind ``Term.forall then 4 else 9;if i==9 then(g,t) else(g∘t.setArg i,t[i])) ((id:Syntax->Syntax),t[1])
   let h:=N ``Term.app #[s[1][0],mkNullNode (y[0].getArgs.flatMap λb=>if b.isOfKind ``Term.explicitBinder then b[1].getArgs else #[])]
   let z:=λ(b:Syntax) e=>N ``Command.optDeclSig #[b,mkNullNode #[t.setArg 1 e]]
   (s.setArg 2 (z y[0] (N ``Term.prop #[mkAtom "Prop"]))).setArg 4 (mkNullNode #[N ``Command.ctor #[mkNullNode,mkAtom "|",N ``Command.declModifiers (.replicate 7 mkNullNode),mkIdent `mk,z mkNullNode (g (N ``Term.arrow #[e,mkAtom "->",h]))]]) else
  if k==``cbv then(T[3]!.find? (·.isOfKind ``simpAll)).getD s else
  if k==``Elab.Tactic.Ext.tacticExt1___ then N ``unfold #[s[0],mkNullNode (s[1].getArgs.map (·[0][0])),mkNullNode] else
  if k==``Command.open&&s[1][0][0].getId==`e then N ``Command.end #[s[0],mkNullNode] else
  if k==``Command.variable then mkNullNode #[(Unhygienic.run `(command|section)).raw,s] else
  if k==``Command.declaration&&s[1].isOfKind ``Command.example then N ``Command.variable #[mkAtom "variable",s[1][1][0]] else
  if k==``Command.universe then N ``Command.end #[s[0],if s[1][0].getId==`e then mkNullNode else mkNullNode #[s[1][0],mkNullNode]] else
  if k==``Command.declaration then
   let x:=s[1];let t:=x[2]
   if x.isOfKind ``Command.instance&&!x[3].isNone then Unhygienic.run `(command|set_option tactic.hygienic true in $(⟨s.setArg 1 (N ``Command.theorem #[mkAtom "theorem",x[3][0],x[4],x[5]])⟩)) else
   if x.isOfKind ``Command.definition then s.setArg 1 (N ``Command.theorem #[x[0],x[1],N ``Command.declSig #[t[0],t[1][0]],x[3]]) else
   let b:=x.isOfKind ``Command.theorem
   let s:=if b then s.setArg 1 (N ``Command.definition #[x[0],x[1],N ``Command.optDeclSig #[t[0],mkNullNode #[t[1]]],x[3],mkNullNode]) else s
   if b||x.isOfKind ``Command.abbrev then s.setArg 0 (s[0].setArg 4 (mkNullNode #[N ``Command.noncomputable #[mkAtom "noncomputable"]])) else s
  else s].getLast!
 let G:=[λ(M:NameMap Syntax)(s:Syntax)=>
  let k:=s.getKind
  let L:=λx:Syntax=>(M.find? x.getId).getD .missing
  if k==``tacticSeq1Indented then s.setArg 0 (mkNullNode (mkSepArray (s[0].getSepArgs.flatMap λt=>let u:=if t.isOfKind ``Elab.Tactic.Ext.ext then L ((t[1].find? (·.isIdent)).getD t) else t;if u.isOfKind ``Term.byTactic then u[1][0][0].getSepArgs else #[t]) mkNullNode)) else
  if k==`null then mkNullNode (s.getArgs.flatMap λt=>let u:=if t.isOfKind ``Term.explicitBinder&&t[2].isNone&&t[3].isNone then L t[1][0] else if t.isIdent then L t else .missing;if t.isIdent then if u.isOfKind ``Term.fun then u[1][0].getArgs else #[t] else if u.isOfKind ``Term.forall then u[1].getArgs else #[t]) else
  let t:=L s[0]
  if k==``Term.app&&t.isOfKind ``Term.fun then R (λx=>match if x.isIdent then t[1][0].getArgs.findIdx? (·.getId==x.getId) else none with|some i=>s[1][i]|_=>x) t[1][3] else if k==``Term.app&&t.isOfKind ``Term.app then N ``Term.app #[t[0],mkNullNode (t[1].getArgs++s[1].getArgs)] else s].getLast!
 let a:=f[1][0].getArgs
 let g:=a.foldl (λM t=>if t.isOfKind ``Term.instBinder then M.insert t[1][0].getId (R (G M) t[2]) else M) {}
 let M:=a.foldl (λM t=>if t.isOfKind ``Term.instBinder then M else let s:=R (F M) t;let n:=t[1][0].getId;if s.isOfKind ``Term.explicitBinder then M.insert (.str n "b") s else M.insert n s[2][1]) {}
 return R (F M) (R (G g) (mkNullNode (C.extract 1)))
set_option tactic.hygienic false
mutual
example(w:World)(i:Nat)(t:uO (ps++N).length ps.length r R)(x:Str)(a:W.nsIn K mainGlobals x=some (some (.ref f)))(b:∀ (f:Addr)(Lr:Value)(A:Ë)(outer:List Env)(s:Ê)(H:Hp)(E:XK),LM k (A.deeper (envOfC ğ (aa st) s.heap.objs.size f Lr))->(ps++N).Nodup->RT (dg MY B.P B.w B.K B.mg B.base (ps++N) ğ (aa st) f Lr A outer s H E).Ur (ay st) r)(r:V->List V->Hp->VK->Prop)(H:Hp)(o:Obj)(h:autoParam (X.K=K) ă._auto_1)(h':DR H d' v')(d:Addr)(f:Str)(k:∀ i x ε,xs[i]?=some x->I i ε->∃ ε1,q (u x) ε ε1/\∃ ε2,rb ε1 (.nx ε2)/\I (i+1) ε2)(ho:NH X (compareOp op) r)(ht:∀ cells C s H fp,PX (aE X scope N' cells C s H fp) ifs tt)(e:f' H H')(hp:PassesOwn (model X.prog X.w) X.A X.env X.xe)(u:Value)(ok:∀ f fd,MM Bx.K x ğ st f fd->QN MY k f fd ps sp)(mu:wR (H x))(he:autoParam (starEach (e::es) X.env=(false,eval e X.env)::starEach es X.env) ă._auto_1)(heo:∃ u,h'.get? e=some u)(q:∀ x H',f' H H'->DR (grow F H H') d x->Q x H')(n:Nat)(hx:Aa X.env.scope x)(hn:autoParam (x≠"__name__") ö._auto_1)(l:K.lookup f=some ⟨oc,od,.func (W.fnOf "__init__" ğ (aN st) (ay st) (aa st) .none kV doc pm an Lr ct),Nq⟩)(sc:Scope)(m:Nat)(I:Inv X ñ σ H s)(XG:∀ b∈ch,(b∈X.ex\/X.s₀.heap.objs.size<=b)/\b≠X.env.locals/\(∀ x c,X.env.cells.lookup x=some c->c≠b)/\∀ p∈X.pn++ñ,p.1≠b)(slot:Slot T name id)(LJ:P6 X.prog X.w H' h')(hg:∀ cells C s H fp,PG (aE X scope N' cells C s H fp) tg g)(h1:s.heap.IsListIter i1 l1 k1)(h2:∀ xs,u≠.tup xs)(hN:X.N.Nodup)(ha:PA X (e::es) t)(hs:autoParam (∀ x,foldedSetIterable iter X.env x=pure x) Ă._auto_1)(hi:PI X tg iter (tI ri))(hf:autoParam (X.fn x=true\/X.env.scope.names.lookup x=some .local) ß._auto_1)(X:Cx)(ñ:ζ)(σ:St)(Q:VK)(s':Ê)(us:θ)(D:ZipApart z TI TO i1 i2 l1 l2)(st:Stmt)(v:V)(hv:PE X value tv)(hd:autoParam ((x==("__debug__":Str))=false) ö._auto_1)(RL:autoParam ((x==("__classdict__":Str))=false) ö._auto_1)(hm:autoParam (behindInMarks op b=false) Ċ._auto_1)(hb:autoParam (∀ (kV doc pm:Value)(an:ψ)(Lr ct:Value)(us:θ),us.length=ps.length->bindArgs (W.fnOf x ğ (aN st) (ay st) (aa st) .none kV doc pm an Lr ct) ⟨us,[]⟩=pure (ps.zip us)) đ._auto_1)(ta:TA)(hc:X.calm=true)(K:Ψ)(xs:List α)(E:Ends ts nm)(te:TE)(c:W.codeIn K Lr ğ=true)(ts:List (T ν))(TY:autoParam (starEach (e::es) X.env=(false,eval e X.env)::starEach es X.env) ă._auto_1)(g:G [(kS,seqObj "list" keys e),(a,seqObj "list" [].toArray e1)] s)(hw:w<m)(R:RR p w m ř ps)(lo:(d==sysModules)=false)(hl:ri (ε.map Sl.z) (xs.map u))(TZ:autoParam (starEach [e2] X.env=[(false,eval e2 X.env)]) ă._auto_1)(Pv:Nat->Υ)(h0:I 0 ε)(hh:A.handled=none)(C:Addr)(ry:rp y u)(hr:LM k X.A)(outer:List Env)(P:É)(s:f' F H)(F:LX X.prog X.w X.K X.mg X.base CX k f fd ps sp)(sp:Sp)(dvs:π)(ps:η)(hk:IntsAre keys.toList kz)(OO:autoParam ((x==("__debug__":Str))=false) ö._auto_1)(Of:autoParam ((backTo pos (starEach es X.env)).any (·.1)=false) ă._auto_1)(M:Mk X.K C f)(N:Mv c H n dp dt S)(mg:Ω)(base:Heap)(ğ:Str)(scope:Scope)(A:Ask lt)(S:Ss F0 H0 F σ H ε)(len:∀ vs H Q E,sp vs H Q E->vs.length=ps.length)(hu:X.A.units+1<cLine)(hz:b0X s.heap z TI TO T b)(fx:eJ x=true)(T:uh Bx.K Bx.mg C)(pa:PlainAttrs T)(Yb:typeOf (.builtin id)=pure (.type "method_descriptor"))(Pg:autoParam (attributeBase o name X.env (eval o X.env)=eval o X.env) ă._auto_1)(QB:autoParam ((apos.endLine==MA.line)=true) ă._auto_1)(ON:autoParam ((backTo pos (starEach [e] X.env)).any (·.1)=false) ă._auto_1)(hdf:d.params.defaults=[])(j:Nat)(N':η)(nT:Nat)(js:À)(hsc:X.env.scope=sc)(fin:∀ ε',I xs.length ε'->J ε')(hsw:autoParam (swapsWith (.ListComp elt [⟨tg,iter,ifs,0⟩] scope pos) (some (.Name x pos')) WG.line X.env=pure true) ă._auto_1)(hK:autoParam (X.K=K) ă._auto_1)(r1:sY vs its)(r2:sY ws MJ)(p1:p<=1000000)(p2:ķ.map (·.1)=ð.map (·.1))(hB2:B.StaysIn h2)(hfr:A.frames=some X.stack)(O:Cl.Ok Bx.K c)(W:WN S h ord R)(hC:s.heap.get? C=some (excClassObj nm q C N bs tl hd sn sub ab col dd k0 k1 k2 k3 k5 newId))(hI:mN "__init__"=some (.ref fI))(hfc:oI.cls=.type "function")(SE:∀ q∈PU,X.env.cells.lookup q.1=some q.2)(QZ:ox.data=.fields vs)(G:Pj p m ç ê ord)(ķ:List (κ×V))(XT:List (TE×TE))(ed:o.data=.dict es ep)(p:Int)(ř:List bo)(bk:Int->Int)(W5:ps.length<=1000)(hP:My.O2 p=true)(Dd:Dm X.prog X.w X.K X.mg X.base k C m ps (Pr R))(hJ:VP F1 J l)(hT:s.heap.get? T=some oT)(hA:A.handled=none)(knd:KeyKind prog w κ)(k':Wt o' ķ)(J:Obj->Addr->It)(p3:LC F1 (ð.map (·.2)) (ķ.map (·.2)))(fz:Fz X H1 H2 a o ķ)(Vi:IsPair s.heap TI (.ref i1) (.ref i2))(Rk:s.heap.IsList l1 xs)(U2:s.heap.IsList l2 ys)(Z:ZS s.heap z TI TO i1 i2 l1 l2 d k)(nd:BL ts)(bs:List (Str×η))(kt:∀ σ H Q,tP re σ H Q->te σ H Q)(Lo:ML 1 C "fit" æ (Pr (RD C)))(cs:Cs)(MN:Mh 1 "ones_row" ā (XO a1c))(LY:ML 2 C "times" ã (Pr (pG C)))(ME:ML 2 C "minus" ã (Pr (uQ C)))(Nz:Mh 2 "ones" ["many"] (Pr b26))(MC:Mh 2 "lead_places" ["rows","many"] (Pr cO))(NP:Mh 5 "reduced" â (Pr (kh C)))(PH:∀ C,ju c C->ML 1 C "reads" Þ (Pr (iJ (decide (C=c.PR)))))(PJ:∀ C,ju c C->ML 1 C "hears" Þ (Pr (iJ (not (decide (C=c.house))))))(LB:ML 1 c.Mj "check_there" Ý (Pr (cP c)))(Lq:ML 1 c.Mj "ties" Þ (Pr (iS c)))(MB:ML 2 c.Mj "home" Þ (Pr (ya c)))(MD:ML 2 c.Mj "ordered" Þ (Pr (ki c ord)))(Mn:ML 2 c.Mj "into" Ý (Pr (pJ c NS.into)))(Ng:Mh 1 "is_whole" þ (Pr a2c))(msg:Ξ)(fo:Λ)(MP:Mh 3 "row_sum" ù (Pr (ie C)))(LV:Mh 1 "by_number" ["told"] (Pr b8O))(ms:List MQ)(LQ:Wf 2 "Field" C í (cK C))(LH:Mh 3 "mixing_ties" ["net"] (Pr (iH c ord)))(Qh:Mh 4 "flow" ò (Pr (AG C)))(OI:Mh 1 "column" ["table","place"] (Pr kq))(Lk:ML 2 c.Mj "listeners" Þ (Pr (bC c)))(U:Int->Bool)(L:Str->Int)(way:Ξ)(ê:List M9)(ç:Θ)(ord:List Mk.MQ)(MW:Mh 4 "times_row" ["field","table","row"] (Pr (gv C)))(MO:ML 4 CE "shown" ä (Pr (pH C CE)))(Qb:Mh 4 "ways" ï (Pr (Rr c)))(Nh:Mh 2 "choices" û (Pr (ig c)))(LR:Mh 5 "ways_by_choice" î (Pr (cC c)))(Lw:ML 2 c.Mj "check_new_name" Ý (Pr (bT c)))(Mc:ML 3 c.Mj "put_in" ü (dH c))(TH:a1L Bx.mg)(kj:∀ a b,kf a=kf b->a=b)(Pf:h∈S.names)(hO:∀ ks∈ç,Wi S (some ks) N/\∀ g∈S.LL,∃ w,be (aT S.Lj (some ks)) (some h) g N m=.inr w)(Mt:((ç.length * S.LL.length:Nat):Int)<=p)(TD:Bx.mg "dict"=none)(Mf:Mh 1 "message_ties" ["many"] (Pr c4Z))(pz:S.Lu.length<=100)(lt:Nat->Nat->Bool)(U8:vs.length<64)(bt:Nat->Nat->Bool)(cm:CmpOf prog w A.in1 .Gt P bt)(hka:kS≠a)(hlen:kz.length=vs.length)(a08:defaultsOf params X.env=([],[]))(cl:PM Bx.K C)(U6:∀ y∈scope.names,y.2=.free->∃ c,(y.1,c)∈PU)(hY:∀ (w:World)(h:Heap),YP w h->(K w.params).In h)(rd:Str->List Int->D)(gs:η)(NQ:Mh 1 "_law_stream" Ā (Pr b2k))(K0:Rn.Tk S.Lj nl L)(kc:W.keepIn K (.ref C)=true)(aC:W.nsIn Bx.K mainGlobals x=some (some (.ref C))){Ē:(model X.prog X.w)}{ē:(model prog w)}{Ĕ:(λ_ _ _ _ _=>pC 0)}{ĕ:(A.deeper (envOfC ğ (aa st) s.heap.objs.size f Lr))}{Ė:(by simp)}{ė:(aE X scope N' cells C s H fp)}{Ę:(λ_ _ _ _ _=>bU Bx.K rfl<|ae (pC 0) (ae (pC 1) aD))}{ę:(.Call (.Name x p) (e::es) [] pos)}{Ě:(W.fnOf x ğ (aN st) (ay st) (aa st) (.ref T) kV doc pm an Lr ct)}{ě:(f'.refl _)}{Ĝ:(.builtin "object.__setattr__")}{ĝ:(by cbv)}{Ğ:(.Call (.Attribute o m apos) [] [] pos)}{Ġ:(NB T pl msg p)}{ġ:(∀ σ' H',N σ' H'->∃ m',m'<m/\W (i+1) m' σ' H')}{Ģ:(W.fnOf x ğ (aN st) (ay st) (aa st) .none kV doc pm an Lr ct)}{ģ:(λ_ _ _ _ _=>bU Bx.K rfl<|ae (pC 0) (ae (pC 1)<|ae (pC 2) (ae (pC 3) aD)))}{Ĥ:(.Attribute o m apos)}{Ħ:(ts.filter λt=>U t.1)}{ħ:(ř.getD a [])}{Ĩ:(backToKw pos (keywordEach [] X.env))}{ĩ:(ε.map Sl.a)}{Ī:(aE X scope N' cells C s3 (upd H2 l<|.lst []) fp)}{ī:(S.Mi.map (·.1))}{Ĭ:(false,eval e X.env)}{ĭ:(upd H2 l<|.lst [])}{Į:(keywordEach [] X.env)}{į:(s.heap.objs.size+1)}{İ:(λz=>nomatch z)}{Ĵ:(by simpa using hl)}{ĵ:(λ_ _ _ _ _=>Đ 0)}{Ķ:(.inl rfl)}{ĸ:(EP X ñ σ Q)}{Ĺ:(by decide)}{ĺ:(Mz hr (Đ 0) dI)}{Ļ:(λ_ z=>nomatch z)}{ļ:(e1.trans e2)}{Ľ:(dg (QP P w) P w K mg base N ğ (aa st) f Lr A outer s H E)}{ľ:(ķ.map (·.2))}{Ł:(ns.map V.int)}{ł:(S.Lj.map (·.1))}{Ń:(he ñ s σ H _ I h)}{ń:(I.ok.hd hc)}{Ņ:(num r,r.getD 2 0)}{ņ:(ř.getD i [])}{Ň:(Mx.Ll many j)}{ň:(grow F H H')}{Ŋ:(Mx.joined t)}{ŋ:(grow F H G)}{Ō:(λxs H Q=>(∃ p ķ,xs=[.ref p]/\Rd H p (.dK ķ)/\Nx H (.dK (bg [] ķ)) Q)\/∃ p ķ,xs=[.ref p]/\b5J H p ķ/\ķ.length<=1000/\Nx H (.dK (bg [] ķ)) Q)}{ō:(ha ñ s σ H _ I h)}{Ŏ:(Lx S ns)}{ŏ:(.inl x.1,.int x.2)}{Ő:(.type "list")}{ő:(starEach (e::es) X.env)}{Œ:(da (Đ 2) Lp)}{œ:(P.getD i [])}{Ŕ:(P.getD w [])}{ŕ:(X.env.qual++"<lambda>")}{Ŗ:(Mo T vf tu)}{ŗ:(λw hw=>a05 rx fx r fs w<|by simpa using hw)}{Ř:(t.2.2.1=x)}{Ś:(λb o hb e=>(sb.2 b hb).trans e)}{ś:(B.getD i [])}{Ŝ:(ķ.map λkv=>kV kv.1)}{ŝ:(da (Đ 0) Lp)}{Ş:(bL (bn S) S.names.length)}{ş:(getMethod ov m pl)}{Š:(starEach [] X.env)}{š:(ð.map (·.2))}{Ţ:(.Compare a [op] [b] pos)}{ţ:(s3.heap.push { cls:=.type "dict",data:=.dict [].toArray })}{Ť:(.dK (bg [] ķ))}{ť:(eV ts (NM U) N h)}{Ŧ:(ha pos ñ s σ H _ I h)}{ŧ:(.For tg iter ss [] pos)}{Ũ:((.inl k:Ws),D.bl true)}{ũ:(Mk.stN p m ç ê ord i)}{Ū:(model P w)}{ū:(e1.trans<|e2.trans e3)}{Ŭ:(.bl true)}{ŭ:(.Tuple elts x1 PQ)}{Ů:(.inr z.1,.int z.2)}{ů:(start N vs)}{Ű:(.Name x pos)}{ű:(Mk.lk R k)}{Ų:(dg CX P w K mg base N ğ scope f Lr A outer s H E)}{ų:(by simpa using h)}{Ŵ:(List.zipWith (λm t=>(m - c * t % p) % p) r lead)}{ŵ:(da (Đ 1) Lp)}{Ŷ:(da (Đ 3) Lp)}{ŷ:(db (ts.filter λt=>Ui t.1) g N h)}{Ÿ:(aT S.Lj<|some [])}{Ź:(false,eval e1 X.env)}{ź:(λ_ _ _ _ _=>Mz hr (Đ 1)<|Đ 0)}{Ż:(λb o hb e=>eb b o hb e)}{ż:((ord.take n).map (·.1))}{Ž:(da (Đ 0)<|da (Đ 7) (da (Đ 1)<|da (Đ 5) Lp))}{ž:(a * u - b * v)}{gV:(Ly p m ê T x)}{Id:(ps.zip us)}{IO:(ç.getD LK.1 [])}{No:(xk Bx.K (pv 0) rfl)}{NE:(Nat.succ.inj hl)}{b4Y:(λr s'=>r=.ok (.ret (.bool true))/\OldK s₁.heap s'.heap/\s'.os=s₁.os/\AllBare s'.gens)}{a0C:(λxs H Q=>∃ (p:Addr)(bs:Ñ),xs=[.ref p]/\LO K H p (bs.map V.bl)/\Q (.bl (bs.all id)) H)}{Own:(λxs H Q=>∃ (p:Addr)(bs:Ñ),xs=[.ref p]/\LO K H p (bs.map V.bl)/\Q (.bl (bs.any id)) H)}{Pi:(av<|Đ 1)}{Ps:(.fz<|.str x)}{PP:(.fz<|.int b)}{Re:(.fz<|.int c)}{Sc:(.fz<|.int a)}{SB:(.BoolOp .And (a::b::rest) pos)}{b9Q:((e::es).length+([]:List Keyword).length+(if ([]:List Keyword).isEmpty then 0 else 1)<30)}{a8O:(dF Ul hr.m rfl<|da (Đ 0) (da (Đ 2)<|da (Đ 10) (da (Đ 7)<|da (Đ 4) (da (Đ 5) Lp))))}{Xi0:(∀ a b,a<b->b<vs.length->bI (rs.getD (p.getD b 0) []) (rs.getD (p.getD a 0) [])=false)}{SZ:(starEach es X.env)}{T0:(by simpa using h1)}{Tl:(λz=>decide (z=x))}{Ty:(.Assign [.Name x pos'] e pos)}{Uf:(.ref it)}{UF:(.ref s.heap.objs.size)}{UV:(.type "dict")}{a1j:(.builtin "len")}{Wp:(QP Bx.P Bx.w)}{WF:(λH' b' N'=>q2 H' ((UU.of e1).trans b') N')}{c3V:((c9 (S.LL.take i) msgs L rd++(msgs.zipIdx.take j).map (qq msgs L rd g)).map (·.2))}{XL:(k _ _ _ q)}{b7Y:(λb o hb e=>kk b o (by simpa using hb) e)}{a2x:(λxs H Q=>∃ p ys,xs=[.ref p]/\(LO K H p ys\/Nu K H p ys)/\Q (.int ys.length) H)}{je:#[CN,CP,CH,CL]}{F7:(au λZ hZ=>?_)}{a0B:(.ListComp elt [#[tg,iter,ifs,(0)]] scope pos)}{Fr:(.ref f)}{nX:#[2,by show⟨⟩]}{lJ:(.dK ķ)}{de:[t.1,t.2.2.2,NB T pl msg p cs x t]}{sB:#[2,.t rfl]}{m8:#[1,.l .lst]}{EM:[none,none,none,none,none,some<|.int (i:Int),none,some<|.int (kn % 2)]}{AR:#[by decide,by decide]}{gq:(.ref a)}{BM:(top 32)}{a6o:(hv ñ s σ H _ I h)}{a1a:(thE a6o λu s1 y H1 I1 ry q=>LW (ha ñ s1 σ H1 _ I1 q) λov s2 gR=>?_)}{SC:(aM hr)}{Dl:(∀ b o,s.heap.get? b=!o->h'.get? b=!o)}{yN:(.ref C)}{a1t:[some<|aH c S,some<|.int m,some<|.int p,some<|.int 0,some<|fD C p,some<|tb [[]],some<|WC [c6 S N m []],some<|.int (S.LL.length * (1:Nat):Int)]}{vZ:#[#[oc,od,.ref T,kV,doc,pm,an,Lr,ct,Nq,1,l,c],kp]}{Uz:(aa st)}{vv:(λvs H Q E gR=>(by let#[_,_,_,_,hl,hR,_]:=gR;cases hR;show hl.length))}{Z7:#[1,by simp,1]}{Ar:[aH c S,.int m,.int p,.int 0]}{kJ:(Hl _)}{a1R:#[ok.mod,ok.kind,ok.glob,ok.blt,ok.above,ok.inj,ok.has,ok.cab,ok.hd,ok.frames,ok.Vw,ok.exf,ok.bs,ok.Wh,ok.UB,ok.Wd,ok.Q7,ok.XI]}{Q0:(λLr A outer s H vs Q E hr h=>?_)}{xj:[(x,τ)]}{a10:#[s.uw++sends T vf s.cs τ x,s.cs,s.left.erase x,s.hs++xj]}{BC:(.builtin "type.__call__" #[.ref C::us,kw])}{lS:(pv 0)}{BH:#[rest,s.cs++[(b,c)],s.left,s.hs]}{a14:(thA Ŧ λus s1 vs H1 I1 r q=>#[I1.Ow,?_])}{ke:(e::es)}{xI:[kV kv.1,kv.2]}{a16:(λv (kv:Ws×V)=>∃ t,v=.ref t/\H' t=!.tup xI)}{S9:#[1,I.turned Ż f0 f1 f3 f4 f5]}{vC:[s1.heap.objs.size]}{a4I:#[2,by decide,#[hl]]}{Sa:#[a4I,.l .lst]}{a19:#[bd (u:=bu) (λt=>decide _) Sa hl λt _=>#[_,#[2],eq_str rfl rfl,λ_=>rfl],UX _ _]}{oN:#[_,HG _ rfl,2]}{tK:(l.map some++js.map λj=>(ε[j]?).join)}{sQ:(∀ b o,b∉wr->b≠S->s.heap.get? b=!o->h'.get? b=!o)}{a2d:(∀ a t H2,f' H1 H2->H1 a=none->H1 t=none->H2 a=!.lst []->H2 t=!.tup [kV (kf x),.ref a]->Q (.ref t) H2)}{yq:(.int i)}{uE:#[[],[],[],[]]}{u8:#[#[2],by simp,1]}{a2h:[!v0,!.int (m:Int),!.ref fa,!.ref lc,!vx,!.ref rb,!.ref ad,!.ref pd,!.int k,!mv,!mx,MX,Mr,MT,Oe,Nr]}{FR:[((k:Nat):Int)+L z.1,((z.2:Nat):Int),((k:Nat):Int)]}{a2j:[Ź,(false,eval e2 X.env)]}{tJ:(tP ra)}{uZ:[.ref p]}{yD:(.nx ε')}{uH:#[#[2],OZ.m]}{Gs:(bc p ř Ň fo ms [])}{zy:(bv S (!h) N m ç)}{a2r:[.int r.1,.str r.2.1,.str r.2.2.1,.int r.2.2.2]}{dU:(Hk ?_)}{a2u:(LW Ŧ λus s1 gR=>(by let#[vs,H1,I1,r1,q1]:=gR;show hc ñ s1 σ H1 vs us Q I1 r1 q1))}{a2v:#[ok,I.os,I.bare,I.base,I.loc,I.cell,I.free,I.N4,λp hp=>I.pin p<|HK _ hp,I.LJ,I.len]}{Ej:#[rest,s.cs++[Ņ],s.left,s.hs]}{zV:[.ref a]}{CQ:(ay st)}{Ad:(NI rs)}{fY:(pv 1)}{fH:(.nx ε2)}{yu:(by first|show Or.inl rfl|show Or.inr rfl)}{Zb:(ai S)}{a2S:(a1F ha hb I h λv u s2 x y H2 I2 rx ry q=>ho ñ s2 σ H2 x y v u Q I2 rx ry q)}{lx:(.Assign [.Attribute o f pos'] value pos)}{vJ:(tP re)}{kx:(bc p ř msg fo ms [])}{qy:(.BoolOp .And (b::rest) pos)}{uz:(dD I hg hm ?_ OO)}{zx:(ε.set i (.fz d))}{FO:(o * a+if k=h then 1 else 0)}{tq:(y / 1009+69621+i)}{r9:(λE σ H=>∃ F0 H0,tQ F0 H0 rb E σ H)}{a3R:(JE JT T F.entry_dict_keyiterator_next ?_<|F.args_dict_keyiterator_next_1 _)}{Wr:(envOfC ğ scope s.heap.objs.size f cd)}{a4g:(.ret .none)}{sV:(λq=>decide (q.1=y))}{Bp:(e.2.2.1<((n / 2:Nat):Int))}{a4k:(λvs H Q E gR=>(by let#[_,l,C,_,hl,hR,_]:=gR;rw[hl.length,(t l C hR).1]))}{E4:(cg cell 3)}{a4l:[none,none,none,some<|br nl,none,none,none,none,none,some<|rw E4]}{Gx:[.Tuple [.Name x px,.Name y py] kt pt]}{BY:[e1,e2]}{Cd:(.Call (.Name "zip" p) BY [] pos)}{tL:(List.take m)}{a4v:(fE false)}{vF:#[#[],#[]]}{NR:(av<|Đ 0)}{yL:(ways.take w)}{zd:(B.getD j [])}{a4F:(.Subscript a b pos)}{a4G:(∀ c o,c≠z->c≠TO->c≠i1->c≠i2->s.heap.get? c=!o->h'.get? c=!o)}{a4J:(lE (match eS ts (!q.1) g N m [] with|.inl ks=>.inl ks|.inr U=>.inr _))}{wB:(t.2.1=x)}{a4M:(qS (pS 5 ND<|dF Nh hr.m rfl (da (Đ 0)<|da (Đ 3) Lp)) λ_ _ _ h=>h)}{va:(found.take i)}{a4P:[(a,seqObj "list" out c)]}{a4R:(P.at #[0] #[0])}{xA:(.bl false)}{E9:(Mk.Ly p m ê Tm r)}{BQ:(g p a)}{a4X:(.Attribute o name apos)}{ve:(xs.map u)}{k8:(i∈ks)}{a40:(.bl (if n=true then not (decide k8) else decide k8))}{a43:(∀ x∈xs,x∈s.left/\∃ t∈T,t.2.2.1=x/\(t.1∉s.ck\/t.1=n))}{a44:(∀ (s:Ê)(v:Value),BindsTo s fd #[[v],[]] [("_law_script",v)])}{Zz:(by simpa using e)}{xW:(.type "int")}{M1:#[us,[]]}{WH:(· % p)}{EE:(.lst l)}{z6:(Ql rt)}{nG:(S.Lu.map λp=>(.inr p.1,gD c p))}{Gq:(av<|fu (Đ 0) Lq hr.m)}{zB:(pv 2)}{m7:((.inl r.1:Ws),rw r.2)}{a5E:(λ_ _ _ _ _=>bU Bx.K rfl<|ae (pC 0) (ae (pC 1)<|ae (pC 2) aD))}{yW:(aT S.Lj !ks)}{a5G:[some<|tb ç,some<|rw nums,some<|tb b,some<|rw ch,some<|.int n]}{Ef:(grow F H<|upd G3 pd o)}{a5I:(I.type.here<|GU ((looks_findIn X ha).here<|GU (L3.here ?_)))}{a5J:(GU<|GU (wpAny_loadPart hx<|GU ((looks_clsIn X Yg).here ?_)))}{ZB:(keywordEach X0 X.env)}{DW:(List.range vs.length)}{zK:(λ_ _ _ _ _=>b1m)}{Zo:(tP rb)}{An:(qr<|Đ 3)}{Aw:(s.left.map .str)}{A7:(rV 0)}{pZ:(.int 2)}{E5:(rO L2.Sub A7<|rC pZ)}{GI:(Mz hr (Đ 9) dI)}{oq:[.ref aC,.ref aS]}{AX:(scaled p r k)}{a5Z:(qS (pS 4 ND<|xK LQ hr.m rfl (da (Đ 2) Lp)) λ_ _ _ h=>h)}{nq:(i,ways)}{nI:(YI r ta tb)}{vy:(LW Ń λu s1 gR=>?_)}{DA:(.lst ys)}{CY:(λz=>?_)}{GA:(jy wi nT js g tt te)}{Ce:(QP P w)}{a56:(dg Ce P w K mg base N ğ scope f cd A outer s H E)}{tO:(kv.1=k)}{wF:(ķ.any λkv=>decide tO)}{qD:(λ_ _ _ h=>#[_,_,h])}{uM:(y,!(t.1,x))}{zc:(stN p m ç ê ord n)}{a6b:(W.fnOf name ğ params body scope dV kV doc pm an Lr ct)}{a6c:#[.int ys.length,H,I.tok _,#[s.toks+1,by rw[HU,hlen]],q]}{zo:[(x,tu)]}{a6d:#[s.uw++sends T vf s.cs tu x,s.cs,s.left,s.hs++zo]}{a6e:[some<|.int c,some<|.int m,some<|rw l,some<|.int x,o4.a]}{kU:(.builtin "object.__class__")}{qc:(LZ p ř ps m u)}{a6h:(∀ σ',σ'.length=σ.length->Sd F σ' H ε'->Q σ' H)}{a6i:(Paired.imp' (fun v kv ⟨t',e',Qm⟩=>#[t',e',?_]) X9)}{xF:#[s.uw,s.cs,s.left++[x],s.hs]}{DE:(c2+7 * (i:Int))}{vS:(bS i)}{tY:(.Subscript o i pos)}{a6n:(λx y H Q=>y=.non/\Q (.bl (not (decide (x=.non)))) H)}{uC:(ho ñ s σ H _ I h)}{CT:(starEach [e] X.env)}{yQ:[fD C p,tb t,.int m]}{GK:#[.inl #[#[0],#[0]]]}{uN:(Uc p m ç ê ord c)}{Au:(bZ ř m.1)}{a6u:((List.range many).map λj=>Mx.dot Au Ň % p)}{Fm:#[.int _,H,I.tok _,#[_,1],q]}{DP:[.ref d]}{rg:(grow F H H1)}{ze:(ε.map Sl.z)}{FV:(.int 0)}{a6A:(top 36)}{B4:(t.getD a [])}{a6C:#[#[1,by decide,#[2],#[hx]]]}{i6:(o * T.2.getD i 0+s b a.2.2)}{xT:(0,none)}{B6:((T.P.getD e []).getD w0 [])}{nC:(aT S.Lj ![])}{a6G:(∀ g∈S.LL,∃ w,be nC ī g N m=.inr w)}{Fx:(Mk.Ls found)}{AY:(grow F H H4)}{z4:(i % rs.length)}{kF:(rs.getD z4 [])}{a6K:((ts.filter λt=>decide Ř).map λt=>L t.2.1+t.2.2.2)}{a6L:(wpAny _ _ (getattributeRaised _ _ _ _ _ _ _) _ _ _)}{a6M:(match be _ _ g N m with|.inl _=>true|.inr _=>false)}{pp:(upd H a o)}{a6O:(I1.LJ.fresh<|Hl _)}{DZ:(g i j)}{SS:(by simpa using h2)}{a6R:(dg CX P w K mg base N ğ scope f cd A outer s H E)}{vw:(as[j]?=bs[j]?)}{qN:(.builtin "sorted")}{ku:(by decide +kernel)}{sk:(iZ rfl T.NW<|da (Đ 1) Œ)}{Z8:(X4 rfl T.Mg<|da (Đ 0) Lp)}{vh:(X4 rfl T.Mg<|da (Đ 1) Lp)}{nA:(X4 rfl T.Mg<|da (Đ 2) Lp)}{FG:(List.map rw _)}{iU:(ms.take i)}{Zt:(NM U)}{yk:(pv 3)}{a69:(dr2 N.dr (d':=.str x) rfl)}{nu:(HR<|HF e)}{a7g:(old_kept λb o hb e=>hk b o hb nu<|Ha _ e)}{a7j:((S.left.erase x).map .str)}{a7t:(λ(kv:Ws×V) p=>kv.1=Sum.inr p.1/\Nd c H kv.2 p)}{a7u:(cS 4 [1] ["number","one","other","delay","name"])}{a7v:(λ_ s'=>∃ σ' H',Inv X ñ σ' H' s'/\Q σ' H')}{a7w:#[_,ε,c,S.step e1,h2,λH2 e2=>q H2<|e1.trans e2]}{oF:((.inl x.1:Ws),D.int x.2)}{zq:(Led<|Rp (Đ 0) LB hr.m ŵ)}{qE:[τ+t.2.2.2,t.1,vf cs x t]}{Y2:(∃ m,W 0 m σ H)}{a7E:(λx y H Q=>y=.non/\Q (.bl (decide (x=.non))) H)}{wq:(I.LJ.fresh<|Hl _)}{kC:(.ref l)}{Ak:(Value.ref ea::us)}{kL:(rL n js ri rt re)}{a7Y:(m5 ri q rb)}{we:[.int num,.int ah]}{ZF:(es.map lu)}{DT:(.lst ZF)}{l7:(K w.params)}{a8e:(Oh T vf τ)}{pL:(s.cs.map λx=>ŏ)}{jj:(eval e X.env)}{FU:(.int i t)}{a8j:(f FU (.int j u))}{cX:(λf vs=>PySem.call f vs)}{a8l:[.int t.1,.str t.2.1,.str t.2.2.1,.int t.2.2.2]}{a8n:(ř,ps.length)}{a8o:#[F,ε,d,S,h,λx H' e q=>k x H' e (S.step e) q]}{xQ:(merged [] ps)}{a8r:(kt_code_dict_new _ #[2])}{wo:(da (Đ 5) Lp)}{si:(q∈MI p t m)}{BV:(da (Đ 1)<|da (Đ 2) Ŷ)}{sS:(da (Đ 0)<|da (Đ 2) Lp)}{mS:(found.take c)}{lX:(cR hb hd λz=>nomatch z)}{a8y:(Nat.add_le_add_left (Nat.min_le_right _ _) _)}{fh:(.Name "range" p)}{Ex:(hb ñ s1 σ H1 _ I1 q1)}{rq:((p,w)::P.zip vs)}{lO:#[.bl _,H,I,1,?_]}{a8E:(F.kt_typeCall_dict_1 _)}{Br:(.ref z)}{Ag:(pyNext Br)}{pE:#[trivial]}{zD:(f x,g x)}{jc:(qr<|Đ 2)}{A6:(pN 5 ND)}{zT:(.Call Ĥ ke [] pos)}{a8U:(λxs H Q=>∃ p ys,xs=uZ/\(LO K H p ys\/Nu K H p ys)/\Nx H DA Q)}{vW:(aN st)}{a8W:(W.fnOf "__init__" ğ vW CQ Uz .none kV doc pm an Lr ct)}{wA:(a8 fY K')}{CU:(aA<|bE lS Lw hr.m wA)}{a8Z:(∀ a H',f' H H'->H a=none->V2 (aJ a ň) H' d a->Q gq H')}{YJ:(.ref T)}{a85:(W.fnOf m ğ vW CQ Uz YJ kV doc pm an Lr ct)}{sM:#[.inl vF]}{a86:#[#[#[#[2,by decide,#[hp]],1],OZ.m],uH,sM]}{Ax:(.call (.ref fa) #[zV,[]])}{a89:(.Raise (!.Call (.Name x np) ke [] MA) none pos)}{a9a:(λv (kv:Ws×V)=>∃ t,v=.ref t/\H t=!.tup xI)}{u7:#[#[4],c1]}{jZ:(pN 7 ND)}{FB:(pN 8 ND)}{a9e:(bU Bx.K rfl<|ae jZ (ae FB aD))}{v8:#[#[3],by simp,1]}{qV:(bW S p rs fo Ŏ many g)}{Ed:(lk (rowsOf ê T a.1) k)}{yt:(bn S)}{E3:[.ref ba,.ref rd]}{jz:(keywordEach [kw] X.env)}{a9z:(λg=>#[_,1,n,dxG,_,1,hNG,1,_,1,fin rfl rfl])}{BE:(bW S p ř none Zb m g)}{a9B:(Array.getElem?_eq_none (by rw[hp.1];omega))}{a9C:(wpAny_dictSet_pairs hk XF λh2 hd2 sb2=>?_)}{a9E:(T7 (·.1) (cf p m ç ê Zb (ai S).length))}{DV:(aP P w)}{nY:(List Ws×Addr×Value)}{rR:(.ref x)}{yI:(σ.set i !v)}{EY:(.type "str")}{mX:(.builtin "isinstance")}{rG:(I.LJ a _ ea)}{iN:(.builtin id)}{sT:["name"]}{Bt:((ř.getD i []).drop m)}{a9Q:(λ_ _=>True)}{Ec:(rL n js (Y0 rd) rt re)}{j8:(q1 a6W)}{Fp:(red p t m)}{ZQ:(.nx #[1] ?_)}{yP:[aH c S]}{wJ:(HJ _ _)}{a9X:((.inr q.1:Ws),iM q.2)}{Fo:(st w,Ll m w)}{a90:(dO cL OC (Đ 3)<|Đ 0)}{Vy:(bz kf nm as)}{zI:(nm.take i)}{EK:(Mx.LI p ś<|Mk.lk R k)}{nE:(ks.map LA)}{VV:(cf p m ç ê ord<|i+1)}{zr:(∀ r∈rs,r.length=n)}{a99:#[bm,ob,b1,b2,hbG,hbP,I.bk _ _ b3,b4,b5,b6]}{b0a:(λv (r:LS)=>∃ b,v=.ref b/\G b=!.tup a2r)}{b0c:(λu s1 ⟨v,H,a,b,c⟩=>k u s1 v H a b c)}{Ee:(.int ķ.length)}{b0h:(.nx ((ε.set j (.ow EE)).set i (.fz d)))}{jM:(qo 6 ND<|c7 Lp)}{xR:(pv 6)}{qY:(oP s₁.heap H)}{b0o:(!.Attribute o f pos')}{DK:(upd H T (.tup [x,y]))}{c2K:(lF (tC FV) lW)}{b0q:(tBM K "list" a50 (kH j) c2K)}{b0r:(λr=>not (decide (r.1∈gs.map (·.1))))}{b0s:((Jd _ _<|Ne.symm b2).trans<|k' b o b1 e)}{b0t:(λh' c' kp e=>fin its r' hz h' c' kp e)}{b0z:(.call Ĝ #[[.ref x,.str name tk,v],[]])}{b0A:(x * z+dot r v - c * (y * z+dot lead v))}{b0B:(Tn n (js.map λj=>(ε[j]?).join) rt re)}{b0C:[some<|uI bs,some<|br ts,some<|.str b.1]}{b0D:(upd H x (.ins CE dx [("rows",.ref d)]))}{b0E:(Mk.Ls va++(bl.take j).map λways=>nq)}{b0F:(∀ b u,s.heap.get? b=!u->h'.get? b=!u)}{b0G:(envX ğ scope s.heap.objs.size f cd cl)}{b0H:(∀ t∈T,t.1=n->tu+L t.2.1+t.2.2.2=τ)}{b0I:(λb ps e=>#[[].toArray,by rw[e];simp])}{AN:(.bl b)}{iR:(.UnaryOp .Not a pos)}{b0L:(LW (hc ñ s σ H _ I h) λd s1 gR=>?_)}{BG:(.If c a b pos)}{CO:(LW Ń λv s1 gR=>?_)}{b0O:(!.Name x pos')}{oR:(.Tuple [a,b] k2 pt2)}{kY:#[xs,xs[i],q,by simp]}{vL:(vs++dvs)}{b0S:(λc v' hc q=>in1 c v' q CY (.inr ?_))}{OY:(x - c * y % p)}{jP:(aj S.le)}{uJ:(l.map λx=>rw (g x))}{vd:(pN 3 ND)}{EX:(My.bk p)}{b0Y:(λ_ _ _ _ _=>bK<|VU SC (Đ 0) (Đ 1))}{gn:[t.2.2.1]}{gc:#[2,by decide,#[#[]]]}{P9:(zg Bx.K)}{dL:[("default",d)]}{b05:(Az X A ğ scope N' PU f (.ref c') s H)}{yw:(jH T msg cs x)}{wX:["_law_script"]}{yY:(λ_ q=>q)}{Ao:(.str x)}{b1a:(LW (ha ñ s σ H Q I h) λc s1 e=>?_)}{b1b:(ho ñ s2 σ H2 x y v u _ I2 r1 r2 q2)}{zj:(k,bG S x)}{b1f:#[#[#[1,#[#[3],#[UD]],1],by simp,1],1]}{Cv:(top 86)}{b1i:["field","mixed","told","rows","many"]}{Am:(pN 13 ND)}{b1k:["field","judgement","into","carries"]}{Gu:(.Attribute e f pos)}{XV:(without p r lead q)}{b1n:(∀ x H',f' H H'->DR ň d x->Q x H')}{b1o:(∀ z H',f' H H'->DR ň d z->Q z H')}{b1p:["field","rows","start","at","place"]}{xp:(dT a1U a4m (Đ 1) SH)}{b1r:#[sB,1,.k rfl kI (by rw[fK,hu];rfl)]}{Aj:(List.replicate n 0)}{b1t:(λy=>if y=name then some v else m y)}{b1u:(λa ha=>nomatch ha)}{b1v:[.ref ea,.int (a.2.1:Nat),.int a.2.2]}{b1w:(λ_ _ _ _ _=>bK<|dT bq cM ĺ (Đ 1))}{b1x:(∀ ps,o≠.tbl ps)}{Di:(neC b o e hx)}{DO:(grow F0 H0 H)}{xJ:(BO X (tP rd))}{b1B:(λ_ _ _ _ _=>dO cL OC (Đ 0)<|Đ 1)}{FW:["row","many"]}{A4:(da (Đ 4) Lp)}{b1G:[some<|bu t,some<|.str x,some<|c8 U]}{Gh:(da (Đ 7) Lp)}{b1I:((HL.mp wn).2.2 x.1 Ė x.1<|by simp)}{gI:(xs.map V.str)}{b1L:#[1,?_,.z #[#[#[2,.i],3],by simp,1]]}{r6:(iY te vS)}{b1N:(some x::js.map λj=>(σ[j]?).join)}{b1O:(λc w' OE z=>hk c w' (λz2=>?_) z)}{oG:(S.step e1)}{KW:(.rt d)}{L6:(S.grow e1)}{u0:(MU ð)}{C3:(ð.map pK)}{b1U:(h3.go S λx H1 F1 e1 u1 S1 q1=>?_)}{ED:(by simpa using hm)}{rJ:(Đ 10)}{b1Y:(λ_ _ _ _ _=>bK<|VU SC ĺ (Đ 1))}{b1Z:((stN p m ç ê ord n).R.getD c [])}{g7:(ç.take i)}{b12:(bQ b9P rfl T.M8 boot_len<|a8 No K')}{JI:(LA x)}{b13:(kf x,V.ref JI)}{qT:(∀ x∈xs,x∈ys)}{b15:(some v::js.map λj=>(σ[j]?).join)}{m9:(.done a4g)}{b17:(tryCatch (pyNext<|.ref I) _ >>= _)}{b18:((c / 2+7919) * 48271 % 2147483647)}{EZ:[5,7,13,101,999983]}{b2a:(aR OW hr.m rfl<|a8 lS (a8 aK K'))}{b2b:(λx y H Q=>r x y H Q\/r' x y H Q)}{b2c:#[2,.l .lst<|b8I (i:=0) (x:=u) rfl]}{b2d:(qr<|Yw (dT bq cM ĺ<|Đ 1) ĺ SH)}{ou:(.inr x)}{su:(List Ws×V)}{Fh:(compareOp .NotEq)}{C7:(.type T)}{wQ:(.ref p)}{x6:#[_,e,1]}{EN:(.lst [])}{wE:(kv.1,v)}{b2m:(λi v=>(es[i]?).map (·.key)=!v)}{fR:(c.of k)}{Cp:(bk (e ħ q))}{sv:(Pr R)}{iI:(oQ K n)}{mW:(ε.set i (.ow d))}{EH:(.int j)}{mE:#[_,1,?_]}{jJ:(.inr #[o,1])}{d3:(l.map g)}{ZU:(rV 1)}{b2x:(.lst<|List.map _ (List.map _ _))}{b2y:(not (decide (c.of p.2=c.house)))}{C4:(by simp[hy])}{xy:(pN 6 ND)}{wN:(Sum.inr p.1)}{b2C:(∀ p∈S.Lu,p.1=y->VG p.2=true)}{yc:(ws++[t])}{xE:(nums ws)}{b2F:["ties","home","listener","many"]}{b2G:(QV p mixed A s n)}{qk:(mixed.map f)}{FQ:#[#[#[2],p1,hP,1]]}{Af:(λvs H Q E h=>?_)}{b2M:(pD SC zB<|pI (Gi Bx.K) yk aK)}{b2N:#[han,by simp,λb hb b' RM e=>?_]}{iK:(sF.trans e1)}{xX:(Mk.M' m r.2)}{b2Q:#[a,vs,1,LO.of<|s _ _ h1,sE s h2]}{b2R:[aH c S,aV ř,.int m,.int p,.non]}{b2T:(by cases hr)}{b2U:(s.hs.map λz=>Ů)}{b2V:(S.cs.map λx=>ŏ)}{b2W:(λl A=>zE c aC l A\/jp c aS l A)}{b2X:#[xs.length - (i+1),#[],1,Nt,p']}{b2Y:(λi h=>h.IsStrIter it ty x t i)}{b2Z:(λε=>∃ o,ε=[.fz _,.fz _,o])}{b20:#[2,.k rfl kS (by rw[eM,z];rfl)]}{b21:["value","step","field","often"]}{oW:(λx=>x.1.isSome)}{EC:(λx1 x2=>x1++x2)}{B7:(λ_ _ q=>Ha _ q)}{b27:(∀ xs,LO K H a xs->xs[i]?=!x)}{b28:(.Assign [.Name x pos'] a0B WG)}{jt:(as=bs)}{pX:(tP (rO f ra rb))}{jR:(xs.map some++cs)}{BU:(os.filterMap id)}{b3e:(Kz Og.typeIs ?_)}{XY:(x.1=k)}{jr:(qr SH)}{oB:(My.To hP)}{io:(av<|Đ 5)}{ja:(Mz hr (Đ 4) dI)}{b3k:#[hx,hm.1,hm.2.1]}{Zf:(hs t' Qm)}{Be:(pN 10 ND)}{jD:(pN 12 ND)}{GG:(g p b)}{mP:(.tbl [].toArray)}{sx:(l.map tD)}{b3s:(λx=>not (decide (O3 T x=[])))}{b3t:(.BoolOp .Or (a::b::rest) pos)}{b3u:(W.instObj C s.heap.objs.size)}{b3v:(I.type.here<|GU (hm.here ?_))}{yJ:(mB n)}{lG:(tQ F0 H0 r)}{A8:(kv.1=y)}{b3y:(ð.any λkv=>decide A8)}{b3z:["field","row","lead","place"]}{kT:(.f nX rfl)}{v7:(pv 8)}{b3C:(s.1++[(z,!(t.1,x))],s.2++[z])}{nV:(db L g N h)}{tM:(aT S.Lj fo)}{b3F:((ε.set j (.fz u0)).map Sl.z)}{vX:(mF a b x q)}{j7:(uK ch)}{b3H:(λb ch=>nums.foldl j7 b)}{b3I:(bc p ř (Mx.Ll m j) fo ms [])}{WP:[x',.ref rd]}{tV:(ks.map kD')}{b3M:#[b,[],1,LO.of<|s _ _ h3,.nil]}{b3N:(xK LQ hr.m rfl<|da (Đ 3) Lp)}{b3O:((X.mg "__name__").getD .none)}{z5:(r.getD 0 0)}{b3Q:#[λ_ z=>(by cases z),λ_=>hx]}{ZM:(T.length+1)}{Ew:#[ps,[],(0)]}{E1:#[.bl _,H,I,1,q]}{Gz:#[[],H,I,.nil,h]}{lY:(.cons rfl .nil)}{b3W:(.Call (.Name x p) [] [] pos)}{qK:(.int ys.length)}{b3Y:(call (.ref fI) (.ref e::us))}{b3Z:(GU (wpAny_dictEpoch a b ?_))}{uk:(l.map λx=>zD)}{rS:(.inl (f x),g x)}{b32:(cS 1 [0] ["number","field"])}{xY:#[#[3],b04 _ _ _]}{b34:((pm.map _).nodup_iff.mpr nd)}{oX:(qo 2 ND<|c7 Lp)}{b37:["message","mixed","carries"]}{b38:["net","plan","many","prime"]}{jX:["names","ties"]}{g9:(ord.getD n xT)}{b4b:(e,w0,l.getLast?.getD<|st w0)}{b4c:(ch.getD (ch.length - 1) 0<n)}{Fc:(t.1,bG S t.2.1)}{FD:(Tm.R.getD c [])}{QG:(Mk.Ol p ê r.1)}{b4g:#[b4.1,p,b4.2.1,b4.2.2,b2,b3]}{xg:(·++vs.toArray)}{b4i:((if_neg c0).trans<|if_neg c)}{CI:(qq msgs L rd g)}{DQ:(.inl k)}{b4l:#[xs.length,by simp,HW _,h0]}{b4m:(wpAny_setField u1 u3 Ė ?_)}{Ay:[.int n]}{iV:(·<=·)}{Z9:(.ref b)}{b4p:(λb H'=>XX X Q Z9 H')}{Bg:(MI p t m)}{b4s:(Mx.LZ p Fp Bg m u)}{rX:(c,ways)}{b4u:(eL T.M8<|fu (Đ 0) Lk hr.m)}{b4v:(t9 Bx.K<|fu (Đ 0) Lq hr.m)}{b4w:((len _).trans (len _).symm)}{oj:(HF e)}{Dv:(neL b o e)}{b4z:(.BoolOp .Or (b::rest) pos)}{Ez:(pyNext Uf)}{lC:(binaryOp .Add)}{EV:(compareOp .Eq)}{B8:(compareOp .In)}{b4F:(upd H5 l (.lst (ys++[v])))}{uA:(.ref ea)}{b4H:(Heap.get?_push_at rfl rfl)}{b4I:(cleared p bk ř start a q)}{Ds:(Nv p u rest _)}{Fs:(Ne.symm c)}{Lb:(rF R rs)}{nO:(by kernel_rfl)}{kW:(wpAny_rule ?_)}{jC:(VQ true)}{Do:(Na a o' F)}{qv:(MU (h9 [] ð))}{lM:#[1,_,LO.of p4]}{xz:(.mk hl h1)}{wY:[fD C p,.int n]}{Gk:(.f rd rfl)}{CG:(pN 2 ND)}{wH:(red p t i)}{CJ:(eL T.M8<|Đ 1)}{tS:[aH c S,.str x]}{ga:(lh nm)}{xu:(eL T.M8<|Đ 3)}{C6:(gA ts x)}{b44:#[_,1,#[sB,1,jO],λ_=>rfl]}{Ct:(pv 4)}{WI:(T.P.getD e [])}{b47:(Ol p ê k)}{b48:((ç.take i).map<|c6 S N m)}{Ff:(ao (top 16) 0)}{AL:(ao (top 15) 0)}{b5b:#[1,_,LO.of UJ]}{b5c:(∀ a,a<l->lt k BQ=false)}{b5d:(p.map λi=>ts.getD i .non)}{GH:[.non]}{b5f:(iE rfl T.Ms<|da (Đ 8) Lp)}{b5g:(.bl (not (decide (l=[]))))}{b5h:((NT.take (i+1)).map V.str)}{qF:(UW<|f'.refl _)}{Kk:(vk S p ř msg)}{AI:(eK gs n L)}{Ek:(.ref CN)}{b5m:(λv H2=>v=.non/\Q rR H2)}{b5n:(dot r v - c * dot lead v)}{b5o:(λvs H Q E h=>(t.ok h).1)}{b5p:(.Compare a [.In] [b] pos)}{b5q:#[ob,es,ho,c1,c2,c3,c4,c5]}{b5r:["ties","home","listener"]}{b5s:["used","came","listener"]}{b5t:["home","touching","used"]}{b5u:["field","values","steps"]}{b5v:(da (Đ 0)<|da (Đ 1) wo)}{b5w:[(Sum.inl S.next,.ref tp)]}{b5x:(HH (by rw[Hm];omega) htz)}{b5y:#[_,KP ho λ_=>[].toArray]}{b5z:(seqItems? (.ref S) >>= _)}{b5A:[tu+L t.2.1+t.2.2.2,t.1,c]}{b5B:((.inr z.1:Ws),D.int z.2)}{b5C:((cg cell 3).getD 2 0 / 2)}{yX:(TP X ñ σ Q)}{CS:(AP X ñ σ Q)}{b5F:(letOwnedTupleGo tg Uf u)}{FA:(by rw[hs,TZ])}{b5H:#[#[xs,q,Hl _],hd σ H p]}{lZ:(.type "bool")}{i0:(λx=>not x.1)}{b5K:(k * x % p * y+dot AX v)}{b5L:(zm K is.length (gNs is))}{Bn:(L2.Na a o' F)}{xw:(L2.Na a o' H)}{b5O:#[_,af,by simpa using p6]}{yO:(xs.foldl g b)}{b5Q:(da (Đ 0)<|da (Đ 3) Œ)}{lT:(List.range m)}{b5S:(da (Đ 4)<|da (Đ 2) Lp)}{b5T:(da (Đ 0)<|da (Đ 1) Œ)}{b5U:(da (Đ 1)<|da (Đ 2) Lp)}{b5V:(da (Đ 0)<|da (Đ 3) Lp)}{b5W:(hk▸b67 (if_pos rfl) p2)}{iL:(xs++[.ref b])}{vD:(Mk.Ma ê r.1)}{pe:(argBest bt j)}{b50:(K4 g2 rfl ?_)}{b51:(numAt xs i > numAt xs j)}{BA:(Rn.Oh T Ġ a)}{wx:(k46.trans kG)}{b55:(I.base.free b o e n hx)}{s0:(kH i)}{b57:(∀ b∈fp,c3e X ñ H b)}{b58:(eI I hg hm hv ?_ hn OO)}{wc:(by grind)}{b6a:(.bl (not (decide jt)))}{hX:[.int i,x]}{b6c:(rF (λl=>R (l++dl)) rs)}{b6d:(oQ X.K n)}{W1:(VQ false)}{b6f:(!.ref s.heap.objs.size)}{vP:(t.map rw)}{b6h:(pS i hN he hi hx hs hf)}{b6i:["field","row","number"]}{b6j:["rows","start","place"]}{qL:(av<|Đ 2)}{DJ:(rV 3)}{b6n:#[1,#[_,1],by decide,hb]}{b6o:((.inr y:Ws),D.bl true)}{kB:(rV 2)}{b6q:(∀ x∈ns,x∈S.names)}{b6r:["field","row","length"]}{b6s:(bY p rs fo Ŏ many m.1)}{oV:[(h,none)]}{b6u:#[x,by simp,by simp[Nw]]}{uL:(st w)}{b6w:#[m,hm,#[2],(bO m).symm]}{b6x:["field","mixed","asks"]}{b6y:[.lst xs,.str z,.lst ys]}{Zc:(pN 11 ND)}{b6A:(listItems_at ho rfl ?_)}{b6B:(seqEpoch_at ho1 rfl ?_)}{b6C:(seqEpoch_at ho6 rfl ?_)}{b6D:(∀ i,i<k->xs[i]?≠!z)}{jY:(wS K isA)}{b6F:(pm.mem_iff.mp<|He _ hq)}{b6G:#[_,_,_,by rw[J9,IP,HD]]}{b6H:[.str "reads",tb (Rg g)]}{b6I:(Pf _ _ d)}{F9:(fs.lookup f)}{b6K:(.Constant .none j pos)}{SL:(2 ^ 62)}{b6M:(.ins C dx (kN f y fs))}{b6N:(call Fr us)}{wU:(upd H l DA)}{ji:[.int i]}{mj:(.int ns.sum)}{b6R:(.type "BaseException")}{zR:(.dK [])}{lv:(.ref d)}{b6U:#[oN,pl.isList.push _]}{uR:#[o,ho,hx,QZ]}{Bu:(.lst _)}{mZ:(ε.set i !d)}{i8:(ns.map .int)}{b6Z:(merged [] (ps.take i))}{Ky:[.ref l]}{ff:(.type "zip")}{sH:(.int k)}{Eu:#[ε,.done,h]}{Fn:(ps++N)}{uS:(V0 OF<|Đ 0)}{AE:#[#[0]]}{b68:(λq=>not (decide si))}{b69:(av<|fu (Đ 0) MD hr.m)}{Gg:(aq c27)}{b7b:#[#[2],#[ho,hn,hl,#[]]]}{b7c:(((x:Int) * v+s) % p=0)}{b7d:(by simp[hr.subset hx])}{EB:(top 94)}{b7f:(dT gZ eA (Đ 2)<|Đ 7)}{b7h:(bc p ř msg fo iU [])}{b7i:((.inr b.1:Ws),br b.2)}{b7j:(grow F H G')}{b7k:(Int×Mk.Ask)}{b7l:(λa b SG hb=>by omega)}{b7m:(λp q1 q2=>#[1,q1,q2])}{Ku:(xs.map .str)}{b7o:(.lst ((dA rs).map tD))}{b7p:(rO L2.Sub A7<|rC FV)}{b7q:(t.1∈S.cs.map (·.1))}{b7r:[(NT.getD (i+1) "",kd)]}{AB:[.int 0]}{b7t:((msgs.length:Int) / 2)}{b7u:(.Slice lo hi none p2)}{b7w:(LW uC λv s1 gR=>?_)}{b7x:(upd H d (.frz o lJ))}{b7y:("kept_posts",.ref dp)}{b7z:(if i=j then 1 else 0)}{b7A:#[c,q,by rw[if_neg c]]}{b7B:#[F,ε,f,S.MR e1,h2,p]}{b7C:(merged []<|ps.take i)}{b7D:(λi=>bs.getD i false)}{b7E:[fD C p,.int a,.int b]}{b7F:#[h1,h3,by show⟨⟩]}{b7G:(λt ht=>(Hw.mp ht).1)}{b7H:(λv x=>(o * v+x) % p)}{b7I:(∀ r∈l,r.length=n)}{b7J:(List.range rs.length)}{b7K:[y * tq % 2147483647]}{b7L:#[y,h1,Sum.inl.inj h2]}{b7N:(Nat.le_trans rm O.Mt)}{b7O:((cg cell 3).getD 0 0)}{b7P:((k==i) || decide k8)}{b7Q:((cg cell 3).getD 1 0)}{b7R:((bH _).mem_iff.mp hr)}{b7S:(some [.none].toArray)}{b7T:(storeName X.env x u)}{uF:#[v,H,I,r,h]}{b7V:(.Constant Ao j pos)}{b7W:(LW ō λc s1 gR=>?_)}{b7X:(LW ō λv s1 gR=>?_)}{w6:(.lst xs)}{b7Z:(∃ xs,LO K H1 a xs)}{b70:(intBits_le_64 h1 h2)}{vq:(I.tok _)}{b72:(∀ v,(x,v)∉binds)}{P3:(Vk x)}{b74:(.Call a4X ke [] MA)}{b75:(.Pass ⟨0,0,0,0⟩)}{Oj:(.ok a4g)}{b77:(JX ?_<|by size_fits)}{b78:(λh=>hb<|by simp[h])}{b79:(hd.ok I.LJ)}{b8a:(.Name "enumerate" p)}{b8b:("kept_ties",.ref dt)}{b8c:(without p ņ lead k)}{EA:(ř.map tL)}{lA:(m+t.length)}{yC:(col t j)}{j0:(Nv p u l v)}{b8h:(List.range' 0 (n+1))}{ue:(h F0 H0)}{b8j:(getAttr? gq "keys")}{b8k:(.lst (TF.map V.int))}{uU:(.ins C n l)}{b8m:(hl ñ s σ H _ I hq)}{jf:(fin ε' h2)}{EJ:#[ha,hb,pE]}{FZ:(.t rd #[2])}{qX:(red p Ŋ m)}{b8r:#[2,by decide,⟨⟩]}{b8s:(.bl (decide (i<=j)))}{Bq:(pN 9 ND)}{B2:(Kc _ J1)}{FN:(flip U t.1)}{tU:(s.1++[uM])}{yF:(z∈keys c)}{b8y:(gG ť N U (cJ ť g))}{b8z:["tie","name","used"]}{oo:(L++[(k,a)])}{b8B:#[#[#[2,sM],1,.i],1]}{b8C:((B a).getD a.2.1 [])}{Av:["value"]}{pR:(pN 4 ND)}{Fg:(pv 9)}{b8G:(.int<|Mx.LI p ś ű)}{b8H:(Lv.trans<|aG sF e2G)}{z8:(LA k)}{b8J:(upd G5 Tz<|.tup WP)}{vQ:(g p<|n - 1)}{b8L:(λi j C hi hj q=>?_)}{b8M:[.ref I,.none,.ref S]}{b8N:(∀ x∈l,jS x=true)}{zi:(p.getD b 0)}{v9:(p.getD a 0)}{b8Q:(.bl (decide (l=[])))}{b8R:(·.push (.int k t2))}{Co:#[[u],[]]}{GF:(.inr g,J g)}{iQ:#[by decide]}{xP:(aJ Pt G)}{Db:(.ref CE)}{b8X:(h ñ s σ H _ I hw)}{b8Y:(hl ñ s σ H _ I h)}{b8Z:(false,eval a X.env)}{b80:(false,eval b X.env)}{b81:(.bl (decide (x=y)))}{b82:(I2.Xj.make C us [])}{b83:(.lst (qi xs lo hi))}{b84:(.Call a4X [] [] MA)}{b85:#[oc,od,.func Ģ,Nq]}{b86:(by simpa using ew1)}{b87:(ForInStep.yield ok)}{b88:[s.heap.objs.size,p]}{b89:#[c,_,1,z,p2.mono e]}{b9a:(.bl (decide (j<i)))}{b9b:(.bl (decide (i<j)))}{b9c:(Mz hr (Đ 1)<|Đ 3)}{b9d:(List.replicate m 0)}{b9e:(Mz hr (Đ 1)<|Đ 0)}{b9f:["number","carries"]}{b9g:(dT b2I a0X (Đ 4) SH)}{b9h:["chosen","numbers"]}{b9i:(λx hx=>nomatch hx)}{b9j:(λ_ _=>Sum.inr.inj)}{b9k:(l.map λ_=>(0:Int))}{b9l:(upd G Tz<|.tup E3)}{b9m:(upd G Tq<|.tup we)}{b9n:(argBest bt (n - 1))}{b9o:(Mz hr (Đ 4)<|Đ 1)}{b9p:(λp hp=>nomatch hp)}{b9q:#[IN hy,hx y<|IN hy]}{b9r:#[oc,od,.func Ě,Nq]}{Z':(upd H x o)}{b9t:(by simpa using hu)}{b9u:(.BinOp a op b pos)}{pi:#[e,?_]}{b9w:(ForInStep.yield r)}{b9x:(.inl<|by cbv)}{b9y:(X.more ñ)}{tE:(jN ry)}{zF:(upd H d v)}{b9B:((t+a * b % p) % p)}{b9C:(tP (rO Sub ra rb))}{b9D:(I2.LJ.fresh<|Hl _)}{xB:(ð.map pr)}{b9F:(iD2 X Itv (tP rd))}{zJ:[MU ð]}{b9H:[.int z.1,.int z.2]}{b9I:(.inl x.1,.int x.2)}{b9J:(by simpa using hn)}{b9K:(cS 1 [] ["place"])}{qQ:(ts.map bu)}{b9M:(Pr (pJ c NS.into))}{b9N:(b.1++gn,b.2++gn)}{CC:(ns.take i)}{lU:(Ma ê x.1)}{DC:(d6 c C Rm)}{b9R:(XM (N.mono e1).dr)}{qB:(N.mono e1)}{EL:(a8 yk K')}{b9U:(t.1,t.2.1,t.2.2.1)}{qp:(Mk.Ls zy)}{b9W:(λt ht=>(cV ht).1)}{b9X:[.str "reads",tb R]}{fZ:(ao BM 17)}{lK:(Sum.inl k)}{DN:(ae Am aD)}{b91:(upd G dx<|.own ea)}{jn:(a8 lS K')}{BK:(g p n)}{b94:(λi=>rs.getD i [])}{DF:(rs.map tD)}{b97:(λv _=>v=.bl true)}{xb:(Đ 11)}{b99:(∀ ķ,o≠.dK ķ)}{Qt:(ř.map tD)}{c0b:(start T vf tu ord)}{xD:#[2,#[AR]]}{c0d:(.inr z.1,.int z.2)}{c0e:(Du (ur RN)<|E8 hr)}{c0f:(pI P9 yk<|pv 10)}{c0g:(pI P9 yk<|pv 11)}{c0i:[none,some<|.int x]}{A3:(J3 _)}{c0k:(e1.trans e2.symm)}{c0l:(.IfExp c a b pos)}{c0m:(.Return (!e) pos)}{uj:(Zx K a)}{c0o:(I.LJ.fresh<|KK _)}{c0p:(call iN (v::us))}{c0q:(its.toArray.size)}{AD:(.str z)}{c0s:(compareOp .NotIn)}{c0t:(ns.map WData.int)}{c0u:(.bl (decide jt))}{c0v:(.Tuple es x1 pos)}{vV:#[?_,?_]}{xS:(λ_=>E)}{wg:(.ref e)}{c0z:(storeTaker? attr)}{ky:(kV k)}{c0C:[s.heap.objs.size]}{lD:(.nx ε)}{GD:(d::l)}{kZ:(.tup l)}{lI:(.lst m)}{c0I:#[ķ,kv,s _ _ h,y]}{mi:#[e1,q1]}{c0L:(L9 hz rfl rfl ?_)}{c0M:[.Return (!e) pos]}{c0N:#[_,_,#[3],fU _ _]}{c0O:#[1,.lst,1,#[1],1]}{c0P:(b5R<|V0 LG (Đ 0))}{Dx:(y∈ts)}{c0R:(eO rfl)}{Op:(qr Eg)}{c0T:["field","number"]}{Zv:(k∈ks)}{c0V:#[2,.k (fJ h1) kI]}{Ym:#[_,_,3]}{c0X:#[#[#[2],hp,hP,1]]}{pf:(rV 4)}{c00:(T.R.getD LK.1 [])}{c01:(A.map<|xZ CE R B)}{c02:(UX _ _)}{c03:(aT S.Lj<|some ks)}{B0:(top 25)}{c05:(kf p.1,V.ref p.2)}{c06:(by simpa using k)}{c07:[.str "alike",a,b]}{Ab:(.ref c)}{c1a:(x / 1009+69621+k)}{c1b:(S.hs.map λz=>Ů)}{c1c:(NT.getD (i+1) "")}{c1d:(msgs.take<|n / 2)}{c1e:(.Tuple es k pos)}{c1f:(.int DZ s.toks)}{c1g:(gk I q<|by simp)}{c1h:(λb u q=>Ha _ q)}{c1i:(hb s us I.Ow hl)}{c1j:(hr.make C us [])}{iG:(!(k:Int))}{c1l:(λ_ _ _ _ _=>hc)}{At:(numAt xs)}{c1n:(setAttr uA f u)}{c1o:(.dK (dY ķ k v))}{c1p:(.Dict [] [] pos)}{c1q:#[1,λa34 Qn=>?_]}{fG:(r.take m)}{pV:(joined t)}{y8:(Option D)}{c1u:(hb F0 H0)}{c1v:#[_,GT Nt]}{c1w:(rMe C m R ra rs)}{c1x:(NH.or b0l<|b62 hu)}{c1y:(Mz hr (Đ 5) dI)}{yK:(qr<|Đ 6)}{c1A:(Pr (pJ c NS.NU))}{c1B:["begins","told"]}{C9:#[1,vN.m]}{c1D:(ř.map λr=>m7)}{jh:(ao a6A 0)}{c1F:#[#[2],W.p1,hP,1]}{xU:(bR Ŏ ř)}{c1H:["number","rows"]}{c1I:(.inl k,.bl true)}{FT:#[#[4],so]}{c1K:(mixed.map (s a))}{Bl:(st a.2.1)}{c1M:(T.P.getD a.1 [])}{ww:(x.2,ways)}{c1O:(.xd ((f,y)::fs))}{c1P:(cS 1 [] ["tie"])}{mD:(ao BM 5)}{C5:(ao BM 2)}{rK:(ao BM 3)}{Pa:(ao BM 1)}{EI:(ao BM 6)}{c1V:(LA t.2.1)}{c1W:(be yW ho g N m)}{c1X:(nm.map λx=>b13)}{Bo:(ao Cv 0)}{xf:(ao Cv 2)}{QH:(pN 14 ND)}{c11:["key","default"]}{B3:(HG _ rfl)}{BJ:(P5 K H k)}{c14:(Mz hr (Đ 1) dI)}{pb:(.lst sx)}{c16:(ckm.mpr<|.inl h)}{c17:(ckm.mpr<|.inr h)}{c18:(dO bM OC GI dI)}{c19:#[F,l,A,s,h1,z,q]}{c2a:[.ref Up,.ref VS]}{c2b:(λq=>nomatch q)}{c2c:(binaryOp .Mult)}{c2d:(.inl<|by grind)}{c2e:#[.ref C::us,[]]}{c2f:[.str name tk,v]}{c2g:(GU (La a b ?_))}{c2h:(I1.LJ.fresh le)}{c2i:(x.map (· * k))}{c2j:#[r0,h1,h2.symm]}{c2k:(R.sh.fit _ hmi)}{c2l:(l.map some++cs)}{c2m:(L2.grow F H H1)}{c2n:#[1,vs,LO.of p4]}{c2o:(args_sorted1 _)}{c2p:(.Name "dict" p)}{c2q:(.frz o<|.dK ķ)}{c2r:(Mx.e B4 q≠0)}{c2s:["ties","start"]}{c2t:(inc msg cs m.2)}{c2u:(c.map λq=>a9X)}{c2v:["net","fallen"]}{c2w:(qo 4 ND<|c7 Lp)}{c2x:(λk a=>FO % p)}{c2y:(mixed.map<|s b)}{c2z:(Vc p mixed A s)}{c2A:(ord.map (·.1))}{c2B:(fW c .listener)}{c2C:[(S.next,x,y,d)]}{c2D:(Sum.inl S.next)}{c2E:(tb (Mx.ones m))}{c2F:[.int w,.ref wy]}{c2G:[V.int<|Mk.st w]}{c2H:(grow AH H1 H2)}{c2I:(ord.getD i xT)}{c2J:(hf.mono<|aj sF)}{c2L:(λ_ _ _=>False)}{c2M:(xs.foldl a8e s)}{c2N:(Rn.step T Ġ s)}{c2O:(pS 8 ND<|du K')}(mh:[h1,h2])(tR:[_,_,_,_])(CD:[_,_,_])(cB:[?_,?_,?_,?_,?_,?_,?_,?_])(EO:[none,none,none,none])(og:[kV,doc,pm,an,Lr,ct])(sA:[s1.heap.objs.size,vC,_,_,H1,1,I1.kept λb o e=>Ha _ e])(uP:[H1,I1,r1,q1])(wZ:[1,by decide])(c2Y:[λr hr=>b2T,λk hk=>(by cases hk),λt _ h=>(by cases h),λr hr=>b2T,List.Pairwise.nil,λz hz=>(by cases hz),λx hx=>(by cases hx),List.Pairwise.nil,List.Sublist.refl _,λx hx=>b3Q])(Ck:[F,ε,f,S,h,p])(FE:[f0,f1,f2,f3,f4,f5])(tF:[_,_,1])(y6:[p1,p2,p3])(z7:[a,vs,1,p1,p2])(lH:[o,es,ep])(tZ:[.int lo t,.int hi u,.int 1 v])(Fd:[h2,h3])(DX:["one","other","delay"])(c28:[λb o q n hb hx=>?_,λb o q n hb hx=>?_,λb o q n hx=>?_,λb o q hx=>?_,λb xs q=>?_,λb o u q=>?_,λb ps q=>?_])(zC:[h3,h4])(c3a:[!v,!.int (m:Int),!.ref fa,!.ref rb,!.ref ls,!.ref d])(c3b:[by decide,by decide])(vT:[oc,od,Nq,tc,td,n,T5])(vc:[Q4,λb hb=>(hf b hb).1])(Go:[es,ep])(jq:[_,1,n,dx,_,1,h1,1,_,1,pr a69 b3k λ_ H1 e1 _=>?_])(pO:[_,1,AH,_,_,bX,XM (d:=.int m) rfl])(c3h:[1,Walks.list (A:=X.A.in1) ń _ p hpn its.toArray,b6U,λi v s' Q' E' hv hQ=>?_,λh' tk hk=>?_])(xc:[H1,I1])(c3j:[_,_,2,_,_,2,_,_])(zW:[_,1,n,dx,_,1,e1 _ _ h1,1])(Zr:["net","many"])(mY:[its,rv,p,hz])(GJ:[f1,f2,f3])(my:[.ref s.heap.objs.size,_])(c3p:[_,b Lr A outer s H E hr F H,F,_,C,lr N s1 hl,(t l C hR).2,λ_ od H' e=>q od H' e])(m4:[_,1,_,1])(vb:[a,vs,1])(qm:[?_,?_])(c3t:[I.ok.frames,I.ok.Vw,I.ok.exf,I.ok.bs,I.ok.Wh,I.ok.UB,I.ok.Wd,I.ok.Q7,I.ok.XI])(c3u:[I.ok.mod,I.ok.kind,I.ok.glob,I.ok.blt,I.ok.above,I.ok.inj,I.ok.has,I.ok.cab])(Dh:[v,ws,1])(c3w:[_,b Lr A outer s H E hr F H])(oO:[N6,MX,Mr,MT])(yU:[_,_,2,_])(pc:[F.binds hb,ok f fd F])(c3A:[B.Nc,λx hx=>B.done x (by let:=B.ks;rw[HD]at this;rw[<- this];show hx)])(kE:[#[0],#[0]])(kR:[by simp,1])(pU:[g1,g2,g3])(Bv:[F,ε,d,S])(c3F:[Og.typeIs,F.args_dict_init_2 _ _,?_])(c3G:[H',I',j,a1,a2,a3,a4])(E6:[F,ε])(FC:[σ',H',Inv.TC I.ok I'.Nb])(CK:[q1,q2,q3])(FY:[#[dx,h1],#[kp,h2,p2],#[kt,h3,p3]])(PB:[g1,g2])(Fv:[1,(by change 0<=sizeLine;decide)])(c3N:[I.os,I.bare,I.base,I.loc,I.cell,I.free,I.N4,I.pin,I.LJ,I.len])(FI:[dx,_,1])(c3P:[λi m σ H=>m=xs.length - i/\i<=xs.length/\Pv i σ H,b4l,?_])(BX:[z,hd,vs,rel,dd])(AO:[a1,a2,a3])(jd:[o5,o6,o7,o8,he])(Fj:[z,its,n,r])(zZ:[its,rv])(yv:[its,r1,pl,hz])(tG:[aH c S,aV ř])(c3X:[λj c q=>?_,λj c q=>?_,λj k c e b n q1 q2 z1 z2=>?_])(vU:[_,1,n,c.Mj,dx])(v5:[IB X G a,kp,λs us Pf hl=>?_])(vO:[H2,I2,r2,q2])(uG:["net","plan","many","prime"])(vm:[MJ,r2,V9,UI])(jE:[_,1,?_])(c34:[_,H9,Inv.RI I.ok I9])(c35:[n,dp,dt,S,x,1,N,hx,hz,hm,q2])(oA:[q1,q2])(wG:[mh,zC])(ic:[mh,h3])(c39:[oc,od,og,Nq,1,lk,RL])(uD:[lH,ho,r])(c4b:[Dh,#[a,ķ,1,y6],1])(c4c:[z,lo,vs,rel,lH,ho,hx,QZ,hk,hp,UZ])(xH:[Dh,#[z7],1])(rD:[a,y6,vs,p4])(c4f:[_,1,.inl b5b,_,1,ml,_,_,2,UJ,Mt,put G2 v _ Qo ?_])(nj:["field","chosen","found"])(c4h:["found","rows_by_choice"])(c4i:[s.heap.objs.size,b88,c0C,its.toArray.size,_,_])(yn:[_,#[2]])(AT:[t,ht,1])(ug:[!.ref a,!.ref n,!.ref Ln])(EG:[dx,fs,ex])(c4n:[its,r,pl,hz])(c4o:[cls,a0,B,H',od,1,os,bare,u,LJ,VJ,hsc,fl,old])(wC:[a,vs,ex,ha,hv])(c4q:[λi d q=>?_,λi d q=>?_])(uf:[wZ,by decide])(v6:[og,vT,a,l,c])(CM:[H,I.tok _,#[_,1]])(As:[oD,esD,epD,hoD,hdD,hcD])(za:[by simp,HW _,#[none,1]])(GE:[k _ _ Ķ e,c])(Bb:[λr hr=>?_,λr hr=>?_])(c4y:[E6,.bl c,S,h,λ_ H' e z=>#[c,z,q H' e]])(Ai:["number",DX])(c4A:[c3a,!.ref ba,!.ref rd,!.ref wa,!.ref ea])(c4B:[rawInt pos.line,rawInt pos.col,.ref c'])(c4C:[a,vs,q1,e _ _ q2 nofun,LC.nt e l vs q3])(mC:[e1,e2])(gx:[tG,.int many,.int p])(Dc:[Value.ref C1,.ref C2])(c4G:[#[2,.l .lst<|aX (k:=2) (by decide)],1])(c4H:["_law_one","_law_other","_law_delay"])(c4I:[mh,#[u,v,h3],h4,h5])(r8:[q1,e _ _ q2])(zA:[E6,c,S,h,q])(Fk:[ε',mh])(DS:[#[],#[]])(c4N:[xs.length - (i+1),#[],1,Nt,#[!x,1]])(c4O:[z,lo,vs,r,ob,Go,ho,c1,c2,c3,c4,c5])(c4P:[O.cn,O.fp,1,_,1,a,c.of p.2,dxa,tF])(qu:[i1,i2])(Gp:[.bl _,H,I,1,q])(rT:[i,hi,1])(p8:[lead,hl,d])(c4U:[my,I.laid keep kJ ?_,1,q.at wq])(c4V:[b,vs,q1,a88 h k k' q2 λ_ _=>nofun])(Ah:[b1,b2,b3])(yG:[aH c S,.int m])(vz:[tF,_,[],2,?_])(qt:[rw msg,.int p])(c40:[o,vs,file,tf,flags,tg,inF,text,tt])(c41:[S.cs,S.left.erase x,S.hs++[(x,a)]])(c42:[f,fd,IB X G a,F.kp])(c43:[λb o q=>?_,by simpa using S.len])(Bi:[x,uP])(Bw:[x,xc,rx,a])(c46:[pl,hz])(Za:[p,vs,1,mh])(c48:[hv,tP.at s q (by rw[a5W hu];rfl)])(On:[a,y6,ķ,p4,p5,p6])(c5a:[.next k1 k2 h1,h2])(c5b:["mine","theirs","field","often"])(sX:[pre,post,e])(c5d:[b8 ě Vg,[],1,Jy,b1u,[],af,.nil])(c5e:[F,S,ns,ř,m,p,msgs,L,J,cs,rd,hv])(vj:[_,HG _ rfl,1])(c5g:[λa v e=>?_,λb o e hb hB=>vV])(EW:[hp,g,d,tk,os])(mO:[oO,Oe,Nr,Od])(fF:[m4,Ln,CD,2])(c5k:[I.ok,I.os,I.bare])(Bs:[H2,I2])(c5m:["self","field","way","number"])(c5n:["field","mixing"])(nZ:[a,b,c])(c5p:[CD,1,I2.kept λb o e=>Ha _ e])(c5q:["number","mixed"])(c5r:[ws,1,zC])(cZ:[k1,k2,k3])(c5t:[h3,tP.at s q (by rw[h4];rfl)])(lL:[o6,o7,he])(c5v:[Vg,e1,as,Wq,han,has,vs,Rj,X9])(c5w:[n,ne,nf,d])(l9:[σ',H'])(d8:[H3,I3])(xt:[o,e,c,d])(c5A:["_law_message","_law_prime"])(Fe:[a,ķ,ex,y6])(ik:[c3j,2,_,_,3])(pF:[ks,g,_,_,QM])(c5E:[ox,vs,a0,hx,hc,hd,h0,h1,W8])(c5F:[a,vs,r8,LC.mono e l vs q3])(c5G:[l,[],b2Q,b3M,tP.at s q rfl])(c5H:["_law_cell","_law_script"])(G9:[f,fd,cl,hm,b,F])(Ea:[t1,t2,t3,t4,t5])(c5K:["mine","field"])(c5L:[dy,x,1,af,1,?_])(c5M:[d,dx,l,a,e _ _ b,c.mono e])(AV:[xc,q1])(c5O:[x::xs,Bs,.cons r1 r2,q2])(c5P:[u,1,rx])(c5Q:[its,r',c46])(sr:[ho,hc,n,hd])(c5S:["_law_ties","_law_order"])(c5T:[ķ,k,e,1,l])(EF:[vs,r,da,hl])(uy:[ws,CK])(mr:[E6,_,S,h1])(lP:[1,#[3]])(ZP:[g,d,t,os])(jb:[mh,_])(c50:[Fj,hl,e])(c51:["_law_post","_law_came"])(zH:[f,fd])(ES:[oc,odi,oda,Nq])(c54:[oc,od,dV,og,Nq,1,lk,RL])(c55:[c4q,λi j c d a n q=>?_])(qe:[Bv,h,q])(lB:["told","name"])(mR:[_,#[_,3]])(c59:[Ui,o8,o9,he,nd,ul,Fi,eW])(Eh:[b,dxb,eb])(c6b:[tF,e1 _ _ h1])(c6c:[.ref n,.str x])(c6d:[_,1,.int i,CD,1,.int i])(oh:[j,hj,ej])(vY:[i,hi,ei])(c6g:[ws,W4,1])(wK:[tR,tR])(c6i:[d,dx,l,hd,PB])(c6j:[I.free,I.N4,λp hp=>?_])(c6k:[#[o,e,ex.1],λa e2=>?_])(c6l:[_,h1,λv z=>by cases z])(c6m:[dd.typeIs,λb q=>?_,hd])(c6n:[lH,ne1.keeps _ _ ho,r])(c6o:[X7,λd H2 e2 h2 hd=>?_])(c6p:[a,us,h1,e _ _ h2 nofun])(c6q:[e,k z λ_ z=>nomatch z])(c6r:[vs,uP])(c6s:[σ7,H7,I7.P8])(c6t:[#[old,h1],h2])(d7:[vb,ha,hv])(c6v:[S,h1,λH1 e1=>q H1 e1])(c6w:[ε1,a,.inr b])(c6x:[R,(0),.done,I.ld,I.Mt])(c6y:[mC,e3,e4])(KR:[ea,_,ws,1])(yh:[u,v,uv])(c6B:[Tz,_,1,Nu.of Xe,1,vz])(c6C:[#[p,p',vs,ws,2,ic],q])(c6D:[a,vs,q1,q2.nt e nofun])(c6E:[c,_,1,.inl z,m.1,m.2])(zQ:[o,ho,hd])(c6G:[m,hn,hl])(YY:[es',ep'])(ZE:[u1,u2])(c6J:[Zr,"prime","falls"])(c6K:[z,TI,TO,qu])(c6L:[MJ,YN,p2,UI])(c6M:[zZ,c46])(c6N:[mh,λ_ hp=>q.at hp])(c6O:[o',e',c',d'])(c6P:[q3,LC.mono e l _ q4])(c6Q:[F',_,f,S',h2,p.up u])(c6R:[S.a,h1,λH1 e1=>b7B])(c6S:[fD C p,rw r])(c6T:[2,by decide])(c6U:[_,.f rd rfl])(c6V:[.str "alike",rw b9d])(c6W:[nZ,λu hu z hz=>?_])(c6X:["ear","way","ahead"])(c6Y:[.int (m:Int),.int p])(c6Z:[zH,IB X G aC,m,pc])(c60:[Hv X G RF,Hv X G Wu])[c61:∀(hg:∀ cells C s H fp,PG ė tg b6d)(ht:∀ cells C s H fp,PX ė ifs z6)(he:∀ cells C s H fp,PE ė elt vJ)(hs),0][c62:∀(hb:YX X.K fd ps ds)(hd:sY dvs ds)(hx:c5z CX X E),0][c63:∀(ha:PE X a tJ)(hb:PE X b Zo),0][c64:∀(vs:π)(H:Hp)(Q:VK),0][c65:∀(X:Bx.K.In h)(G:h.Ns mainGlobals Bx.mg),0][c66:∀{ts:List (T ν)},0][c67:∀(ha:PE X a ta)(hb:PE X b tb),0][c68:∀(hi:X.N[i]?=!x:=ă)(hx:Aa X.env.scope x:=ć)(hs:swapsWith e b0O pos.line X.env=pure false:=ă)(hf),0][c69:∀(S:ar N ps Uz)(t:uO N.length ps.length r R)(b:∀ (Lr:Value)(A:Ë)(outer:List Env)(s:Ê)(H:Hp)(E:XK),LM k ĕ->RT (dg MY P w K mg base N ğ Uz f Lr A outer s H E).Ur CQ r),0][c7a:∀(N:η)(t)(b:∀ (Lr:Value)(A:Ë)(outer:List Env)(s:Ê)(H:Hp)(E:XK),LM k ĕ->(ps++N).Nodup->RT (dg MY P w K mg base Fn ğ Uz f Lr A outer s H E).Ur CQ r)(S:ar Fn ps Uz:=by exact Py),0][c7b:∀(mixed:Ξ)(A:List Ask)(s:Ask->Int->Int),0][c7c:∀(CE:Addr)(H G0:Hp)(ks:Ξ)(LA:Û)(Mq:υ)(m:Nat),0][c7d:∀(ht:PG X tg g)(hg:Xt g q)(hb:RT X ss rb)(hs),0][c7e:∀(T:Oo Bx.K Bx.mg CE),0][c7f:∀(k:∀ σ H Q,t' σ H Q->t σ H Q),0][c7g:∀(K:Tk T ord L)(O:Ok T ord L tu τ s)(w:∀ x∈s.left,missing T s.cs x≠[]),0][c7h:∀{β:Type}(xs)(I:β->Ú)(g:β->α->β){b:β}(h0:I b ε)(hl)(k:∀ b x ε,x∈xs->I b ε->∃ ε1,q (u x) ε ε1/\∃ ε2,rb ε1 fH/\I (g b x) ε2),0][c7i:∀(x:V)(y:V)(H:Hp)(Q:VK),0][c7j:∀(hg:Gl X x),0][c7k:∀(hs:starEach ke X.env=Ĭ::starEach es X.env:=ă),0][c7l:∀{o value:Expr}{f:Str}{pos pos':Pos}{ta tv:TE}{C:Addr}(T:mH X.K C f)(ha:PE X o ta)(hv)(hs:swapsWith value b0o pos.line X.env=pure false),0][c7m:∀(F:OR K x ğ st f fd),0][c7n:∀(F:ExcBaseFacts B newId X3 bm)(T:OwnTail s.heap bm tl)(hC)(hN:s.heap.Ns N mN)(hI)(hf:s.heap.get? fI=!oI)(hfc)(hz:us.length<=sizeLine),0][c7o:∀{rk:ν->Nat}(hr:∀ t∈ts,rk t.2.1<rk t.2.2.1),0][c7p:∀(S:ar N ps Uz)(t:c4W N.length ps.length z R)(b:∀ (Lr:Value)(A:Ë)(outer:List Env)(s:Ê)(H:Hp)(E:XK),LM k ĕ->nU Ľ xS CQ z),0][c7q:∀{oc tc:Value}{od an td:ψ}{Nq T5:ω}{n:Nat}{kV doc pm Lr ct:Value},0][c7r:∀(C:Addr),0][c7s:∀(hs:starEach BY X.env=a2j:=ă)(TZ),0][c7t:∀(ts:List LS),0][c7u:∀(hg)(ht)(he:∀ cells C s H fp,PE ė elt te),0][c7v:∀(pa)(slot)(Yb)(hm:MtR X id r)(ho:PE X o to),0][c7w:∀(σ:St)(H:Hp),0][c7x:∀(S:Sd F σ H ε),0][c7y:∀(P)(w)(K)(mg)(base)(k:Nat),0][c7z:∀{α:Type}{P:List α->Prop},0][c7A:∀(hg:Gl X "range")(hm:X.mg "range"=none),0][c7B:∀{xs:List α}{u h:α->D}(hi:ri ε ve)(hl:xs.length<=1000)(k:∀ x∈xs,∃ l,sW n (u x) l/\re tK (h x)),0][c7C:∀(k:∀ m p,1<=m->m<=N->Pre p m N->V1 lt p m->Q (m,p) s),0][c7D:∀(k:∀ σ H Q,tP re σ H Q->te σ H Q),0][c7E:∀(OO)(he)(Of),0][c7F:∀(k:∀ b u,h.get? b=!u->h'.get? b=!u),0][c7G:∀(ha:PA X ke Ad),0][c7H:∀{st:Stmt}{k:Nat}(F:MM K x ğ st f fd)(S:ar N ps Uz),0][c7I:∀(hA)(h:∀ h' tk e,Heap.NewExcOf s.heap h' e "AttributeError"->Q none { s with heap:=h',toks:=tk }),0][c7J:∀(hb:∀ (kV doc pm:Value)(an:ψ)(Lr ct:Value)(us:θ),us.length=ps.length->bindArgs Ģ M1=pure Id),0][c7K:∀(ha:ra ε yq)(hb:rb ε EH),0][c7L:∀(c:Cl)(ord:NS->Æ),0][c7M:∀(h:LN S ord R),0][c7N:∀(h:Ut CE H G0 ks LA Mq m es L MK G),0][c7O:∀(I:b07 p m ç ê ord n T)(G),0][c7P:∀(σ:St)(G:Hp),0][c7Q:∀(hn:(assignEach es X.env).length=n:=ă)(TY:(assignEach es X.env).findIdx? (·.1)=none:=ă),0][c7R:∀{tb:TS}{D:Ends}(Pv)(h0:Pv 0 σ H),0][c7S:∀(hr:LM (k+1) X.A),0][c7T:∀(ε:En)(d:D),0][c7U:∀{x ğ:Str}{st:Stmt},0][c7V:∀{K:Ψ}{C:Addr}{ğ:Str}{st:Stmt}{f:Addr}{oc:Value}{od an:ψ}{Nq:ω}{kV doc pm Lr ct:Value},0][c7W:∀(p:Int)(m:Nat)(ç:Θ)(ê:List M9)(ord:List MQ),0][c7X:∀(K:Tk T ord L),0][c7Y:∀{P:É}{w:World}{K:Ψ},0][c7Z:∀(c7j)(hm:X.mg x=none),0][c70:∀(n)(hc)(S:bx X scope yJ js N'),0][c71:∀(hl:nm.length<=1000)(ht:∀ x∈nm,∀ v H1 (Q:VK),DR H1 (u x) v->a2d->te b15 H1 Q),0][c72:∀{as bs:List α}(hK:X.K=K)(I)(r1)(r2)(p1:Paired (R H) vs as)(p2:Paired (R H) ws bs),0][c73:∀(T:b5G Bx.mg),0][c74:∀(v0 vx mv mx:V)(fa lc rb ad pd:Addr)(m:Nat)(W0:ξ)(Mq MK:υ)(ê:List Mk.M9)(k:Int),0][c75:∀(hc:∀ cells C s H fp,Cc ė)(S:bx X scope nT js N')(hi:FJ Cc X tg iter wi)(c7u),0][c76:∀(F:MM Bx.K "plan_for" "plan_for" EB f fd),0][c77:∀(hN)(hi:X.N[i]?=!x)(hx),0][c78:∀{kindOf:Str->Option NameKind},0][c79:∀(re:Rx)(ε:Ev),0][c8a:∀(ts:List (T ν))(U:Int->Bool),0][c8b:∀(W:WN S "h" nl R),0][c8c:∀(F:Flow ts U h g v),0][c8d:∀(mu)(he:e=x\/H e=!.own x)(k:∀ b u,b≠e->h.get? b=!u->h'.get? b=!u)(heo),0][c8e:∀(hx:X.env.scope.names.lookup x=!.local),0][c8f:∀(f:Str)(D:Ends)(σ:St)(y:V)(x:V)(H2:Hp),0][c8g:∀(h:∀ (s':Ê) out c,s'.os=s.os->G a4P s'->sy kz vs out.toList->P m9 s'),0][c8h:∀(O:Ok T ord L tu τ s),0][c8i:∀(X:K.In s.heap)(I:Vp s.heap x dx C mA),0][c8j:∀{l:List α},0][c8k:∀(hlen)(U8)(h:∀ (s':Ê) out c,G a4P s'->sy kz vs out.toList->P m9 s'),0][c8l:∀(Q:VK)(x:V)(H1:Hp),0][c8m:∀(x:RE s.heap d es ep),0][c8n:∀{ps:List (κ×Value)},0][c8o:∀(hu:X.A.units+(k+1)<cLine),0][c8p:∀(I)(e:H a=!.ins C dx fs)(c:PM X.K C),0][c8q:∀{K:Frag}(X:K.In s.heap)(hx:s.heap.get? x=!ox)(SE:ox.cls=.ref C)(QZ),0][c8r:∀(c66){h:ν}{cs:Cm ν}(C:Oc ts U h cs),0][c8s:∀(F:LX X.prog X.w X.K X.mg X.base (QP X.prog X.w) k f fd ps sp)(hr),0][c8t:∀(hp:jT K C=true)(ht:takerIn K C name=!none)(hh:hasDictIn K C=true),0][c8u:∀{st:Stmt}{k:Nat}(c7m)(S:ar N ps Uz),0][c8v:∀(hg:Gl X "zip")(hm:X.mg "zip"=none),0][c8w:∀(h:F a=!o)(k:Wt o ķ)(k'),0][c8x:∀(hc:ç[c]?=!ks),0][c8y:∀(A){Q:Nat×Array Nat->Shared->Prop},0][c8z:∀(W:Walks prog w A.in1 I fp wr n P St)(bt)(cm)(S:Addr)(nS:S∉fp),0][c8A:∀(he:PE X o ta)(D:Dm X.prog X.w X.K X.mg X.base k C m ps sp)(hr),0][c8B:∀(ok:∀ f fd,OR Bx.K "__init__" ğ st f fd->QN MY k f fd ps sp),0][c8C:∀(R:It->Ù)(vs:π)(H1:Hp),0][c8D:∀(p:ν->Bool),0][c8E:∀(ha:a<ř.length),0][c8F:∀(he:PE X e te),0][c8G:∀(he:PE X e ta)(hb:attributeBase e f X.env jj=eval e X.env),0][c8H:∀(k:W.keepIn K Fr=true),0][c8I:∀(hu:A.units+1<cLine)(I),0][c8J:∀(hu)(ho:PE X o td)(hi:PE X i ty),0][c8K:∀(hs:starEach [e] X.env=[Ĭ]:=ă),0][c8L:∀(e:∀ b o,F b=!o->b1x->F' b=!o),0][c8M:∀(ok:∀ f fd,OR Bx.K x ğ st f fd->QN MY k f fd ps sp)(hb),0][c8N:∀(r:KV ķ vs)(k:κ),0][c8O:∀(c64)(E:XK),0][c8P:∀(xs)(I:Ö)(h0)(hl),0][c8Q:∀(h:Heap),0][c8R:∀(i)(hN:X.N[i]?=!x:=ă)(hv:wf X.env.scope x:=by first|exact Or.inl rfl|exact Or.inr (Or.inl rfl)|exact Or.inr (Or.inr rfl))(hd)(RL),0][c8S:∀(ok:P6 P w H h),0][c8T:∀(c7R)(hl:∀ i σ H,i<=xs.length->Pv i σ H->LO K H a xs),0][c8U:∀(len:∀ vs H Q E,sp vs H Q E->vs.length=ps.length:=by intro _ _ _ _ h;first|(cases h;subst_vars;rfl;done)|repeat first|(obtain⟨rfl,_⟩:=h;rfl;done)|obtain⟨_,h⟩:=h),0][c8V:∀(he:PE X o ta)(c:PM X.K C)(hm:Ch X.K C m f)(F)(hr)(c62),0][c8W:∀(i:W.isFn K Fr=true),0][c8X:∀(hs:swapsWith e none pos.line X.env=pure false:=ă),0][c8Y:∀(D:Dk X.prog X.w X.K X.mg X.base k x C ps sp)(c7S)(c7j),0][c8Z:∀(x:P6 P w H h),0][c80:∀(hc:Md X iN r)(c7Z)(hv:bootBuiltins x=!.builtin id),0][c81:∀(hc)(S:bx X scope nT js N')(hi:PI X tg iter wi)(c7u),0][c82:∀(hp:0<p),0][c83:∀{f:α->Ws}{g:α->D},0][c84:∀(p:Int)(t:Θ)(m:Nat),0][c85:∀(W:Q8 ts x ws y),0][c86:∀(OO)(TY)(Of:(backTo MA SZ).any (·.1)=false:=ă),0][c87:∀(P:Pre p n N)(D:∀ a b,a<b->b<n->St lt GG BQ),0][c88:∀(S:SK prog w A' f vs kz G)(g)(hka)(hk)(hlen)(U8),0][c89:∀(QB)(c7k)(ON:(backTo MA SZ).any (·.1)=false:=ă),0][c9a:∀(hg:Gl X "enumerate")(hm:X.mg "enumerate"=none),0][c9b:∀(h:DR F d v),0][c9c:∀(q:Õ)(rb:Rs)(ε:Ev)(f:Fl),0][c9d:∀{TI TO:Addr},0][c9e:∀(ř:List bo),0][c9f:∀(L:List (Int×Ask)),0][c9g:∀(hP)(S:Mx.Sh p m t),0][c9h:∀(hc:Md X C7 r)(c7Z)(hv:bootBuiltins x=!.type T),0][c9i:∀(K:Ψ)(mg:Ω),0][c9j:∀(I)(k:∀ b u,s.heap.get? b=!u->h'.get? b=!u),0][c9k:∀{α:Type},0][c9l:∀(W:St->XK),0][c9m:∀{tg:Expr}(c7Y)(it d:Addr)(o){es:Ò}{ep:Nat}(ed),0][c9n:∀(S:NS)(ns:η),0][c9o:∀(ř)(msg)(fo),0][c9p:∀(C:Oc ts U h c),0][c9q:∀{xs:List α}(nd:xs.Nodup),0][c9r:∀(c7U){ps:η}{sp:Sp}{k:Nat},0][c9s:∀(a:Addr),0][c9t:∀(x:LP P w H h a o),0][c9u:∀(r:List V->Hp->VK->Prop),0][c9v:∀(r:V->Option Int->Option Int->Hp->VK->Prop),0][c9w:∀(hz:ys.length<=sizeLine),0][c9x:∀(hd:∀ σ H,Pv xs.length σ H->D.nx σ H),0][c9y:∀(c66){V:Int->Bool},0][c9z:∀(S:b7g X scope p js N')(I)(SE)(U6)(hA)(hfr),0][c9A:∀(ha:PT X a tA),0][c9B:∀(hl:PE X l tl),0][c9C:∀(I)(r:sY vs us),0][c9D:∀(K)(x ğ:Str)(st),0][c9E:∀(I:s.heap.IsKeyIter it d i es.size ep)(c8m),0][c9F:∀(e:f' F F'),0][c9G:∀(e:f' H H1),0][c9H:∀(hu)(c63)(hm:behindInMarks .In b=false:=Ą),0][c9I:∀(E)(hh:h∈nm),0][c9J:∀(h:∀ LK∈ê,LK.2.flatten.Nodup)(k:Int),0][c9K:∀(CE:Addr),0][c9L:∀(T:List LS)(pl:Int->Ξ),0][c9M:∀(hc:PT X c tc)(ha:Q1 X a t)(hb:Q1 X b u),0][c9N:∀(K:Ψ)(x ğ:Str)(st:Stmt)(f:Addr)(fd:È),0][c9O:∀(hr)(c7j)(ha)(c7E),0][c9P:∀(hp:O2 p=true)(h1:0<r)(h2:r≠1)(h3:r<p),0][c9Q:∀(q:∀ x G',f' G G'->DR b7j d x->Q x G'),0][c9R:∀(Cs:Addr->Prop)(m:Str),0][c9S:∀(R:List D->Addr->Prop),0][c9T:∀(hc)(hg:Gl X "max")(hm:X.mg "max"=none),0][c9U:∀(c:Cl)(H:Hp)(fi:Int)(a Ln n dp dt:Addr),0][c9V:∀(a:W.findIn K yN "__init__"=!some Fr),0][c9W:∀{ws:List (T ν)},0][c9X:∀(K:Ψ)(x:V)(lo:Ô)(hi:Ô)(H:Hp)(Q:VK),0][c9Y:∀{st:Stmt},0][c9Z:∀(h:QS X st r),0][c90:∀(F:MM K x ğ st f fd),0][c91:∀(h:k∈cs.map (·.1)),0][c92:∀(U:Ξ)(k:Int),0][c93:∀(ht:t∈S.Lj),0][c94:∀(q:∀ p,Pre p N N->V1 lt p N->Q p s),0][c95:∀(ho)(c67)(hm:behindInMarks op b=false),0][c96:∀(F:LX P w K mg base CX k f fd ps sp),0][c97:∀{R:Hp->V->α->Prop}(h:YF X.K R k)(c8o),0][c98:∀(hd:H d=!u)(h1:∀ b,u≠.own b)(h2),0][c99:∀(fin:∀ ε,I xs.length ε->r2 ε f),0][d0a:∀(I)(h:LO X.K H a xs),0][d0b:∀{id:String},0][d0c:∀(l:List α),0][d0d:∀(hu:A.units+k<cLine),0][d0e:∀(e:H a=!.dK ķ),0][d0f:∀(c7U){ps:η}{k:Nat}{r:Rs}{R:Ä}(N:η),0][d0g:∀{p:ν->Bool}{t:T ν},0][d0h:∀{s:Option (Int×ν)},0][d0i:∀(h:k∈R.map (·.1)),0][d0j:∀(hx:ord[n]?=!x),0][d0k:∀(found:List Δ),0][d0l:∀(e:f' H G),0][d0m:∀(L:US nl S),0][d0n:∀(M)(F)(c7S)(c7j)(hm:X.mg x=!.ref C)(c62),0][d0o:∀(k:∀ E σ H,t' E σ H->t E σ H),0][d0p:∀(U8)(hn:1<=n)(T:Ug s.heap n vs rs),0][d0q:∀(r:rp x u),0][d0r:∀(r:rp v u),0][d0s:∀(R:Hp->V->α->Prop),0][d0t:∀(a:W.findIn K yN m=!some Fr)(c8W),0][d0u:∀(t:Θ)(v:Ξ),0][d0v:∀(k:SU f r)(c63),0][d0w:∀(ha:ra ε Ao)(hb:rb ε (.str y)),0][d0x:∀(c:Cm ν),0][d0y:∀{c:Cm ν},0][d0z:∀{nm:List α}{kf:α->Ws}{u:α->D},0][d0A:∀{CE:Addr}{ê:List Mk.M9}{T:Mk.SV},0][d0B:∀(c8i)(hg:W.plainGet K C name=true),0][d0C:∀(h:Inv p a r m)(hp:2<=p)(hr:0<r),0][d0D:∀(h:Ok p m P F),0][d0E:∀(m:Nat)(p:Int),0][d0F:∀(e:∀ b o,G b=!o->b99->G' b=!o),0][d0G:∀{p:κ×V}{r:List (κ×V)}{k:κ},0][d0H:∀(c64)(x3:XK),0][d0I:∀(h:ķ.map (·.1)=ð.map (·.1)),0][d0J:∀(fo)(ms)(many:Nat),0][d0K:∀{t:T ν}{x z:ν}(h:Q3 t x U=!z),0][d0L:∀(R:Mk.Ask->Mk.Q9)(B:Mk.Ask->Θ),0][d0M:∀(i:Nat)(c7P),0][d0N:∀(T:List T4)(ord:η)(L:Str->Int),0][d0O:∀(lo hi:Ô),0][d0P:∀(A){Q:Array Nat->Shared->Prop},0][d0Q:∀(hs:Heap.SameBut a s.heap h'),0][d0R:∀(P:É)(w:World)(c9i)(base:Heap),0][d0S:∀(l:K.lookup f=some b85)(c)(c8H),0][d0T:∀(cells:Ã)(C)(s:Ê)(H)(fp:υ),0][d0U:∀(O:AS X),0][d0V:∀(hs:UnR b:=by exact λ_ _=>rfl),0][d0W:∀(O:Cl.Ok K c),0][d0X:∀(S:Sh p w ř),0][d0Y:∀(c7j)(c7G)(c7E),0][d0Z:∀(n:Bool)(x y d:D),0][d00:∀{f:α->Int},0][d01:∀(hf:∀ k,uq fo k=decide Zv),0][d02:∀(e:f' G G'),0][d03:∀(p:Array Nat),0][d04:∀(G:Q2 m p Zb ř),0][d05:∀(c7Y){elts:Ì}{x1:Nat}{PQ:Pos},0][d06:∀(p1:Rd F1 a lJ)(p2)(p3)(fz),0][d07:∀(h:(l.map f).Nodup){g:α->D},0][d08:∀{M:Model}{A:Ë}{E:ρ}{s:Ê},0][d09:∀{x1:Nat}(c8v)(ha:PA X BY ta),0][d1a:∀(hd:H d=!.dK ķ),0][d1b:∀(h:∀ i j,eJ DZ=true:=by intro _ _;rfl),0][d1c:∀{ð:ι}(h:F a=!.frz ob lJ),0][d1d:∀(I:Ú)(c:α->Bool)(h:α->D),0][d1e:∀(T:List Int×Ξ),0][d1f:∀(e:Nat)(ways:Θ),0][d1g:∀(W)(hs:∀ t∈ts,t∈S.Lj),0][d1h:∀(e1:List Mk.M9)(L:List b7k),0][d1i:∀{l:W.OpenLaw}{K:Params->Ψ},0][d1j:∀(pz:S.Lu.length<=7)(hP)(p1),0][d1k:∀(h:YF K R k),0][d1l:∀(S:Sh p m t),0][d1m:∀(p)(t:Θ)(m),0][d1n:∀(ms:List MQ),0][d1o:∀(T:a2i Bx.mg),0][d1p:∀(h:DR H d v),0][d1q:∀(T:Cg Bx.mg),0][d1r:∀(c7Z)(hv:bootBuiltins x=!u),0][d1s:∀(ho:NH X (binaryOp op) r),0][d1t:∀(hh:W.hasDictIn K C=true),0][d1u:∀(outer)(P)(w)(H)(s:Ê)(Q),0][d1v:∀(sp)(dvs)(E:XK),0][d1w:∀{l:OpenLaw}(hn:l.most=!n),0][d1x:∀(nT)(js)(g:TG)(tt:TT)(te),0][d1y:∀(ķ)(k:κ),0][d1z:∀(p)(u:Nat),0][d1A:∀(h:PS X st r6),0][d1B:∀(ha:PT X a z6),0][d1C:∀(ha:PE X a tJ),0][d1D:∀(he:PE X o tJ),0][d1E:∀(ha:PE X e vJ),0][d1F:∀(h:Q3 t x U=!y),0][d1G:∀(T:GM Bx.mg)(TI:a1K Bx.K),0][d1H:∀(W)(hP)(hO)(Mt),0][d1I:∀(ê:List Mk.M9),0][d1J:∀(S:SK prog w A f vs kz G),0][d1K:∀(N6 MX Mr MT Oe Nr Od:Sl),0][d1L:∀(c7y)(x)(ps),0][d1M:∀(h:lead.length=r.length),0][d1N:∀(rs:Á)(c7T),0][d1O:∀(i:Nat)(c79),0][d1P:∀(R:Result->Shared->Prop),0][d1Q:∀(i:Nat)(rk re:Rx)(ε:Ev),0][d1R:∀(ε:Ev)(c7r),0][d1S:∀(h:¬ k∈cs.map (·.1)),0][d1T:∀(A){Q:Nat->Shared->Prop},0][d1U:∀(c7X)(hn:n∈T.map (·.1)),0][d1V:∀(X)(ñ)(σ),0][d1W:∀(ha:PE X a ta),0][d1X:∀(vs:π)(H1:Hp),0][d1Y:∀(c7Y){tg:Expr}(a it:Addr),0][d1Z:∀(r:LM (k+1) A),0][d10:∀(K)(T:String)(r)(to:TE),0][d11:∀(c9Y){kV:Value},0][d12:∀(hx:c5B X W),0][d13:∀(g:PY H a y o),0][d14:∀(I)(hd:H d=!.frz o lJ),0][d15:∀(c82)(h:Np p r),0][d16:∀(p)(bk)(ř:Θ),0][d17:∀(hp:1<p),0][d18:∀(hP:O2 p=true),0][d19:∀(ra rb:Rx)(c7T),0][d2a:∀(h:PE X e vJ),0][d2b:∀(ð:ι)(y:Ws),0][d2c:∀(c66){h:ν}(d0y),0][d2d:∀(ts)(h:Option ν)(g:ν),0][d2e:∀(r:Paired F l₁ l₂),0][d2f:∀(c7F)(hp:h.objs.size<=a),0][d2g:∀(hN)(U3:X.N[i]?=!x)(c8e),0][d2h:∀(p)(P:Θ)(w:Nat)(t:Ξ),0][d2i:∀(ht:¬ p ∣ dot Ŕ t),0][d2j:∀(p:Int)(A:List Mk.Ask),0][d2k:∀(c76)(c73)(LQ)(Nh)(LR)(Lk),0][d2l:∀(h:Sw CE G Mq MK ê T),0][d2m:∀(h:Pre p n N)(hn:n<=N),0][d2n:∀(F:zG Bx.K x ğ st)(c65),0][d2o:by show callType_codes (Q₁:=λobj s₁=>obj=.ref s.heap.objs.size/\s₁={ s with heap:=s.heap.push { cls:=.type "dict",data:=.dict [].toArray } }) F.kt_called_dict a8E F.entry_dict_init a8r ?_;rintro obj s₁ ⟨rfl,rfl⟩;let Og:(s.heap.push { cls:=.type "dict",data:=.dict [].toArray }).DictOf knd s.heap.objs.size []:=Heap.DictOf.new s.heap][d2p:by intro ñ s σ H Q I h][d2q:by show GU (Lh<|JF hTy F.slot_zip_next (JE F.slot_zip_next hTy F.entry_zip_next ?_<|F.args_zip_next_1 _));change wpAny _ _ (field _ 2 >>= _) _ _ _;show GU (L9 hz rfl rfl ?_);show GU (L9 hz rfl rfl ?_);show GU (K4 Vi rfl ?_);show GU (uX hz hT λh₁ hz₁ hs₁=>?_);show GU ?_][d2r:by intro ñ s σ H xs us Q I r h][d2s:by intro ñ s σ H x y v u Q I rx ry h][d2t:by subst ex;obtain rfl:u=Value.ref a:=rx][d2u:by intro ñ s σ H D I h][d2v:by intro X hP hw hK hc i ñ s σ H E I hf st hg;subst hP hw hK][d2w:by let l1:=r1.length;let l2:=r2.length][d2x:by rw[HE,HE]at h;rw[HE]at q1;injection h with h1 h2;injection q1 with q1 V8][d2y:by subst e;let#[xt]:=st;show#[o,e,λv z=>by rw[d]at z;cases z]][d2z:by let#[x,ex,rx]:=r1.at' (i:=j) (u:=its[j]) Ė;let#[y,ey,ry]:=r2.at' (i:=j) (u:=MJ[j]) Ė][d2A:by let#[a,us,1]:=List.exists_cons_of_length_eq_add_one hl][d2B:by cases ry;let#[yv]:=I.list h1;let#[vm]:=I.list h3;ext d2w;let l3:=Paired.length h2;let l4:=Paired.length h4;by_cases hl:its.length=MJ.length][d2C:by show Io a9C;let NZ:∀ b o,b≠d->h1.get? b=!o->h2.get? b=!o:=λb o hb e=>(sb2.2 b hb).trans e;show Hk #[JO _<|by decide +kernel,?_]][d2D:by show JQ F.entry_max_loop ?_;rw[Around.under_plainId b5k _];change wpAny _ A.in1 b5z _ _ s;show GU b50;change wpAny _ A.in1 b17 _ _ s][d2E:by let hf:=I1.LJ.fresh<|Hl _;show⟨.ref s1.heap.objs.size,upd H1 s1.heap.objs.size _,I1.laid (λb u e=>Ha _ e) kJ ?_,rfl,q.at hf⟩][d2F:by ext d2p;show IC uz;show Kn (h₀:=X.base) I.ok.mod.Y8 hk a14 he Of][d2G:by let Ve:=((My.Lz p).mp hP).1][d2H:by let#[attr,ha,hr]:=Option.bind_eq_some_iff.mp ht;let hm:Looks ē s.heap (mroOf<|.ref C) cd.mro:=(looks_clsIn X hc).andThen .now][d2I:by let#[w1,e1,r1]:=rv.get hb;rw[hv]at e1;cases e1;obtain rfl:v=Value.bool bs[i]:=r1;dsimp only at hQ;rw[GV,GT hi]at hQ;show Jn hQ][d2J:by rcases a9U (ok:=λ_=>False) xs I h0 (λi x ε h h'=>let ⟨ε1,a,b⟩:=k i x ε h h';#[c6w]) with⟨_,_,z⟩|⟨ε',h3,h4⟩][d2K:by repeat (any_goals (first|assumption|wp_step))][d2L:by let e:b=it:=by simpa using hb][d2M:by let#[j,wG,h5]:=a1v he;let#[w,ew,Tx]:=r.get h2;let hl:=r.length;let hn:=oE;let fin:EP X ñ σ Q w s:=#[z,H,I,Tx,q]][d2N:by let#[t,1]:=rx;let#[t',1]:=ry][d2O:by show a8w lk RL S len λA outer s H vs Q E hr UY=>?_;let#[t,h,q]:=O4 Lr A outer s H vs Q E hr UY;show#[t,h.Ur,q]][d2P:by let bl:(bn S).length=S.names.length:=GS _][d2Q:by let#[yv]:=I.list h1;let#[vm]:=I.list h2;ext d2w;let l3:=Paired.length h3][d2R:by show#[λq hq=>O.row q<|pm.mem_iff.mp (He _ hq),λk hk=>?_,λt' Qm h=>?_,first,?_,O.hs,O.ho,O.UZ,O.sub,O.lft]][d2S:by show absurd (show false=true from hs) Ie][d2T:by intro ñ s σ H R I h][d2U:by intro f fd F][d2V:by rw[HM]at he;subst he][d2W:by intro ñ s σ H x vs v us Q I rx rv h][d2X:by let S2:=S1.Na p1 Ķ<|.inr #[o,1];let eF:Na a _ F1 a=!(.frz o<|.dK ķ):=cD (by rw[p1];show nofun)][d2Y:by show False.elim hq][d2Z:by rw[osa_eq,refuse_eq];show GU<|GU b3v;rw[kM _ _ ho];show Hk<|GU a5I;let#[cd2,Yg,Qn]:=any_some hh][d20:by intro ñ s σ H x y v u Q I rx ry hw][d21:by intro value slice ñ s σ H x y v u Q I rx ry h hs][d22:by rw[List.getElem?_set_ne<|Ne.symm hj]at e2;let#[u',r',q]:=hl j y v' e1 e2 e3;show#[u',r',?_]][d23:by let#[v,1,q]:=h;show#[_,aq<|bD nL,q]][d24:by let neL:∀ b o,X.s₀.heap.get? b=!o->b≠X.env.locals:=λb o e=>HR<|HS (HF e) I.ok.above][d25:by let O':=O.Oh (vf:=vf) K xl<|O.time K (O.sub.subset xl) m ⟨t,ht,e1,hτ t ht tn⟩;rw[e]][d26:by show#[c3P];rintro i m σ H ⟨rfl,hi,p⟩;let q:=hl i σ H hi p;by_cases Nt:i<xs.length][d27:by let h2:=((My.Lz p).mp hP).1][d28:by let#[n1,n2]:=HQ.mp nd;let#[xl,t,ht,mC]:=hx x Hi;rw[IG];by_cases m:missing T s.cs x=[]][d29:by let⟨t,rfl⟩:=rx][d3a:by let Ve:2<=p:=((My.Lz p).mp hP).1;let Mt:=S.Mt][d3b:by let⟨_,rfl⟩:=rx;let#[_,1]:=ry][d3c:by rw[a9 (λz=>by rw[z,e]at OE;cases OE),a9 (λz=>by rw[z,dn]at OE;cases OE)];show OE][d3d:by show GU<|Hk c2g;rw[if_neg<|by simp];show GU<|Hk b3Z;rw[if_neg<|by simp];show Hk ?_][d3e:by let e:b=s1.heap.objs.size:=by simpa using hb][d3f:by rw[e]at e';cases e';rw[d]at d';injection d' with d1 _;let:its=its':=by cbv][d3g:by simpa using this][d3h:by show a8w lk RL S len λA outer s H vs Q E hr UY=>O4 Lr A outer s H vs Q E hr UY][d3i:by let⟨t,rfl⟩:=r;rfl][d3j:by rw[if_neg c]][d3k:by cases h3;let qa:=λ{H':Hp} (s:f' (grow F H H1) H')=>LO.of (K:=X.K)<|s _ _ ha][d3l:by simp only[Hs,Ij,Kl]at hc][d3m:by rw[typeLookup_type,builtinLookup_eq_fast]][d3n:by let#[z,z0,z1,z2]:=c6H hP hp a.toNat a 1 kJ h0 h1<|Sn hp hf;rw[Xs z0 z1 z2]][d3o:by let#[Bi]:=gR][d3p:by let⟨σ',H',I,q⟩:=h;show#[l9,I.Nb,q]][d3q:by let#[σ3,d8,n3]:=q3;let#[m',hm,w3]:=hN σ3 H3 n3;show#[m',hm,σ3,d8,w3]][d3r:by show False.elim RK][d3s:by show GU<|Hk (GU (GU ?_));show GU<|JJ T (Hk<|GU (wpAny_fieldsOf u1 u3 ?_))][d3t:by show#[.bl _,H,I.kept λb o e=>hk b o CY<|Ha _ e,1,q];show absurd oj ĝ][d3u:by let ih:=ih';unfold XC at ih ⊢;rw[HE,HE,KI,ih,IH];change b7P=true ↔ _][d3v:by let#[o,he]:=gR;subst he][d3w:by intro R W hn I h;rcases List.eq_nil_or_concat W with rfl|⟨W,nm,rfl⟩][d3x:by show#[c3F];show GU ?_;show GU b3e;show Hk ?_][d3y:by show hZ _ _ F7][d3z:by ext d2z;let#[a,ea,ra]:=Paired.at p1 ex;let#[b,eb,rb]:=Paired.at p2 ey][d3A:by rw[a6s (by rw[h.len];show hi)];let#[a,b,na,hb,hd,hz]:=c4z hP h hw ht hi][d3B:by rcases hA b (by rw[q];simp) with e'|e'][d3C:by grind [List.flatMap_append,List.zipIdx_append,List.take_append_drop]][d3D:by let⟨t,e⟩:=r;cases e;rfl][d3E:by let#[t',u',he]:=Te.there;show a6L;ext1 getattributeRaised;ext d2K][d3F:by let⟨σ9,H9,I9,q⟩:=q9;show#[c34,q]][d3G:by let#[c6g]:=GX.mp hw][d3H:by show call_zip_2 p1.isList p2.isList λh' a1 a2 a3 a4 a5 a6 a7=>?_][d3I:by intro ñ s σ H y x iv u Q I ry rx h;let#[a,ov,ex,g,q]:=h;ext d2t][d3J:by rw[if_pos hg,hg];simp only[List.lookup,beq_self_eq_true];show ry][d3K:by let#[p8]:=a8D ha hs i #[0]][d3L:by rw[Hm]at h1;let h2:sizeLine=2 ^ 24:=rfl;simp only[JS]at h1;omega][d3M:by rw[show its.toArray.any P3=its.any P3 by simp,b9T r fs];show q][d3N:by let#[c5P]:=dh r][d3O:by by_cases c:i=j][d3P:by let#[dx,h1]:=id N.ins][d3Q:by let#[t',pU,g4]:=O.Nc k h;show#[t',g1,g2,g3,L1 g4<|O.late r rm]][d3R:by ext d20;let#[as,bs,ha,hb,q]:=hw;let#[Za]:=ha;let#[p',c5r]:=hb][d3S:by rw[if_pos c]][d3T:by rw[GS];show HJ _ _][d3U:by rw[show its.toArray.any _=its.any P3 by simp,b9T r fs];show q][d3V:by show c3J rfl b6I rfl h1 h2][d3W:by simp only[sliceBounds,HT.Ta,Option.getD_none];by_cases h:i<0][d3X:by let#[t',g]:=b4S _<|w x hx;let#[pU]:=MH.mp g;show#[t',PB,?_]][d3Y:by let#[b,hb,e]:=HN.mp hr;show (looks_takesIn X hb).andThen ?_][d3Z:by let#[c5T]:=g;let#[BX]:=se I.LJ e][d30:by let#[vb,mh]:=hu;let#[b,c5r]:=hv][d31:by intro wh ñ s σ H Q I h][d32:by ext d2s;let#[i,j,2,q]:=h;ext d2N][d33:by let h2:=((My.Lz p).mp h.prime).1][d34:by rw[hn b (λz=>by rw[z,hP]at e;cases e)<|ne1 _ _ e];show e][d35:by let#[Bw,EG,ea,l,q]:=gR;ext d2t;show a61 I1 ea c hm l ?_][d36:by subst hK;ext d2r;let#[p,bs,1,hq,q]:=h;let#[u,1,r1]:=dh r][d37:by by_cases z:b=a][d38:by rw[g2];rcases StK nd g3 uL with⟨_,z⟩|⟨l',r',z,_⟩][d39:by show GU dU][d4a:by let#[c4I]:=st;let#[mY]:=I.list hx;let#[c6L]:=I.list hy][d4b:by rw[a9 λz=>by cbv]][d4c:by by_cases c:(MI p Ŋ m).length<m][d4d:by let O00:Ok T ord L tu tu #[[],[],ord,[]]:=by show#[c2Y]][d4e:by rw[Ir (by ext1 Rn.sends;rw[GS];show Hl _),<- GZ]at he][d4f:by rw[IM,h,JM,IE];simp[Nat.min_eq_left<|Ka ((GW.mp h).1)]][d4g:by let rd:=lt_int (ε:=a1t) (ra:=rV 2) (rb:=rV 7) rfl rfl][d4h:by rw[hn d (λz=>by rw[z,hP]at q;cases q)<|ne1 _ _ q];show q][d4i:by rw[er];show Paired.Qs a6i #[t,1,by rw[a9 tlc];show ht]][d4j:by show (Jd _ _ (λh:S=b=>nS (by rw[h];show bf))).trans e][d4k:by show⟨(J8 λz=>n1 (by rw[<- z];show hy)).mpr h1,h2⟩][d4l:by let#[mC]:=b3B (A:=X.A.in1) h rfl I r1 r2 h2 h4 hl #[]][d4m:by let T:=I.typeIs;let#[u,ZE,u3]:=id I;let#[o,a,_,b]:=x][d4n:by show Ld λt _=>?_;ext1 Wy.without;rw[Bool.and_comm]][d4o:by show SeqAt.EqAt.same _][d4p:by rw[if_neg c]at q][d4q:by let nd:=HQ.mp nd][d4r:by rcases gJ A with⟨rfl,_⟩|⟨Vv,t',rfl,Qm,e',A'⟩][d4s:by rw[e]at pm;show absurd (List.Perm.nil_eq pm).symm hu][d4t:by cases rx;let#[u,1,ru]:=rv.one][d4u:by let#[c50]:=I.UE hH][d4v:by cases r1;let#[c6M]:=I.list hq][d4w:by rw[GY,show decide _=decide (l=[]) from by simp]at q][d4x:by cases q;rw[hb];show#[_,VI,λg=>?_];by_cases hg:g=f][d4y:by let#[kv',e4,1]:=e3 ķ<|s _ _ h;rw[y]at e4;cases e4][d4z:by let e1:(ones m).getD i []=Ll m i:=by simp[ones,hi]][d4A:by subst this][d4B:by let#[tR,o,_,_,e,ex,_]:=I.LJ p _ hk;show#[o,e,ex]][d4C:by intro X A ñ s σ H x y v u a b _ I rx ry ha hb _][d4D:by let hb:(bs.map V.bl)[i]?=!V.bl bs[i]:=by cbv][d4E:by rw[old b wc (λz=>by rw[z,e]at q;cases q)];show q][d4F:by let#[h2]:=z;let#[Dh,p,1]:=hx;rcases h2 with h2|_][d4G:by let#[u,uy]:=y';ext d2x;let#[qu]:=ih h2<|V8▸q3][d4H:by rintro⟨⟨⟩,Q4⟩ s' ⟨rfl,p,q1,q2,har,hf⟩][d4I:by cases q;let#[ob,_,_,jb]:=dd;show#[ob,h1,h2.2.1]][d4J:by rw[z]at e;cases e][d4K:by show hx ñ σ H s e s' I hq][d4L:by let#[x,xc,r1,ty,q1]:=gR;let#[mh]:=a1b I1 r1 ty][d4M:by constructor][d4N:by show#[Ii _<|by lia,HX _ hp]][d4O:by let h1:=(Jx.mp up).1 q hq;let q3:=O.three q b6F][d4P:by rcases hq with hq|hq][d4Q:by rw[if_neg<|by omega]][d4R:by let Yj:=S1.le _ _ p1][d4S:by let#[w,ew]:=hW g hg;let#[QM,c6y]:=a1J W.Pf O ew][d4T:by show#[t,ht,by rw[h,nr],hh,by rw[rt];show K6 _]][d4U:by subst e;show I1.U' kJ a6O][d4V:by ext1 cleared;simp only[]][d4W:by intro ñ s σ H x y v u Q I rx ry ⟨hs,q⟩][d4X:by show J4 W.kitx_dict I.Ow #[o,h1,h2.1] e İ h][d4Y:by rcases psk i q hq with⟨c,hq⟩|⟨c,rfl⟩][d4Z:by let#[f1,f2]:=fz;rcases p1 with p1|⟨r,p1⟩][d40:by rintro _ _ @⟨S,x,hl,hx⟩;show .nx a6C a19][d41:by show Jk Ė λi h1 h2=>?_;simp at h1;simp[h1]][d42:by rw[old b (λz=>by rw[z,ed]at q;cases q)];show q][d43:by let#[c6r]:=gR][d44:by show absurd (fx) Ie][d45:by let hlen:=r'.length][d46:by cases this][d47:by let#[sl',e2]:=slots b _ e1 hb;show#[sl',e2]][d48:by intro _;show rfl][d49:by let LG:=O.fp'][d5a:by ext d2V;show#[2]][d5b:by show HL.mpr b2N;rw[Ht.mp RM]at e;rw[e]at hb][d5c:by by_cases c:H b=none][d5d:by let⟨σ7,H7,I7,n7⟩:=q7;show again I7 n7][d5e:by rw[if_pos h1]at h;let e:=Option.some.inj h][d5f:by show hZ _ _ ?_][d5g:by let#[oh]:=Ig.mp z;rw[Hm]at hj;rw[Kt]at ej][d5h:by rcases l with⟨hk,hm⟩|⟨hk,c,hc,VL⟩][d5i:by let⟨t,q⟩:=rx;cases q][d5j:by show J4 W.kitx_list I.Ow #[_,h1,1] e İ h][d5k:by let#[sl,e2]:=slots b o' e1 hb;show#[_,e2]][d5l:by rw[if_neg c]at h;cases h][d5m:by show hc _ _ _ a4R a4R ?_][d5n:by rw[Hn,GS,GS,Hm];show Nat.le_trans a8y b7N][d5o:by let:=HJ (λt:LS=>decide (t.2.2.1=g)) S.Lj][d5p:by let⟨_,_,_,_,o,_,_,e,_⟩:=x;show#[_,e]][d5q:by rw[hz]at e;cases e][d5r:by rw[merged_take_succ _ _ i p ep];show hd2][d5s:by let pm:=N0 (f:=λm:MQ=>m.1) (l:=Lx S ns)][d5t:by let#[nZ,e]:=PPs r s X8 C k hx;show#[c6W]][d5u:by let#[w,_,e]:=GX.mp z;let:=G.pos x<|Hb hx][d5v:by rw[HE,HQ]at nd;rcases Hs.mp h with rfl|h][d5w:by ext1 cT;rw[b8V];intro ks Xa k hk;rw[ck]][d5x:by show au λZ hZ=>?_][d5y:by rw[c,h1]at z;cases z;rw[c];show tbl T1.2][d5z:by let#[e,c5w]:=I.pin p hp][d5A:by let⟨σ',H',I',q⟩:=q][d5B:by subst ex;obtain rfl:ov=Value.ref ea:=rx][d5C:by rw[<- (rel.val k).Td,<- l];show h _ vq][d5D:by cases rx;let#[c4c]:=b79][d5E:by rwa [GY]at this][d5F:by rcases Hx.mp h with h|h][d5G:by rw[h]at hk;show HK _ hk][d5H:by have e':=e;injection e' with e';rw[e']][d5I:by let:=q1 vs<|qa s;rw[x1]at this;ext d46][d5J:by let Om:=λb o e=>ne1.keeps b o<|Ha _ e][d5K:by let⟨σ,H,I,q⟩:=h;show False.elim q][d5L:by let e:Oh T vf τ s x=s:=if_neg m;rw[e]][d5M:by ext d2u;show b0P a1a hs][d5N:by cases rx;let#[t,1]:=ry][d5O:by subst SE QZ W8;show GU<|Hk a5J;rw[Qn]][d5P:by rcases hc with rfl|rfl][d5Q:by show#[jE]][d5R:by let#[Ck]:=gR][d5S:by rw[z]at q;cases q][d5T:by obtain⟨p,ep⟩:∃ p,ps[i]?=!p:=c1v][d5U:by show Hk #[JO _<|by decide +kernel,?_]][d5V:by let hTy:s.TypeIs Br "zip":=#[_,hz,1]][d5W:by let#[lL]:=gR;subst he][d5X:by ext1 OL;by_cases c:i=w\/LI p œ t=0][d5Y:by rcases h with⟨h1,h2⟩|⟨h1,h2⟩][d5Z:by rw[F.len _ _ _ _ hq]at e;show e.symm][d50:by ext d2r;let#[p,ys,1,hq,q]:=h;ext d3N][d51:by intro F0 H0 F H σ ε l xs Q S h r q][d52:by show absurd (Hf rfl) (IZ.mp hf r hr)][d53:by show (HL.mp nd).2.2 x.1 z x.1 Ė rfl][d54:by rw[if_pos rfl]][d55:by let#[od,J,hl]:=I.look][d56:by ext d2p;show W.methodCall_KW vy ht][d57:by ext d21;let#[p,xs,i,z,2,hq,he,q]:=h][d58:by ext d2r;let#[d,ķ,1,hd,q]:=h;ext d3N][d59:by let#[c4n]:=I.tuple hq][d6a:by rw[hd b λz=>by cbv];show this][d6b:by let e':¬ q.1=k:=λz=>e<|h1.trans z][d6c:by ext1 without][d6d:by rw[show F' b=H a from if_pos z]at q][d6e:by rw[show F' b=F b from if_neg z]at q][d6f:by let hkl:=KV.length k1][d6g:by let#[n1,n2]:=HQ.mp nd][d6h:by show HA λj hj=>?_;let hj:=HP.mp hj][d6i:by let#[o',e1]:=I.base.there b o e hx][d6j:by let#[c6G]:=I.loc][d6k:by rw[ih' λw hw=>h w<|He _ hw];split][d6l:by ext d2s;let#[p,xs,1,hq,fx,fs,q]:=h][d6m:by rcases hc with rfl|rfl|rfl|rfl|rfl][d6n:by by_cases e:p.1=k][d6o:by let#[c6t]:=st;let#[mY]:=I.list hx][d6p:by intro F H σ ε ε' l xs Q S h r q][d6q:by rintro _ _ @⟨p,m,t,hP,W7,S,hm⟩][d6r:by rw[show tb _=.lst FG from rfl,GY]][d6s:by cases hx;let UJ:=Qo _ _<|eT _ _ Zh][d6t:by let e:Oh T vf τ s x=a10:=if_pos m][d6u:by let pm:=bH s.uw;let up:=iw O.three][d6v:by intro r hr;let#[k,hk,hr]:=J0.mp hr][d6w:by ext d3N;obtain rfl:u=Value.ref p:=rx][d6x:by ext d2T;show LW b8Y λv s1 gR=>?_][d6y:by show F.len _ _ _ _ h][d6z:by let#[CD,q]:=hs;show False.elim q][d6A:by let#[c4n]:=I.list hq][d6B:by rw[a9<|zne c hc];show (hf c hc).1][d6C:by let#[q',RK,X8]:=Paired.at rel ekv][d6D:by rw[List.range'_succ]][d6E:by rw[show _=[] from h]][d6F:by unfold grow at q ⊢][d6G:by let#[c35]:=h;ext d3P][d6H:by intro j s v0 e0 hk hj g0 g1 g2 g3][d6I:by let Zm:=k' S _ nW g2][d6J:by let h:=(pm.map num).mem_iff.mpr h][d6K:by rcases I.ok.Vw with e|⟨e,hf⟩][d6L:by show Hg #[0]][d6M:by rw[if_pos z]][d6N:by let p2:=((My.Lz p).mp G.prime).1][d6O:by show#[_,e]][d6P:by let#[c39]:=F.ex][d6Q:by simp only[Hs,Ij,Kl,not_or]at hc][d6R:by show GU ?_][d6S:by rw[GS]at this][d6T:by let#[u,1,ru]:=dh r1][d6U:by rw[d];show (wz i' lead d2 hl).1][d6V:by ext1 grow][d6W:by by_cases n:H a=none][d6X:by show GU<|GU (Io ?_)][d6Y:by let#[mh]:=Hw.mp ht][d6Z:by let#[r,hr,1]:=GX.mp h;ext1 lk][d60:by let#[od,es0,ep0,hod,a4r]:=id VH][d61:by rw[ix _ _ h1,ix _ _ h2];show uv][d62:by rw[if_pos h2,if_pos h2];ext d39][d63:by simp only[b6P,Ix,Ju]][d64:by let#[zH,a,F]:=F;show#[c42,pc]][d65:by show hb wh ñ s1 σ H1 Q I1 q1][d66:by rintro i m σ H ⟨rfl,hi,p⟩][d67:by intro i s hn hi hit hl hp hd h][d68:by let#[hb,o7,o8,he]:=gR;subst he][d69:by let Mt:=N.fits.Mt;let tz:=N.tz][d7a:by rw[Jg,Hg ne];show ih' nd.2 r h][d7b:by let hw:=hw;rw[e1]at hw;ext d3G][d7c:by let#[t,ht,c,er,hh]:=O.row r rm][d7d:by subst hj;rw[hi]at e1;cases e1][d7e:by intro ñ s σ H vs us Q I r h][d7f:by intro _ _;show rfl][d7g:by let#[c5Q]:=I.tuple hq;ext d45][d7h:by let#[xs,hx]:=hi.allInts.items][d7i:by rw[JS]at h1;rw[IY]][d7j:by show (Hg λz=>nomatch z).symm][d7k:by rw[c6e (by simp[jS]) h,GY];rfl][d7l:by subst f2;rw[Yj]at f1;cases f1][d7m:by show hb F0 H0 ñ s σ H E I h][d7n:by subst he;let lt:=(GW.mp hk).1][d7o:by show Fl.rt.inj c02][d7p:by show HA λk hk=>?_][d7q:by by_cases h2:vs.toArray.size<2][d7r:by subst h;ext d20;let#[c6C]:=hw][d7s:by injection e with e1 _;rw[e1]][d7t:by cases (rx)][d7u:by show Hk ?_][d7v:by let#[c5Q]:=I.list hq;ext d45][d7w:by let:=hB1 b o2 q;rw[e]at this][d7x:by let SF:=PySem.F.store_object][d7y:by rw[hb];show bA][d7z:by intro x hx][d7A:by generalize scaled p _ _=lead][d7B:by rwa [aw e1 e2,aw ļ e3]at q3][d7C:by intro i s hn hi Z Rk U2 hd h][d7D:by dsimp only][d7E:by by_cases c:j=w][d7F:by intro _ _ h;show (Ij h).elim][d7G:by let⟨t,q⟩:=ry;subst q;rfl][d7H:by let hz:=P.size][d7I:by show SeqAt.EqAt.of_refs e ?_][d7J:by show this.nodup_iff.mpr O.nd][d7K:by show hb ñ s1 σ H1 Q I1 q1][d7L:by intro ñ s σ H v u Q I r h][d7M:by let⟨_,rfl⟩:=rx;cases ry][d7N:by rcases q with q|q][d7O:by let#[mA,O,r,CD]:=fEt I.LJ e][d7P:by let#[cd,hc,ho]:=any_some hp][d7Q:by simp only[List.lookup,this]][d7R:by let#[mh]:=h][d7S:by change (a==b)=_;rw[IH];simp][d7T:by rw[if_neg z]][d7U:by ext d5S;let#[v,a,b]:=h.at z][d7V:by intro F0 H0 ñ s σ H E I h][d7W:by let Mt:=W.fits.Mt][d7X:by show HA λk _=>?_][d7Y:by show hZ _ _ (au λZ hZ=>?_)][d7Z:by rw[List.getElem_toArray,h2]][d70:by let#[c3G]:=g][d71:by show False.elim h][d72:by let#[o7,o8,o9,N6,MX,he]:=gR][d73:by cases r;rfl][d74:by let#[zH,m,F]:=F;show#[c6Z]][d75:by intro e;subst e;rw[h]at h'][d76:by let#[m,#[uD],_]:=id I.loc][d77:by let#[k,x]:=hd';let ih:=ih'][d78:by cases e2;show#[o,e,ex.2.1]][d79:by let#[w1,ew1,r1]:=rv.get ex][d8a:by let f1:=sub_AttributeError][d8b:by let#[Bs,fz]:=I1.fz2 hd ho][d8c:by rw[c]at rd;show .t rd #[2]][d8d:by congr 1;show HA λt ht=>?_][d8e:by rcases Hx.mp hz with hz|hz][d8f:by show c32 hc A h3 h2 P2 D2 k][d8g:by rw[b8F λ_=>rfl];show#[Gp]][d8h:by obtain @⟨l⟩:=z;ext d30][d8i:by show (J _).pin p (Hq _ hp)][d8j:by let#[v,zQ]:=I.cell x c e][d8k:by let#[AV]:=gR][d8l:by show (r).elim][d8m:by intro pos ñ s σ H Q I h][d8n:by ext1 cellsFrom][d8o:by cases e';show up b o e hd][d8p:by apply JZ;intro i][d8q:by subst e;show I2.U' kJ b9D][d8r:by cases (r);rfl][d8s:by let#[rT]:=b63 hr][d8t:by intro k l q p cs hl hq hp][d8u:by rw[Ja]at q;rw[Ja];ext d3O][d8v:by show JQ a2s ?_][d8w:by let#[qe]:=gR][d8x:by by_cases z:p.1=y][d8y:by funext b;ext d37][d8z:by let#[c4b]:=hx][d8A:by rw[c]at rd;show#[c6U,_,1]][d8B:by let#[_,_,he]:=gR][d8C:by rw[List.pairwise_flatMap]][d8D:by unfold grow at h][d8E:by rw[if_pos c]at h][d8F:by ext1 Mk.starts][d8G:by rw[K.late x hx];ext1 OM][d8H:by show .inr #[.inr z.1,z.2]][d8I:λΑ Β=>aq<|aA (Qp Bx.K Hu Hz Hy aB Α<|a8 Β K')][d8J:λΑ Β=>cR Α Β λz=>nomatch z][d8K:λΑ=>λ_ _ _ _ _=>i7<|da (Đ 0) Α][d8L:λΑ=>Pr (Α C)][d8M:λΑ=>HT.Ta Α Α hi - HT.Ta Α 0 lo][d8N:λΑ Β Ε Ζ Η=>K8 (F.run X.A X.stack s H M1 Α Β Q Ε hr I.Xj Ζ Η h) λr s' hq=>?_][d8O:λΑ=>eval Α X.env][d8P:λΑ Β Ε Ζ=>upd (upd Α Β (.own Ε)) Ε (.ins Ζ Β [])][d8Q:λΑ Β=>.nx<|b3P T ř ord tu p msg _ Α _ Β _ _ _ _ _ _ _][d8R:λΑ=>Me<|Me (Me<|Me Α)][d8S:λΑ Β=>.nx (ε.set Α (.ow Β))][d8T:λΑ Β Ε Ζ=>aq<|aA (bE Α Β hr.m<|a8 Ε Ζ)][d8U:λΑ=>eL T.M8<|Đ Α][d8V:λΑ=>Qp Bx.K Hu PySem.F.slot_list_pop PySem.F.type_list_pop b02 Α<|a8 aK K'][d8W:λΑ=>Pr (Α c ord)][d8X:λΑ Β=>upd H Α Β][d8Y:λΑ Β=>a8 Α<|a8 Β K'][d8Z:λΑ=>.builtin "dict.update.loop" #[[.ref d,.ref Α,rawInt i,.none],[]]][d80:λΑ=>Α (envOfC ğ scope s.heap.objs.size f cd).kindOf Id λ_=>none][d81:λΑ=>grow F H Α][d82:λΑ=>(f,kla_obj "<lambda>" ŕ params body scope Α b3O c' VM)::ñ][d83:λΑ=>ao BM Α][d84:λΑ Β=>qs Α ND<|fu (Đ 0) Β hr.m][d85:λΑ=>Α ñ s1 σ H1 _ I1 q1][d86:λΑ Β Ε=>a1T (F0:=F) (H0:=H)<|Α Β ND Ε][d87:λΑ=>X.env.kindOf Α=some .cell \/ X.env.kindOf Α=!.free][d88:λΑ=>aa (top Α)][d89:λΑ=>Pr (Α c)][d9a:λΑ=>λ_ Wm=>QP X.prog X.w X.outer X.H₀ X.s₀ E Α Wm][d9b:λΑ=>kla_fn "<lambda>" ğ params body scope PU pm Α VM][d9c:λΑ=>.ref Α][d9d:λΑ=>.lst Α][d9e:λΑ Β=>DR.mono Α _ _ Β][d9f:λΑ=>Α { cls:=.type "dict",data:=.dict [].toArray }][d9g:λΑ Β=>λx y H Q=>b03 K H Α x y/\Q Β H][d9h:λΑ=>da Α Lp][d9i:λΑ Β=>rI Α λi j=>.int Β][d9j:λΑ=>fI a9Q λi j=>Tb Α][d9k:λΑ=>.Call Α [e] [] pos][d9l:λΑ Β=>Kv (p:=λx:Int×Int=>decide XY) |>.mpr #[x,Α,Hf Β]][d9m:λΑ Β Ε Ζ Η=>λr s₃=>wpAny Α Β (letTemporaryGo value Ε r >>= λ_=>pure r) Ζ Η s₃][d9n:λΑ=>List.Sublist.append Α<|List.Sublist.refl _][d9o:λΑ=>λvs H Q E=>Pr Α vs H Q E\/Vo b2W vs H Q E][d9p:λΑ=>.Constant Α j pos][d9q:λΑ=>tP (rC (Tb Α))][d9r:λΑ=>qP Α λ_ _ _ h=>h][d9s:λΑ=>kP rfl T.Mg<|a8 (dZ nQ aK<|dZ bF Α aK) K'][d9t:λΑ Β=>Α ñ s σ H Β I h][d9u:λΑ Β=>W.fnOf Α ğ vW CQ Uz .none kV doc pm an Β ct][d9v:λΑ Β=>Α ñ s2 Β H2 _ I2 q2][d9w:λΑ=>(λx:Ws×D=>x.1) ∘ λx=>(Α<|f x,g x)][d9x:λΑ=>dT bq cM Α dI][d9y:λΑ=>λ_ _ _ _ _=>eY<|a8 Α (a8 (du K') K')][d9z:λΑ=>A.under (.builtin "type.__call__" Α)][d9A:λΑ Β=>q1<|qs Α ND Β][d9B:λΑ=>cS 1 [1] Α][d9C:λΑ Β=>Α pos ñ s1 σ H1 _ I1 Β][d9D:λΑ=>grow AH H Α][d9E:λΑ Β=>Α λkv=>if kv.1=k then (kv.1,Β) else kv][d9F:λΑ Β=>bQ (Gn Α) rfl T.NK a7F<|a8 lS (a8 Β K')][d9G:λΑ=>c.of Α=c.house][d9H:λΑ=>Ql λε c=>rO Α ra rb ε (.bl c)][d9I:λΑ Β Ε=>Α p m ç ê Β Ε][d9J:λΑ=>qs Α ND (c7<|da (c7 Lp).p Lp).p][d9K:λΑ=>qo Α ND dD0][d9L:λΑ=>Pr (Α c gH)][d9M:λΑ=>.BoolOp Α [a] pos][d9N:λΑ=>Α F H _ xs _ Q s (.mk h) hx q][d9O:λΑ=>t9 Bx.K<|pv Α][d9P:λΑ Β Ε=>Α<|Rp (Đ 0) Β hr.m Ε][d9Q:λΑ Β=>d8X Α (.lst Β)][d9R:λΑ Β Ε Ζ=>Α Β ND<|Rp (Đ 0) Ε hr.m Ζ][d9S:λΑ Β=>Mz hr (V0 Α<|Đ 0)<|Đ Β][d9T:λΑ=>p.map λi=>Α i .non][d9U:λΑ=>d8K (da Α Lp)][d9V:λΑ=>aq<|bD Α][d9W:λΑ Β=>qs Α ND<|dO c5J A9 (c7<|da dI Lp).p Β][d9X:λ_ _ _ _=>0][d9Y:λd9X _ _ _ hr ND=>0][d9Z:Inv X ñ σ][d90:λLr A outer s H vs Q E hr=>0][d91:LX P w K mg base][d92:Qp Bx.K Hu Hz Hy aB][d93:wpAny Ē X.A][d94:congrArg List.length][d95:λσ H Q=>0][d96:b6L T ř ord tu p msg][d97:λ_ _ _=>0][d98:λF H x y u v d Q s=>0][d99:W.nsIn K][e0a:dg MY P w K mg base N ğ Uz f][e0b:d91 MY (k+1) f fd ps][e0c:W.findIn K][e0d:λH1 e1 S1 q1=>0][e0e:Mk.LD p m ç Tm.R][e0f:λE σ H gR=>0][e0g:λF H l xs d Q s z hx=>0][e0h:b3P T ř ord tu p msg][e0i:λd9X _=>0][e0j:IU (LW (ha pos ñ s σ H _ I h) λus s1 gR=>?_)][e0k:Ok T ord L tu][e0l:da (Đ 1)][e0m:backTo pos][e0n:stN p m ç ê ord][e0o:fI.mk (C:=λ_ _=>True) (g:=λi j=>Tb<|.bl (decide (i<=j)))][e0p:Mk.Ly p m ê][e0q:wpAny ē A][e0r:Hv X G][e0s:λd98 z hu hv q=>0][e0t:h ñ s σ H][e0u:λx H1 e1 _ q1=>0][e0v:sY xs][e0w:b0T Hr rfl][e0x:NB T pl msg][e0y:R7 0 rfl][e0z:.seq its.toArray][e0A:without p r lead][e0B:newRow p m][e0C:λA outer s H=>0][e0D:bz (Sum.inr:Str->Ws)][e0E:e0a Lr A outer s H][e0F:λb o e=>0][e0G:cleared p bk ř start a][e0H:dT bq cM][e0I:λñ s d95 I=>0][e0J:dBt b1X c0R rfl T.Ov boot_dict][e0K:SeqAt.EqAt A s][e0L:bc p ř msg fo][e0M:λx hx=>0][e0N:λd97 h=>0][e0O:dO bF OC][e0P:bY p ř fo ms many][e0Q:Inv X ñ σ' H'][e0R:PS X st][e0S:da (Đ 0)][e0T:da (Đ 5)][e0U:Ly p m ê T][e0V:bJ Hr rfl][e0W:grow F H][e0X:Ss F0 H0][e0Y:W.hasDictIn K][e0Z:Df X.prog X.w X.K X.mg X.base k x ps][e00:tP.at s q][e01:da (Đ 2)][e02:LO K H a][e05:List.replicate k][e06:F.run A outer s H args us vs Q E hr][e07:bU Bx.K][e08:PE X e][e09:upd (upd b91 ea<|.ins CE dx []) ea (.ins CE dx [("rows",.ref rd)])][e1a:envOfC ğ scope s.heap.objs.size f][e1b:I.turned Ś f0 f1 f3 f4][e1c:W.plainOver K][e1d:sp vs H Q][e1e:scaled p][e1f:e2 _ _][e1g:c13 Hr rfl][e1h:da (Đ 3)][e1i:start T vf tu][e1j:d91 MY 1 f fd][e1k:λf fd F=>0][e1l:λF0 H0=>0][e1m:PI X tg][e1n:Mx.run p][e1o:LC.Na h k k' l][e1p:.mk (by simp) (λks h=>by rw[Ht.mp h];show#[O,W]) hp Vf hm][e1q:λñ s σ H=>0][e1r:λxs H Q=>0][e1s:W.plainGet K][e1t:backToKw pos][e1u:LC F l][e1v:S1.le _ _][e1w:h'.DictOf knd s.heap.objs.size][e1x:cI (a:=a) (o:=.dK ķ)][e1y:iX (tb:=λE σ H=>∃ F0 H0,tQ F0 H0 rb E σ H) qD hg S1][e1z:cf p m ç ê][e1A:pre.foldl Ŗ][e1B:d91 Ce (k+1) f fd ps][e1C:λh1 h2=>0][e1D:λH2 e2=>0][e1E:Mx.step p bk a8n][e1F:QS X st][e1H:λd95 gR=>0][e1I:e1 _ _][e1J:Mk.stN p m ç ê ord][e1K:sb _ _ (λz=>by let#[ps,e,_]:=T;rw[z,e]at h1;cases h1)][e1L:λi h h' st k=>0][e1M:λH1 e1=>0][e1N:λd9X d97=>0][e1O:λe0F n hb hx=>0][e1P:min xs.length][e1Q:congrArg D.bl][e1R:LD p m ç T.R][e1S:r.getD 0][e1T:Rn.sends T Ġ][e1U:λF H σ ε ε' d x Q S=>0][e1V:λa b SG hb=>0][e1W:λe0C args us vs Q E hr=>0][e1X:k b o (λz=>hc<|by simp[z])][e1Y:wpAny M A][e1Z:eZ hc S hi hg ht he][e10:da (Đ 4)][e12:.k rfl][e13:base.Ns mainGlobals][e15:cg cell][e16:λy hy=>0][e17:JE slot_list_sort ⟨_,Zj,rfl⟩ entry_list_sort][e18:rO Sub][e19:look U x][e2a:sF _ _][e2b:bv S (some "h") 21][e2c:aE X scope N' cells C s H][e2d:jv q rb ε ve][e2e:congrArg D.lst][e2f:e0h (rest.map tD) pL Aw b2U N6 PP Mr Re Sc Nr][e2g:e0h (S.uw.map tD) b2V a7j c1b Ps PP Mr Re Sc Nr][e2h:λb hb=>0][e2i:λb H3 vs e3 hb hv hd=>0][e2j:λa b h2 h3=>0][e2k:λLr e0C E hr=>0][e2l:eI I hg hm][e2m:rp x][e2n:wpAny Ē A][e2o:Heap.MadeExcOf s.heap h'][e2p:aQ (i:=3) ND rfl rfl rfl][e2q:da (Đ 6)][e2r:aQ (i:=5) ND rfl rfl rfl][e2s:dBt c6z (jo rfl) rfl T.Q6][e2t:Mk.QV p mixed A s][e2u:W.ln.fits.ahead i][e2v:Mk.PN es.length w][e2w:aY (l:=Pt)][e2x:rO (fI (λ_ j=>0<j) λi j=>Tb<|.int (i % j))][e2y:s.heap.FunFrames X.base][e2z:LP X.prog X.w][e2A:c3e X ñ][e2B:a7A P w K tg][e2C:I.turned b7Y f0 f1 f3 f4][e2D:W.takerIn K][e2E:gu 1 js (bS 0) yp te σ][e2F:run p bk ř][e2H:Ll t.length][e2I:S.chg (d:=.lst l) h1 p1][e2J:dO bM OC][e2K:qw ts U g c][e2L:Mk.lk R][e2M:Mk.Ma ê][e2N:c9 (S.LL.take i) msgs L][e2O:λi x ε hx gR=>0][e2P:Q .non][e2Q:Df P w K mg base][e2R:NO rfl][e2S:plainId_quiet b5k][e2T:λr hr=>0][e2U:λd90 h=>0][e2V:sliceBounds lo hi none][e2W:Cy X.prog X.w X.K X.mg X.base k x ps dvs][e2X:b8T (p:=p) (ř:=ř) (msg:=msg) (fo:=fo) F][e2Y:λh' tk=>0][e2Z:λ_ _ gR=>0][e20:I.base.keep b o][e21:Looks ē s.heap][e22:DiX X.prog X.w X.K X.mg X.base k x C ps][e26:s.heap.IsList l][e27:pY a7Y r2 ε][e28:XA (n:=0)][e29:us.foldl ga][e3a:Flow ts][e3b:c5Z (K:=Bx.K)][e3c:Ut CE H G0 ks LA Mq m][e3d:missing T][e3e:QN Wp k f fd][e3f:d99 mainGlobals][e3g:Dm X.prog X.w X.K X.mg X.base k C m ps][e3h:q (u x) ε][e3i:dO cL OC][e3j:gE h g N][e3k:start m ç][e3l:a1i W.Pf hO][e3m:c9 gs msgs][e3n:rnd S.Lj (bZ ř) msg p ((0+i:Nat):Int)][e3o:λvs H Q E=>0][e3p:λd97 H _ I h=>0][e3q:wpAny_lookBehind hoD][e3r:dB c2T (ly Bx.K rfl) rfl T.WU boot_all][e3s:iX (λe0N=>h) hg L6][e3t:λD σ H=>0][e3u:I.base.there b][e3v:DR F d][e3w:bV SC][e3x:xK LQ hr.m rfl][e3y:λε gR=>0][e3z:I.base.slot b o e n][e3A:fr ((ord.take n).map (·.1)) (st w)][e3B:envX ğ scope s.heap.objs.size f cd][e3C:eK S.LL][e3D:jy (tI ri) yJ js iI z6 vJ σ H][e3E:rO (fI Wk λi j=>Tb<|.int (i * j))][e3F:c3U (p:=p) (m:=m) (ç:=ç) (ê:=ê)][e3G:λb o _ _ hc e=>0][e3H:λRj al an has hp=>0][e3I:λσ G _ gR=>0][e3J:k _ _ Ķ][e3K:I.base.free b][e3L:k it Ė o][e3M:sb.extBut _ _][e3N:S.le _ _][e3O:b Lr A outer s H E][e3P:Rp (Đ 0)][e3Q:Rp (Đ 2)][e3R:dT gZ eA][e3S:a8q A (ts:=bL bs k)][e3T:Mk.start m ç][e3U:vs.getD i][e3V:step T vf][e3W:e1n bk ř][e3X:λx H1=>0][e3Y:λq hq=>0][e3Z:λi h st e2h=>0][e30:absurd (show b∈([]:υ) from z)][e31:XN.m (f:=λm:MQ=>(.inl m.1:Ws))][e32:λb o q=>0][e33:Un fs ex H][e35:NI.go S][e36:s.heap.DictOf knd][e37:LC F š][e38:bJ hp hc hi ht hbx hs ñ s σ H][e39:congrArg Prod.fst][e4a:Mx.LI p][e4b:Mk.moved p][e4c:x8 (p:=p) (i:=n - (q+1)) (j:=n)][e4d:dW gs msgs.length][e4e:W.keepIn K][e4f:λh' a1 a2 a3 a4=>0][e4g:λσ' H' F' u S'=>0][e4h:LP P w][e4i:Un (R5 X.stack) ch H H' s.heap][e4j:EP X ñ σ Q][e4k:rO a4v][e4l:QN MY 1 f fd][e4m:db (ts.filter λt=>Ui t.1) g N][e4n:cY (cA rfl) rfl T.Ov boot_dict][e4o:Paired.at hp][e4p:xs.foldl a8e][e4q:IB X G][e4r:λx y H Q=>0][e4s:λb1 b2 b3 b4=>0][e4t:λt ht=>0][e4u:b07 p m ç ê ord][e4v:CodeHd s₁.heap][e4w:h.Ns mainGlobals][e4x:Rn.Ok T ord L tu][e4y:Classical.choose_spec (one g)][e4z:W i m σ][e4A:PE X a0B][e4B:IsPair h' s.heap.objs.size x][e4C:dT c5j b95][e4D:I.keys R][e4E:toΓ _ _][e4F:r.getD 2][e4G:a1V c H fi a Ln n dp dt kn i][e4H:hb T t kV doc pm an Lr ct us][e4I:λs1 gR=>0][e4J:λσ H R=>0][e4K:λi j hi hj=>0][e4L:λus hl=>0][e4M:λe0i st h=>0][e4N:λe1D S2 q2=>0][e4O:rp v][e4P:I.ok.bs b o][e4Q:t σ H][e4R:g x σ][e4S:Mv c H' n dp dt][e4T:b4C lS][e4U:without p][e4V:q _ H1 e1][e4W:.mk rfl rfl][e4X:VU SC][e4Y:fu (Đ 0)][e4Z:Mj ts U][e40:Bf ts U h][e41:List.replicate mixed.length][e42:G.ways LK][e43:I.ok a.1 LK][e44:A.foldl b47][e45:SQ _ _][e47:Mk.OL p B i][e48:nwL ks LA H][e49:toG I _ _][e5a:Mk.Oi es.length][e5b:vi P pos][e5c:asItWas s₁.heap s'.heap b][e5d:tQ F0 H0 r E σ][e5e:sends T vf s.cs][e5f:dW gs n][e5g:DR.mono e24 _ _][e5h:DR.mono k47 _ _][e5i:bindArgs Ě][e5j:d93 b6N ĸ X.xe][e5k:e1n EX t][e5l:e12 kS][e5m:Vr P w K mg base A outer s][e5n:h.eq X A ñ s σ H x y _ _][e5o:k _ _ _ _ u v _ _ S2.le h1][e5p:dB a97 (sj rfl) rfl T.WT a8Y][e5q:upd H3 c1V (.lst<|ys++uZ)][e5r:hb T kV doc pm an Lr ct us][e5s:Rn.WE (vf:=e0x p) (tu:=tu)][e5t:λb u e=>0][e5u:λvs H1=>0][e5v:λc G e z=>0][e5w:λz ε hz gR=>0][e5x:I.base.RV b xs][e5y:I.base.Rw b ps][e5z:u.keep b o e n][e5A:isTrue e X.env][e5B:CX outer H s E][e5C:seqIndex_of h0][e5D:List.pairwise_singleton _][e5E:cT p ř msg fo][e5F:dF LV hr.m rfl][e5G:dJ p ř msg fo][e5H:Heap.FlyingW B l e cls a0][e5I:.Lambda params body scope][e5J:cu L.Lu.ok.2.1][e5K:Mv c G n dp dt][e5L:λσ2 H2=>0][e5M:λb o hb=>0][e5N:λxs e1M S1 hx=>0][e5O:HH I.ok.Wh][e5P:rp y][e5Q:IntsAre us][e5R:LO X.K H p][e5S:IntsAre vs][e5T:ZipApart z TI TO i1 i2 a][e5U:.int 0][e5V:gu yJ js iI z6 vJ σ][e5W:grow F0 H0][e5X:S.ro i][e5Y:S.ro j][e5Z:Na a o][e50:rb ε1][e51:ao a6A][e52:b7 m8][e53:aQ (i:=2) ND rfl rfl rfl][e54:b2q SC][e55:aQ (i:=7) ND rfl rfl rfl][e56:Q8 Ħ h ws][e57:db L g][e58:Mk.ub p us][e59:da (Đ 13)][e6a:sim T vf n][e6b:Rn.Mo T Ġ][e6c:W.kitOne K][e6d:d9Z H'][e6e:e0p Tm][e6f:e5n a b hK I rx ry ra rb][e6g:λv' h2 tk2 gP' k2=>0][e6h:sY ys][e6i:Paired F][e6j:I.N4 x c][e6k:P6 X.prog X.w][e6l:SP X ñ][e6m:PA X es][e6n:PE X a4F][e6o:Md X a1j][e6p:I.LJ a v][e6q:absurd z][e6r:b6g _ _ _][e6s:subscripted slice false][e6t:ar Þ Þ][e6u:List.range' s][e6v:tP.go S1][e6w:YC F0 H0][e6x:h1.DictOf knd][e6y:tP.go S][e6z:s.heap.IsListIter i2 l2][e6A:m5 ri q rb ε][e6B:oU xs I h0 hl][e6C:PM Bx.K][e6D:b4O 2 rfl][e6E:red p Ŋ][e6F:dT a6J eA][e6G:congrArg some][e6H:List.replicate A.length][e6I:bz kf nm][e6J:Paired a16 vs][e6K:qh CE dx][e6L:V1 lt p][e6M:W.frame _ _ _][e6N:bJ hp hc (mJ hi) ht c1u][e6O:LX l.prog w l7 mg base][e6P:W.CodeHd base][e6Q:d91 CX k f fd][e6R:d96 s Ps MX Mr MT Oe Nr][e6S:d96 s N6 MX Mr MT Oe Nr][e6T:Rn.U5 (vf:=e0x p) K0 rm][e6U:e0B IO R][e6V:e0X F σ][e6W:e1m iter][e6X:e5o (q1.mono<|aj S1.le)][e6Y:λe1D _ q2=>0][e6Z:λa ha e2h=>0][e60:h1.extBut hs₁.extBut][e61:Rk.extBut hs₁.extBut][e62:W.fits.ahead i m ks hm][e63:List.Nodup.sublist B2][e64:List.zipWith c2x mixed][e65:bQ (a31 Bx.K) rfl T.M8][e66:λb u q=>0][e68:λi d q=>0][e69:λH i d s e=>0][e7a:λb o b1 b2 e=>0][e7b:λe0i _ hr ND=>0][e7c:λe1W he hb hv hs=>0][e7d:λs1 e3X I1=>0][e7e:P6 P w][e7f:Rd H a][e7g:u.there b][e7h:Heap.SameBut a s.heap][e7i:BindsTo s fd][e7j:cellsFrom į][e7k:Wn xs.length][e7l:upd H2][e7m:QP X.prog X.w X.stack][e7n:mk.keeps b o][e7o:dY ķ p.1][e7p:.int es.size][e7q:bs.getD i][e7r:cleared p bk][e7s:wz i lead][e7t:tP.go S.z][e7u:tP.go S.a][e7v:Om _ _][e7w:jy xJ yJ js iI z6][e7x:rO (fE true) ra rb ε][e7y:.mk ha hb][e7z:QN MY k f fd][e7A:Mz hr (Đ 1)][e7B:.t nX][e7C:gy p t][e7D:Mz hr (Đ 0)][e7E:b4Z (n:=true)][e7F:Q3 t x][e7G:Wy.without U][e7H:B.Nc.names E][e7I:gG c n][e7J:be (aT S.Lj<|some ks)][e7K:a8 fY][e7L:bL yt][e7M:MvI F H a f ml i k vo][e7N:a0i Bx.K rfl][e7O:c5I (K:=Bx.K)][e7P:k2 b o b1 b2][e7Q:Rn.step T][e7R:Rn.missing T][e7S:LC.nt e l][e7T:a6S (gs:=S.LL) (L:=Lt)][e7U:e4k ra rb ε][e7V:λp hp=>0][e7W:λj hj=>0][e7X:Inv (X.Ru E) ñ σ H][e7Y:ha pos ñ s σ H _ I][e7Z:CE outer P w H s Q u][e70:aR Dd hr hg ha OO he][e71:eZ rfl (cS 1 [] sT)][e72:P5.items ih r1 r2 h3][e73:qLo (j:=7) Hr rfl a8O][e74:bW S p ř none Zb m][e75:Oq ⟨CN,CP,CH,CL⟩][e76:Sv ⟨CN,CP,CH,CL⟩][e77:λA i s Q E st h=>0][e78:λH3 e3=>0][e79:λz hz=>0][e8a:λk hk=>0][e8b:λy dy ny ndy ne=>0][e8c:λlc H' as vs e'=>0][e8d:Value.int i][e8e:.cons r][e8f:I.base.R4 b][e8g:PE X Ű][e8h:Pv i σ][e8i:W.instObj C][e8j:eval Ğ][e8k:F.run _ X.stack _ _][e8l:PE X ę][e8m:Md X Ő][e8n:h pos ñ s σ H _ I][e8o:PE X (.List es pos)][e8p:rQ e' c' d'][e8q:ao (top 29)][e8r:MG ř start][e8s:Inv p a][e8t:Sd F σ][e8u:rL n js ri Ba re ε][e8v:L2.grow F H][e8w:Pr R vs H Q][e8x:c3o knd s.heap items][e8y:Na a o'][e8z:hs₁.extBut _ _ c1][e8A:fin ε'][e8B:Tm (k+1) x ğ st ps][e8C:XA (K:=Bx.K) (n:=0)][e8D:u9 (f:=λm:MQ=>m.1)][e8E:List.append_inj' e'][e8F:Int.dvd_mul_right p][e8G:moved p][e8H:Ol p ê][e8I:Mx.Mu _ _ _][e8J:b1s CE R][e8K:Pre p n][e8L:Rn.sends T vf cs τ][e8M:Rn.sim T Ġ][e8N:.mk hP p1 O][e8O:PySem.W.exmAny Bx.K][e8P:qg S.LL][e8Q:b9E F N5 LQ PL Lk Mn][e8R:d92 xR][e8S:d93 a8j Q E][e8T:e0t Q I][e8U:e0w NR][e8V:e1z ord][e8W:e1T s.cs tu][e8X:λi hi=>0][e8Y:λt ε ht gR=>0][e8Z:λxs e0d=>0][e80:I.LJ b][e81:PT X e][e82:PT X c][e83:Nu K H a][e84:vg C m sp dvs E ta][e85:wpAny Ū][e86:LO K H p][e87:wpAny_specialOf hT][e88:I.LJ d _][e89:I.frd hd][e9a:Nd c H v][e9b:g8 (v:=.int 8) rfl][e9c:ar Ý Ý][e9d:V2 F H d][e9e:a1Z hb hv][e9f:bg (dY ķ q.1 q.2)][e9g:b4O 0 rfl][e9h:dO b4d eA][e9i:dT b2I a0X][e9j:iZ rfl][e9k:R7 4 rfl][e9l:Nat.le_add_right _][e9m:A.getD n][e9n:Qy p mixed A s b2G][e9o:G.ech LK][e9p:So.Pre p vs.length][e9q:Az X A ğ scope N'][e9r:a1T (F0:=F) (H0:=H)][e9s:By (f:=λg:Str=>g)][e9t:starts K][e9u:d93 (f v u) Q X.xe][e9v:e0k τ][e9w:e3d s.cs][e9x:λi H x H'=>0][e9y:λgR ε Y'=>0][e9z:λe1N e4L=>0][e9A:I.cell x c][e9B:Nu X.K H a][e9C:b7e (vs:=zV) F hr][e9D:.seq its'.toArray][e9E:fitsIndex_both h1][e9F:List.replicate nT][e9G:Int.fmod p][e9H:Int.fmod a][e9I:grow F1 H1][e9J:s.heap.IsTuple t'][e9K:Fz X H1 H2][e9L:Sr.sh.PZ r][e9M:dF MP hr.m][e9N:dF LH hr.m][e9O:Rea ts U h][e9P:Q8 ts x ws][e9Q:b9A _ _ _ _][e9R:ub p (T.2.take n)][e9S:shown p ê][e9T:G.XR LK em][e9U:da (Tj a90<|Đ 1)][e9V:W.exmAny K][e9W:cT p ř Ň fo Gs][e9X:Sd F (some v::σ)][e9Y:Wj CE Mq m][e9Z:its.getD i][e90:Cy P w K mg base][e91:eq_str sB][e92:rnd T pl msg p tu][e93:bc p r2 msg fo ms][e94:a2A (bA ..)][e95:OR Bx.K x ğ st f][e96:d92 (pv 4)][e97:e0H (Đ 2)][e98:e07 (n:=2)][e99:e1T S.cs a][f0a:e1Y t Q' E][f0b:List.replicate m][f0c:closureFor scope][f0d:bx X scope nT js][f0e:hs₃.extBut _ _][f0f:hs₂.extBut _ _][f0g:tQ F0 H0 rb E σ][f0h:b5N (c:=c) (S:=S)][f0i:eS ts (!h) g N m][f0j:eq_str (ε:=b1G)][f0k:List.zipWith b7H][f0l:nU X W (st::ss)][f0m:bQ (Gn Bx.K) rfl][f0n:Paired (OH G) vs][f0o:cE (S.Lj.take j)][f0p:eq_int (ε:=EM)][f0q:PySem.W.exmAny K][f0r:d93 (d8O Ű) Q E][f0s:λ_ _ x=>0][f0t:λσ' H' p'=>0][f0u:λb o nb hb=>0][f0v:λLK he way hw=>0][f0w:λe0g q=>0][f0x:λe1U h r q=>0][f0y:λe0i _ e4L=>0][f0z:.cons _][f0A:upd H a][f0B:wf X.env.scope][f0C:D.nx σ][f0D:I.pin p][f0E:NH X f][f0F:kN f v][f0G:swapsWith value][f0H:.cons rfl][f0I:ar N ps][f0J:s.heap.update p][f0K:Md X f][f0L:backTo MA][f0M:Itz K a][f0N:upd H1][f0O:b1z h C][f0P:.str name][f0Q:Inv b9y Qw σ H][f0R:dY ķ k][f0S:valueAt (q::qs)][f0T:dot (x.map WH)][f0U:R.sh.PZ _][f0V:DR F' d][f0W:q x H2][f0X:S.rz i][f0Y:b2f is l][f0Z:p σ _][f00:h'.DictOf knd d][f01:h h' tk][f02:I.kept (t':=tk)][f03:e3 _ _][f04:b0X h' z TI TO T][f05:a7 _ _][f06:NZ _ _][f07:Tj (Đ 3)][f08:MI p t][f09:T7 (·.1)][f1a:bfs ts][f1b:Oc ts U h][f1c:eV ts Zt][f1d:da (Đ 7)][f1e:Nw p k vs][f1f:h.off w j hw hj][f1g:xZ CE R B][f1h:W.InstAt s.heap][f1i:mH Bx.K][f1j:QN Wp 7 f fd à][f1k:a8 zB][f1l:cE S.Lj][f1m:bY p ř fo ms m][f1n:Mk.Pj p m ç ê][f1o:bz kf zI][f1p:bL (bn S)][f1q:OZ.m (g:=D.str)][f1r:upd G l][f1s:Mk.M' m][f1t:kas_rev p][f1u:Dn lt p][f1v:D.far a][f1w:p.toList.getD i][f1x:k' b o b1][f1y:s.heap.update a][f1z:Sb P H][f1A:lk _ _][f1B:O.row r][f1C:a6E K.nd][f1D:Rn.Oh T][f1E:Rn.O3 T][f1F:Rn.UA T][f1G:rDs D.lst][f1H:xx S.LL i][f1I:Mh k x ps][f1J:e0X F'][f1K:e06 he hb][f1L:e1e ħ][f1M:e1j Þ][f1N:e12 kI][f1O:e4h H h][f1P:k b u (hb b n)][f1Q:W.of_hideAll _][f1R:u.slot b o e n][f1S:Inv X ñ yI H][f1T:Int.fmod_def p][f1U:gNs is xs σ H][f1V:pA rt rb n ε][f1W:dF NP hr.m rfl][f1X:dF MC hr.m rfl][f1Y:congrArg V.str][f1Z:dF MW hr.m rfl][f2a:dF LR hr.m rfl][f2b:nums.foldl j7][f2c:b8 (f'.refl _)][f2d:St lt (g p' b)][f2e:wpAny ē A.in1][f2f:a1M mg base fd][f2g:CodeHd base c1][f2h:a0q T pl msg p][f2i:rO jC b7p ZU][f2j:e2l boot_range][f2k:λ_ _ q=>0][f2l:λs2 gR=>0][f2m:λw' s3 I3 Tx=>0][f2n:λH i s z=>0][f2o:λa H2 vs e2 ha hv hd=>0][f2p:λo H2 fz=>0][f2q:λi ε=>0][f2r:λa ha=>0][f2s:λa e1D h2 ha=>0][f2t:λe2Y hD keep=>0][ą:λ_ _ _ _=>0][Ĉ:λ_ _ _=>0][ĉ:λ_ _=>0][č:λċ Č=>MZ K ċ ċ Č][Ď:λċ=>d99 mainGlobals ċ=!none][ď:λċ Č ĥ=>d99 mainGlobals ċ=!some (.int Č ĥ)][Ι:λċ Č=>d99 mainGlobals ċ=!some Č][Κ:λċ=>e0c ċ "__setattr__"=!some Ĝ]:by lia:=by
 refine Classical.byContradiction fun ĥ=>?_
 refine ĥ ?_
 try clear ĥ
 exact by first|assumption|(simp_all;done)|lia
open List renaming length_map->GS,getElem?_eq_getElem->GT,getD_eq_getElem?_getD->GV,getElem?_eq_some_iff->GW,mem_map->GX,map_map->GY,map_append->GZ,mem_of_getElem?->Hb,mem_cons_of_mem->He,getElem?_map->Hh,mem_cons_self->Hi,length_take->Hm,length_append->Hn,mem_map_of_mem->Ho,mem_append_right->Hq,mem_cons->Hs,mem_singleton->Ht,mem_filter->Hw,mem_append->Hx,map_congr_left->HA,append_nil->HD,map_cons->HE,append_assoc->HI,length_filter_le->HJ,mem_append_left->HK,nodup_append->HL,take_length->HM,mem_range->HP,nodup_cons->HQ,size_toArray->HU,length_range->HV,getElem?_append_left->HY,length_cons->HZ,getElem_mem->Ia,getElem?_append_right->Ib,mem_iff_getElem->Ig,length_singleton->Ih,not_mem_nil->Ij,mem_of_find?_eq_some->Ik,getElem?_eq_none->Ip,mem_zipIdx_iff_getElem?->Iq,take_of_length_le->Ir,take_append_drop->Iy,flatMap_append->IE,nil_append->IF,foldl_cons->IG,filter_cons->IK,take_add_one->IM,mem_of_mem_take->IN,map_nil->IP,getElem?_take_of_lt->IR,all_eq_true->IS,mem_iff_getElem?->IT,map_uncurry_zip_eq_zipWith->IX,find?_eq_none->IZ,mem_flatMap->J0,filter_sublist->J1,length_zip->J7,mem_erase_of_ne->J8,take_zero->J9,getElem?_set->Ja,flatMap_cons->Jb,filter_eq_nil_iff->Jc,of_mem_zip->Jf,find?_cons->Jg,drop_eq_getElem_cons->Jh,filter_append->Jj,ext_getElem->Jk,map_take->Jl,eq_of_mem_replicate->Jm,pairwise_map->Jo,find?_some->Jq,getElem_of_mem->Jr,getElem?_range->Js,pairwise_cons->Jx,nodup_nil->Jy,take_sublist->JA,length_eq_zero_iff->JH,zipIdx_append->JM,length_zipIdx->JN,length_nil->JS,getElem?_zipWith->JV,foldl_append->JY,ext_getElem?->JZ,getElem?_zipIdx->K5,lookup_cons->Kb,pairwise_iff_getElem->Kf,mem_take_iff_getElem->Kg,replicate_succ->Ki,filterMap_cons->Kj,getElem?_drop->Ko,map_id'->Ks,getElem_take->Kt,forIn_nil->a5V,find?_isSome->Kv,find?_append->Kw,length_drop->KD,flatMap_def->KF,map_drop->KH,any_cons->KI,take_append_of_le_length->KL,getElem_zipWith->KM,eq_nil_of_length_eq_zero->KN,range_succ->KQ,forIn_cons->c38,filter_eq_self->KU,zip_cons_cons->L4,getElem?_zip_eq_some->L5,exists_mem_of_ne_nil->b4S,flatten_cons->Lc,filter_congr->Ld,length_erase_of_mem->Li,Sublist.map->Kc,Pairwise.map->Le
open PySem renaming wpAny_bind->GU,wpAny_pure->Hk,wpAny_holding->Io,wpAny_Call_Name_kw->IC,wpAny_mono->II,sizeLine_eq->IY,mem_of_lookup->Je,wpAny_truthy_bool->Jn,wpAny_call_entry->JE,wpAny_callSpecial?_slot->JF,wpAny_typeNameOfWhole_keyiter->JJ,wpAny_passesOwn->JP,codeAny_builtin->JQ,wpAny_standAt->JU,wpAny_newObj_type->JX,wpAny_tryCatch->K3,wpAny_seqItems->K4,codeAny_mono->K8,wpAny_pyIter_list->Kq,wpAny_loadPart_at->Kr,plainObj_wpAny_Assign_Attribute->b0P,wpAny_notOrdered_dict->Kz,wpAny_call->KB,call_meets->KC,wpAny_execs_nil->KO,wpAny_typeOf->KY,wpAny_letGo->L8,wpAny_field->L9,wpAny_dictEntries->La,wpAny_newList->Lg,wpAny_attempt->Lh,PassesOwn.never->Hr,F.plainAttrs_list->Hu,F.type_list_append->Hy,F.slot_list_append->Hz,F.plain_max_loop->b5k,F.slot_dict_keyiterator_next->JT,W.mg_none_of->Hv,W.mg_of->IB,W.kia_one->J4,W.callWith_K->Kn,Heap.SameBut.update->JD,Code.quiet_builtin->JO,Calls.callWith_builtin->Kx,Around.in1_units->KG,W.KasT.kasWp_bind->KS,BindsTo.of_defaults->c3J
open PySem.Heap renaming get?_push_of_some->Ha,lt_size->HF,get?_push_size->HG,get?_update_other->Jd,get?_update_self->JW,size_push->K7,get?_update_ne->b6g,get?_push_ne->Lf
open _root_ renaming decide_eq_true->Hf,decide_eq_false->Hg,of_decide_eq_true->HB,decide_eq_true_iff->Iw,of_decide_eq_false->ID,if_false->Ju,beq_iff_eq->Jv,beq_eq_false_iff_ne->JC,decide_eq_decide->JG,or_false->Kl,bne_self_eq_false->b6P
open Nat renaming le_refl->Hl,le_trans->HH,ne_of_lt->HR,lt_of_lt_of_le->HS,zero_le->HW,lt_succ_self->IJ,ne_of_gt->IV,lt_irrefl->J3,lt_succ_of_lt->Jz,lt_of_le_of_lt->JL,not_lt_zero->JR,succ_mul->K9,le_of_lt->Ka,le_succ->KK,le_of_eq->KZ
open Option renaming map_eq_some_iff->HN,isSome_iff_exists->IQ
open Int renaming emod_lt_of_pos->HX,emod_nonneg->Ii,fmod_eq_emod_of_nonneg->Im,dvd_mul_of_dvd_right->Iv,dvd_of_emod_eq_zero->Iz,emod_eq_of_lt->IW,toNat_natCast->J2,emod_add_mul_ediv->Ji,emod_eq_zero_of_dvd->Jp,dvd_add->Jt,dvd_sub->JB,mul_le_mul_of_nonneg_left->JK,le_refl->K6,emod_eq_emod_iff_emod_sub_eq_zero->Ke,dvd_mul_of_dvd_left->Kp,le_of_dvd->KJ,zero_add->L0,le_trans->L1
open Bool renaming false_ne_true->Ie,false_eq_true->Ix,eq_iff_iff->IH,and_eq_true->IL,not_eq_true'->K2
open Array renaming length_toList->Il,getD_eq_getD_getElem?->Iu,getElem?_eq_getElem->Kh,getElem?_toList->KA
open True renaming intro->Jw
open Classical renaming byContradiction->L7
open PyProof renaming Rows.callWith_type1->IU,Rows.listUpdate_at->Km,Rows.get?_update_seq->KP
namespace L2
open PySem PySem.Spec PyProof.Rows
abbrev Ws:=Sum Int Str
theorem rB:Ws->Value->Bool
 | .inl k,v=>Value.isInt k v
 | .inr x,v=>Value.isStrOf x v
theorem a8f (w):Ws->Int
 | .inl k=>hashInt k
 | .inr x=>hashStr w x
def bi:∀ {k:Ws}{v:Value},rB k v=true->(∃ i t,k=Sum.inl i/\v=e8d t)\/(∃ x t,k=Sum.inr x/\v=Value.str x t)
 | .inl i,v,h=>by let#[t,e]:=Value.isInt_shape h;show .inl #[i,t,1,e]
 | .inr x,v,h=>by let#[t,e]:=Value.isStrOf_shape h;show .inr #[x,t,1,e]
def c5W (i:Int)(t:Tok):rB (.inl i) FU=true:=by simp[rB,Value.isInt]
def a5d (x)(t:Tok):rB ou (.str x t)=true:=by simp[rB,Value.isStrOf]
def a0Q (a b:Int):decide ((Sum.inl a:Ws)=Sum.inl b)=(a==b):=by grind
def a0M (a b:Str):decide ((Sum.inr a:Ws)=Sum.inr b)=decide (a=b):=by grind
def a0P (a:Int)(b:Str):decide ((Sum.inl a:Ws)=Sum.inr b)=false:=Hg c2b
def a0N (a:Str)(b:Int):decide ((Sum.inr a:Ws)=Sum.inl b)=false:=Hg c2b
abbrev _root_.É:=Program
theorem aP (prog:É)(w):PySem.KeyKind prog w Ws where
 is:=rB
 hash:=a8f w
 inj:=λv a b ha hb=>by
  rcases bi ha with⟨i,t,rfl,rfl⟩|⟨x,t,rfl,rfl⟩
  ·rcases bi hb with⟨j,u,rfl,e⟩|⟨y,u,rfl,e⟩
   ·ext d7s
   ·show nomatch e
  ·rcases bi hb with⟨j,u,rfl,e⟩|⟨y,u,rfl,e⟩
   ·show nomatch e
   ·ext d7s
 byValue:=λk v h=>by
  rcases bi h with⟨i,t,rfl,rfl⟩|⟨x,t,rfl,rfl⟩ <;> rfl
 pyHash:=λhv h=>by
  rcases bi hv with⟨i,t,rfl,rfl⟩|⟨x,t,rfl,rfl⟩
  ·show wpAny_pyHash_int h
  ·show wpAny_pyHash_str h
 eqBool:=λhu hv h=>by
  rcases bi hu with⟨i,t,rfl,rfl⟩|⟨x,t,rfl,rfl⟩
  ·rcases bi hv with⟨j,u,rfl,rfl⟩|⟨y,u,rfl,rfl⟩
   ·rw[a0Q]at h;show wpAny_eqBool_int h
   ·rw[a0P]at h;show SeqAt.EqAt.int_str i t y u ą h
  ·rcases bi hv with⟨j,u,rfl,rfl⟩|⟨y,u,rfl,rfl⟩
   ·rw[a0N]at h;show SeqAt.EqAt.str_int x t j u ą h
   ·rw[a0M]at h;show wpAny_eqBool_str h
 «strs»:=λk x t v h=>by
  rcases bi h with⟨i,u,rfl,e⟩|⟨y,u,rfl,e⟩
  ·show nomatch e
  ·injection e with e1 _
   subst e1
   cases v <;> rfl
def c5h (prog:É)(w)(i:Int)(t:Tok):(aP prog w).is (.inl i) FU=true:=c5W i t
def b8t (prog:É)(w)(x)(t:Tok):(aP prog w).is ou (.str x t)=true:=a5d x t
inductive V where
 |non|bl (b:Bool)|int (i:Int)|str (x:Str)|byt (b:Array UInt8)|flt (b:UInt64)|ref (a:Addr)|ty (n:String)
 deriving DecidableEq
theorem rp:V->Value->Prop
 | .non,u=>u=Value.none
 | .bl b,u=>u=Value.bool b
 | .int i,u=>∃ t,u=e8d t
 | .str x,u=>∃ t,u=Value.str x t
 | .byt b,u=>∃ t,u=Value.bytes b t
 | .flt b,u=>∃ t,u=Value.float b t
 | .ref a,u=>u=Value.ref a
 | .ty n,u=>u=Value.type n
abbrev sY:List V->List Value->Prop:=Paired rp
def sY.length (r:e0v us):xs.length=us.length:=Paired.length r
abbrev _root_.π:=List V
abbrev _root_.θ:=List Value
def sY.get:∀ {xs:π}{us:θ}{i:Nat}{x:V},e0v us->xs[i]?=!x->∃ u,us[i]?=!u/\rp x u:=by
 intro xs us i x h
 induction h generalizing i with
 | nil=>intro e;simp at e
 | cons r t ih=>
  intro e
  cases i with
  | zero=>cbv
  | succ i=>show ih Zz
def sY.set (d0q):∀ {xs:π}{us:θ} (i:Nat),e0v us->sY (xs.set i x) (us.set i u)
 | _,_,_,.nil=>.nil
 | _,_,0,f0z t=>e8e t
 | _,_,i+1,.cons q t=>.cons q (sY.set r i t)
def sY.append:∀ {xs ys:π}{us ws:θ},e0v us->e6h ws->sY (xs++ys) (us++ws):=by
 intro xs ys us ws h s
 induction h with
 | nil=>show s
 | cons r _ ih=>show .cons r ih
def sY.take:∀ {xs:π}{us:θ} (n:Nat),e0v us->sY (xs.take n) (us.take n)
 | _,_,0,_=>.nil
 | _,_,_+1,.nil=>.nil
 | _,_,n+1,e8e t=>e8e (sY.take n t)
def sY.drop:∀ {xs:π}{us:θ} (n:Nat),e0v us->sY (xs.drop n) (us.drop n)
 | _,_,0,r=>r
 | _,_,_+1,.nil=>.nil
 | _,_,n+1,f0z t=>sY.drop n t
theorem Qa:Option V->Option Value->Prop
 | some v,some u=>e4O u
 | none,none=>True
 | _,_=>False
theorem KV {κ:Type}:List (κ×V)->List (κ×Value)->Prop:=Paired λ(p:κ×V) (q:κ×Value)=>p.1=q.1/\rp p.2 q.2
theorem kV:Ws->V
 | .inl i=>.int i
 | .inr x=>.str x
abbrev _root_.Ó:=Array Value
abbrev _root_.Ï:=List (Str×V)
abbrev _root_.ξ:=List (Ws×V)
inductive HO where
 |lst (xs:π)
 |tup (xs:π)
 |dK (ķ:ξ)|dT (ķ:List su)
 |set (S:Int->Bool) (n:Nat)
 |ins (C dx:Addr) (fs:Ï)
 |own (x:Addr)
 |xd (fs:Ï)
 |met (f x:Addr)
 |rng (lo hi:Int)
 |frz (o:Obj) (u:HO)
 |tbl (ps:Ó)
 |ext (φ:Heap->Prop)
abbrev Hp:=Addr->Option HO
theorem upd (H)(c9s)(o:HO):Hp:=λb=>if b=a then some o else H b
def af:f0A o a=!o:=by ext1 upd;ext d54
def a9 (h:b≠a):f0A o b=H b:=by ext1 upd;rw[if_neg h]
def cR {H:Hp}(h:H a=!o)(h':H b=!u)(d:o≠u):a≠b:=by ext d75;show d (Option.some.inj h')
def ak {H:Hp}(h:H a=!o)(h':H b=none):a≠b:=by ext d75;cases h'
variable (P:É)(w:World)
theorem LP (H)(c8Q)(c9s):HO->Prop
 | .lst xs=>xs.length<=sizeLine/\∃ (its:θ)(n:Nat),e0v its/\h.get? a=!{ cls:=.type "list",data:=e0z n }
 | .tup xs=>xs.length<=sizeLine/\∃ its:θ,e0v its/\IsTup h a its.toArray
 | .dK ķ=>ķ.length<=sizeLine/\(a==sysModules)=false/\∃ vs,KV ķ vs/\h.DictOf DV a vs
 | .dT ķ=>ķ.length<=sizeLine/\(a==sysModules)=false/\∃ xs:List nY,
   Paired (λ(p:List Ws×V) (q:List Ws×Addr×Value)=>p.1=q.1/\H q.2.1=!.tup (p.1.map kV)/\rp p.2 q.2.2) ķ xs/\
   ∃ o es ep,h.get? a=!o/\o.ExactDict/\o.data=.dict es ep/\es.toList=xs.map (entryOfKey (tupleKind DV))/\(xs.map (·.1)).Nodup
 | .set S n=>h.SetOf (intKind P w) a S n
 | .ins C dx fs=>H dx=!.own a/\fs.length<=1000/\dx≠a/\h.get? a=!W.instObj C dx/\
   ∃ mA,h.Ns1 dx mA/\(∀ f,Qa F9 (mA f))/\PySem.Within mA (fs.map (·.1))
 | .own _=>∃ o,h.get? a=!o
 | .xd fs=>∃ mA,h.Ns1 a mA/\∀ f,Qa F9 (mA f)
 | .rng lo hi=>∃ t u v,h.get? a=!{ cls:=.type "range",data:=.fields [tZ].toArray }
 | .frz o u=>h.get? a=!o/\LP H h a u
 | .tbl ps=>h.get? a=!{ cls:=.none,data:=.fields ps }
 | .met f x=>h.get? a=!W.methodObj Fr rR
 | .ext φ=>φ h/\(∃ o,h.get? a=!o)/\∀ h1 h2:Heap,φ h1->(∀ o,h1.get? a=!o->h2.get? a=!o)->φ h2
theorem P6 (H)(c8Q):Prop:=∀ a o,H a=!o->f1O a o
open e
def fe (c9t):∃ ob,h.get? a=!ob:=by
 cases o with
 | lst xs=>let⟨_,_,_,_,e⟩:=x;ext d6O
 | tup xs=>let⟨_,_,_,ob,e,_⟩:=x;ext d6O
 | dK ķ=>ext d5p
 | dT ķ=>ext d5p
 | set S n=>let⟨o,_,_,_,e,_⟩:=x;ext d6O
 | ins C dx fs=>let⟨_,_,_,e,_⟩:=x;ext d6O
 | own y=>let⟨_,e⟩:=x;ext d6O
 | xd fs=>let⟨_,⟨_,_,_,e,_⟩,_⟩:=x;ext d6O
 | rng lo hi=>let⟨_,_,_,e⟩:=x;ext d6O
 | frz ob u=>let⟨e,_⟩:=x;ext d6O
 | tbl ps=>show#[_,x]
 | met f y=>show#[_,x]
 | ext φ=>let⟨_,⟨_,e⟩,_⟩:=x;ext d6O
def LP.lt (c9t):a<h.objs.size:=let ⟨_,e⟩:=fe x;HF e
def Paired.NL:∀ {l₁:List α}{l₂:List β},e6i l₁ l₂->(∀ a b,F a b->G a b)->Paired G l₁ l₂:=by
 intro l m h f
 induction h with
 | nil=>show .nil
 | cons r _ ih=>show .cons (f ĉ r) ih
def Paired.imp' (f:∀ a b,F a b->G a b)(d2e):Paired G l₁ l₂:=Paired.NL r f
def LP.MR (c9t)(k:∀ b u,(b=a\/H b=!.own a)->h.get? b=!u->h'.get? b=!u)(ho:∀ b,H b=!.own a->H' b=!.own a)(ht:∀ b xs,H b=!.tup xs->H' b=!.tup xs):e4h H' h' a o:=by
 induction o with
 | lst xs=>let⟨z,its,n,r,e⟩:=x;show#[Fj,e3J e]
 | tup xs=>let⟨z,its,r,ob,e,c⟩:=x;show#[z,its,r,ob,GE]
 | dK ķ=>let⟨z,y,vs,r,ob,es,ep,e,c⟩:=x;show#[z,y,vs,r,ob,Go,GE]
 | dT ķ=>
  let#[z,y,xs,r,ob,Go,e,c]:=x;show#[z,y,xs,Paired.NL r λp q z=>#[z.1,ht ĉ z.2.1,z.2.2],ob,Go,GE]
 | set S n=>let⟨ob,es,ep,t,e,c⟩:=x;show#[ob,Go,t,GE]
 | ins C dx fs=>
  let#[d,z,ne,e,mA,#[od,Go,e2,c],r]:=x;show#[ho _ d,z,ne,e3J e,mA,#[od,Go,k ĉ (.inr d) e2,c],r]
 | own y=>let⟨ob,e⟩:=x;show#[ob,e3J e]
 | xd fs=>let⟨mA,⟨od,es,ep,e,c⟩,r⟩:=x;show#[mA,#[od,Go,GE],r]
 | rng lo hi=>let⟨t,u,v,e⟩:=x;show#[t,u,v,e3J e]
 | frz ob u ih=>let⟨e,q⟩:=x;show#[e3J e,ih q]
 | tbl ps=>
  let e:=x;show k a _ Ķ e
 | met f y=>
  let e:=x;show k a _ Ķ e
 | ext φ=>let⟨p,⟨o,e⟩,st⟩:=x;show#[st ĉ p λo q=>e3J q,#[o,e3J e],st]
def P6.lt (c8Z)(e:H a=!o):a<h.objs.size:=(x a o e).lt
def P6.fresh (c8Z)(e:h.objs.size<=a):H a=none:=by
 cases q:H a with
 | none=>rfl
 | some u=>show absurd (HS (x.lt q) e) A3
def P6.kept (c8Z)(c7F):e7e H h':=λa o e=>
 (x a o e).MR (λb u _ q=>k b u q) yY λf2k=>q
def P6.laid (c8Z)(d2f)(new:e4h pp h' a o):e7e pp h':=λe5t=>by
 let hn:=x.fresh hp;by_cases hb:b=a
 ·grind [af]
 ·rw[a9 hb]at e;show (x b u e).MR (λc v _ q=>k c v q) (λc q=>by rw[a9<|ak q hn];show q) λc xs q=>by rw[a9<|ak q hn];show q
theorem Rd (H)(c9s)(u:HO):Prop:=H a=!u\/∃ o,H a=!.frz o u
def Rd.ok (r:e7f u)(c8Z):f1O a u:=by
 rcases r with r|⟨o,r⟩
 ·show x a u r
 ·let#[_,q]:=x a _ r;show q
theorem wR:Option HO->Prop
 | some (.lst _)=>True
 | some (.dK _)=>True
 | some (.dT _)=>True
 | some (.set _ _)=>True
 | some (.ins _ _ _)=>True
 | some (.ext _)=>True
 | _=>False
def P6.write (c8S)(c8d)(new:e4h (d8X x o') h' x o'):e7e (d8X x o') h':=λe66=>by
 let a77:∀ c y,H c=!.own y->c≠x:=λc y r z=>by subst z;rw[r]at mu;show mu
 let a76:∀ c xs,H c=!.tup xs->c≠x:=λc xs r z=>by subst z;rw[r]at mu;show mu
 by_cases hb:b=x
 ·grind [af]
 ·rw[a9 hb]at q;by_cases Yh:b=e
  ·let q':H b=!.own x:=by
    cbv
   rw[q]at q';cases q';let#[v,hv]:=heo;show#[v,by rw[Yh];show hv]
  ·show (ok b u q).MR (λc v hc r=>k c v ?_ r) (λc r=>by rw[a9<|a77 c b r];show r) λc xs r=>by rw[a9<|a76 c xs r];show r
   grind
abbrev _root_.υ:=List Addr
structure Un (fs ex:υ)(H H':Hp)(h h':Heap):Prop where
 keep:∀ b o,h.get? b=!o->H b=none->b∉fs->b∉ex->h'.get? b=!o
 slot:∀ b o,h.get? b=!o->H b=none->b∈fs->b∉ex->∃ sl,h'.get? b=!{ o with slots:=sl }
 free:∀ b o,h.get? b=!o->H b=none->b∉ex->H' b=none
 there:∀ b o,h.get? b=!o->b∉ex->∃ o',h'.get? b=!o'
 RV:∀ b xs,H b=!.tup xs->H' b=!.tup xs
 R4:∀ b o u,H b=!.frz o u->H' b=!.frz o u
 Rw:∀ b ps,H b=!.tbl ps->∃ more,H' b=!.tbl (ps++more)
variable {fs ex:υ}{H:Hp}{h h':Heap}{a:Addr}{o:HO}
def Un.any (u:e33 H1 h h1)(q:h.get? b=!ob)(n:H b=none)(hx:b∉ex):∃ sl,h1.get? b=!{ ob with slots:=sl }:=by
 by_cases hb:b∈fs
 ·show u.slot b ob q n hb hx
 ·show#[ob.slots,u.keep b ob q n hb hx]
def Un.kept (c7F):e33 H h h':=
 #[λb ob q d97=>k b ob q,λb ob q d97=>#[ob.slots,k b ob q],λd97 n _=>n,λb ob q _=>#[ob,k b ob q],λf2k=>q,λd97 q=>q,λ_ ps q=>#[[].toArray,by rw[q];simp]]
def Un.refl:e33 H h h:=Un.kept λf2k=>q
def Un.laid (d2f)(hn:H a=none):e33 pp h h' where
 keep:=λe66 d97=>k b u q
 slot:=λe66 d97=>#[u.slots,k b u q]
 free:=λe66 n _=>by rw[a9<|HR (HS (HF q) hp)];show n
 there:=λe66 _=>#[u,k b u q]
 RV:=λb xs q=>by rw[a9<|ak q hn];show q
 R4:=λb u xs q=>by rw[a9<|ak q hn];show q
 Rw:=λb ps q=>#[[].toArray,by rw[a9<|ak q hn,q];simp]
def Un.write (c8d):e33 Z' h h':=by
 let hx:∀ b,H b=none->b≠x:=λb n z=>by subst z;rw[n]at mu;show mu
 let hb:∀ b,H b=none->b≠e:=λb n z=>by
  cbv
 let hm:∀ b u,H b=!u->¬ wR !u->b≠x:=λe66 nm z=>by cbv
 show#[λe66 n _ _=>f1P q,λe66 n _ _=>#[u.slots,f1P q],λe66 n _=>by rw[a9<|hx b n];show n,λe66 _=>?_,
  λb xs q=>by rw[a9<|hm b _ q λz=>z];show q,λb u xs q=>by rw[a9<|hm b _ q λz=>z];show q,λb ps q=>#[[].toArray,by rw[a9<|hm b _ q λz=>z,q];simp]]
 by_cases Yh:b=e
 ·subst Yh;show heo
 ·show#[u,k b u Yh q]
open e
theorem trk (c8Q)(H):υ:=(List.range h.objs.size).filter λa=>(H a).isSome
theorem oP (c8Q)(H):Heap:=W.hideAll h (trk h H)
def a4L (c8Q)(H):(oP h H).objs.size=h.objs.size:=W.hideAll_size ĉ
def b0R (e:h.get? b=!o)(n:H b=none):(oP h H).get? b=!o:=
 W.hideAll_get _ e λhm=>by
  let q:=(Hw.mp hm).2
  cbv
def b3T (e:(oP h H).get? b=!o):h.get? b=!o/\H b=none:=by
 let e':=f1Q e;show#[e',?_]
 cases q:H b with
 | none=>rfl
 | some x=>
  let hm:b∈trk h H:=Hw.mpr #[HP.mpr<|HF e',by simp[q]];let z:(oP h H).get? b=none:=W.hideAll_none _ hm;ext d4J
abbrev _root_.Î:=Option Value
abbrev _root_.Ω:=Str->Î
abbrev _root_.Ψ:=W.Frag
structure Mod (c9i)(base:Heap):Prop where
 Y8:K.In base
 glob:base.Ns mainGlobals mg
 blt:∃ mb,base.Ns builtinsNs mb/\∀ x:Str,x≠"__name__"->mb x=bootBuiltins x
 nolimit:base.NoLimit
abbrev _root_.Ë:=Around
abbrev _root_.Ê:=Shared
abbrev _root_.ρ:=Value->Shared->Prop
abbrev _root_.η:=List Str
abbrev _root_.ζ:=List (Addr×Obj)
structure Cx where
 prog:É
 w:World
 K:Ψ
 mg:Ω
 base:Heap
 A:Ë
 N:η
 s₀:Ê
 H₀:Hp
 env:Env
 outer:List Env
 stack:List Env
 ex:υ
 fn:Str->Bool
 calm:Bool
 pn:ζ
 xe:ρ
theorem R5 (l:List Env):υ:=l.filterMap (·.frame)
abbrev Cx.fs (X:Cx):υ:=R5 X.outer
theorem wf (sc)(x):Prop:=sc.names.lookup x=!.local\/sc.names.lookup x=!.cell\/sc.names.lookup x=!.free
theorem Aa (sc)(x):Prop:=sc.names.lookup x=!.local\/sc.names.lookup x=!.cell
theorem a9L (env:Env)(c8Q)(m:Ω)(x)(u):Prop:=
 (env.kindOf x=!.local/\m x=!u)\/((env.kindOf x=!.cell\/env.kindOf x=!.free)/\∃ c,env.cells.lookup x=!c/\h.IsCell c !u)
structure Cx.Ok (X:Cx):Prop where
 mod:Mod X.K X.mg X.base
 kind:X.env.scope.kind=.function
 glob:X.env.globals=mainGlobals
 blt:X.env.builtins=builtinsNs
 above:X.s₀.heap.objs.size<=X.env.locals
 inj:∀ x y c,X.env.cells.lookup x=!c->X.env.cells.lookup y=!c->x=y
 has:∀ x,(d87 x)->∃ c,X.env.cells.lookup x=!c
 cab:∀ x c,X.fn x=true->X.env.cells.lookup x=!c->X.s₀.heap.objs.size<=c
 hd:X.calm=true->X.A.handled=none
 frames:X.A.frames=!X.stack
 Vw:X.stack=X.outer \/ (X.stack=X.env::X.outer/\X.env.frame=!X.env.locals)
 exf:∀ b∈X.ex,b≠X.env.locals/\∀ x c,X.env.cells.lookup x=!c->c≠b
 bs:∀ b o,X.base.get? b=!o->X.s₀.heap.get? b=!o/\X.H₀ b=none
 Wh:X.base.objs.size<=X.s₀.heap.objs.size
 UB:∀ b o,X.base.get? b=!o->b∉X.ex
 Wd:∀ b∈X.ex,b∉X.fs
 Q7:X.s₀.heap.FunFrames X.base X.outer
 XI:∀ b∈X.fs,X.H₀ b=none
abbrev _root_.Ç:=Option V
structure Inv (X:Cx)(ñ:ζ)(σ:List Ç)(H:Hp)(s:Ê):Prop where
 ok:X.Ok
 os:s.os=X.s₀.os
 bare:AllBare s.gens
 base:Un X.fs X.ex X.H₀ H X.s₀.heap s.heap
 loc:∃ m,s.heap.Ns X.env.locals m/\∀ (i:Nat)(x:Str)(v:V),X.N[i]?=!x->σ[i]?=!some v->wf X.env.scope x->∃ u,rp v u/\a9L X.env s.heap m x u
 cell:∀ x c,X.env.cells.lookup x=!c->∃ v,s.heap.IsCell c v
 free:H X.env.locals=none
 N4:∀ x c,X.env.cells.lookup x=!c->H c=none
 pin:∀ p∈X.pn++ñ,s.heap.get? p.1=!p.2/\H p.1=none/\p.1≠X.env.locals/\p.1∉X.fs/\∀ v,p.2.data≠.cell v
 LJ:P6 X.prog X.w H s.heap
 len:σ.length=X.N.length
def Cx.Ok.WR {X:Cx}(ok:X.Ok)(e:X.base.get? b=!o):b∉X.fs:=λhb=>by
 let:=(ok.Q7.mem hb).1
 grind
def Inv.bs (I):∀ b o,X.base.get? b=!o->s.heap.get? b=!o/\H b=none:=λe0F=>
 #[e20 (e4P e).1 (e4P e).2 (I.ok.WR e)<|I.ok.UB b o e,e3K o (e4P e).1 (e4P e).2<|I.ok.UB b o e]
def Inv.bk (I):∀ b o,X.base.get? b=!o->s.heap.get? b=!o:=λe0F=>(I.bs b o e).1
def Inv.mod (I):Mod X.K X.mg X.base:=I.ok.mod
def Inv.Ow (I):X.K.In s.heap:=I.ok.mod.Y8.keeps I.bk
def Inv.nolimit (I):s.heap.NoLimit:=I.ok.mod.nolimit.keeps I.bk
def Inv.lt (I):X.env.locals<s.heap.objs.size:=let ⟨_,hn,_⟩:=I.loc;hn.lt
def Inv.sz (I):X.s₀.heap.objs.size<=s.heap.objs.size:=HH I.ok.above (Ka I.lt)
def Inv.WQ (I)(h:s.heap.objs.size<=a):a∉X.fs:=λhb=>by let#[_,o,ho,_]:=I.ok.Q7.mem hb;show absurd (HS (HF ho)<|HH I.sz h) A3
def Inv.cne (I):∀ x c,X.env.cells.lookup x=!c->c≠X.env.locals:=λx c e z=>by
 ext d8j;let#[m,#[o',Go,U1,Qn,_],_]:=I.loc
 grind
def Inv.Q7 (I):e2y X.outer:=by
 let all:∀ (l:List Env),(∀ b∈R5 l,b∈X.fs)->X.s₀.heap.FunFrames X.base l->e2y l:=by
  intro l
  induction l with
  | nil=>intro _ _;trivial
  | cons env r ih=>
   intro hs hl;let#[hk,#[L,o,hf,hn,ho,hd],hr]:=hl;let hL:=hs L (by ext1 R5;rw[Kj,hf];show Hi);let#[sl,e]:=I.base.slot L o ho (I.ok.XI L hL) hL λz=>I.ok.Wd L z hL;show#[hk,#[L,_,hf,hn,e,hd],ih (λe2h=>hs b (by ext1 R5;rw[Kj,hf];show He _ hb)) hr]
 show all X.outer (λ_ hb=>hb) I.ok.Q7
def Inv.stack (I):e2y X.stack:=by
 ext d6K
 ·rw[e];show I.Q7
 ·rw[e];let#[m,hn,_]:=I.loc;show .cons (by rw[I.ok.kind];decide) hf hn ?_ I.Q7;show Heap.get?_none_of_le (e5O I.ok.above)
def Inv.V5 (I):∀ b∈R5 X.stack,b∈X.env.locals::X.fs:=λe2h=>by
 ext d6K
 ·cbv
 ·rw[e]at hb;unfold R5 at hb;rw[Kj,hf]at hb;show hb
def Inv.Px (I):∀ b∈R5 X.stack,H b=none:=λe2h=>by
 rcases Hs.mp (I.V5 b hb) with e|hb
 ·rw[e];show I.free
 ·let#[_,o,ho,_]:=I.ok.Q7.mem hb;show I.base.free b o ho (I.ok.XI b hb) λz=>I.ok.Wd b z hb
def Inv.step {ch:υ}(I)(XG)(keep:∀ b o,b≠X.env.locals->b∉X.fs->b∉ch->s.heap.get? b=!o->H b=none->h'.get? b=!o)(slot:∀ b o,b≠X.env.locals->b∈X.fs->b∉ch->s.heap.get? b=!o->H b=none->∃ sl,h'.get? b=!{ o with slots:=sl })(free:∀ b o,b∉ch->s.heap.get? b=!o->H b=none->H' b=none)(there:∀ b o,b∉ch->s.heap.get? b=!o->∃ o',h'.get? b=!o')(RV:∀ b xs,H b=!.tup xs->H' b=!.tup xs)(R4:∀ b o u,H b=!.frz o u->H' b=!.frz o u)(Rw:∀ b ps,H b=!.tbl ps->∃ more,H' b=!.tbl (ps++more))(ns:∀ m,s.heap.Ns X.env.locals m->h'.Ns X.env.locals m)(LJ)(hg:AllBare g'):
  Inv X ñ σ H' { s with heap:=h',gens:=g',drawn:=d',toks:=t' }:=by
 ext d24;let neC:∀ b o,X.s₀.heap.get? b=some o->b∉X.ex->b∉ch:=λe0F hx hb=>by
  rcases (XG b hb).1 with z|z
  ·show hx z
  ·show absurd (HS oj z) A3
 let cellK:∀ x c,X.env.cells.lookup x=!c->∀ v,s.heap.IsCell c v->h'.IsCell c v:=λx c e v gR=>by
  let#[zQ]:=gR;let nch:=λz=>(XG c z).2.2.1 x c e rfl;by_cases hc:c∈X.fs
  ·let#[sl,q]:=slot c o (I.cne x c e) hc nch ho<|e6j e;show#[_,q,hd]
  ·show#[o,keep c o (I.cne x c e) hc nch ho<|e6j e,hd]
 show#[I.ok,I.os,hg,#[λe1O=>?_,λe1O=>?_,λe0F n hx=>?_,λe0F hx=>?_,λb xs e=>RV b xs<|e5x e,λb o xs e=>R4 b o xs<|e8f o xs e,λb ps e=>?_],?_,λx c e=>?_,?_,λx c e=>?_,λe7V=>?_,LJ,I.len]
 ·show keep b o Dv hb Di (e20 e n hb hx) b55
 ·let#[sl,e1]:=e3z hb hx;let#[sl',e2]:=slot b _ Dv hb Di e1<|e3K o e n hx;show#[sl',e2]
 ·ext d6i;show free b o' Di e1 b55
 ·ext d6i;show there b o' Di e1
 ·let#[m1,e1]:=e5y e;let#[m2,e2]:=Rw b _ e1;show#[m1++m2,by cbv]
 ·ext d6j;show#[m,ns m hn,λi x v e1 e2 e3=>?_];let#[u,r,l]:=hl i x v e1 e2 e3;show#[u,r,?_];rcases l with l|⟨k,c,e,z⟩
  ·show .inl l
  ·show .inr #[k,c,e,cellK x c e _ z]
 ·let#[v,z]:=e9A e;show#[v,cellK x c e v z]
 ·let#[m,#[o,_,_,ho,_],_]:=I.loc;show free _ o (λz=>(XG _ z).2.1 rfl) ho I.free
 ·ext d8j;show free c o (λz=>(XG c z).2.2.1 x c e rfl) ho (e6j e)
 ·ext d5z;let nch:=λz=>(XG p.1 z).2.2.2 p hp rfl;show#[keep p.1 p.2 ne nf nch e n,free p.1 p.2 nch e n,ne,nf,d]
def Inv.un (I)(u:Un X.fs [] H H' s.heap h')(LJ):d9Z H' { s with heap:=h',toks:=t' }:=by
 ext d76;let#[sl,hL]:=u.any ho I.free Ė;show I.step (g':=s.gens) (d':=s.drawn) (ch:=[]) Ļ (λb o _ hb _ e n=>e5z hb<|by simp) (λb o _ hb _ e n=>f1R hb<|by simp) (λb o _ e n=>u.free b o e n<|by simp) (λb o _ e=>e7g o e<|by simp) u.RV u.R4 u.Rw (λm' hm=>by let#[o',YY,U1,r']:=hm;rw[ho]at U1;cases U1;show#[_,YY,hL,r']) LJ I.bare
def Inv.call (I)(u:e4i h')(LJ)(hg:AllBare g')(XG):
  Inv X ñ σ H' { s with heap:=h',gens:=g',drawn:=d',toks:=t' }:=by
 ext d76;let#[sl,hL]:=u.any ho I.free λz=>(XG _ z).2.1 rfl;show I.step (ch:=ch) XG (λb o hL hb hc e n=>e5z (λz=>(Hs.mp<|I.V5 b z).elim hL hb) hc) (λe3G n=>u.any e n hc) (λb o hc e n=>u.free b o e n hc) (λb o hc e=>e7g o e hc) u.RV u.R4 u.Rw (λm' hm=>by let#[o',YY,U1,r']:=hm;rw[ho]at U1;cases U1;show#[_,YY,hL,r']) LJ hg
def Inv.turned (I)(k:∀ b o,b≠it->s.heap.get? b=!o->h'.get? b=!o)(hn:H it=none)(hL:it≠X.env.locals)(h1:it∈X.ex\/X.s₀.heap.objs.size<=it)(h2:∀ x c,X.env.cells.lookup x=!c->c≠it)(h3:∀ p∈X.pn++ñ,p.1≠it):d9Z H { s with heap:=h',toks:=t' }:=by
 let nit:∀ b u,H b=!u->b≠it:=λe5t z=>by grind
 show I.step (g':=s.gens) (d':=s.drawn) (ch:=[it]) (λe2h=>?_) (λe3G _=>e1X e) (λe3G _=>#[o.slots,e1X e]) (λd9X n=>n)
  (λb o hc e=>#[o,e1X e]) (λ_ _ e=>e) (λd97 e=>e) b0I (λm hm=>?_) (λe5t=>?_) I.bare
 ·let e:b=it:=by simpa using hb
  subst e;show#[h1,hL,Fd]
 ·let#[uD]:=hm;show#[lH,k _ o (Ne.symm hL) ho,r]
 ·show (e80 u e).MR (λc v hc q=>k c v ?_ q) yY λf2k=>q;rcases hc with z|z
  ·rw[z];show nit b u e
  ·show nit c _ z
def Inv.tok (I)(t:Nat):d9Z H { s with toks:=t }:=I.un (h':=s.heap) (t':=t) Un.refl I.LJ
def Inv.kept (c9j):d9Z H { s with heap:=h',toks:=t' }:=I.un (Un.kept k) (I.LJ.kept k)
def Inv.laid (c9j)(hp:s.heap.objs.size<=a)(new:e2z pp h' a o):
  Inv X ñ σ pp { s with heap:=h',toks:=t' }:=I.un (Un.laid k hp<|I.LJ.fresh hp) (I.LJ.laid k hp new)
def Inv.write (I)(mu)(he:e=x\/H e=!.own x)(k:∀ b u,b≠e->s.heap.get? b=!u->h'.get? b=!u)(heo)(new:e2z Z' h' x o):d9Z Z' { s with heap:=h',toks:=t' }:=I.un (Un.write mu he k heo) (I.LJ.write mu he k heo new)
def Inv.NJ (I)(h:∀ p∈Qw,s.heap.get? p.1=!p.2/\H p.1=none/\p.1≠X.env.locals/\p.1∉X.fs/\∀ v,p.2.data≠.cell v):Inv X Qw σ H s:=
 #[I.ok,I.os,I.bare,I.base,I.loc,I.cell,I.free,I.N4,λe7V=>(Hx.mp hp).elim (λz=>I.pin p<|HK _ z)<|h p,I.LJ,I.len]
def wu {N:η}(hN:N.Nodup){i:Nat}(a:N[i]?=!x)(b:N[j]?=!x):i=j:=by let#[h1,e1]:=GW.mp a;let#[h2,e2]:=GW.mp b;show (List.getElem_inj hN).mp c0k
def Inv.unS (I)(ha:∀ b o,X.s₀.heap.get? b=!o->b≠a)(d0Q):Un X.fs X.ex X.H₀ H X.s₀.heap h':=
 #[λe1O=>(hs.2 b<|ha b o e).trans<|e20 e n hb hx,λe1O=>let ⟨sl,e1⟩:=e3z hb hx;#[sl,(hs.2 b<|ha b o e).trans e1],I.base.free,λe0F hx=>let ⟨o',e1⟩:=e3u o e hx;#[o',(hs.2 b<|ha b o e).trans e1],I.base.RV,I.base.R4,I.base.Rw]
def c2Z (I)(c77)(d0r)(h:∀ s',f1S s'->(∃ a,e7h s'.heap/\(a=X.env.locals\/X.env.cells.lookup x=!a))->Q () s')(hf):e1Y b7T Q E s:=by
 let#[c6G]:=id I.loc;let a9q:(X.env.scope.kind==.class || (X.env.scope.kind==.module&&X.env.locals != X.env.globals))=false:=by rw[I.ok.kind];rfl
 let hiσ:i<σ.length:=by rw[I.len];show (GW.mp hi).1
 let cne:=I.cne;let tracked:∀ {a:Addr}{h':Heap},(∃ o,s.heap.get? a=!o/\H a=none)->e7h h'->e6k H h':=λ{a h'} ha hs b ob e=>by
  let#[_,_,Xc]:=ha;show (e80 ob e).MR (λc w' hc q=>(hs.2 c ?_).trans q) yY λf2k=>q
  grind
 rcases hx with hk|hk
 ·show wpAny_storeName_local hk hn (λh' VI hs=>?_) a9q;let#[oL,_,_,Zj,_]:=id hn;show h _ #[c5k,I.unS (λe0F=>HR<|HS (HF e) I.ok.above) hs,⟨_,VI,λj y v' e1 e2 e3=>?_⟩,λy c e=>?_,c6j,tracked #[oL,Zj,I.free] hs,by simpa using I.len] #[_,hs,.inl rfl]
  ·by_cases hj:j=i
   ·ext d7d;rw[List.getElem?_set_self hiσ]at e2
    cases e2;show#[u,r,.inl #[hk,by simp]]
   ·ext d22;rcases q with⟨k,e⟩|⟨k,c,e,z⟩
    ·show .inl #[k,?_];let:y≠x:=λe=>hj<|wu hN e1 (e▸hi);simp[this,e]
    ·show .inr #[k,c,e,z.sameBut hs<|cne y c e]
  ·let#[w',z]:=I.cell y c e;show#[w',z.sameBut hs<|cne y c e]
  ·ext d5z;show#[(hs.2 p.1 ne).trans e,c5w]
 ·let hfn:X.fn x=true:=by
   grind
  let#[c,hc]:=I.ok.has x<|.inl hk;let#[w',z]:=e9A hc;show wpAny_storeName_cell I.ok.kind hk hc z (λh' OE hs=>?_);let#[oc,hoc,b4J]:=id z;show h { s with heap:=h' } #[c5k,I.unS (λe0F=>HR<|HS oj (I.ok.cab x c hfn hc)) hs,#[m,hn.sameBut hs<|Ne.symm (cne x c hc),λj y v' e1 e2 e3=>?_],λy c' e=>?_,c6j,tracked #[oc,hoc,e6j hc] hs,by simpa using I.len] #[c,hs,.inr hc]
  ·by_cases hj:j=i
   ·ext d7d;rw[List.getElem?_set_self hiσ]at e2
    cases e2;show#[u,r,.inr #[.inl hk,c,hc,OE]]
   ·ext d22;rcases q with q|⟨k,c',e,z'⟩
    ·show .inl q
    ·show .inr #[k,c',e,z'.sameBut hs ?_];rintro rfl;show hj (wu hN e1<|I.ok.inj _ _ _ e hc▸hi)
  ·by_cases hcc:c'=c
   ·subst hcc;show#[_,OE]
   ·let#[w2,z2]:=I.cell y c' e;show#[w2,z2.sameBut hs hcc]
  ·ext d5z;show#[(hs.2 p.1 ?_).trans e,c5w];intro q
   cbv
def gM (I)(c77)(d0r)(h:∀ s',f1S s'->Q () s')(hf):e1Y b7T Q E s:=
 c2Z I hN hi hx r (λs' I' _=>h s' I') hf
def Inv.Sm (I)(ho:s'.os=s.os)(u:e4i s'.heap)(LJ:e6k H' s'.heap)(hg:AllBare s'.gens)(XG):e6d s':=by let#[h',g',d',t',o']:=s';let e:=ho;subst e;show I.call u LJ hg XG
abbrev _root_.Ù:=Hp->Prop
abbrev XK:=Value->Option Addr->Ù
abbrev St:=List Ç
abbrev VK:=V->Ù
abbrev TE:=St->Hp->VK->Prop
abbrev _root_.Ø:=Bool->Ù
abbrev TT:=St->Hp->Ø->Prop
abbrev TA:=St->Hp->(List V->Ù)->Prop
abbrev _root_.Υ:=St->Ù
structure Ends where
 nx:Υ
 rt:VK
 bk:Υ:=λ_ _=>False
 ct:Υ:=λ_ _=>False
abbrev TS:=Ends->Υ
theorem EP (d1V)(Q)(u)(s'):Prop:=∃ v H',e6d s'/\rp v u/\Q v H'
theorem TP (d1V)(Q:Ø)(b:Bool)(s'):Prop:=∃ H',e6d s'/\Q b H'
theorem AP (d1V)(Q:List V->Ù)(us)(s'):Prop:=∃ vs H',e6d s'/\sY vs us/\Q vs H'
theorem SP (X)(ñ)(D:Ends)(f:Flow)(s'):Prop:=
 match f with
 | .next=>∃ σ' H',e0Q s'/\D.nx σ' H'
 | .brk=>∃ σ' H',e0Q s'/\D.bk σ' H'
 | .cont=>∃ σ' H',e0Q s'/\D.ct σ' H'
 | .ret u=>∃ v σ' H',e0Q s'/\rp v u/\D.rt v H'
theorem PE (X)(e:Expr)(t:TE):Prop:=
 ∀ (ñ:ζ)(s:Ê)(σ:St)(H:Hp)(Q:VK),d9Z H s->e4Q Q->d93 jj ĸ X.xe s
theorem PT (X)(e:Expr)(t:TT):Prop:=
 ∀ (ñ:ζ)(s:Ê)(σ:St)(H:Hp)(Q:Ø),d9Z H s->e4Q Q->d93 (e5A jj) yX X.xe s
theorem PW (X)(e:Expr)(t:TT):Prop:=
 ∀ (whole:Sem Value)(ñ:ζ)(s:Ê)(σ:St)(H:Hp)(Q:Ø),d9Z H s->e4Q Q->d93 (e5A whole) yX X.xe s
def PW.pt (h:PW X e t):e81 t:=h _
abbrev _root_.Ì:=List Expr
theorem PA (X)(es:Ì)(t:TA):Prop:=
 ∀ (pos:Pos)(ñ:ζ)(s:Ê)(σ:St)(H:Hp)(Q:List V->Ù),d9Z H s->e4Q Q->d93 (spliced (e0m SZ)) CS X.xe s
theorem PS (X)(st)(t:TS):Prop:=
 ∀ (ñ:ζ)(s:Ê)(σ:St)(H:Hp)(D:Ends),d9Z H s->t D σ H->d93 (exec st X.env) (e6l D) X.xe s
abbrev _root_.Í:=List Stmt
theorem Q1 (X)(st:Í)(t:TS):Prop:=
 ∀ (ñ:ζ)(s:Ê)(σ:St)(H:Hp)(D:Ends),d9Z H s->t D σ H->d93 (execs st X.env) (e6l D) X.xe s
def LW (h:e1Y t Q E s)(hQ:∀ a s,Q a s->Q' a s):f0a s:=II h hQ λf0s=>x
def thE {X:Cx}{ñ:ζ}{σ:St}{Q:VK}{t:Sem Value}{Q':ρ}(d08)(h:e1Y t ĸ E s)(k:∀ u s1 v H,d9Z H s1->e4O u->Q v H->Q' u s1):f0a s:=wpAny_mono h b0c λf0s=>x
def thA {X:Cx}{ñ:ζ}{σ:St}{Q:List V->Ù}{t:Sem θ}{Q':List Value->Shared->Prop}(d08)(h:e1Y t CS E s)(k:∀ u s1 v H,d9Z H s1->sY v u->Q v H->Q' u s1):f0a s:=wpAny_mono h b0c λf0s=>x
variable {X:Cx}
inductive kH (i:Nat)(c7w)(Q:VK):∀ v,σ[i]?=!some v->Q v H
theorem tC (v):TE:=λ_ H Q=>Q v H
def a0m (hN:X.N[i]?=!x)(hv:f0B x)(hd)(RL):e8g s0:=by
 ext d2p;let#[v,e,h]:=h;ext d6j;let#[u,r,l]:=hl i x v hN e hv;let fin:e4j u s:=uF
 ext d5h
 ·show wpAny_Name (wpAny_loadName_local I.ok.kind hk hn hm fin) hd
 ·rcases hk with hk|hk
  ·show wpAny_Name (wpAny_loadName_cell I.ok.kind hk hc VL fin) hd
  ·show wpAny_Name (wpAny_loadName_free I.ok.kind hk hc VL fin RL) hd
def aK {i j pos}:PE X (d9p yq) (tC yq):=λe3p=>wpAny_Constant_int #[.int i,CM,h]
def nL {b j pos}:PE X (d9p (.bool b)) (tC AN):=λe3p=>Constant_bool #[.bl b,H,I,1,h]
def b2A {j pos}:PE X b6K (tC .non):=λe3p=>Constant_none #[.non,H,I,1,h]
def a5S {x j pos}:PE X b7V (tC Ao):=λe3p=>Calls.Constant_str #[.str x,CM,h]
theorem Gl (X)(x):Prop:=X.env.kindOf x=!.globalImplicit
def dD (I)(c7j)(hm:X.mg x=!u)(h:Q u s)(hd):f0r s:=
 Calls.Name_function_global I.ok.kind hg (Calls.loadGlobal_global (by rw[I.ok.glob];show I.mod.glob.keeps I.bk) hm h) hd
def eI (I)(d1r)(h:Q u s)(hn)(hd):f0r s:=by let#[mb,mh]:=I.mod.blt;show Calls.Name_function_global I.ok.kind hg (Calls.loadGlobal_builtin (by rw[I.ok.glob];show I.mod.glob.keeps I.bk) hm (by rw[I.ok.blt];show h1.keeps I.bk) ((h2 x hn).trans hv) h) hd
def g8 (c7j)(hm:X.mg x=!u)(d0r)(hd):e8g (tC v):=
 λe3p=>dD I hg hm uF hd
def mK (d1r)(d0r)(hn)(hd):e8g (tC v):=
 λe3p=>e2l hv uF hn hd
example{ta tb:TE}:=0
inductive kTB (Q:Ø)(x:V)(H1:Hp):∀ c,x=.bl c->Q c H1
theorem tB (t:TE):TT:=λd95=>t σ H λe3X=>kTB Q x H1
def df (h:e08 t)(he:∀ whole,e5A whole=(do let v <- whole;standAt e.pos;holding [v] (truthy v)):=Ă):e81 (tB t):=by
 intro ñ s σ H Q I hw;show isTrue_plain (LW b8X λv e4I=>?_)<|he _;ext d3o;let#[d,1,q]:=q1
 cases r1;show Jn #[xc,q]
theorem a7f (t u:TT):TT:=λd95=>t σ H λc H1=>if c=true then u σ H1 Q else Q false H1
theorem tOr (t u:TT):TT:=λd95=>t σ H λc H1=>if c=true then Q true H1 else u σ H1 Q
theorem a7c (t:TT):TT:=λd95=>t σ H λc H1=>Q (not c) H1
def eX (c9A):PW X (d9M .And) tA:=by
 ext d31;show isTrue_and b1a
 cases c with
 | true=>show isTrue_and_nil e
 | false=>show e
def t6 (c9A):PW X (d9M .Or) tA:=by
 ext d31;show isTrue_or b1a
 cases c with
 | false=>show isTrue_or_nil e
 | true=>show e
def D6 (c9A)(hb:PW X qy tB'):PW X SB (a7f tA tB'):=by
 ext d31;show isTrue_and b7W;ext d8k
 cases c with
 | true=>ext d65
 | false=>show#[AV]
def YW (c9A)(hb:PW X b4z tB'):PW X b3t (tOr tA tB'):=by
 ext d31;show isTrue_or b7W;ext d8k
 cases c with
 | true=>show#[AV]
 | false=>ext d65
def t7 (c9A):PT X iR (a7c tA):=by ext d2p;show isTrue_not (d9t ha (λc H1=>Q (not c) H1))
inductive b4K (tb:TE)(σ:St)(c8l):∀ c,x=.bl c->(if c=true then tb σ H1 Q else Q xA H1)
theorem a28 (ta tb:TE):TE:=λd95=>ta σ H λe3X=>b4K tb σ Q x H1
inductive rNs (c8l):∀ c,x=.bl c->Q (.bl (not c)) H1
theorem a21 (ta:TE):TE:=λd95=>ta σ H λe3X=>rNs Q x H1
def nJ {op}(h:PE X a t):PE X (d9M op) t:=λe0I hw=>BoolOp_one (e8T hw)
def yH (d1W)(hb:PE X qy tb):PE X SB (a28 ta tb):=by
 ext d2p;show BoolOp_and b7X;ext d3o;let#[c,1,q1]:=q1
 cases r1;show Jn ?_
 cases c with
 | true=>ext d7K
 | false=>show#[.bl false,xc,1,q1]
def a0n (d1W):PE X iR (a21 ta):=by
 ext d2p;show UnaryOp_ b7X;ext d3o;let#[c,1,q1]:=q1
 cases r1;show not_of (Jn #[.bl<|not c,H1,I1,1,q1])
theorem tIf (t:TT)(ta tb:TE):TE:=λd95=>t σ H λc H1=>if c=true then ta σ H1 Q else tb σ H1 Q
def De (hc:e82 tA)(c67):PE X c0l (tIf tA ta tb):=by
 ext d2p;show wpAny_IfExp b0L;ext d8k
 cases d with
 | true=>show ha ñ s1 σ H1 Q I1 q1
 | false=>ext d7K
open e
theorem LO (K)(H)(c9s)(xs:π):Prop:=
 Rd H a w6 \/
  ∃ (o:Obj)(its:Ó)(n:Nat),K.lookup a=!o/\o.cls=.type "list"/\o.dict=none/\o.data=.seq its n/\its.size<=sizeLine/\sY xs its.toList
theorem Nu (K)(H)(c9s)(xs:π):Prop:=
 Rd H a (.tup xs) \/
  ∃ (o:Obj)(its:Ó)(n:Nat),K.lookup a=!o/\o.cls=.type "tuple"/\o.data=.seq its n/\its.size<=sizeLine/\sY xs its.toList
theorem b0g:Value->Ç
 | .none=>!.non
 | .bool b=>!.bl b
 | .int i _=>!.int i
 | .str x _=>!.str x
 | .bytes b _=>!.byt b
 | .float b _=>!.flt b
 | .ref a=>!.ref a
 | .type n=>!.ty n
 | _=>none
def rp.abs (d0q):b0g u=!x:=by
 cases x with
 | non=>ext d73
 | bl _=>ext d73
 | int _=>ext d3i
 | str _=>ext d3i
 | byt _=>ext d3i
 | flt _=>ext d3i
 | ref _=>ext d73
 | ty _=>ext d73
def rp.inj (d0q)(q:e5P u):x=y:=Option.some.inj (r.abs.symm.trans q.abs)
def sY.inj:∀ {xs ys:π}{us:θ},e0v us->e6h us->xs=ys:=by
 intro xs ys us h
 induction h generalizing ys with
 | nil=>intro h;cases h;rfl
 | cons r t ih=>intro h;cases h with|cons r' t'=>rw[r'.inj r,ih t']
def LO.of {K:Ψ}(h:H a=!.lst xs):e02 xs:=.inl (.inl h)
def Nu.of {K:Ψ}(h:H a=!.tup xs):e83 xs:=.inl (.inl h)
def Inv.list (d0a):∃ its:θ,e0v its/\PlainL s.heap a its.toArray/\xs.length<=sizeLine:=by
 rcases h with h|⟨o,its,n,hk,hc,hd,hs,hz,r⟩
 ·let#[Fj,e]:=h.ok I.LJ;show#[its,r,#[_,n,e,3],z]
 ·show#[its.toList,r,#[o,n,I.Ow a o hk,hc,hd,by simpa using hs],?_];let e:=r.length
  cbv
def Inv.tuple (I)(h:e9B xs):∃ its:θ,e0v its/\IsTup s.heap a its.toArray/\xs.length<=sizeLine:=by
 rcases h with h|⟨o,its,n,hk,hc,hs,hz,r⟩
 ·let#[z,its,r,p]:=h.ok I.LJ;show#[its,r,p,z]
 ·show#[its.toList,r,#[o,I.Ow a o hk,hc,n,by simpa using hs],?_];let e:=r.length
  cbv
def Inv.Qz (d0a)(h':LO X.K H a ys):xs=ys:=by
 let#[its,r,#[o,n,e,_,_,d],_]:=I.list h;let#[its',r',#[o',n',e',_,_,d'],_]:=I.list h';ext d3f
 ext d4A;show r.inj r'
def Inv.SY (I)(h:e9B xs)(h':e9B ys):xs=ys:=by
 let#[its,r,#[o,e,_,n,d],_]:=I.tuple h;let#[its',r',#[o',e',_,n',d'],_]:=I.tuple h';ext d3f
 ext d4A;show r.inj r'
abbrev Cx.Ru (X:Cx)(E:ρ):Cx:={ X with xe:=E }
abbrev Cx.Ur (X:Cx):Cx:=X.Ru λ_ _=>False
def Cx.Ok.Ru {X:Cx}(ok:X.Ok)(E:ρ):(X.Ru E).Ok:=
 a1R
def Cx.Ok.Nb {X:Cx}(ok:(X.Ru E).Ok):X.Ok:=
 a1R
def Inv.Ru (I)(E:ρ):e7X s:=#[I.ok.Ru E,c3N]
def Inv.Nb (I:e7X s):d9Z H s:=#[I.ok.Nb,c3N]
def SP.Nb {D:Ends}(h:SP (X.Ru E) ñ D f s'):e6l D f s':=by
 cases f with
 | next=>ext d3p
 | brk=>ext d3p
 | cont=>ext d3p
 | ret u=>let⟨v,σ',H',I,r,q⟩:=h;show#[v,l9,I.Nb,r,q]
def Q1.Ur {st:Í}(h:Q1 X.Ur st t):Q1 X st t:=λe1q D I hw=>
 II (e0t D (I.Ru _) hw) (λf2k=>q.Nb) λ_ _ z=>False.elim z
variable {st:Stmt}{t u:TS}{te:TE}
theorem a22:TS:=λe3t=>f0C H
theorem a2Y (t u:TS):TS:=λe3t=>t { D with nx:=u D } σ H
def N3:Q1 X [] a22:=λ_ _ σ H _ I h=>KO #[σ,H,I,h]
def ag (h1:e0R t)(h2:Q1 X rest u):Q1 X (st::rest) (a2Y t u):=by
 ext d2u;show wpAny_execs_cons (LW (h1 ñ s σ H { D with nx:=u D } I h) λf s1 q=>?_)
 cases f with
 | next=>
  let#[l9,I',q]:=q;show h2 ñ s1 σ' H' D I' q
 | ret v=>show q
 | brk=>show q
 | cont=>show q
def aq (h1:e0R t):Q1 X [st] t:=by
 ext d2u;show wpAny_execs_cons (LW (d9t h1 D) λf s1 q=>?_)
 cases f with
 | next=>show KO q
 | ret v=>show q
 | brk=>show q
 | cont=>show q
def Inv.quiet (I):interactive X.env=false:=by simp[interactive,I.ok.kind]
theorem zO (te):TS:=λe3t=>te σ H λ_ H1=>f0C H1
def aA (c8F)(c8X):PS X (.Expr e pos) (zO te):=by ext d2u;show wpAny_Expr_any (LW Ń λv e4I=>(by let#[Bi]:=gR;show#[σ,AV])) I.quiet hs
theorem a67 (te):TS:=λe3t=>te σ H D.rt
def bD (c8F):PS X c0m (a67 te):=by ext d2u;show wpAny_Return_some (LW Ń λv e4I=>(by let#[Bi]:=gR;show#[x,σ,uP]))
theorem a7d (c:TT)(t u:TS):TS:=λe3t=>c σ H λb H1=>if b=true then t D σ H1 else u D σ H1
def gC (c9M):PS X BG (a7d tc t u):=by
 ext d2u;show wpAny_If b0L;ext d8k
 cases d with
 | true=>show ha ñ s1 σ H1 D I1 q1
 | false=>show hb ñ s1 σ H1 D I1 q1
theorem a9H:TS:=λd97=>False
def c27:e0R a9H:=λe0i _ h=>h.elim
def Pz:Q1 X sts a9H:=λe0i _ h=>h.elim
open e
abbrev TG:=V->St->Hp->Υ->Prop
abbrev Zs:=List V->St->Hp->Υ->Prop
theorem PG (X)(target:Expr)(t:TG):Prop:=
 ∀ (ñ:ζ)(s:Ê)(σ:St)(H:Hp)(v:V)(u:Value)(Q:Υ),d9Z H s->e4O u->t v σ H Q->
  wpAny Ē X.A (assign target X.env u) a7v X.xe s
theorem BS (X)(ts:Ì)(t:Zs):Prop:=
 ∀ (ñ:ζ)(s:Ê)(σ:St)(H:Hp)(vs:π)(us:θ)(Q:Υ),d9Z H s->sY vs us->t vs σ H Q->
  wpAny Ē X.A (assignInOrder ((assignEach ts X.env).map (·.2)) us) a7v X.xe s
abbrev a1N:=V->V->V->Hp->Ù->Prop
theorem a5C (X)(t:a1N):Prop:=
 ∀ (ñ:ζ)(s:Ê)(σ:St)(H:Hp)(o i v:V)(ov iv u:Value)(Q:Ù),d9Z H s->rp o ov->rp i iv->e4O u->t o i v H Q->
  wpAny Ē X.A (setItem ov iv u) (λ_ s'=>∃ H',e6d s'/\Q H') X.xe s
abbrev TIp:=V->V->Hp->VK->Prop
theorem PIp (X)(op:Operator)(t:TIp):Prop:=
 ∀ (ñ:ζ)(s:Ê)(σ:St)(H:Hp)(x y:V)(v u:Value)(Q:VK),d9Z H s->e2m v->e5P u->t x y H Q->
  wpAny Ē X.A (inplaceOp op v u) ĸ X.xe s
theorem bS (i):TG:=λv d95=>Q yI H
def a2I (c77)(hf):PG X Ű vS:=by ext d7L;show wpAny_assign_Name (gM I hN hi hx r (λs' I'=>#[_,H,I',h]) hf)
theorem AU:Zs:=λvs d95=>vs=[]/\Q σ H
inductive xa (t:TG)(u:Zs)(vs:π)(c7w)(Q:Υ):∀ v r,vs=v::r->(t v σ H λσ' H'=>u r σ' H' Q)
def aD:BS X [] AU:=by
 ext d7e;let#[e,h]:=h;subst e
 cases r;show assignInOrder_nil #[σ,H,I,h]
def ae (h1:PG X e t)(h2:BS X es u)(hs:(assignEach ke X.env).map (·.2)=assign e X.env::(assignEach es X.env).map (·.2):=ă):BS X ke (xa t u):=by
 ext d7e;let#[v,vr,e1,h]:=h;subst e1
 cases r with
 | cons r rr=>
  rw[hs];show assignInOrder_cons (LW (h1 ñ s σ H Ĉ I r h) λ_ e4I=>?_);let#[σ1,AV]:=gR;show h2 ñ s1 σ1 H1 ĉ Q I1 rr q1
inductive zm (K:Ψ)(n:Nat)(t:Zs)(v:V)(c7w)(Q:Υ):∀ a xs,v=.ref a->Nu K H a xs->xs.length=n->t xs σ H Q
def a0k (hc)(h:BS X es t)(c7Q):PG X c1e (zm X.K n t):=by
 intro ñ s σ H v u Q I r hw;let#[a,xs,e1,hq,hl,hw]:=hw;subst e1
 cases r;let#[zZ,ht,hz]:=I.tuple hq;show assign_Tuple_tuple ń ht (by simp[hn,<- hl,rv.length]) TY λh' hx=>?_;let I1:d9Z H { s with heap:=h' }:=I.kept λe0F=>hx b o nu e;show h ñ _ σ H xs _ Q I1 (rv) hw
theorem a42 (to ti:TE)(t:a1N):TG:=λv d95=>to σ H λo H1=>ti σ H1 λi H2=>t o i v H2 λH3=>Q σ H3
def a0l (ho:PE X o to)(hi:PE X i ti)(hs:a5C X t)(ha:∀ v,assign tY X.env v=(do
   let ov <- holding [v] (d8O o);let iv <- holding [v,ov] (d8O i)
   standAt pos
   holding [v,ov,iv] (setItem ov iv v)
   release [v,ov,iv] []):=Ă):PG X tY (a42 to ti t):=by
 ext d7L;show GU<|Io (LW (ho ñ s σ H _ I h) λov e4I=>?_);ext d3o;show GU<|Io (LW (hi ñ s1 σ H1 _ I1 q1) λiv f2l=>?_);let#[y,vO]:=gR;show GU<|JU (GU<|Io (LW (hs ñ s2 σ H2 x y v ov iv u _ I2 r1 r2 r q2) λ_ s3 gR=>?_));let#[d8,q3]:=gR;show wpAny_release #[σ,d8,q3]
theorem iY (te)(g:TG):TS:=λe3t=>te σ H λe3X=>e4R H1 D.nx
def yB (c8F)(hg:PG X tg g)(hs:swapsWithSole [tg] e pos.line X.env=pure false:=ă)(hw:swappedStores [tg] e X.env=pure none:=ă)(h1:(assignEach [tg] X.env).map (·.2)=[assign tg X.env]:=ă):PS X (.Assign [tg] e pos) (iY te g):=by ext d2u;show wpAny_Assign_stores CO hs hw;ext d3o;rw[h1];show LW (hg ñ s1 σ H1 x v _ I1 r1 q1) λ_ s2 q=>q
def a0d (c77)(c8F)(hs:swapsWith e b0O pos.line X.env=pure false:=ă)(hf):
  PS X Ty r6:=by
 ext d2u;show wpAny_Assign_Name CO hs;let#[y,uP]:=gR;show gM I1 hN hi hx r1 (λs2 I2=>#[_,H1,I2,q1]) hf
inductive b8u (i j:Nat)(D:Ends)(σ:St)(d1X):∀ v w,vs=[v,w]->D.nx ((σ.set i !v).set j !w) H1
theorem a68 (i j:Nat)(ta):TS:=λe3t=>ta σ H λe5u=>b8u i j D σ vs H1
def a0e {kt k2 pt2}(hc)(hN)(hi:X.N[i]?=!x)(hj:X.N[j]?=!y)(hij:i≠j)(c8e)(hy:X.env.scope.names.lookup y=!.local)(ha:PA X [a,b] ta)(hw:swappedStores Gx oR X.env=pure ![x,y])(hs:swapsWithSole Gx oR pos.line X.env=pure false:=ă):
  PS X (.Assign Gx oR pos) (a68 i j ta):=by
 ext d2u;show GU (JU ?_);ext d39;show GU<|Tuple_ (LW (ha _ ñ s σ H _ I h) λus e4I=>?_);ext d43;let#[v,w,e1,q1]:=q1;subst e1;obtain⟨u1,u2,rfl,rv,Tx⟩:∃ u1 u2,us=[ZE]/\rp v u1/\rp w u2:=by
  cases r1 with
  | cons p q=>
   cases q with
   | cons p' q'=>
    cases q';show#[tF,p,p']
 show JX ?_ (by change 2<=sizeLine;decide);let I2:d9Z H1 { s1 with heap:=s1.heap.push { cls:=.type "tuple",data:=.seq [ZE].toArray } }:=I1.kept λe0F=>Ha _ e;rw[hw];ext d39;show GU<|wpAny_rule (GU (unpackItems_tuple (items:=[ZE].toArray) (I.ok.hd hc) (IsTup.new s1.heap _) λh' Te=>?_));let I3:=I2.kept (t':=s1.toks) λe0F=>Te b o nu e;show GU<|assignInOrder_cons (wpAny_bindName<|gM I3 hN hj (.inl hy) Tx (λs2 I4=>?_) (.inr hy));show assignInOrder_cons<|wpAny_bindName (gM I4 hN hi (.inl hx) rv (λs3 I5=>assignInOrder_nil dU)<|.inr hx);rw[List.set_comm ĉ<|Ne.symm hij]at I5;show#[_,H1,I5,q1]
inductive ZO (i:Nat)(te:TE)(ti:TIp)(D:Ends)(c7w):∀ x,σ[i]?=some (some x)->(te σ H λy H1=>ti x y H1 λz H2=>D.nx (σ.set i !z) H2)
def yA (c77)(c8F)(ho:PIp X op ti)(hf):
  PS X (.AugAssign (.Name x pos') op e pos) (ZO i te ti):=by
 ext d2u;let#[v,e1,h]:=h;ext d6j;let vis:f0B x:=by rcases hx with k|k;show .inl k;show .inr DQ
 let#[u,r,l]:=hl i x v hi e1 vis;show wpAny_AugAssign_Name ?_;let go:d93 jj (λw s₂=>d93 (inplaceOp op u w) (λr s₃=>d93 (storeName X.env x r) (λ_=>e6l D .next) X.xe s₃) X.xe s₂) X.xe s:=by show LW Ń λw e4I=>?_;let#[y,uP]:=gR;show LW (ho ñ s1 σ H1 v y u w _ I1 r r1 q1) λz f2l=>?_;let#[zv,vO]:=gR;show gM I2 hN hi hx r2 (λs3 I3=>#[_,H2,I3,q2]) hf
 ext d5h
 ·show wpAny_loadName_local I.ok.kind hk hn hm go
 ·rcases hk with hk|hk
  ·show wpAny_loadName_cell I.ok.kind hk hc VL go
  ·rcases hx with k|k
   ·let:X.env.scope.names.lookup x=!.free:=hk
    cbv
   ·let:X.env.scope.names.lookup x=!.free:=hk
    cbv
inductive ipI (f:Int->Int->Int)(c7i):∀ i j,x=.int i->y=.int j->Q (.int (f i j)) H
def b6X:PIp X .Add (ipI λi j=>i+j):=by intro ñ s σ H x y v u Q I r1 r2 h;let#[i,j,mC,q]:=h;subst e1;subst e2;let#[t,1]:=r1;let#[t',1]:=r2;show iadd_int Fm
theorem ZK (c:TT)(tb:TS):TS:=λe3t=>∃ W:Nat->Υ,(∃ m,W m σ H)/\∀ m σ H,W m σ H->
 c σ H λb H1=>if b=true then ∃ N:Υ,(∀ σ' H',N σ' H'->∃ m',m'<m/\W m' σ' H')/\tb { D with nx:=N,ct:=N,bk:=D.nx } σ H1 else D.nx σ H1
def D7 {tb:TS}(hp)(hc:e82 tc)(hb:Q1 X body tb):PS X (.While c body [] pos) (ZK tc tb):=by
 ext d2u;let#[W,#[m0,w0],turn]:=h;show wpAny_While (codeAny_whileLoop (λn s'=>∃ σ' H',e0Q s'/\W n σ' H') ?_ m0 #[σ,H,I,w0]);rintro n s1 ⟨σ1,H1,I1,w1⟩;show JP hp (LW (hc ñ s1 σ1 H1 _ I1<|turn n σ1 H1 w1) λb f2l=>?_);let#[Bs,q2]:=gR
 cases b with
 | true=>
  let#[N,hN,q2]:=q2;show JP hp (LW (d9v hb σ1) λf s3 q3=>?_)
  cases f with
  | next=>
   ext d3q
  | cont=>
   ext d3q
  | brk=>show q3
  | ret v=>show q3
 | false=>
  show KO #[σ1,Bs,q2]
structure It where
 go:Nat->Ù
 Xy:Nat->Hp->V->Ù
 stop:Nat->Ù
theorem c3e (X)(ñ)(H)(b:Addr):Prop:=
 H b=none/\b≠X.env.locals/\b∉X.fs/\(b∈X.ex\/X.s₀.heap.objs.size<=b)/\(∀ x c,X.env.cells.lookup x=!c->c≠b)/\∀ p∈X.pn++ñ,p.1≠b
def Inv.U' (I)(hb:s.heap.objs.size<=b)(hn:H' b=none):e2A H' b:=by
 show#[hn,IV<|HS I.lt hb,I.WQ hb,.inr<|HH I.sz hb,λx c e z=>?_,λe7V z=>?_]
 ·let#[v,q]:=e9A e;show absurd (HS q.lt (by rw[z];show hb)) A3
 ·show absurd (HS (HF (f0D hp).1) (by rw[z];show hb)) A3
structure b2g (Cc:Cx->Prop)(P:É)(w:World)(K:Ψ)(tg:Expr)(J:It)(fp:υ)(it:Addr)(tn:Nat->Heap->Prop):Prop where
 mem:it∈fp
 obj:∀ i h,tn i h->∀ b∈fp,∃ o,h.get? b=!o/\∀ v,o.data≠.cell v
 keep:∀ i h h',tn i h->(∀ b∈fp,∀ o,h.get? b=!o->h'.get? b=!o)->tn i h'
 item:∀ (X:Cx),X.prog=P->X.w=w->X.K=K->Cc X->∀ (i:Nat)(ñ:ζ)(s:Ê)(σ:St)(H:Hp)(E:ρ),Inv X ñ σ H s->b57->tn i s.heap->J.go i H ->
  wpAny Ū X.A Ez (λr s1=>∃ u,r=some u /\
   wpAny Ū X.A b5F (λ_ s2=>∃ x H',Inv X ñ σ H' s2/\rp x u/\J.Xy i H x H'/\tn (i+1) s2.heap/\∀ b∈fp,H' b=none) E s1) E s
 done:∀ (X:Cx),X.prog=P->X.w=w->X.K=K->Cc X->∀ (i:Nat)(ñ:ζ)(s:Ê)(σ:St)(H:Hp)(E:ρ),Inv X ñ σ H s->b57->tn i s.heap->J.stop i H ->
  wpAny Ū X.A Ez (λr s1=>r=none/\Inv X ñ σ H s1) E s
 self:∀ (A:Ë)(i:Nat)(s:Ê)(Q:ρ)(E:ρ),tn i s.heap->Q Uf s->wpAny Ū A (pyIter Uf) Q E s
abbrev a7A:=b2g λX=>X.calm=true
abbrev TI:=St->Hp->(It->Ù)->Prop
theorem a5D (Cc:Cx->Prop)(d1V)(tg:Expr)(R:It->Ù)(itv:Value)(s2:Ê):Prop:=
 ∃ (it:Addr)(fp:υ)(tn:Nat->Heap->Prop)(J:It)(H':Hp),itv=.ref it/\Inv X ñ σ H' s2/\b2g Cc X.prog X.w X.K tg J fp it tn/\tn 0 s2.heap/\(∀ b∈fp,e2A H' b)/\R J H'
theorem FJ (Cc:Cx->Prop)(X)(tg iter:Expr)(wi:TI):Prop:=
 ∀ (ñ:ζ)(s:Ê)(σ:St)(H:Hp)(R:It->Ù),d9Z H s->wi σ H R->
  wpAny Ē X.A (d8O iter) (λv s1=>d93 (pyIter v) (a5D Cc X ñ σ tg R) X.xe s1) X.xe s
abbrev PIE:=a5D λX=>X.calm=true
abbrev PI:=FJ λX=>X.calm=true
def rQ (ho : s.heap.get? it = !o)(hc : o.cls = .type n)(hd : o.data = .fields vs)(hn : ["enumerate", "zip", "dict_itemiterator", "dict_reverseitemiterator", "odict_iterator", "itertools.zip_longest", "itertools.pairwise"].contains n = false)(hQ : Q () s): wpAny M A b5F Q E s := by
  cases tg <;> first
    | show Hk hQ
    | (cases u <;> first
        | show Hk hQ
        | (show GU (wpAny_load ho ?_)
           rw [hc, hd];change wpAny M A (if _ = true then _ else _) Q E s;rw [if_neg (by intro h; rw [hn, Bool.false_and] at h; cases h)];show Hk hQ))
theorem Zx (K)(c9s):It:=
 ⟨λi H=>∃ xs x,e02 xs/\xs[i]?=!x,λe9x=>H'=H/\∀ xs,e02 xs->xs[i]?=!x,λi H=>∃ xs,e02 xs/\xs.length<=i⟩
theorem Itt (K)(c9s):It:=
 ⟨λi H=>∃ xs x,e83 xs/\xs[i]?=!x,λe9x=>H'=H/\∀ xs,e83 xs->xs[i]?=!x,λi H=>∃ xs,e83 xs/\xs.length<=i⟩
theorem Zw (lo:Int)(n):It:=⟨λi _=>i<n,λe9x=>H'=H/\x=.int (lo+i),λi _=>n<=i⟩
def b2j (d1Y):e2B uj [it] it (λi h=>h.IsListIter it a i) where
 mem:=by simp
 obj:=λe3Z=>by
  ext d2L
  ext d2y
 keep:=λe1L=>st.at λo e=>e3L e
 item:=by intro X hP hw hK hc i ñ s σ H E I hf st hg;subst hP hw hK;let#[xs,x,hq,hx]:=hg;let#[mY]:=I.list hq;let#[u,hu,ru]:=rv.get hx;let#[FE]:=hf it Ė;show wpAny_pyNext_list_item st p.isList b9t λh' Q4 sb=>?_;let I1:d9Z H { s with heap:=h' }:=e1b f5;let#[xt]:=id Q4;show#[u,1,rQ e c d Ĺ #[x,H,I1,ru,#[1,λys hy=>by rw[I.Qz hy hq];show hx],vc]]
 done:=by intro X hP hw hK hc i ñ s σ H E I hf st hg;subst hP hw hK;let#[xs,hq,hx]:=hg;let#[mY]:=I.list hq;let#[FE]:=hf it Ė;let hl:=rv.length;show wpAny_pyNext_list_end ń st p.isList (by simp;omega) λh' eb=>S9
 self:=λe4M=>wpAny_pyIter_listiter st h
def b4X (d1Y):e2B (Itt K a) [it] it (λi h=>h.IsTupleIter it a i) where
 mem:=by simp
 obj:=λe3Z=>by
  ext d2L
  ext d2y
 keep:=λe1L=>st.at λo e=>e3L e
 item:=by intro X hP hw hK hc i ñ s σ H E I hf st hg;subst hP hw hK;let#[xs,x,hq,hx]:=hg;let#[mY]:=I.tuple hq;let#[u,hu,ru]:=rv.get hx;let#[FE]:=hf it Ė;show wpAny_pyNext_tuple_item st (p) b9t λh' Q4 sb=>?_;let I1:d9Z H { s with heap:=h' }:=e1b f5;let#[xt]:=id Q4;show#[u,1,rQ e c d Ĺ #[x,H,I1,ru,#[1,λys hy=>by rw[I.SY hy hq];show hx],vc]]
 done:=by intro X hP hw hK hc i ñ s σ H E I hf st hg;subst hP hw hK;let#[xs,hq,hx]:=hg;let#[mY]:=I.tuple hq;let#[FE]:=hf it Ė;let hl:=rv.length;show wpAny_pyNext_tuple_end ń st (p) (by simp;omega) λh' eb=>S9
 self:=λe4M=>wpAny_pyIter_tupleiter st h
abbrev _root_.Φ:=PySem.W.Frag
def a2o {P:É}{w:World}{K:Φ}{tg:Expr}(it:Addr)(lo:Int)(n):e2B (Zw lo n) [it] it (λi h=>IsRangeIter h it (lo+(i:Nat) * 1) ((n:Int) - (i:Nat)) 1) where
 mem:=by simp
 obj:=λe3Z=>by
  ext d2L
  subst e;show#[_,st,λv z=>by
   let z':=z
   cases z']
 keep:=λe1L=>k it Ė _ st
 item:=by intro X hP hw hK hc i ñ s σ H E I hf st hg;subst hP hw hK;let#[FE]:=hf it Ė;let W:=Walks.range (prog:=X.prog) (w:=X.w) ń it lo 1 n;show W.item i s ĉ hg st λv e2Y hv Q4 kk=>?_;let#[t,1]:=hv;let I1:d9Z H { s with heap:=h',toks:=tk }:=e2C f5;show#[_,1,rQ Q4 rfl rfl Ĺ #[.int _,H,I1,#[t,?_],#[2],vc]];rw[Int.mul_one]
 done:=by intro X hP hw hK hc i ñ s σ H E I hf st hg;let#[FE]:=hf it Ė;show wpAny_pyNext_range_end ń st (by let:n<=i:=hg;lia) λh' eb=>S9
 self:=λe4M=>wpAny_pyIter_rangeiter st h
inductive b0K (K:Ψ)(R:It->Ù)(x:V)(H1:Hp):∀ a,x=.ref a->b7Z->R uj H1
theorem Zg (K)(tl:TE):TI:=λe4J=>tl σ H λe3X=>b0K K R x H1
def mJ (c9B):e1m l (Zg X.K tl):=by
 ext d6x;ext d3o;let#[a,e,#[xs,hq],q]:=q1;subst e
 cases r1;let#[mY]:=I1.list hq;show Kq p.isList ?_;show#[sA,b2j a _,oN,λe2h=>?_,q];ext d3e
 ext d4U
def vG {lo:Int}(I)(h1:-SL<=lo)(h2:lo<2 ^ 62)(h3:-SL<=hi)(h4:hi<2 ^ 62)(q:R (Zw lo (hi - lo).toNat) H):d93 (pyIter UF) (PIE X ñ σ tg R) E { s with heap:=s.heap.push { cls:=.type "range",data:=.fields [tZ].toArray },toks:=tk }:=by
 show wpAny_pyIter_range (IsRange.new ..) (small_one h1 h2 h3 h4) ?_;let I1:d9Z H { s with heap:=s.heap.push { cls:=.type "range",data:=.fields [tZ].toArray },toks:=tk }:=I.kept λe0F=>Ha _ e;show#[(s.heap.push { cls:=.type "range",data:=.fields [tZ].toArray }).objs.size,[(s.heap.push { cls:=.type "range",data:=.fields [tZ].toArray }).objs.size],_,_,H,1,
  I1.kept λe0F=>Ha _ e,a2o _ lo (hi - lo).toNat,?_,λe2h=>?_,q]
 ·let e1:lo+((0:Nat)) * 1=lo:=by simp
  let e2:((hi - lo).toNat) - ((0:Nat))=Builtin.Range.rangeSize lo hi 1:=by rw[rangeSize_one];split <;> lia
  rw[e1,e2];show HG _ rfl
 ·let e:b=(s.heap.push { cls:=.type "range",data:=.fields [tZ].toArray }).objs.size:=by simpa using hb
  ext d4U
inductive c0h (c8C):∀ j:Int,vs=[.int j]->-SL<=j->j<2 ^ 62->R (Zw 0 j.toNat) H1
theorem a4d (ta):TI:=λe4J=>ta σ H λe5u=>c0h R vs H1
inductive c5Y (c8C):∀ i j:Int,vs=[.int i,.int j]->(-SL<=i/\i<2 ^ 62/\-SL<=j/\j<2 ^ 62)->R (Zw i (j - i).toNat) H1
theorem a4c (ta):TI:=λe4J=>ta σ H λe5u=>c5Y R vs H1
def kP (c7A)(ha:PA X [a] ta)(hs:starEach [a] X.env=[b8Z]:=ă):e1m (.Call fh [a] [] pos) (a4d ta):=by
 ext d2T;show Call_<|f2j (e0j hs rfl);ext d43;let#[j,e,oA,q]:=q1;subst e
 cases r1 with
 | cons r rr=>
  cases rr;let#[t,1]:=r;show call_range_1 (vG I1 #[0] #[0] q1 q2<|by simpa using q)
def Bh (c7A)(ha:PA X [a,b] ta)(hs:starEach [a,b] X.env=[b8Z,b80]:=ă)(TZ:starEach [b] X.env=[b80]:=ă):
  PI X tg (.Call fh [a,b] [] pos) (a4c ta):=by
 ext d2T;show Call_<|f2j (e0j FA (by rw[TZ];rfl));ext d43;let#[i,j,e,#[CK,q4],q]:=q1;subst e
 cases r1 with
 | cons r rr=>
  cases rr with
  | cons r' rr=>
   cases rr;let#[t,1]:=r;let#[t',1]:=r';show call_range_2 (vG I1 q1 q2 q3 q4 q)
theorem a7e (wi:TI)(g:TG)(tb:TS):TS:=λe3t=>wi σ H λJ H1=>∃ W:Nat->Nat->Υ,(∃ m,W 0 m σ H1)/\∀ i m σ H,e4z H->
 (J.stop i H/\D.nx σ H)\/(J.go i H/\∃ N:Υ,ġ/\∀ x H',J.Xy i H x H'->e4R H' λe5L=>tb { D with nx:=N,ct:=N,bk:=D.nx } σ2 H2)
theorem nH (fp:υ)(c8Q):ζ:=fp.filterMap λb=>(h.get? b).map λo=>(b,o)
def gb (hb:b∈fp)(e:h.get? b=!o):(b,o)∈nH fp h:=List.mem_filterMap.mpr #[b,hb,by rw[e];rfl]
def b3S (hp:p∈nH fp h):p.1∈fp/\h.get? p.1=!p.2:=by
 let#[b,hb,e]:=List.mem_filterMap.mp hp
 cases q:h.get? b with
 | none=>rw[q]at e;cases e
 | some o=>
  rw[q]at e;let e':=Option.some.inj e;subst e';show#[hb,q]
def Inv.pinned (I)(hf:∀ b∈fp,e2A H b)(ho:∀ b∈fp,∃ o,s.heap.get? b=!o/\∀ v,o.data≠.cell v):Inv X (ñ++nH fp s.heap) σ H s:=
 I.NJ λe7V=>(Hx.mp hp).elim (λz=>I.pin p<|Hq _ z) λz=>by
  let#[hb,e]:=b3S z;let#[f0,f1,f2,_]:=hf p.1 hb;let#[o,e',d]:=ho p.1 hb
  cbv
def Inv.P8 (I:Inv X (ñ++pl) σ H s):d9Z H s:=I.NJ λe7V=>f0D (Hq _<|HK _ hp)
def bJ {tb:TS}(hp)(hc)(hi:e6W wi)(hg:PG X tg g)(hb:Q1 X body tb)(hs):PS X (.For tg iter body [] pos) (a7e wi g tb):=by
 ext d2u;show wpAny_For (LW (d9t hi _) λv s1 h1=>LW h1 λitv s2 h2=>?_) hs;let#[it,fp,tn,J,H2,e,I2,T,st2,f2,W,#[m0,w0],turn]:=h2;subst e;let stat:∀ {H':Hp},(∀ b∈fp,H' b=none)->∀ b∈fp,e2A H' b:=λhn e2h=>#[hn b hb,(f2 b hb).2]
 show codeAny_forLoop_any (λn s'=>∃ i σ' H',e0Q s'/\tn i s'.heap/\(∀ b∈fp,H' b=none)/\W i n σ' H') ?_ m0 #[(0),σ,Bs,st2,λe2h=>(f2 b hb).1,w0];rintro n s3 ⟨i,σ3,H3,I3,st3,fr3,w3⟩;rcases turn i n σ3 H3 w3 with⟨stop,qn⟩|⟨go,N,hN,step⟩
 ·show JP hp (LW (T.done X rfl rfl rfl hc i ñ s3 σ3 H3 X.xe I3 (stat fr3) st3 stop) λr s4 gR=>?_);let#[hr,I4]:=gR;subst hr;show KO #[σ3,H3,I4,qn]
 ·show JP hp (LW (T.item X rfl rfl rfl hc i ñ s3 σ3 H3 X.xe I3 (stat fr3) st3 go) λr s4 gR=>?_);let#[u,hr,h4]:=gR;subst hr;show JP hp (LW h4 λ_ s5 gR=>?_);let#[x,H5,I5,r5,y5,st5,fr5]:=gR;show JP hp (LW (hg _ s5 σ3 H5 x u _ (I5.pinned (stat fr5)<|T.obj _ _ st5) r5<|step x H5 y5) λ_ s6 gR=>?_);let#[σ6,H6,I6,q6]:=gR;show JP hp (LW (hb _ s6 σ6 H6 _ I6 q6) λf s7 q7=>?_);let again:∀ {σ7:St}{H7:Hp},Inv X _ σ7 H7 s7->N σ7 H7->∃ m,m<n/\∃ i σ' H',e0Q s7/\tn i s7.heap/\(∀ b∈fp,H' b=none)/\W i m σ' H':=λ{σ7 H7} I7 n7=>by let#[m',hm,w7]:=hN σ7 H7 n7;show#[m',hm,i+1,c6s,T.keep Ĉ st5 λe2h o e=>(I7.pin (b,o)<|Hq _ (Hq _<|gb hb e)).1,λe2h=>?_,w7];let#[o,e,d]:=T.obj ĉ st5 b hb;show (I7.pin (b,o)<|Hq _ (Hq _<|gb hb e)).2.1
  cases f with
  | next=>ext d5d
  | cont=>ext d5d
  | brk=>let⟨σ7,H7,I7,q7⟩:=q7;show#[c6s,q7]
  | ret v=>let⟨x7,σ7,H7,I7,r7,q7⟩:=q7;show#[x7,c6s,r7,q7]
def c5Z {K:Φ}{g:TG}(c8T)(hs:∀ i x σ H,xs[i]?=!x->e8h H->e4R H λe5L=>tb { D with nx:=Pv (i+1),ct:=Pv (i+1),bk:=D.nx } σ2 H2)(c9x):
  ∃ W:Nat->Nat->Υ,Y2/\∀ i m σ H,e4z H->
   ((Zx K a).stop i H/\D.nx σ H)\/((Zx K a).go i H/\∃ N:Υ,ġ/\∀ x H',(Zx K a).Xy i H x H'->e4R H' λe5L=>tb { D with nx:=N,ct:=N,bk:=D.nx } σ2 H2):=by
 ext d26
 ·show .inr #[kY,Pv<|i+1,λf0t=>b2X,λx H' y=>?_];let#[e,y]:=y;subst e;show hs i x σ _ (y xs q) p
 ·let e:i=xs.length:=#[]
  subst e;show .inl b5H
def b4e {lo:Int}{g:TG}(c7R)(hs:∀ i σ H,i<n->e8h H->g (.int (lo+i)) σ H λe5L=>tb { D with nx:=Pv (i+1),ct:=Pv (i+1),bk:=D.nx } σ2 H2)(hd:∀ σ H,Pv n σ H->f0C H):
  ∃ W:Nat->Nat->Υ,Y2/\∀ i m σ H,e4z H->
   ((Zw lo n).stop i H/\D.nx σ H)\/((Zw lo n).go i H/\∃ N:Υ,ġ/\∀ x H',(Zw lo n).Xy i H x H'->e4R H' λe5L=>tb { D with nx:=N,ct:=N,bk:=D.nx } σ2 H2):=by
 show#[λi m σ H=>m=n - i/\i<=n/\Pv i σ H,#[n,by simp,HW _,h0],?_];ext d66;by_cases Nt:i<n
 ·show .inr #[Nt,Pv<|i+1,λf0t=>#[n - (i+1),#[],1,Nt,p'],λx H' y=>?_];let#[e,y]:=y;subst e y;show hs i σ _ Nt p
 ·let e:i=n:=#[]
  subst e;show .inl #[Hl _,hd σ H p]
abbrev R2:=V->V->Hp->VK->Prop
theorem NH (X)(f:Value->Value->Sem Value)(r:R2):Prop:=
 ∀ (ñ:ζ)(s:Ê)(σ:St)(H:Hp)(x y:V)(v u:Value)(Q:VK),d9Z H s->e2m v->e5P u->r x y H Q->
  wpAny Ē X.A (f v u) ĸ X.xe s
theorem rW (X)(f:Value->Sem Value)(r:V->Hp->VK->Prop):Prop:=
 ∀ (ñ:ζ)(s:Ê)(σ:St)(H:Hp)(x:V)(v:Value)(Q:VK),d9Z H s->e2m v->r x H Q->
  wpAny Ē X.A (f v) ĸ X.xe s
theorem Md (X)(f:Value)(c9u):Prop:=
 ∀ (ñ:ζ)(s:Ê)(σ:St)(H:Hp)(xs:π)(us:θ)(Q:VK),d9Z H s->e0v us->r xs H Q->
  wpAny Ē X.A (call f us) ĸ X.xe s
theorem YI (r:R2)(ta tb:TE):TE:=λd95=>ta σ H λe3X=>tb σ H1 λy H2=>r x y H2 Q
theorem tUn (r:V->Hp->VK->Prop)(ta:TE):TE:=λd95=>ta σ H λe3X=>r x H1 Q
inductive rI (C:Int->Int->Prop)(g:Int->Int->V)(c7i):∀ i j,x=.int i->y=.int j->C i j->Q DZ H
inductive Xz (g:Int->Int->V)(c7i):∀ i j,x=.int i->y=.int j->Q DZ H
inductive rU (g:Int->V)(x:V)(H:Hp)(Q:VK):∀ i,x=.int i->Q (g i) H
variable {tb:TE}
def a1F (c67){R:V->V->Ù}(I)(h:ta σ H λe3X=>tb σ H1 λy H2=>R x y H2){f:Value->Value->Sem Value}(hf:∀ v u s2 x y H2,d9Z H2 s2->e2m v->e5P u->R x y H2->e9u s2):
  wpAny Ē X.A (d8O a) (λv s₁=>d93 (d8O b) (λu s₂=>e9u s₂) X.xe s₁) X.xe s:=by
 show LW ō λv e4I=>?_;ext d3o;show LW Ex λu f2l=>?_;let#[y,vO]:=gR;show hf v u s2 x y H2 I2 r1 r2 q2
def dZ (d1s)(c67):PE X b9u nI:=by ext d2p;show wpAny_BinOp a2S
def a3C (ho:rW X (unaryOp op) r)(d1W):PE X (.UnaryOp op a pos) (tUn r ta):=by ext d2p;show UnaryOp_ (LW ō λv e4I=>(by let#[Bi]:=gR;show ho ñ s1 σ H1 x v Q I1 r1 q1))
def jV {g:Int->Int->Int}(rule:∀ (i j:Int)(t u:Tok)(s:Ê)(Q:ρ)(E:ρ),C i j->Q c1f { s with toks:=s.toks+1 }->e8S s):
  NH X f (d9i C DZ):=by
 ext d2s;let#[i,j,2,hc,q]:=h;ext d2N;show rule i j t t' s ĉ hc Fm
def a3E {g:Int->Int->Int}(rule:∀ (i j:Int)(t u:Tok)(s:Ê)(Q:ρ)(E:ρ),Q c1f { s with toks:=s.toks+1 }->e8S s):
  NH X f (Xz λi j=>.int DZ):=by
 ext d32;show rule i j t t' s ĉ Fm
def FM {g:Int->Int->Bool}(rule:∀ (i j:Int)(t u:Tok)(s:Ê)(Q:ρ)(E:ρ),Q (.bool DZ) s->e8S s):
  NH X f (Xz λi j=>.bl DZ):=by
 ext d32;show rule i j t t' s ĉ E1
theorem b0x (i j:Int):Prop:=0<j/\j<1073741824
theorem b0w (i j:Int):Prop:=0<=j/\j<=1000000/\i.natAbs<2 ^ 64
theorem Wk (i j:Int):Prop:=(-(2 ^ 64)<i/\i<2 ^ 64)\/(-(2 ^ 64)<j/\j<2 ^ 64)
def Wk.ok (h:Wk i j):IntMulOk i j:=by
 ext d5Y
 ·show .of_left b70
 ·show .of_right b70
def nQ:NH X lC (Xz λi j=>.int (i+j)):=a3E λe1N q=>add_int q
def b4d:NH X (binaryOp .Sub) (Xz λi j=>.int (i - j)):=a3E λe1N q=>sub_int q
def cL:NH X c2c (d9i Wk (i * j)):=jV λe1N hc q=>mul_int q hc.ok
def bM:NH X (binaryOp .FloorDiv) (d9i b0x (i / j)):=jV λi j e0i hc q=>by let h1:=hc.1;let h2:=hc.2;show floordiv_int #[] (by rw[Int.fdiv_eq_ediv_of_nonneg i<|by lia];show q) (.inl<|PyProof.noPylong_small #[])
def bF:NH X (binaryOp .Mod) (d9i (λ_ j=>0<j) (i % j)):=jV λi j e0i hc q=>by show mod_int' #[] (by rw[Im i<|by lia];show q)
def a4i:NH X (binaryOp .Pow) (d9i b0w (i ^ j.toNat)):=jV λe1N hc q=>pow_int_small hc.1 hc.2.1 hc.2.2 q
def unI {g:Int->Int}(rule:∀ (i:Int)(t:Tok)(s:Ê)(Q:ρ)(E:ρ),Q (.int (g i) s.toks) { s with toks:=s.toks+1 }->d93 (f FU) Q E s):
  rW X f (rU λi=>.int (g i)):=by
 intro ñ s σ H x v Q I rx h;let#[i,1,q]:=h;let#[t,1]:=rx;show rule i t s ĉ #[.int<|g i,H,I.tok _,#[_,1],q]
def Rdy:rW X (unaryOp .USub) (rU λi=>.int (-i)):=unI λe0i q=>neg_int q
open e
theorem ZR:V->V->Bool
 | .int _,.int _=>true
 | .str _,.str _=>true
 | .str _,.non=>true
 | _,_=>false
theorem rEq:R2:=λe4r=>ZR x y=true/\Q b81 H
theorem rNe:R2:=λe4r=>ZR x y=true/\Q (.bl (not (decide (x=y)))) H
def a7a:decide (V.int i=V.int j)=(i==j):=by rw[IH];simp
def a8u:decide (V.str i=V.str j)=(i==j):=by rw[IH];simp
variable {X:Cx}{ta tb tc:TE}
def gk (I)(q:Q (.bl k) H)(e:k=k'):e4j (.bool k') s:=by subst e;show#[.bl k,H,I,1,q]
def bq:NH X EV rEq:=by
 ext d4W
 cases x with
 | int i=>
  cases y with
  | int j=>ext d3b;show eq_int (gk I q a7a)
  | _=>ext d2S
 | str i=>
  cases y with
  | str j=>ext d3b;show eq_str (gk I q a8u)
  | non=>ext d7M;show PySem.EqNone.eq_str_none c1g
  | _=>ext d2S
 | _=>cases y <;> show absurd (show false=true from hs) Ie
def c5j:NH X Fh rNe:=by
 ext d4W
 cases x with
 | int i=>
  cases y with
  | int j=>ext d3b;show ne_int (gk I q<|congrArg not a7a)
  | _=>ext d2S
 | str i=>
  cases y with
  | str j=>ext d3b;show ne_str (gk I q<|congrArg not a8u)
  | non=>ext d7M;show PySem.EqNone.ne_str_none c1g
  | _=>ext d2S
 | _=>cases y <;> show absurd (show false=true from hs) Ie
def gZ:NH X (compareOp .Lt) (Xz λi j=>.bl (decide (i<j))):=FM λe1N q=>lt_int q
def qM:NH X (compareOp .LtE) (Xz λi j=>.bl (decide (i<=j))):=FM λe1N q=>le_int q
def a6J:NH X (compareOp .Gt) (Xz λi j=>.bl (decide (j<i))):=FM λe1N q=>gt_int q
def Dt:NH X (compareOp .GtE) (Xz λi j=>.bl (decide (j<=i))):=FM λe1N q=>ge_int q
def b3c:NH X B8 (λe4r=>∃ i j,x=.str i/\y=.str j/\Q (.bl (not (Builtin.Str.occurrences j i 0 j.length 1).isEmpty)) H):=by ext d32;show in_str (gk I q rfl)
def a1U:NH X (compareOp .Is) a7E:=by
 ext d2s;let#[1,q]:=h
 cases ry;show is_none_gen (gk I q ?_)
 cases x <;> first
  | (cases rx;rfl)
  | (let#[t,1]:=rx;rfl)
def b2I:NH X (compareOp .IsNot) a6n:=by
 ext d2s;let#[1,q]:=h
 cases ry;show isnot_none_gen (gk I q ?_)
 cases x <;> first
  | (cases rx;rfl)
  | (let#[t,1]:=rx;rfl)
def NH.or (h:f0E r)(h':f0E r'):f0E b2b:=by
 intro ñ s σ H x y v u Q I rx ry q;ext d7N
 ·show h ñ s σ H x y v u Q I rx ry q
 ·show h' ñ s σ H x y v u Q I rx ry q
def b00 (b:Expr)(h:op≠.In:=ö)(h2:op≠.NotIn:=ö):behindInMarks op b=false:=by
 let e1:(op==CmpOp.In)=false:=by grind
 let e2:(op==CmpOp.NotIn)=false:=by grind
 cases b <;> simp[behindInMarks,e1,e2]
def A2 (c95):PE X Ţ nI:=by ext d2p;show wpAny_Compare1 a2S hm
theorem Cw (t:TE):TT:=λd95=>t σ H λx H'=>kTB Q x H'
def zX (c95):PT X Ţ (Cw nI):=by
 ext d2p;show wpAny_isTrue_Compare1 (thE ō λv e7d r1 q1=>thE Ex λu s2 y H2 I2 r2 q2=>
  LW b1b fun c s3 ⟨z,H3,I3,r3,k,e,q3⟩=>?_) hm
 subst e
 cases r3;show Jn #[d8,q3]
theorem CB (r r':R2)(ta tb tc:TE):TE:=λd95=>ta σ H λe3X=>tb σ H1 λy H2=>r x y H2 λz H3=>∃ k,z=.bl k/\
 (if k=true then tc σ H3 λw' H4=>r' y w' H4 Q else Q xA H3)
def nK (ho)(U1:NH X (compareOp op') r')(c67)(hc:PE X c tc)(hm:lastMarks [op,op'] [b,c]=false:=Ą):PE X (.Compare a [op,op'] [b,c] pos) (CB r r' ta tb tc):=by
 ext d2p;show Compare_chain (thE ō λv e7d r1 q1=>chain_link (thE Ex λu s2 y H2 I2 r2 q2=>
  LW b1b fun d s3 ⟨z,H3,I3,r3,k,e,q3⟩=>?_)) hm
 subst e
 cases r3;show Jn ?_
 cases k with
 | false=>show ite_ff #[.bl false,d8,1,q3]
 | true=>show ite_tt (chain_last<|LW (hc ñ s3 σ H3 _ I3 q3) λw' s4 gR=>(by let#[z',H4,I4,r4,q4]:=gR;show U1 ñ s4 σ H4 y z' u w' Q I4 r2 r4 q4))
def oE:(sizeLine:Nat)<2 ^ 63:=by rw[IY];decide
def dh (r:sY [x] us):∃ u,us=[u]/\rp x u:=by
 cases r with
 | cons r1 r2=>cases r2;show#[_,1,r1]
def Cr (r:sY [x,y] us):∃ u w',us=[u,w']/\rp x u/\rp y w':=by
 cases r with
 | cons r1 r2=>
  cases r2 with
  | cons r3 r4=>cases r4;show#[tF,r1,r3]
open e
structure Vp (c8Q)(x dx C:Addr)(mA:Ω):Prop where
 obj:h.get? x=!W.instObj C dx
 ns:h.Ns1 dx mA
 ne:dx≠x
instance BD {h:Heap}(n:h.Ns1 dx mA):∃ od,h.get? dx=!od/\∀ name,W.lookIn name od=!mA name:=by
 let#[o,es,ep,ho,hd,hk,_,hm]:=n;show#[o,ho,λname=>?_];let e:=hm name;unfold nsFind findBy at e;rw[<- Array.find?_toList]at e;ext1 W.lookIn;rw[hd];dsimp only;split
 ·cbv
 ·rename_i q;let a:es.toList.any (·.refKey)=false:=by rw[List.any_eq_false];intro y hy;let#[z,t,Xb]:=hk y<|Array.mem_toList_iff.mp hy;simp[DictEntry.refKey,Xb]
  grind
def Vp.look (I:Vp h x dx C mA):∃ od,W.InstAt h x (e8i dx) C !od/\∀ name,W.lookIn name od=!mA name:=
 let #[od,ho,hl]:=BD I.ns
 #[od,#[I.obj,2,ho],hl]
variable {K:Ψ}
def b8D (d0B)(d1t)(ha:e0c yN name=!none)(hv:mA name=!v)(hv':W.handedIn v=true)(h:Q v { s with toks:=s.toks+1 }):
  wpAny ē A (getAttr rR name expr) Q E s:=by
 ext d55;show W.get_value X J (W.plainGet_of hg).1 (W.findObj_own hh ha rfl<|by rw[hl,hv]) hv' h
def b31 (d0B)(hf:e0c yN name=!some Fr)(ht:W.isFn K Fr=true)(hv:mA name=none)(h:Q (.ref f,[.ref x]) s):
  wpAny ē A (getMethod rR name pl) Q E s:=by
 ext d55;show W.method_fn X J (W.plainGet_of hg).1 (W.plainGet_of hg).2 hf (Jv.mp ht) (by change (W.lookIn name od).map _=!false;rw[hl,hv];rfl) h
def b1C (c8i)(hs:Κ yN)(hp:e1c C=true)(ht:e2D C name=!none)(d1t)(hw:PySem.Within mA ns)(hsz:ns.length<=sizeLine)(h:∀ h',Vp h' x dx C (λy=>if y=name then some v else mA y)->Heap.SameBut dx s.heap h'->Q () { s with heap:=h',toks:=s.toks+2 }):
  wpAny ē A (setAttr rR name v) Q E s:=by
 ext d55;show W.set_plain X J hs (W.osa_open X J hp ht λb=>?_);let#[cd,hc,Qn]:=W.any_some hh;let hx:=I.obj;show GU<|Hk (GU<|GU (wpAny_loadPart hx<|GU (W.Looks.here (W.looks_clsIn X hc) ?_)));rw[Qn];show Hk<|GU (Hk (GU ?_));show wpAny_nsSet1 I.ns λh' hn2 TZ=>?_;let#[As]:=hn2.count<|PySem.Within.cons name v hw;show GU (e3q (by rw[hdD];show pastItsLine_dict<|HH hcD ĝ) ?_);show Hk (h _ #[(TZ.2 _<|Ne.symm I.ne).trans I.obj,hn2,I.ne] TZ)
def DD (X:K.In s.heap)(hm:W.makesIn K C=true)(hi:e0c yN "__init__"=!some Fr)(hf:W.typeIn K Fr=!.type "function")(h:codeAny ē (d9z #[.ref C::vs,kw]) (.call Fr #[.ref į::vs,kw]) (W.InitBack į R)
   { s with heap:=(s.heap.push W.emptyDict).push b3u }):
  codeAny ē A (.call yN #[vs,kw]) R s:=by
 let#[hh,ZP]:=s;show W.make_core (W.makes_of X hm) (W.looks_findIn X hi) (λself=>W.bind_fn X self hf) Ķ h
open e
theorem kN (f)(v):List (Str×V)->Ï
 | []=>[(f,v)]
 | (g,x)::r=>if g=f then (g,v)::r else (g,x)::f0F r
def b1h (f g:Str)(v):∀ fs:Ï,(f0F fs).lookup g=if g=f then some v else fs.lookup g:=by
 intro r'
 induction r' with
 | nil=>
  change List.lookup g [(f,v)]=_
  grind
 | cons hd' r ih'=>
  ext d77
  grind [kN,List.lookup]
def lj (f)(v):∀ fs:Ï,f∈(f0F fs).map (·.1)/\∀ g,g∈fs.map (·.1)->g∈(f0F fs).map (·.1):=by
 intro r'
 induction r' with
 | nil=>
  show #[by simp[kN],λg h=>by simp at h]
 | cons hd' r ih'=>
  let#[k,x]:=hd';let#[qu]:=ih'
  grind [kN,List.map_cons,List.mem_cons_of_mem,List.mem_cons]
def b40 (f)(v):∀ fs:Ï,(f0F fs).length<=fs.length+1:=by
 intro r'
 induction r' with
 | nil=>
  simp[kN]
 | cons hd' r ih'=>
  ext d77
  grind [kN,List.length_cons]
def Qa.some_of (r:Qa (!v) o):∃ u,o=!u/\rp v u:=by
 cases o with
 | none=>ext d8l
 | some u=>show#[u,1,r]
def Qa.none_of (r:Qa none o):o=none:=by
 cases o with
 | none=>rfl
 | some u=>ext d8l
def BR (d0r):W.handedIn u=true:=by
 cases v with
 | non=>ext d8r
 | bl b=>ext d8r
 | int i=>ext d3D
 | str x=>ext d3D
 | byt b=>ext d3D
 | flt b=>ext d3D
 | ref a=>ext d8r
 | ty n=>ext d8r
def fEt (LJ:e7e H h)(e:H a=!.ins C dx fs):∃ mA,Vp h a dx C mA/\(∀ f,Qa F9 (mA f))/\PySem.Within mA (fs.map (·.1))/\fs.length<=1000/\H dx=!.own a:=by
 let#[d,z,ne,ob,mA,n,r,q]:=(LJ a _ e)
 show#[mA,#[ob,n,ne],r,q,z,d]
structure PM (K:Ψ)(c7r):Prop where
 pg:W.plainGet K C Str.empty=true
 hd:W.hasDictIn K C=true
 po:W.plainOver K C=true
 sa:W.findIn K yN "__setattr__"=!some Ĝ
def PM.get {K:Ψ}(c:PM K C)(f):e1s C f=true:=c.pg
theorem Mb (K)(C)(f):Prop:=e0c yN f=!none
def Mb.a2T {K:Ψ}(n:Mb K C f):e2D C f=!none:=by ext1 W.takerIn;rw[n];rfl
structure Ch (K:Ψ)(c7r)(m:Str)(f:Addr):Prop where
 at_:W.findIn K yN m=!some Fr
 fn:W.isFn K Fr=true
 kp:W.keepIn K Fr=true
def f2G (c8p)(n:Mb X.K C f)(l:fs.lookup f=!v)(h:∀ u s',d9Z H s'->e4O u->Q u s'):e2n (getAttr gq f b) Q E s:=by ext d7O;let#[u,hu,ru]:=Qa.some_of (by rw[<- l];show r f);show b8D I.Ow O (c.get f) c.hd n hu (BR ru) (h u _ vq ru)
def a61 (c8p)(k:Ch X.K C m g)(l:fs.lookup m=none)(h:Q (.ref g,zV) s):e2n (getMethod gq m pl) Q E s:=by ext d7O;let hn:=Qa.none_of (by rw[<- l];show r m);show b31 I.Ow O (c.get m) k.at_ k.fn hn h
def b2o (c8p)(n:Mb X.K C f)(hl:fs.length<1000)(ry)(h:∀ s',d9Z (d8X a b6M) s'->Q () s'):e2n (setAttr gq f u) Q E s:=by
 let#[mA,O,r,wi,_,ho]:=fEt I.LJ e;let hz:(fs.map (·.1)).length<=sizeLine:=by rw[GS,IY];lia
 show b1C I.Ow O c.sa c.po n.a2T c.hd wi hz λh' O' sb=>h _ ?_;let hd:∃ o,h'.get? dx=!o:=let ⟨o,_,_,e',_⟩:=O'.ns;#[o,e'];show I.write (by rw[e];show Jw) (.inr ho) (λb q hb z=>(sb.2 b hb).trans z) hd ?_;show#[by rw[a9 O.ne];show ho,?_,O.ne,O'.obj,_,O'.ns,λg=>?_,λg hg=>?_]
 ·let:=b40 f y fs;lia
 ·rw[b1h];by_cases q:g=f
  ·rw[if_pos q,if_pos q];show ry
  ·cbv
 ·by_cases q:g=f
  ·rw[q];show (lj f y fs).1
  ·show (lj f y fs).2 g (wi g λz=>hg ?_)
   cbv
def Inv.made (I):d9Z (d8P H s.heap.objs.size į C)
  { s with heap:=(s.heap.push W.emptyDict).push b3u }:=by
 let e1:(s.heap.push W.emptyDict).get? s.heap.objs.size=!W.emptyDict:=HG s.heap rfl;let e2:((s.heap.push W.emptyDict).push<|e8i s.heap.objs.size).get? į=!W.instObj C s.heap.objs.size:=by
  let:=HG (s.heap.push W.emptyDict) (o:=e8i s.heap.objs.size) rfl
  cbv
 let e3:(s.heap.push W.emptyDict).Ns s.heap.objs.size (λ_=>none):=#[W.emptyDict,[].toArray,_,e1,1,λe he=>absurd he<|by simp,λ_=>rfl]
 show (I.laid (o:=.own _) (t':=s.toks) c1h kJ #[_,e1]).laid c1h (KZ<|K7 _ _) ?_;let ne:s.heap.objs.size≠s.heap.objs.size+1:=HR<|IJ _;show⟨by rw[a9 ne,af],HW _,ne,e2,λ_=>none,(Heap.Ns1.of_empty e3).at λo q=>Ha _ q,λ_=>Jw,λe16=>absurd rfl hy⟩
def c3D (hb:attributeBase e f env (eval e env)=eval e env)(h:e0q (eval e env) (λo s₁=>e0q (getAttr o f true) Q E s₁) E s):e0q (eval Gu env) Q E s:=
 Attribute_any_ h (by rw[arm_eval_Attribute,hb])
inductive b5i (K:Ψ)(f:Str)(c8l):∀ a C dx fs v,x=.ref a->H1 a=!.ins C dx fs->PM K C->Mb K C f->fs.lookup f=!v->Q v H1
theorem a26 (K)(ta:TE)(f):TE:=λd95=>ta σ H λe3X=>b5i K f Q x H1
inductive c1G (K:Ψ)(c8f):∀ a C dx fs,x=.ref a->H2 a=!.ins C dx fs->PM K C->Mb K C f->fs.length<1000->D.nx σ (upd H2 a b6M)
theorem a7q (K)(ta tv:TE)(f):TS:=λe3t=>tv σ H λy H1=>ta σ H1 λx H2=>c1G K f D σ y x H2
def Dg (c8G):PE X Gu (a26 X.K ta f):=by ext d2p;show c3D hb vy;let#[Bw,C,dx,fs,v,ex,ea,c,n,l,q]:=gR;ext d2t;show f2G I1 ea c n l λu' s2 I2 ru=>#[v,H1,I2,ru,q]
def b4C (ha:PE X o ta)(hv)(hs:f0G b0o pos.line X.env=pure false):PS X lx (a7q X.K ta tv f):=by ext d5M;let#[x,Bs,rx,a,C,EG,ea,c,n,l,q2]:=gR;subst ex;obtain rfl:ov=Value.ref a:=rx;show b2o I2 ea c n l ry λs3 I3=>#[σ,_,I3,q2]
variable {H:Hp}
inductive ka (K:Ψ)(H:Hp):V->Value->Prop where
 |non:ka K H .non (.type "NoneType")
 |bl (x:Bool):ka K H (.bl x) lZ
 |int (i:Int):ka K H yq xW
 |str (x:Str):ka K H Ao EY
 |flt (x:UInt64):ka K H (.flt x) (.type "float")
 |lst {a:Addr}{xs:π} (e:H a=!.lst xs):ka K H gq Ő
 |frz {a:Addr}{o:Obj}{xs:π} (e:H a=!.frz o w6):ka K H gq Ő
 |tup {a:Addr}{xs:π} (e:H a=!.tup xs):ka K H gq (.type "tuple")
 |dK {a:Addr}{ķ:ξ} (e:H a=!.dK ķ):ka K H gq UV
 |dT {a:Addr}{ķ:List su} (e:H a=!.dT ķ):ka K H gq UV
 |ins {a C dx:Addr}{fs:Ï} (e:H a=!.ins C dx fs) (cl:PM K C) (ha:W.findIn K yN "__class__"=!some kU)
   (hn:W.specialIn K kU "__get__"=!some (.builtin "getset_descriptor.__get__")) (htk:W.takesIn K kU=!true)
   (hm:W.mroIn K C (.type "object")=!true):ka K H gq yN
def b96 (I)(rx:e2m u)(ty:ka X.K H x t)(e:W.kitOne X.K t c=!b)(h:∀ tk,Q (.bool b) { s with toks:=tk }):
  wpAny Ē A (call mX [u,c]) Q E s:=by
 cases ty with
 | non=>ext d7t;show J4 W.kitx_none I.Ow Jw e İ h
 | bl y=>ext d7t;show J4 W.kitx_bool I.Ow Jw e İ h
 | int i=>ext d5i;show J4 W.kitx_int I.Ow Jw e İ h
 | str y=>ext d5i;show J4 W.kitx_str I.Ow Jw e İ h
 | flt y=>ext d5i;show J4 W.kitx_float I.Ow Jw e İ h
 | @lst a xs ea=>
  ext d7t;let#[_,_,n,_,h1]:=rG
  ext d5j
 | @frz a ob xs ea=>
  ext d7t;let#[CD,n,_,h1]:=rG
  ext d5j
 | @tup a xs ea=>
  ext d7t;let#[CD,p]:=rG
  let#[o,jb]:=p;show J4 W.kitx_tuple I.Ow #[o,mh] e İ h
 | @dK a ķ ea=>
  ext d7t;let#[_,_,vs,_,p]:=rG
  let#[lH,jb]:=p;ext d4X
 | @dT a ķ ea=>
  ext d7t;let#[_,_,xs,_,lH,jb]:=rG
  ext d4X
 | @ins a C dx fs ea cl ha hn htk hm=>
  ext d7t;let#[mA,O,_]:=fEt I.LJ ea;let#[od,J,_]:=O.look;show J4 (W.kitx_own (cl.get _) cl.hd ha hn htk hm) I.Ow J e İ h
open e
structure LM (k:Nat)(A:Ë):Prop where
 hd:A.handled=none
 dp:A.depth+3 * k+5<recursionLimit
 un:A.units+16 * k+200<cLine
def LM.mono (r:LM k A)(h:j<=k):LM j A:=#[r.hd,by let:=r.dp;lia,by let:=r.un;lia]
def LM.deeper (d1Z)(env:Env):LM k (A.deeper env):=
 #[r.hd,by let:=r.dp;change A.depth+1+3 * k+5<_;lia,by let:=r.un;change A.units+3+16 * k+200<_;lia]
def LM.in1 (d1Z):LM k A.in1:=
 #[r.hd,by let:=r.dp;change A.depth+3 * k+5<_;lia,by let:=r.un;change A.units+1+16 * k+200<_;lia]
def f2w {A:Ë}:(A.under BC).depth=A.depth+1:=by first|rfl|simp
def f2v {A:Ë}:(A.under BC).units=A.units+1:=by first|rfl|simp
abbrev _root_.Ü:=List (Str×Value)
def LM.make (d1Z)(C)(us)(kw:Ü):LM k (A.under BC):=
 #[r.hd,by let:=r.dp;rw[f2w];lia,by let:=r.un;rw[f2v];lia]
def LM.depth (r:LM k A):A.depth<recursionLimit:=by let:=r.dp;lia
def LM.units (r:LM k A):A.units+64<cLine:=by let:=r.un;lia
theorem lW:TA:=λ_ H Q=>Q [] H
theorem lF (ta:TE)(tr:TA):TA:=λd95=>ta σ H λe3X=>tr σ H1 λxs H2=>Q (x::xs) H2
def K':PA X [] lW:=λd9X H Q I h=>Calls.spliced_nil Gz
def a8 (ha:e08 te)(hr:e6m t)(c7k):PA X ke (lF te t):=by ext d8m;rw[hs];show Calls.spliced_cons (LW ō λu e4I=>?_);ext d3o;show LW (d9C hr q1) λus f2l=>by let#[xs,vO]:=gR;show#[c5O]
abbrev Sp:=List V->Hp->VK->XK->Prop
abbrev Vu:=List Env->Hp->Shared->XK->ρ
structure Vr (d0R)(A:Ë)(outer:List Env)(s:Ê)(H:Hp):Prop where
 frames:A.frames=!outer
 mod:Mod K mg base
 bs:∀ b o,base.get? b=!o->s.heap.get? b=!o/\H b=none
 Wh:base.objs.size<=s.heap.objs.size
 Q7:s.heap.FunFrames base outer
 XI:∀ b∈R5 outer,H b=none
 LJ:P6 P w H s.heap
 bare:AllBare s.gens
theorem CE (d1u)(u)(s'):Prop:=
 ∃ v H',s'.os=s.os/\AllBare s'.gens/\Un (R5 outer) [] H H' s.heap s'.heap/\P6 P w H' s'.heap/\rp v u/\Q v H'
theorem CR (CX:Vu)(d1u)(E:XK)(r:Result)(s'):Prop:=
 match r with
 | .ok (.ret u)=>e7Z s'
 | .ok _=>False
 | .error e=>e5B e s'
abbrev _root_.È:=FuncData
structure LX (d0R)(CX:Vu)(k:Nat)(f:Addr)(fd:È)(ps:η)(sp:Sp):Prop where
 len:∀ vs H Q E,sp vs H Q E->vs.length=ps.length
 run:∀ (A:Ë)(outer:List Env)(s:Ê)(H:Hp)(args:Args)(us:θ)(vs:π)(Q:VK)(E:XK),LM k A->Vr P w K mg base A outer s H->BindsTo s fd args Id->sY vs us->sp vs H Q E ->
  codeAny Ū A (.call Fr args) (CR CX outer P w H s Q E) s
def LX.imp {K:Ψ}(c96)(h:∀ vs H Q E,sp' vs H Q E->e1d E):e6Q ps sp':=
 #[λe3o q=>F.len vs H Q E<|h _ _ _ _ q,λe7c=>f1K hv<|h _ _ _ _ hs]
def Vr.make {K:Ψ}(e:e5m H)(C)(us)(kw:Ü):
  Vr P w K mg base (A.under BC) outer s H:=#[by first|show e.frames|(simpa [Around.under,Code.envs,Code.isFrame,pushEnvs] using e.frames),e.mod,e.bs,e.Wh,e.Q7,e.XI,e.LJ,e.bare]
def Inv.Xj (I):Vr X.prog X.w X.K X.mg X.base X.A X.stack s H:=
 #[I.ok.frames,I.ok.mod,I.bs,e5O I.sz,I.stack,I.Px,I.LJ,I.bare]
def Inv.after (I)(h:CE X.stack X.prog X.w H s Q u s'):e4j u s':=by let#[v,H',os,bare,un,LJ,r,q]:=h;let#[hh,g,d,t,os']:=s';obtain rfl:os'=s.os:=os;show#[v,H',I.call un LJ bare λb z=>absurd z<|by simp,r,q]
theorem zP (d1v)(t:TA):TE:=λd95=>t σ H λe5u=>sp vL H1 Q E
inductive c24 (c7r)(m:Str)(sp:Sp)(dvs:π)(E:XK)(t:TA)(σ:St)(c8l):∀ a dx fs,x=.ref a->H1 a=some (.ins C dx fs)->fs.lookup m=none->(t σ H1 λvs H2=>sp (x::vL) H2 Q E)
theorem vg (C)(m:Str)(d1v)(ta:TE)(t:TA):TE:=λd95=>ta σ H λe3X=>c24 C m sp dvs E t σ Q x H1
theorem zN (C)(d1v)(t:TA):TE:=λd95=>t σ H λe5u=>∀ x dx,H1 x=none->H1 dx=none->dx≠x->
 sp (.ref x::vL) (d8P H1 dx x C) b5m E
theorem YX (K)(fd:È)(ps)(ds:θ):Prop:=
 ∀ (s:Ê)(us:θ),K.In s.heap->(us++ds).length=ps.length->e7i ⟨us,[]⟩ (ps.zip (us++ds))
def YX.all {K:Ψ}(h:∀ us:θ,us.length=ps.length->bindArgs fd M1=pure Id):YX K fd ps []:=λs us _ hl=>by rw[HD]at hl ⊢;show .of_eq (h us hl)
theorem c5z (CX:Vu)(X)(E:XK):Prop:=∀ (ñ:ζ)(σ:St)(H:Hp)(s:Ê)(e:Value)(s':Ê),d9Z H s->CX X.stack H s E e s'->X.xe e s'
variable {f C:Addr}
def b7e (F)(hr)(c62)(c9C)(h:sp vL H Q E):e5j s:=by
 let r2:=r.append hd;let hl:(us++ds).length=ps.length:=by rw[<- r2.length];ext d6y
 show KB (d8N ĉ E c1i r2)
 cases r with
 | error e=>ext d4K
 | ok fl=>
  cases fl with
  | ret u=>show I.after hq
  | next=>ext d2Y
  | brk=>ext d2Y
  | cont=>ext d2Y
def a5K (F)(hr)(c7j)(hm:X.mg x=!.ref f)(hk:W.keepIn X.K Fr=true)(c62)(ha)(c7E):
  PE X ę (zP sp dvs E t):=by
 ext d2F;show b7e F hr hb hd hx I1 r q
def a6U (c8V)(ha)(TY)(Of)(ht:eval zT X.env=(do
   let ov <- eval o X.env
   standAt apos.atName
   let (f,first) <- holding [ov] ş
   callWith pos f first (e0m ő) Ĩ):=ă):
  PE X zT (e84 t):=by
 ext d2p;show W.methodCall_KW (pl:=pl) vy ht;ext d35;show Kn (first:=zV) (h₀:=X.base) I.ok.mod.Y8 hm.kp (thA (d9C ha q) λus s2 vs H2 I2 r q2=>#[I2.Ow,?_]) TY Of;show b7e (us:=.ref a::us) (vs:=.ref a::vs) F hr hb hd hx I2 (f0H r) q2
def c56 (c8V)(ht:e8j X.env=(do
   let ov <- eval o X.env
   standAt apos.atName
   let (f,first) <- holding [ov] ş
   callWith pos f first (e0m Š) Ĩ):=ă):
  PE X Ğ (e84 lW):=by
 ext d56;ext d35;show W.callWith_K0 I1.Ow hm.kp (e9C hb hd hx I1 lY q)
structure Mk (K:Ψ)(C f:Addr):Prop where
 makes:W.makesIn K C=true
 init:W.findIn K yN "__init__"=!some Fr
 fn:W.isFn K Fr=true
 kp:W.keepIn K yN=true
def vB (M)(F)(c7S)(c62)(c9C)(h:∀ x dx,H x=none->H dx=none->dx≠x->sp (.ref x::vL) (d8P H dx x C) b5m E):
  wpAny Ē X.A (call yN us) ĸ X.xe s:=by
 let hq:=h _ s.heap.objs.size c0o wq<|HR (IJ _);let I2:=Inv.made (C:=C) I;let r2:sY (V.ref į::_) _:=.cons rfl<|r.append hd;let hl:(Value.ref į::us++ds).length=ps.length:=by let e:=r2.length;ext d5Z
 show KB (DD I.Ow M.makes M.init (Jv.mp M.fn) (K8 (e8k #[Value.ref _::us,[]] _ _ _ E c1j
  b82 (hb ĉ I2.Ow hl) r2 hq) λr s' RK=>?_))
 cases r with
 | error e=>show hx ñ σ ĉ e s' I2 RK
 | ok fl=>
  cases fl with
  | ret u=>
   let#[v,H',I3,rv,ev,q3]:=I2.after RK;subst ev;show#[rv,#[V.ref _,H',I3,1,q3]]
  | next=>ext d3r
  | brk=>ext d3r
  | cont=>ext d3r
def c4L (d0n)(ha)(c7E):
  PE X ę (zN C sp dvs E t):=by
 ext d2p;show IC uz;show Kn (h₀:=X.base) I.ok.mod.Y8 M.kp a14 he Of;show vB M F hr hb hd hx I1 r q
def opI (d0n)(OO):PE X b3W (zN C sp dvs E lW):=by ext d2p;show IC uz;show W.callWith_K0 I.Ow M.kp (vB M F hr hb hd hx I .nil h)
open e
theorem PK (X)(X0:List Keyword)(t:TA):Prop:=
 ∀ (pos:Pos)(ñ:ζ)(s:Ê)(σ:St)(H:Hp)(Q:List V->Ù),d9Z H s->e4Q Q->d93 (evalAll ((e1t ZB).map (·.2))) CS X.xe s
variable {X:Cx}{a0K:Pos}{e:Expr}{X0:List Keyword}{te:TE}{t:TA}{nm:Option Str}
def a0h:PK X [] lW:=λd9X H Q I h=>wpAny_evalAll_nil Gz
def a5f (ha:e08 te)(hr:PK X X0 t):PK X (#[nm,e,a0K]::X0) (lF te t):=by ext d8m;change wpAny ĉ (evalAll<|(do let v <- eval e X.env;standAt pos;pure v)::(backToKw pos<|keywordEach X0 X.env).map (·.2)) ĉ s;show wpAny_evalAll_cons<|GU (thE (ha ñ s σ H _ I h) λu e7d r1 q1=>GU<|JU (Hk ?_));show LW (hr pos ñ s1 σ H1 _ I1 q1) λus f2l=>by let#[xs,vO]:=gR;show#[c5O]
open e
structure ar (N P:η)(sc:Scope):Prop where
 kind:sc.kind=.function
 co:sc.isCoroutine=false
 gen:sc.isGenerator=false
 nd:N.Nodup
 pre:N.take P.length=P
 par:∀ x∈P,sc.names.lookup x=some .local \/ sc.names.lookup x=!.cell
 a0z:∀ y∈sc.names,y.2≠.free
def b2z (c78):∀ {binds:Ü}{m:Ω},b72->bindL kindOf binds m x=m x:=by
 intro r'
 induction r' with
 | nil=>
  ext d7f
 | cons hd' r ih'=>
  let#[n,v]:=hd';intro m h;ext1 bindL;ext d6k
  ·grind
  ·rfl
def b1c (c78):∀ {binds:Ü}{m:Ω},b72->bindC kindOf binds m x=m x:=by
 intro r'
 induction r' with
 | nil=>
  ext d7f
 | cons hd' r ih'=>
  let#[n,v]:=hd';intro m h;ext1 bindC;ext d6k
  ·rfl
  ·grind
def b6p (c78):∀ {P:η}{vs:θ}{i:Nat}{m:Ω},P.Nodup->P[i]?=!x->vs[i]?=!v->kindOf x=!.local->
  bindL kindOf (P.zip vs) m x=!v
 | [],_,_,_,_,h,_,_=>by simp at h
 | _::_,[],_,_,_,_,h,_=>by simp at h
 | p::P,w::vs,0,m,nd,h1,h2,hk=>by simp at h1 h2;subst h1;subst h2;change bindL kindOf rq m p=_;ext1 bindL;rw[b2z λv hv=>(HQ.mp nd).1 (Jf hv).1,if_pos hk];simp
 | p::P,w::vs,i+1,m,nd,h1,h2,hk=>by change bindL kindOf rq m x=_;ext1 bindL;show b6p (i:=i) (HQ.mp nd).2 T0 SS hk
def a2n (c78):∀ {P:η}{vs:θ}{i:Nat}{m:Ω},P.Nodup->P[i]?=!x->vs[i]?=!v->kindOf x≠!.local->
  bindC kindOf (P.zip vs) m x=!v
 | [],_,_,_,_,h,_,_=>by simp at h
 | _::_,[],_,_,_,_,h,_=>by simp at h
 | p::P,w::vs,0,m,nd,h1,h2,hk=>by simp at h1 h2;subst h1;subst h2;change bindC kindOf rq m p=_;ext1 bindC;rw[b1c λv hv=>(HQ.mp nd).1 (Jf hv).1,if_neg hk];simp
 | p::P,w::vs,i+1,m,nd,h1,h2,hk=>by change bindC kindOf rq m x=_;ext1 bindC;show a2n (i:=i) (HQ.mp nd).2 T0 SS hk
theorem start (N:η)(vs:π):St:=vs.map some++List.replicate (N.length - vs.length) none
theorem dg (CX:Vu)(P)(w)(K)(mg)(base)(N:η)(ğ)(scope)(f:Addr)(cd:Value)(A:Ë)(outer)(s:Ê)(H)(E:XK):Cx where
 prog:=P
 w:=w
 K:=K
 mg:=mg
 base:=base
 A:=A.deeper Wr
 N:=N
 s₀:=s
 H₀:=H
 env:=e1a cd
 outer:=outer
 stack:=e1a cd::outer
 ex:=[]
 calm:=true
 fn:=λ_=>true
 pn:=[]
 xe:=λe s'=>e85 (A.deeper Wr) (leaving Wr e) (λ_ Wm=>e5B e Wm) (λe' Wm=>e5B e' Wm) s'
def c4x {sc:Scope}(h:sc.names.lookup x=!.cell):∃ c,(cellsFrom n sc.names []).lookup x=!c:=by show IQ.mp (W.cellsFrom_some sc.names n []<|.inl h)
def c5f {K:Ψ}(S:f0I scope)(hd:A.handled=none)(e0:e5m H)(hl:vs.length=ps.length)(r:sY vs us)(x:InCallC s s.heap.objs.size (d80 bindL) (e7j scope.names []) (d80 bindC) s1):
  Inv a6R [] ů H s1:=by
 let Of:ps.length<=N.length:=by let:=d94 S.pre;rw[Hm]at this;omega
 let#[h1,tk,1,hk]:=x.done;let XB:∀ b:Addr,b∉(dg CX P w K mg base N ğ scope f cd A outer s H E).ex:=λb z=>e30 Ė;show#[#[e0.mod,S.kind,2,Hl _,λy z c e1C=>?_,λe16=>?_,λy c _ h=>?_,λ_=>hd,Around.frames_deeper e0.frames,.inr #[2],λb z=>absurd z<|XB b,e0.bs,e0.Wh,λb _ _=>XB b,λb z=>absurd z<|XB b,e0.Q7,e0.XI],1,e0.bare,Un.kept hk,#[_,x.toInCall.ns,λi y v e1C h3=>?_],λy c h=>#[_,x.cell y c h],e0.LJ.fresh<|Hl _,λy c h=>?_,λe7V=>absurd (show p∈([]:ζ) from hp)<|by simp,e0.LJ.kept hk,?_]
 ·show name_of_addr x.apart (Je h1) (Je h2)
 ·let hy:scope.names.lookup y=!.cell\/scope.names.lookup y=!.free:=hy;rcases hy with hy|hy
  ·show c4x hy
  ·show absurd rfl (S.a0z _<|Je hy)
 ·show Ka (x.above y c<|Je h)
 ·let ha:vs[i]?=!v:=by unfold start at h2;grind
  let hi:i<vs.length:=(GW.mp ha).1;let#[u,hu,rv]:=r.get ha;let hp:ps[i]?=!y:=by rw[<- S.pre,IR<|by omega];show h1
  let ndP:ps.Nodup:=by rw[<- S.pre];show S.nd.sublist (JA ĉ)
  show#[u,rv,?_];rcases S.par y (Hb hp) with k|k
  ·show .inl #[k,b6p ndP hp hu k]
  ·let#[c,e]:=c4x (n:=s.heap.objs.size+1) k;show .inr #[.inl k,c,e,?_];let q:=x.cell y c e;rw[a2n ndP hp hu (by change scope.names.lookup y≠_;rw[k];decide)]at q;show q
 ·show e0.LJ.fresh (Ka<|x.above y c (Je h))
 ·ext1 start;change _=N.length
  grind
def a8w {K:Ψ}{dV kV:Value}(lk:K.lookup f=some #[oc,od,.func a6b,Nq])(RL:W.codeIn K Lr ğ=true)(S:f0I scope)(len)(O4:∀ (A:Ë)(outer:List Env)(s:Ê)(H:Hp)(vs:π)(Q:VK)(E:XK),LM k (A.deeper (e1a Lr))->e1d E->
   ∃ t,Q1 Ų body t/\t { nx:=λ_ H'=>e2P H',rt:=Q } ů H):
  LX P w K mg base CX (k+1) f a6b ps sp:=by
 show#[len,λe1W e0 hb r UY=>?_];let KX:=e0.mod.Y8.keeps λe0F=>(e0.bs b o e).1;let lim:=e0.mod.nolimit.keeps λe0F=>(e0.bs b o e).1;let a4K:∀ y∈ps.zip us,scope.names.lookup y.1=!.local\/(scope.names.lookup y.1=!.cell/\((e7j scope.names []).lookup y.1).isSome=true):=λgR hy=>by
  let#[n,v]:=gR;rcases S.par n (Jf hy).1 with q|q
  ·show .inl q
  ·show .inr #[q,W.cellsFrom_some Ĉ<|.inl q]
 show codeAny_call_function hr.depth (KX ĉ lk) rfl S.co S.gen rfl (W.codeRec_of KX RL) (hb ą ?_);show wpAny_newFunctionEnv_cells S.kind a4K λenv he s1 x=>?_;subst he;show#[lim.keeps x.toInCall.keep,codeAny_func ?_];let#[t,ht,hq]:=O4 A outer s H vs Q E (hr.deeper _) UY;let I:Inv Ų [] _ H s1:=c5f S hr.hd e0 (len ą UY) r x;show II (ht [] s1 _ H _ I hq) (λfl s' hs=>?_) λe s' hs=>hs;let fin:∀ {σ':St}{H':Hp}{v:V}{u:Value},Inv Ų [] σ' H' s'->e4O u->Q v H'->e7Z s':=
  λ{σ' H' v u} J rv q=>#[v,H',J.os,J.bare,J.base,J.LJ,rv,q]
 cases fl with
 | ret u=>
  let#[v,l9,J,rv,q]:=hs;show fin J rv q
 | next=>
  let#[l9,J,q]:=hs;show fin (v:=V.non) J rfl q
 | brk=>
  ext d6z
 | cont=>
  ext d6z
variable {t:TA}{r:List V->Hp->VK->Prop}
theorem tCB (c9u)(t:TA):TE:=λd95=>t σ H λe5u=>r vs H1 Q
def bQ (d0b)(c80)(ha)(hn)(c7E):e8l (tCB r t):=by ext d2p;show IC b58;show PyProof.Rows.callWith_builtin1 a2u he Of
def cY (c9h)(ha)(hn)(c7E):e8l (tCB r t):=by ext d2p;show IC b58;show IU a2u he Of
open e
universe L2
namespace HT
open PySem PyProof.Rows
def Xi (A:Ë)(s:Ê)(a:Int)(t:Tok)(c:Int)(u:Tok):∃ e,e0K (.int a t) (.int c u) e/\(e=true ↔ a=c):=
 #[_,SeqAt.EqAt.int_int a t c u,by simp]
theorem Ta (n d:Nat):Option Int->Nat
 | none=>d
 | some v=>if v<0 then (v+(n:Int)).toNat else min v.toNat n
def Ux (n d:Nat):Ta n d none=d:=rfl
def RH (n d k:Nat):Ta n d iG=min k n:=by change (if (k)<0 then ((k)+(n:Int)).toNat else min (k:Int).toNat n)=min k n;rw[if_neg<|by omega,J2]
universe HT
namespace L2
open PySem PySem.Spec PyProof.Rows
abbrev TO:=St->Hp->(Option Int->Ù)->Prop
theorem PO (X)(e:Option Expr)(t:TO):Prop:=
 ∀ (ñ:ζ)(s:Ê)(σ:St)(H:Hp)(Q:Option Int->Ù),d9Z H s->e4Q Q->
  wpAny Ē X.A (evalPart e X.env) (λu s'=>∃ o H',e6d s'/\IsPart u o/\Q o H') X.xe s
theorem b06:TO:=λ_ H Q=>Q none H
inductive c4F (Q:Option Int->Ù)(x:V)(H1:Hp):∀ i,x=.int i->Q (!i) H1
theorem a2Z (t:TE):TO:=λd95=>t σ H λe3X=>c4F Q x H1
def b93:∀ {us:θ},sY Ł us->e5Q ns:=by
 induction ns with
 | nil=>intro us r;cases r;show .nil
 | cons n ns ih=>
  intro us r
  cases r with
  | cons r1 r2=>
   let#[t,e]:=r1;subst e;show .cons n t (ih r2)
variable {X:Cx}{te:TE}{lo hi:Option Expr}{tl th:TO}
def b3A:PO X none b06:=by ext d2p;rw[evalPart_none];show Hk #[none,H,I,.none,h]
def t8 (h:e08 te):PO X (!e) (a2Z te):=by intro ñ s σ H Q I hw;show LW b8X λu e4I=>?_;ext d3o;let#[i,1,q]:=q1;let#[t,1]:=r1;show#[!i,xc,.int i t,q]
abbrev _root_.Ô:=Option Int
theorem fC (X)(c9v):Prop:=
 ∀ (ñ:ζ)(s:Ê)(σ:St)(H:Hp)(x:V)(v vl vu:Value)(lo hi:Ô)(sl:Addr)(Q:VK),d9Z H s->e2m v->s.heap.IsSliceOf sl vl vu .none->IsPart vl lo->IsPart vu hi->r x lo hi H Q->
  ∃ T id,typeLookup C7 "__getitem__"=pure !.builtin id/\s.TypeIs v T/\wpAny Ē X.A (getItem v (d9c sl)) ĸ X.xe s
theorem tSl (c9v)(te)(tl th:TO):TE:=λd95=>te σ H λe3X=>tl σ H1 λl H2=>th σ H2 λu H3=>r x l u H3 Q
def vM (hr:fC X r)(c8F)(hl:PO X lo tl)(hu:PO X hi th):PE X (.Subscript e b7u pos) (tSl r te tl th):=by ext d2p;show Subscript_ CO;ext d3o;show wpAny_Slice (LW (d85 hl) fun vl s2 ⟨l,H2,I2,pl,q2⟩=>LW (d9v hu σ) λvu s3 gR=>?_);let#[u,d8,pu,q3]:=gR;ext d7u;let I4:d9Z H3 { s3 with heap:=s3.heap.push { cls:=.type "slice",data:=.fields [vl,vu,.none].toArray } }:=I3.kept λb ob q=>Ha _ q;let#[T,id,hT,ht,hg]:=hr ñ { s3 with heap:=s3.heap.push { cls:=.type "slice",data:=.fields [vl,vu,.none].toArray } } σ H3 x v vl vu l u s3.heap.objs.size Q I4 r1 (Heap.IsSliceOf.new ..) pl pu q3;show tail_any ht hT hg (by with_unfolding_all rfl)
theorem qi (xs:π)(d0O):π:=(xs.drop (HT.Ta xs.length 0 lo)).take (d8M xs.length)
def xN (xs:π)(d0O):(qi xs lo hi).length<=xs.length:=by
 ext1 qi;rw[Hm,KD]
 lia
open e
theorem Wn (n)(i:Int):Option Nat:=if 0<=i then (if i<n then some i.toNat else none) else if -(n:Int)<=i then some (i+n).toNat else none
theorem R8 (c9k)(xs)(i:Int):Option α:=(e7k i).bind λj=>xs[j]?
def a3A (h:Wn n i=!j):seqIndex? i n=!j/\j<n/\-(n:Int)<=i/\i<n:=by
 unfold Wn at h;by_cases h0:0<=i
 ·rw[if_pos h0]at h;by_cases h1:i<n
  ·ext d5e;show#[by rw[e5C h1,e],kE,h1]
  ·cbv
 ·rw[if_neg h0]at h;by_cases h1:-(n)<=i
  ·ext d5e;show#[by rw[seqIndex_neg #[0] h1,e],#[0],h1,#[0]]
  ·cbv
def a1v (h:R8 xs i=!v):∃ j,seqIndex? i xs.length=!j/\xs[j]?=!v/\j<xs.length/\-(xs.length:Int)<=i/\i<xs.length:=by
 unfold R8 at h
 cases e:e7k i with
 | none=>rw[e]at h;cases h
 | some j=>
  rw[e]at h;let#[wG]:=a3A e;show#[j,h1,h,Fd,h4]
def dG {xs:List α}{j:Nat}{v:α}(h:xs[j]?=!v):R8 xs (j:Int)=!v:=by
 let hj:=(GW.mp h).1;let e:e7k (j)=!j:=by
  ext1 Wn
  cbv
 ext1 R8;rw[e];show h
theorem UnR (b:Expr):Prop:=∀ o i,subscripted b false o i=operate [o,i] (getItem o i)
theorem VO (X)(r:R2):Prop:=
 ∀ (value slice:Expr)(ñ:ζ)(s:Ê)(σ:St)(H:Hp)(x y:V)(v u:Value)(Q:VK),d9Z H s->e2m v->e5P u->r x y H Q->
  subscripted slice false v u=operate [v,u] (getItem v u)->d93 (subscriptTail value slice v u) ĸ X.xe s
theorem MtR (X)(id:String)(r):Prop:=
 ∀ (ñ:ζ)(s:Ê)(σ:St)(H:Hp)(x:V)(xs:π)(v:Value)(us:θ)(Q:VK),d9Z H s->e2m v->e0v us->r x xs H Q->
  wpAny Ē X.A c0p ĸ X.xe s
variable {a b:Expr}
def VO.or (h:VO X r)(h':VO X r'):VO X b2b:=by
 intro value slice ñ s σ H x y v u Q I rx ry q hs;ext d7N
 ·show h value slice ñ s σ H x y v u Q I rx ry q hs
 ·show h' value slice ñ s σ H x y v u Q I rx ry q hs
def YZ {tb:TE}(hr:VO X r)(c67)(hs:UnR b):e6n nI:=by ext d2p;show Subscript_ (a1F ha hb I h λv u s2 x y H2 I2 rx ry q=>hr a b ñ s2 σ H2 x y v u Q I2 rx ry q<|hs _ _)
inductive D0 (K:Ψ)(c7i):∀ p xs i v,x=.ref p->y=.int i->LO K H p xs->R8 xs i=!v->Q v H
inductive CZ (K:Ψ)(c7i):∀ p xs i v,x=.ref p->y=.int i->Nu K H p xs->R8 xs i=!v->Q v H
def c4e:VO X (D0 X.K):=by
 ext d57
 ext d5N;ext d6A;ext d2M
 by_cases h0:0<=i
 ·let hj:i.toNat=j:=by
   rw[e5C h5]at h1
   cbv
  show item_listR pl.isList h0 #[0] (by rw[hj];simpa using ew) fin hs
 ·let hj:(i+c0q).toNat=j:=by
   rw[seqIndex_neg #[0] h4]at h1
   cbv
  show subscriptTail_builtinR pl.isList.typeIs slot_list_getitem.lookup
   (wpAny_getItem_list_neg pl.isList #[0] ĝ #[0] (by rw[hj];simpa using ew) #[1,fin]) hs
def b0J:VO X (CZ X.K):=by
 ext d57
 ext d5N;ext d59;ext d2M
 show subscriptTail_builtinR pl.typeIs slot_tuple_getitem.lookup
  (getItem_tuple (j:=j) pl #[] #[] ĝ (by simpa using ew) #[1,fin]) hs
def yZ (its:θ)(n j:Nat)(u):Obj.mapSeq (·.setIfInBounds j u) { cls:=.type "list",data:=e0z n }={ cls:=.type "list",data:=.seq (its.set j u).toArray n }:=by simp[Obj.mapSeq]
def Inv.lst (I)(h:H p=!.lst xs):
  ∃ (its:θ)(n:Nat),e0v its/\s.heap.get? p=!{ cls:=.type "list",data:=e0z n }/\xs.length<=sizeLine:=by
 let#[Fj,e]:=I.LJ p _ h;show#[its,n,r,e,z]
def Inv.a0H {its:θ}(I)(h:H p=!.lst xs)(ho:s.heap.get? p=!{ cls:=.type "list",data:=e0z n })(hf:f { cls:=.type "list",data:=e0z n }={ cls:=.type "list",data:=e9D n' })(r:e6h its')(c9w)(t:Nat):
  Inv X ñ σ (d8X p DA) { s with heap:=f0J f,toks:=t }:=by
 let e:(f0J f).get? p=!{ cls:=.type "list",data:=e9D n' }:=by rw[JW f ho (by rw[hf] <;> rfl),hf]
 show I.write (by rw[h];trivial) Ķ (λb u hb q=>(Jd ĉ<|Ne.symm hb).trans q) #[_,e] ?_;show#[hz,its',n',r,e]
inductive CW (o:V)(i:V)(v:V)(H:Hp)(Q:Ù):∀ p xs k j,o=.ref p->i=.int k->H p=!.lst xs->Wn xs.length k=!j->Q (d9Q p (xs.set j v))
def b6E:a5C X CW:=by
 intro ñ s σ H o i v ov iv u Q I ro ri rv h;let#[p,xs,k,j,2,hp,hj,q]:=h
 cases ro;let#[t,1]:=ri;let#[its,n,r,ho,hz]:=I.lst hp;let#[wG]:=a3A hj;let hl:=r.length;let hn:=oE;let I':=
  I.a0H hp ho (yZ its n j u) (r.set rv j) ĝ s.toks
 by_cases h0:0<=k
 ·let hk:k.toNat=j:=by
   rw[e5C h4]at h1
   cbv
  show W.ki_setAt ho h0 #[0] ĝ (by rw[hk];show#[_,I',q])
 ·let hk:(k+c0q).toNat=j:=by
   rw[seqIndex_neg #[0] h3]at h1
   cbv
  show W.ki_setBack ho #[0] ĝ #[0] (by rw[hk];show#[_,I',q])
def a0A (d0O)(n):(e2V n).1=((HT.Ta n 0 lo:Nat):Int)/\(e2V n).2.1=((HT.Ta n n hi:Nat):Int)/\(e2V n).2.2=1:=by
 show#[qm,1]
 ·cases lo with
  | none=>simp[sliceBounds,HT.Ta]
  | some i=>
   ext d3W
   ·simp only[h] <;> lia
   ·simp only[h] <;> lia
 ·cases hi with
  | none=>simp[sliceBounds,HT.Ta]
  | some i=>
   ext d3W
   ·simp only[h,if_true] <;> lia
   ·simp only[h,Ju] <;> lia
def a2w (its:θ)(d0O):slicePick its.toArray lo hi none=((its.drop (HT.Ta its.length 0 lo)).take (d8M its.length)).toArray:=by let#[ic]:=a0A lo hi its.toArray.size;ext1 slicePick;rw[h1,h2,h3];simp only[sliceRange_one,pick_run] <;> rfl
inductive a3r (c9X):∀ a xs,x=.ref a->LO K H a xs->(∀ p,H p=none->Q wQ (d8X p b83))
def c1Z:fC X (a3r X.K):=by
 intro ñ s σ H x v vl vu lo hi sl Q I rx hs pl pu h;let#[a,xs,1,hx,q]:=h
 cases rx;let#[its,r,ht,hz]:=I.list hx;let hlen:=r.length;show#["list",_,slot_list_getitem.lookup,ht.isList.typeIs,?_];show wpAny_getItem_list_slice ht.isList hs pl pu .none Ė ?_ ĝ;rw[a2w,<- hlen];show#[.ref s.heap.objs.size,_,I.laid (λb ob q=>Ha _ q) kJ ?_,1,q _<|I.LJ.fresh kJ];show#[HH (xN xs lo hi) hz,_,(0),(r.drop _).take _,HG _ rfl]
theorem eJ:V->Bool
 | .non=>true
 | .bl _=>true
 | .int _=>true
 | .str _=>true
 | _=>false
theorem Yn:V->V->Bool
 | .non,.non=>true
 | .bl a,.bl b=>a==b
 | .bl a,.int b=>(if a then 1 else 0)==b
 | .int a,.bl b=>a==(if b then 1 else 0)
 | .int a,.int b=>a==b
 | .str a,.str b=>a==b
 | _,_=>false
def a5F (ry)(rx:e2m v)(fy:eJ y=true)(fx):e0K u v (Yn y x):=by
 cases y with
 | non=>
  cases ry
  cases x with
  | non=>cases rx;ext d4o
  | bl b=>cases rx;show SeqAt.EqAt.none_bool b
  | int b=>ext d29;show SeqAt.EqAt.none_int b t
  | str b=>ext d29;show SeqAt.EqAt.none_str b t
  | _=>ext d44
 | bl a=>
  cases ry
  cases x with
  | non=>cases rx;show SeqAt.EqAt.bool_none a
  | bl b=>cases rx;show SeqAt.EqAt.bool_bool a b
  | int b=>ext d29;show SeqAt.EqAt.bool_int a b t
  | str b=>ext d29;show SeqAt.EqAt.bool_str a b t
  | _=>ext d44
 | int a=>
  let#[t',1]:=ry
  cases x with
  | non=>cases rx;show SeqAt.EqAt.int_none a t'
  | bl b=>cases rx;show SeqAt.EqAt.int_bool a t' b
  | int b=>ext d29;show SeqAt.EqAt.int_int a t' b t
  | str b=>ext d29;show SeqAt.EqAt.int_str a t' b t
  | _=>ext d44
 | str a=>
  let#[t',1]:=ry
  cases x with
  | non=>cases rx;show SeqAt.EqAt.str_none a t'
  | bl b=>cases rx;show SeqAt.EqAt.str_bool a t' b
  | int b=>ext d29;show SeqAt.EqAt.str_int a t' b t
  | str b=>ext d29;show SeqAt.EqAt.str_str a t' b t
  | _=>ext d44
 | _=>show absurd (fy) Ie
theorem Vk (x:V)(u):Bool:=match u with
 | .none=>Yn .non x
 | .bool b=>Yn AN x
 | .int i _=>Yn yq x
 | .str z _=>Yn AD x
 | _=>false
def c5C (r:e5P u)(f:eJ y=true):Vk x u=Yn y x:=by
 cases y with
 | non=>ext d73
 | bl b=>ext d73
 | int i=>ext d3i
 | str z=>ext d3i
 | _=>show absurd (f) Ie
def b9T:∀ {xs:π}{us:θ},e0v us->xs.all eJ=true->us.any P3=xs.any λy=>Yn y x:=by
 intro xs us h
 induction h with
 | nil=>intro _;rfl
 | cons r t ih=>
  intro f;rw[List.all_cons,IL]at f;rw[KI,KI,c5C r f.1,ih f.2]
def a05 (rx:e2m v)(fx):∀ {xs:π}{us:θ},e0v us->xs.all eJ=true->∀ u∈us,e0K u v (Vk x u):=by
 intro xs us h
 induction h with
 | nil=>intro _ u hu;cases hu
 | cons r t ih=>
  intro f u' hu;rw[List.all_cons,IL]at f;rcases Hs.mp hu with rfl|hu
  ·rw[c5C r f.1];show a5F r rx f.1 fx
  ·show ih f.2 u' hu
theorem XC (x:V)(xs:π):Bool:=xs.any λy=>Yn y x
inductive rIn (K:Ψ)(neg:Bool)(c7i):∀ p xs,y=.ref p->(LO K H p xs \/ Nu K H p xs)->eJ x=true->xs.all eJ=true->(Q (.bl (if neg then not (XC x xs) else XC x xs)) H)
def b0l:NH X B8 (rIn X.K false):=by
 ext d6l
 cases ry;ext d4P
 ·ext d6A;show SeqAt.in_listAt _ pl.isList ŗ lO;ext d3U
 ·ext d59;show SeqAt.in_tupleAt _ pl ŗ lO;ext d3M
def a1x:NH X c0s (rIn X.K true):=by
 ext d6l
 cases ry;ext d4P
 ·ext d6A;show SeqAt.notIn_listAt _ pl.isList ŗ lO;ext d3U
 ·ext d59;show SeqAt.notIn_tupleAt _ pl ŗ lO;ext d3M
def a9J:e6o (λe1r=>∃ p ys,xs=uZ/\(e5R ys\/Nu X.K H p ys)/\Q qK H):=by
 ext d50
 cases rx;let hn:=oE;ext d4P
 ·ext d7v;show Calls.call_len_list pl.isList (by simp only[HU] <;> lia) a6c
 ·ext d7g;show len_tuple pl (by simp only[HU] <;> lia) a6c
def a70:e6o (λe1r=>∃ z,xs=[.str z]/\z.length<=sizeLine/\Q (.int z.length) H):=by ext d2r;let#[z,1,hz,q]:=h;let#[u,1,t,1]:=dh r;let hn:=oE;show len_str #[] #[.int z.length,CM,q]
def Md.or (h:f0K r)(h':f0K r'):f0K (λe1r=>r xs H Q\/r' xs H Q):=by
 intro ñ s σ H xs us Q I rs q;ext d7N
 ·show h ñ s σ H xs us Q I rs q
 ·show h' ñ s σ H xs us Q I rs q
def b6t:e8m (λe1r=>∃ p ys,xs=uZ/\(e5R ys\/Nu X.K H p ys)/\∀ l,H l=none->Q kC wU):=by
 ext d50
 cases rx;let fin:∀ (its:θ),e6h its->ys.length<=sizeLine->∀ (h':Heap)(c':Nat),_->
   h'.get? s.heap.objs.size=!{ cls:=.type "list",dict:=none,data:=e0z c',slots:=[].toArray }->e4j _ { s with heap:=h' }:=λits r' hz h' c' kp e=>
  #[.ref s.heap.objs.size,_,I.laid kp kJ<|show LP X.prog X.w _ h' _ DA from #[hz,its,c',r',e],1,q _<|I.LJ.fresh kJ]
 ext d4P
 ·ext d7v;let#[o,sr]:=pl.isList;show call_list_seq p Ķ ho hc hd b0t ĝ
 ·ext d7g;let#[o,sr]:=pl;show call_list_seq p (.inr rfl) ho hc hd b0t ĝ
theorem tyV (K)(T:String)(x:V)(H):Prop:=match x with
 | .str _=>T="str"
 | .int _=>T="int"
 | .ref p=>(T="list"/\∃ xs,e86 xs)\/(T="tuple"/\∃ o,K.lookup p=!o/\o.cls=.type "tuple"/\o.dict=none) \/
   (T="dict"/\((∃ ķ,H p=!.dK ķ)\/∃ ķ,H p=!.dT ķ))\/(T="set"/\∃ S n,H p=!.set S n)
 | _=>False
def a1b (I)(r:e2m v)(ty:tyV X.K T x H):
  s.TypeIs v T/\∀ a,v=.ref a->∃ ob,s.heap.get? a=!ob/\ob.dict=none:=by
 cases x with
 | str z=>
  let#[t,1]:=r
  cases (ty);show#[typeIs_str s z t,λ_ e=>nomatch e]
 | int i=>
  let#[t,1]:=r
  cases (ty);show#[typeIs_int s i t,λ_ e=>nomatch e]
 | ref p=>
  cases r;rcases ty with⟨rfl,xs,hq⟩|⟨rfl,o,hk,hc,hd⟩|⟨rfl,hk⟩|⟨rfl,S,n,hk⟩
  ·let#[its,_,pl,_]:=I.list hq;show#[pl.isList.typeIs,λa e=>?_]
   cases e;let#[o,n,e,c,hd,_]:=pl;show#[o,e,hd]
  ·show#[#[o,I.Ow p o hk,hc],λa e=>?_]
   cases e;show#[o,I.Ow _ o hk,hd]
  ·let z:∃ o,s.heap.get? p=!o/\o.ExactDict:=by
    rcases hk with⟨ķ,hk⟩|⟨ķ,hk⟩
    ·ext d4B
    ·ext d4B
   let#[o,e,ex]:=z;show#[c6k]
   ext d78
  ·let#[o,CD,e,ex,_]:=I.LJ p _ hk;show#[c6k]
   ext d78
 | _=>show False.elim ty
theorem ZN (d10):TE:=λd95=>to σ H λe3X=>tyV K T x H1/\r x [] H1 Q
theorem tBM (d10)(t:TA):TE:=λd95=>to σ H λe3X=>tyV K T x H1/\t σ H1 λxs H2=>r x xs H2 Q
example{id:String}:=0
def a0o (c7v)(Pg)(QB):PE X b84 (ZN X.K T r to):=by ext d2p;show wpAny_Call_method0_late Pg QB b7w;ext d4L;show#[T,id,pa,slot,Yb,h1,h2,Kx rfl<|PySem.evalArgs_none (hm ñ s1 σ H1 x [] v [] Q I1 r1 .nil q1)]
def a3D (c7v)(ha)(Pg)(a06:((f0L ő).all i0&&(backToKw MA Į).all oW
   && decide b9Q)=true:=ă)(c89):
  PE X b74 (tBM X.K T r to t):=by
 ext d2p;show wpAny_Call_method_late Pg a06 QB rfl b7w;ext d4L;show#[T,id,pa,slot,Yb,mh,?_];let hA:=ha MA ñ s1 σ H1 _ I1 q1;rw[hs]at hA ⊢;show Kx (by change (false || (f0L _).any _)=false;rw[ON] <;> rfl) (Calls.evalArgs_plain ?_);show LW hA λus f2l=>by let#[vs,vO]:=gR;show hm ñ s2 σ H2 x vs v us Q I2 r1 r2 q2
open e
theorem DU (X)(id:String)(r):Prop:=
 ∀ (ñ:ζ)(s:Ê)(σ:St)(H:Hp)(x:V)(xs:π)(v:Value)(us:θ)(Q:VK),d9Z H s->e2m v->e0v us->r x xs H Q->
  wpAny Ē X.A c0p ĸ X.xe s
def sY.one:∀ {x:V}{us:θ},sY [x] us->∃ u,us=[u]/\rp x u:=by
 intro x us h
 cases h with|cons r t=>cases t;show#[_,1,r]
def sY.zero:∀ {us:θ},sY [] us->us=[]
 | _,.nil=>rfl
def sY.dropLast (h:e0v us):sY xs.dropLast us.dropLast:=by
 induction h with
 | nil=>show .nil
 | cons r t ih=>
  cases t with
  | nil=>show .nil
  | cons q t'=>show .cons r ih
def sY.eraseIdx:∀ {xs:π}{us:θ} (i:Nat),e0v us->sY (xs.eraseIdx i) (us.eraseIdx i)
 | _,_,_,.nil=>.nil
 | _,_,0,f0z t=>t
 | _,_,i+1,e8e t=>e8e (sY.eraseIdx i t)
def sY.rep (h:e0v us):∀ k:Nat,sY (e05 xs).flatten (e05 us).flatten:=by
 intro r'
 induction r' with
 | zero=>
  show .nil
 | succ k ih'=>
  rw[Ki,Ki,Lc,Lc];show sY.append h (ih')
def a1n (d0c):l.eraseIdx (l.length - 1)=l.dropLast:=by grind
def lg:∀ (l:List α)(i:Nat),(l.eraseIdx i).length<=l.length
 | [],_=>Hl _
 | _::_,0=>KK _
 | _::r,i+1=>Nat.succ_le_succ (lg r i)
def b7n (its:θ):∀ (k:Nat)(acc:θ),
  List.foldl EC acc.toArray (e05 its.toArray)=(acc++(e05 its).flatten).toArray
 | 0,acc=>by simp
 | k+1,acc=>by simp[List.replicate,b7n,Ki,IG]
def Inv.Y6 {its:θ}(I)(hH:H l=!.lst xs)(e:s.heap.get? l=!{ cls:=.type "list",data:=e0z n })(hf:f its.toArray=its'.toArray)(hv:e6h its')(c9w):
  Inv X ñ σ wU { s with heap:=s.heap.update l (Obj.mapSeq f),toks:=t' }:=by
 let q:=PySem.IsL.update e f;rw[hf]at q;show I.write (by rw[hH];show trivial) Ķ (λb' u hb hu=>(Jd s.heap _<|Ne.symm hb).trans hu) #[_,q] ?_;show#[hz,its',_,hv,q]
def Inv.a0I (I)(hv:e6h its)(c9w):
  Inv X ñ σ (d8X s.heap.objs.size DA) { s with heap:=s.heap.push { cls:=.type "list",data:=.seq its.toArray },toks:=t' }:=
 I.laid B7 kJ #[hz,its,(0),hv,HG _ rfl]
def Inv.fresh (I):H s.heap.objs.size=none:=I.LJ.fresh kJ
def Inv.UE (I)(hH:H l=!.lst xs):xs.length<=sizeLine/\∃ (its:θ)(n:Nat),e0v its/\xs.length=its.length/\s.heap.get? l=!{ cls:=.type "list",data:=e0z n }:=by let#[Fj,e]:=I.LJ l _ hH;show#[Fj,r.length,e]
def b1A (h:n<=sizeLine):Builtin.List.listTooLong n=false:=by ext d6L
inductive c0Q (x:V)(c64):∀ l xs y,x=.ref l->vs=[y]->H l=!.lst xs->xs.length<sizeLine->Q .non (d9Q l (xs++[y]))
def aB:DU X "list.append" c0Q:=by
 ext d2W;let#[l,xs,y,2,hH,hz,q]:=h
 ext d4t;ext d4u;show KC F.slot_list_append x6 F.entry_list_append (F.args_list_append_2 ĉ) (PySem.list_append l its.toArray n u<|by cbv) pi;show#[.non,_,I.Y6 hH e Ė (r.append<|.cons ru .nil) ?_,1,q];rw[Hn,Ih];omega
inductive ZZ (x:V)(c64):∀ l xs y,x=.ref l->vs=[]->H l=!.lst xs->xs[xs.length - 1]?=!y->Q y (d9Q l xs.dropLast)
def a0E:DU X "list.pop" ZZ:=by
 ext d2W;let#[l,xs,y,2,hH,hy,q]:=h
 cases rx;let hus:=rv.zero;subst hus;ext d4u;let#[u,hu,ru]:=r.get hy;let hy':its.toArray[its.toArray.size - 1]?=!u:=by
  cbv
 show KC F.slot_list_pop x6 F.entry_list_pop (F.args_list_pop_1 _) (MeetsSeq.list_pop_last l its.toArray n u hy'<|by cbv) pi;show#[y,_,I.Y6 hH e ?_ r.dropLast ?_,ru,q]
 ·cbv
 ·rw[List.length_dropLast]
  lia
inductive a50 (x:V)(c64):∀ l xs i k y,x=.ref l->vs=ji->H l=!.lst xs->-(2 ^ 63)<=i->i<2 ^ 63->seqIndex? i xs.length=!k->xs[k]?=!y->Q y (d9Q l (xs.eraseIdx k))
def b02:DU X "list.pop" a50:=by
 ext d2W;let#[l,xs,i,k,y,2,hH,mh,hk,hy,q]:=h
 ext d4t;let#[t,1]:=ru;ext d4u;let#[w,hw,Tx]:=r.get hy;show KC F.slot_list_pop x6 F.entry_list_pop (F.args_list_pop_2 ĉ)
  (MeetsSeq.list_pop_at l its.toArray n i t k w (e9E h2) ĝ ĝ<|by cbv) pi
 show#[y,_,I.Y6 hH e ?_ (r.eraseIdx k) ?_,Tx,q]
 ·cbv
 ·let:=lg xs k
  lia
inductive a3w (c7i):∀ l b xs zs,x=.ref l->y=.ref b->H l=!.lst xs->H b=!.lst zs->xs.length+zs.length<=sizeLine->(∀ p,H p=none->Q wQ (d9Q p (xs++zs)))
def a0s:NH X lC a3w:=by
 ext d2s;let#[l,b,xs,zs,2,hH,hB,hz,q]:=h
 cases rx
 cases ry;ext d4u;let#[z2,MJ,n2,r2,U2,e2]:=I.UE hB;show PySem.P.add_list e e2 ?_ wc;let ea:its.toArray++MJ.toArray=(its++MJ).toArray:=by simp
 rw[ea];show#[.ref _,_,I.a0I (r.append r2)<|by cbv,1,q _ I.fresh]
inductive ZY (c7i):∀ l k xs,x=.ref l->y=.int k->H l=!.lst xs->-(2 ^ 63)<=k->k<2 ^ 63->xs.length * k.toNat<=sizeLine->(∀ p,H p=none->Q wQ (d8X p (.lst (List.replicate k.toNat xs).flatten)))
def c0a (xs)(k:Nat):(e05 xs).flatten.length=k * xs.length:=by cbv
def c5J:NH X c2c ZY:=by
 ext d2s;let#[l,k,xs,2,hH,mh,hz,q]:=h
 ext d5N;ext d4u;let hlen:its.toArray.size * k.toNat<=sizeLine:=by cbv
 let a9s:¬ its.toArray.size * k.toNat > (2 ^ 63 - 1) / 8:=by
  let:(sizeLine:Nat)<=(2 ^ 63 - 1) / 8:=by decide
  lia
 let a9c:¬ (not (Builtin.List.listFitsIndex k))=true:=by rw[e9E h2];show Ie
 let a4H:¬ Builtin.List.listTooLong (its.toArray.size * k.toNat)=true:=by
  rw[b1A hlen]
  cbv
 let Og:List.foldl EC [].toArray (List.replicate (if its.toArray.isEmpty=true then 0 else k.toNat) its.toArray)=(List.replicate k.toNat its).flatten.toArray:=by
  let f0:∀ m:Nat,List.foldl EC [].toArray (f0b its.toArray)=(f0b its).flatten.toArray:=λm=>by simp[b7n,IF]
  rw[f0]
  cases its with
  | nil=>simp
  | cons a r'=>rw[if_neg<|by simp]
 show wpAny_binaryOp_repeat_ref Ĺ x6 (λs'=>typeIs_int s' k t) noFill_list_mul F.fills_int_mul F.slot_int_rmul repeat_list F.slot_int_index.lookup
  (KC F.slot_int_rmul (typeIs_int s k t) F.entry_int_rmul (F.args_int_rmul_2 ĉ) (int___rmul___int_list k t l its.toArray n)
   #[e,1,x6,KC F.slot_list_mul x6 F.entry_list_mul (F.args_list_mul_2 ĉ) (AutoListH.list___mul___list_int_3 l its.toArray n k t a9c a9s a4H) pi])
 rw[Og];show#[.ref _,_,I.a0I (r.rep k.toNat) (by rw[c0a,Nat.mul_comm];show hz),1,q _ I.fresh]
universe L2
namespace Att
open PySem PySem.W PySem.Calls PyProof.Rows
abbrev _root_.Ξ:=List Int
def Mut:∀ (ns:Ξ)(vs:θ),WellAll P h vs c0t->e5S ns:=by
 intro ns
 induction ns with
 | nil=>
  intro vs w
  cases w;show .nil
 | cons n ns ih=>
  intro vs w
  cases w with
  | cons a b=>
   cases a;show .cons ĉ (ih _ b)
def c3Q (d1w)(Yd:l.row.toRowW.claim.pre args=true)(hwl:WellAll P h vals args):
  ∃ a vs ns,vals=[Value.ref a]/\args=[WData.list c0t]/\h.get? a=!{ cls:=.type "list",data:=.seq vs.toArray }/\IntsAre vs ns/\ns.length<=n:=by
 let hsh:=(pre_splitW Yd).1;let hc:l.pre.holds [] { args:=args }=true:=(pre_splitW Yd).2;let#[d,r,1,mh]:=hasAllW_cons hsh;obtain rfl:=hasAllW_nil h2;let#[xs,1,h3]:=hasW_list h1;let#[ns,1]:=items_int h3;let hlen:ns.length<=n:=by
  let h4:(WTm.not<|.lt (.lit<|.int (n)) (.len<|.arg 0)).holds [] { args:=[.list<|ns.map .int] }=true:=by let h4:=(holds_andW hc).1;rw[hn]at h4;show h4
  let h5:=condW_of h4 (w_not<|w_lt w_lit (w_len_list<|w_arg rfl))
  cbv
 cases hwl with
 | cons w1 w2=>
  cases w2
  cases w1 with
  | list ho U7=>show#[_,_,ns,2,ho,Mut ns _ U7,hlen]
def a1H (l:OpenLaw)(args:List WData):l.row.toRowW.claim.post args (.bool true) args=true:=
 postW_of
  (show WShape.has [] _ .bool=true by first|rfl|decide|simp)
  (w_eq_bool (w_res rfl) w_lit) rfl
def UQ (d1w)(hdf)(call:∀ (w:World)(s₀ s₁:Ê)(mg mb:Ω)(fa:Addr)(o:Obj)(pm cd doc:Value)(a:Addr)(vs:θ)(ns:Ξ),
   Ground q loose [] XP w s₀ mg mb s₁.heap->YP w s₁.heap->
   s₁.heap.get? fa=!o->o.data=.func (docDef d.name d.params d.body d.scope pm cd doc)->s₁.heap.CodeRec cd d.name->mg d.name=!.ref fa->
   s₁.heap.get? a=!{ cls:=.type "list",data:=.seq vs.toArray }->e5S ns->ns.length<=n->s₁.gens=[].toArray->
   codeAny (model l.prog w) callerA Ax b4Y s₁):
  WalkO q loose XP YP l.row.toRowW d [] cX:=by
 intro w s₀ s₁ mg mb G Y fa o pm cd doc dV kV ho hd RL hD hmg hg args vals as Yd b4U hrd hwl hlo;obtain rfl:dV=.none:=Dflts.none hD hdf;obtain rfl:kV=.none:=Dflts.noKw hD;let#[a,vs,ns,2,a00,hints,hlen]:=c3Q hn Yd hwl;show enter_call (K8 (call w s₀ s₁ mg mb fa o pm cd doc a vs ns G Y ho (fd_plain hd) RL hmg a00 hints hlen hg) λr s' hq=>?_);let#[1,Fd,h4]:=hq;show#[.inl #[.bool true,.bool true,[],1,λ_=>rfl,.bool true,a1H l _,λ_=>#[List.Pairwise.nil,λ_ hm=>nomatch hm]],Fd,h4]
universe Att
namespace L2
open PySem PySem.Spec PyProof.Rows
def c3z:∀ {vs:θ}{ns:Ξ},e5S ns->sY Ł vs:=by
 intro vs ns h
 induction h with
 | nil=>show .nil
 | cons n t _ ih=>show .cons #[t,1] ih
theorem ao (s:Stmt)(j):Stmt:=match s with
 | .ClassDef _ _ _ body _ _ _ _ _ _ _=>body.getD j b75
 | _=>.Pass ⟨0,0,0,0⟩
theorem aN (s:Stmt):Arguments:=match s with
 | .FunctionDef _ a _ _ _ _ _ _ _ _=>a
 | _=>{ posonlyargs:=[],args:=[],vararg:=none,kwonlyargs:=[],kw_defaults:=[],kwarg:=none,defaults:=[] }
theorem ay (s:Stmt):Í:=match s with
 | .FunctionDef _ _ b _ _ _ _ _ _ _=>b
 | _=>[]
theorem aa (s:Stmt):Scope:=match s with
 | .FunctionDef _ _ _ _ _ _ sc _ _ _=>sc
 | _=>{ kind:=.function,names:=[],isGenerator:=false,isCoroutine:=false }
abbrev MY:Vu:=λe0i _=>False
abbrev E0:XK:=λd97=>False
def nM:c5z MY X E0:=λd9X e0N=>h.elim
abbrev _root_.ω:=Array Î
abbrev _root_.ψ:=Option Addr
structure OR (c9N):Prop where
 ex:∃ (oc:Value)(od:ψ)(kV doc pm:Value)(an:ψ)(Lr ct:Value)(Nq:ω),
  fd=W.fnOf x ğ vW CQ Uz .none kV doc pm an Lr ct/\K.lookup f=some ⟨oc,od,.func fd,Nq⟩/\W.codeIn K Lr ğ=true
 kp:W.keepIn K Fr=true
variable {K:Ψ}
def OR.ok (c8u)(len)(O4:∀ (Lr:Value)(A:Ë)(outer:List Env)(s:Ê)(H:Hp)(vs:π)(Q:VK)(E:XK),LM k ĕ->e1d E->
   ∃ t,Q1 (e0E E).Ur CQ t/\t { nx:=λ_ H'=>e2P H',rt:=Q } ů H):e0b sp:=by
 ext d6P;ext d2O
def OR.binds (c9Y)(c7m)(h:∀ (kV doc pm:Value)(an:ψ)(Lr ct:Value)(us:θ),us.length=ps.length->bindArgs Ģ M1=pure Id):YX K fd ps []:=by ext d6P;show .all (h kV doc pm an Lr ct)
def oS (d11)(d0S):OR K x ğ st f Ģ:=#[#[oc,od,og,Nq,1,l,c],k]
open e
def aM (hr:LM k A):A.units+1<cLine:=JL (Nat.add_le_add_left (by decide:1<=64) _) hr.units
def pv (c8R):e8g s0:=a0m hN hv hd RL
def zh {A:Prop}(h:B):if false=true then A else B:=by rw[if_neg Ie];show h
def Gm {A:Prop}(h:A):if true=true then A else B:=by ext d54;show h
def qf {A:Prop}[Decidable c](h1:c->A)(h2:¬ c->B):if c then A else B:=by cbv
def a39 {A:Prop}[Decidable c](hc:c)(h:B):if (not (decide c))=true then A else B:=by rw[Hf hc];show zh h
theorem f' (H H':Hp):Prop:=∀ b o,H b=!o->H' b=!o
def f'.refl (H):f' H H:=λ_ _ h=>h
def f'.trans (a:f' H H1)(b:f' H1 H2):f' H H2:=λc o h=>b c o (a c o h)
def f'.free (e)(h:H' l=Option.none):H l=Option.none:=by
 cases q:H l with
 | none=>rfl
 | some o=>
  rw[e l o q]at h
  cases h
def f'.seq {K:Ψ}(e)(h:e02 xs):LO K H' a xs:=by
 rcases h with (h|⟨o,h⟩)|h
 ·show .inl (.inl<|e _ _ h)
 ·show .inl (.inr #[o,e ĉ h])
 ·show .inr h
universe L2
namespace K72
open PySem L2
abbrev _root_.Ý:List Str:=["self","name"]
abbrev _root_.Þ:List Str:=["self"]
abbrev _root_.à:List Str:=[c6J]
abbrev _root_.á:List Str:=[uG,"fallen"]
abbrev _root_.â:List Str:=["field","table","many"]
abbrev _root_.ã:List Str:=["self","one","other"]
abbrev _root_.ä:List Str:=[c5m]
abbrev _root_.å:List Str:=["self","fallen","name","numbers"]
abbrev _root_.æ:List Str:=["self","number"]
abbrev _root_.è:List Str:=["net","plan","message","prime","fallen"]
abbrev _root_.é:List Str:=[c5S,"_law_plan","_law_turn",c5A]
abbrev _root_.ë:List Str:=[uG,"messages"]
abbrev _root_.ì:List Str:=["_law_ties","_law_plan",c51,c5A]
abbrev _root_.í:List Str:=["self","prime"]
abbrev _root_.î:List Str:=[Zr,"chosen"]
abbrev _root_.ï:List Str:=["net","listener","many","fallen"]
abbrev _root_.ò:List Str:=[c5n,"plan","message","fallen"]
abbrev _root_.ó:List Str:=[Zr,nj]
abbrev _root_.ô:List Str:=["self",DX]
abbrev _root_.õ:List Str:=[Zr,c4h]
abbrev _root_.ø:List Str:=["_law_script","_law_k"]
abbrev _root_.ù:List Str:=["field","one","other"]
abbrev _root_.ú:List Str:=["self","rows","many"]
abbrev _root_.û:List Str:=["net","falls"]
abbrev _root_.ü:List Str:=["self","post"]
abbrev _root_.ý:List Str:=[c5H]
abbrev _root_.þ:List Str:=["number"]
abbrev _root_.ÿ:List Str:=["self","needed"]
abbrev _root_.Ā:List Str:=["_law_cell","_law_many"]
abbrev _root_.ā:List Str:=["many","own"]
def au {D:Ends}(h:∀ P:Υ,(∀ σ' H',u D σ' H'->P σ' H')->t { D with nx:=P } σ H):a2Y t u D σ H:=h (u D) λ_ _=>id
universe K72
namespace L2
open PySem PySem.Spec PyProof.Rows
theorem Itz (K)(a b:Addr):It:=
 ⟨λi H=>∃ xs ys x y,e02 xs/\LO K H b ys/\xs[i]?=!x/\ys[i]?=!y,
  λi H v H'=>∃ T,H T=none/\v=.ref T/\∃ x y,b27/\(∀ ys,LO K H b ys->ys[i]?=!y)/\H'=upd H T (.tup [x,y]),
  λi H=>∃ xs ys,e02 xs/\LO K H b ys/\(xs.length<=i\/ys.length<=i)⟩
def Inv.RG {ch:υ}(I)(hf:∀ b∈ch,e2A H b)(k:∀ b o,b∉ch->s.heap.get? b=!o->h'.get? b=!o):d9Z H { s with heap:=h',toks:=t' }:=by
 show I.step (λe2h=>#[(hf b hb).2.2.2.1,(hf b hb).2.1,(hf b hb).2.2.2.2.1,(hf b hb).2.2.2.2.2]) (λe3G _=>k b o hc e) (λe3G _=>#[o.slots,k b o hc e]) (λd9X n=>n)
  (λb o hc e=>#[o,k b o hc e]) (λ_ _ e=>e) (λd97 e=>e) b0I (λm hm=>?_) (λe5t=>?_) I.bare
 ·let#[uD]:=hm;show#[lH,k _ o (λz=>(hf _ z).2.1 rfl) ho,r]
 ·show (e80 u e).MR (λc v hc q=>k c v CY q) yY λf2k=>q;let n:=(hf c z).1
  grind
def Inv.Wz (I)(hf:e2A H T)(hs:X.s₀.heap.objs.size<=T)(new:e2z (d8X T o) s.heap T o):d9Z (d8X T o) s:=by
 let hn:=hf.1;let:=I.step (H':=upd H T o) (d':=s.drawn) (t':=s.toks) (ch:=[T]) (λe2h=>by
   let e:b=T:=by simpa using hb
   subst e;show#[.inr hs,hf.2.1,hf.2.2.2.2.1,hf.2.2.2.2.2]) (λb o d97 e _=>e) (λb o d97 e _=>#[o.slots,e]) (λe5M _ n=>by rw[a9<|by simpa using hb];show n)
  (λb o _ e=>#[o,e]) (λb xs e=>by rw[a9<|ak e hn];show e) (λb ob xs e=>by rw[a9<|ak e hn];show e) (λb ps e=>#[[].toArray,by rw[a9<|ak e hn,e];simp]) (λm hm=>hm)
  (λe5t=>by
   by_cases hb:b=T
   ·grind [af]
   ·rw[a9 hb]at e;show (e80 u e).MR (λc v _ q=>q) (λc q=>by rw[a9<|ak q hn];show q) λc xs q=>by rw[a9<|ak q hn];show q) I.bare
 show this
def di (d0a)(hf:e2A H b):a≠b:=by
 rintro rfl;rcases h with (h|⟨o,h⟩)|⟨o,its,n,hk,_⟩
 ·rw[hf.1]at h;cases h
 ·rw[hf.1]at h;cases h
 ·let e:=I.ok.mod.Y8 a o hk;rcases hf.2.2.2.1 with z|z
  ·show I.ok.UB a o e z
  ·show absurd (HS oj<|e5O z) A3
theorem a2Q (z TI TO i1 i2 a b:Addr)(i)(c8Q):Prop:=IsZip h z TI TO .none/\IsPair h TI (d9c i1) (d9c i2)/\(∃ u v,IsPair h TO u v)/\h.IsListIter i1 a i/\h.IsListIter i2 b i
structure a5v (z TI TO i1 i2:Addr):Prop where
 TIz:TI≠z
 TOz:TO≠z
 i1z:i1≠z
 i2z:i2≠z
 TITO:TI≠TO
 TIi1:TI≠i1
 TIi2:TI≠i2
 TOi1:TO≠i1
 TOi2:TO≠i2
 i12:i1≠i2
def a8k (d05)(a b z TI TO i1 i2:Addr)(D:a5v z TI TO i1 i2):
  a7A P w K ŭ (f0M b) [c6K] z (a2Q z TI TO i1 i2 a b) where
 mem:=by simp
 obj:=λi h st c hc=>by
  let#[mh,#[u,v,h3],#[o4,e4,c4,d4],#[o5,e5,c5,d5]]:=st;ext d3l;ext d6m
  ·show#[c6l]
  ·show#[_,h2,λv z=>by cases z]
  ·show#[_,h3,λv z=>by cases z]
  ·show#[_,e4,λv z=>by rw[d4]at z;cases z]
  ·show#[_,e5,λv z=>by rw[d5]at z;cases z]
 keep:=λe1L=>by let#[c4I]:=st;show#[k z Ė _ h1,k TI Ė _ h2,#[u,v,k TO Ė _ h3],h4.at λo e=>k i1 Ė o e,h5.at λo e=>k i2 Ė o e]
 item:=by
  ext d2v;let#[xs,ys,x,y,hx,hy,ex,ey]:=hg;ext d4a;ext d79;let#[w2,ew2,r2]:=YN.get ey;let ap:e5T b:=#[D.TIz,D.TOz,D.i1z,D.i2z,D.TITO,D.TIi1,D.TIi2,D.TOi1,D.TOi2,D.i12,
   di I hx (hf z<|by simp),di I hx<|hf TO Ė,di I hx<|hf i1 Ė,di I hx<|hf i2 Ė,di I hy<|hf z Ė,di I hy<|hf TO Ė,di I hy<|hf i1 Ė,di I hy<|hf i2 Ė]
  show wpAny_pyNext_zip_item ap h1 h2 h3 h4 h5 p.isList p2.isList b86 (by simpa using ew2) λe4f a5 a6 a7=>?_;show#[_,1,wpAny_letOwnedTupleGo_zip a1 λXH b1 sb=>?_];let hT:=I.LJ.fresh<|Hl _;let zne:∀ c∈[c6K],c≠s.heap.objs.size:=λc hc e=>by
   let:∃ o,s.heap.get? c=!o:=by
    ext d3l;let#[o4,e4,_]:=h4;let#[o5,e5,_]:=h5;ext d6m
    ·show#[_,h1]
    ·show#[_,h2]
    ·show#[_,h3]
    ·show#[_,e4]
    ·show#[_,e5]
   let#[o,q]:=this;show absurd (HF q) (by rw[e];show J3 _)
  let kk:∀ c o,c∉[c6K]->s.heap.get? c=!o->XH.get? c=!o:=λc o hc e=>by simp only[Hs,Ij,Kl,not_or]at hc;show sb.extBut ĉ hc.1 (a7 c o hc.1 hc.2.2.1 hc.2.2.2.1 hc.2.2.2.2 e)
  let I1:d9Z H { s with heap:=XH }:=I.RG hf kk;let I2:d9Z (upd H s.heap.objs.size<|.tup [x,y]) { s with heap:=XH }:=by show I1.Wz (I.U' kJ hT) I.sz #[by change 2<=sizeLine;decide,[w1,w2],.cons r1<|.cons r2 .nil,?_];show#[_,e3M (Ne.symm<|zne z Ė) a5,1,_,1]
  show#[my,I2,1,#[_,hT,1,x,y,λxs' Te=>by rw[I.Qz Te hx];show ex,λys' hy'=>by rw[I.Qz hy' hy];show ey,1],?_,λc hc=>?_]
  ·show#[b1,e3M D.TIz<|a7 TI _ D.TIz D.TITO D.TIi1 D.TIi2 h2,#[_,_,e3M D.TOz a2],a3.extBut sb.extBut D.i1z,a4.extBut sb.extBut D.i2z]
  ·ext d6B
 done:=by
  ext d2v;let#[xs,ys,hx,hy,hl]:=hg;ext d4a;let l1:=rv.length;let l2:=YN.length;let ap:e5T b:=#[D.TIz,D.TOz,D.i1z,D.i2z,D.TITO,D.TIi1,D.TIi2,D.TOi1,D.TOi2,D.i12,
   di I hx (hf z<|by simp),di I hx<|hf TO Ė,di I hx<|hf i1 Ė,di I hx<|hf i2 Ė,di I hy<|hf z Ė,di I hy<|hf TO Ė,di I hy<|hf i1 Ė,di I hy<|hf i2 Ė]
  show wpAny_pyNext_zip_end ń ap h1 h2 h3 h4 h5 p.isList p2.isList ?_ λh' kk=>#[1,I.RG hf λc o hc e=>?_]
  ·rcases hl with q|q
   ·show .inl (by simp;omega)
   ·show .inr (by simp;omega)
  ·ext d6Q;show kk c o hc.1 hc.2.2.1 hc.2.2.2.1 hc.2.2.2.2 e
 self:=λe4M=>wpAny_pyIter_zip st.1 h
def b61:bootBuiltins "zip"=!.type "zip":=by decide +kernel
inductive b1Q (K:Ψ)(c8C):∀ a b,vs=[.ref a,.ref b]->b7Z->(∃ ys,LO K H1 b ys)->R (Itz K a b) H1
theorem a4b (K)(ta):TI:=λe4J=>ta σ H λe5u=>b1Q K R vs H1
def Da (d09)(c7s):
  PI X ŭ Cd (a4b X.K ta):=by
 ext d2T;show Call_<|e2l b61 (e0j FA (by rw[TZ];rfl));ext d43;let#[a,b,e,#[xs,hx],#[ys,hy],q]:=q1;subst e
 cases r1 with
 | cons r rr=>
  cases rr with
  | cons r' rr=>
   cases rr
   cases r
   cases r';let#[zZ,p1,hz]:=I1.list hx;let#[c6L]:=I1.list hy;ext d3H;show wpAny_pyIter_zip a1 ?_;let I2:d9Z H1 { s1 with heap:=h' }:=I1.kept a7;show#[_,[s1.heap.objs.size+4,s1.heap.objs.size+2,s1.heap.objs.size+3,s1.heap.objs.size,s1.heap.objs.size+1],_,_,H1,1,I2,a8k a b ą _ #[cB,qm],#[a1,a2,#[_,_,a3],a4,a5],λc hc=>?_,q];all_goals try (intro z;let z':=z;lia)
   let le:@LE.le Nat _ s1.heap.objs.size c:=by simp only[Hs,Ij,Kl]at hc;rcases hc with rfl|rfl|rfl|rfl|rfl <;> lia
   let:=I1.U' le<|I1.LJ.fresh le;show this
def c5I {K:Φ}{g:TG}(c7R)(hl:∀ i σ H,i<=e1P ys.length->e8h H->e02 xs/\LO K H b ys)(hs:∀ i x y T σ H,xs[i]?=!x->ys[i]?=!y->e8h H->H T=none->g YJ σ DK λe5L=>tb { D with nx:=Pv (i+1),ct:=Pv (i+1),bk:=D.nx } σ2 H2)(hd:∀ σ H,Pv (e1P ys.length) σ H->f0C H):
  ∃ W:Nat->Nat->Υ,Y2/\∀ i m σ H,e4z H->
   ((f0M b).stop i H/\D.nx σ H)\/((f0M b).go i H/\∃ N:Υ,ġ/\∀ x H',(f0M b).Xy i H x H'->e4R H' λe5L=>tb { D with nx:=N,ct:=N,bk:=D.nx } σ2 H2):=by
 show#[λi m σ H=>m=e1P ys.length - i/\i<=e1P ys.length/\Pv i σ H,#[_,1,HW _,h0],?_];ext d66;let#[oA]:=hl i σ H hi p;by_cases Nt:i<e1P ys.length
 ·show .inr #[#[xs,ys,xs[i],ys[i],oA,by simp,by simp],Pv<|i+1,λf0t=>#[_,?_,1,Nt,p'],λx H' yl=>?_]
  ·lia
  ·let#[T,hT,1,x,y,ex,ey,1]:=yl;show hs i x y T σ H (ex xs q1) (ey ys q2) p hT
 ·let e:i=e1P ys.length:=#[]
  subst e;show .inl #[#[xs,ys,oA,#[]],hd σ H p]
abbrev Z2:ρ:=λ_ _=>False
def a9I (I:Nat->Shared->Prop)(turn:∀ n s,I n s->e0q (pyNext it) (λr s₁=>match r with
   | none=>R (.ok .next) s₁
   | some v=>e0q (letOwnedTupleGo target it v) (λ_ s₂=>e0q (assign target env v) (λ_ s₃=>
     wpAny ē A (forIn ifs true λc r=>if r=true then do let ok <- isTrue c env (eval c env);pure b87 else pure b9w) (λok s₄=>
      if ok=true then wpAny ē A (eval elt env) (λx s₅=>e0q (call (.builtin "list.append") [acc,x]) (λ_ s₆=>∃ m,m<n/\I m s₆) Z2 s₅) Z2 s₄
      else ∃ m,m<n/\I m s₄) Z2 s₃) Z2 s₂) Z2 s₁) Z2 s)(n)(h:I n s):codeAny ē A (.compLoop (.ListComp elt [#[target,iter,ifs,(0)]] scope pos) 0 it acc env) R s:=by
 show codeAny_loop rfl I (λn s hI=>?_) n h;show wpAny_noted ?_;show GU (JU<|GU (II (turn n s hI) (λr s₁ h₁=>?_) λ_ _ h'=>h'.elim))
 cases r with
 | none=>show Hk h₁
 | some v=>
  show GU (II h₁ (λ_ s₂ h₂=>?_) λ_ _ h'=>h'.elim);show GU (II h₂ (λ_ s₃ h₃=>GU<|II h₃ (λok s₄ h₄=>?_) λ_ _ h'=>h'.elim) λ_ _ h'=>h'.elim)
  cases ok with
  | false=>show Hk #[1,h₄]
  | true=>
   show GU (GU<|II h₄ (λx s₅ h₅=>GU<|II h₅ (λ_ s₆ h₆=>Hk<|Hk ⟨rfl,h₆⟩) λ_ _ h'=>h'.elim) λ_ _ h'=>h'.elim)
def c3B (h:Q (newEnv scope s.heap.objs.size globals (e7j scope.names cl) ğ none .none (!env) builtinsNs) { s with heap:=pushCells (d9f s.heap.push) scope.names }):
  wpAny M A (newFunctionEnv scope globals cl [] ğ none .none !env) Q E s:=by
 show GU (wpAny_alloc ?_);show GU (wpAny_layCells _ (λname kind cells=>by cbv) ą ?_);rw[K7 ..];ext d6R;show Hk (Hk h)
abbrev _root_.Ã:=List (Str×Addr)
abbrev _root_.Â:=List (Str×NameKind)
def b39 (f:Str×NameKind->List (Str×Addr)->Sem (ForInStep Ã))(hf:∀ name kind cs,f (name,kind) cs=if kind==.free then (do let a <- cellOf env name;pure (.yield ((name,a)::cs))) else pure (.yield cs)):
  ∀ (names:Â)(cs:Ã),(∀ x∈names,x.2=.free->∃ c,env.cells.lookup x.1=!c)->
   ∃ cl,forIn names cs f=pure cl/\(∀ p∈cl,p∈cs\/env.cells.lookup p.1=!p.2)/\(∀ p∈cs,p∈cl)/\∀ x∈names,x.2=.free->∃ c,(x.1,c)∈cl:=by
 intro r'
 induction r' with
 | nil=>
  intro cs _;show #[cs,by rw[a5V],λ_ h=>.inl h,λ_ h=>h,λ_ h=>nomatch h]
 | cons hd' r ih'=>
  let#[name,kind]:=hd';intro cs hc;let hr:∀ x∈r,x.2=.free->∃ c,env.cells.lookup x.1=!c:=λe0M=>hc x<|He _ hx;by_cases hk:kind=.free
  ·subst hk;let#[c,e]:=hc (name,.free) Hi rfl;let#[cl,wG]:=ih' ((name,c)::cs) hr;show#[cl,?_,λe7V=>?_,λe7V=>h3 p<|He _ hp,λe0M hf'=>?_]
   ·rw[c38,hf];change ((if (NameKind.free==NameKind.free)=true then _ else _) >>= _)=_;rw[if_pos<|by decide];ext1 cellOf;rw[e];show h1
   ·grind
   ·rcases Hs.mp hx with z|z
    ·subst z;show#[c,h3 _ Hi]
    ·show h4 x z hf'
  ·let#[cl,wG]:=ih' cs hr;show#[cl,?_,Fd,λe0M hf'=>?_]
   ·rw[c38,hf,if_neg<|by simpa using hk];show h1
   ·rcases Hs.mp hx with z|z
    ·cbv
    ·show h4 x z hf'
def c5i (hc:∀ x∈scope.names,x.2=.free->∃ c,env.cells.lookup x.1=!c):
  ∃ cl,f0c env=pure cl/\(∀ p∈cl,env.cells.lookup p.1=!p.2)/\∀ x∈scope.names,x.2=.free->∃ c,(x.1,c)∈cl:=by
 let#[cl,jb,h4]:=b39 (λx cs=>if x.2==.free then (do let a <- cellOf env x.1;pure<|.yield ((x.1,a)::cs)) else pure (.yield cs)) (λd97=>rfl) scope.names [] hc;show#[cl,?_,λe7V=>(h2 p hp).elim İ id,h4];ext1 closureFor
 cbv
def cv:∀ {l:List (Str×α)}{x:Str}{c:α},(x,c)∈l->∃ d,l.lookup x=!d:=by
 intro l
 induction l with
 | nil=>intro x c h;cases h
 | cons p r ih=>
  intro x c h;let#[k,v]:=p;rw[Kb]
  cases hb:x==k with
  | true=>show#[v,1]
  | false=>
   rcases Hs.mp h with e|h
   ·cases e;simp at hb
   ·show ih h
instance fB:∀ (names:Â)(n:Nat)(acc:Ã)(p:Str×Addr),p∈cellsFrom n names acc->p∈acc\/(n<=p.2/\(p.1,NameKind.cell)∈names):=by
 intro r'
 induction r' with
 | nil=>
  intro _ _ _ h;show .inl h
 | cons hd' r ih'=>
  let#[y,k]:=hd';intro n acc p h;unfold cellsFrom at h;split at h
  ·rename_i hk;let ek:k=.cell:=by simpa using hk
   rcases ih' (n+1) _ p h with z|⟨z1,z2⟩
   ·rcases Hs.mp z with z|z
    ·cbv
    ·show .inl z
   ·show .inr #[#[],He _ z2]
  ·rcases ih' n acc p h with z|⟨z1,z2⟩
   ·show .inl z
   ·cbv
def c36:∀ (names:Â)(n:Nat)(acc:Ã),(∀ p∈acc,p.2<n)->(∀ x y c,(x,c)∈acc->(y,c)∈acc->x=y)->
  ∀ x y c,(x,c)∈cellsFrom n names acc->(y,c)∈cellsFrom n names acc->x=y:=by
 intro r'
 induction r' with
 | nil=>
  intro _ _ _ h;show h
 | cons hd' r ih'=>
  let#[z,k]:=hd';intro n acc Nt h;ext d8n;split
  ·show ih' (n+1) _ (λe7V=>?_) (λx y c e1C=>?_)
   ·rcases Hs.mp hp with e|hp
    ·cbv
    ·show Jz (Nt p hp)
   ·grind
  ·show ih' n acc Nt h
instance fA:∀ (names:Â)(n:Nat)(acc:Ã){x:Str},(∀ y∈names,y.2=.cell->y.1≠x)->(cellsFrom n names acc).lookup x=acc.lookup x:=by
 intro r'
 induction r' with
 | nil=>
  intro _ _ _ _;show rfl
 | cons hd' r ih'=>
  let#[z,k]:=hd';intro n acc x h;ext1 cellsFrom;let hr:∀ y∈r,y.2=.cell->y.1≠x:=λy hy=>h y<|He _ hy;split
  ·rename_i hk;rw[ih' (n+1) _ hr,Kb];let:(x==z)=false:=by let:=h (z,k) Hi (by simpa using hk);simpa using Ne.symm this
   rw[this]
  ·show ih' n acc hr
def a9T:∀ (names:Â)(h:Heap)(acc:Ã),(∀ p∈acc,∃ v,h.IsCell p.2 v)->∀ p∈cellsFrom h.objs.size names acc,∃ v,(pushCells h names).IsCell p.2 v:=by
 intro r'
 induction r' with
 | nil=>
  intro _ _ hc;show hc
 | cons hd' r ih'=>
  let#[z,k]:=hd';intro h acc hc;ext1 cellsFrom pushCells;split
  ·let:=ih' (h.push { cls:=.type "cell",data:=.cell none }) ((z,h.objs.size)::acc) (λe7V=>by
    rcases Hs.mp hp with e|hp
    ·subst e;show#[none,vj]
    ·let#[v,q]:=hc p hp;show#[v,q.keeps λe0F=>Ha _ e])
   rwa [K7]at this
  ·show ih' h acc hc
theorem aE (X)(scope)(N')(d0T):Cx where
 prog:=X.prog
 w:=X.w
 K:=X.K
 mg:=X.mg
 base:=X.base
 A:=X.A
 N:=N'
 s₀:=s
 H₀:=H
 env:=compEnvC scope cells C X.env
 outer:=X.stack
 stack:=X.stack
 ex:=fp
 fn:=λx=>decide (scope.names.lookup x=!.cell)
 calm:=X.calm
 pn:=[]
 xe:=λ_ _=>False
theorem b8n (scope)(x):Bool:=scope.names.any λy=>y.1==x&&y.2==.free
theorem wV (scope)(x):Bool:=scope.names.any λy=>y.1==x&&y.2==.cell
abbrev _root_.À:=List Nat
theorem iF (sc)(N:η)(scope)(nT)(js)(N'):Bool:=
 scope.kind==.function&&decide (N'.length=nT+js.length) &&
 scope.names.all (λx=>(x.2 != .local || scope.names.lookup x.1==!.local)&&(x.2 != .free || ((sc.names.lookup x.1==some .cell || sc.names.lookup x.1==!.free)&&scope.names.lookup x.1==!.free))) &&
 (js.zipIdx.all λ(j,i)=>match N'[nT+i]?,N[j]? with
  | some x,some y=>x==y&&b8n scope x&&not (wV scope x)
  | _,_=>false)
structure bx (X:Cx)(scope:Scope)(nT:Nat)(js:À)(N':η):Prop where
 kind:scope.kind=.function
 len:N'.length=nT+js.length
 loc:∀ x∈scope.names,x.2=.local->scope.names.lookup x.1=!.local
 free:∀ x∈scope.names,x.2=.free->(d87 x.1)
 frl:∀ x∈scope.names,x.2=.free->scope.names.lookup x.1=!.free
 cap:∀ (i j:Nat),js[i]?=!j->∃ x,N'[nT+i]?=!x/\X.N[j]?=!x/\(x,NameKind.free)∈scope.names/\∀ y∈scope.names,y.2=.cell->y.1≠x
def c1R (hsc)(hN:X.N=N)(h:iF sc N scope nT js N'=true):f0d N':=by
 unfold iF at h;simp only[IL,decide_eq_true_eq,IS,Jv]at h;let#[#[#[mh],h3],h4]:=h;show#[mh,λe0M hl=>?_,λe0M hf=>?_,λe0M hf=>?_,λi j e=>?_]
 ·let:=(h3 x hx).1
  cbv
 ·let:=(h3 x hx).2;simp only[hf,b6P,Bool.false_or,Bool.or_eq_true,IL,Jv]at this;change X.env.scope.names.lookup x.1=_\/X.env.scope.names.lookup x.1=_;rw[hsc];show this.1
 ·let:=(h3 x hx).2
  cbv
 ·let m:(j,i)∈js.zipIdx:=by rw[Iq];show e
  let q:=h4 (j,i) m;rw[hN];revert q
  cases e1:N'[nT+i]? with
  | none=>intro q;cases q
  | some x=>
   cases e2:N[j]? with
   | none=>intro q;cases q
   | some y=>
    intro q;simp only[IL,Jv,K2]at q;let#[#[oA],q3]:=q;subst q1;show#[x,2,?_,λe16 hc hxy=>?_]
    ·unfold b8n at q2
     cbv
    ·let:wV scope x=true:=List.any_eq_true.mpr #[y,hy,by simp[hxy,hc]];rw[q3]at this;ext d46
theorem pq (nT)(js)(σ):St:=e9F none++js.map λj=>(σ[j]?).join
theorem PX (X)(ifs:Ì)(t:TT):Prop:=
 ∀ (ñ:ζ)(s:Ê)(σ:St)(H:Hp)(Q:Ø),d9Z H s->e4Q Q->
  wpAny Ē X.A (forIn ifs true λc r=>if r=true then do let ok <- isTrue c X.env (d8O c);pure b87 else pure b9w) yX X.xe s
theorem yp:TT:=λ_ H Q=>Q true H
def b1m:PX X [] yp:=λe0I h=>by rw[a5V];show Hk #[H,I,h]
def bK (hc:e82 t):PX X [c] t:=λe0I h=>by show GU (GU (LW (d9t hc Q) λb s1 q=>Hk ?_));show Hk q
theorem gu (d1x)(σ)(F:Addr->Ù):It->Ù:=λJ H1=>∀ l,H1 l=none->
 ∃ W:Nat->Nat->Υ,(∃ m,W 0 m (pq nT js σ) (f0N l EN))/\∀ i m σ' H',W i m σ' H'->
  (J.stop i H'/\F l H')\/(J.go i H'/\∀ x H2,J.Xy i H' x H2->g x σ' H2 λσ3 H3=>∃ (N:Ù)(NV:V->Ù),
   (∀ H4,N H4->∃ m',m'<m/\W (i+1) m' σ3 H4)/\(∀ v H5,NV v H5->∃ ys,H5 l=!.lst ys/\ys.length<sizeLine/\∃ m',m'<m/\W (i+1) m' σ3 b4F)/\
   tt σ3 H3 λb H4=>if b=true then te σ3 H4 NV else N H4)
variable {X:Cx}{ñ:ζ}{H:Hp}{s:Ê}
theorem b0m (X)(ñ)(H)(C)(s:Ê):Prop:=e2A H C/\X.s₀.heap.objs.size<=C/\∃ m,s.heap.Ns C m
def a5U:∀ (names:Â)(n:Nat)(acc:Ã),p∈acc->p∈cellsFrom n names acc:=by
 intro r'
 induction r' with
 | nil=>
  intro _ _ h;show h
 | cons _ r ih'=>
  intro n acc h;ext d8n;split <;> show ih' ĉ (by simp[h])
def b6b:∀ (names:Â)(n:Nat)(acc:Ã),(x,NameKind.cell)∈names->∃ c,(x,c)∈cellsFrom n names acc:=by
 intro names
 induction names with
 | nil=>intro n acc h;cases h
 | cons p r ih=>
  intro n acc h;let#[y,k]:=p;ext d8n;rcases Hs.mp h with e|h
  ·grind [a5U,List.mem_cons_self]
  ·split <;> show ih ĉ h
def b9O:∀ (names:Â)(n:Nat)(acc:Ã),C<=n->(names.lookup x=!.cell\/∀ d,acc.lookup x=!d->C<=d)->∀ c,(cellsFrom n names acc).lookup x=!c->C<=c:=by
 intro r'
 induction r' with
 | nil=>
  intro n acc hn h c e;show h.elim (λh=>nomatch h) λh=>h c e
 | cons hd' r ih'=>
  let#[y,k]:=hd';intro n acc hn h c e;unfold cellsFrom at e;rw[Kb]at h;split at e
  ·show ih' (n+1) _ #[] ?_ c e
   grind
  ·show ih' n acc hn ?_ c e
   grind
instance xO (hc:∀ cells C s H fp,Cc ė)(S:bx X scope nT js N')(hi:FJ Cc X tg iter wi)(hg)(ht)(he:∀ cells C s H fp,PE ė elt te)(I)(h:wi σ H (gu nT js g tt te σ F))(fin:∀ (l C:Addr)(s':Ê)(H':Hp),Inv X ñ σ H' s'->b0m X ñ H' C s'->F l H'->compPost Ē X.A X.xe use Q (.ref l) C (.ok .next) s')(hs):
  wpAny Ē X.A (comprehension (.ListComp elt [#[tg,iter,ifs,(0)]] scope pos) scope X.env MA (newList []) false (eval iter X.env) use) Q X.xe s:=by
 let a1e:∀ x∈scope.names,x.2=.free->∃ c,X.env.cells.lookup x.1=!c:=λx hx hf=>I.ok.has x.1<|S.free x hx hf;let#[cl,SE,UN,U6]:=c5i (env:=X.env) a1e;show wpAny_comprehension_free rfl hs SE S.kind S.loc (LW (hi ñ s σ H _ I h) λv s1 h1=>LW h1 λitv s2 h2=>?_);let#[it,fp,tn,J,H2,e,I2,T,st2,f2,rd]:=h2;subst e;let I3:Inv X ñ σ (upd H2 s2.heap.objs.size<|.lst []) { s2 with heap:=s2.heap.push { cls:=.type "list",data:=.seq ([]:θ).toArray } }:=I2.a0I (t':=s2.toks) (its:=[]) .nil<|HW _;show JX ?_ (by change 0<=sizeLine;show HW _);let#[W,#[m0,w0],turn]:=rd s2.heap.objs.size<|I2.LJ.fresh (Hl _);let U2:H2 s2.heap.objs.size=none:=I2.LJ.fresh<|Hl _;generalize hl:s2.heap.objs.size=l at I3 w0 turn U2 ⊢;generalize hs3:({ s2 with heap:=s2.heap.push { cls:=.type "list",data:=.seq ([]:θ).toArray } }:Ê)=s3 at I3 ⊢;let z3:s3.heap.objs.size=l+1:=by rw[<- hs3,<- hl];show K7 ..
 let k23:∀ b o,s2.heap.get? b=!o->s3.heap.get? b=!o:=λb o e=>by rw[<- hs3];show Ha _ e
 show c3B ?_;generalize hC:s3.heap.objs.size=C;generalize R0:cellsFrom (C+1) scope.names cl=cells;let hz4:(s3.heap.push { cls:=.type "dict",data:=.dict [].toArray }).objs.size=C+1:=by rw[K7,hC]
 let Zd:∀ b o,s3.heap.get? b=!o->(pushCells ţ scope.names).get? b=!o:=λb o e=>pushCells_keeps ĉ b o<|Ha _ e;let nsC:(pushCells (s3.heap.push { cls:=.type "dict",data:=.dict [].toArray }) scope.names).Ns C (λ_=>none):=by let:=(Heap.Ns.new s3.heap<|.type "dict").keeps<|pushCells_keeps scope.names _;rwa [hC]at this
 generalize hh4:pushCells ţ scope.names=h4 at Zd nsC;let memC:∀ x c,cells.lookup x=!c->(X.env.cells.lookup x=!c/\@LT.lt Nat _ c C)\/(@LE.le Nat _ (C+1) c/\(x,NameKind.cell)∈scope.names):=λx c e=>by
  let m:=mem_of_lookup e;rw[<- R0]at m;rcases fB _ _ _ _ m with z|z
  ·let q:=UN _ z;let#[v,iz]:=I3.cell x c q;show .inl #[q,by let:=iz.lt;rw[hC]at this;show this]
  ·show .inr z
 let Yx:∀ x c,cells.lookup x=!c->∃ v,h4.IsCell c v:=λx c e=>by
  let m:=mem_of_lookup e;let:=a9T scope.names ţ cl (λp hp=>by let#[v,iz]:=I3.cell p.1 p.2<|UN p hp;show⟨v,iz.keeps λb o e=>Ha _ e⟩)
  rw[hz4,R0,hh4]at this;show this _ m
 change codeAny Ē X.A (.compStart _ 0 Uf (.ref l)<|compEnvC scope cells C X.env) (compPost (model X.prog X.w) X.A X.xe use Q (.ref l) C) { s3 with heap:=h4 };let Xg:∀ b∈fp,@LT.lt Nat _ b l:=λb hb=>by let#[o,e,_]:=T.obj ĉ st2 b hb;rw[<- hl];show HF e
 let Zn:∀ b∈fp,b∉R5 X.stack:=λb hb z=>(Hs.mp<|I2.V5 b z).elim (f2 b hb).2.1 (f2 b hb).2.2.1;let okC:(aE X scope N' cells C s3 ĭ fp).Ok:=by
  show#[I3.ok.mod,S.kind,I3.ok.glob,I3.ok.blt,KZ hC,λx y c e1 e2=>?_,λx hx=>?_,λx c hf e=>?_,I3.ok.hd,I3.ok.frames,.inl rfl,λb hb=>#[?_,λx c e z=>?_],I3.bs,HH I3.ok.Wh I3.sz,λb o e hb=>?_,Zn,I3.stack,I3.Px]
  ·let Ys:=mem_of_lookup<|show cells.lookup x=some c from e1;let Qo:=mem_of_lookup<|show cells.lookup y=some c from e2;rw[<- R0]at Ys Qo;show c36 scope.names (C+1) cl (λp hp=>?_) (λx y c h1 h2=>I3.ok.inj x y c (UN _ h1)<|UN _ h2) x y c Ys Qo;let#[v,iz]:=I3.cell p.1 p.2<|UN p hp;let h1:@LT.lt Nat _ p.2 s3.heap.objs.size:=iz.lt;rw[hC]at h1;change @LT.lt Nat _ p.2 (C+1);omega
  ·let Te:(relabel scope X.env).names.lookup x=!.cell\/(relabel scope X.env).names.lookup x=!.free:=hx;let:∃ k,(x,k)∈scope.names/\(k=.cell\/k=.free):=by
    let m:∃ k,(x,k)∈(relabel scope X.env).names/\(k=.cell\/k=.free):=by
     rcases Te with z|z
     ·show#[_,mem_of_lookup z,.inl rfl]
     ·show#[_,mem_of_lookup z,.inr rfl]
    let#[k,m,hk]:=m;unfold relabel at m;let#[#[n,k'],m',e]:=GX.mp m;dsimp only at e;split at e
    ·rename_i Zl
     cases e;simp only[IL,Jv]at Zl;show⟨k',m',.inr Zl.1.1⟩
    ·cases e;show⟨k,m',hk⟩
   let#[k,m,hk]:=this;change ∃ c,cells.lookup x=some c;rw[<- R0];let key:∃ c,(x,c)∈cellsFrom (C+1) scope.names cl:=by
    rcases hk with rfl|rfl
    ·show b6b Ĉ m
    ·show let ⟨c,h⟩:=U6 _ m rfl;⟨c,a5U Ĉ h⟩
   let#[c,m]:=key;show cv m
  ·let h1:@LE.le Nat _ (C+1) c:=b9O scope.names (C+1) cl (Hl _) (.inl<|HB (show decide (scope.names.lookup x=some NameKind.cell)=true from hf)) c (by rw[R0];show e);change @LE.le Nat _ s3.heap.objs.size c;omega
  ·let:=Xg b hb;change @Ne Nat b C;omega
  ·subst z;rcases memC x c e with⟨q,_⟩|⟨q,_⟩
   ·show (f2 c hb).2.2.2.2.1 x c q rfl
   ·let:=Xg c hb;omega
  ·rcases (f2 b hb).2.2.2.1 with z|z
   ·show I3.ok.UB b o e z
   ·show absurd (HS (HF e)<|HH I3.ok.Wh z) (J3 _)
 let HC:∀ c:Addr,@LE.le Nat _ C c->upd H2 l (.lst []) c=none:=λc hcc=>I3.LJ.fresh (show @LE.le Nat _ s3.heap.objs.size c by omega);let I4:Inv Ī [] (pq nT js σ) ĭ { s3 with heap:=h4 }:=by
  show#[okC,1,I3.bare,Un.kept Zd,#[_,nsC,λi x v e1 e2 e3=>?_],Yx,HC C<|Hl _,λx c e=>?_,(λp hp=>nomatch hp),I3.LJ.kept Zd,?_]
  ·
   unfold pq at e2;by_cases U3:i<nT
   ·rw[HY<|by simpa using U3,List.getElem?_replicate]at e2;split at e2 <;> cases e2
   ·rw[Ib<|by simpa using U3,List.length_replicate,Hh]at e2
    cases ej:js[i - nT]? with
    | none=>rw[ej]at e2;cases e2
    | some j=>
     rw[ej]at e2;let Qo:(σ[j]?).join=!v:=by simpa using e2
     let a9Y:σ[j]?=!some v:=by
      cases eσ:σ[j]? with
      | none=>rw[eσ]at Qo;cases Qo
      | some o=>rw[eσ]at Qo;show congrArg some Qo
     let#[y,n1,n2,n3,n4]:=S.cap ĉ ej;let:nT+(i - nT)=i:=#[0]
     rw[this]at n1;let exy:x=y:=by let Ys:N'[i]?=!x:=e1;rw[n1]at Ys;show (Option.some.inj Ys).symm
     subst exy;let#[m,hn,hlk]:=I3.loc;let kinds:=S.free _ n3 rfl;let vis:wf X.env.scope x:=by
      rcases kinds with k|k
      ·show .inr (.inl k)
      ·show .inr (.inr k)
     let#[u,r,lk]:=hlk j x v n2 a9Y vis;show#[u,r,?_];rcases lk with⟨k,_⟩|⟨k,c,ec,iz⟩
     ·rcases kinds with k'|k'
      ·rw[k]at k';cases k'
      ·rw[k]at k';cases k'
     ·show .inr #[?_,c,?_,iz.keeps Zd]
      ·change (relabel scope X.env).names.lookup x=!.cell\/(relabel scope X.env).names.lookup x=!.free;let e3':wf (relabel scope X.env) x:=e3;rcases e3' with z|z|z
       ·
        exfalso;let m:=mem_of_lookup z;unfold relabel at m;let#[#[n,k'],m',e]:=GX.mp m;dsimp only at e;split at e
        ·cases e
        ·cases e;let q:=S.loc _ m' rfl;rw[S.frl _ n3 rfl]at q
         cases q
       ·show .inl z
       ·show .inr z
      ·change cells.lookup x=!c;rw[<- R0,fA Ĉ n4];let#[d,hd]:=U6 _ n3 rfl;let#[d',Qn]:=cv hd;let:=UN _<|mem_of_lookup Qn;rw[ec]at this;rw[Qn,Option.some.inj this]
  ·rcases memC x c e with⟨q,_⟩|⟨q,_⟩
   ·show I3.N4 x c q
   ·show HC c #[0]
  ·ext1 pq;change _=N'.length;rw[S.len,Hn,List.length_replicate,GS]
 let stat:∀ {H':Hp},(∀ b∈fp,H' b=none)->∀ b∈fp,c3e Ī [] H' b:=λhn b hb=>by
  show#[hn b hb,?_,Zn b hb,.inl hb,λx c e z=>?_,λp hp=>nomatch hp]
  ·let:=Xg b hb;change @Ne Nat b C;omega
  ·subst z;rcases memC x c e with⟨q,_⟩|⟨q,_⟩
   ·show (f2 c hb).2.2.2.2.1 x c q rfl
   ·let:=Xg c hb;omega
 let fr0:∀ b∈fp,upd H2 l (.lst []) b=none:=λb hb=>by rw[a9<|HR (Xg b hb)];show (f2 b hb).1
 let tn4:tn 0 h4:=T.keep Ĉ st2 λb _ o e=>Zd b o<|k23 b o e;let loop:codeAny Ē X.A (.compLoop (.ListComp elt [#[tg,iter,ifs,(0)]] scope pos) 0 Uf (.ref l)<|compEnvC scope cells C X.env) (compPost Ē X.A X.xe use Q (.ref l) C) { s3 with heap:=h4 }:=by
  show a9I (λn s'=>∃ i σ' H',Inv Ī [] σ' H' s'/\tn i s'.heap/\(∀ b∈fp,H' b=none)/\W i n σ' H') ?_ m0 #[(0),_,_,I4,tn4,fr0,w0];rintro n s5 ⟨i,σ5,H5,I5,st5,fr5,w5⟩;rcases turn i n σ5 H5 w5 with⟨stop,qn⟩|⟨go,step⟩
  ·show LW (T.done Ī rfl rfl rfl (hc ą _) i [] s5 σ5 H5 Z2 I5 (stat fr5) st5 stop) λr s6 gR=>?_;let#[hr,I6]:=gR;subst hr;let un:Un (R5 X.stack) fp ĭ H5 s3.heap s6.heap:=I6.base;let J6:Inv X ñ σ H5 s6:=I3.Sm (ch:=fp) I6.os un I6.LJ I6.bare λb hb=>#[(f2 b hb).2.2.2.1,(f2 b hb).2.1,(f2 b hb).2.2.2.2.1,(f2 b hb).2.2.2.2.2]
   let#[m6,n6,_]:=I6.loc;let hCX:@Ne Nat C X.env.locals:=by let h1:@LT.lt Nat _ X.env.locals s3.heap.objs.size:=I3.lt;omega
   let hCs:@LE.le Nat _ X.s₀.heap.objs.size C:=by let:=I3.sz;omega
   show fin l C s6 H5 J6 #[#[I6.free,hCX,λz=>?_,.inr hCs,λx c e z=>?_,λp hp z=>?_],hCs,m6,n6] qn
   ·let:=I3.WQ (a:=C)<|KZ hC;show this z
   ·let#[v,iz]:=I3.cell x c e;let h1:@LT.lt Nat _ c s3.heap.objs.size:=iz.lt;let h2:@Eq Nat c C:=z;omega
   ·let h1:@LT.lt Nat _ p.1 s3.heap.objs.size:=HF (I3.pin p hp).1;let h2:@Eq Nat p.1 C:=z;omega
  ·show LW (T.item Ī rfl rfl rfl (hc ą _) i [] s5 σ5 H5 Z2 I5 (stat fr5) st5 go) λr s6 gR=>?_;let#[u,hr,h6]:=gR;subst hr;show LW h6 λ_ s7 gR=>?_;let#[x,H7,I7,r7,y7,st7,fr7]:=gR;show LW (hg cells C s3 ĭ fp _ s7 σ5 H7 x u _ (I7.pinned (stat fr7)<|T.obj _ _ st7) r7<|step x H7 y7) λ_ s8 gR=>?_;let#[σ8,H8,I8,q8]:=gR;let again:∀ {H9:Hp}{s9:Ê},Inv Ī ([]++nH fp s7.heap) σ8 H9 s9->tn (i+1) s9.heap/\∀ b∈fp,H9 b=none:=λ{H9 s9} I9=>by show#[T.keep Ĉ st7 λb hb o e=>(I9.pin (b,o)<|Hq _ (Hq _<|gb hb e)).1,λb hb=>?_];let#[o,e,d]:=T.obj ĉ st7 b hb;show (I9.pin (b,o)<|Hq _ (Hq _<|gb hb e)).2.1
   let#[N,NV,hN,hNV,q8]:=q8;show LW (ht cells C s3 ĭ fp _ s8 σ8 H8 _ I8 q8) λb s9 gR=>?_;let#[H9,I9,q9]:=gR
   cases b with
   | false=>
    rw[if_neg Ie]at q9 ⊢;let#[m',hm,w9]:=hN _ q9;show#[m',hm,i+1,σ8,H9,I9.P8,(again I9).1,(again I9).2,w9]
   | true=>
    rw[if_pos rfl]at q9 ⊢;show LW (he cells C s3 ĭ fp _ s9 σ8 H9 _ I9 q9) λy s10 gR=>?_;let#[v,H10,I10,r10,q10]:=gR;let#[ys,el,hz,m',hm,w10]:=hNV ĉ q10;show LW (aB (X:=aE X scope N' cells C s3 ĭ fp) _ s10 σ8 H10 (.ref l) [v] (.ref l) [y] (λz H11=>z=.non/\H11=upd H10 l (.lst<|ys++[v])) I10 rfl (.cons r10 .nil) ⟨l,ys,v,rfl,rfl,el,hz,rfl,rfl⟩) λ_ s11 gR=>?_;let#[_,H11,I11,_,_,e11]:=gR;subst e11;show#[m',hm,i+1,σ8,_,I11.P8,(again I11).1,(again I11).2,w10]
 show codeAny_compStart_list loop (T.self _ 0 Ĉ tn4 loop)
open e
variable {wi:TI}{nT:Nat}{js:À}{g:TG}{tt:TT}{te:TE}
theorem jy (wi:TI)(d1x):TE:=λd95=>wi σ H (gu nT js g tt te σ λl H'=>Q kC H')
def b1F (c75)(hs):e4A GA:=by ext d2p;show xO hc S hi hg ht he I h (λl C s' H' I' gR q=>?_) hs;let#[f,_,m,n]:=gR;show#[m,n,λh' sb=>#[.ref l,H',?_,1,q]];show I'.turned Ś f.1 f.2.1 f.2.2.2.1 f.2.2.2.2.1 f.2.2.2.2.2
def eZ (c81)(hs):e4A GA:=b1F c1l S hi hg ht he hs
def c1L (d2g)(c75)(hsw)(hs):PS X b28 (iY GA vS):=by
 ext d2u;rw[exec_Assign_Name_used ą hsw];show GU<|JU (GU ?_);show GU<|II (xO hc S hi hg ht he I h (λl C s' H' I' gR q=>?_) hs) (λ_ s' hq=>Hk<|Hk hq) λ_ _ e=>e;let#[f,sz,m,n]:=gR;show wpAny_assign_Name<|c2Z I' hN U3 (.inl hx) (v:=.ref l) rfl (λWm I'' gR=>?_) (.inr hx);let#[a,sb,ha]:=gR;let hCa:C≠a:=by
  rcases ha with rfl|ha
  ·show f.2.1
  ·show λz=>f.2.2.2.2.1 x a ha z.symm
 show#[m,n.sameBut sb hCa,λh' sb'=>#[_,H',?_,q]];show I''.turned (λe5M e=>(sb'.2 b hb).trans e) f.1 f.2.1 f.2.2.2.1 f.2.2.2.2.1 f.2.2.2.2.2
def aQ (d2g)(c81)(hsw)(hs):PS X b28 (iY GA vS):=c1L hN U3 hx c1l S hi hg ht he hsw hs
open e
def a1X {K:Ψ}(Pv:Addr->Nat->Ù)(h0:∀ l,H1 l=none->Pv l 0 (f0N l EN))(hl:∀ l i H,i<=xs.length->Pv l i H->e02 xs)(hs:∀ l i x H,xs[i]?=!x->Pv l i H->tt b1N H λb H4=>
   if b=true then te b1N H4 λv H5=>∃ ys,H5 l=!.lst ys/\ys.length<sizeLine/\Pv l (i+1) b4F else Pv l (i+1) H4)(hd:∀ l H,Pv l xs.length H->F l H):gu 1 js (bS 0) tt te σ F uj H1:=by
 intro l hl0;show#[λi m σ' H=>m=xs.length - i/\i<=xs.length/\(∃ o,σ'=o::js.map λj=>(σ[j]?).join)/\Pv l i H,#[xs.length,za,h0 l hl0],?_];rintro i m σ' H ⟨rfl,hi,⟨o,rfl⟩,p⟩;let q:=hl l i H hi p;by_cases Nt:i<xs.length
 ·show .inr #[kY,λx H2 y=>?_];let#[e,y]:=y;subst e;show#[Pv l<|i+1,λv H5=>∃ ys,H5 l=!.lst ys/\ys.length<sizeLine/\Pv l (i+1) _,λH4 p4=>#[c4N,p4],
   λv H5 gR=>(by let#[ys,mC,p5]:=gR;show#[ys,mC,c4N,p5]),hs l i x _ (y xs q) p]
 ·let e:i=xs.length:=#[]
  subst e;show .inl #[#[xs,q,Hl _],hd l H p]
variable {X:Cx}
def b3i:Md X mX (λe1r=>∃ x t T b,xs=[x,.ty T]/\ka X.K H x t/\W.kitOne X.K t C7=!b/\Q AN H):=by
 ext d2r;let#[x,t,T,b,1,ty,e,q]:=h;let#[u,w',1,r1,r2]:=Cr r
 cases r2;show b96 I r1 ty e λtk=>#[.bl b,H,I.tok tk,1,q]
def a7F:bootBuiltins "isinstance"=!.builtin "isinstance":=by decide +kernel
def a8Y:bootBuiltins "sum"=!.builtin "sum":=by decide +kernel
def sj (hc):Md X (.builtin "sum") (λe1r=>∃ (p:Addr)(ns:Ξ),xs=uZ/\LO X.K H p Ł/\Q mj H):=by
 ext d2r;let#[p,ns,1,hq,q]:=h;let#[u,1,r1]:=dh r
 ext d4v;let hi:=b93 rv;ext d7h;let hl':=hx▸pl.isList;show sum_intListG ń hl' λe2Y t' hk=>?_;let e1:ns=xs.toList.map (·.1):=by rw[<- nums_intItems,<- hx];show (hi.numsOf).symm
 let e2:preSum At xs.size=ns.sum:=by rw[preSum_eq,Ir<|by simp,e1]
 rw[e2];show#[.int ns.sum,H,I.kept hk,#[_,1],q]
structure YF (K:Ψ)(c9k)[DecidableEq α](d0s)(k:Nat):Prop where
 eq:∀ (X:Cx)(A:Ë)(ñ:ζ)(s:Ê)(σ:St)(H:Hp)(x y:V)(v u:Value)(a b:α),X.K=K->Inv X ñ σ H s->rp x v->rp y u->R H x a->R H y b->A.units+k<cLine->SeqAt.EqAt A s v u (decide (a=b))
 fn:∀ (X:Cx)(ñ:ζ)(s:Ê)(σ:St)(H:Hp)(x:V)(a b:α),X.K=K->Inv X ñ σ H s->R H x a->R H x b->a=b
theorem isI:Hp->V->Int->Prop:=λ_ x n=>x=.int n
def b2r {K:Ψ}:YF K isI 0 where
 eq:=by
  ext d4C
  cases ha
  cases hb;ext d2N;let#[e,mh]:=HT.Xi A s a t b t';let:e=decide (a=b):=by rw[IH,h2,Iw]
  cbv
 fn:=by
  intro X ñ s σ H x a b _ I ha hb
  cases ha
  cases hb;rfl
theorem wT (K)(c9k)(d0s):Hp->V->List α->Prop:=λH x as=>∃ p vs,x=.ref p/\LO K H p vs/\Paired (R H) vs as
def Paired.at:∀ {l₁:List α}{l₂:List β}{i:Nat}{a:α},e6i l₁ l₂->l₁[i]?=!a->∃ b,l₂[i]?=!b/\F a b:=by
 intro l m i a h
 induction h generalizing i with
 | nil=>intro e;simp at e
 | cons r t ih=>
  intro e
  cases i with
  | zero=>cbv
  | succ i=>show ih Zz
def sY.at' {i:Nat}(r:e0v us)(h:us[i]?=!u):∃ x,xs[i]?=!x/\rp x u:=by
 let hl:=r.length;let hi:=(GW.mp h).1;let e:xs[i]?=some xs[i]:=by simp
 let#[u',mh]:=r.get e
 cbv
def c25 {F:α->β->Prop}(f:∀ a b c,F a b->F a c->b=c):∀ {l:List α}{m n:List β},e6i l m->e6i l n->m=n:=by
 intro l m n h
 induction h generalizing n with
 | nil=>intro h;cases h;rfl
 | cons r t ih=>intro h;cases h with|cons r' t'=>rw[f Ĉ r r',ih t']
variable {α:Type}[DecidableEq α]
def b3B {R:Hp -> V -> α -> Prop}{K:Ψ}(d1k){X:Cx}(c72)(hl:its.length=MJ.length)(d0d):
  (∀ j (h1:j<its.toArray.size) (h2:j<MJ.toArray.size),e0K its.toArray[j] MJ.toArray[j] (decide vw))/\(List.range its.toArray.size).all (λj=>decide vw)=decide jt:=by
 ext d2w;let l3:=Paired.length p1;let l4:=Paired.length p2;show#[λj e1C=>?_,?_]
 ·ext d3z;let:=e6f hu
  cbv
 ·rw[HU,IH,IS,Iw];constructor
  ·intro hh;apply JZ
   grind
  ·rintro rfl i _;show Hf rfl
open e
def Du [DecidableEq α](c97):NH X EV (λe4r=>∃ as bs,wT X.K R H x as/\wT X.K R H y bs/\Q c0u H):=by
 ext d3R
 cases rx
 ext d2B
 ·ext d4l;show SeqAt.eq_listAt pl.isList V9.isList (hl) #[] e1 ?_;rw[e2];show#[Gp]
 ·let:decide jt=false:=by
   grind
  rw[this]at q;show SeqAt.eq_list_lengthsAt pl.isList V9.isList Ĵ #[] E1
def a0r [DecidableEq α](c97):NH X Fh (λe4r=>∃ as bs,wT X.K R H x as/\wT X.K R H y bs/\Q b6a H):=by
 ext d3R
 cases rx
 ext d2B
 ·ext d4l;show SeqAt.RcNeAt.lists pl.isList V9.isList (hl) #[] e1 X.prog X.w X.xe _ ?_;rw[e2];show#[Gp]
 ·let:decide jt=false:=by
   grind
  rw[this]at q;show SeqAt.RcNeAt.lists_lengths pl.isList V9.isList Ĵ #[] X.prog X.w X.xe _ E1
open e
theorem Df (d1L)(sp):Prop:=
 ∃ f fd,mg x=!.ref f/\W.keepIn K Fr=true/\YX K fd ps []/\LX P w K mg base MY k f fd ps sp
theorem Dm (c7y)(C)(m:Str)(ps)(sp):Prop:=
 ∃ f fd,PM K C/\Ch K C m f/\YX K fd ps []/\LX P w K mg base MY k f fd ps sp
theorem Dk (c7y)(x)(C)(ps)(sp):Prop:=
 ∃ f fd,mg x=!.ref C/\Mk K C f/\YX K fd ps []/\LX P w K mg base MY k f fd ps sp
def aR (D:e0Z sp)(c9O):
  PE X ę (zP sp [] E0 t):=by
 let#[zH,hm,kp,b,F]:=D;show a5K F hr hg hm kp b .nil nM ha OO he Of
def bE (c8A)(ha)(TY)(Of)(ht:eval zT X.env=(do
   let ov <- eval o X.env
   standAt apos.atName
   let (f,first) <- holding [ov] ş
   callWith pos f first (e0m ő) Ĩ):=ă):
  PE X zT (vg C m sp [] E0 ta t):=by
 let#[G9]:=D;show a6U he cl hm F hr b .nil nM ha TY Of ht
def gY (c8Y)(ha)(c7E):
  PE X ę (zN C sp [] E0 t):=by
 let#[zH,hm,M,b,F]:=D;show c4L M F hr hg hm b .nil nM ha OO he Of
theorem MZ (c9D):Prop:=∃ f fd,e3f x=!some Fr/\OR K x ğ st f fd
def b2S {K:Ψ}(d11)(a)(d0S):MZ K x ğ st:=#[f,_,a,oS l c k]
theorem QO (K)(C)(m ğ:Str)(st):Prop:=∃ f fd,Ch K C m f/\OR K m ğ st f fd
def a0S {K:Ψ}(d11)(d0t)(l:K.lookup f=some #[oc,od,.func (d9u m Lr),Nq])(c)(c8H):QO K C m ğ st:=#[f,_,#[a,i,k],oS l c k]
def b8 (e:f' H H2)(h:H2 T=Option.none):f' H (e7l T o):=λb u hb=>by rw[a9<|ak (e b u hb) h];show e b u hb
def bb (e:f' H H2)(h:H T=Option.none):f' H (e7l T o):=λb u hb=>by rw[a9<|ak hb h];show e b u hb
def Paired.Qs (d2e)(h:F a b):e6i (l₁++[a]) (l₂++[b]):=Paired.snoc r h
def c0c {xs:Ξ}{i:Nat}(h:(xs.map V.int)[i]?=!x):∃ a,xs[i]?=!a/\x=.int a:=by
 rw[Hh]at h
 cases e:xs[i]? with
 | none=>rw[e]at h;cases h
 | some z=>cbv
variable {js:À}{σ:St}
abbrev a5m (σ:St)(js:À):St:=js.map λj=>(σ[j]?).join
open e
variable (K:Ψ)
def zg (h):VO X (D0 K):=h▸c4e
def Gi (h):VO X (CZ K):=h▸b0J
def t9 (c9B)(h):e1m l (Zg K tl):=h▸mJ hl
def a0i (d09)(h)(c7s):
  PI X ŭ Cd (a4b K ta):=h▸Da hg hm ha hs TZ
def bU (hc)(hh:BS X es t)(h)(c7Q):PG X c1e (zm K n t):=h▸a0k hc hh hn TY
def a31 (h):e6o a2x:=h▸a9J
def Gn (h):Md X mX (λe1r=>∃ x t T b,xs=[x,.ty T]/\ka K H x t/\W.kitOne K t C7=!b/\Q AN H):=h▸b3i
def xk (c8G)(h):PE X Gu (a26 K ta f):=h▸Dg he hb
def a3Y (h):e8m (λe1r=>∃ p ys,xs=uZ/\(e86 ys\/Nu K H p ys)/\∀ l,H l=none->Q kC wU):=h▸b6t
def b0d (d0b)(c7v)(h)(Pg)(QB):PE X b84 (ZN K T r to):=h▸a0o pa slot Yb hm ho Pg QB
def Qp (d0b)(c7v)(ha)(h)(Pg)(a06:((f0L ő).all i0&&(backToKw MA Į).all oW
   && decide b9Q)=true:=ă)(c89):
  PE X b74 (tBM K T r to t):=h▸a3D pa slot Yb hm ho ha Pg a06 QB hs ON
open e
inductive a25 (c:TT)(t u:TS)(D:Ends)(c7w):∀ J:Υ,(∀ σ' H',J σ' H'->D.nx σ' H')->(c σ H λb H1=>if b=true then t { D with nx:=J } σ H1 else u { D with nx:=J } σ H1)
def yz (c9M):PS X BG (a25 tc t u):=by
 ext d2u;let#[J,hJ,h]:=h;show LW (gC hc ha hb ñ s σ H { D with nx:=J } I h) λf s1 q=>?_
 cases f with
 | next=>ext d5A;show#[l9,I',hJ ĉ q]
 | brk=>show q
 | cont=>show q
 | ret v=>show q
variable {t:TA}
theorem Nx (H)(o:HO)(Q):Prop:=∀ p H2,f' H H2->H p=none->H2 p=!o->Q wQ H2
def Nx.at (h:Nx H o Q)(hp:H p=none):Q wQ (d8X p o):=h p _ (b8 ě hp) hp af
theorem a2W (t:TA):TE:=λd95=>t σ H λxs H1=>xs.length<=sizeLine/\Nx H1 (.tup xs) Q
theorem a24 (t:TA):TE:=λd95=>t σ H λxs H1=>xs.length<=sizeLine/\Nx H1 w6 Q
def eY {x1}(h:e6m t):PE X c0v (a2W t):=by intro ñ s σ H Q I hq;show wpAny_Tuple_spliced<|LW (e8n hq) fun us s1 ⟨xs,H1,I1,r,z,q⟩=>#[by rw[<- r.length];show z,?_];ext d2E;show#[z,us,r,#[vj,_,1]]
def du (h:e6m t):e8o (a24 t):=by intro ñ s σ H Q I hq;show wpAny_List_spliced<|LW (e8n hq) fun us s1 ⟨xs,H1,I1,r,z,q⟩=>#[by rw[<- r.length];show z,?_];ext d2E;show#[z,us,(0),r,HG _ rfl]
def NH.imp (h:f0E r)(k:∀ x y H Q,r' x y H Q->r x y H Q):f0E r':=λe1q x y v u Q I rx ry q=>e0t x y v u Q I rx ry (k ą q)
def fC.imp (h:fC X r)(k:∀ x l u H Q,r' x l u H Q->r x l u H Q):fC X r':=λe1q x v vl vu lo hi sl Q I rx hs pl pu q=>e0t x v vl vu lo hi sl Q I rx hs pl pu (k ą _ q)
def Md.imp (h:f0K r)(k:∀ xs H Q,r' xs H Q->r xs H Q):f0K r':=λe1q xs us Q I rx q=>e0t xs us Q I rx XL
inductive D4 (c7i):∀ l b xs zs,x=.ref l->y=.ref b->H l=!.lst xs->H b=!.lst zs->xs.length+zs.length<=sizeLine->Nx H (d9d (xs++zs)) Q
def b25:NH X lC D4:=a0s.imp λd9X gR=>by let#[l,b,xs,zs,wG,h5,q]:=gR;show#[l,b,xs,zs,wG,h5,λ_ hp=>q.at hp]
inductive YQ (c9X):∀ a xs,x=.ref a->LO K H a xs->Nx H b83 Q
def a3e (K)(h):fC X (YQ K):=by subst h;show c1Z.imp λe0i gR=>by let#[a,xs,mh,q]:=gR;show#[a,xs,c6N]
def DG (K)(h):e8m a8U:=
 (a3Y K h).imp λd97 gR=>by let#[p,ys,mh,q]:=gR;show#[p,ys,c6N]
open e
def E8 (hr:LM k A)(h:n<=64:=ö):A.units+n<cLine:=JL (Nat.add_le_add_left h _) hr.units
theorem aJ (l:Addr)(H):Hp:=λb=>if b=l then none else H b
def aF (h:b≠l):aJ l H b=H b:=if_neg h
def Lv:f' (aJ l H) H:=λb o h=>by
 grind [aJ,aF]
def aY (e):f' (aJ l H) (aJ l H'):=λb o h=>by
 by_cases q:b=l
 ·grind [aJ]
 ·rw[aF q]at h ⊢;show e ĉ h
def dc:aJ l (d8X l o)=aJ l H:=by
 funext b;by_cases q:b=l
 ·rw[aJ,aJ,if_pos q,if_pos q]
 ·rw[aF q,aF q,a9 q]
def qz (e)(h:H l=none):f' H (aJ l H'):=λe5M=>by rw[aF<|ak hb h];show e ĉ hb
theorem QP (P)(w):Vu:=λouter H s E e s'=>∃ (ea:Addr)(cls a0:Value)(B:Heap)(H':Hp)(od:ψ),e=.ref ea/\s'.os=s.os/\AllBare s'.gens/\Un (R5 outer) [] H H' s.heap s'.heap/\P6 P w H' s'.heap/\H' ea=none/\s.heap.get? ea=none/\
 Heap.FlyingW B outer ea cls a0 s'.heap/\(∀ b o,s'.heap.get? b=!o->b∉R5 outer->B.get? b=none->s.heap.get? b=none/\H' b=none)/\E cls od H'
def P6.gone (c8Z)(n:h.get? a=none):H a=none:=by
 cases q:H a with
 | none=>rfl
 | some v=>
  let#[o,e]:=fe<|x a v q;rw[n]at e;cases e
def Inv.was (I)(nx:b∉X.ex)(n:s.heap.get? b=none):X.s₀.heap.get? b=none:=by
 cases q:X.s₀.heap.get? b with
 | none=>rfl
 | some o=>
  let#[o',e]:=e3u o q nx;rw[n]at e;cases e
def c0K {B:Heap}(u:Un fs [] H H' h h1)(LJ:e7e H' h1)(hB1:B.StaysIn h1)(hB2)(up:h1.UpToSlots h2)(hfr:∀ b∈fs,∃ o,h1.get? b=!o/\∀ vs,o.data≠.fields vs)(XI:∀ b∈fs,H' b=none)(old:∀ b o,h1.get? b=!o->b∉fs->B.get? b=none->h.get? b=none/\H' b=none):
  Un fs [] H H' h h2/\P6 P w H' h2/\∀ b o,h2.get? b=!o->b∉fs->B.get? b=none->h.get? b=none/\H' b=none:=by
 let in1:∀ b o,h1.get? b=!o->b∉fs->(h.get? b≠none\/H' b≠none)->h2.get? b=!o:=λe0F hb hn=>by
  cases q:B.get? b with
  | none=>
   cbv
  | some o2=>
   ext d7w
   ext d46;show hB2 b _ q
 let slots:∀ b o,h1.get? b=!o->b∈fs->∃ sl,h2.get? b=!{ o with slots:=sl }:=λe0F hb=>by
  let#[o',e',hd]:=hfr b hb;rw[e]at e'
  ext d8o
 show#[#[λe1O=>?_,λe1O=>?_,u.free,λe0F hx=>?_,u.RV,u.R4,u.Rw],c5g]
 ·show in1 b o (e5z hb hx) hb b9x
 ·let#[sl,e1]:=f1R hb hx;ext d47
 ·let#[o',e1]:=e7g o e hx;by_cases hb:b∈fs
  ·ext d5k
  ·show#[o',in1 b o' e1 hb c2d]
 ·show (LJ a v e).MR b0S yY λf2k=>q
  ·grind
  ·grind
 ·cases q:h.get? b with
  | none=>rfl
  | some o'=>
   let#[o2,e2]:=e7g o' q Ė
   cbv
 ·cases q:H' b with
  | none=>rfl
  | some v=>
   let#[o2,e2]:=fe (LJ b v q)
   cbv
structure AS (X:Cx):Prop where
 Vw:X.stack=X.env::X.outer
 frm:X.env.frame=!X.env.locals
 exs:X.ex=[]
def AS.R5 (d0U):L2.R5 X.stack=X.env.locals::X.fs:=by rw[O.Vw];ext1 L2.R5;rw[Kj,O.frm];rfl
def a1g {B:Heap}(d0U)(I)(hB1:B.StaysIn s.heap)(hB2)(up:s.heap.UpToSlots h2)(old:∀ b o,s.heap.get? b=!o->b∉R5 X.stack->B.get? b=none->X.s₀.heap.get? b=none/\H b=none):
  Un X.fs [] X.H₀ H X.s₀.heap h2/\P6 X.prog X.w H h2/\∀ b o,h2.get? b=!o->b∉X.fs->B.get? b=none->X.s₀.heap.get? b=none/\H b=none:=by
 ext d24;let WR:∀ b,b≠X.env.locals->b∉X.fs->b∉R5 X.stack:=λb e1C z=>by
  rw[O.R5]at z
  cbv
 let in1:∀ b o,s.heap.get? b=!o->b∉R5 X.stack->(X.s₀.heap.get? b≠none\/H b≠none)->h2.get? b=!o:=λe0F hb hn=>by
  cases q:B.get? b with
  | none=>
   cbv
  | some o2=>
   ext d7w
   ext d46;show hB2 b _ q
 let slots:∀ b o,s.heap.get? b=!o->b∈X.fs->∃ sl,h2.get? b=!{ o with slots:=sl }:=λe0F hb=>by
  let#[_,o',e',hd]:=I.Q7.mem hb;rw[e]at e'
  ext d8o
 let nx:∀ b,b∉X.ex:=λb=>by rw[O.exs];simp
 show#[#[λe1O=>?_,λe1O=>?_,λe0F n hx=>e3K o e n<|nx b,λe0F hx=>?_,I.base.RV,I.base.R4,I.base.Rw],c5g]
 ·show in1 b o (e20 e n hb<|nx b) (WR b Dv hb) b9x
 ·let#[sl,e1]:=e3z hb<|nx b;ext d47
 ·let#[o',e1]:=e3u o e<|nx b;by_cases hb:b∈X.fs
  ·ext d5k
  ·show#[o',in1 b o' e1 (WR b Dv hb) c2d]
 ·show (e6p e).MR b0S yY λf2k=>q
  ·let:=I.Px c z
   grind
  ·grind
 ·cases q:X.s₀.heap.get? b with
  | none=>rfl
  | some o'=>
   let#[o2,e2]:=e3u o' q (nx b)
   grind
 ·cases q:H b with
  | none=>rfl
  | some v=>
   let#[o2,e2]:=fe<|e80 v q;let nf:b∉R5 X.stack:=λz=>by rw[I.Px b z]at q;cases q
   cbv
def f2D (d0U)(I)(he:s.heap.get? ea=!oe)(hd:oe.data=.fields vs)(h0:vs[0]?=!a0)(h1:vs[1]?=!.none)(hH:H ea=none)(hs0:X.s₀.heap.get? ea=none)(h:E oe.cls oe.dict H):
  wpAny Ē X.A (leaving X.env uA) (d9a uA) E2 s:=by
 let hl:s.heap.FunFrames (W.hideAll s.heap<|ea::R5 X.stack) X.stack:=W.funFrames_hide I.stack λenv he e2h=>He _<|List.mem_filterMap.mpr #[env,he,hb];let hB1:(W.hideAll s.heap<|ea::R5 X.stack).StaysIn s.heap:=λe32=>f1Q q;let hB:(W.hideAll s.heap<|ea::R5 X.stack).get? ea=none:=W.hideAll_none _<|Hi ..;show wpAny_leaving_firstW (by rw[I.ok.frames,O.Vw]) (by rw[O.Vw]at hl ⊢;show hl) O.frm he hB1 hB hd h1 h0 λXH gR=>?_;let#[k1,#[_,_,k2],k3,k4]:=gR;let#[u,LJ,old]:=a1g O I hB1 k1 k4 (λe0F hb hBb=>by
  by_cases Yh:b=ea
  ·rw[Yh];show#[hs0,hH]
  ·rw[W.hideAll_get _ e λz=>(Hs.mp z).elim Yh hb]at hBb;cases hBb)
 show#[ea,_,a0,_,H,_,1,I.os,I.bare,u,LJ,hH,hs0,#[k1,hB,k2,k3],old,h]
def c33 (d0U)(I:d9Z Hc s)(h:e7m Hc s E e s'):
  wpAny Ē X.A (leaving X.env e) (d9a e) E2 s':=by
 let#[ea,c4o,hE]:=h;let I1:=I.Sm os u LJ bare λb z=>e6q Ė;let none_of:∀ b,s.heap.get? b=none->X.s₀.heap.get? b=none:=λb=>I.was (by rw[O.exs];simp);show wpAny_leaves_onW (by rw[I.ok.frames,O.Vw]) O.frm (O.Vw▸fl) λXH fl2 up=>?_;let#[u2,a8Q,a7Z]:=a1g O I1 fl.1 fl2.1 up (λe0F hb hB=>let ⟨z1,z2⟩:=old b o e hb hB;#[none_of b z1,z2]);show#[ea,cls,a0,B,H',od,1,I1.os,I1.bare,u2,a8Q,VJ,none_of ea hsc,fl2,a7Z,hE]
theorem c5B (X)(c9l):Prop:=∀ (ñ:ζ)(σ:St)(H:Hp)(s:Ê)(e:Value)(s':Ê),d9Z H s->e7m H s (W σ) e s'->X.xe e s'
theorem c5x (X)(c9l):Prop:=∀ (ñ:ζ)(σ:St)(H:Hp)(s:Ê)(ea:Addr)(oe:Obj)(vs:Ó)(a0:Value),d9Z H s->s.heap.get? ea=!oe->oe.data=.fields vs->vs[0]?=!a0->vs[1]?=!.none->H ea=none->X.s₀.heap.get? ea=none->W σ oe.cls oe.dict H->X.xe uA s
variable {K:Ψ}
def mL:AS a6R:=#[3]
def a0u:c5B a56 xS:=λñ σ Hc sc e s' I h=>c33 mL I h
def c4u:c5x a56 xS:=λñ σ Hc sc ea oe vs a0 I he hd h0 h1 hH hs h=>f2D mL I he hd h0 h1 hH hs h
def OR.okX (c8u)(len)(O4:∀ (Lr:Value)(A:Ë)(outer:List Env)(s:Ê)(H:Hp)(vs:π)(Q:VK)(E:XK),LM k ĕ->e1d E->
   ∃ t,Q1 Ľ CQ t/\t { nx:=λ_ H'=>e2P H',rt:=Q } ů H):e1B sp:=by
 ext d6P;ext d3h
open e
theorem DfX (d1L)(sp):Prop:=
 ∃ f fd,mg x=!.ref f/\W.keepIn K Fr=true/\YX K fd ps []/\LX P w K mg base Ce k f fd ps sp
variable {sp:Sp}{t:TA}{W:St->XK}
theorem RX (sp)(c9l)(t:TA):TE:=λd95=>t σ H λe5u=>sp vs H1 Q (W σ)
def c4v (c8s)(hb:YX X.K fd ps [])(d12)(c9C)(h:e1d (W σ)):e5j s:=by
 let hl:(us++[]).length=ps.length:=by rw[HD,<- r.length];ext d6y
 let RM:=hb s us I.Ow hl;rw[HD]at RM;show KB (d8N us vs _ RM r)
 cases r with
 | error e=>ext d4K
 | ok fl=>
  cases fl with
  | ret u=>show I.after hq
  | next=>ext d2Y
  | brk=>ext d2Y
  | cont=>ext d2Y
def a1I (d12)(D:DfX X.prog X.w X.K X.mg X.base k x ps sp)(c9O):
  PE X ę (RX sp W t):=by
 let#[zH,hm,hk,hb,F]:=D;ext d2F;show c4v F hr hb hx I1 r q
open e
abbrev wD:θ:=[.type "ValueError",.type "Exception",.type "BaseException",.type "object"]
theorem a2M (us):Obj:={ cls:=.type "tuple",data:=.seq us.toArray }
theorem Gy (C t:Addr):Obj:={ cls:=.ref C,data:=.fields [.ref t,.none,.none,.none,.bool false,.none].toArray }
theorem b1z (c8Q)(C)(us):Heap:=(h.push (a2M us)).push (Gy C h.objs.size)
def fQ:∀ b o,h.get? b=!o->(f0O us).get? b=!o:=λ_ _ e=>Ha _ (Ha _ e)
def c3y:(f0O us).get? (h.objs.size+1)=!Gy C h.objs.size:=by
 ext1 b1z Gy a2M
 heap_get
def f2F:Heap.MadeExcOf h (f0O us) (h.objs.size+1) yN us:=
 #[fQ,Heap.get?_none_of_le<|KK _,h.objs.size,c3y,Heap.get?_none_of_le<|Hl _,Ha _ b4H]
variable {fI:Addr}
def pQ (c7n)(k:∀ h' e,e2o e yN us->e85 A b3Y (λr s'=>r=.none/\Q (.done (.ret wg)) s') E { s with heap:=h' }):
  wpAny Ū A (Builtin.«type.__call__» c2e) Q E s:=by
 let#[h,ZP]:=s;repeat (first|with_reducible show wpAny_madeBy_exc hC ?_|with_reducible show Kr hC ?_|wp_step)
 show codeAny_call_builtin_code (JO _ F.quiet) (wpAny_check_new_subT F T hC (codeAny_exc_new_subT F T hC ?_ hz));change wpAny ą _ #[f0O us,ZP];let hC':=fQ (C:=C) (us:=us) C _ hC;let hme:(Value.ref C::tl).contains yN=true:=by simp
 let hN':(f0O us).Ns N mN:=by let#[lH,e,r]:=hN;show#[lH,fQ ĉ e,r]
 let hx:=c3y (h:=h) (C:=C) (us:=us);unfold Gy at hx;repeat (first|(with_reducible show wpAny_isSubtype_exc hC' ?_;rw[hme])|with_reducible show Kr hx ?_|wp_step)
 show wpAny_typeLookup_tail hC' hN' (T.keeps fQ) F.mroIs F.init.lookup ?_;rw[hI];show Io (GU ?_);show GU (KY #[_,fQ ĉ hf,hfc] ?_);show Hk<|GU (II (k _ _ f2F) (λr s' hr=>?_) λf0s=>x);let#[1,hQ]:=hr
 wp_walk
 show hQ
def Vis (c7n)(k:∀ h' e,e2o e yN us->e85 (d9z c2e) b3Y (λr s'=>r=.none/\Q wg s') E { s with heap:=h' }):
  wpAny Ū A (call yN us) Q E s:=by
 let f1:=tc_lookup;let f2:=tc_bind<|.ref C;let#[h,ZP]:=s;show KB (codeAny_of_tree ?_);repeat (any_goals (first|with_reducible show Kr hC ?_|assumption|wp_step))
 show#[1,codeAny_call_builtin_at (JO _<|by decide +kernel) entry_typeCall<|wpAny_check_type_call_sub hC (pQ F T hC hN hI hf hfc hz λh' e mk=>k h' e mk)]
open e
open PySem.Calls PySem.W
open PySem.Builtin PySem.Builtin.ObjectAttr
theorem tH:List Value->Bool
 | []=>false
 | .ref _::r=>tH r
 | v::r=>(v::r)==wD
def a1P (h:(l==wD)=true):l=wD:=Jv.mp h
instance kM (self:Value):∀ (l:θ),tH l=true->refuseLoop self "__setattr__" l=pure ():=by
 intro r'
 induction r' with
 | nil=>
  intro e
  cases e
 | cons v r ih'=>
  intro e
  cases v
  case ref c=>rw[refuseLoop_ref];show ih' e
  all_goals
   let e':=a1P e;rw[e'];show F.store_ValueError.passes self
instance yi:∀ (l:θ),tH l=true->l.contains (.type "object")=true:=by
 intro r'
 induction r' with
 | nil=>
  intro e
  cases e
 | cons v r ih'=>
  intro e
  cases v
  case ref c=>rw[List.contains_cons,ih' e,Bool.or_true]
  all_goals
   let e':=a1P e;rw[e'];decide
theorem jT (K:Frag)(C):Bool:=(clsIn K C).any λcd=>tH cd.mro
def FK (c8q)(W8:ox.dict=none)(c8t)(h:∀ h' WA,h'.get? x=!{ ox with dict:=some s.heap.objs.size }->h'.Ns1 s.heap.objs.size (λy=>if y=name then some v else none)->(∀ b o,b≠x->s.heap.get? b=!o->h'.get? b=!o)->R Oj { s with heap:=h',toks:=WA }):
  codeAny ē A b0z R s:=by
 ext d7x;let I:InstAt s.heap x ox C none:=#[hx,SE,by ext1 notCls;rw[QZ],by rw[W8];trivial]
 ext d7P;let ne:cd.mro.isEmpty=false:=by cases q:cd.mro with|nil=>rw[q]at ho;cases ho|cons _ _=>rfl
 let sub:e21 (isInstance rR<|.type "object") true:=I.type.andThen<|looks_mroIn X (by ext1 mroIn;rw[hc,Option.bind_some,if_neg (by rw[ne];decide),yi _ ho]);show codeAny_call_builtin SF.slot.plain SF.entry (@check_slot ē ĉ s "object.__setattr__" "object" "__setattr__" rR c2f [] _ SF.kind SF.split sub (SF.args rR (f0P tk) v) ?_);ext d2H;let L3:e21 c0z none:=by
  cases attr with
  | none=>show .now
  | some a=>
   ext d3Y
   cases b with
   | true=>cases e
   | false=>show .now
 ext d2Z;let#[U0,ZP]:=s;let#[ES]:=ox;dsimp only at SE QZ W8;ext d5O;let hx₁:(U0.push { cls:=.type "dict",data:=.dict [].toArray }).get? x=!{ cls:=.ref C,data:=.fields vs,slots:=Nq }:=Ha _ hx;let hxs:x≠U0.objs.size:=HR<|HF hx;show GU (wpAny_alloc' ?_);show GU (wpAny_update' hx₁ ?_);ext d7u;let hgd:((U0.push { cls:=.type "dict",data:=.dict [].toArray }).update x λo=>{ cls:=o.cls,dict:=!U0.objs.size,data:=o.data,slots:=o.slots }).get? U0.objs.size
   = !{ cls:=.type "dict",data:=.dict [].toArray }:=
  (e6r _ hxs.symm).trans b4H
 let UZ:((U0.push { cls:=.type "dict",data:=.dict [].toArray }).update x λo=>{ cls:=o.cls,dict:=!U0.objs.size,data:=o.data,slots:=o.slots }).Ns U0.objs.size (λ_=>none):=
  #[_,[].toArray,_,hgd,1,λe he=>absurd he<|by simp,λ_=>rfl]
 change wpAny ĉ (storeInDict U0.objs.size (f0P tk) name v) Ĉ;ext1 storeInDict newKeyGuard;show GU<|Hk (GU (wpAny_nsSet1 (Heap.Ns1.of_empty UZ) λh' VI hs=>?_));let#[As]:=VI.count<|Within.cons name v Within.nil;show GU (e3q (by rw[hdD];show pastItsLine_dict<|HH hcD (by cbv)) ?_);show Hk (h h' _ ?_ VI λb ob hbx hb=>?_)
 ·show (hs.2 x hxs).trans (JW _ hx₁ rfl)
 ·show (hs.2 b<|HR (HF hb)).trans ((e6r _ hbx).trans<|Ha _ hb)
theorem oY (ea C:Addr)(od:ψ)(c8Q):Prop:=∃ o vs a0,h.get? ea=!o/\o.cls=.ref C/\o.data=.fields vs/\vs[0]?=!a0/\vs[1]?=!.none/\o.dict=od
theorem BW (ea C:Addr):HO:=.ext (oY ea C none)
theorem xq (ea C dx:Addr):HO:=.ext (oY ea C !dx)
def c1Q (x:oY ea C od h):f1O ea (.ext (oY ea C od)):=by let#[o,vs,a0,ho,r]:=id x;show#[x,#[o,ho],λe1C gR k=>(by let#[o1,vs1,a1,oA]:=gR;show#[o1,vs1,a1,k o1 q1,q2])]
def bA:aJ l H l=none:=if_pos rfl
structure mH (K:Frag)(c7r)(f:Str):Prop where
 sa:findIn K yN "__setattr__"=!some Ĝ
 ov:jT K C=true
 tk:takerIn K C f=!none
 hd:hasDictIn K C=true
variable {X:Cx}{σ:St}{H:Hp}
def c0y (I)(e:H ea=!BW ea C)(T:mH X.K C f)(ry)(h:∀ dx s',H dx=none->dx≠ea->d9Z (upd (d8X dx (.xd [(f,y)])) ea (xq ea C dx)) s'->Q () s'):e2n c1n Q E s:=by
 let#[c5E]:=id<|(I.LJ ea _ e).1;let IA:InstAt s.heap ea ox C none:=#[hx,hc,by ext1 notCls;rw[hd],by rw[W8];trivial]
 show set_plain I.Ow IA T.sa (FK I.Ow hx hc hd W8 T.ov T.tk T.hd λh' WA Te VI hk=>?_);let dn:=I.LJ.fresh<|Hl _;let ne:=IV<|HF hx;show h s.heap.objs.size _ dn ne (I.Sm (ch:=[]) rfl ?_ ?_ I.bare λb z=>absurd z<|by simp)
 ·let old:∀ b,H b≠none->b≠ea->upd (upd H s.heap.objs.size<|.xd [(f,y)]) ea (xq ea C s.heap.objs.size) b=H b:=λe2h Yh=>by rw[a9 Yh,a9 λz=>hb (by rw[z];show dn)]
  show#[c28]
  ·show hk b o (λz=>by rw[z,e]at n;cases n) q
  ·show#[o.slots,hk b o (λz=>by rw[z,e]at n;cases n) q]
  ·rw[a9 (λz=>by rw[z,e]at n;cases n),a9<|HR (HF q)];show n
  ·by_cases hb:b=ea
   ·rw[hb];show#[_,Te]
   ·show#[o,hk b o hb q]
  ·ext d4E
  ·ext d4E
  ·show#[[].toArray,by rw[old b wc (λz=>by rw[z,e]at q;cases q)];simpa using q]
 ·intro a v q;by_cases ha:a=ea
  ·rw[ha,af]at q
   cases q;rw[ha];show c1Q #[_,vs,a0,Te,hc,hd,h0,h1,1]
  ·rw[a9 ha]at q;by_cases hb:a=s.heap.objs.size
   ·rw[hb,af]at q
    ext d4x
    ·ext d3J
    ·rw[if_neg hg];let:(g==f)=false:=by simpa using hg
     ext d7Q;show Jw
   ·rw[a9 hb]at q;show (e6p q).MR b1O (λc OE=>?_) λc xs OE=>?_
    ·rcases OE with OE|OE
     ·show ha (OE▸z2)
     ·rw[z2,e]at OE;cases OE
    ·ext d3c
    ·ext d3c
inductive a5H (c7r)(c8f):∀ ea,x=.ref ea->H2 ea=!BW ea C->(∀ dx,H2 dx=none->dx≠ea->D.nx σ (upd (upd H2 dx (.xd [(f,y)])) ea (xq ea C dx)))
theorem a3i (C)(ta tv:TE)(f):TS:=λe3t=>tv σ H λy H1=>ta σ H1 λx H2=>a5H C f D σ y x H2
def zY (c7l):PS X lx (a3i C ta tv f):=by ext d5M;let#[x,Bs,rx,ea,ex,he,q2]:=gR;ext d5B;show c0y I2 he T ry λdx s3 e1C I3=>#[σ,_,I3,q2 dx h1 h2]
def Inv.XS (I)(e:H ea=!.ext φ):d9Z (aJ ea H) s:=by
 let hd:∀ b,b≠ea->aJ ea H b=H b:=λe2h=>aF hb;show#[c5k,#[I.base.keep,I.base.slot,λe32 n hx=>?_,I.base.there,λb xs q=>?_,λb o u q=>?_,λb ps q=>?_],I.loc,I.cell,?_,λx c q=>?_,λe7V=>?_,λa v q=>?_,I.len]
 ·by_cases hb:b=ea
  ·ext d7y
  ·rw[hd b hb];show I.base.free b o q n hx
 ·let:=e5x q;ext d6a
 ·let:=e8f o u q;ext d6a
 ·let#[more,this]:=e5y q;show#[more,by rw[hd b λz=>by cbv];show this]
 ·by_cases hb:X.env.locals=ea
  ·ext d7y
  ·rw[hd _ hb];show I.free
 ·by_cases hb:c=ea
  ·ext d7y
  ·rw[hd _ hb];show I.N4 x c q
 ·let#[CK]:=f0D hp;show#[q1,?_,q3];by_cases hb:p.1=ea
  ·ext d7y
  ·rw[hd _ hb];show q2
 ·let ha:a≠ea:=λz=>by rw[z,bA]at q;cases q
  rw[hd a ha]at q;show (e6p q).MR (λc v' _ z=>z) (λc hc=>?_) λc xs hc=>?_
  ·rw[hd c λz=>by cbv];show hc
  ·rw[hd c λz=>by grind];show hc
open e
theorem A5 (K:Frag)(C f:Addr):Bool:=match K.lookup C with
 | some o=>(match o.data with
  | .cls cd=>o.cls==.type "type"&&cd.mro.head?==some yN&&o.slots.size==6&&o.slots[4]?==some (!.builtin "ValueError.__new__")&&not cd.hasDel&&tailIn K wD cd.mro.tail&&nsOkIn K cd.ns&&nsIn K cd.ns "__init__"==!some Fr
  | _=>false)
 | none=>false
instance yS {K:Frag}(X:K.In h)(G:h.Ns N mg)(e:nsIn K N n=!some v):mg n=!v:=by
 let#[o,es,ep,ho,hd,_,hf]:=G;unfold nsIn at e;split at e
 ·rename_i q;let:=X ĉ q;rw[this]at ho
  cases ho
  cases hd;split at e
  ·rename_i he
   cases e;rw[<- hf];ext1 nsFind findBy
   cbv
  ·cbv
 ·cases e
def a4B {K:Frag}(X:K.In h)(q:A5 K C f=true):
  ∃ bm N nm q bs hdct sn sub ab col dd k0 k1 k2 k3 k5 mN,K.lookup C=!excClassObj nm q C N bs bm hdct sn sub ab col dd k0 k1 k2 k3 k5 "ValueError.__new__"/\h.Ns N mN/\mN "__init__"=!.ref f/\OwnTail h wD bm:=by
 unfold A5 at q
 cases ho:K.lookup C with
 | none=>rw[ho]at q;cases q
 | some o=>
  rw[ho]at q;let#[oc,dd,da,sl]:=o
  cases da with
  | cls cd=>
   simp only[IL,Jv,K2]at q;let#[#[#[#[#[#[#[1,hm],hz],hs],a4Q],ht],LJ],hni]:=q;let#[nm,bs,mro,ns,qn,hd,sn,sub,ab,col,del]:=cd;dsimp only at hm a4Q LJ hni ht;subst a4Q;obtain⟨bm,rfl⟩:∃ bm,mro=.ref C::bm:=by
    cases mro with
    | nil=>cases hm
    | cons x bm=>cases hm;show#[bm,1]
   let#[l]:=sl;let hz:l.length=6:=hz;let hs:l[4]?=!(some<|.builtin "ValueError.__new__"):=by simpa using hs
   let e:l=[l[0]'#[],l[1]'#[],l[2]'#[],l[3]'#[],l[4]'#[],l[5]'#[]]:=List.ext_getElem hz λi e1C=>by
    let:i<6:=by simpa using h2
    rcases i with _|_|_|_|_|_|i<;>first|rfl|lia
   rw[GT<|by lia]at hs;rw[Option.some.inj hs]at e;show#[bm,ns,nm,qn,bs,hd,sn,sub,ab,col,dd,_,_,_,_,_,_,by rw[e],.of_isNs<|isNs_of_in X LJ,yS X (.of_isNs<|isNs_of_in X LJ) hni,tail_of_in X ht]
  | _=>cases q
structure a2z (K:Frag)(C f:Addr):Prop where
 own:A5 K C f=true
 fn:isFn K Fr=true
 kp:keepIn K yN=true
theorem DiX (P)(w)(K:Frag)(mg)(base)(k:Nat)(x)(C)(ps)(sp):Prop:=
 ∃ f fd,mg x=!.ref C/\a2z K C f/\YX K fd ps []/\LX P w K mg base MY k f fd ps sp
def a8M {sub:θ}(Pg:bm.contains b6R=true)(hh)(h:e1Y x (λv s₁=>∃ e oe vs,v=.ref e/\s₁.heap.get? C=!excClassObj nm q C N bs bm hdct sn sub ab col dd k0 k1 k2 k3 k5 newId/\s₁.heap.get? e=!oe/\oe.cls=.ref C/\oe.data=.fields vs/\vs[1]?=!.none/\E wg s₁) E s):
  wpAny M A (raiseStmt env (!x) none) Q E s:=by
 let hcB:(Value.ref C::bm).contains b6R=true:=by rw[List.contains_cons,Pg,Bool.or_true]
 show GU (II h (λv s₁ h₁=>?_) λf0s=>x);let#[e,oe,vs,1,hC,he,hc,hd,h1,hE]:=h₁;let#[EW]:=s₁;let#[ES]:=oe;subst hc hd;repeat (first|with_reducible show Kr he ?_|with_reducible show Kr hC ?_|(with_reducible show wpAny_isSubtype_exc hC ?_;rw[hcB])|wp_step)
 rw[h1];ext d7u;show Hk (wpAny_raiseNew_none hh hE)
variable {C:Addr}{sp:Sp}{t:TA}{W:St->XK}
def Inv.a3W (I)(mk:e2o ea yN us):d9Z (d8X ea (BW ea C)) { s with heap:=h' }:=by
 let hH:=I.LJ.gone mk.new;let#[t,he,htn,ht]:=mk.there;let up:∀ b o,H b=!o->upd H ea (BW ea C) b=!o:=λe32=>by rw[a9<|ak q hH];show q
 show I.Sm (s':={ s with heap:=h' }) (ch:=[]) rfl #[λe32 n hb hx=>e7n q,λe32 n hb hx=>#[o.slots,e7n q],λe32 n hx=>?_,λe32 hx=>#[o,e7n q],λb xs q=>up b _ q,λb o u q=>up b _ q,λb ps q=>#[[].toArray,by rw[up b _ q];simp]] (λa v q=>?_) I.bare λb z=>e6q Ė
 ·rw[a9 (λz=>by rw[z,mk.new]at q;cases q)];show n
 ·by_cases ha:a=ea
  ·rw[ha,af]at q
   cases q;rw[ha];show c1Q #[CD,he,5]
  ·rw[a9 ha]at q;show (e6p q).MR (λc w' _ z=>mk.keeps c w' z) (λc hc=>up c _ hc) λc xs hc=>up c _ hc
theorem F8 (c9l)(C)(sp)(t:TA):TS:=λ_ σ H=>t σ H λe5u=>vs.length<=sizeLine/\∀ ea,H1 ea=none->
 sp (.ref ea::vs) (f0N ea (BW ea C)) (λv H2=>v=.non/\∃ dx,H2 ea=!xq ea C dx/\W σ yN (!dx) (aJ ea H2)) E0
def Bc (d0U)(hc)(hw:c5x X W)(c7j)(D:e22 sp)(c7S)(ha)(c86):
  PS X a89 (F8 W C sp t):=by
 let#[zH,hm,M,hb,F]:=D;intro ñ s σ H D' I h;let#[tl,N,nm,qn,bs,hdct,sn,sub,ab,col,dd,k0,cZ,k5,mN,hC,hN,hni,T]:=a4B I.Ow M.own;let a4T:d93 (d8O (.Call (.Name x np) ke [] MA)) (λv s₃=>∃ e oe vs,v=.ref e/\s₃.heap.get? C=!excClassObj nm qn C N bs tl hdct sn sub ab col dd k0 k1 k2 k3 k5 "ValueError.__new__"/\s₃.heap.get? e=!oe/\oe.cls=.ref C/\oe.data=.fields vs/\vs[1]?=!.none/\X.xe wg s₃) X.xe s:=by
  show IC uz;show callWith_K (h₀:=X.base) I.ok.mod.Y8 M.kp (LW (ha MA ñ s σ H _ I h) fun us s1 ⟨vs,H1,I1,r,hz,q⟩=>#[I1.Ow,?_]) TY Of;let#[tl1,N1,nm1,qn1,bs1,b1J,sn1,b3r,ab1,b7M,dd1,l0,l1,l2,l3,l5,mN1,hC1,hN1,a8X,T1]:=a4B I1.Ow M.own;let#[of,hof,a8S]:=HN.mp<|show typeIn X.K (.ref f)=some (.type "function") from Jv.mp M.fn;show Vis PySem.F.excBase_ValueError T1 (I1.Ow ĉ hC1) hN1 a8X (I1.Ow ĉ hof) a8S (by change us.length<=sizeLine;rw[<- r.length];show hz) λh' ea mk=>?_;let VJ:=I1.LJ.gone mk.new;let hs0:=I1.was (by rw[O.exs];simp) mk.new;let I2:=I1.a3W mk;let hq:=q ea VJ;let r2:sY (V.ref ea::vs) Ak:=f0H r;let hl:(Ak++[]).length=ps.length:=by rw[HD];let e:=r2.length;ext d5Z
  let RM:=hb _ Ak I2.Ow hl;rw[HD]at RM;show KB (K8 (e8k #[Value.ref ea::us,[]] Ak ĉ E0 c1j b82 RM r2 hq) λr s' RK=>?_)
  cases r with
  | error e=>ext d3r
  | ok fl=>
   cases fl with
   | ret u=>
    let#[v,H',I3,rv,ev,dx,hM,hW]:=I2.after RK;subst ev;show#[rv,?_];let#[oe,ws,a0,he,SE,hda,h0,h1,hdi]:=id<|show oY ea C (!dx) s'.heap from (I3.LJ ea _ hM).1;show#[ea,oe,ws,1,I3.Ow ĉ hC,he,SE,hda,h1,hw ñ σ _ s' ea oe ws a0 (I3.XS hM) he hda h0 h1 bA hs0 ?_];rw[SE,hdi];show hW
   | next=>ext d3r
   | brk=>ext d3r
   | cont=>ext d3r
 rw[arm_exec_Raise];show GU (JU<|a8M (C:=C) (nm:=nm) (q:=qn) (N:=N) (bs:=bs) (bm:=tl) (hdct:=hdct) (sn:=sn) (sub:=sub) (ab:=ab) (col:=col) (dd:=dd) (k0:=k0) (k1:=k1) (k2:=k2) (k3:=k3) (k5:=k5) (T.hasType PySem.F.excBase_ValueError.hasBase) ń (GU<|II a4T (λv s₃ h₃=>GU<|JU (Hk h₃)) λf0s=>x))
open e
abbrev Cx.more (X:Cx)(pn:ζ):Cx:={ X with pn:=X.pn++pn }
theorem Cx.a2P (X)(pn:ζ)(c9l):Cx:=(X.more pn).Ru λe s'=>∃ ñ σ Hc sc,Inv (X.more pn) ñ σ Hc sc/\QP X.prog X.w X.stack Hc sc (W σ) e s'
theorem Cx.Sk (X)(ea:Addr)(pn:ζ):Cx:={ X with A:=X.A.mark !.ref ea,calm:=false,pn:=X.pn++pn,xe:=λ_ _=>False }
def a0t {X:Cx}:c5B (X.a2P pn W) W:=λñ σ H s e s' I h=>#[ñ,σ,H,s,I.Nb,h]
def Inv.ZG (I):Inv b9y [] σ H s:=
 #[#[c3u,I.ok.hd,c3t],I.os,I.bare,I.base,I.loc,I.cell,I.free,I.N4,λe7V=>I.pin p<|by simpa using hp,I.LJ,I.len]
def Inv.TC (ok:X.Ok)(I:f0Q s):d9Z H s:=
 a2v
def Inv.Tt {X:Cx}(I:f0Q s):Inv (X.Sk ea ñ) [] σ H s:=
 #[#[c3u,İ,c3t],I.os,I.bare,I.base,I.loc,I.cell,I.free,I.N4,
  λe7V=>I.pin p<|HK _ (by simpa using (show p∈(X.pn++ñ)++[] from hp)),I.LJ,I.len]
def Inv.RI (ok:X.Ok)(I:Inv (X.Sk ea ñ) [] σ H s):d9Z H s:=
 a2v
variable {κ:Type}[DecidableEq κ]
theorem cU (d1y):Ç:=(ķ.find? λkv=>decide tO).map (·.2)
theorem dY (d1y)(v):List (κ×V):=
 if wF=true then ķ.map (λkv=>if kv.1=k then wE else kv) else ķ++[(k,v)]
theorem lQ (d1y):List (κ×V):=ķ.filter λkv=>decide (kv.1≠k)
def b3j (d0G)(e:p.1=k):cU (p::r) k=!p.2:=by simp[cU,Jg,e]
def c3Z (d0G)(e:¬ p.1=k):cU (p::r) k=cU r k:=by simp[cU,Jg,e]
def b0M (k:κ):∀ ķ:List (κ×V),wF=(cU ķ k).isSome
 | []=>rfl
 | p::r=>by
  rw[KI];ext d6n
  ·simp_all [b3j,Bool.true_or,Option.isSome_some]
  ·simp_all [c3Z,Bool.false_or,b0M]
def emp (d1y)(v):(f0R v).length<=ķ.length+1:=by
 ext1 dY;split
 ·cbv
 ·cbv
def gX {ķ:List (κ×V)}{k:κ}(v)(h:cU ķ k=none):f0R v=ķ++[(k,v)]:=by
 ext1 dY;rw[b0M,h]
 cbv
def Qa.Td (r:Qa o u):o.isSome=u.isSome:=by
 cases o with
 | none=>cases u with
  | none=>rfl
  | some _=>ext d8l
 | some _=>cases u with
  | none=>ext d8l
  | some _=>rfl
def KV.val (c8N):Qa (cU ķ k) (valueAt vs k):=by
 induction r with
 | nil=>show Jw
 | @cons p q ps qs h t ih=>
  ext d7R;ext d6n
  ·let e':=h1.symm.trans e;let b:f0S k=!q.2:=by simp[valueAt,e']
   rw[b3j e,b];show h2
  ·ext d6b;let b:f0S k=valueAt qs k:=by simp[valueAt,Jg,e']
   rw[c3Z e,b];show ih
def KV.any (c8N):wF=vs.any λkv=>decide tO:=by
 induction r with
 | nil=>rfl
 | cons h t ih=>cbv
def KV.a7s (c8N)(ry):
  KV (d9E ķ.map y) (d9E vs.map u):=by
 induction r with
 | nil=>show .nil
 | @cons p q ps qs h t ih=>
  show .cons ?_ ih;ext d7R;ext d6n
  ·cbv
  ·cbv
def KV.put (c8N)(ry):KV (f0R y) (stored vs k u):=by
 ext1 dY stored;rw[r.any k];by_cases e:(vs.any λkv=>decide tO)=true
 ·rw[if_pos e,if_pos e];show r.a7s k ry
 ·rw[if_neg e,if_neg e];show Paired.snoc r #[1,ry]
def KV.drop (c8N):KV (lQ ķ k) (without vs k):=by
 ext1 lQ without
 induction r with
 | nil=>show .nil
 | @cons p q ps qs h t ih=>
  ext d7R;rw[IK,IK];ext d6n
  ·cbv
  ·ext d6b;let a:decide (p.1≠k)=true:=by simp[e]
   let b:decide (q.1≠k)=true:=by simp[e']
   rw[if_pos a,if_pos b];show .cons #[mh] ih
def KV.length (r:KV ķ vs):ķ.length=vs.length:=Paired.length r
def Em (d1y):(lQ ķ k).length<=ķ.length:=HJ ĉ
open e
def jN (r:rp ky u):(aP P w).is k u=true:=by
 cases k with
 | inl i=>let⟨t,e⟩:=r;subst e;show c5h P w i t
 | inr x=>let⟨t,e⟩:=r;subst e;show b8t P w x t
def a0R (e:kV a=kV b):a=b:=by
 cases a with
 | inl i=>cases b with
  | inl j=>ext d5H
  | inr y=>show nomatch (e)
 | inr x=>cases b with
  | inl j=>show nomatch (e)
  | inr y=>ext d5H
def a6a:∀ {ks:List Ws}{us:θ},sY (ks.map kV) us->ItemsAre DV ks us:=by
 intro r'
 induction r' with
 | nil=>
  intro _ r;rw[IP]at r;cases r;show .nil
 | cons k ks ih'=>
  intro _ r;rw[HE]at r
  cases r with
  | cons h t=>show .cons (jN h) (ih' t)
abbrev KT (H:Hp):List su->List nY->Prop:=Paired λp q=>p.1=q.1/\H q.2.1=!.tup (p.1.map kV)/\rp p.2 q.2.2
def YO (c8S)(e:e7f u):f1O a u:=e.ok ok
def se (c8S)(e:e7f lJ):ķ.length<=sizeLine/\(a==sysModules)=false/\∃ vs,KV ķ vs/\h.DictOf DV a vs:=
 YO ok e
def Eo (c8S)(d0e):ķ.length<=sizeLine/\(a==sysModules)=false/\∃ vs,KV ķ vs/\h.DictOf DV a vs:=se ok (.inl e)
def a0O (c8S)(e:H a=!.tup (ks.map kV)):(tupleKind DV).is h ks a:=by
 let#[_,its,r,o,mh,n,h3]:=(ok a _ e)
 show#[o,its.toArray,n,ic,by simpa using a6a r]
def a5i (c8S)(e:e7f (.dT ķ)):ķ.length<=sizeLine/\(a==sysModules)=false/\
  ∃ xs,KT H ķ xs/\h.DictOfH (tupleKind DV) a xs:=by
 let#[z,y,xs,r,lH,wG,h5]:=(YO ok e)
 show#[z,y,xs,r,lH,wG,λe0M=>?_,h5];let all:∀ {l:List su}{m:List nY},KT H l m->∀ x∈m,(tupleKind<|aP P w).is h x.1 x.2.1:=by
  intro l m q
  induction q with
  | nil=>cbv
  | @cons p q ps qs hq t ih=>
   ext d7z;rcases Hs.mp hx with e|hx
   ·show a0O ok ĝ
   ·show ih x hx
 show all r x hx
theorem PY (H)(c9s)(y:V)(r:Ç):Prop:=∃ ķ k,e7f lJ/\y=kV k/\r=cU ķ k
theorem Uo (H)(c9s)(y v:V)(H':Hp):Prop:=∃ ķ k,H a=!.dK ķ/\y=kV k/\ķ.length<sizeLine/\H'=f0A c1o
def PY.k {k:Ws}(d0e):PY H a ky (cU ķ k):=#[ķ,k,.inl e,2]
def Uo.k {k:Ws}(d0e)(hl:ķ.length<sizeLine):Uo H a ky v (d8X a c1o):=#[ķ,k,e,1,hl,1]
def Inv.big (I):sysModules<s.heap.objs.size:=by let h:=(I.mod.glob.keeps I.bk).lt;show Nat.lt_trans Ĺ h
def sf (c8I)(g:PY H a y !v)(ry)(h:∀ w' s',d9Z H s'->e4O w'->Q w' s'):
  wpAny Ē A (getItem gq u) Q E s:=by
 ext d3Z;let#[w',hw,Tx]:=Qa.some_of (by rw[l];show rel.val k);show wpAny_getItem_of tE dd.mapOf hw (h w' _ vq Tx)
def a93 (c8I)(d13)(ry)(h:∀ s',d9Z H s'->Q (.bool o.isSome) s'):
  wpAny Ē A (compareOp .In u gq) Q E s:=by
 ext d3Z;show wpAny_in_of tE hd dd.mapOf ?_;ext d5C
def a20 (c8I)(d13)(ry)(h:∀ s',d9Z H s'->Q (.bool (not o.isSome)) s'):
  wpAny Ē A (compareOp .NotIn u gq) Q E s:=by
 ext d3Z;show wpAny_notIn_of tE hd dd.mapOf ?_;ext d5C
def b8e (I)(mu:wR (H a))(d0Q)(he:∃ q,h'.get? a=!q)(new:e2z (d8X a ob) h' a ob):
  Inv X ñ σ (d8X a ob) { s with heap:=h',toks:=t' }:=
 I.write mu Ķ (λb q hb z=>(hs.2 b hb).trans z) he new
def zt (z:ķ.length<=sizeLine)(hd:(a==sysModules)=false)(rel:KV ķ vs)(dd:h'.DictOf DV a vs):
  LP P w H' h' a lJ:=#[BX]
def b73 (c8I)(g:Uo H a y v H')(ry)(rv:e4O r)(h:∀ s',e6d s'->Q () s'):
  wpAny Ē A (setItem gq u r) Q E s:=by
 let#[c5T,1]:=g;let#[BX]:=Eo I.LJ e;let hl:(f0R v).length<=sizeLine:=by grind [emp]
 show wpAny_setItem_pairs (hsz:=by rw[<- rel.length];show z) tE dd λh' Zp hs=>h _ ?_;let he:∃ q,h'.get? a=!q:=let ⟨q,_,_,hq,_⟩:=Zp;#[q,hq];show b8e I (by rw[e];show Jw) hs he (zt hl hd (rel.put k rv) Zp)
def a5j (I)(d0e)(ry:rp ky u)(l:cU ķ k=!v)(hm:more=[]\/∃ x,more=[x])(h:∀ w' s',d9Z (d8X a (.dK (lQ ķ k))) s'->e4O w'->Q w' s'):e2n (call (.builtin "dict.pop") (.ref a::u::more)) Q E s:=by
 let#[BX]:=Eo I.LJ e;let#[w',hw,Tx]:=Qa.some_of (by rw[<- l];show rel.val k);let hp:(keyPart u).isSome=true:=by
  cases k with
  | inl i=>ext d7G
  | inr x=>ext d7G
 let ha:argsOk "dict.pop" #[.ref a::u::more,[]]:=by
  rcases hm with q|⟨x,q⟩
  ·subst q;show PySem.F.args_dict_pop_2 ĉ
  ·subst q;show PySem.F.args_dict_pop_3 Ĉ
 show call_meetsIn PySem.F.slot_dict_pop dd.typeIs PySem.F.entry_dict_pop ha (meets_dict_pop_there _ a tE more hm hp)
  #[vs,w',dd,by rw[<- rel.length];show z,hw,λh' Zp hs=>h w' _ ?_ Tx]
 let he:∃ q,h'.get? a=!q:=let ⟨q,_,_,hq,_⟩:=Zp;#[q,hq];show b8e I (by rw[e];show Jw) hs he (zt (HH (Em ķ k) z) hd (rel.drop k) Zp)
theorem Aq (i:Expr):Prop:=∀ ov iv,subscripted i false ov iv=operate [ov,iv] (getItem ov iv)
def a2p (d0b)(hl:typeLookup C7 "__getitem__"=pure !.builtin id)(hs:Aq slice)(h:e0q (eval value env) (λo s₁=>e0q (eval slice env) (λi s₂=>s₂.TypeIs o T/\wpAny ē A (getItem o i) Q E s₂) E s₁) E s):
  wpAny ē A (eval (.Subscript value slice pos) env) Q E s:=by
 show Subscript_ (II h (λo s₁ h₁=>II h₁ (λi s₂ h₂=>?_) λf0s=>x) λf0s=>x);let#[hT,h₂]:=h₂;ext d6R;show GU (e87 hl ?_);let fin:e0q (e6s o i) (d9m ē A o Q E) E s₂:=by rw[hs o i];show wpAny_operating (II h₂ (λr s₃ h₃=>GU<|wpAny_letTemporaryGo (Hk h₃)) λf0s=>x)
 first
  | show Hk (GU fin)
  | show GU _
  | show GU fin
def b0f (I)(d13):s.TypeIs gq "dict":=by let#[ķ,k,e,_,_]:=g;let#[_,_,vs,_,dd]:=se I.LJ e;show dd.typeIs
inductive b49 (Q:VK)(x:V)(y:V)(H2:Hp):∀ a v,x=.ref a->PY H2 a y !v->Q v H2
theorem YK (td ty:TE):TE:=λd95=>td σ H λe3X=>ty σ H1 λy H2=>b49 Q x y H2
inductive a9r (D:Ends)(σ:St)(v:V)(x:V)(y:V)(H3:Hp):∀ a H4,x=.ref a->Uo H3 a y v H4->D.nx σ H4
theorem YM (td ty tv:TE):TS:=λe3t=>tv σ H λv H1=>td σ H1 λx H2=>ty σ H2 λy H3=>a9r D σ v x y H3
def a33 (c8J)(hs:Aq i):PE X tY (YK td ty):=by ext d2p;show a2p PySem.F.slot_dict_getitem.lookup hs (thE uC λu e7d rx q1=>LW (d85 hi) λiv f2l=>?_);let#[y,Bs,ry,a,v,ex,g,q2]:=gR;ext d2t;show#[b0f I2 g,sf hu I2 g ry λf2m=>#[v,H2,I3,Tx,q2]]
def bV (c8J)(hv)(hs:f0G (!.Subscript o i pos') pos.line X.env=pure false):
  PS X (.Assign [.Subscript o i pos'] value pos) (YM td ty tv):=by
 ext d2u;show wpAny_Assign_Subscript (thE a6o λr s1 v H1 I1 rv q1=>thE (d85 ho) λu s2 x H2 I2 rx q2=>LW (d9v hi σ) λiv s3 gR=>?_) hs;let#[y,d8,ry,a,H4,ex,g,q3]:=gR;ext d2t;show b73 hu I3 g ry rv λs4 I4=>#[σ,H4,I4,q3]
def c3g (c8Q)(hb:sysModules<h.objs.size):e4h H (d9f h.push) h.objs.size zR:=
 #[HW _,JC.mpr<|Ne.symm (HR hb),[],.nil,Heap.DictOf.new h]
theorem a9y:TE:=λ_ H Q=>∀ p,H p=none->Q wQ (d8X p zR)
def Qx:PE X c1p a9y:=λe0I h=>
 wpAny_Dict_empty #[.ref s.heap.objs.size,_,I.laid B7 kJ<|c3g s.heap I.big,1,h _<|I.LJ.fresh kJ]
theorem c44:List (TE×TE)->St->Hp->(List (V×V)->Ù)->Prop
 | [],_,H,Q=>Q [] H
 | (tk,tv)::r,σ,H,Q=>tk σ H λe3X=>tv σ H1 λy H2=>c44 r σ H2 λps H3=>Q ((x,y)::ps) H3
abbrev b5I:List (V×V)->List (Value×Value)->Prop:=Paired λp q=>rp p.1 q.1/\rp p.2 q.2
theorem Dw (X)(pos:Pos)(keys:List (Option Expr))(values:Ì)(XT):Prop:=
 ∀ (ñ:ζ)(s:Ê)(σ:St)(H:Hp)(Q:List (V×V)->Ù),d9Z H s->c44 XT σ H Q->
  wpAny Ē X.A (evalPairs (pairTrees keys values X.env pos)) (λvs s'=>∃ ps H',e6d s'/\b5I ps vs/\Q ps H') X.xe s
def c6A:Dw X pos [] [] []:=λe0I h=>pairTrees_nil_walk Gz
def D8 (hk:PE X k tk)(hv:PE X v tv)(hr:Dw X pos ks vs XT):
  Dw X pos (some k::ks) (v::vs) ((tk,tv)::XT):=λe0I h=>
 pairTrees_cons_walk (thE (d9t hk _) λu e7d rx q1=>thE (d85 hv) λw2 s2 y H2 I2 ry q2=>
  LW (d9v hr σ) λws s3 gR=>(by let#[ps,d8,rel,q3]:=gR;show#[(x,y)::ps,d8,.cons #[rx,ry] rel,q3]))
theorem bg (ķ more:ξ):ξ:=more.foldl (λacc kv=>dY acc kv.1 kv.2) ķ
def KV.merge:∀ {more:ξ}{rs:List (Ws×Value)}{ķ:ξ}{vs:List (Ws×Value)},KV more rs->KV ķ vs->KV (bg ķ more) (merged vs rs):=by
 intro more rs ķ vs r;unfold KV at r
 induction r generalizing ķ vs with
 | nil=>intro q;show q
 | @cons p q ps qs h t ih=>
  intro r0;let e:KV (e7o p.2) (stored vs q.1 q.2):=by
   let:=r0.put p.1 h.2
   cbv
  show ih e
def cw:∀ (more ķ:ξ),(bg ķ more).length<=ķ.length+more.length:=by
 intro r'
 induction r' with
 | nil=>
  intro ķ;change ķ.length<=ķ.length+0;lia
 | cons p r ih'=>
  intro ķ;let h1:=ih'<|e7o p.2;let h2:=emp ķ p.1 p.2;change (bg (e7o p.2) r).length<=_
  grind
def Lam:∀ {ķ:ξ}{ws:List (Value×Value)},b5I (ķ.map λkv=>(kV kv.1,kv.2)) ws->∃ rs,Carries DV ws rs/\KV ķ rs:=by
 intro ķ
 induction ķ with
 | nil=>intro ws r;rw[IP]at r;cases r;show#[[],Jw,.nil]
 | cons p ķ ih=>
  intro ws r;rw[HE]at r
  cases r with
  | @cons a b as bs h t=>
   let#[rs,c,q]:=ih t;let#[b1,b2]:=b;show#[(p.1,b2)::rs,#[jN h.1,1,c],.cons #[1,h.2] q]
theorem a27 (XT):TE:=λd95=>∀ p,H p=none->c44 XT σ (d8X p zR) λps H2=>H2 p=!.dK []/\∃ ķ:ξ,ps=ķ.map (λkv=>(kV kv.1,kv.2))/\ķ.length<=15/\Q wQ (e7l p Ť)
def FH (h:Dw X pos keys values XT)(U7:keys.all (·.isSome)=true)(hl:keys.length=values.length)(h0:keys≠[])(h15:keys.length<=15):PE X (.Dict keys values pos) (a27 XT):=by
 intro ñ s σ H Q I q;show wpAny_Dict_walk (knd:=aP X.prog X.w) U7 hl h0 h15 (LW (h ñ _ σ ĉ (I.laid (a:=s.heap.objs.size) (o:=.dK []) (h':=s.heap.push { cls:=.type "dict",data:=.dict [].toArray }) (t':=s.toks) B7 kJ<|c3g s.heap I.big)<|q _ (I.LJ.fresh<|Hl s.heap.objs.size)) λws s2 J=>?_);let#[ps,Bs,rel,e,ķ,ep,lk,q2]:=J;subst ep;let#[rs,c,rk]:=Lam (P:=X.prog) (w:=X.w) rel;let#[z,hd,vs0,r0,dd]:=Eo I2.LJ e
 cases r0;show#[rs,c,dd,λh' Zp hs=>#[my,?_,1,q2]];let hz:(bg [] ķ).length<=sizeLine:=by let h1:=cw ķ [];ext d7i;lia
 let he:∃ q,h'.get? s.heap.objs.size=!q:=let ⟨q,_,_,hq,_⟩:=Zp;#[q,hq];show b8e I2 (by rw[e];show Jw) hs he (zt hz hd (rk.merge .nil) Zp)
structure b8o (X:Cx)(o:Expr)(m:Str)(apos:Pos)(e:Expr)(MA:Pos):Prop where
 base:attributeBase o m X.env (d8O o)=eval o X.env
 Mt:((backTo MA CT).all i0&&(backToKw MA Į).all oW
  && decide (([e]:Ì).length+([]:List Keyword).length+(if ([]:List Keyword).isEmpty then 0 else 1)<30))=true
 line:(apos.endLine==MA.line)=true
 trees:backTo MA CT=[Ĭ]
theorem IsD (H)(c9s):Prop:=(∃ ķ,e7f lJ)\/∃ ķ,e7f (.dT ķ)
def a0T (I)(d:IsD H a):
  s.TypeIs gq "dict"/\(∀ b,Value.ref a=.ref b->∃ ob,s.heap.get? b=!ob/\ob.dict=none)/\(a==sysModules)=false:=by
 rcases d with⟨ķ,e⟩|⟨ķ,e⟩
 ·let#[_,hd,vs,_,dd]:=se I.LJ e;show#[c6m]
  ext d4I
 ·let#[_,hd,xs,_,dd]:=a5i I.LJ e;show#[c6m]
  ext d4I
inductive c4K (ty:TE)(σ:St)(c8l):∀ a,x=.ref a->IsD H1 a->(ty σ H1 λy H2=>∃ ķ k v,H2 a=!.dK ķ/\y=kV k/\cU ķ k=!v/\Q v (upd H2 a (.dK (lQ ķ k))))
theorem CA (td ty:TE):TE:=λd95=>td σ H λe3X=>c4K ty σ Q x H1
def a9N (ho:PE X o td)(he:e08 ty)(m:b8o X o "pop" apos e MA):PE X (.Call (.Attribute o "pop" apos) [e] [] MA) (CA td ty):=by ext d2p;show wpAny_Call_method m.base m.Mt m.line PySem.F.plainAttrs_dict PySem.F.slot_dict_pop PySem.F.type_dict_pop (LW uC λu e4I=>?_);let#[Bw,ex,d,q1]:=gR;ext d2t;let#[t1,t2,_]:=a0T I1 d;show#[t1,t2,?_];rw[m.trees];show Kx rfl<|Calls.evalArgs_plain (Calls.spliced_cons (LW (he ñ s1 σ H1 _ I1 q1) λiv s2 J=>Calls.spliced_nil ?_));let#[y,Bs,ry,ķ,k,v,ea,ey,l,q2]:=J;subst ey;show a5j I2 ea ry l Ķ λf2m=>#[v,_,I3,Tx,q2]
abbrev _root_.Ò:=Array DictEntry
theorem RE (c8Q)(d)(es:Ò)(ep:Nat):Prop:=∃ o,h.get? d=!o/\o.ExactDict/\o.data=.dict es ep
def RE.to (x:RE h d es ep)(k:∀ o,h.get? d=!o->h'.get? d=!o):RE h' d es ep:=let ⟨o,a,r⟩:=x;#[o,k o a,r]
variable {prog:É}{w:World}{A:Ë}{d:Addr}{es:Ò}{i ep:Nat}
def RE.ty {s:Ê}(c8m):s.TypeIs lv "dict":=let ⟨o,a,c,_⟩:=x;#[o,a,c.1]
def b3g (hd:(d==sysModules)=false)(c8m)(hQ:Q UF { s with heap:=s.heap.push { cls:=.type "dict_keyiterator",data:=.fields [.ref d,e5U 0,e7p 0,.int ep 0].toArray } }):
  wpAny ē A (pyIter lv) Q E s:=by
 let T:=x.ty;let#[o,a,_,b]:=x;show wpAny_pyIter_slot T F.slot_dict_iter (JE F.slot_dict_iter T F.entry_dict_iter ?_<|F.args_dict_iter_1 _);unfold Builtin.«dict.__iter__» Builtin.Dict.dictSlotNone Builtin.Dict.showsAll;show GU<|GU (Kz T dU);ext d39;rw[if_neg<|by cbv];show GU<|Hk (GU<|La a b (GU<|wpAny_dictEpoch a b (GU<|JX (Hk #[_,1,"dict_keyiterator",_,#[vj],F.slot_dict_keyiterator_next.lookup,?_]))));show hQ
def c1N (c9E)(hi:i<es.size)(hQ:∀ h',h'.IsKeyIter it d (i+1) es.size ep->Heap.SameBut it s.heap h'->Q (some es[i].key) { s with heap:=h' }):e0q Ez Q E s:=by
 ext d4m;show GU<|Lh (JF T JT a3R);ext d3s;ext d3d;simp only[J2,Kh hi];show GU<|GU (JJ T<|Hk (GU (wpAny_isOneOf_keyiter T ?_)));change wpAny ĉ (setField _ 1 _ >>= _) ĉ s;show GU b4m;let J:(s.heap.update it<|Obj.mapFields (·.setIfInBounds 1 (rawInt<|(i)+1))).IsKeyIter it d (i+1) es.size ep:=#[_,JW _ u1<|Obj.isFreed_of_fields (Obj.data_mapFields u3 _),(Obj.cls_mapFields ..).trans u2,by rw[Obj.data_mapFields u3];simp[rawInt]]
 show GU (Io<|GU (wpAny_isOneOf_keyiter J.typeIs ?_));show Hk (Hk #[_,1,Hk<|hQ _ J (JD ..)])
def c4S (hh)(c9E)(hi:es.size<=i)(hQ:∀ h',Heap.ExtBut it s.heap h'->Q none { s with heap:=h' }):e0q Ez Q E s:=by ext d4m;ext1 pyNext;show GU<|Lh (JF (name:=Str.ofString "__next__") T JT a3R);ext d3s;simp only[show Builtin.Dict_items.ownsTuple "dict_keyiterator"=false by decide,Ix,Ju];change wpAny ĉ (if (Value.ref d==Value.none)=true then _ else _) ĉ s;rw[if_neg λz=>nomatch z];ext d3d;simp only[show ¬ ((i:Int)<0) by omega,Ju,J2,Array.getElem?_eq_none hi];show GU<|GU (JJ T dU);change wpAny ĉ (setField Uf 0 .none >>= _) ĉ s;show GU b4m;change wpAny ĉ (newExc (.type "StopIteration") [] >>= _) Ĉ;ext d6R;simp only[newExc,newTuple];show GU b77;show GU (m:=firstArgMember ĉ)<|wpAny_of_eq (a:=Value.none) (by first|rfl|(simp only[firstArgMember];rfl)) b77;simp only[raiseNew];show GU (wpAny_handled ?_);rw[show A.in1.handled=none from hh];show GU<|Hk (wpAny_throw ?_);show GU<|wpAny_isInstance (T:="StopIteration") (b:=true) #[vj] isSubtype_stop dU;show hQ _ (((JD ..).extBut.push _).push _)
def b5j (hh)(I:Addr)(Wo:d≠I):Walks prog w A I [I,d] [I] es.size b2m (λi h=>h.IsKeyIter I d i es.size ep/\RE h d es ep) where
 sub:=λe2h=>by simp at hb;simp[hb]
 frame:=λd97 st hk=>#[st.1.at λo e=>hk I Ė o e,st.2.to λo e=>hk d Ė o e]
 item:=λi s Q E hi st hQ=>c1N st.1 st.2 hi λh' J hs=>hQ _ h' s.toks ĝ #[J,st.2.to λo e=>hs.extBut d o Wo e] λe5M e=>hs.extBut b o b78 e
 done:=λs Q E st hQ=>c4S hh st.1 st.2 kJ λh' he=>hQ h' s.toks λe5M e=>he b o b78 e
 self:=λd9X st hQ=>wpAny_pyIter_keyiter st.1 hQ
def zU (lo):W.KdlSrc prog w "dict" d d es.size b2m (λh=>RE h d es ep) where
 type:=λ_ x=>x.ty
 there:=λ_ gR=>by let#[_,a,_]:=gR;show#[HF a,HF a]
 keep:=λf0s hk=>x.to λo e=>hk d Ķ o e
 notList:=by decide
 notTuple:=by decide
 hint:=λd9X x hq=>W.kdl_hint_dict x.ty hq
 iter:=λ_ s hh x=>#[_,_,λ_ _ hq=>b3g lo x hq,b5j hh _ (let #[_,a,_]:=x;HR<|HF a),⟨⟨_,HG _ rfl,rfl,rfl⟩,x.to λ_ e=>Ha _ e⟩]
open e
def pW (lo):MeetsIn prog w (Builtin.«dict.__len__» #[DP,[]]) (λ_ R s=>∃ es ep,RE s.heap d es ep/\R (.ok (.ret (e7p s.toks))) { s with toks:=s.toks+1 }):=
 .of_wp λA R s gR=>by
  let#[Go,#[o,a,_,b],h]:=gR;change wpAny ĉ (dictSize d >>= _) ĉ s;show GU<|GU (La a b dU);show GU (wpAny_pendingCount_other lo (wpAny_ret_mkInt ?_))
  cbv
def a9R (lo)(c8m)(fit:(es.size:Int)<2 ^ 63)(h:Q (e7p (s.toks+1)) { s with toks:=s.toks+1+1 }):e0q (call a1j DP) Q E s:=by show Calls.call_function_entry kind_len plain_len entry_len (args_len1 _) ?_;ext d39;show GU<|JF x.ty F.slot_dict_len (call_meetsIn F.slot_dict_len x.ty F.entry_dict_len (F.args_dict_len_1 _) (pW lo) #[Go,x,?_]);show GU<|Io (Hk<|GU (L8 ?_));change wpAny ĉ (if _ ≥ 2 ^ 63 then _ else _) Ĉ;ext d4Q;show GU (wpAny_mkInt<|Hk #[_,1,h])
variable {X:Cx}{ñ:ζ}{σ:St}{H:Hp}{s:Ê}{d:Addr}{o:Obj}
theorem NF (X)(d):Prop:=∀ o u,X.H₀ d≠!.frz o u
def Inv.nf (I)(d1a):NF X d:=λo u z=>by let:=I.base.R4 d o u z;rw[hd]at this;cases this
def n9 {o:HO}{H:Hp}(c9t)(c98):e4h zF h a o:=
 x.MR (λd97 q=>q) (λb q=>by rw[a9 λz=>by cbv];show q) λb xs q=>by rw[a9 λz=>by cbv];show q
def Inv.Vz {u v:HO}(I)(c98)(h3:∀ ps,u≠.tbl ps)(h4:∀ o' u',X.H₀ d=!.frz o' u'->False)(new:e2z zF s.heap d v):d9Z zF s where
 ok:=I.ok
 os:=I.os
 bare:=I.bare
 base:=#[I.base.keep,I.base.slot,λb ob q n hx=>by rw[a9 (λz=>by let:=e3K ob q n hx;rw[z,hd]at this;cases this)];show I.base.free b ob q n hx,I.base.there,
  λb xs q=>by let:=e5x q;rw[a9 λz=>by cbv];show this,
  λb ob w q=>(a9 (λz:b=d=>h4 ob w (show X.H₀ d=some (.frz ob w) by rw[<- z];show q))).trans<|e8f ob w q,
  λb ps q=>by let#[m,e]:=e5y q;show#[m,by rw[a9 λz=>by cbv];show e]]
 loc:=I.loc
 cell:=I.cell
 free:=by rw[a9 (λz=>by let:=I.free;rw[z,hd]at this;cases this)];show I.free
 N4:=λx c e=>by rw[a9 (λz=>by let:=e6j e;rw[z,hd]at this;cases this)];show I.N4 x c e
 pin:=λe7V=>by let#[AO]:=f0D hp;show#[a1,by rw[a9 λz=>by cbv];show a2,a3]
 LJ:=λa ob e=>by
  by_cases ha:a=d
  ·grind [af]
  ·rw[a9 ha]at e;show n9 (I.LJ a ob e) hd h1 h2
 len:=I.len
def Inv.freeze (I)(d1a)(ho:s.heap.get? d=!o):d9Z b7x s:=
 I.Vz hd Ļ Ļ Ļ (λo u z=>I.nf hd o u z) #[ho,n9 (e88 hd) hd Ļ λ_ z=>nomatch z]
def Inv.ZH (d14)(nf:NF X d):d9Z (d8X d lJ) s:=
 I.Vz hd Ļ Ļ Ļ (λo u z=>nf o u z) (n9 (e88 hd).2 hd Ļ λ_ z=>nomatch z)
open e
theorem Itk (o)(d):It:=
 ⟨λi H=>∃ ķ kv,H d=!.frz o lJ/\ķ[i]?=!kv,λe9x=>H'=H/\∀ ķ,H d=!.frz o lJ->∃ kv,ķ[i]?=!kv/\x=kV kv.1,λi H=>∃ ķ,H d=!.frz o lJ/\ķ.length<=i⟩
theorem Itv (o)(d):It:=
 ⟨λi H=>∃ ķ kv,H d=!.frz o lJ/\ķ[i]?=!kv,λe9x=>H'=H/\∀ ķ,H d=!.frz o lJ->∃ kv,ķ[i]?=!kv/\x=kv.2,λi H=>∃ ķ,H d=!.frz o lJ/\ķ.length<=i⟩
def b0W (h:(aP P w).is k u=true):rp ky u:=by
 rcases bi h with⟨i,t,rfl,rfl⟩|⟨x,t,rfl,rfl⟩
 ·show#[t,1]
 ·show#[t,1]
variable {d:Addr}{o:Obj}{es:Ò}{ep:Nat}
def Inv.frd (d14)(ed):∃ vs,KV ķ vs/\s.heap.DictAt (aP X.prog X.w) d vs ep/\vs.length=es.size:=by let#[ho,z,lo,vs,r,ob,YY,e1,c1,c2,c3,c4,c5]:=e88 hd;rw[ho]at e1;cases e1;rw[ed]at c2;cases c2;show#[vs,r,#[o,es,ho,c1,ed,c3,c4,c5],?_];let:=c4.length;rw[<- this];simp
def b8W (c9m):e2B (Itk o d) [it] it (λi h=>h.IsKeyIter it d i es.size ep) where
 mem:=by simp
 obj:=λe3Z=>by
  ext d2L
  ext d2y
 keep:=λe1L=>st.at λo e=>e3L e
 item:=by
  ext d2v;let#[ķ,kv,hd,hx]:=hg;let#[EF]:=e89 ed;let#[FE]:=hf it Ė;let#[q,hq,hr]:=Paired.at r hx;rw[<- hl]at st;show wpAny_pyNext_dict_item st da hq λkey h' Xb Q4 sb=>?_;let I1:d9Z H { s with heap:=h' }:=e1b f5;let#[c6O]:=id Q4;rw[hl]at Q4;show#[key,1,e8p Ĺ #[kV kv.1,H,I1,?_,c1q,vc]]
  ·rw[hr.1];show b0W Xb
  ·rw[hd]at Qn;cases Qn;show#[kv,hx,1]
 done:=by intro X hP hw hK hc i ñ s σ H E I hf st hg;subst hP hw hK;let#[ķ,hd,hx]:=hg;let#[EF]:=e89 ed;let#[FE]:=hf it Ė;rw[<- hl]at st;let:=KV.length r;show wpAny_pyNext_dict_end ń st da (Ip<|by omega) λh' eb=>S9
 self:=λe4M=>wpAny_pyIter_keyiter st h
def b1V (c9m):e2B (Itv o d) [it] it (λi h=>h.IsValIter it d i es.size ep) where
 mem:=by simp
 obj:=λe3Z=>by
  ext d2L
  ext d2y
 keep:=λe1L=>st.at λo e=>e3L e
 item:=by intro X hP hw hK hc i ñ s σ H E I hf st hg;subst hP hw hK;let#[ķ,kv,hd,hx]:=hg;let#[EF]:=e89 ed;let#[FE]:=hf it Ė;let#[q,hq,hr]:=Paired.at r hx;rw[<- hl]at st;show wpAny_pyNext_values_item st da hq λh' Q4 sb=>?_;let I1:d9Z H { s with heap:=h' }:=e1b f5;let#[c6O]:=id Q4;rw[hl]at Q4;show#[q.2,1,e8p Ĺ #[kv.2,H,I1,hr.2,c1q,vc]];rw[hd]at Qn;cases Qn;show#[kv,hx,1]
 done:=by intro X hP hw hK hc i ñ s σ H E I hf st hg;subst hP hw hK;let#[ķ,hd,hx]:=hg;let#[EF]:=e89 ed;let#[FE]:=hf it Ė;rw[<- hl]at st;let:=KV.length r;show wpAny_pyNext_values_end ń st da (Ip<|by omega) λh' eb=>S9
 self:=λe4M=>wpAny_pyIter_valiter st h
open e
def b98:∀ {us:θ},xs.length=us.length->(∀ (j:Nat)(x:V)(u:Value),xs[j]?=!x->us[j]?=!u->e2m u)->e0v us:=by
 induction xs with
 | nil=>intro us hl h;cases us with
  | nil=>show .nil
  | cons u us=>cases hl
 | cons x xs ih=>intro us hl h;cases us with
  | nil=>cases hl
  | cons u us=>show .cons (h 0 x u rfl rfl) (ih Ĵ λj y v hy hv=>h (j+1) y v (hy)<|hv)
theorem sgn (x)(i):Str:=⟨[x.cps.getD i 0].toArray⟩
theorem Its (x):It:=⟨λi _=>i<x.cps.size,λi H v H'=>H'=H/\v=.str (sgn x i),λi _=>i=x.cps.size⟩
def a9K {tg:Expr}{P:É}{w:World}{K:Φ}(it:Addr)(x)(t:Tok)(ty:String)(Yb:["enumerate","zip","dict_itemiterator","dict_reverseitemiterator","odict_iterator","itertools.zip_longest","itertools.pairwise"].contains ty=false)
  (W:∀ A:Ë,A.handled=none->Walks P w A it [it] [it] x.cps.size (SignAt x) b2Y)
  (a4q:∀ (A:Ë)(i:Nat)(s:Ê)(Q:ρ)(E:ρ),s.heap.IsStrIter it ty x t i->Q Uf s->e85 A (pyIter Uf) Q E s):e2B (Its x) [it] it b2Y where
 mem:=by simp
 obj:=λe3Z=>by
  ext d2L
  let#[xt]:=st
  cbv
 keep:=λe1L=>by let#[o,e,r]:=st;show#[o,e3L e,r]
 item:=by
  intro X hP hw hK hc i ñ s σ H E I hf st hg;let#[FE]:=hf it Ė;show (W X.A<|I.ok.hd hc).item i s _ _ hg st λv e2Y hv Q4 kk=>?_;let#[c,u,hcx,1]:=hv;let I1:d9Z H { s with heap:=h',toks:=tk }:=e2C f5;let#[c6O]:=id Q4;show#[_,1,e8p Yb #[.str _,H,I1,#[u,?_],#[2],vc]];ext1 sgn
  cbv
 done:=by intro X hP hw hK hc i ñ s σ H E I hf st hg;let#[FE]:=hf it Ė;let hi:=hg;subst hi;show (W X.A<|I.ok.hd hc).done s _ _ st λe2Y kk=>#[1,e2C f5]
 self:=λe77=>a4q A i s Q E st h
section
inductive b3X (R:It->Ù)(v:V)(H1:Hp):∀ x,v=.str x->R (Its x) H1
theorem a8p (tl:TE):TI:=λe4J=>tl σ H λv H1=>b3X R v H1
def a0j (c9B):e1m l (a8p tl):=by
 ext d6x;let#[z,uP]:=gR;let#[x,1,q]:=q1;let#[t,1]:=r1;let fp:∀ (b:Addr),b∈vC->e2A H1 b:=λe2h=>by
  ext d3e
  ext d4U
 cases ha:x.cps.all _
 ·show wpAny_pyIter_wide ha ?_;show#[sA,a9K _ x t "str_iterator" Ĺ (λA' hA=>Walks.strWide hA _ x t) λe77=>wpAny_pyIter_striter_wide st h,oN,fp,q]
 ·show wpAny_pyIter_ascii ha ?_;show#[sA,a9K _ x t "str_ascii_iterator" Ĺ (λA' hA=>Walks.strAscii hA _ x t) λe77=>wpAny_pyIter_striter_ascii st h,oN,fp,q]
abbrev _root_.Ñ:=List Bool
def a02 {bs:Ñ}:(List.range bs.length).all (λi=>e7q true)=bs.all id:=by
 rw[IH];simp only[IS,HP];ext d4M
 ·intro h b hb;let#[rT]:=Jr hb
  cbv
 ·intro h i hi;rw[GV,GT hi];show h _ (Ia hi)
def ly (K)(hc)(hK):Md X (.builtin "all") a0C:=by
 ext d36
 ext d4v;let hlen:its.length=bs.length:=by let:=rv.length;ext d6S;omega
 let hpn:p≠s.heap.objs.size:=by let#[_,_,e,_]:=pl;show HR oj
 show call_all_walk ?_;show Kq pl.isList ?_;show#[c4i,λi=>e7q true,c3h]
 ·let hv:its[i]?=!v:=by simpa using hv
  let hi:i<bs.length:=by rw[<- hlen];show (GW.mp hv).1
  ext d4D
  ext d2I
 ·let e:its.toArray.size=bs.length:=by simp[hlen]
  rw[e,a02];ext d3t
def qj (hc):e8m (λe1r=>∃ d ķ,xs=DP/\Rd H d lJ/\Nx H (d9d Ŝ) Q):=by
 ext d58
 ext d5D
 let hl:es.size=vs.length:=by rw[<- hp.length];simp
 let hkl:=KV.length rel;show W.kdl_call (zU lo) ń uR ĝ λe2Y acc c keep Og W9=>?_;let a0V:sY Ŝ acc.toList:=by
  show b98 (by let h1:=W9.1;rw[<- Il]at h1;rw[GS,h1,hl,hkl]) λj x u' hx hu=>?_;rw[Hh]at hx;let#[kv,ekv,1]:=HN.mp hx;ext d6C;let hj:j<es.size:=by rw[hl];show (GW.mp RK).1
  let h1:(es[j]?).map _=!u':=W9.2 j u' ĝ;rw[Kh hj]at h1;let:=Option.some.inj h1;rw[<- this,X8.1];show b0W ((Pairs.get? hp ĝ RK).1)
 show#[.ref s.heap.objs.size,_,I.laid keep kJ<|show LP X.prog X.w _ h' _ Bu from #[by cbv,acc.toList,c,a0V,?_],1,q.at wq];simpa using Og
def a9Z:e6o (λe1r=>∃ d ķ,xs=DP/\Rd H d lJ/\Q Ee H):=by
 ext d58
 ext d5D
 let hl:es.size=ķ.length:=by rw[KV.length rel,<- hp.length];simp
 show a9R lo uR (by let:ķ.length<=2 ^ 24:=z;lia) ?_;rw[hl];show#[.int ķ.length,CM,q]
def b9P:e6o (λe1r=>∃ d ķ,xs=DP/\H d=!.dK ķ/\Q Ee H):=a9Z.imp λd97 gR=>by let#[d,ķ,e,h,q]:=gR;show#[d,ķ,e,.inl h,q]
example{C:Addr}{sp:Sp}{x m:Str}{ta:TE}:=0
def qH (c8A)(ht:e8j X.env=(do
   let ov <- eval o X.env
   standAt apos.atName
   let (f,first) <- holding [ov] ş
   callWith pos f first (e0m Š) Ĩ):=ă):
  PE X Ğ (vg C m sp [] E0 ta lW):=by
 let#[G9]:=D;show c56 he cl hm F hr b .nil nM ht
def a8d (c8Y)(OO):
  PE X b3W (zN C sp [] E0 lW):=by
 let#[zH,hm,M,b,F]:=D;show opI M F hr hg hm b .nil nM OO
inductive Itm (c9R)(sp:Addr->Sp)(c8l):∀ a C dx fs,x=.ref a->Cs C->H1 a=!.ins C dx fs->fs.lookup m=none->sp C [x] H1 Q E0
theorem ZL (c9R)(sp:Addr->Sp)(ta:TE):TE:=λd95=>ta σ H λe3X=>Itm Cs m sp Q x H1
def qJ {sp:Addr->Sp}(he:PE X o ta)(D:∀ C,Cs C->e3g (sp C))(hr)(ht:e8j X.env=(do
   let ov <- eval o X.env
   standAt apos.atName
   let (f,first) <- holding [ov] ş
   callWith pos f first (e0m Š) Ĩ):=ă):
  PE X Ğ (ZL Cs m sp ta):=by
 ext d56;let#[Bw,C,EG,hC,ea,l,q]:=gR;ext d2t;let#[G9]:=D C hC;show a61 I1 ea cl hm l ?_;show W.callWith_K0 I1.Ow hm.kp (e9C b .nil nM I1 lY q)
open e
def B5 (d1a)(e:f' b7x H'):f' H (upd H' d lJ):=λb u hb=>by
 by_cases z:b=d
 ·grind [af]
 ·rw[a9 z];show e b u (by rw[a9 z];show hb)
structure MM (c9N):Prop where
 ex:∃ (oc:Value)(od:ψ)(dV kV doc pm:Value)(an:ψ)(Lr ct:Value)(Nq:ω),
  fd=W.fnOf x ğ vW CQ Uz dV kV doc pm an Lr ct/\K.lookup f=some ⟨oc,od,.func fd,Nq⟩/\W.codeIn K Lr ğ=true
 kp:W.keepIn K Fr=true
def MM.okX {K:Ψ}(c7H)(len)(O4:∀ (Lr:Value)(A:Ë)(outer:List Env)(s:Ê)(H:Hp)(vs:π)(Q:VK)(E:XK),LM k ĕ->e1d E->
   ∃ t,Q1 Ľ CQ t/\t { nx:=λ_ H'=>e2P H',rt:=Q } ů H):e1B sp:=by
 let#[c54]:=F.ex;ext d3h
theorem Ite (K)(c9s):It:=
 ⟨λi H=>∃ xs x,e02 xs/\xs[i]?=!x,λi H v H'=>∃ T,H T=none/\v=.ref T/\∃ x,b27/\H'=upd H T (.tup hX),λi H=>∃ xs,e02 xs/\xs.length<=i⟩
theorem a63 (e it a:Addr)(i)(c8Q):Prop:=(∃ old,IsEnum h e it i old)/\h.IsListIter it a i
def b65 (d05)(a e it:Addr)(ne:e≠it):a7A P w K ŭ (Ite K a) [e,it] e (a63 e it a) where
 mem:=by simp
 obj:=λi h st c hc=>by
  let#[#[old,h1],#[o2,e2,c2,d2]]:=st;ext d3l;ext d5P
  ·show#[c6l]
  ·show#[_,e2,λv z=>by rw[d2]at z;cases z]
 keep:=λe1L=>by let#[c6t]:=st;show#[#[old,k e Ė _ h1],h2.at λo z=>e3L z]
 item:=by
  ext d2v;let#[xs,x,hx,ex]:=hg;ext d6o;ext d79;show wpAny_pyNext_enum_item h1 h2 p.isList b86 ne λe4f a5=>?_;show#[_,1,wpAny_letOwnedTupleGo_enum a1 λXH b1 sb=>?_];let hT:=I.LJ.fresh<|Hl _;let zne:∀ c∈[e,it],c≠s.heap.objs.size:=λc hc z=>by
   let:∃ o,s.heap.get? c=!o:=by
    ext d3l;let#[o2,e2,_]:=h2;ext d5P
    ·show#[_,h1]
    ·show#[_,e2]
   let#[o,q]:=this;show absurd (HF q) (by rw[z];show J3 _)
  let kk:∀ c o,c∉[e,it]->s.heap.get? c=!o->XH.get? c=!o:=λc o hc z=>by simp only[Hs,Ij,Kl,not_or]at hc;show sb.extBut ĉ hc.1 (a5 c o hc.1 hc.2 z)
  let I1:d9Z H { s with heap:=XH,toks:=s.toks+1 }:=I.RG hf kk;let I2:d9Z (upd H s.heap.objs.size<|.tup hX) { s with heap:=XH,toks:=s.toks+1 }:=by show I1.Wz (I.U' kJ hT) I.sz #[by change 2<=sizeLine;decide,[.int i s.toks,w1],.cons #[_,1]<|.cons r1 .nil,?_];show#[_,e3M (Ne.symm<|zne e Ė) a3,1,_,1]
  show#[my,I2,1,#[_,hT,1,x,λxs' Te=>by rw[I.Qz Te hx];show ex,1],#[#[w1,?_],?_],λc hc=>?_]
  ·simpa using b1
  ·show a2.extBut sb.extBut (Ne.symm ne)
  ·ext d6B
 done:=by
  ext d2v;let#[xs,hx,hl]:=hg;ext d6o;let l1:=rv.length;show wpAny_pyNext_enum_end ń h1 h2 p.isList (by simp;omega) λh' kk=>#[1,I.RG hf λc o hc z=>?_]
  ext d6Q;show kk c o hc.2 z
 self:=λe4M=>wpAny_pyIter_enum st.1.choose_spec h
def a5L:bootBuiltins "enumerate"=!.type "enumerate":=by decide +kernel
inductive c20 (K:Ψ)(c8C):∀ a xs,vs=zV->H1 a=!.lst xs->R (Ite K a) H1
theorem a4e (K)(ta):TI:=λe4J=>ta σ H λe5u=>c20 K R vs H1
def tj (K){x1:Nat}(c9a)(ha:PA X [e1] ta)(hK)(hs:starEach [e1] X.env=[Ź]:=ă):PI X ŭ (.Call b8a [e1] [] pos) (a4e K ta):=by
 subst hK;ext d2T;show Call_<|e2l a5L (e0j hs rfl);ext d43;let#[a,xs,1,hx,q]:=q1;ext d6T
 cases ru;let#[its,n,rv,ho,hz]:=I1.lst hx;show call_enumerate_1 ho λe4f=>wpAny_pyIter_enum a1 ?_;let I2:d9Z H1 { s1 with heap:=h' }:=I1.kept a4;show#[_,[s1.heap.objs.size+1,s1.heap.objs.size],_,_,H1,1,I2,b65 a ĉ<|IV (IJ _),⟨⟨_,a1⟩,a2⟩,λc hc=>?_,q];let le:@LE.le Nat _ s1.heap.objs.size c:=by
  ext d3l;ext d5P
  ·show KK _
  ·show Hl _
 show I1.U' le c2h
def b8g {K:Φ}(c8T)(hs:∀ (i:Nat)(x:V)(T:Addr) σ H,xs[i]?=!x->e8h H->H T=none->tb { D with nx:=Pv (i+1),ct:=Pv (i+1),bk:=D.nx } ((σ.set i1 !.int i).set i2 !x) (d8X T (.tup hX)))(c9x):
  ∃ W:Nat->Nat->Υ,Y2/\∀ i m σ H,e4z H->
   ((Ite K a).stop i H/\D.nx σ H)\/((Ite K a).go i H/\∃ N:Υ,ġ/\∀ x H',(Ite K a).Xy i H x H'->zm K 2 (xa (bS i1) (xa (bS i2) AU)) x σ H' λe5L=>tb { D with nx:=N,ct:=N,bk:=D.nx } σ2 H2):=by
 ext d26
 ·show .inr #[kY,Pv<|i+1,λf0t=>b2X,λv H' y=>?_];let#[T,hT,1,x,ex,1]:=y;show#[T,hX,1,Nu.of af,1,_,[x],1,_,[],2,hs i x T σ H (ex xs q) p hT]
 ·let e:i=xs.length:=#[]
  subst e;show .inl b5H
theorem isA:Hp->V->Ws->Prop:=λ_ x k=>x=kV k
def Ap (k:Ws):eJ ky=true:=by cases k <;> rfl
def a1o (a b:Ws):Yn (kV a) (kV b)=decide (a=b):=by
 cases a with
 | inl a=>cases b with
  | inl b=>ext d7S
  | inr b=>ext d7j
 | inr a=>cases b with
  | inl b=>ext d7j
  | inr b=>ext d7S
def RN {K:Ψ}:YF K isA 0 where
 eq:=by
  ext d4C
  cases ha
  cases hb;rw[<- a1o];show a5F rx ry (Ap a) (Ap b)
 fn:=by intro X ñ s σ H x a b _ I ha hb;rw[ha]at hb;show a0R hb
theorem wS (K)(c9k)(d0s):Hp->V->List α->Prop:=λH x as=>∃ p vs,x=.ref p/\Nu K H p vs/\Paired (R H) vs as
variable {K:Ψ}{α:Type}[DecidableEq α]{R:Hp->V->α->Prop}{k:Nat}
def b22 (d1k){as bs:List α}(hK:X.K=K)(I)(ha:wS K R H x as)(hb:wS K R H x bs):as=bs:=by
 let#[Za]:=ha;let#[q,ws,e,zC]:=hb
 cases e;subst hK;let:=I.SY h1 h3;ext d4A;show c25 (λa b c=>h.fn X ñ s σ H a b c rfl I) h2 h4
def MtM (d1k)(c72)(d0d):
  ∀ j (h1:j<its.toArray.size) (h2:j<MJ.toArray.size),e0K its.toArray[j] MJ.toArray[j] (decide vw):=λj e1C=>by
 rw[HU]at h1 h2;ext d3z;let:=e6f hu
 cbv
def ur (d1k):YF K (wS K R) (k+1) where
 eq:=by
  intro X A ñ s σ H x y v u as bs hK I rx ry ha hb hu;by_cases hxy:x=y
  ·subst hxy;let e:=b22 h hK I ha hb;subst e;let#[Za]:=ha
   cases rx
   cases ry;rw[Hf rfl];ext d4o
  ·let#[Za]:=ha;let#[q,c5r]:=hb
   cases rx
   cases ry;let Wo:p≠q:=λe=>hxy (by rw[e]);subst hK;let#[yv]:=I.tuple h1;let#[vm]:=I.tuple h3;show SeqAt.EqAt.of_refs Wo ?_;ext d2w;let l3:=Paired.length h2;let l4:=Paired.length h4;let he:=MtM (A:=A.in1) h rfl I r1 r2 h2 h4 (by rw[KG];omega);let:=SeqAt.RcAt.tuples (e:=λj=>decide vw) (A:=A) (s:=s) pl V9 #[0] he;let e:((List.range<|min its.toArray.size MJ.toArray.size).all (λj=>decide vw)&&its.toArray.size==MJ.toArray.size)=decide jt:=by
    rw[HU,HU,IH,IL,IS,Iw,Jv];ext d4M
    ·rintro⟨hh,hl⟩;ext d8p;by_cases hi:i<its.length
     ·show HB (hh i<|HP.mpr #[0])
     ·rw[Ip<|by omega,Ip<|by omega]
    ·rintro rfl;show#[λi _=>Hf rfl,#[0]]
   rw[e]at this;show this
 fn:=λX e1q x as bs hK I ha hb=>b22 h hK I ha hb
open e
theorem Cy (d1L)(dvs)(sp):Prop:=
 ∃ f fd ds,mg x=!.ref f/\W.keepIn K Fr=true/\YX K fd ps ds/\sY dvs ds/\LX P w K mg base MY k f fd ps sp
def MM.ok {K:Ψ}(c7H)(len)(O4:∀ (Lr:Value)(A:Ë)(outer:List Env)(s:Ê)(H:Hp)(vs:π)(Q:VK)(E:XK),LM k ĕ->e1d E->
   ∃ t,Q1 (e0E E).Ur CQ t/\t { nx:=λ_ H'=>e2P H',rt:=Q } ů H):e0b sp:=by
 let#[c54]:=F.ex;ext d2O
def Dj (D:e2W sp)(c9O):
  PE X ę (zP sp dvs E0 t):=by
 let#[zH,ds,hm,kp,b,hd,F]:=D;show a5K F hr hg hm kp b hd nM ha OO he Of
def Py (a:sc.kind=.function:=ă)(b:sc.isCoroutine=false:=ă)(c:sc.isGenerator=false:=ă)(d:N.Nodup:=Ć)(e:N.take P.length=P:=ă)(f:∀ x∈P,sc.names.lookup x=!.local\/sc.names.lookup x=!.cell:=Ć)(g:∀ y∈sc.names,y.2≠.free:=Ć):ar N P sc:=#[nZ,d,e,f,g]
def LM.m (r:LM k A)(h:j<=k:=ö):LM j A:=r.mono h
section
def pS (i)(hN)(c8F)(c68):
  PS X Ty r6:=a0d hN hi hx he hs hf
def pN (i)(hN)(hi:X.N[i]?=!x:=ă)(hx:Aa X.env.scope x:=ć)(hf):PG X Ű vS:=a2I hN hi hx hf
def pC (i)(hN:N'.Nodup:=Ć)(hi:N'[i]?=!x:=ă)(hx:Aa (e2c fp).env.scope x:=ć)(hf:(e2c fp).fn x=true\/(e2c fp).env.scope.names.lookup x=!.local:=ß):PG ė Ű vS:=a2I hN hi hx hf
def cS (nT)(js)(N')(h:iF X.env.scope X.N scope nT js N'=true:=by kernel_rfl):f0d N':=c1R rfl rfl h
example{tb:TE}:=0
def pI (hr:VO X r)(c67)(d0V):e6n nI:=YZ hr ha hb hs
def pD (c8J)(hs:Aq i:=by exact λ_ _=>rfl):PE X tY (YK td ty):=a33 hu ho hi hs
def pM (ho)(c67)(hm):PE X Ţ nI:=A2 ho ha hb hm
def pT (ho)(c67)(hm):PT X Ţ (Cw nI):=zX ho ha hb hm
open e
variable {K:Ψ}
def OR.k (c8u)(O4:∀ (Lr:Value)(A:Ë)(outer:List Env)(s:Ê)(H:Hp)(vs:π)(Q:VK)(E:XK),LM k ĕ->e1d E->
   ∃ t,Q1 (e0E E).Ur CQ t/\t { nx:=λ_ H'=>e2P H',rt:=Q } ů H)(c8U):e0b sp:=F.ok S len O4
def MM.k (c7H)(O4:∀ (Lr:Value)(A:Ë)(outer:List Env)(s:Ê)(H:Hp)(vs:π)(Q:VK)(E:XK),LM k ĕ->e1d E->
   ∃ t,Q1 (e0E E).Ur CQ t/\t { nx:=λ_ H'=>e2P H',rt:=Q } ů H)(c8U):e0b sp:=MM.ok F S len O4
open e
universe L2
namespace K72
open PySem L2
open PyProof.Rows (boot_all boot_bool boot_dict boot_int boot_list boot_str boot_tuple)
theorem top (i):Stmt:=PySem.Challenge.pw_mixposts_k94_whole_rounds_on_the_way.main.body.getD i b75
inductive Kd where
 |house|listener|post
deriving DecidableEq
structure Cl where
 Mj:Addr
 post:Addr
 house:Addr
 PR:Addr
theorem Cl.of (c:Cl):Kd->Addr
 | .house=>c.house
 | .listener=>c.PR
 | .post=>c.post
structure Cl.Ok (K:Ψ)(c:Cl):Prop where
 cn:PM K c.Mj
 cp:PM K c.post
 ch:PM K c.house
 cl:PM K c.PR
 fp:Mb K c.Mj "kept_posts"
 ft:Mb K c.Mj "kept_ties"
 fn:Mb K c.Mj "next_number"
 np:Mb K c.post "name"
 nh:Mb K c.house "name"
 nl:Mb K c.PR "name"
 ph:c.post≠c.house
 pl:c.post≠c.PR
 hl:c.house≠c.PR
theorem ju (c:Cl)(C):Prop:=∃ k,C=c.of k
def Cl.Ok.cls (o:Cl.Ok K c):∀ k,PM K fR
 | .house=>o.ch
 | .listener=>o.cl
 | .post=>o.cp
def Cl.Ok.nam (o:Cl.Ok K c):∀ k,Mb K fR "name"
 | .house=>o.nh
 | .listener=>o.nl
 | .post=>o.np
abbrev LS:=Int×Str×Str×Int
structure NS where
 Lu:List (Str×Kd)
 Lj:List LS
 next:Int
theorem Nd (c:Cl)(H)(v)(p:Str×Kd):Prop:=∃ a dx,v=.ref a/\H a=!.ins (c.of p.2) dx [("name",.str p.1)]
theorem OH (H)(v)(t:LS):Prop:=∃ a,v=.ref a/\H a=!.tup a8l
structure Mv (c:Cl)(H:Hp)(n dp dt:Addr)(S:NS):Prop where
 ins:∃ dx,H n=!.ins c.Mj dx [b7y,b8b,("next_number",.int S.next)]
 Lu:∃ ķ,H dp=!.dK ķ/\Paired a7t ķ S.Lu
 Lj:∃ ķ,H dt=!.dK ķ/\Paired (λ(kv:Ws×V) (t:LS)=>kv.1=Sum.inl t.1/\OH H kv.2 t) ķ S.Lj
 ne:dp≠dt
def Nd.mono (e)(h:e9a p):Nd c H' v p:=let ⟨a,dx,q1,q2⟩:=h;#[a,dx,r8]
def OH.mono (e)(h:OH H v t):OH H' v t:=let ⟨a,q1,q2⟩:=h;#[a,r8]
def Mv.mono (e)(h:Mv c H n dp dt S):e4S S:=by let#[FY,h4]:=h;show#[#[dx,e ĉ h1],#[kp,e ĉ h2,Paired.NL p2 λe2Z=>(by let#[a,b]:=gR;show#[a,b.mono e])],#[kt,e ĉ h3,Paired.NL p3 λe2Z=>(by let#[a,b]:=gR;show#[a,b.mono e])],h4]
theorem nv:Str:="abcdefghijklmnopqrstuvwxyz"
theorem Ac (x):Bool:=not (Builtin.Str.occurrences nv x 0 nv.length 1).isEmpty
theorem gf (x):Bool:=decide (1<=x.length)&&decide (x.length<=8)&&(List.range x.cps.size).all λi=>Ac (sgn x i)
structure b5G (mg:Ω):Prop where
 M8:mg "len"=none
 NK:mg "isinstance"=none
 a3S:mg "str"=none
 WU:mg "all"=none
 Q6:mg "list"=none
structure GN (mg:Ω):Prop where
 let_:∃ t,mg "LETTERS"=!.str nv t
 lon:∃ t,mg "LONGEST_NAME"=!.int 8 t
 mop:∃ t,mg "MOST_POSTS"=!.int 20 t
 mol:∃ t,mg "MOST_LISTENERS"=!.int 8 t
structure n5 (K:Ψ):Prop where
 ss:W.kitOne K EY EY=!true
def c2S (g:Nat->V)(hz:x.cps.size<=1000)(hs:∀ i H2,i<x.cps.size->f' H H2->te (some (.str (sgn x i))::a5m σ js) H2 λv H5=>v=g i/\f' H2 H5)(hd:∀ l H',H l=none->f' H H'->H' l=!.lst ((List.range x.cps.size).map g)->F l H'):e2E F (Its x) H:=by
 intro l hl0;show#[λi m σ' H2=>m=x.cps.size - i/\i<=x.cps.size/\(∃ o,σ'=o::a5m σ js)/\f' H H2/\H2 l=!(.lst<|(List.range i).map g),#[x.cps.size,za,b8 ě hl0,af],?_];rintro i m σ' H2 ⟨rfl,hi,⟨o,rfl⟩,e,hl⟩;by_cases Nt:i<x.cps.size
 ·show .inr #[Nt,λv H3 y=>?_];let#[2]:=y;show#[λ_=>False,λv H5=>v=g i/\f' H3 H5,λH4 p4=>p4.elim,λv H5 gR=>?_,hs i H3 Nt e];let#[ev,e5]:=gR;subst ev;show#[_,e5 ĉ hl,by simp only[GS,HV];show HS Nt<|HH hz Ĺ,_,?_,1,Nt,#[_,1],bb (e.trans e5) hl0,?_]
  ·lia
  ·rw[af,KQ,GZ];rfl
 ·let ei:i=x.cps.size:=#[]
  subst ei;show .inl #[1,hd l H2 hl0 e hl]
inductive a57 (c8O):∀(x:Str),vs=[.str x]->x.length<=1000->(∀ H',f' H H'->Q (.bl (gf x)) H')
abbrev ip:Stmt:=top 24
def b4r:ar sT sT (aa ip):=Py
def yM (F:OR K "is_name" "is_name" ip f fd)(T:b5G mg)(TG:GN mg)(TK:n5 K):e1j sT a57:=by
 let#[tl,Vh]:=TG.let_;let#[tn,RB]:=TG.lon;show F.k b4r λe2U=>?_
 ·let#[x,1,hx,q]:=h;show#[_,(ag (gC (t7<|df (d9F K (mK (v:=.ty "str") rfl T.a3S boot_str rfl)))
  (d9V nL)
  N3)
 (aq (bD (yH (nK qM qM aK (bQ a70 rfl T.M8 boot_len<|a8 lS K')<|e9b RB #[_,1]) (nJ (bQ (ly K rfl) rfl T.WU boot_all (a8 (eZ rfl (cS 1 [] ["sign"]) (a0j<|pv 0)
  Ĕ
  zK
  (λe0i=>pM b3c lS (g8 (v:=.str nv) rfl Vh #[_,1])<|by with_unfolding_all rfl)) K'))))))),?_]
  let hxs:x.cps.size=x.length:=rfl;show#[_,1,.str x,CD,1,.str x,TK.ss,_,1,zh ?_];let qb:gf x=(decide (1<=x.length)&&decide (x.length<=8)&&((List.range x.cps.size).map λi=>Ac<|sgn x i).all id):=by rw[List.all_map];rfl
  show#[_,1,x,1,HH hx<|by decide,?_];show⟨_,_,rfl,rfl,_,rfl,qf (λh1=>?_) (λh1=>?_)⟩
  ·let h1:1<=x.length:=by let:=HB h1;omega
   show#[yU,1,qf (λh2=>?_) (λh2=>?_)]
   ·let h2:x.length<=8:=by let:=HB h2;omega
    show#[_,1,x,1,c2S (λi=>.bl<|Ac (sgn x i)) #[0] (λi H2 hi e=>#[_,1,_,nv,3,f'.refl _]) (λl H' hl0 e hl=>?_)];show#[l,(List.range x.cps.size).map λi=>Ac<|sgn x i,1,LO.of (by rw[GY];show hl),?_];let:=q H' e;rw[qb,Hf h1,Hf h2]at this;show this
   ·let h2:¬ x.length<=8:=λz=>h2<|Hf #[0];let:=q H ě
    cbv
  ·let h1:¬ 1<=x.length:=λz=>h1<|Hf #[0];let:=q H<|f'.refl _;rw[qb,Hg h1,Bool.false_and,Bool.false_and]at this;show#[_,1,zh this]
inductive fM (b:V)(d0H):∀ v,vs=[v]->Q b H
abbrev dj:Stmt:=e8q 3
def c3d:e6t (aa dj):=Py
def iO (F:OR K "reads" "Post.reads" dj f fd):f1M (fM xA):=by
 show F.k c3d λe2U=>?_
 ·ext d23
abbrev c3Y:Stmt:=ao (top 31) 1
def b92:e6t (aa c3Y):=Py
def jF (F:OR K "reads" "Listener.reads" c3Y f fd):f1M (fM Ŭ):=by
 show F.k b92 λe2U=>?_
 ·ext d23
abbrev dq:Stmt:=e8q 4
def b4j:e6t (aa dq):=Py
def iP (F:OR K "hears" "Post.hears" dq f fd):f1M (fM Ŭ):=by
 show F.k b4j λe2U=>?_
 ·ext d23
abbrev c26:Stmt:=ao (top 30) 1
def b7a:e6t (aa c26):=Py
def om (F:OR K "hears" "House.hears" c26 f fd):f1M (fM xA):=by
 show F.k b7a λe2U=>?_
 ·ext d23
theorem rdB:Kd->Bool
 | .listener=>true
 | _=>false
theorem VG:Kd->Bool
 | .house=>false
 | _=>true
def gW (d0W):∀ k,decide (c.of k=c.PR)=rdB k
 | .listener=>Hf rfl
 | .house=>Hg O.hl
 | .post=>Hg O.pl
def i5 (d0W):∀ k,(not (decide (d9G k)))=VG k
 | .house=>by rw[show decide (d9G .house)=true from Hf rfl];rfl
 | .listener=>by rw[show decide (d9G .listener)=false from Hg O.hl.symm];rfl
 | .post=>by rw[show decide (d9G .post)=false from Hg O.ph];rfl
inductive gQ (c:Cl)  (vs:π) (H:Hp) (Q:VK) (E:XK):∀(x:Addr) (k:Kd) (dx:Addr) (n:Str),vs=[.ref x,.str n]->H x=!.ins fR dx []->Q .non (d8X x (.ins fR dx [("name",.str n)]))
abbrev bP:Stmt:=e8q 0
def b3D:e9c (aa bP):=Py
def a2q (F:OR K "__init__" "Post.__init__" bP f fd)(d0W):e1j Ý (gQ c):=by
 show F.k b3D λe2U=>?_
 ·let#[x,k,dx,n,1,hx,q]:=h;show#[_,aq<|e4T fY rfl,?_];show#[m4,x,c.of k,FI,hx,O.cls k,O.nam k,by decide,q]
inductive ng (c:Cl)  (vs:π) (H:Hp) (Q:VK) (E:XK):Prop
 |mk (x dx:Addr):vs=[.ref x]->H x=!.ins c.Mj dx []->(∀ d1 d2 H',H d1=none->H d2=none->d1≠d2->(∀ a o,a≠x->H a=!o->H' a=!o) ->
 H' x=!.ins c.Mj dx [("kept_posts",.ref d1),("kept_ties",.ref d2),("next_number",.int 0)]->H' d1=!.dK []->H' d2=!.dK []->Q .non H')->ng c vs H Q E
abbrev c0F:Stmt:=ao BM 0
def a0y:e6t (aa c0F):=Py
def c4p (F:OR K "__init__" "Net.__init__" c0F f fd)(d0W):f1M (ng c):=by
 show F.k a0y λe2U=>?_
 ·let#[x,dx,1,hx,q]:=h;show#[_,(ag (e4T Qx rfl)
 (ag (e4T Qx rfl)
 (aq<|e4T aK rfl))),?_]
  intro d1 h1;let n1:=ak hx h1;show#[_,1,x,c.Mj,dx,_,1,by rw[a9 n1];show hx,O.cn,O.fp,by decide,?_];intro d2 h2;let n2:=ak af h2;let n3:=ak (by rw[a9 n1.symm];show af) h2;show#[_,1,x,c.Mj,dx,_,1,by rw[a9 n2];show af,O.cn,O.ft,(by change 1<1000;decide),?_];show#[_,1,x,c.Mj,FI,af,O.cn,O.fn,(by change 2<1000;decide),?_];let Vj:H d2=none:=by rw[a9 n2.symm,a9 n3.symm]at h2;show h2
  show q d1 d2 _ h1 Vj n3 (λa o na ha=>?_) af ?_ ?_
  ·rw[a9 na,a9 na,a9<|ak ha Vj,a9 na,a9<|ak ha h1];show ha
  ·rw[a9 n1.symm,a9 n1.symm,a9 n3,a9 n1.symm];show af
  ·rw[a9 n2.symm,a9 n2.symm];show af
universe K72
namespace Mx
theorem dot:List Int->List Int->Int
 | a::x,b::y=>a * b+dot x y
 | _,_=>0
theorem fO (p):Int->List (Int×Int)->Int
 | t,[]=>t
 | t,(a,b)::r=>fO p b9B r
theorem LI (p)(x y:Ξ):Int:=fO p 0 (x.zip y)
def b71 (p):∀ (x y:Ξ)(t:Int),t % p=t->fO p t (x.zip y)=(t+dot x y) % p
 | [],_,t,h=>by simp[fO,dot,h]
 | _::_,[],t,h=>by simp[fO,dot,h]
 | a::x,b::y,t,_=>by change fO p b9B (x.zip y)=_;rw[b71 p x y _<|Int.emod_emod_of_dvd _ (Int.dvd_refl _)];simp[dot,Int.emod_add_emod,Int.add_assoc,Int.add_comm]
def LU (p)(x y:Ξ):LI p x y=dot x y % p:=by ext1 LI;rw[b71 p x y 0<|by simp,L0]
def Mp:∀ (x y:Ξ),dot x y=dot y x
 | [],[]=>rfl
 | [],_::_=>rfl
 | _::_,[]=>rfl
 | a::x,b::y=>by change a * b+dot x y=b * a+dot y x;rw[Int.mul_comm,Mp x y]
def Nn (p):∀ (x y:Ξ),f0T y % p=dot x y % p
 | [],_=>by simp[dot]
 | _::_,[]=>by simp[dot]
 | a::x,b::y=>by change (a % p * b+f0T y) % p=(a * b+dot x y) % p;rw[Int.add_emod,Nn p x y,Int.mul_emod,Int.emod_emod_of_dvd _<|Int.dvd_refl _,<- Int.mul_emod,<- Int.add_emod]
def Nl (p)(x y:Ξ):dot x (y.map WH) % p=dot x y % p:=by rw[Mp,Nn,Mp]
theorem Cf (x y:Ξ):Ξ:=List.zipWith (·+·) x y
def a6I:∀ (x y v:Ξ),x.length=y.length->dot (Cf x y) v=dot x v+dot y v
 | [],[],v,_=>by simp[Cf,dot]
 | a::x,b::y,[],_=>by simp[Cf,dot]
 | a::x,b::y,c::v,h=>by
  let:=a6I x y v ų;change (a+b) * c+dot (Cf x y) v=(a * c+dot x v)+(b * c+dot y v)
  rw[this,Int.add_mul]
  lia
def a8R (k:Int):∀ (x v:Ξ),dot c2i v=k * dot x v
 | [],v=>by simp[dot]
 | a::x,[]=>by simp[dot]
 | a::x,c::v=>by
  change a * k * c+dot c2i v=k * (a * c+dot x v)
  rw[a8R k x v,Int.mul_add,Int.mul_comm a k,Int.mul_assoc]
abbrev _root_.Θ:=List Ξ
theorem col (t:Θ)(j):Ξ:=t.map λr=>r.getD j 0
theorem cols (t:Θ)(w:Nat):Θ:=(List.range w).map (col t)
theorem Q5 (t:Θ)(w:Nat)(r:Ξ):Ξ:=(cols t w).map λc=>dot c r
theorem QT (d0u):Ξ:=t.map λr=>dot r v
def a2e (t:Θ)(w:Nat)(r:Ξ):(Q5 t w r).length=w:=by simp[Q5,cols]
def NY:∀ (b:Ξ)(w:Nat),b.length=w->(List.range w).map (λj=>b.getD j 0)=b:=by
 intro b w h;subst h;apply Jk
 ·simp
 ·intro i h1 h2
  cbv
def QF:∀ (t:Θ)(w:Nat)(r v:Ξ),(∀ b∈t,b.length=w)->v.length=w->r.length=t.length->dot (Q5 t w r) v=dot r (QT t v)
 | [],w,r,v,_,_,hr=>by
  let:r=[]:=JH.mp (by simpa using hr);ext d4A;let e:Q5 [] w []=(List.range w).map λ_=>0:=by simp[Q5,cols,col,dot]
  rw[e];let z:∀ (n:À)(v:Ξ),dot (n.map λ_=>(0:Int)) v=0:=by
   intro n
   induction n with
   | nil=>intro v;simp[dot]
   | cons a n ih=>
    intro v
    cases v with
    | nil=>simp[dot]
    | cons c v=>change 0 * c+dot _ v=0;rw[ih v];omega
  rw[z];simp[dot]
 | b::t,w,[],v,_,_,hr=>by simp at hr
 | b::t,w,a::r,v,hb,hv,hr=>by
  let ih:=QF t w r v (λc hc=>hb c<|He _ hc) hv (by simpa using hr);let e:Q5 (b::t) w (a::r)=Cf (b.map (· * a)) (Q5 t w r):=by ext1 Q5 cols col Cf;rw[GY,GY];let RM:b=(List.range w).map (λj=>b.getD j 0):=(NY b w<|hb b Hi).symm;rw[show b.map (· * a)=((List.range w).map λj=>b.getD j 0).map (· * a) by rw[<- RM]];rw[GY,List.zipWith_map];simp[List.zipWith_self,HA,dot]
  rw[e,a6I Ĉ (by rw[GS,a2e];show hb b Hi),a8R,ih];change a * dot b v+dot r (QT t v)=a * dot b v+dot r (QT t v);rfl
theorem M3 (p)(d0u):Ξ:=t.map λr=>LI p r v
def Uu (p)(d0u):M3 p t v=(QT t v).map WH:=by ext1 M3 QT;rw[GY];apply HA;intro r _;simp[LU]
def b3n (p)(b:Θ)(w:Nat)(r:Ξ):M3 p (cols b w) r=(Q5 b w r).map WH:=by ext1 M3 Q5;rw[GY];apply HA;intro c _;simp[LU]
theorem Ll (n i:Nat):Ξ:=(List.range n).map λj=>if j=i then 1 else 0
theorem ones (n):Θ:=(List.range n).map (Ll n)
def a1s:∀ (n i s:Nat)(r:Ξ),r.length=n->dot ((e6u n).map λj=>if j=s+i then (1:Int) else 0) r=r.getD i 0
 | 0,i,s,r,h=>by
  simp_all [JH,dot]
 | n+1,i,s,[],h=>by simp at h
 | n+1,0,s,a::r,h=>by
  ext d6D;change (if s=s+0 then (1:Int) else 0) * a+dot _ r=a;rw[if_pos<|by omega];let z:∀ (m t:Nat)(v:Ξ),s<t->dot ((List.range' t m).map λj=>if j=s+0 then (1:Int) else 0) v=0:=by
   intro m
   induction m with
   | zero=>intro t v _;simp[dot]
   | succ m ih=>
    intro t v ht;ext d6D
    cases v with
    | nil=>simp[dot]
    | cons c v=>
     change (if t=s+0 then (1:Int) else 0) * c+dot _ v=0;rw[if_neg<|by omega,ih (t+1) v<|by omega];omega
  cbv
 | n+1,i+1,s,a::r,h=>by rw[List.range'_succ];change (if s=s+(i+1) then (1:Int) else 0) * a+dot _ r=_;rw[if_neg<|by omega];let:=a1s n i (s+1) r (by simpa using h);rw[show (λj=>if j=s+(i+1) then (1:Int) else 0)=λj=>if j=s+1+i then (1:Int) else 0 by funext j;rw[show s+(i+1)=s+1+i by omega]];rw[this];simp
def Mu (n i:Nat)(r:Ξ)(h:r.length=n):dot (Ll n i) r=r.getD i 0:=by let:=a1s n i 0 r h;ext1 Ll;rw[List.range_eq_range'];ext d3g
def Xo (n j:Nat)(hj:j<n):col (ones n) j=Ll n j:=by
 ext1 col ones Ll;rw[GY];apply HA;intro i hi;simp[hj];by_cases h:j=i
 ·subst h;simp
 ·simp[h,Ne.symm h]
def UC {r:Ξ}(h:∀ x∈r,0<=x/\x<p):r.map WH=r:=by
 let:=HA λe0M=>IW (h x hx).1 (h x hx).2
 cbv
abbrev e (r:Ξ)(j:Nat):Int:=r.getD j 0
theorem Np (p)(r:Ξ):Prop:=∀ x∈r,0<=x/\x<p
def Np.at (d15)(j):0<=e r j/\e r j<p:=by
 ext1 e;rw[GV]
 cases hj:r[j]? with
 | none=>cbv
 | some x=>show h x (Hb hj)
theorem scaled (p)(r:Ξ)(k:Int):Ξ:=r.map λx=>k * x % p
theorem without (p)(r lead:Ξ)(q:Nat):Ξ:=if e r q=0 then r else List.zipWith (λm t=>(m - e r q * t % p) % p) r lead
theorem MG (ř:Θ)(start q:Nat):Option Nat:=(List.range' start (ř.length - start)).find? λa=>decide (e ħ q≠0)
theorem cleared (d16)(start a q:Nat):Θ:=
 let lead:=f1L Cp
 let others:=(ř.take a++ř.drop (a+1)).map λr=>e0A q
 others.take start++[lead]++others.drop start
theorem step (p)(bk)(st:List (Ξ)×Nat)(q:Nat):List (Ξ)×Nat:=
 match MG st.1 st.2 q with
 | none=>st
 | some a=>(e7r st.1 st.2 a q,st.2+1)
theorem run (d16)(k:Nat):List (Ξ)×Nat:=(List.range k).foldl (step p bk) (ř,0)
def Qu (d16)(k:Nat):e2F (k+1)=step p bk (e2F k) k:=by ext1 run;rw[KQ,JY];rfl
def c15 (j):e AX j=k * e r j % p:=by
 ext1 e scaled;rw[GV,GV,Hh]
 cases r[j]? with
 | none=>simp
 | some x=>simp
def a12 (c82)(hr:Np p r)(hl:lead.length=r.length)(j):e XV j=(e r j - e r q * e lead j) % p:=by
 ext d6c;by_cases h:e r q=0
 ·rw[if_pos h,h,Int.zero_mul,Int.sub_zero];let:=hr.at hp j;show (IW this.1 this.2).symm
 ·by_cases hj:j<r.length
  ·cbv
  ·cbv
def b60 (p x:Int):p ∣ x % p - x:=by
 show#[-(x / p),?_];rw[Int.emod_def,Int.mul_neg]
 lia
def c2U (p k:Int):∀ (r v:Ξ),p ∣ dot AX v - k * dot r v
 | [],v=>by simp[scaled,dot]
 | x::r,[]=>by simp[scaled,dot]
 | x::r,y::v=>by
  let ih:=c2U p k r v;let h:=b60 p<|k * x;change p ∣ b5K - k * (x * y+dot r v)
  let:b5K - k * (x * y+dot r v)=(k * x % p - k * x) * y+(dot AX v - k * dot r v):=by
   grind
  rw[this];show Jt (Kp h) ih
def iC (p c:Int):∀ (r lead v:Ξ),lead.length=r.length->p ∣ dot Ŵ v - b5n
 | [],[],v,_=>by simp[dot]
 | x::r,y::lead,[],_=>by simp[dot]
 | x::r,y::lead,z::v,h=>by
  let ih:=iC p c r lead v ų;let h1:p ∣ OY % p - (x - c * y):=by rw[Int.sub_emod_emod];show b60 p _
  change p ∣ (OY % p * z+dot _ v) - b0A
  let:(OY % p * z+dot Ŵ v) - b0A=(OY % p - (x - c * y)) * z+(dot Ŵ v - b5n):=by
   grind
  rw[this];show Jt (Kp h1) ih
def lR (p)(r lead v:Ξ)(q:Nat)(d1M):p ∣ dot XV v - (dot r v - e r q * dot lead v):=by
 ext d6c;by_cases h0:e r q=0
 ·cbv
 ·rw[if_neg h0];show iC p _ r lead v h
theorem XQ (p)(v:Ξ)(ř:Θ):Prop:=∀ r∈ř,p ∣ dot r v
structure Sh (p:Int)(w:Nat)(ř:Θ):Prop where
 PZ:∀ r∈ř,r.length=w
 fit:∀ r∈ř,Np p r
theorem Bk (p)(bk):Prop:=∀ a,0<a->a<p->p ∣ a * bk a - 1
def Nm:
  r∈cleared p bk ř start a q ↔ r=f1L Cp\/∃ r0∈ř.take a++ř.drop (a+1),r=e4U r0 (f1L Cp) q:=by
 ext d4V;generalize hl:e1e ĉ=lead;generalize hm:(ř.take a++ř.drop (a+1)).map (λr=>e0A q)=others;let:r∈others.take start++[lead]++others.drop start ↔ r=lead\/r∈others:=by
  ext d4M
  ·intro h;rcases Hx.mp h with h|h
   ·rcases Hx.mp h with h|h
    ·show .inr (IN h)
    ·show .inl ų
   ·show .inr (List.mem_of_mem_drop h)
  ·intro h;rcases h with h|h
   ·subst h;simp
   ·let:r∈others.take start++others.drop start:=by cbv
    grind
 rw[this,<- hm];ext d4M
 ·rintro (h|h)
  ·show .inl h
  ·let#[r0,mh]:=GX.mp h;show .inr c2j
 ·rintro (h|⟨r0,h1,h2⟩)
  ·show .inl h
  ·show .inr (GX.mpr c2j)
def ir {ř:Θ}(c8E)(h:r∈ř):r=ř.getD a []\/r∈ř.take a++ř.drop (a+1):=by
 let#[rT]:=Jr h;rcases Nat.lt_trichotomy i a with c|c|c
 ·right;show HK _ ?_;rw[Kg];show#[i,#[],1]
 ·left;subst c;simp[hi]
 ·right;show Hq _ ?_;rw[List.mem_drop_iff_getElem];show#[i - (a+1),#[],by congr 1;lia]
def c5y {ř:Θ}(h:r∈ř.take a++ř.drop (a+1)):r∈ř:=by grind
def getD_mem {ř:Θ}(c8E):ř.getD a []∈ř:=by cbv
def b2t (c82):Np p AX:=by ext d7z;let#[y,_,1]:=GX.mp hx;ext d4N
def b53 (d15):Np p XV:=by
 ext d6c;split
 ·show h
 ·ext d7z;let#[rT]:=Jr hx;rw[KM];ext d4N
def c2V (d1M):(e0A q).length=r.length:=by
 ext d6c;split
 ·rfl
 ·cbv
def Sh.cleared {p:Int}{bk:Int->Int}{w:Nat}{ř:Θ}{start a q:Nat}(c82)(d0X)(c8E):Sh p w b4I:=by
 let hl:(e1e ħ<|bk (e ħ q)).length=w:=by ext1 scaled;rw[GS];show S.PZ _ (getD_mem ha)
 show#[Bb]
 ·rcases Nm.mp hr with rfl|⟨r0,h0,rfl⟩
  ·show hl
  ·let:=S.PZ r0<|c5y h0;rw[c2V<|by omega (config:={})];show this
 ·rcases Nm.mp hr with rfl|⟨r0,h0,rfl⟩
  ·show b2t hp
  ·show b53 hp (S.fit r0<|c5y h0)
def b9S (c82)(hb:Bk p bk)(d0X)(c8E)(h0:e ħ q≠0):
  XQ p v b4I ↔ XQ p v ř:=by
 let hm:=getD_mem ha;let hf:=(S.fit _ hm).at hp q;generalize hx:e _ q=x at *
 let hl:=λr (hr:r∈ř)=>show (e1e _<|bk x).length=r.length by ext1 scaled;rw[GS,S.PZ _ hm,S.PZ _ hr]
 let d1:=c2U p (bk x) ħ v;ext d4M
 ·intro K r hr;let k1:=K _<|Nm.mpr (.inl<|by rw[hx]);rcases ir ha hr with rfl|h
  ·
   let a1:p ∣ bk x * dot ħ v:=by
    let:=JB k1 d1
    grind
   let a2:p ∣ _ * dot ħ v:=Kp<|hb x #[] hf.2;let a3:p ∣ x * _:=Iv a1;let:=JB a3 a2
   grind
  ·let k2:=K _<|Nm.mpr (.inr #[r,h,by rw[hx]]);let a1:=JB k2<|lR p r _ v q (hl r hr);let a2:p ∣ e r q * dot _ v:=Iv k1;let:=Jt a1 a2
   grind
 ·intro K r hr;let k1:p ∣ dot (e1e ħ<|bk x) v:=by
   let a1:p ∣ bk x * dot _ v:=Iv<|K _ hm;let:=Jt d1 a1
   grind
  rcases Nm.mp hr with rfl|⟨r0,h0,rfl⟩
  ·rw[hx];show k1
  ·let hr0:=c5y h0;let a2:p ∣ dot r0 v - e r0 q * dot _ v:=JB (K r0 hr0)<|Iv k1;let:=Jt (lR p r0 _ v q<|hl r0 hr0) a2
   grind
structure RR (p:Int)(w k:Nat)(ř:Θ)(ps:À):Prop where
 sh:Sh p w ř
 len:ps.length<=ř.length
 lt:∀ q∈ps,q<k
 inc:ps.Pairwise (·<·)
 one:∀ (i q:Nat),ps[i]?=!q->e ņ q=1
 zer:∀ (i j q:Nat),ps[j]?=!q->i≠j->e ņ q=0
 lead:∀ (i q q':Nat),ps[i]?=!q->q'<q->e ņ q'=0
 rest:∀ (i q:Nat),ps.length<=i->q<k->e ņ q=0
def b3G (q:Nat):e [] q=0:=by simp[e]
def RR.start (d0X):RR p w 0 ř []:=
 #[S,HW _,(λ_ h=>nomatch h),List.Pairwise.nil,λi q h=>by simp at h,λi j q h=>by simp at h,λi q q' h=>by simp at h,λi q _ h=>absurd h<|JR _]
def sU (h:e8r q=none):∀ i,start<=i->e ņ q=0:=by
 intro i hi;by_cases hl:i<ř.length
 ·unfold MG at h
  grind
 ·grind
def Qv (h:e8r q=!a):start<=a/\a<ř.length/\e ħ q≠0:=by
 unfold MG at h
 grind
def b11 (c8E)(hs:start<=a):(e0G q).length=ř.length:=by
 ext1 cleared;simp only[Hn,Hm,KD,GS,HZ,JS]
 lia
def a8D (c8E)(hs:start<=a)(i)(hi:i<ř.length):
  ∃ lead,lead=f1L Cp/\
   ((i<start/\(e0G q).getD i []=e4U ņ lead q)\/(i=start/\(e0G q).getD i []=lead) \/
    (start<i/\∃ i',start<=i'/\i'<ř.length/\i'≠a/\(e0G q).getD i []=e4U (ř.getD i' []) lead q)):=by
 ext d5Q;ext d4V;ext d7A;let hol:((ř.take a++ř.drop (a+1)).map λr=>e0A q).length=ř.length - 1:=by simp only[GS,Hn,Hm,KD];omega
 let hoa:∀ j,j<ř.length - 1->((ř.take a++ř.drop (a+1)).map λr=>e0A q)[j]?=!without p (ř.getD (if j<a then j else j+1) []) lead q:=by
  intro j hj;rw[Hh];by_cases c:j<a
  ·rw[HY (by rw[Hm];omega),IR c,if_pos c,GT<|by omega,GV,GT<|by omega];rfl
  ·rw[Ib (by rw[Hm];omega),Hm,Ko,if_neg c];let:a+1+(j - min a ř.length)=j+1:=#[0]
   rw[this,GT<|by omega,GV,GT<|by omega];rfl
 generalize ((ř.take a++ř.drop (a+1)).map λr=>e0A q)=others at hol hoa;rw[GV];rcases Nat.lt_trichotomy i start with c|c|c
 ·left;show#[c,?_];rw[HI,HY (by rw[Hm];omega),IR c,hoa i<|by omega,if_pos<|by omega];rfl
 ·right;left;show#[c,?_];subst c;rw[HI,Ib (by rw[Hm];omega),Hm];let:i - min i others.length=0:=#[0]
  rw[this];rfl
 ·right;right;show#[c,if i - 1<a then i - 1 else i - 1+1,qm,qm]
  ·split <;> omega
  ·split <;> omega
  ·split <;> omega
  ·rw[Ib (by rw[Hn,Hm,Ih];omega),Hn,Hm,Ih,Ko];let:start+(i - (min start others.length+1))=i - 1:=#[0]
   rw[this,hoa _<|by omega];rfl
def RR.step (d17)(hb:Bk p bk)(R:RR p w k ř ps):
  ∃ Y1,e1E k=((e1E k).1,Y1.length)/\RR p w (k+1) (e1E k).1 Y1/\(e1E k).1.length=ř.length/\∀ v,XQ p v (e1E k).1 ↔ XQ p v ř:=by
 ext1 Mx.step
 cases h:MG ř ps.length k with
 | none=>
  show#[ps,1,#[R.sh,R.len,λe3Y=>Jz<|R.lt q hq,R.inc,R.one,R.zer,R.lead,λi q hi hq=>?_],1,λv=>Iff.rfl];rcases Nat.lt_succ_iff_lt_or_eq.mp hq with c|c
  ·show R.rest i q hi c
  ·subst c;show (sU h) i hi
 | some a=>
  let#[hs,ha,h0]:=Qv h;let U0:0<p:=#[0]
  let hm:=getD_mem ha;let hf:=(R.sh.fit _ hm).at U0 k;show#[ps++[k],by simp,?_,b11 ha hs,λv=>b9S U0 hb R.sh ha h0];let hlen:=b11 (p:=p) (bk:=bk) (q:=k) ha hs;let l1:e (e1e ħ<|bk (e ħ k)) k=1:=by rw[c15,Int.mul_comm];let:=(Ke).mpr<|Jp (hb (e ħ k) #[0] hf.2);rw[this];show IW #[0] hp
  let l0:∀ q,q<k->e (e1e ħ<|bk (e (ř.getD a []) k)) q=0:=λe3Y=>by rw[c15,R.rest a q hs hq,Int.mul_zero,Int.zero_emod]
  let wz:∀ (i:Nat)(lead:Ξ),i<ř.length->lead=f1L (bk<|e ħ k)->
    e b8c k=0/\∀ q,q<k->e b8c q=e ņ q:=by
   intro i lead hi hl;let hmi:=getD_mem hi;let hll:lead.length=(ř.getD i []).length:=by rw[hl];ext1 scaled;rw[GS,f0U hm,f0U hmi]
   show#[?_,λe3Y=>?_]
   ·rw[a12 U0 c2k hll,hl,l1,Int.mul_one,Int.sub_self,Int.zero_emod]
   ·rw[a12 U0 c2k hll,hl,l0 q hq,Int.mul_zero,Int.sub_zero];let:=(R.sh.fit _ hmi).at U0 q;show IW this.1 this.2
  let out:∀ i,¬ i<ř.length->(e7r ř ps.length a k).getD i []=[]:=λe8X=>by rw[GV,Ip<|by omega];rfl
  let psk:∀ (i q:Nat),(ps++[k])[i]?=!q->(i<ps.length/\ps[i]?=!q)\/(i=ps.length/\q=k):=λi e3Y=>by
   by_cases c:i<ps.length
   ·rw[HY c]at hq;show .inl #[c,hq]
   ·rw[Ib<|by omega]at hq;by_cases c2:i - ps.length=0
    ·rw[c2]at hq;simp at hq;show .inr #[#[0],hq.symm]
    ·rw[Ip (by simp;omega)]at hq;cases hq
  let plt:∀ (i q:Nat),ps[i]?=!q->q<k:=λi e3Y=>R.lt q<|Hb hq;show⟨R.sh.cleared U0 ha,by rw[hlen,Hn,Ih];omega,λe3Y=>?_,?_,λi e3Y=>?_,λi j e3Y hij=>?_,λi q q' hq RK=>?_,λi q hi hq=>?_⟩
  ·rcases Hx.mp hq with c|c
   ·show Jz (R.lt q c)
   ·let:q=k:=by simpa using c
    omega
  ·rw[List.pairwise_append];show#[R.inc,e5D _,λe0M e16=>?_];let:y=k:=by simpa using hy
   rw[this];show R.lt x hx
  ·
   ext d4Y
   ·ext d3K;rcases d with⟨_,d⟩|⟨d,_⟩|⟨d,_⟩
    ·rw[d,(e7s #[0] hl).2 q<|plt i q hq];show R.one i q hq
    ·omega
    ·omega
   ·ext d3K;rcases d with⟨d,_⟩|⟨_,d⟩|⟨d,_⟩
    ·omega
    ·rw[d,hl];show l1
    ·omega
  ·
   by_cases hi:i<ř.length
   ·let#[p8]:=a8D ha hs i hi;rcases psk j q hq with⟨c,hq⟩|⟨c,rfl⟩
    ·let hk:=plt j q hq;rcases d with⟨_,d⟩|⟨d1,d⟩|⟨_,i',d1,d2,_,d⟩
     ·rw[d,(e7s hi hl).2 q hk];show R.zer i j q hq hij
     ·rw[d,hl];show l0 q hk
     ·rw[d,(wz i' lead d2 hl).2 q hk];show R.rest i' q d1 hk
    ·rcases d with⟨_,d⟩|⟨d1,d⟩|⟨_,i',d1,d2,_,d⟩
     ·rw[d];show (e7s hi hl).1
     ·omega
     ·ext d6U
   ·rw[out i hi];show b3G q
  ·
   ext d4Y
   ·let hk:=plt i q hq;ext d3K;rcases d with⟨_,d⟩|⟨d,_⟩|⟨d,_⟩
    ·rw[d,(e7s #[0] hl).2 q'<|by omega];show R.lead i q q' hq RK
    ·omega
    ·omega
   ·ext d3K;rcases d with⟨d,_⟩|⟨_,d⟩|⟨d,_⟩
    ·omega
    ·rw[d,hl];show l0 q' RK
    ·omega
  ·
   rw[Hn,Ih]at hi;by_cases Zk:i<ř.length
   ·let#[p8]:=a8D ha hs i Zk;rcases d with⟨d,_⟩|⟨d,_⟩|⟨_,i',d1,d2,_,d⟩
    ·omega
    ·omega
    ·rcases Nat.lt_succ_iff_lt_or_eq.mp hq with c|c
     ·rw[d,(wz i' lead d2 hl).2 q c];show R.rest i' q d1 c
     ·subst c;ext d6U
   ·rw[out i Zk];show b3G q
def RR.run (d17)(hb:Bk p bk)(d0X):∀ k,∃ ps,(e3W k).2=ps.length/\RR p w k (e3W k).1 ps/\(e3W k).1.length=ř.length/\∀ v,XQ p v (e3W k).1 ↔ XQ p v ř:=by
 intro k
 induction k with
 | zero=>show#[[],1,RR.start S,1,λv=>Iff.rfl]
 | succ k ih=>
  let#[ps,wG]:=ih;rw[Qu];let e1:e3W k=((e3W k).1,ps.length):=by rw[<- h1]
  rw[e1];let#[Y1,pU,g4]:=h2.step hp hb;show#[Y1,by rw[g1],g2,g3.trans h3,λv=>(g4 v).trans<|h4 v]
theorem M0 (r:Ξ)(m):Option Nat:=(List.range m).find? λq=>decide (e r q≠0)
theorem Ml (ř:Θ)(m):À:=(ř.map λr=>M0 r m).filterMap id
def a5o (hq:q<m)(h1:e r q≠0)(h0:∀ q',q'<q->e r q'=0):M0 r m=!q:=by
 ext1 M0
 cbv
def a4O (h0:∀ q,q<m->e r q=0):M0 r m=none:=by
 ext1 M0
 cbv
def MS (R):Ml ř m=ps:=by
 let:ř.map (λr=>M0 r m)=ps.map some++List.replicate (ř.length - ps.length) none:=by
  ext d8p;let hl:=R.len;by_cases hi:i<ř.length
  ·by_cases c:i<ps.length
   ·let hq:=GT c;let:=a5o (R.lt _<|Ia c) (by rw[R.one i _ hq];decide) (λq' RK=>R.lead i _ q' hq RK)
    cbv
   ·let:=a4O (λe3Y=>R.rest i q #[0] hq)
    cbv
  ·cbv
 ext1 Ml
 cbv
def iy:∀ (ps:À)(s m:Nat),ps.Pairwise (·<·)->(∀ q∈ps,s<=q/\q<s+m)->ps.length<=m/\(ps.length=m->ps=e6u m)
 | [],s,m,_,_=>by
  cbv
 | a::ps,s,0,_,h=>by let:=h a Hi;lia
 | a::ps,s,m+1,hp,h=>by
  let#[mh]:=Jx.mp hp;let ha:=h a Hi;let ih:=iy ps (s+1) m h2 λe3Y=>#[by let:=h1 q hq;lia,by let:=(h q<|He _ hq).2;lia];show⟨by simp;show ih.1,λhl=>?_⟩;let e1:=ih.2 Ĵ;ext d6D;let:a=s:=by
   rcases Nat.lt_or_ge s a with c|c
   ·exfalso;let ih2:=iy ps (s+2) (m - 1) h2 (λe3Y=>#[by let:=h1 q hq;lia,by let:=(h q<|He _ hq).2;let:=h1 q hq;lia])
    grind
   ·lia
  rw[this,e1]
def RR.all (R)(h:ps.length=m):ps=List.range m:=by let:=(iy ps 0 m R.inc λe3Y=>#[HW _,by let:=R.lt q hq;omega]).2 h;rw[this,List.range_eq_range']
def RR.Mt (R):ps.length<=m:=
 (iy ps 0 m R.inc λe3Y=>#[HW _,by let:=R.lt q hq;omega]).1
def uu (h:q<m):e fG q=e r q:=by cbv
def b8q {ř:Θ}:(ř.map tL).getD a []=(ř.getD a []).take m:=by
 rw[GV,GV,Hh]
 cases ř[a]? with
 | none=>simp
 | some x=>rfl
def c5o (h:q<m):MG EA start q=e8r q:=by ext1 MG;rw[GS];congr 1;funext a;rw[b8q,uu h]
def b6k (h:q<m):e4U fG (lead.take m) q=(e0A q).take m:=by
 ext d6c;rw[uu h];split
 ·rfl
 ·rw[List.take_zipWith]
def c53:e1e fG k=(e1e r k).take m:=by ext1 scaled;rw[Jl]
def b4x (h:q<m):e7r EA start a q=(e0G q).map tL:=by
 ext d4V;rw[b8q,uu h,c53];ext d7A;let:((ř.map<|List.take m).take a++(ř.map<|List.take m).drop (a+1)).map (λr=>e4U r (lead.take m) q)=((ř.take a++ř.drop (a+1)).map λr=>e0A q).map tL:=by rw[<- Jl,<- KH,<- GZ,GY,GY];apply HA;intro r _;show b6k h
 rw[this];simp only[GZ,Jl,KH,HE,IP]
def Uy:∀ k,k<=m->run p bk EA k=((e2F k).1.map tL,(e2F k).2):=by
 intro r'
 induction r' with
 | zero=>
  ext d48
 | succ k ih'=>
  intro h;rw[Qu,Qu,ih'<|by lia];ext1 step;simp only[];rw[c5o<|by lia]
  cases MG (e2F k).1 (e2F k).2 k with
  | none=>rfl
  | some a=>simp only[];rw[b4x<|by lia]
def a6g:∀ (x a y b:Ξ),x.length=a.length->dot (x++y) (a++b)=dot x a+dot y b
 | [],[],y,b,_=>by simp[dot]
 | u::x,v::a,y,b,h=>by
  change u * v+dot (x++y) (a++b)=u * v+dot x a+dot y b;rw[a6g x a y b<|by simpa using h]
  lia
def a2t:∀ (x v:Ξ),dot x (v.map λt=>-t)=- dot x v
 | [],v=>by simp[dot]
 | a::x,[]=>by simp[dot]
 | a::x,b::v=>by
  change a * -b+dot x (v.map λt=>-t)=-(a * b+dot x v)
  rw[a2t x v,Int.mul_neg]
  lia
theorem joined (t:Θ):Θ:=List.zipWith (λr o=>r++o) t (ones t.length)
def LF (n i:Nat):(Ll n i).length=n:=by simp[Ll]
def fc (d17)(n i:Nat):Np p (Ll n i):=by ext d7z;let#[j,_,1]:=GX.mp hx;split <;> omega
def b4f (t:Θ)(i)(hi:i<t.length):(joined t)[i]?=!t[i]++e2H i:=by
 ext1 joined ones
 cbv
def Nk (t:Θ):(joined t).length=t.length:=by simp[joined,ones]
def b63 (h:r∈joined t):∃ i,∃ (hi:i<t.length),r=t[i]++e2H i:=by
 let#[rT]:=Jr h;let U3:i<t.length:=by rw[Nk]at hi;show hi
 show#[i,U3,?_];let:=b4f t i U3
 cbv
def QW (d17)(d1l):Sh p lA pV:=by
 show#[Bb]
 ·ext d8s;rw[Hn,LF,S.PZ _<|Ia hi]
 ·ext d8s;ext d7z;rcases Hx.mp hx with h|h
  ·show S.fit _ (Ia hi) x h
  ·show fc hp ĉ x h
def UH (d1l):(joined t).map tL=t:=by
 ext d8p;rw[Hh];by_cases hi:i<t.length
 ·rw[b4f t i hi,GT hi];change some ((t[i]++e2H i).take m)=some t[i];rw[KL (by rw[S.PZ _<|Ia hi];show Hl _),Ir (by rw[S.PZ _<|Ia hi];show Hl _)]
 ·rw[Ip (by rw[Nk];omega),Ip<|by omega];rfl
theorem Wl (t:Θ)(m j:Nat):Ξ:=(Ll m j).map (λx=>-x)++col t j
def b8p (hr:r.length=m+n):dot r (Wl t m j)=dot (r.drop m) yC - e r j % 1 * 0 - (if j<m then e r j else 0):=by
 let:=(Iy m r).symm;ext1 Wl
 conv=>lhs;rw[this]
 rw[a6g ą (by rw[GS,LF,Hm];lia),a2t,Mp,Mu m j _ (by rw[Hm];lia)];by_cases c:j<m
 ·let:(r.take m).getD j 0=e r j:=uu c
  lia
 ·grind
def zf (d1l)(j)(hj:j<m):XQ p (Wl t m j) pV:=by
 intro r hr;ext d8s;let hw:=S.PZ _<|Ia hi;rw[b8p<|by rw[Hn,LF,hw],if_pos hj];let e1:(t[i]++e2H i).drop m=e2H i:=by
  grind
 let e2:e (t[i]++e2H i) j=e t[i] j:=by
  grind
 rw[e1,e2,Mu Ĉ<|by simp[col]];let e3:(col t j).getD i 0=e t[i] j:=by ext1 col;simp[hi]
 cbv
def VX (d17)(d1l)(R:RR p lA m ř ps)(W5:ps=List.range m)(hl:ř.length=t.length)(hk:∀ v,XQ p v ř ↔ XQ p v pV)(i j:Nat)(hi:i<m)(hj:j<m):dot Bt yC % p=if i=j then 1 else 0:=by
 let Of:ps.length=m:=by rw[W5];simp
 let hir:i<ř.length:=by let:=R.len;omega
 let hm:=getD_mem hir;let k:=(hk _).mpr (zf S j hj) _ hm;rw[b8p<|f0U hm,if_pos hj]at k;let pj:ps[j]?=!j:=by rw[W5];show Js hj
 let er:e ņ j=if i=j then 1 else 0:=by
  ext d3O
  ·subst c;ext d54;show R.one i i pj
  ·ext d3j;show R.zer i j j pj c
 rw[er]at k;let k':p ∣ dot Bt yC - b7z:=by rwa [show dot ĉ - _ % 1 * 0 - _=dot Bt yC - b7z by omega]at k
 let:=Ke.mpr<|Jp k';rw[this];show IW (by split <;> omega) (by split <;> omega)
theorem Nv (d1z):List (List Int×Nat)->List Int->Ξ
 | [],v=>v
 | (r,q)::rest,v=>Nv p u rest (v.set q ((0 - e r u) % p))
abbrev _root_.Ð:=List (List Int×Nat)
def b3m (d1z):∀ (l:Ð)(v:Ξ),(Nv p u l v).length=v.length:=by
 intro r'
 induction r' with
 | nil=>
  intro v;show rfl
 | cons hd' rest ih'=>
  let#[r,q]:=hd';intro v;change (Nv p u rest _).length=_;rw[ih',List.length_set]
def a9O (d1z):∀ (l:Ð)(v:Ξ)(j:Nat),(∀ x∈l,x.2≠j)->e j0 j=e v j:=by
 intro r'
 induction r' with
 | nil=>
  intro v j _;show rfl
 | cons hd' rest ih'=>
  let#[r,q]:=hd';intro v j h;change e Ds j=_;rw[ih' _ j λe0M=>h x<|He _ hx]
  cbv
def a5u (d1z):∀ (l:Ð)(v:Ξ)(r:Ξ)(q:Nat),(r,q)∈l->(l.map (·.2)).Pairwise (·<·)->q<v.length->e j0 q=(0 - e r u) % p
 | (r',q')::rest,v,r,q,h,hp,hq=>by
  change e Ds q=_;let#[mh]:=Jx.mp hp;rcases Hs.mp h with c|c
  ·let#[c1,c2]:=Prod.mk.inj c;rw[<- c2,<- c1];rw[<- c2]at h1;rw[a9O p u rest _ q (λe0M=>by let:q<x.2:=h1 x.2<|GX.mpr #[x,hx,1];lia)]
   cbv
  ·show a5u p u rest _ r q c h2 (by rw[List.length_set];show hq)
def a6p (c82)(u:Nat):∀ (l:Ð)(v:Ξ),Np p v->Np p j0:=by
 intro r'
 induction r' with
 | nil=>
  intro v h;show h
 | cons hd' rest ih'=>
  let#[r,q]:=hd';intro v h;change Np p Ds;show ih' _ λe0M=>?_;rcases List.mem_or_eq_of_mem_set hx with c|c
  ·show h x c
  ·subst c;ext d4N
theorem eU (f:Nat->Int):Nat->Int
 | 0=>0
 | n+1=>eU f n+f n
def a4S (f:Nat->Int):∀ n,eU f (n+1)=f 0+eU (λj=>f (j+1)) n:=by
 intro r'
 induction r' with
 | zero=>
  simp[eU]
 | succ n ih'=>
  rw[eU,ih',eU]
  lia
def a3N:∀ (x v:Ξ),x.length=v.length->dot x v=eU (λj=>e x j * e v j) x.length
 | [],[],_=>rfl
 | a::x,b::v,h=>by change a * b+dot x v=_;rw[a3N x v<|by simpa using h,HZ,a4S];rfl
def b4G:∀ n,(∀ j,j<n->f j=0)->eU f n=0:=by
 intro r'
 induction r' with
 | zero=>
  ext d48
 | succ n ih'=>
  intro h;rw[eU,ih' λe7W=>h j<|by lia,h n<|by lia];rfl
def a1u:∀ n,a<n->(∀ j,j<n->j≠a->f j=0)->eU f n=f a
 | n+1,ha,h=>by
  rw[eU];by_cases c:a=n
  ·subst c;rw[b4G a λe7W=>h j #[0]<|by omega];omega
  ·rw[a1u n #[0] λe7W hja=>h j #[0] hja,h n #[0]<|Ne.symm c];omega
def a6P:∀ n,a<n->b<n->a≠b->(∀ j,j<n->j≠a->j≠b->f j=0)->eU f n=f a+f b
 | n+1,ha,hb,SG,h=>by
  rw[eU];by_cases c:a=n
  ·subst c;rw[a1u a (a:=b) #[0] λe7W hjb=>h j #[0] #[0] hjb];omega
  ·by_cases d:b=n
   ·subst d;rw[a1u b (a:=a) #[0] λe7W hja=>h j #[0] hja<|by omega]
   ·rw[a6P n #[0] #[0] SG λe7W hja hjb=>h j #[0] hja hjb,h n #[0] Fs<|Ne.symm d];omega
theorem LZ (p)(ř:Θ)(ps:À)(m u:Nat):Ξ:=Nv p u (ř.zip ps) (Ll m u)
def b33 (m u j:Nat):e (Ll m u) j=if j<m/\j=u then 1 else 0:=by
 ext1 e Ll;rw[GV,Hh];by_cases c:j<m
 ·cbv
 ·rw[Ip<|by simpa using c];simp[c]
def VZ (d17)(R:RR p m m ř ps)(hu:u<m)(hup:u∉ps):
  XQ p qc ř/\e qc u=1/\(LZ p ř ps m u).length=m/\Np p qc:=by
 let UI:((ř.zip ps).map (·.2))=ps:=by rw[List.map_snd_zip];let:=R.len;omega
 let hlen:(LZ p ř ps m u).length=m:=by ext1 LZ;rw[b3m,LF]
 let a8b:∀ x∈ř.zip ps,x.2∈ps:=λe0M=>(Jf hx).2;let out:∀ j,j∉ps->e qc j=if j<m/\j=u then 1 else 0:=λe7W=>by ext1 LZ;rw[a9O p u ĉ j λe0M z=>hj<|z▸a8b x hx,b33]
 let inn:∀ (i q:Nat),ps[i]?=!q->e qc q=(0 - e ņ u) % p:=λi e3Y=>by
  let hi:=(GW.mp hq).1;let hir:i<ř.length:=by let:=R.len;omega
  show a5u p u Ĉ q ?_ (by rw[UI];show R.inc) (by rw[LF];show R.lt q<|Hb hq);rw[IT];show#[i,?_];rw[L5];show#[?_,hq];rw[GV,GT hir];rfl
 show#[λe2T=>?_,by rw[out u hup,if_pos #[hu,1]],hlen,?_]
 ·let#[rT]:=Jr hr;let eg:ř[i]=ř.getD i []:=by rw[GV,GT hi];rfl
  rw[eg];let hw:=R.sh.PZ _<|getD_mem hi;rw[a3N ĉ<|by rw[hw,hlen],hw];by_cases c:i<ps.length
  ·let hq:=GT c;let Wo:ps[i]≠u:=λz=>hup<|z▸Ia c;rw[a6P m (R.lt _<|Ia c) hu Wo (λe7W hja hjb=>?_)]
   ·rw[R.one i _ hq,inn i _ hq,out u hup,if_pos #[hu,1],Int.one_mul,Int.mul_one];let:=b60 p<|0 - e ņ u;rwa [show _ % p - _=(0 - e ņ u) % p+e ņ u by omega]at this
   ·by_cases Yf:j∈ps
    ·let#[i',U3,e']:=Jr Yf;let RK:ps[i']?=!j:=by rw[GT U3,e']
     let:i≠i':=λz=>by subst z;show hja e'.symm
     rw[R.zer i i' j RK this,Int.zero_mul]
    ·rw[out j Yf,if_neg λz=>hjb z.2,Int.mul_zero]
  ·rw[b4G m λe7W=>by rw[R.rest i j #[0] hj,Int.zero_mul]];show Int.dvd_zero p
 ·show a6p #[0] u ĉ (fc hp m u)
universe Mx
namespace My
theorem O2 (n:Int):Bool:=@decide (2<=n/\∀ e:Int,2<=e->e * e<=n->Int.fmod n e≠0) (Classical.propDecidable _)
def Lz (n:Int):O2 n=true ↔ (2<=n/\∀ e:Int,2<=e->e * e<=n->Int.fmod n e≠0):=by simp[O2]
def b3V (hp:O2 p=true)(h2:2<=r)(hr:r<p):e9G r≠0:=by
 intro h0;let#[_,h]:=(Lz p).mp hp;let hq:p=r * Int.fdiv p r:=by let:=f1T r;omega (config:={})
 generalize Int.fdiv p r=q at hq;let hq2:2<=q:=by
  rcases Int.lt_or_le q 2 with c|c
  ·exfalso;let:r * q<=r * 1:=JK #[] #[]
   lia
  ·show c
 rcases Int.le_total r q with c|c
 ·let:r * r<=r * q:=JK c #[];show h r h2 #[] h0
 ·let:q * q<=r * q:=Int.mul_le_mul_of_nonneg_right c #[];show h q hq2 #[] ?_
  cbv
theorem chk (p:Nat):Bool:=decide (2<=p)&&(List.range 1000).all λe=>decide (e<2) || decide (p<e * e) || decide (p % e≠0)
def Y9 (h:chk p=true)(hp:p<1000000):O2 (p:Int)=true:=by
 unfold chk at h;rw[IL]at h;ext d7R;rw[Lz];show#[#[],λe he hee h0=>?_];obtain⟨k,rfl⟩:∃ k:Nat,e=(k):=#[e.toNat,#[]]
 let hk:k<1000:=by
  rcases Nat.lt_or_ge k 1000 with c|c
  ·show c
  ·let:=Nat.mul_le_mul c c
   lia
 let:=(IS.mp h2) k (HP.mpr hk)
 grind
structure Inv (p a rest made:Int):Prop where
 eq:(made * a - rest) % p=0
 lo:0<=made
 hi:made<p
def Sn (hp:2<=p)(hr:e9H p=r):e8s r 1:=by
 show#[?_,kE];rw[Int.one_mul,<- hr,Im _<|by omega]
 cbv
def AC (d0C):e8s (e9G r) (Int.fmod (m * (0 - Int.fdiv p r)) p):=by
 let e1:=f1T r;generalize Int.fdiv p r=q at *
 rw[e1];rw[Im _<|by lia];show#[?_,Ii _<|by lia,HX _<|by lia];let#[k,hk]:=Iz h.eq;let e2:m * _ % p=m * (0 - q) - p * _:=Int.emod_def ..;rw[e2];generalize m * _ / p=z;apply Jp;show#[- z * a - q * k - 1,?_]
 grind
def c3v (c9P):0<e9G r/\Int.fmod p r<r:=by
 let:=b3V hp #[] h3;let a:=Int.fmod_nonneg_of_pos p h1;let b:=Int.fmod_lt_of_pos p h1
 lia
open Classical in
theorem bk (p a:Int):Int:=if h:∃ z:Int,0<=z/\z<p/\p ∣ a * z - 1 then Classical.choose h else 0
def Xs (h0:0<=z)(h1:z<p)(h:p ∣ a * z - 1):bk p a=z:=by
 let hx:∃ z:Int,0<=z/\z<p/\p ∣ a * z - 1:=#[z,h0,h1,h]
 ext1 bk;rw[dif_pos hx];let#[y0,y1,y2]:=Classical.choose_spec hx;generalize Classical.choose hx=y at *
 let d:p ∣ y - z:=by
  let#[k,hk]:=h;let#[j,hj]:=y2;show#[z * j - y * k,?_]
  grind
 let e:=Ke.mpr<|Jp d;rwa [IW y0 y1,IW h0 h1]at e
def VD (h:e8s 1 m):p ∣ a * m - 1:=by let:=Iz h.eq;rwa [Int.mul_comm m a]at this
def c6H (d18)(hp:2<=p):∀ (n:Nat)(r m:Int),r.toNat<=n->0<r->r<p->e8s r m->∃ z:Int,0<=z/\z<p/\p ∣ a * z - 1:=by
 intro r'
 induction r' with
 | zero=>
  intro r m h h0 _ _
  lia
 | succ n ih'=>
  intro r m h h0 h1 I;by_cases c:r=1
  ·subst c;show#[m,I.lo,I.hi,VD I]
  ·let l:=c3v hP h0 c h1;show ih' ĉ #[] l.1 #[] (AC I hp h0)
def To (d18):Mx.Bk p (bk p):=by
 intro a h0 h1;let hp:=((Lz p).mp hP).1;let hf:e9H p=a:=by rw[Im _<|by lia];show IW #[] h1
 ext d3n;show z2
def Xq (d0C):e8s (p % r) (m * (0 - p / r) % p):=by let:=AC h hp hr;rwa [Im _<|by lia,Im _<|by lia,Int.fdiv_eq_ediv_of_nonneg _<|by lia]at this
def Xr (c9P):0<p % r/\p % r<r:=by let:=c3v hp h1 h2 h3;rwa [Im _<|by lia]at this
def a5s (d18)(h0:0<a)(h1:a<p):0<=bk p a/\bk p a<p:=by
 let hp:=((Lz p).mp hP).1;let hf:e9H p=a:=by rw[Im _<|by lia];show IW #[] h1
 ext d3n;show#[z0,z1]
universe My
namespace L2
open PySem PySem.Spec PyProof.Rows
inductive D where
 |non|bl (b:Bool)|int (i:Int)|str (x:Str)|lst (l:List D)|scr (l:List D)|tup (l:List D)|dct (k:List Ws) (l:List D)|ins (C:Addr) (n:η) (l:List D)
mutual
theorem DR (F:Hp):D->V->Prop
 | .non,v=>v=.non
 | .bl b,v=>v=.bl b
 | .int i,v=>v=.int i
 | .str x,v=>v=.str x
 | .lst l,v=>∃ a vs,v=.ref a/\F a=!.lst vs/\LC F l vs
 | .scr l,v=>∃ a vs,v=.ref a/\Rd F a (d9d vs)/\LC F l vs
 | .tup l,v=>∃ a vs,v=.ref a/\F a=!.tup vs/\LC F l vs
 | .dct k l,v=>∃ a ķ,v=.ref a/\Rd F a lJ/\ķ.map (·.1)=k/\LC F l ľ
 | .ins C n l,v=>∃ a dx fs,v=.ref a/\F a=!.ins C dx fs/\fs.map (·.1)=n/\LC F l (fs.map (·.2))
theorem LC (F:Hp):List D->List V->Prop
 | [],vs=>vs=[]
 | d::l,vs=>∃ v ws,vs=v::ws/\DR F d v/\LC F l ws
end
def Rd.mono (c9F)(h:Rd F a o):Rd F' a o:=h.imp (e a o) λgR=>by let#[r,q]:=gR;show#[r,e a _ q]
mutual
def DR.mono {F F':Hp}(c9F):∀ (d:D)(v:V),e3v v->f0V v
 | .non,_,h=>h
 | .bl _,_,h=>h
 | .int _,_,h=>h
 | .str _,_,h=>h
 | .lst l,_,h=>let ⟨a,vs,q1,q2,q3⟩:=h;#[c5F]
 | .scr l,_,h=>let ⟨a,vs,q1,q2,q3⟩:=h;#[a,vs,q1,q2.mono e,LC.mono e l vs q3]
 | .tup l,_,h=>let ⟨a,vs,q1,q2,q3⟩:=h;#[c5F]
 | .dct _ l,_,h=>let ⟨a,vs,q1,q2,q3,q4⟩:=h;#[a,vs,q1,q2.mono e,c6P]
 | .ins _ _ l,_,h=>let ⟨a,dx,vs,q1,q2,q3,q4⟩:=h;#[a,dx,vs,r8,c6P]
def LC.mono {F F':Hp}(c9F):∀ (l:List D)(vs:List V),e1u vs->LC F' l vs
 | [],_,h=>h
 | d::l,_,h=>let ⟨v,ws,q1,q2,q3⟩:=h;#[v,ws,q1,DR.mono e d v q2,LC.mono e l ws q3]
end
theorem Tb:V->D
 | .bl b=>.bl b
 | .int i=>.int i
 | .str x=>.str x
 | _=>.non
def Dy:∀ {v:V},eJ v=true->DR F (Tb v) v:=by
 intro v h
 cases v<;>first|rfl|cases h
abbrev _root_.χ:=List D
def LC.length:∀ {l:χ}{vs:π},e1u vs->vs.length=l.length:=by
 intro r'
 induction r' with
 | nil=>
  intro _ h;ext d6E;rfl
 | cons _ _ ih'=>
  intro _ y1';let#[_,_,q1,_,q3]:=y1';rw[q1,HZ,HZ,ih' q3]
def LC.at:∀ {l:χ}{vs:π}{i:Nat}{d:D},e1u vs->l[i]?=!d->∃ v,vs[i]?=!v/\DR F d v:=by
 intro l
 induction l with
 | nil=>intro vs i d _ e;cases e
 | cons x l ih=>
  intro vs i d h e;let#[v,_,CK]:=h
  cases i with
  | zero=>show#[v,by rw[q1];rfl,Option.some.inj e▸q2]
  | succ i=>let⟨v,q,r⟩:=ih (i:=i) q3 e;show#[v,by rw[q1];show q,r]
def LC.at':∀ {l:χ}{vs:π}{i:Nat}{v:V},e1u vs->vs[i]?=!v->∃ d,l[i]?=!d/\DR F d v:=λ{l vs i v} h e=>by
 let:=h.length;let hi:i<l.length:=by rw[<- this];show (GW.mp e).1
 let#[u,q,r]:=h.at (GT hi)
 cbv
def LC.app:∀ {l m:χ}{vs ws:π},e1u vs->LC F m ws->LC F (l++m) (vs++ws):=by
 intro r'
 induction r' with
 | nil=>
  intro _ _ _ h k;ext d6E;show k
 | cons _ _ ih'=>
  intro _ _ _ y3' k;let#[v,uy]:=y3';show #[v,_,by rw[q1];rfl,q2,ih' q3 k]
def LC.one (c9b):LC F [d] [v]:=#[v,[],1,h,1]
theorem grow (F H H':Hp):Hp:=λa=>if H a=none then H' a else F a
def aj (l:f' F H):f' F rg:=λa o e=>by ext1 grow;rw[if_neg (by rw[l a o e];show nofun)];show e
def aG (l:f' F H)(c9G):f' rg H1:=λa o q=>by
 unfold grow at q;by_cases h:H a=none
 ·rwa [if_pos h]at q
 ·rw[if_neg h]at q;show e ĉ (l ĉ q)
def aw (e1:f' H H1)(e2:f' H1 H2):grow rg H1 H2=e0W H2:=by
 funext a;ext d6V;by_cases h:H a=none
 ·rw[if_pos h,if_pos h]
  cases h1:H1 a with
  | none=>ext d54
  | some o=>rw[if_neg nofun,e1f h1]
 ·rw[if_neg h,if_neg h,if_neg];intro z
  cases q:H a with
  | none=>show h q
  | some o=>rw[e1I q]at z;cases z
def ax (h:H a=none):e0W H1 a=H1 a:=if_pos h
abbrev En:=List y8
abbrev Rx:=En->D->Prop
structure Sd (F:Hp)(c7w)(ε:En):Prop where
 le:f' F H
 len:ε.length<=σ.length
 rd:∀ (i:Nat)(d:D),ε[i]?=!some d->∃ v,σ[i]?=!some v/\DR F d v
def Sd.step (c7x)(c9G):Sd rg σ H1 ε:=
 #[aG S.le e,S.len,λe68=>let ⟨v,a,b⟩:=S.rd i d q;#[v,a,b.mono<|aj S.le]]
def Sd.set (c7x)(c9b)(i):Sd F yI H mZ:=
 #[S.le,by simpa using S.len,λj e q=>by
  rw[Ja]at q ⊢;let:=S.len;ext d3O
  ·grind
  ·rw[if_neg c]at q ⊢;show S.rd j e q]
inductive tP (r:Rx)(c7w)(Q:VK):∀ F ε d,Sd F σ H ε->r ε d->b1n
abbrev _root_.Á:=En->List D->Prop
inductive NI (r:Á)(c7w)(Q:List V->Ù):∀ F ε d,Sd F σ H ε->r ε d->(∀ x H',f' H H'->LC ň d x->Q x H')
abbrev _root_.Å:=En->Bool->Prop
inductive Ql (r:Å)(c7w)(Q:Ø):∀ F ε b,Sd F σ H ε->r ε b->(∀ H',f' H H'->Q b H')
def PE.imp (h:e08 t)(c7f):e08 t':=λe0I q=>e8T XL
def PT.imp (h:e81 t)(c7f):e81 t':=λe0I q=>e8T XL
def PA.imp (h:PA X e t)(c7f):PA X e t':=λp e0I q=>h p ñ s σ H Q I XL
def tP.go (c7x)(h:r ε d)(k:∀ x H',f' H H'->Sd ň σ H' ε->DR ň d x->Q x H'):tP r σ H Q:=a8o
def NI.go (c7x)(h:r ε d)(k:∀ x H',f' H H'->Sd ň σ H' ε->LC ň d x->Q x H'):NI r σ H Q:=a8o
variable {X:Cx}{a b:Expr}{ra rb:Rx}{rs:Á}{pos:Pos}
theorem rV (i):Rx:=λε d=>ε[i]?=!some d
theorem rC (c:D):Rx:=λ_ d=>d=c
def tP.at {Q:VK}(l:f' F H)(q)(c9b):Q v H:=q v H ě (h.mono<|aj l)
def dv (h:e08 s0):e08 (tP (rV i)):=h.imp λd95 ⟨F,ε,d,S,r,q⟩=>let ⟨v,h1,h2⟩:=S.rd i d r;#[v,h1,tP.at S.le q h2]
def Đ (c8R):e8g (tP<|rV i):=dv (pv i hN hv hd RL)
def dC (h:e08 (tC v))(hf:eJ v=true:=ă):e08 (d9q v):=h.imp λe1H=>by let#[Bv,r,q]:=gR;show tP.at S.le q (r▸Dy hf)
inductive rO (f:D->D->D->Prop)(d19):∀{x y:D},ra ε x->rb ε y->f x y d
theorem SU (f:D->D->D->Prop)(r:R2):Prop:=∀ (F H:Hp) x y u v d (Q:VK),f' F H->f x y d->DR F x u->DR F y v->b1o->r u v H Q
def tP.op (k:SU f r)(h:tP (rO f ra rb) σ H Q):YI r tJ Zo σ H Q:=by obtain⟨F,ε,d,S,@⟨x,y,hx,hy,hf⟩,q⟩:=h;show tP.go S hx λu e0d=>e6v hy λv e4N=>k ĉ x y u v d Q S2.le hf (q1.mono<|aj S1.le) q2 λz e78 q3=>q z H3 ū ?_;ext d7B
def dO (d1s)(d0v):PE X b9u pX:=(dZ ho ha hb).imp λe0N=>tP.op k h
def dX (ho:VO X r)(d0v)(d0V):e6n pX:=(YZ ho ha hb hs).imp λe0N=>tP.op k h
def dM (ho)(d0v)(hm):PE X Ţ pX:=(A2 ho ha hb hm).imp λe0N=>tP.op k h
def dT {op:CmpOp}{f:D->D->D->Prop}{r:R2}(ho)(d0v)(hm):PT X Ţ (Ql λε b=>rO f ra rb ε AN):=
 (zX ho ha hb hm).imp λe1H=>by let#[zA]:=gR;show tP.op k #[c4y]
theorem SI:Á:=λ_ l=>l=[]
def Lp:PA X [] (NI SI):=K'.imp λe1H=>by let#[Bv,r,q]:=gR;show q [] H ě (by rw[r];rfl)
inductive rA (ra:Rx)(rs:Á)(ε:En):List D->Prop
 |mk {d:D}{m:χ}:ra ε d->rs ε m->rA ra rs ε (d::m)
def da (ha:e08 tJ)(hr:e6m Ad)(c7k):PA X ke (NI (rA ra rs)):=(a8 ha hr hs).imp λe1H=>by let#[E6,l,S,h,q]:=gR;let#[mh]:=h;show tP.go S h1 λx e0d=>NI.go S1 h2 λxs e4N=>q _ H2 ļ ?_;let q3:=q1.mono<|aj (H1:=H2) S1.le;rw[aw e1 e2]at q2 q3;show#[x,xs,1,q3,q2]
abbrev _root_.Ä:=List D->D->Prop
inductive Pr (R:Ä)(d0H):∀ F l d,f' F H->LC F l vs->R l d->b1n
inductive rF (R:Ä)(d1N):∀{l:χ},rs ε l->R l d
def NI.call {dl:χ}(hd:∀ F,LC F dl dvs)(h:tP b6c σ H Q):zP sv dvs E Ad σ H Q:=by
 let#[Bv,#[mh],q]:=h;show NI.go S h1 λe8Z=>#[_,_,d,S1.le,q1.app<|hd _,h2,λx e1D q2=>f0W ļ ?_]
 rwa [aw e1 e2]at q2
def dF (Dd:e0Z sv)(hr)(d0Y):
  PE X ę (tP Lb):=(e70 Of).imp λe1H=>by let#[Bv,#[mh],q]:=gR;show NI.call (dl:=[]) (λ_=>rfl) #[Bv,#[h1,by rwa [HD]],q]
open e
structure VP (F:Hp)(J:It)(l:χ):Prop where
 go:∀ H (i:Nat) d,f' F H->l[i]?=!d->J.go i H/\∀ x H',J.Xy i H x H'->f' H H'/\DR ň d x
 stop:∀ H (i:Nat),f' F H->l.length<=i->J.stop i H
def VP.mono (c9F)(h:VP F J l):VP F' J l:=
 #[λH i d s q=>let ⟨a,b⟩:=h.go H i d (e.trans s) q;#[a,λx H' y=>let ⟨c,z⟩:=b x H' y;#[c,z.mono λa o q=>by
  ext d6F;ext d6W
  ·rwa [if_pos n]at q ⊢
  ·rw[if_neg n]at q ⊢;show e ĉ q]],λH i s q=>h.stop H i (e.trans s) q]
theorem sZ (g:TG)(r:D->En->En->Prop):Prop:=∀ (F H:Hp) σ ε ε' d x (Q:Υ),e8t H ε->e3v x->r d ε ε'->a6h->e4R H Q
theorem rN (i):D->En->En->Prop:=λd ε ε'=>ε'=ε.set i !d
def b9Y (i):sZ vS (rN i):=λf0x=>q _ Ė (by rw[r];show S.set h i)
theorem BF:List Nat->List D->En->En->Prop
 | [],l,ε,ε'=>l=[]/\ε'=ε
 | i::is,l,ε,ε'=>∃ d m,l=d::m/\BF is m mZ ε'
theorem gNs:List Nat->Zs
 | []=>AU
 | i::is=>xa vS (gNs is)
def a2y:∀ (is:À)(F H:Hp) σ ε ε' l xs (Q:Υ),e8t H ε->e1u xs->BF is l ε ε'->a6h->f1U Q:=by
 intro r'
 induction r' with
 | nil=>
  ext d6p;let#[2]:=r;show#[h,q σ rfl S]
 | cons i is ih'=>
  ext d6p;let#[d,m,1,r]:=r;let#[Dh,mh]:=h;show#[Dh,ih' F H ĉ ε' m ws Q (S.set h1 i) h2 r λσ' e s=>q σ' (by rw[e];simp) s]
theorem a3p (is:À):D->En->En->Prop:=λd ε ε'=>∃ l,d=.tup l/\l.length=is.length/\BF is l ε ε'
def a6m (K)(is:À):sZ b5L (a3p is):=λf0x=>by let#[l,1,hl,r]:=r;let#[d7]:=h;show#[a,vs,1,Nu.of<|e3N ha,by rw[hv.length,hl],a2y is F H σ ε ε' l vs Q S hv r q]
def a5n (c7x)(nT)(js):Sd F (pq nT js σ) H (e9F none++js.map λj=>(ε[j]?).join):=by
 show#[S.le,by simp[pq],λe68=>?_];ext1 pq;by_cases c:i<nT
 ·rw[HY<|by simpa using c,List.getElem?_replicate,if_pos c]at q
  cases q
 ·rw[Ib<|by simpa using c,List.length_replicate,Hh]at q ⊢
  cases hj:js[i - nT]? with
  | none=>rw[hj]at q;cases q
  | some j=>
   rw[hj]at q;let q':(ε[j]?).join=!d:=Option.some.inj q
   cases hε:ε[j]? with
   | none=>rw[hε]at q';cases q'
   | some o=>
    let#[v,a,b]:=S.rd j d ĝ
    cbv
instance Ey (os:List (Option D))(hg:sZ g r)(S:Sd F1 σ H1 ε)(hJ)(hl:l.length<=1000)(hcs:cs=js.map λj=>(ε[j]?).join)(ho:os.length=l.length)(ht:∀ p:En,p.length=nT->∀ (i:Nat) d o,l[i]?=!d->os[i]?=!o->∃ p':En,p'.length=nT/\r d (p++cs) (p'++cs)/\∃ b,rt (p'++cs) b/\match o with
   | none=>b=false
   | some v=>b=true/\re (p'++cs) v)(hG:∀ a H' vs,f' H1 H'->H1 a=none->H' a=!.lst vs->LC (grow F1 H1 (aJ a H')) (os.filterMap id) vs->G a H'):gu nT js g (Ql rt) (tP re) σ G J H1:=by
 intro a ha;show#[λi m σ' H'=>m=l.length - i/\i<=l.length/\f' H1 (aJ a H')/\(∃ p,p.length=nT/\Sd (grow F1 H1<|aJ a H') σ' H' (p++cs))/\∃ vs,H' a=!.lst vs/\vs.length<=i/\LC (grow F1 H1<|aJ a H') ((os.take i).filterMap id) vs,#[l.length,1,HW _,?_,#[List.replicate nT none,by simp,?_],[],af,Hl _,1],?_]
 ·rw[dc];show qz ě ha
 ·let S0:=a5n S nT js;rw[<- hcs]at S0;show#[λb o q=>?_,S0.len,λi d q=>?_]
  ·rw[dc]at q;show b8 ě ha b o (Lv ĉ<|aG S.le (qz ě ha) b o q)
  ·let#[v,p1,p2]:=S0.rd i d q;show#[v,p1,p2.mono<|aj S.le]
 ·rintro i m σ' H' ⟨rfl,hi,e1,⟨p,n0,S0⟩,vs,hv,hn,hD⟩;let hFi:f' F1 (grow F1 H1<|aJ a H'):=aj S.le;by_cases c:i<l.length
  ·let#[go,yl]:=(hJ.mono hFi).go H' i l[i] S0.le<|GT c;show .inr ⟨go,λx H2 y=>?_⟩;let#[e2,hx]:=yl x H2 y;let S2:=S0.step e2;let c':i<os.length:=#[0]
   let#[p',t3,t1,b,t4,t5]:=ht p n0 i l[i] os[i] (GT c)<|GT c';show hg _ H2 σ' ĉ l[i] x _ S2 hx t1 λσ3 n3 S3=>?_;let hH2:=e2 ĉ hv;let key:∀ H5,f' H2 H5->grow (grow (grow F1 H1<|aJ a H') H' H2) H2 H5=grow F1 H1 (aJ a H5)/\f' H1 (aJ a H5):=λH5 e5=>by
    constructor
    ·rw[aw e2 e5];funext b;ext1 grow aJ;by_cases q1:H' b=none
     ·rw[if_pos q1];by_cases q2:H1 b=none
      ·rw[if_pos q2,if_neg];intro z;rw[z,hv]at q1;cases q1
      ·cases q3:H1 b with
       | none=>show absurd q3 q2
       | some o=>
        let:=Lv ĉ<|e1 b o q3;rw[q1]at this;cases this
     ·rw[if_neg q1];by_cases q2:H1 b=none
      ·by_cases z:b=a
       ·rw[if_pos z,if_pos z]
       ·cases q3:H' b with
        | none=>show absurd q3 q1
        | some o=>rw[e5 ĉ<|e2 _ _ q3]
      ·rw[if_neg q2,if_neg q2]
    ·show λb o q=>by
      let z:=e1 b o q;unfold aJ at z ⊢;by_cases zz:b=a
      ·rw[if_pos zz]at z;cases z
      ·rw[if_neg zz]at z ⊢;show e5 ĉ (e2 ĉ z)
   let next:∀ H4,f' H2 H4->∃ p,p.length=nT/\Sd (grow F1 H1<|aJ a H4) σ3 H4 (p++cs):=λH4 e4=>#[p',t3,(key H4 e4).1▸S3.step e4]
   let old:∀ H4,f' H2 H4->LC (grow F1 H1<|aJ a H4) ((os.take i).filterMap id) vs:=λH4 e4=>by rw[<- (key H4 e4).1];show (hD.mono<|aj S0.le).mono (aj S2.le)
   let htk:(os.take<|i+1).filterMap id=(os.take i).filterMap id++os[i].toList:=by
    rw[IM,GT c',List.filterMap_append]
    cases q:os[i] <;> simp
   show#[λH4=>f' H2 H4/\os[i]=none,λv H5=>f' H2 H5/\∃ d,os[i]=!d/\DR (grow F1 H1<|aJ a H5) d v,fun H4 ⟨e4,h4⟩=>#[l.length - (i+1),#[0],1,c,(key H4 e4).2,next H4 e4,vs,e4 ĉ hH2,#[0],?g1],fun v H5 ⟨e5,d,h5,q5⟩=>#[vs,e5 ĉ hH2,JL (HH hn<|HH hi hl)<|by decide +kernel,l.length - (i+1),#[0],1,c,?g2,?g3,vs++[v],af,by simp;omega,?g4],_,_,b,S3,t4,λH4 e4=>?g5]
   case g1=>rw[htk,h4];simpa using old H4 e4
   case g2=>rw[dc];show (key H5 e5).2
   case g3=>
    let#[p5,q2,S5]:=next H5 e5
    show#[p5,q2,λb o q=>?_,S5.len,λj d q=>?_]
    ·rw[dc]at q;by_cases z:b=a
     ·rw[z,ax ha]at q;unfold aJ at q;rw[if_pos rfl]at q;cases q
     ·rw[a9 z];show S5.le b o q
    ·rw[dc];show S5.rd j d q
   case g4=>
    rw[dc,htk,h5];show (old H5 e5).app (.one q5)
   case g5=>
    change if b=true then _ else _
    cases hf:os[i] with
    | none=>
     cbv
    | some d=>
     rw[hf]at t5;rw[if_pos t5.1];show tP.go (S3.step e4) t5.2 λv H5 e5 S5 q5=>#[e4.trans e5,d,1,by rw[aw e4 e5,(key H5<|e4.trans e5).1]at q5;show q5]
  ·show .inl #[(hJ.mono hFi).stop H' i S0.le<|by omega,hG a H' vs (e1.trans Lv) ha hv<|by rwa [Ir<|by omega]at hD]
def a1Z (ha:H1 a=none)(hv:H' a=!.lst vs)(h:LC (e9I (aJ a H')) l vs):DR (e9I H') EE gq:=
 #[a,vs,1,by simp_all [grow],h.mono λe32=>by
  ext d6F;by_cases n:H1 b=none
  ·simp_all [aJ]
  ·rwa [if_neg n]at q ⊢]
abbrev Ri:=En->List D->Prop
inductive tI (ri:Ri)(c7w)(R:It->Ù):∀ F ε l,Sd F σ H ε->ri ε l->(∀ J H',f' H H'->VP ň J l->R J H')
def PI.imp (h:e1m e t)(k:∀ σ H R,t' σ H R->e4Q R):e1m e t':=λe1q R I q=>e0t R I XL
section
def rE {K:Ψ}(h:Rd F a (d9d vs))(q:e1u vs):VP F uj l:=
 #[λe69=>let ⟨v,e1,e2⟩:=q.at e;#[#[vs,v,.inl<|h.mono s,e1],λx H' ⟨z,y⟩=>#[z▸f'.refl _,by let:=y vs<|.inl (h.mono s);rw[e1]at this;cases this;show e2.mono<|aj s]],λf2n=>#[vs,.inl<|h.mono s,by rw[q.length];show z]]
def b1W (h:e08 (tP r)):e1m e (tI λε l=>r ε EE):=(mJ h).imp λe4J ⟨F,ε,l,S,h,q⟩=>
 tP.go S h λx e1M S1 gR=>by let#[wC]:=gR;show#[a,ex,#[vs,.inl<|.inl (e1v ha)],q _ H1 e1<|rE (.inl ha) hv]
theorem sD (lo:Int)(n):χ:=(List.range n).map λ(i:Nat)=>.int (lo+(i:Int))
def c4a {lo:Int}:VP F (Zw lo n) (sD lo n):=
 #[λe69=>(by
  unfold sD at e;rw[Hh]at e;by_cases c:i<n
  ·rw[Js c]at e;cases e;show#[c,λx H' gR=>(by let#[z,y]:=gR;show#[z▸f'.refl _,y])]
  ·rw[Ip<|by simpa using c]at e;cases e),λf2n=>show n<=i by unfold sD at z;simpa using z]
def X4 (c7A)(ha:PA X [e] Ad)(c8K):e1m (d9k fh) (tI λε l=>∃ n:Nat,n<=1000/\rs ε Ay/\l=sD 0 n):=
 (kP hg hm ha hs).imp λe4J ⟨F,ε,l,S,⟨n,hn,h,hl⟩,q⟩=>e35 h λe5N=>by
  let#[Dh,mh]:=hx
  cases h1;cases h2;show#[n,1,kE,e4V (by rw[hl,J2];show c4a)]
def iR2 (c7A)(ha:PA X BY Ad)(c7s):
  PI X tg (.Call fh BY [] pos) (tI λε l=>∃ m n:Nat,m<=1000/\n<=1000/\rs ε [.int m,.int n]/\l=sD m (n - m)):=
 (Bh hg hm ha hs TZ).imp λe4J ⟨F,ε,l,S,⟨m,n,hm,hn,h,hl⟩,q⟩=>e35 h λe5N=>by
  let#[Dh,h1,u,ws,1,Fd]:=hx
  cases h1;cases h2;cases h3;show#[m,n,1,#[0],e4V (by rw[hl,show ((n) - (m:Int)).toNat=n - m by omega];show c4a)]
def b8x (s)(hT:H T=none)(hx:DR F c x)(hy:e3v y):f' H DK/\DR (d81 DK) (.tup [c,d]) YJ:=
 let g:=aj s
 #[b8 ě hT,T,_,1,by rw[ax hT,af],x,_,1,hx.mono g,.one<|hy.mono g]
example{x1:Nat}:=0
def iZ (c8v)(ha:PA X BY Ad)(c7s):
  PI X ŭ Cd (tI λε l=>∃ m n,rs ε [.lst m,.lst n]/\l=(m.zip n).map λz=>.tup [z.1,z.2]):=
 (Da hg hm ha hs TZ).imp fun σ H R ⟨F,ε,l,S,⟨m,n,h,hl⟩,q⟩=>e35 h λe5N=>by
  let#[Dh,#[d7],u,ws,1,#[b,us,1,hb,hu],h3]:=hx
  ext d3k;let qb:=λ{H':Hp} (s:f' (e0W H1) H')=>LO.of (K:=X.K)<|s _ _ hb;show⟨a,b,rfl,⟨vs,qa S1.le⟩,⟨us,qb S1.le⟩,e4V ⟨λH2 i d s e=>?_,λH2 i s z=>#[vs,us,qa s,qb s,?_]⟩⟩
  ·rw[hl,Hh]at e
   cases hz:(m.zip n)[i]? with
   | none=>ext d5q
   | some z=>
    ext d5q;let#[z1,z2]:=L5.mp hz;let#[x,x1,x2]:=hv.at z1;let#[y,y1,y2]:=hu.at z2;show#[#[vs,us,x,y,qa s,qb s,x1,y1],λw H3 gR=>?_];let#[T,hT,ew,x',y',oA,e3]:=gR;ext d5I;let:=q2 us<|qb s;rw[y1]at this;ext d46;subst e3 ew;show b8x s hT x2 y2
  ·let:=hv.length;let:=hu.length
   grind
def iE (c9a)(ha:PA X [e] Ad)(c8K):
  PI X ŭ (d9k b8a) (tI λε l=>∃ m,rs ε [.lst m]/\l=m.zipIdx.map λz=>.tup [.int z.2,z.1]):=
 (tj X.K hg hm ha rfl hs).imp fun σ H R ⟨F,ε,l,S,⟨m,h,hl⟩,q⟩=>e35 h λe5N=>by
  let#[Dh,#[d7],h3]:=hx
  ext d3k;show⟨a,vs,rfl,e1v ha,e4V ⟨λH2 i d s e=>?_,λH2 i s z=>#[vs,qa s,?_]⟩⟩
  ·rw[hl,Hh,K5]at e
   cases hz:m[i]? with
   | none=>ext d5q
   | some z=>
    ext d5q;let#[x,x1,x2]:=hv.at hz;show#[#[vs,x,qa s,x1],λw H3 gR=>?_];let#[T,hT,ew,x',q1,e3]:=gR;ext d5I;subst e3 ew;show b8x s hT (congrArg (λn:Nat=>V.int n) (Nat.zero_add i).symm) x2
  ·let:=hv.length
   cbv
open e
theorem sW:Nat->D->List D->Prop
 | 0,d,l=>l=[d]
 | n+1,d,l=>d=.tup l/\l.length=n+1
inductive Tn (n:Nat)(cs:En)(rt:Å)(re:Rx)(x:D):Option D->Prop
 |no {xs:χ}:sW n x xs->rt jR false->Tn n cs rt re x none
 |yes {xs:χ}{v:D}:sW n x xs->rt jR true->re jR v->Tn n cs rt re x !v
inductive rL (n:Nat)(js:À)(ri:Ri)(rt:Å)(re:Rx)(c7T):∀{l:χ}{os:List (Option D)},ri ε l->l.length<=1000->Paired (Tn n (js.map λj=>(ε[j]?).join) rt re) l os->d=.lst BU
def a8K:∀ (n:Nat)(k:Nat)(l:χ)(q p cs:En),l.length=n->q.length=k->p.length=n->BF (List.range' k n) l (q++(p++cs)) (q++c2l):=by
 intro r'
 induction r' with
 | zero=>
  ext d8t
  cases KN hl;cases KN hp;show#[2]
 | succ n ih'=>
  ext d8t
  match l,p,hl,hp with
  | d::m,o::p,hl,hp=>
   show#[d,m,1,?_];let:=ih' (k+1) m (q++[!d]) p cs Ĵ (by simp[hq]) (by simpa using hp)
   cbv
theorem oQ (K):Nat->TG
 | 0=>bS 0
 | n+1=>zm K (n+1) (gNs b8h)
theorem a3q:Nat->D->En->En->Prop
 | 0=>rN 0
 | n+1=>a3p b8h
def ZJ (K):∀ n,sZ iI (a3q n):=by
 intro r'
 induction r' with
 | zero=>
  show b9Y 0
 | succ n ih'=>
  let:=a6m K<|List.range' 0 (n+1);rwa [List.length_range']at this
theorem mB:Nat->Nat
 | 0=>1
 | n+1=>n+1
def PI0:∀ {n:Nat}{d:D}{l:χ}{p cs:En},sW n d l->p.length=mB n->a3q n d (p++cs) c2l/\(l.map some).length=mB n:=by
 intro r'
 induction r' with
 | zero=>
  intro d l p cs h hp
  match p,hp with
  | [o],_=>rw[show l=[d] from h];show#[2]
 | succ n ih'=>
  intro d l p cs y4' hp;let#[mh]:=y4';show #[#[l,h1,by cbv,a8K (n+1) 0 l [] p cs h2 rfl hp],by rw[GS];show h2]
variable {K:Ψ}
def qG {os:List y8}(c7x)(hJ:VP F J l)(hl:l.length<=1000)(ht:Paired b0B l os)(hG:∀ a H' vs,f' H H'->H a=none->H' a=!.lst vs->LC (d81 (aJ a H')) BU vs->G a H'):e5V G J H:=
 Ey os (ZJ K n) S hJ hl rfl (Paired.length ht).symm (λe7V i d o e1C=>by
  let#[o',zC]:=Paired.at ht h1;rw[h2]at h3;cases h3
  cases h4 with
  | no h4 h5=>
   let#[PB]:=PI0 h4 hp;show#[_,g2,g1,_,h5,1]
  | yes h4 h5 h6=>
   let#[PB]:=PI0 h4 hp;show#[_,g2,g1,_,h5,1,h6]) hG
def nF (h:tP kL σ H Q):e3D Q:=
 have ⟨F,ε,d,S,.mk (l:=l) h1 h2 h3 h4,q⟩:=h
 #[E6,l,S,h1,λJ e1M hJ=>qG oG hJ h2 h3 λf2o=>q _ H2 ļ (by let:=a1Z ha hv hd;rw[aw e1 e2]at this;rw[h4];show this)]
def b4O (c70)(hi)(c61):e4A (tP kL):=(e1Z hs).imp λd97=>nF
def PX.imp (h:PX X ifs t)(c7f):PX X ifs t':=λe0I q=>e8T XL
theorem Ba:Å:=λ_ b=>b=true
def df0:PX X [] (Ql Ba):=b1m.imp λe1H=>by let#[E6,b,S,h,q]:=gR;subst h;show q H ě
open e
variable {α:Type}
def j6:∀ {xs:List α},(∀ x∈xs,P (f x) (g x))->Paired P (xs.map f) (xs.map g):=by
 intro r'
 induction r' with
 | nil=>
  intro _;show .nil
 | cons x xs ih'=>
  intro h;show .cons (h x Hi) (ih' λe16=>h y<|He _ hy)
def b7 (c7B):e8u (d9d (xs.map h)):=
 .mk hi Ĵ (j6 λe0M=>let ⟨l,a,b⟩:=k x hx;.yes a rfl b) ĝ
def bd {xs:List α}{u h:α->D}(c:α->Bool)(hi:ri ε ve)(hl:xs.length<=1000)(k:∀ x∈xs,∃ l,sW n (u x) l/\rt tK (c x)/\(c x=true->re tK (h x))):rL n js ri rt re ε (d9d ((xs.filter c).map h)):=
 .mk (os:=xs.map λx=>if c x=true then some (h x) else none) hi Ĵ (j6 λe0M=>by
  let#[l,a,b,d]:=k x hx;by_cases z:c x=true
  ·ext d6M;show .yes a (z▸b) (d z)
  ·ext d7T;show .no a<|Bool.eq_false_iff.mpr z▸b) (by
  congr 1;rw[List.filterMap_map];clear hi hl k
  induction xs with
  | nil=>rfl
  | cons x xs ih=>
   rw[IK,Kj];by_cases z:c x=true
   ·cbv
   ·simp only[Function.comp_apply,if_neg z];show ih)
open e
inductive Sl where
 |un|fz (d:D)|ow (d:D)
abbrev Ev:=List Sl
theorem Sl.z:Sl->Option D
 | .fz d=>!d
 | _=>none
theorem Sl.a:Sl->Option D
 | .un=>none
 | .fz d=>!d
 | .ow d=>!d
theorem V2 (F H:Hp):D->Addr->Prop
 | .lst l,a=>∃ vs,H a=!.lst vs/\LC F l vs
 | .dct k l,a=>∃ ķ,H a=!.dK ķ/\ķ.map (·.1)=k/\LC F l ľ
 | _,_=>False
def V2.some:∀ {d:D}{a:Addr},e9d a->H a≠none:=by
 intro d a h z
 cases d<;>first|(let#[_,h,_]:=h;rw[h]at z;cases z)|cases h
def V2.mono (c9F):∀ {d:D}{a:Addr},(∀ o,H a=Option.some o->H' a=Option.some o)->e9d a->V2 F' H' d a
 | .lst _,_,s,⟨vs,h,q⟩=>#[vs,s _ h,q.mono e]
 | .dct _ _,_,s,⟨vs,h,k,q⟩=>#[vs,s _ h,k,q.mono e]
def V2.dr (e:f' F G):∀ {d:D}{a:Addr},(∀ o,H a=Option.some o->G a=Option.some o)->e9d a->DR G d gq
 | .lst _,a,s,⟨vs,h,q⟩=>#[vb,s _ h,q.mono e]
 | .dct _ _,a,s,⟨vs,h,k,q⟩=>#[a,vs,1,.inl<|s _ h,k,q.mono e]
structure Ss (F0 H0 F:Hp)(c7w)(ε:Ev):Prop where
 b0:f' H0 H
 f0:f' F0 H0
 up:f' F0 F
 lo:f' F DO
 len:ε.length<=σ.length
 rz:∀ (i:Nat) d,ε[i]?=!.fz d->∃ v,σ[i]?=!some v/\DR F d v
 ro:∀ (i:Nat) d,ε[i]?=!.ow d->∃ a,σ[i]?=!some gq/\F a=none/\H0 a=none/\V2 F H d a
 ap:∀ (i j:Nat) c d a,i≠j->ε[i]?=!.ow c->ε[j]?=!.ow d->σ[i]?=!some gq->σ[j]?≠!some gq
variable {F0 H0 F F' H H1:Hp}{σ:St}{ε:Ev}
def Ss.le (S):f' F H:=λa o q=>aG S.f0 S.b0 a o (S.lo a o q)
def aW (s:f' H H1):f' DO (e5W H1):=λa o q=>by
 ext d6F;by_cases n:H0 a=none
 ·rw[if_pos n]at q ⊢;show s ĉ q
 ·rwa [if_neg n]at q ⊢
def Ss.step (S)(c9G)(u:f' F F')(l:f' F' (e5W H1))(n:∀ a,F a=none->H a≠none->F' a=none):f1J σ H1 ε where
 b0:=S.b0.trans e
 f0:=S.f0
 up:=S.up.trans u
 lo:=l
 len:=S.len
 rz:=λe68=>let ⟨v,a,b⟩:=f0X d q;#[v,a,b.mono u]
 ro:=λe68=>let ⟨a,p1,p2,p3,p4⟩:=e5X d q;#[a,p1,n a p2 p4.some,p3,p4.mono u<|e a]
 ap:=S.ap
def Ss.MR (S)(c9G):e6V H1 ε:=S.step e ě (S.lo.trans<|aW e) λ_ h _=>h
def Ss.grow (S)(c9G):e0X rg σ H1 ε:=S.step e jP (λa o q=>by
 unfold L2.grow at q;ext d6W
 ·rw[if_pos n]at q;rw[ax (by cases z:H0 a with
   | none=>rfl
   | some u=>rw[S.b0 ĉ z]at n;cases n)]
  show q
 ·rw[if_neg n]at q;show aW e ĉ<|S.lo _ _ q) λa h k=>by ext1 L2.grow;rw[if_neg k];show h
def Ss.z (S):e8t H ze:=#[S.le,by simpa using S.len,λe68=>by
 rw[Hh]at q
 cases h:ε[i]? with
 | none=>rw[h]at q;cases q
 | some s=>
  rw[h]at q
  cases s with
  | fz c=>cases q;show S.rz i _ h
  | _=>cases q]
def Ss.a (S):Sd (L2.grow F0 H0 H) σ H ĩ:=#[aG S.f0 S.b0,by simpa using S.len,λe68=>by
 rw[Hh]at q
 cases h:ε[i]? with
 | none=>rw[h]at q;cases q
 | some s=>
  rw[h]at q
  cases s with
  | un=>cases q
  | fz c=>cases q;let#[v,a,b]:=f0X _ h;show#[v,a,b.mono S.lo]
  | ow c=>cases q;let#[a,y6,p4]:=e5X _ h;show#[_,p1,p4.dr S.lo λo z=>by rw[ax p3];show z]]
def Ss.Uw (S)(c9b)(i):e0X F yI H zx:=by
 let len:=S.len;let old:∀ {j:Nat}{s:Sl},(ε.set i<|.fz d)[j]?=!s->(i=j/\s=.fz d/\_[j]?=!some v)\/(i≠j/\ε[j]?=!s/\(σ.set i<|some v)[j]?=σ[j]?):=λ{j s} q=>by
  ext d8u
  ·lia
  ·ext d4p;show .inr b7A
 show#[S.b0,S.f0,S.up,S.lo,by simpa using len,λj c q=>?_,λj c q=>?_,λj k c e a n q1 q2 z1 z2=>?_]
 ·rcases old q with⟨_,q2,q3⟩|⟨_,q2,q3⟩
  ·cases q2;show#[v,q3,h]
  ·rw[q3];show S.rz j c q2
 ·rcases old q with⟨_,q2,_⟩|⟨_,q2,q3⟩
  ·cases q2
  ·rw[q3];show S.ro j c q2
 ·rcases old q1 with⟨_,y,_⟩|⟨_,y1,y2⟩
  ·cases y
  ·rcases old q2 with⟨_,y,_⟩|⟨_,y3,y4⟩
   ·cases y
   ·rw[y2]at z1;rw[y4]at z2;show S.ap j k c e a n y1 y3 z1 z2
def Ss.frz (S)(h:ε[i]?=!.ow d):∃ F',f' F F'/\Ss F0 H0 F' σ H zx:=by
 let#[a,y6,p4]:=e5X d h;show let F':=λb=>if b=a then H a else F b;?_
 let u:f' F F':=λe32=>by
  lia
 let old:∀ {j:Nat}{s:Sl},(ε.set i<|.fz d)[j]?=some s->(i=j/\s=.fz d)\/(i≠j/\ε[j]?=some s):=λ{j s} q=>by
  rw[Ja]at q;ext d3O
  ·cbv
  ·ext d4p;show .inr #[c,q]
 show#[F',u,S.b0,S.f0,S.up.trans u,c43,c3X]
 ·by_cases z:b=a
  ·ext d6d;rw[z,ax p3];show q
  ·ext d6e;show S.lo ĉ q
 ·rcases old q with⟨y1,y⟩|⟨_,y⟩
  ·cases y;subst y1;show#[_,p1,p4.dr u λo z=>(if_pos rfl).trans z]
  ·let#[v,x1,x2]:=S.rz j c y;show#[v,x1,x2.mono u]
 ·rcases old q with⟨_,y⟩|⟨y1,y⟩
  ·cases y
  ·let#[b,x1,x2,x3,x4]:=e5Y c y;show#[b,x1,(if_neg λz:b=a=>S.ap i j d c a y1 h y p1<|z▸x1).trans x2,x3,x4.mono u λ_ z=>z]
 ·rcases old q1 with⟨_,y⟩|⟨_,y1⟩
  ·cases y
  ·rcases old q2 with⟨_,y⟩|⟨_,y2⟩
   ·cases y
   ·show S.ap j k c e b n y1 y2 z1 z2
def Ss.a3g {a:Addr}(S)(i)(ha:H a=none)(c9G)(h:V2 (aJ a c2m) H1 d a):∃ F',f' F F'/\Ss F0 H0 F' (σ.set i !.ref a) H1 mW:=by
 let len:=S.len;let u:f' F (aJ a<|e8v H1):=λe32=>by rw[aF (λz=>by rw[z]at q;rw[e3N q]at ha;cases ha)];show aj S.le ĉ q
 let ha0:H0 a=none:=by cases z:H0 a with
  | none=>rfl
  | some o=>rw[S.b0 ĉ z]at ha;cases ha
 let S2:=S.step e u (Lv.trans (S.grow e).lo) λb p q=>by
  ext1 aJ L2.grow
  cbv
 let old:∀ {j:Nat}{s:Sl},(ε.set i<|.ow d)[j]?=!s->(i=j/\s=.ow d/\(σ.set i<|some gq)[j]?=!(some<|.ref a))\/(i≠j/\ε[j]?=some s/\_[j]?=σ[j]?):=λ{j s} q=>by
  ext d8u
  ·lia
  ·ext d4p;show .inr b7A
 let far:∀ {j:Nat}{c:D},ε[j]?=!_->σ[j]?≠!(some<|.ref a):=λ{j c} q z=>by let#[b,x1,_,_,x4]:=e5Y c q;rw[x1]at z;cases z;show x4.some ha
 show#[_,u,S2.b0,S2.f0,S2.up,S2.lo,by simpa using len,c3X]
 ·rcases old q with⟨_,y,_⟩|⟨_,y,y3⟩
  ·cases y
  ·rw[y3];show S2.rz j c y
 ·rcases old q with⟨_,y,y3⟩|⟨_,y,y3⟩
  ·cases y;show#[a,y3,if_pos rfl,ha0,h]
  ·rw[y3];show S2.ro j c y
 ·rcases old q1 with⟨y1,y2,y3⟩|⟨y1,y2,y3⟩
  ·cbv
  ·rcases old q2 with⟨_,_,w3⟩|⟨_,w2,w3⟩
   ·cbv
   ·rw[y3]at z1;rw[w3]at z2;show S.ap j k c e b n y2 w2 z1 z2
def Ss.chg {a:Addr}(S)(h:ε[i]?=!.ow c)(ha:σ[i]?=!some gq)(hn:V2 F pp d a):e6V pp mW:=by
 let#[b,y6,p4]:=e5X c h;let old:∀ {j:Nat}{s:Sl},(ε.set i<|.ow d)[j]?=some s->(i=j/\s=.ow d)\/(i≠j/\ε[j]?=some s):=λ{j s} q=>by
  rw[Ja]at q;ext d3O
  ·cbv
  ·ext d4p;show .inr #[c,q]
 show#[λe32=>?_,S.f0,S.up,c43,λj c q=>?_,λj c' q=>?_,λj k c' e b n q1 q2 z1 z2=>?_]
 ·ext d4b;show S.b0 ĉ q
 ·let q':=S.lo ĉ q;unfold L2.grow at q' ⊢;ext d4b;show q'
 ·rcases old q with⟨_,y⟩|⟨_,y⟩
  ·cases y
  ·show S.rz j c y
 ·rcases old q with⟨y1,y⟩|⟨y1,y⟩
  ·cbv
  ·let#[b,x1,x2,x3,x4]:=e5Y c' y;show#[b,x1,x2,x3,x4.mono ě λo z=>by rw[a9 (λzz:b=a=>S.ap i j c c' a y1 h y ha<|zz▸x1)];show z]
 ·rcases old q1 with⟨y1,y⟩|⟨y1,y⟩
  ·cases y;rcases old q2 with⟨w1,_⟩|⟨_,w⟩
   ·show n (y1.symm.trans w1)
   ·subst y1;show S.ap i k c e b n h w z1 z2
  ·rcases old q2 with⟨w1,w⟩|⟨_,w⟩
   ·cases w;subst w1;show S.ap j i c' c b n y h z1 z2
   ·show S.ap j k c' e b n y w z1 z2
open e
inductive Fl where
 |nx (ε:Ev)|rt (d:D)
abbrev Rs:=Ev->Fl->Prop
theorem YC (F0 H0 F:Hp)(E:Ends):Fl->Prop
 | .nx ε=>∀ σ H F',f' F F'->f1J σ H ε->E.nx σ H
 | .rt d=>∀ x H,f' H0 H->f' F H->DR DO d x->E.rt x H
def YC.up (c9F):∀ {f:Fl},e6w F E f->e6w F' E f
 | .nx _,h=>λσ H F2 u S=>h σ H F2 (e.trans u) S
 | .rt _,h=>λx H a b=>h x H a (e.trans b)
inductive tQ (F0 H0:Hp)(r:Rs)(E:Ends)(c7w):∀ F ε f,Ss F0 H0 F σ H ε->r ε f->YC F0 H0 F E f
theorem QS (X)(st)(r:Rs):Prop:=∀ F0 H0,e0R lG
theorem RT (X)(st:Í)(r:Rs):Prop:=∀ F0 H0,Q1 X st lG
def PS.imp (h:PS X e t)(d0o):PS X e t':=λe1q D I q=>e0t D I XL
def Q1.imp (h:Q1 X e t)(d0o):Q1 X e t':=λe1q D I q=>e0t D I XL
variable {st:Stmt}{r r2:Rs}{re:Rx}{rt:Å}
def q0:RT X [] λε f=>f=.nx ε:=λe1l=>N3.imp λe0f=>by let#[Ck]:=gR;subst h;show p σ H F ě S
inductive pY (r r2:Rs)(ε:Ev):Fl->Prop
 |nx {ε1:Ev}{f:Fl}:r ε (.nx ε1)->r2 ε1 f->pY r r2 ε f
 |rt {d:D}:r ε KW->pY r r2 ε KW
def qC (c9Z)(k:RT X ss r2):RT X (st::ss) (pY r r2):=λe1l=>(ag ue<|k F0 H0).imp λe0f=>by
 ext d5R
 cases h with
 | nx h1 h2=>show#[mr,λe4g=>#[c6Q]]
 | rt h1=>show#[mr,p]
def q1 (c9Z):RT X [st] r:=λe1l=>aq ue
def a6W:QS X st λ_ _=>False:=λe1l=>c27.imp λe0f=>by let#[Ck]:=gR;show h.elim
def qZ (i)(h:RT X ss r):RT X ss λε f=>∃ d,ε[i]?=!.ow d/\r zx f:=λe1l=>(h F0 H0).imp λe0f=>by let#[E6,f,S,#[d,mh],p]:=gR;let#[F',u,S']:=S.frz h1;show#[c6Q]
inductive Ft (d1O):Fl->Prop
 |mk {d:D}:re ze d->Ft i re ε (.nx zx)
def qS (d1A)(c7D):e1F (Ft i re):=λe1l=>h.imp λe0f=>by let#[Ck]:=gR;let#[h1]:=h;show k Ĉ (e7t h1 λe0u=>p _ H1 _ jP<|(S.grow e1).Uw q1 i)
theorem jS:D->Bool
 | .non|.bl _|.int _|.str _=>true
 | _=>false
def uo:∀ {d:D}{v:V},jS d=true->e3v v->DR G d v:=by
 intro d v h i
 cases d<;>first|show i|cases h
inductive YR (d1O):Fl->Prop
 |mk {d:D}:re ĩ d->jS d=true->YR i re ε (.nx zx)
def c3R (d1A)(c7D):e1F (YR i re):=λe1l=>h.imp λe0f=>by let#[Ck]:=gR;let#[h1,h3]:=h;show k Ĉ (e7u h1 λe0u=>p _ H1 _ ě<|(S.MR e1).Uw (uo h3 q1) i)
inductive tN (re:Rx)(c7w)(Q:VK):∀ F ε d,Sd F σ H ε->re ε d->a8Z
def tN.p (h:tP re σ H Q):tN re σ H Q:=let ⟨F,ε,d,S,h1,q⟩:=h;#[Bv,h1,λa H' e n w=>q _ H' e (w.dr Lv λo z=>by rw[ax n];show z)]
inductive CV (d1O):Fl->Prop
 |mk {d:D}:re ze d->CV i re ε (.nx mW)
def qO (d1A)(k:∀ σ H Q,tN re σ H Q->te σ H Q):e1F (CV i re):=λe1l=>h.imp λe0f=>by let#[Ck]:=gR;obtain @⟨d,h1⟩:=h;show k Ĉ #[F,_,d,S.z,h1,λa e1M n w=>?_];let#[F',u,S']:=S.a3g i n e1 w;show p _ H1 F' u S'
inductive ZX (c79)(f:Fl):∀{d:D},re ĩ d->f=.rt d
def qR (d2a):QS X c0m (ZX re):=λe1l=>(bD h).imp λe0f=>by let#[E6,f,S,#[mh],p]:=gR;subst h2;show tP.go S.a h1 λe0u=>p x H1 (S.b0.trans e1) (S.le.trans e1) (by rw[aw S.b0 e1]at q1;show q1)
inductive rIf (rt:Å)(rx ry:Rs)(ε:Ev)(f:Fl):Prop
 |t:rt ĩ true->rx ε f->rIf rt rx ry ε f
 |f:rt ĩ false->ry ε f->rIf rt rx ry ε f
def qI (h:e82 z6)(ha:RT X a rx)(hb:RT X b ry):QS X BG (rIf rt rx ry):=λe1l=>(gC h (ha F0 H0)<|hb F0 H0).imp λe0f=>by
 ext d5R
 cases h with
 | t h1 h2=>show#[_,_,true,c6R]
 | f h1 h2=>show#[_,_,false,c6R]
inductive pA (rt:Å)(rb:Rs):Nat->Ev->Fl->Prop
 |done {n:Nat}{ε:Ev}:rt ĩ false->pA rt rb n ε lD
 |next {n:Nat}{ε ε2:Ev}{f:Fl}:rt ĩ true->rb ε fH->pA rt rb n ε2 f->pA rt rb (n+1) ε f
 |ret {n:Nat}{ε:Ev}{d:D}:rt ĩ true->rb ε KW->pA rt rb n ε KW
theorem rWh (rt:Å)(rb:Rs):Rs:=λε f=>∃ n,f1V f
instance qW (hp)(hc:PT X c (Ql rt))(hb:RT X ss rb):QS X (.While c ss [] pos) (rWh rt rb):=λF0 H0=>(D7 hp hc<|hb F0 H0).imp λE σ H gR=>by
 let#[F,ε,f,S,#[n,h],p]:=gR;show#[λm σ H=>∃ F' ε',f' F F'/\Ss F0 H0 F' σ H ε'/\pA rt rb m ε' f,#[n,F,ε,f'.refl _,S,h],fun m σ H ⟨F',ε',u,S',w⟩=>?_]
 cases w with
 | done t=>show#[_,_,false,S'.a,t,λH1 e1=>p σ H1 F' u<|S'.MR e1]
 | next t b w=>show#[_,_,true,S'.a,t,λH1 e1=>#[λσ' H'=>∃ F2,f' F F2/\Ss F0 H0 F2 σ' H' _,λσ2 H2 gR=>(by let#[F2,u2,S2]:=gR;show#[_,IJ _,F2,_,u2,S2,w]),F',ε',_,S'.MR e1,b,λσ2 H2 F2 u2 S2=>#[F2,u.trans u2,S2]]]
 | ret t b=>show#[_,_,true,S'.a,t,λH1 e1=>#[λ_ _=>False,λ_ _ z=>z.elim,F',ε',_,S'.MR e1,b,p.up u]]
abbrev _root_.Ú:=Ev->Prop
abbrev _root_.Õ:=D->Ev->Ú
theorem Xt (g:TG)(q:Õ):Prop:=∀ (F0 H0 F H:Hp) σ ε ε' d x (Q:Υ),e6V H ε->e3v x->q d ε ε'->(∀ σ',e0X F σ' H ε'->Q σ' H)->e4R H Q
def aI (i):Xt vS λd ε ε'=>ε'=ε.set i (.fz d):=λe1l f0x=>q _ (by subst r;show S.Uw h i)
theorem b2f:List Nat->List D->Ev->Ev
 | i::is,d::l,ε=>f0Y zx
 | _,_,ε=>ε
def c6h:∀ (is:À)(F0 H0 F H:Hp) σ ε l xs (Q:Υ),e6V H ε->e1u xs->l.length=is.length->(∀ σ',e0X F σ' H (f0Y ε)->Q σ' H)->f1U Q:=by
 intro r'
 induction r' with
 | nil=>
  ext d51
  cases KN r;show#[h,q σ S]
 | cons i is ih'=>
  ext d51
  match l,r with
  | d::m,r=>
   let#[Dh,mh]:=h;show#[Dh,ih' F0 H0 F H ĉ m ws Q (S.Uw h1 i) h2 (by simpa using r) q]
def cH (K)(is:À):Xt b5L λd ε ε'=>∃ l,d=.tup l/\l.length=is.length/\ε'=f0Y ε:=λe1l f0x=>by let#[l,1,hl,1]:=r;let#[d7]:=h;show#[a,vs,1,Nu.of<|e3N ha,by rw[hv.length,hl],c6h is F0 H0 F H σ ε l vs Q S hv hl q]
inductive jv (q:Õ)(rb:Rs):Ev->List D->Fl->Prop
 |done {ε:Ev}:jv q rb ε [] lD
 |next {ε ε1 ε2:Ev}{d:D}{l:χ}{f:Fl}:q d ε ε1->rb ε1 fH->jv q rb ε2 l f->jv q rb ε GD f
 |ret {ε ε1:Ev}{d v:D}{l:χ}:q d ε ε1->rb ε1 (.rt v)->jv q rb ε GD (.rt v)
instance iX {tb:TS}(XE:∀ E σ H,tQ F0 H0 rb E σ H->tb E σ H)(hg:Xt g q)(S:Ss F0 H0 F1 σ H1 ε)(hJ)(h:jv q rb ε l f)(p:YC F0 H0 F1 E f):
  ∃ W:Nat->Nat->Υ,(∃ m,W 0 m σ H1)/\∀ i m σ H,W i m σ H->
   (J.stop i H/\E.nx σ H)\/(J.go i H/\∃ N:Υ,ġ/\∀ x H',J.Xy i H x H'->g x σ H' λσ2 H2=>tb { E with nx:=N,ct:=N,bk:=E.nx } σ2 H2):=by
 show#[λi m σ H=>m=l.length - i/\i<=l.length/\∃ F' ε',f' F1 F'/\Ss F0 H0 F' σ H ε'/\jv q rb ε' (l.drop i) f,#[_,1,HW _,F1,ε,f'.refl _,S,h],?_];rintro i m σ H ⟨rfl,hi,F',ε',u,S',w⟩;by_cases c:i<l.length
 ·rw[Jh c]at w;let#[go,yl]:=(hJ.mono u).go H i l[i] S'.le<|GT c;show .inr #[go,?_]
  cases w with
  | next t b w=>
   show#[λσ' H'=>∃ F2,f' F1 F2/\Ss F0 H0 F2 σ' H' _,λσ2 H2 gR=>(by let#[F2,u2,S2]:=gR;show#[_,#[0],1,c,F2,_,u2,S2,w]),λx H2 y=>?_];let#[e2,hx]:=yl x H2 y;show hg ą ą x _ (S'.grow e2) hx t λσ3 S3=>XE Ĉ #[_,_,_,S3,b,λσ4 H4 F4 u4 S4=>#[F4,u.trans<|(aj S'.le).trans u4,S4]]
  | ret t b=>
   show#[λ_ _=>False,λ_ _ z=>z.elim,λx H2 y=>?_];let#[e2,hx]:=yl x H2 y;show hg ą ą x _ (S'.grow e2) hx t λσ3 S3=>XE Ĉ #[_,_,_,S3,b,p.up<|u.trans (aj S'.le)]
 ·rw[List.drop_of_length_le<|by omega]at w
  cases w;show .inl #[(hJ.mono u).stop H i S'.le<|by omega,p σ H F' u S']
inductive m5 (ri:Ri)(c9c):∀{l:χ},ri ze l->jv q rb ε l f
def c13 (hp)(hc)(hi)(c7d):
  QS X ŧ a7Y:=λe1l=>(bJ hp hc hi ht c1u hs).imp fun E σ H ⟨F,ε,f,S,.mk (l:=l) h1 h2,p⟩=>
 #[F,_,l,S.z,h1,λJ e1M hJ=>e3s hJ h2<|p.up jP]
inductive V7 (c79)(d:D):Prop
 |z:re ze d->V7 re ε d
 |a:re ĩ d->jS d=true->V7 re ε d
def V7.go (S)(h:V7 re ε d)(k:∀ x H1 F',f' H H1->f' F F'->f1J σ H1 ε->f0V x->Q x H1):tP re σ H Q:=by
 cases h with
 | z h=>show tP.go S.z h λe0u=>k x H1 _ e1 jP L6 q1
 | a h hf=>show tP.go S.a h λe0u=>k x H1 _ e1 ě (S.MR e1) (uo hf q1)
inductive YV (d1O):Fl->Prop
 |mk {l:χ}{d:D}:ε[i]?=!.ow EE->l.length<=1000->V7 re ε d->YV i re ε (d8S i (.lst (l++[d])))
def qA {K:Ψ}(h:e0R (zO (tBM K "list" c0Q s0 (lF te lW))))(c7D):e1F (YV i re):=λe1l=>h.imp λe0f=>by let#[Ck]:=gR;let#[ic]:=h;let#[rD,p5]:=e5X _ h1;show#[_,p1,.inl c2n,k Ĉ<|h3.go S λe3X F' e1 u S1 q1=>#[a,vs,x,2,e1I p4,JL (by rw[p5.length];show h2)<|by decide +kernel,f0Z F' u<|S1.chg h1 p1 #[_,af,(p5.mono u).app<|.one q1]]]
open e
variable {K:Ψ}{st:Stmt}{k:Nat}
theorem ent (n)(l:χ):Ev:=l.map .fz++List.replicate (n - l.length) .un
def lr (N:η)(s)(h:e1u vs):Ss F H F ů H (ent N.length l):=by
 let hl:=h.length;show#[f'.refl _,s,f'.refl _,aj s,by simp[ent,start,hl],c55]
 ·unfold ent at q;by_cases c:i<l.length
  ·rw[HY<|by simpa using c,Hh]at q
   cases z:l[i]? with
   | none=>ext d5S
   | some e=>
    ext d7U;show#[v,by ext1 start;rw[HY<|by simp[hl,c],Hh,a];rfl,b]
  ·rw[Ib<|by simpa using c]at q
   cases (Jm<|Hb q)
 all_goals
  rcases Hx.mp (Hb q) with z|z
  ·cbv
  ·cbv
theorem uO (n m:Nat)(r:Rs)(R:Ä):Prop:=∀ l d,R l d->l.length=m/\(r (ent n l) KW\/d=.non/\∃ ε,r (ent n l) lD)
def uO.ok {ps:η}(t:uO N.length ps.length r R)(h:e8w E):vs.length=ps.length/\∃ F,tQ F H r { nx:=λ_ H'=>e2P H',rt:=Q } ů H:=by
 let#[F,l,d,s,hl,hR,q]:=h;let#[hn,t]:=t l d hR;show#[by rw[hl.length,hn],F,?_];rcases t with t|⟨rfl,ε,t⟩
 ·show#[F,_,_,lr N s hl,t,λx H' e _ z=>q x H' e z]
 ·show#[F,_,_,lr N s hl,t,λσ H' F' u S'=>q _ H' S'.b0 rfl]
def OR.dv (c7m)(c69):e0b sv:=
 F.ok S b5o λe2U=>let ⟨_,F,z⟩:=t.ok h;#[c3w,z]
def MM.dv (c90)(c69):e0b sv:=
 MM.ok F S b5o λe2U=>let ⟨_,F,z⟩:=t.ok h;#[c3w,z]
open e
variable {K:Ψ}{b c e:Expr}{rs:Á}{F H:Hp}
inductive fI (C:Int->Int->Prop)(g:Int->Int->D):D->D->D->Prop
 |mk {i j:Int}:C i j->fI C g yq EH DZ
def OC (d1b):SU (fI C λi j=>Tb DZ) (rI C g):=λe0s=>by obtain @⟨i,j,hc⟩:=z;show#[i,j,hu,hv,hc,e00 (Dy<|h i j)]
def eA (d1b):SU (d9j DZ) (Xz g):=λe0s=>by obtain @⟨i,j,_⟩:=z;show#[i,j,hu,hv,e00 (Dy<|h i j)]
theorem fv:D->V
 | .bl b=>.bl b
 | .int i=>.int i
 | .str x=>.str x
 | _=>.non
def jQ:∀ {d:D}{v:V},jS d=true->e3v v->v=fv d:=λ{d _} f h=>by cases d<;>first|show h|cases f
def c6e:∀ {l:χ}{vs:π},l.all jS=true->e1u vs->vs=l.map fv:=by
 intro r'
 induction r' with
 | nil=>
  intro _ _ h;show h
 | cons d l ih'=>
  intro _ hf y2';let#[v,uy]:=y2';rw[List.all_cons,IL]at hf;rw[q1,jQ hf.1 q2,ih' hf.2 q3];rfl
def c2P:∀ {d:D},jS d=true->eJ (fv d)=true
 | .non,_=>rfl
 | .bl _,_=>rfl
 | .int _,_=>rfl
 | .str _,_=>rfl
inductive fE (d0Z):jS x=true->jS y=true->ZR (fv x) (fv y)=true->d=.bl (if n=true then not (decide (fv x=fv y)) else decide (fv x=fv y))
def cM:SU a4v rEq:=λd98 gR hu hv q=>by let#[wG]:=gR;rw[jQ h1 hu,jQ h2 hv];show#[c5t]
def b95:SU (fE true) rNe:=λd98 gR hu hv q=>by let#[wG]:=gR;rw[jQ h1 hu,jQ h2 hv];show#[c5t]
theorem isN:D->Bool
 | .non=>true
 | _=>false
def a5W:∀ {d:D}{v:V},e3v v->decide (v=.non)=isN d:=by
 intro d v h
 cases d<;>first|(rw[h];rfl)|(let#[_,_,h,_]:=h;rw[h];rfl)|(let#[CD,h,_]:=h;rw[h];rfl)
inductive fN (n:Bool)(x:D):D->D->Prop
 |mk:fN n x .non (.bl (if n=true then not (isN x) else isN x))
def a4m:SU (fN false) a7E:=λe0s=>by cases z;show#[c48]
def a0X:SU (fN true) a6n:=λe0s=>by cases z;show#[c48]
inductive Sq:D->List D->Prop
 |lst {l:χ}:Sq EE l
 |scr {l:χ}:Sq (.scr l) l
def Sq.at (q:Sq d l)(c9b):∃ a vs,v=.ref a/\Rd F a (d9d vs)/\LC F l vs:=by
 cases q with
 | lst=>let⟨a,vs,h1,h2,h3⟩:=h;show#[a,vs,h1,.inl h2,h3]
 | scr=>show h
def LC.R8 {l:χ}{vs:π}{i:Int}{d:D}(h:e1u vs)(e:R8 l i=!d):∃ v,L2.R8 vs i=!v/\DR F d v:=by
 unfold L2.R8 at e ⊢;rw[h.length]
 cases z:Wn l.length i with
 | none=>ext d4J
 | some j=>rw[z]at e;show h.at e
def a73 (s)(h1:Sq x l)(h3:L2.R8 l i=!d)(hu:DR F x u)(hv:DR F yq v)(q):D0 K u v H Q:=by let#[z7]:=h1.at hu;let#[w,p3,p4]:=p2.R8 h3;show#[a,vs,i,w,1,hv,.inl<|p1.mono s,p3,e00 p4]
def a72 (s)(h3:L2.R8 l i=!d)(hu:DR F kZ u)(hv:DR F yq v)(q):CZ K u v H Q:=by let#[z7]:=hu;let#[w,p3,p4]:=p2.R8 h3;show#[a,vs,i,w,1,hv,Nu.of<|s _ _ p1,p3,e00 p4]
inductive oJ:D->List D->Prop
 |sq {x:D}{l:χ}:Sq x l->oJ x l
 |tup {l:χ}:oJ kZ l
inductive fIn (d0Z):∀{l:χ},oJ y l->jS x=true->l.all jS=true->d=.bl (if n=true then not (XC (fv x) (l.map fv)) else XC (fv x) (l.map fv))
def a75:SU (fIn n) (rIn K n):=λe0s=>by
 obtain @⟨l,h1,h2,h3,h4⟩:=z;let hf:(l.map fv).all eJ=true:=by
  simp_all [List.all_map,IS,c2P]
 rcases h1 with h1|_
 ·let#[z7]:=h1.at hv;show#[a,l.map fv,1,.inl<|c6e h3 p2▸.inl (p1.mono s),by rw[jQ h2 hu];show c2P h2,hf,e00 (by rw[h4,jQ h2 hu];rfl)]
 ·let#[z7]:=hv;show#[a,l.map fv,1,.inr<|c6e h3 p2▸Nu.of (s _ _ p1),by rw[jQ h2 hu];show c2P h2,hf,e00 (by rw[h4,jQ h2 hu];rfl)]
def jK (s)(q)(h:∀ a G,f' F G->G a=!o->DR G d gq):Nx H o Q:=λp H2 e n z=>q _ H2 e (h p _ (aj s) (by rw[ax n];show z))
inductive a49:D->D->D->Prop
 |mk {l m:χ}:l.length+m.length<=10000->a49 EE lI (d9d (l++m))
def a3J:SU a49 D4:=λe0s=>by obtain @⟨l,m,h3⟩:=z;let#[z7]:=hu;let#[b,us,1,p3,p4]:=hv;show#[a,b,vs,us,2,s ĉ p1,s ĉ p3,HH (by rw[p2.length,p4.length];show h3)<|by decide +kernel,jK s q λe5v=>#[c,_,1,z,(p2.mono e).app<|p4.mono e]]
theorem Cb (R:Ä)(c9u):Prop:=∀ (F H:Hp) l xs d (Q:VK),f' F H->R l d->e1u xs->b1o->r xs H Q
def tP.cb (k:Cb R r)(h:tP Lb σ H Q):tCB r Ad σ H Q:=by obtain⟨F,ε,d,S,@⟨l,h1,h2⟩,q⟩:=h;show NI.go S h1 λe8Z=>k _ H1 l xs d Q S1.le h2 q1 λz e1D q2=>q z H2 ļ (by rwa [aw e1 e2]at q2)
inductive a5r:Ä
 |mk {x:D}{m:χ}:oJ x m->a5r [x] (.int m.length)
def a1D:Cb a5r a2x:=λf0w=>by
 ext d4F
 ·let#[z7]:=h2.at p;show#[a,vs,1,.inl<|.inl (p1.mono s),by rw[p2.length];show tP.at s q rfl]
 ·let#[z7]:=p;show#[a,vs,1,.inr<|Nu.of (s _ _ p1),by rw[p2.length];show tP.at s q rfl]
def i4 {ns:Ξ}(h:LC F i8 vs):vs=ns.map V.int:=by ext d7k
def b3b {bs:Ñ}(h:LC F (bs.map .bl) vs):vs=bs.map V.bl:=by ext d7k
inductive a5p:Ä
 |mk {ns:Ξ}{l:χ}:l=ns.map .int->a5p [.lst l] mj
def a97:Cb a5p (λe1r=>∃ (p:Addr)(ns:Ξ),xs=uZ/\LO K H p Ł/\Q mj H):=λf0w=>by obtain @⟨ns,_,h⟩:=z;subst h;let#[xH]:=hx;show#[a,ns,1,LO.of<|i4 p2▸s _ _ p1,e00 rfl]
inductive Xp:Ä
 |mk {bs:Ñ}{l:χ}:l=bs.map .bl->Xp [.lst l] (.bl (bs.all id))
inductive Yy:Ä
 |mk {bs:Ñ}{l:χ}:l=bs.map .bl->Yy [.lst l] (.bl (bs.any id))
def c2T:Cb Xp a0C:=λf0w=>by obtain @⟨ns,_,h⟩:=z;subst h;let#[xH]:=hx;show#[a,ns,1,LO.of<|b3b p2▸s _ _ p1,e00 rfl]
def a1E:Cb Yy Own:=λf0w=>by obtain @⟨ns,_,h⟩:=z;subst h;let#[xH]:=hx;show#[a,ns,1,LO.of<|b3b p2▸s _ _ p1,e00 rfl]
inductive a5q:Ä
 |mk {x:D}{m:χ}:oJ x m->a5q [x] lI
def c6u:Cb a5q a8U:=λf0w=>by
 ext d4F
 ·let#[z7]:=h2.at p;show#[a,vs,1,.inl<|.inl (p1.mono s),jK s q λe5v=>b89]
 ·let#[z7]:=p;show#[a,vs,1,.inr<|Nu.of (s _ _ p1),jK s q λe5v=>b89]
inductive rDs (c:List D->D)(d1N):∀{l:χ},rs ε l->l.length<=1000->d=c l
def i7 {x1:Nat}(h:e6m Ad):PE X c0v (tP (rDs .tup rs)):=(eY h).imp λe1H=>by let#[Bv,#[ic],q]:=gR;show NI.go S h1 λe8Z=>#[HH (by rw[q1.length];show h2)<|by decide +kernel,jK S1.le (λx e1D q2=>f0W ļ<|by rwa [aw e1 e2]at q2) λe5v=>by rw[h3];show#[c,_,1,z,q1.mono e]]
def c7 (h:e6m Ad):e8o (tN (rDs .lst rs)):=(du h).imp fun σ H Q ⟨F,ε,d,S,⟨h1,h2,h3⟩,q⟩=>e35 h1 λe8Z=>#[HH (by rw[q1.length];show h2)<|by decide +kernel,λp e1D n z=>by
 let n0:H p=none:=by cases y:H p with
  | none=>rfl
  | some o=>rw[e1I y]at n;cases n
 show q p H2 ļ n0 ?_;rw[h3];show#[xs,z,q1.mono λb o y=>?_];rw[aF λzz=>by simp_all [grow]];show aW e2 ĉ y]
def dV (h:e81 (Cw tJ)):e81 (Ql λε b=>ra ε AN):=h.imp λe1H=>by let#[zA]:=gR;show#[c4y]
open e
def a7P:typeLookup Ő "keys"=pure none:=by ext d3m;kernel_rfl
def a2s:entryFor table "dict.update.loop"=some Builtin.«dict.update.loop»:=entryFor_of_tree nO
def BI (hx:s.heap.get? a=some #[.type "list",none,.seq xs k,sl])(c7I):e0q b8j Q E s:=by
 let#[EW]:=s;let hT:∀ WA,(#[hp,g,d,WA,os]:Ê).TypeIs gq "list":=λ_=>#[_,hx,1]
 ext d8a;let f3:=F.slot_list_getattribute.lookup;let f4:=F.slot_list_getattribute.bind gq;let f5:=am_list_getattr_none;unfold getAttr? getAttrBy? getAttrBy;repeat (any_goals (first|assumption|show hT _|((with_reducible show (wpAny _ _ (call (Value.builtin "list.__getattribute__") _ _) _ _ _));show KC F.slot_list_getattribute (hT _) am_entry_list_getattribute (F.args_list_getattribute_2 ĉ) (meets_getattribute_miss_list a xs k sl "keys" _ a7P (by decide) (by size_fits)) ⟨hx,hA,λh' WA e Te=>?_⟩)|wp_step))
 ext d3E
 show h Ĉ Te.of
variable {prog:É}{w:World}{κ:Type}[DecidableEq κ]{knd:KeyKind prog w κ}
theorem c3o (knd)(c8Q)(items:Ó)(ps:List (κ×Value)):Prop:=items.size=ps.length/\∀ (i:Nat) x p,items[i]?=!x->ps[i]?=!p->∃ t u,x=.ref t/\h.IsTuple t [u,p.2].toArray/\knd.is p.1 u=true
def f2x (c8n)(hh)(W5)(hdl:d≠l)(Zk:it≠l)(hdi:d≠it)(d1P):
  ∀ (n i:Nat)(s:Ê),n=ps.length - i->i<=ps.length->s.heap.IsListIter it l i->e26 items->e8x ps->e36 d b6Z->
   (∀ h' tk,f00 xQ->(∀ b o,b≠d->b≠it->s.heap.get? b=!o->h'.get? b=!o)->R Oj { s with heap:=h',toks:=tk })->
   codeAny ē A (d8Z it) R s:=by
 intro n
 induction n with
 | zero=>
  ext d67;let ei:i=ps.length:=#[0]
  ext d8v;show GU (wpAny_pyNext_list_end hh hit hl a9B λh' ext=>?_);let#[uD]:=hd;show GU (Hk<|Hk (h h' _ ⟨o,es,ep,ext d o hdi ho,by rw[ei,HM]at r;show r⟩ λb o hb1 hb2 hb=>ext b o hb2 hb))
 | succ n ih=>
  ext d67;let Nt:i<ps.length:=#[0]
  ext d5T
  obtain⟨x,ex⟩:∃ x,items[i]?=!x:=#[_,Kh (by rw[hp.1];show Nt)]
  let#[t,u,1,ht,hk]:=hp.2 i x p ex ep;ext d8v;let neT:∀ t' v',e9J v'->t'≠it/\t'≠d:=λt' v' gR=>by
   let#[o',U1,_,n',Qn]:=gR;let#[oi,hoi,_,a9j]:=hit;let#[od,Go,hod,_,hdd,_]:=hd;ext d4M
   ·intro z;rw[z,hoi]at U1
    cases U1;rw[a9j]at Qn
    cases Qn
   ·intro z;rw[z,hod]at U1
    cases U1;rw[hdd]at Qn
    cases Qn
  show GU (wpAny_pyNext_list_item hit hl ex λh1 a87 sb1=>?_);let QA:∀ b o,b≠it->s.heap.get? b=!o->h1.get? b=!o:=λe5M e=>(sb1.2 b hb).trans e;let a2N:∀ t' v',e9J v'->h1.IsTuple t' v':=λt' v' z=>by let#[o',U1,r']:=id z;show#[o',QA t' o' (neT t' v' z).1 U1,r']
  let XF:e6x d b7C:=by let#[uD]:=hd;show#[lH,QA d o hdi ho,r]
  let Rk:h1.IsList l items:=by let#[o,ho,r]:=hl;show#[o,QA l o Zk.symm ho,r]
  let#[ot,hot,hct,nt,hdt]:=a2N t _ ht;show GU<|Io (GU (K3 ?_));show GU (KY #[ot,hot,hct] ?_);show GU<|K4 hot hdt dU;let hml:(merged []<|ps.take i).length<=sizeLine:=by let h1:=merged_length_le ([])<|ps.take i;ext d3L
  ext d2C;show ih (i+1) { s with heap:=h2,toks:=s.toks+1 } #[0] #[0] ?_ ?_ ⟨hp.1,λj x' p' h3 h4=>?_⟩ ?_ λe2Y h3 h4=>f01 h3 λb o hb1 hb2 hb=>h4 b o hb1 hb2 (NZ b o hb1<|QA b o hb2 hb)
  ·let#[oi,hoi,r]:=a87;show#[oi,NZ it oi hdi.symm hoi,r]
  ·let#[ol,hol,r]:=Rk;show#[ol,NZ l ol hdl.symm hol,r]
  ·let#[t',u',e',Qm,Us]:=hp.2 j x' p' h3 h4;let#[o',U1,r']:=a2N t' _ Qm;show#[t',u',e',#[o',NZ t' o' (neT t' _ Qm).2 U1,r'],Us]
  ·ext d5r
def f2A (c8n)(hh)(hl:s.heap.get? l=some #[.type "list",none,.seq items n,sl])(hp:e8x ps)(W5)(h:∀ h' tk,e1w xQ->Dl->Q UF { s with heap:=h',toks:=tk }):
  wpAny ē A (call UV Ky) Q E s:=by
 ext d2o;let hl':=Ha { cls:=.type "dict",data:=.dict [].toArray } hl;ext d3x;show GU (KY #[_,hl',1] ?_);show GU (BI hl' hh λh1 tk1 e1 ne1=>?_);ext d5J;let Rk:h1.IsList l items:=#[_,e7v hl,1,n,1]
 show GU kW;show GU (Kq Rk ?_);ext d5U;let kp:∀ b o,h1.get? b=some o->(h1.push { cls:=.type "list_iterator",data:=.fields [.ref l,e5U 0].toArray }).get? b=some o:=λe0F=>Ha _ e;let XF:e6x s.heap.objs.size []:=by let#[uD]:=Og;show#[c6n]
 let nl:=IV<|HF hl;let lt1:s.heap.objs.size<h1.objs.size:=by let#[uD]:=XF;show HF ho
 show f2x (A:=A.in1) (knd:=knd) hh W5 nl (IV<|HF (e7v hl)) (HR lt1) _ ps.length 0 { s with heap:=h1.push { cls:=.type "list_iterator",data:=.fields [.ref l,e5U 0].toArray },toks:=tk1 } #[0] (HW _) ⟨_,HG _ rfl,rfl,rfl⟩ ?_ ⟨hp.1,λi x p h3 h4=>?_⟩ ?_ λf2t=>?_
 ·let#[o,ho,r]:=Rk;show#[o,kp ĉ ho,r]
 ·let#[t,u,e,#[o,ho,r],hk]:=hp.2 i x p h3 h4;show#[t,u,e,#[o,kp ĉ<|e7v ho,r],hk]
 ·let#[uD]:=XF;show#[lH,kp ĉ ho,by show r]
 ·show#[1,f01 hD λe0F=>keep b o nu (HR<|HF (Om b o e))<|kp b o (Om b o e)]
open e
theorem b5J (H)(p:Addr)(ķ:ξ):Prop:=∃ xs,H p=!.lst xs/\Paired a9a xs ķ
def a8x (LJ:e7e H h):∀ {xs:π}{ķ:ξ}{its:θ},Paired a9a xs ķ->e0v its->
  ∃ ps:List (Ws×Value),KV ķ ps/\its.length=ps.length/\∀ (i:Nat) x p,its[i]?=!x->ps[i]?=!p->∃ t u,x=.ref t/\h.IsTuple t [u,p.2].toArray/\(aP P w).is p.1 u=true:=by
 intro xs ķ its h
 induction h generalizing its with
 | nil=>intro h;cases h;show#[[],.nil,1,λi x p h1 _=>by simp at h1]
 | @cons _ kv _ _ y r ih=>
  intro h
  cases h with
  | @cons _ b _ _ rv rvs=>
   let#[t,e,ht]:=y;let#[ps,cZ]:=ih rvs;subst e;obtain rfl:b=Value.ref t:=rv;let#[_,MJ,r2,ob,sr]:=(show LP P w H h t (.tup xI) from LJ t _ ht)
   let#[u,v,1,ru,YN]:=Cr r2;show#[wE::ps,.cons #[1,YN] k1,by simp[k2],λi x p e1C=>?_]
   cases i with
   | zero=>
    let h1:Value.ref t=x:=by simpa using h1
    let h2:wE=p:=by simpa using h2
    subst h1 h2;show#[t,u,1,#[ob,sr],jN ru]
   | succ i=>show k3 i x p T0 SS
def cA (hc):Md X UV (λe1r=>∃ p ķ,xs=uZ/\b5J H p ķ/\ķ.length<=1000/\Nx H Ť Q):=by
 ext d2r;let#[p,ķ,1,#[ys,hy,hp],hz,q]:=h;ext d6w;let#[z,its,n,rv,e]:=(I.LJ p _ hy)
 let#[ps,cZ]:=a8x I.LJ hp rv;ext d6f;show f2A ń e #[by show k2,λi x p e1C=>k3 i x p T0 h2] #[0] λf2t=>?_;let UI:(bg [] ķ).length<=sizeLine:=by let h1:=cw ķ [];ext d7i;omega
 show#[c4U];show#[UI,JC.mpr<|IV I.big,_,k1.merge .nil,hD]
open PySem.Calls
def rH:∀ {us:θ}{ns:Ξ},e5Q ns->sY Ł us
 | _,_,.nil=>.nil
 | _,_,f0z t h=>.cons #[t,1] (rH h)
def Al:∀ {us:θ}{ns:Ξ},us.length=ns.length->(∀ (j:Nat)(n:Int)(u:Value),ns[j]?=!n->us[j]?=!u->∃ t,u=.int n t)->e5Q ns
 | [],[],_,_=>.nil
 | u::us,n::ns,hl,h=>by let#[t,1]:=h 0 n u rfl rfl;show .cons n t (Al Ĵ λj m v e1C=>h (j+1) m v T0<|by simpa using h2)
 | [],_::_,hl,_=>by cases hl
 | _::_,[],hl,_=>by cases hl
def mG (hc):Md X qN (λe1r=>∃ d ķ ns,xs=DP/\Rd H d lJ/\ķ.map (·.1)=ns.map (λn:Int=>(Sum.inl n:Ws))/\ns.length<64/\
  ∀ TF:Ξ,TF.Perm ns->TF.Pairwise iV->Nx H b8k Q):=by
 ext d2r;let#[d,ķ,ns,1,hd,Xa,U8,q]:=h;ext d3N
 ext d5D
 let hl:es.size=vs.length:=by rw[<- hp.length];simp
 let hkl:=KV.length rel;let hkn:ķ.length=ns.length:=by let:=d94 Xa;ext d3g
 show call_function_entry kind_sorted plain_sorted entry_sorted c2o ?_;ext d39;show GU (W.kdu_collect (zU lo) ń uR (by rw[hl,<- hkl];show z) λe2Y acc keep W9=>?_);let hI:IntsAre acc.toList ns:=by
  show Al (by let h1:=W9.1;rw[<- Il]at h1;rw[h1,hl,<- hkl,hkn]) λj n u' hn hu=>?_;let hkj:(ķ.map (·.1))[j]?=!Sum.inl n:=by rw[Xa,Hh,hn];rfl
  rw[Hh]at hkj;let#[kv,ekv,hkv]:=HN.mp hkj;ext d6C;let hj:j<es.size:=by rw[hl];show (GW.mp RK).1
  let h1:(es[j]?).map (·.key)=!u':=W9.2 j u' (by rw[<- KA];show hu);rw[Kh hj]at h1;let h2:=(Pairs.get? hp (e:=es[j]) ĝ RK).1;let h3:=Option.some.inj h1;let h4:=b0W h2;rw[<- X8.1,hkv]at h4;rw[<- h3];show h4
 let hlen:acc.toList.length<64:=by
  let h1:=W9.1
  cbv
 show GU (Lg ?_<|HH (Ka hlen) Ĺ);let Zj:(h'.push _).get? h'.objs.size=!seqObj "list" acc.toList.toArray 0:=HG _ rfl;show GU<|Io (e17 (list_sort_tree Zj hI hlen λout TF a1 a2 a3=>mE)<|args_list_sort _);show Hk mE;let a36:∀ b u,h'.get? b=!u->(sortedHeap (h'.push<|seqObj "list" acc.toList.toArray 0) h'.objs.size acc.toList out).get? b=some u:=λb u h1=>by let h2:=HF h1;rw[sortedHeap_old (HR h2) (by rw[size_push'];show Jz h2)];show Ha _ h1
 let#[e,hat]:=sortedHeap_at Zj;let a0V:=rH a1;let hln:(TF.map V.int).length<=sizeLine:=by
  rw[GS,a2.length_eq]
  cbv
 let I1:=f02 keep;show#[.ref h'.objs.size,_,I1.laid a36 kJ<|show LP X.prog X.w _ _ _ Bu from #[hln,out.toList,e,a0V,?_],1,(q TF a2 a3).at a6O];simpa using hat
variable {κ:Type}[DecidableEq κ]
def f2B {knd:KeyKind prog w κ}(c8n)(hl:e36 l ps)(hS:(l==sysModules)=false)(hz:ps.length<=sizeLine)(h:∀ h',e1w xQ->Dl->Q UF { s with heap:=h' }):
  wpAny ē A (call UV Ky) Q E s:=by
 ext d2o;let kp:∀ b o,s.heap.get? b=!o->(s.heap.push { cls:=.type "dict",data:=.dict [].toArray }).get? b=!o:=λe0F=>Ha _ e;let lt:l<s.heap.objs.size:=by let#[uD]:=hl;show HF ho
 let hl':(s.heap.push { cls:=.type "dict",data:=.dict [].toArray }).DictOf knd l ps:=by let#[uD]:=hl;show#[lH,kp ĉ ho,r]
 ext d3x;show GU (KY hl'.typeIs ?_);ext d6R;ext d6R;show GU (wpAny_isInstance hl'.typeIs isSubtype_dict_dict ?_);show GU<|wpAny_specialOf hl'.typeIs F.slot_dict_iter.lookup (Hk ?_);show GU (Hk ?_);show wpAny_mergeDict (IV lt) hS Og hl' λh' Qn U1 hs'=>?_;show GU<|Hk (Hk ⟨rfl,h h' Qn λe0F=>?_⟩);show (hs'.2 b<|HR oj).trans (kp b o e)
open e
def b6V:Md X UV (λe1r=>∃ p ķ,xs=uZ/\Rd H p lJ/\Nx H Ť Q):=by
 ext d2r;let#[p,ķ,1,hy,q]:=h;ext d6w;let#[z,hS,ps,k1,hD]:=(hy.ok I.LJ)
 ext d6f;show f2B hD hS #[0] λh' hD' keep=>?_;let UI:(bg [] ķ).length<=sizeLine:=by let h1:=cw ķ [];rw[JS]at h1;omega
 show#[c4U];show#[UI,JC.mpr<|IV I.big,_,k1.merge .nil,hD']
variable {K:Ψ}{a b o i:Expr}{ra rb rc:Rx}{rs:Á}{rt ru:Å}{F H:Hp}{σ:St}
abbrev Rt:=En->Bool->Prop
def PW.imp (h:PW X e t)(c7f):PW X e t':=λwh e0I q=>h wh ñ s σ H Q I XL
inductive vH (rt ru:Rt)(ε:En):Bool->Prop
 |t {b:Bool}:rt ε true->ru ε b->vH rt ru ε b
 |f:rt ε false->vH rt ru ε false
inductive rOr (rt ru:Rt)(ε:En):Bool->Prop
 |t:rt ε true->rOr rt ru ε true
 |f {b:Bool}:rt ε false->ru ε b->rOr rt ru ε b
inductive rIe (rt:Rt)(d19):Prop
 |t:rt ε true->ra ε d->rIe rt ra rb ε d
 |f:rt ε false->rb ε d->rIe rt ra rb ε d
def xM (d1B)(hb:PW X qy (Ql ru)):PW X SB (Ql (vH rt ru)):=(D6 ha hb).imp λe1H=>by
 let#[zA]:=gR
 cases h with
 | t h1 h2=>show#[E6,true,S,h1,λe1M=>a7w]
 | f h1=>show#[E6,false,c6v]
def dOr (d1B)(hb:PW X b4z (Ql ru)):PW X b3t (Ql (rOr rt ru)):=(YW ha hb).imp λe1H=>by
 let#[zA]:=gR
 cases h with
 | t h1=>show#[E6,true,c6v]
 | f h1 h2=>show#[E6,false,S,h1,λe1M=>a7w]
def GB (d1B):PT X iR (Ql λε b=>rt ε (not b)):=(t7 ha).imp λe1H=>by let#[zA]:=gR;show#[E6,not c,S,h,λe1M=>by cbv]
def Yw (hc:e82 z6)(c63):PE X c0l (tP (rIe rt ra rb)):=(De hc ha hb).imp λe1H=>by
 ext d8w;ext d5Y
 ·show#[F,ε,true,S,h1,λe1M=>tP.go oG h2 λx e6Y=>f0W ļ<|by rwa [aw e1 e2]at q2]
 ·show#[F,ε,false,S,h1,λe1M=>tP.go oG h2 λx e6Y=>f0W ļ<|by rwa [aw e1 e2]at q2]
inductive D5 (ra rb:Rx)(ε:En):D->Prop
 |t {d:D}:ra ε Ŭ->rb ε d->D5 ra rb ε d
 |f:ra ε xA->D5 ra rb ε xA
def Es (d1C)(hb:PE X qy Zo):PE X SB (tP (D5 ra rb)):=(yH ha hb).imp λe1H=>by
 ext d8w
 cases h with
 | t h1 h2=>show tP.go S h1 λx e0d=>#[true,q1,e6v h2 λx e6Y=>f0W ļ<|by rwa [aw e1 e2]at q2]
 | f h1=>show tP.go S h1 λx e0d=>#[false,q1,e4V rfl]
inductive rCh (f g:D->D->D->Prop)(ra rb rc:Rx)(ε:En):D->Prop
 |t {x y z d:D}:ra ε x->rb ε y->f x y Ŭ->rc ε z->g y z d->rCh f g ra rb rc ε d
 |f {x y:D}:ra ε x->rb ε y->f x y xA->rCh f g ra rb rc ε xA
def dCh (h:e08 (CB r r' tJ Zo (tP rc)))(k:SU f r)(k':SU g r'):e08 (tP (rCh f g ra rb rc)):=h.imp λe1H=>by
 ext d8w
 cases h with
 | t hx hy h1 h2 h3=>show tP.go S hx λu e0d=>e6v hy λv e4N=>e6X q2 λw e78 q3=>#[true,q3,tP.go (S2.step e3) h2 λw' H4 e4 S4 q4=>k' ą v w' d Q S4.le h3 ((q2.mono<|aj S2.le).mono<|aj (S2.step e3).le) q4 λx5 H5 e5 q5=>q x5 H5 (e1.trans<|e2.trans (e3.trans<|e4.trans e5)) (by rw[aw e1 e2,aw ļ e3,aw ū e4,aw (e1.trans<|e2.trans (e3.trans e4)) e5]at q5;show q5)]
 | f hx hy h1=>show tP.go S hx λu e0d=>e6v hy λv e4N=>e6X q2 λw e78 q3=>#[false,q3,q _ H3 ū rfl]
theorem a7x:En->Option Int->Prop:=λ_ p=>p=none
inductive rPt (r:Rx)(ε:En):Option Int->Prop
 |mk {i:Int}:r ε yq->rPt r ε !i
inductive tPO (r:En->Option Int->Prop)(c7w)(Q:Option Int->Ù):∀ F ε p,Sd F σ H ε->r ε p->(∀ H',f' H H'->Q p H')
def PO.imp (h:PO X e t)(c7f):PO X e t':=λe0I q=>e8T XL
def Yu:PO X none (tPO a7x):=b3A.imp λe1H=>by let#[E6,p,S,h,q]:=gR;cases h;show q H ě
def Yt (h:e08 tJ):PO X (!e) (tPO (rPt ra)):=(t8 h).imp λe1H=>by let#[E6,p,S,h,q]:=gR;obtain @⟨i,h1⟩:=h;show tP.go S h1 λe0u=>#[i,q1,q H1 e1]
theorem uB (l:χ)(d0O):χ:=(l.drop (HT.Ta l.length 0 lo)).take (d8M l.length)
def LC.drop:∀ {l:χ}{vs:π} (n:Nat),e1u vs->LC F (l.drop n) (vs.drop n)
 | _,_,0,h=>h
 | [],_,_+1,h=>by rw[show _=[] from h];rfl
 | _::_,_,n+1,⟨_,_,q1,_,q3⟩=>by rw[q1];show LC.drop n q3
def LC.take:∀ {l:χ}{vs:π} (n:Nat),e1u vs->LC F (l.take n) (vs.take n)
 | _,_,0,_=>rfl
 | [],_,_+1,h=>by rw[show _=[] from h];rfl
 | _::_,_,n+1,⟨_,_,q1,q2,q3⟩=>by rw[q1];show#[tF,q2,LC.take n q3]
inductive rSl (ra:Rx)(rl rh:En->Option Int->Prop)(c7T):∀{x:D}{l:χ}{p q:Ô},ra ε x->Sq x l->rl ε p->rh ε q->d=.lst (uB l p q)
def Yv {lo:Option Expr}(d1C)(hl:PO X lo (tPO rl))(hh:PO X hi (tPO rh)):PE X (.Subscript a b7u pos) (tP (rSl ra rl rh)):=
 (vM (a3e X.K) ha hl hh).imp fun σ H Q ⟨F,ε,d,S,.mk (p:=p) (q:=r) h1 h2 h3 h4 h5,q⟩=>e6y h1 λu e0d=>#[_,_,p,S1,h3,λe1D=>#[_,_,r,S1.step e2,h4,λe78=>by let#[ad,vs,1,p1,p2]:=h2.at q1;let S3:=(S1.step e2).step e3;show#[ad,vs,1,.inl ((p1.mono<|aj S1.le).mono (aj (S1.step e2).le) |>.mono S3.le),jK S3.le (λy H4 e4 q4=>q y H4 (e1.trans<|e2.trans (e3.trans e4)) (by rw[aw e1 e2,aw ļ e3,aw ū e4]at q4;show q4)) λy G e z=>?_];rw[h5];show#[y,_,1,z,?_];ext1 uB qi;rw[p2.length];show ((((p2.mono<|aj S1.le).mono<|aj (S1.step e2).le).mono e).drop _).take _]]
def LC.look:∀ {n:η}{l:χ}{fs:Ï},fs.map (·.1)=n->e1u (fs.map (·.2))->(n.zip l).lookup f=!d->∃ v,fs.lookup f=!v/\DR F d v:=by
 intro n l
 induction l generalizing n with
 | nil=>intro fs h1 h2 h3;cbv
 | cons e l ih=>
  intro fs h1 h2 h3
  cases n with
  | nil=>cases h3
  | cons m n=>
   cases fs with
   | nil=>cases h1
   | cons p fs=>
    let#[v,uy]:=h2;rw[HE]at h1 q1;injection h1 with h1 h1';injection q1 with q1 V8;rw[L4,Kb]at h3;rw[show p::fs=(p.1,p.2)::fs from rfl,Kb,h1]
    cases z:f==m with
    | true=>grind
    | false=>rw[z]at h3;show ih h1' (V8▸q3) h3
inductive rFl (Pc:Addr->Prop)(f:Str)(r:Rx)(c7T):∀{C:Addr}{n:η}{l:χ},r ε uU->Pc C->(n.zip l).lookup f=!d
def V0 (hP:∀ C,Pc C->PM X.K C/\Mb X.K C f)(d1C)(hb:attributeBase a f X.env (d8O a)=eval a X.env:=ă):PE X (.Attribute a f pos) (tP (rFl Pc f ra)):=
 (Dg ha hb).imp fun σ H Q ⟨F,ε,d,S,.mk (C:=C) h1 h2 h3,q⟩=>e6y h1 λx e1M S1 gR=>by let#[ad,EG,y6]:=gR;let#[v,v1,v2]:=LC.look p2 p3 h3;show#[ad,C,dx,fs,v,ex,e1v p1,(hP C h2).1,(hP C h2).2,v1,q v H1 e1 v2]
def a1Y {fs:Ï}(h:fs.map (·.1)=n)(hm:m∉n):fs.lookup m=none:=by rw[List.lookup_eq_none_iff];intro p hp;rw[bne_iff_ne];rintro rfl;show hm (h▸GX.mpr #[p,hp,1])
example{k:Nat}{C:Addr}{m:Str}{R:Ä}:=0
inductive rMe (c7r)(m:Str)(R:Ä)(r:Rx)(d1N):∀{n:η}{l ds:χ},r ε uU->m∉n->rs ε ds->R (.ins C n l::ds) d
inductive a0a (c9R)(R:Addr->Ä)(r:Rx)(c7T):∀{C:Addr}{n:η}{l:χ},r ε uU->Cs C->m∉n->R C [.ins C n l] d
def tP.me (h:tP c1w σ H Q):vg C m sv [] E0 tJ Ad σ H Q:=by obtain⟨F,ε,d,S,@⟨n,l,ds,h1,h2,h3,h4⟩,q⟩:=h;show tP.go S h1 λx e0d=>?_;let#[ad,EG,y6]:=id q1;show#[ad,EG,e1v p1,a1Y p2 h2,NI.go S1 h3 λxs e4N=>#[_,.ins C n l::ds,d,S2.le,#[x,_,1,q1.mono<|aj S1.le,by cbv],h4,λy e78 q3=>q y H3 ū ?_]];ext d7B
def Rp (d1D)(Dd)(hr)(c7G)(TY)(Of)(ht:eval zT X.env=(do
   let ov <- eval o X.env
   standAt apos.atName
   let (f,first) <- holding [ov] ş
   callWith pos f first (e0m ő) Ĩ):=ă):PE X zT (tP c1w):=(bE he Dd hr ha TY Of ht).imp λe0N=>tP.me h
def GC {R:Addr->Ä}(d1D)(Dd:∀ C,Cs C->e3g (Pr (R C)))(hr)(ht:e8j X.env=(do
   let ov <- eval o X.env
   standAt apos.atName
   let (f,first) <- holding [ov] ş
   callWith pos f first (e0m Š) Ĩ):=ă):PE X Ğ (tP (a0a Cs m R ra)):=
 (qJ he Dd hr ht).imp fun σ H Q ⟨F,ε,d,S,.mk (C:=C) (n:=n) (l:=l) h1 h2 h3 h4,q⟩=>e6y h1 λx e0d=>by let#[ad,EG,y6]:=id q1;show#[ad,C,dx,fs,ex,h2,e1v p1,a1Y p2 h3,_,[.ins C n l],d,S1.le,#[x,_,1,q1,1],h4,λy e78 q3=>q y H3 (e1.trans e3)<|by rwa [aw e1 e3]at q3]
theorem kD:Ws->D
 | .inl i=>.int i
 | .inr x=>.str x
abbrev _root_.ι:=List (Ws×D)
abbrev MU (ð:ι):D:=.dct (ð.map (·.1)) (ð.map (·.2))
def oM (h:DR F (kD y) v):v=kV y:=by cases y <;> show h
theorem cQ (d2b):Option D:=(ð.find? λkv=>decide A8).map (·.2)
def LC.val:∀ {ð:ι}{ķ:ξ},ķ.map (·.1)=ð.map (·.1)->e37 ľ->(cQ ð y=none->cU ķ y=none)/\∀ d,cQ ð y=!d->∃ v,cU ķ y=!v/\DR F d v:=by
 intro ð
 induction ð with
 | nil=>
  intro ķ h _
  cases ķ with
  | nil=>show#[λ_=>rfl,λ_ h=>nomatch h]
  | cons _ _=>cases h
 | cons p ð ih=>
  intro ķ h y'
  cases ķ with
  | nil=>cases h
  | cons q ķ=>
   let#[v,uy]:=y';ext d2x;let ih:=ih h2<|V8▸q3;unfold cQ cU at ih ⊢;rw[Jg,Jg,h1];ext d8x
   ·grind
   ·rw[Hg z];show ih
inductive Sub:D->D->D->Prop
 |l {x d:D}{l:χ}{i:Int}:Sq x l->R8 l i=!d->Sub x yq d
 |t {d:D}{l:χ}{i:Int}:R8 l i=!d->Sub kZ yq d
 |k {ð:ι}{y:Ws}{x d:D}:cQ ð y=!d->x=kD y->Sub u0 x d
def b2D (hu):VO X (λe4r=>∃ a v,x=.ref a/\PY H a y !v/\Q v H):=by
 ext d21;let#[a,z,1,g,q]:=h
 cases rx;let hT:=b0f I g;ext d6R;show GU (e87 PySem.F.slot_dict_getitem.lookup ?_);let fin:d93 (e6s gq u) (d9m Ē X.A gq ĸ X.xe) X.xe s:=by rw[hs];show wpAny_operating (sf hu I g ry λf2m=>GU<|wpAny_letTemporaryGo (Hk #[z,H,I3,Tx,q]))
 first
  | show Hk (GU fin)
  | show GU _
  | show GU fin
def a3G:SU Sub (λe4r=>(D0 K x y H Q\/CZ K x y H Q)\/∃ a v,x=.ref a/\PY H a y !v/\Q v H):=λe0s=>by
 cases z with
 | l h1 h2=>show .inl (.inl<|a73 s h1 h2 hu hv q)
 | t h=>show .inl (.inr<|a72 s h hu hv q)
 | k h e=>
  subst e;let#[ad,ķ,1,y6]:=hu;let#[w,w1,w2]:=(LC.val p2 p3).2 d h;show .inr #[ad,w,1,#[ķ,_,p1.mono s,oM hv,w1.symm],e00 w2]
def dS (hu)(c63)(d0V):e6n b9C:=dX (VO.or (VO.or c4e b0J)<|b2D hu) a3G ha hb hs
inductive VQ (d0Z):Prop
 |s:fIn n x y d->VQ n x y d
 |k {ð:ι}{z:Ws}:y=MU ð->x=kD z->d=.bl (if n=true then not (cQ ð z).isSome else (cQ ð z).isSome)->VQ n x y d
inductive Fw (n:Bool)(y:V)(x:V)(H:Hp)(Q:VK):∀ a o,x=.ref a->PY H a y o->(Q (.bl (if n=true then not o.isSome else o.isSome)) H)
def b62 (hu):NH X B8 (Fw false):=by ext d3I;show a93 hu I g ry λs3 I3=>#[.bl ov.isSome,H,I3,1,q]
def a8h (hu):NH X c0s (Fw true):=by ext d3I;show a20 hu I g ry λs3 I3=>#[.bl _,H,I3,1,q]
instance Dz:SU (VQ n) (λx y H Q=>rIn K n x y H Q\/Fw n x y H Q):=λF H x y u v d Q s z hu hv q=>by
 cases z with
 | s h=>show .inl (a75 F H x y u v d Q s h hu hv q)
 | k e1 e2 hd=>
  subst e1 e2;rename_i ð k;let#[ad,ķ,1,p1,p2,p3]:=hv;let#[n1,n2]:=LC.val p2 p3;let hs:(cU ķ k).isSome=(cQ ð k).isSome:=by
   cases z:cQ ð k with
   | none=>rw[n1 z];rfl
   | some d=>let⟨w,w1,_⟩:=n2 d z;rw[w1];rfl
  show .inr #[ad,_,1,#[ķ,k,p1.mono s,oM hu,1],tP.at s q (by rw[hd,hs];rfl)]
def dIn (c9H):PE X b5p (tP (rO W1 ra rb)):=dM c1x Dz ha hb hm
def b2q (c9H):PT X b5p (d9H W1):=dT c1x Dz ha hb hm
def VU (hu)(c63)(hm:behindInMarks .NotIn b=false:=Ą):PT X (.Compare a [.NotIn] [b] pos) (d9H jC):=dT (NH.or a1x<|a8h hu) Dz ha hb hm
inductive GR:D->D->D->Prop
 |i {i j:Int}:GR yq EH (.int (i+j))
 |l {l m:χ}:l.length+m.length<=10000->GR EE lI (d9d (l++m))
def Tj (c63):PE X (.BinOp a .Add b pos) (tP (rO GR ra rb)):=dO (NH.or nQ b25) (λe0s=>by
 cases z with
 | i=>show .inl #[_,_,hu,hv,e00 rfl]
 | l h=>show .inr<|a3J F H _ _ u v _ Q s (.mk h) hu hv q) ha hb
open e
variable {X:Cx}{σ:St}{H:Hp}{d:Addr}{ķ:ξ}
theorem Fz (X)(H H2:Hp)(d)(o)(ķ:ξ):Prop:=H2 d=!.frz o lJ/\((H d=!.dK ķ/\H2=upd H d (.frz o lJ)/\NF X d)\/H2=H)
def Inv.fz2 (I)(hd:Rd H d lJ)(ho:s.heap.get? d=!ob):∃ H2,d9Z H2 s/\Fz X H H2 d ob ķ:=by
 rcases hd with hd|⟨o,hd⟩
 ·show#[_,I.freeze hd ho,af,.inl #[hd,1,I.nf hd]]
 ·let#[h1,_]:=e88 hd;rw[ho]at h1;cases h1;show#[H,I,hd,.inr rfl]
theorem iD2 (X)(J)(tl:TE):TI:=λe4J=>∃ Q:VK,tl σ H Q/\∀ x H1,Q x H1->∃ d ķ,x=.ref d/\Rd H1 d lJ/\∀ o H2,e9K d o ķ->R (J o d) H2
theorem BO (X)(tl:TE):TI:=λe4J=>∃ Q:VK,tl σ H Q/\∀ x H1,Q x H1->∃ a,x=.ref a/\((∃ xs,LO X.K H1 a xs/\R (Zx X.K a) H1)\/(∃ xs,Nu X.K H1 a xs/\R (Itt X.K a) H1)\/∃ ķ,Rd H1 a lJ/\∀ o H2,e9K a o ķ->R (Itk o a) H2)
def av (c9B):e1m l (BO X tl):=by
 ext d2T;let#[Q,hq,h]:=h;show LW b8m λv e4I=>?_;ext d3o;let#[a,ex,q]:=h x H1 q1;subst ex
 cases r1;let fr:∀ {H2:Hp} (I2:d9Z H2 s1) (b:Addr),b∈vC->e2A H2 b:=λI2 e2h=>by
  ext d3e
  ext d8q
 rcases q with⟨xs,hq,q⟩|⟨xs,hq,q⟩|⟨ķ,hd,q⟩
 ·let#[mY]:=I1.list hq;show Kq p.isList #[sA,b2j a _,oN,fr I1,q]
 ·let#[mY]:=I1.tuple hq;show wpAny_pyIter_tuple p #[sA,b4X a _,oN,fr I1,q]
 ·let#[c4O]:=(hd.ok I1.LJ)
  let hsz:vs.length=es.size:=by rw[<- c4.length];simp
  show wpAny_pyIter_dict lo b5q ?_;rw[hsz];ext d8b;show#[s1.heap.objs.size,vC,c5p,b8W _ a ob c2,oN,fr I2,q ob H2 fz]
def b5R (c9B)(Pg:attributeBase l "values" X.env (d8O l)=eval l X.env:=ă)(QB):e1m (.Call (.Attribute l "values" apos) [] [] MA) (iD2 X Itv tl):=by
 ext d2T;let#[Q,hq,h]:=h;show wpAny_Call_method0_late Pg QB (LW b8m λv e4I=>?_);ext d3o;let#[d,ķ,e,hd,q]:=h x H1 q1;subst e
 cases r1;let#[c4O]:=(hd.ok I1.LJ)
 let hsz:vs.length=es.size:=by rw[<- c4.length];simp
 let da:s1.heap.DictAt _ d vs ep:=b5q
 show#["dict","dict.values",F.plainAttrs_dict,F.slot_dict_values,F.type_dict_values,da.dictOf.typeIs,λa e2=>?_,Kx rfl (PySem.evalArgs_none ?_)]
 ·cases e2;show#[ob,ho,c1.2.1]
 show call_meetsIn F.slot_dict_values da.dictOf.typeIs F.entry_dict_values (F.args_dict_values_1 _) (meets_dict_values _ d lo) #[#[vs,da.dictOf],?_];ext d8b;let I2:=I2.kept (t':=s1.toks) (h':=s1.heap.push { cls:=.type "dict_values",data:=.fields [.ref d].toArray }) λe0F=>Ha _ e;show wpAny_pyIter_values oN (da.push _) ?_;rw[hsz];show#[_,[(s1.heap.push { cls:=.type "dict_values",data:=.fields [.ref d].toArray }).objs.size],c5p,b1V _ d ob c2,oN,λe2h=>?_,q ob H2 fz];let e:b=(s1.heap.push { cls:=.type "dict_values",data:=.fields [.ref d].toArray }).objs.size:=by simpa using hb
 ext d8q
open e
theorem Na (c9s)(o:HO)(F:Hp):Hp:=λb=>if b=a/\F a≠none then some o else F b
variable {F:Hp}{a:Addr}{o o':HO}{ķ:ξ}
def bB (h:b≠a):e5Z F b=F b:=if_neg λz=>h z.1
def cD (h:F a≠none):e5Z F a=!o:=if_pos #[1,h]
def sI (h:F a=none):e5Z F=F:=by funext b;show if_neg λz=>z.2 h
def cI (s):f' (e5Z F) (e5Z H):=λe66=>by
 ext d37
 ·subst z;by_cases n:F b=none
  ·simp_all [sI]
  ·rw[cD n]at q;rw[cD (λm=>by cases y:F b with
    | none=>show n y
    | some w=>rw[s ĉ y]at m;cases m)]
   show q
 ·rw[bB z]at q ⊢;show s ĉ q
def Qr:e5Z F b=none ↔ F b=none:=by
 ext d37
 ·subst z;by_cases n:F b=none
  ·rw[sI n]
  ·grind [cD]
 ·rw[bB z]
def mI (h:F a=!o):e5Z Do=F:=by
 ext d8y
 ·subst z;rw[cD<|by grind [cD],h]
 ·rw[bB z,bB z]
theorem Wt (o:HO)(ķ:ξ):Prop:=o=.dK ķ\/∃ r,o=.frz r lJ
def a88 (c8w)(hr:Rd F b u)(hu:∀ r w,u≠.frz r w):Rd Do b u:=by
 ext d37
 ·subst z;let:u=.dK ķ:=by
   rcases hr with hr|⟨r,hr⟩
   ·rw[h]at hr;cases hr;rcases k with k|⟨r,k⟩
    ·show k
    ·show absurd k (hu ĉ)
   ·rw[h]at hr;cases hr;rcases k with k|⟨r,k⟩
    ·cases k
    ·cases k;rfl
  ext d4A;let e:Na b o' F b=!o':=cD (by rw[h];show nofun);rcases k' with rfl|⟨r,rfl⟩
  ·show .inl e
  ·show .inr #[r,e]
 ·ext1 Rd;rw[bB z];show hr
mutual
def DR.Na (c8w):∀ (d:D)(v:V),e3v v->DR Do d v
 | .non,_,h=>h
 | .bl _,_,h=>h
 | .int _,_,h=>h
 | .str _,_,h=>h
 | .lst l,_,q=>let ⟨b,vs,q1,q2,q3⟩:=q;#[b,vs,q1,by rw[bB (λz=>by subst z;rw[h]at q2;cases q2;rcases k with k|⟨_,k⟩ <;> cases k)];show q2,e1o vs q3]
 | .scr l,_,q=>let ⟨b,vs,q1,q2,q3⟩:=q;#[c4V,e1o vs q3]
 | .tup l,_,q=>let ⟨b,vs,q1,q2,q3⟩:=q;#[b,vs,q1,by rw[bB (λz=>by subst z;rw[h]at q2;cases q2;rcases k with k|⟨_,k⟩ <;> cases k)];show q2,e1o vs q3]
 | .dct _ l,_,q=>let ⟨b,vs,q1,q2,q3,q4⟩:=q;#[c4V,q3,e1o _ q4]
 | .ins _ _ l,_,q=>let ⟨b,dx,vs,q1,q2,q3,q4⟩:=q;#[b,dx,vs,q1,by rw[bB (λz=>by subst z;rw[h]at q2;cases q2;rcases k with k|⟨_,k⟩ <;> cases k)];show q2,q3,e1o _ q4]
def LC.Na (c8w):∀ (l:List D)(vs:List V),e1u vs->LC Do l vs
 | [],_,h=>h
 | d::l,_,q=>let ⟨v,ws,q1,q2,q3⟩:=q;#[v,ws,q1,DR.Na h k k' d v q2,e1o ws q3]
end
def jx (h:H a=!o):f0A o'=e8y H:=by
 ext d8y
 ·subst z;rw[af,cD (by rw[h];show nofun)]
 ·rw[a9 z,bB z]
def Sd.Na (c7x)(c8w):Sd Bn σ xw ε:=#[cI S.le,S.len,λe68=>let ⟨v,x,y⟩:=S.rd i d q;#[v,x,y.Na h k k']]
theorem pK (kv:Ws×D):D:=kD kv.1
def b67 (d1c)(h1:ķ.map (·.1)=ð.map (·.1)):VP F (Itk ob a) C3:=
 #[λe69=>by
  rw[Hh]at e
  cases z:ð[i]? with
  | none=>ext d4J
  | some kd=>
   ext d4J;let:(ķ.map (·.1))[i]?=!kd.1:=by cbv
   rw[Hh]at this
   cases y:ķ[i]? with
   | none=>cbv
   | some kv=>
    rw[y]at this;let e1:kv.1=kd.1:=Option.some.inj this;show#[c0I,fun x H' ⟨e2,e3⟩=>#[e2▸f'.refl _,?_]];ext d4y;rw[e1];ext1 pK;cases kd.1 <;> rfl,λf2n=>#[ķ,s ĉ h,by let:=d94 h1;simp at this z;omega]]
def a38 (d1c)(h2:e37 ľ):VP F (Itv ob a) š:=
 #[λe69=>by
  let#[v,mC]:=h2.at e;rw[Hh]at e1
  cases y:ķ[i]? with
  | none=>cbv
  | some kv=>
   rw[y]at e1;cases e1;show#[c0I,fun x H' ⟨Qo,e3⟩=>#[Qo▸f'.refl _,?_]];ext d4y;subst Qo;show e2.mono<|aj s,λf2n=>#[ķ,s ĉ h,by let:=h2.length;simp at this z;omega]]
open e
theorem GP (J)(pr:Ws×D->D):Prop:=∀ {F:Hp}{a:Addr}{ob:Obj}{ķ:ξ}{ð:ι},F a=!.frz ob lJ->ķ.map (·.1)=ð.map (·.1)->e37 ľ->VP F (J ob a) xB
def b8d:GP Itk pK:=λh h1 _=>b67 h h1
def c3K:GP Itv (·.2):=λh _ h2=>a38 h h2
inductive vN:D->List D->Prop
 |l {x:D}{l:χ}:Sq x l->vN x l
 |t {l:χ}:vN kZ l
 |k {ð:ι}:vN u0 C3
inductive Y0 (r:Rx)(ε:En)(l:χ):∀{d:D},r ε d->vN d l
inductive rVs (r:Rx)(ε:En)(l:χ):∀{ð:ι},r ε u0->l=ð.map (·.2)
variable {X:Cx}{K:Ψ}
def Ze (h:F a=!.tup vs)(q:e1u vs):VP F (Itt K a) l:=
 #[λe69=>let ⟨v,e1,e2⟩:=q.at e;#[#[vs,v,Nu.of<|s _ _ h,e1],λx H' ⟨z,y⟩=>#[z▸f'.refl _,by let:=y vs<|Nu.of (s _ _ h);rw[e1]at this;cases this;show e2.mono<|aj s]],λf2n=>#[vs,Nu.of<|s _ _ h,by rw[q.length];show z]]
theorem XX (X)(Q):VK:=λv H'=>(∃ a o ķ,NF X a/\H' a=!.frz o lJ/\Q v (upd H' a lJ))\/Q v H'
def c0D {ð:ι}{os:List y8}(hJ:GP J pr)(S1:Sd F1 σ H1 ε)(d06)(h2:(ð.map pr).length<=1000)(h3:Paired b0B xB os)(q:∀ b H4,f' H1 H4->DR (e9I H4) (d9d BU) Z9->Q Z9 H4):e5V b4p (J o a) H2:=by
 ext d4Z
 ·ext d4R;rcases f2 with⟨_,f2,nf⟩|f2
  ·ext d2X;rw[jx Yj]at f2;subst f2;show qG S2 (hJ eF p2<|p3.Na p1 (.inl rfl) (.inr ⟨o,rfl⟩)) h2 h3 λe2i=>.inl #[a,o,ķ,nf,f03 f1,?_];rw[jx<|f03 f1];let e4:f' H1 (Na a lJ H3):=by let:=e1x e3;rwa [mI Yj]at this
   show q ĉ e4 (((e9e hd).Na (aj S2.le ĉ eF) jJ<|.inl rfl).mono λc w y=>?_);by_cases z:c=a
   ·subst z;rw[cD (by rw[aj S2.le ĉ eF];show nofun)]at y;show aj S1.le ĉ (p1.trans y)
   ·rw[bB z]at y;unfold grow at y ⊢;rw[bB z,bB z]at y;rw[bB z];show y
  ·cbv
 ·ext d4R;rcases f2 with⟨f2,_⟩|f2
  ·cbv
  ·ext d7l;show qG S1 (hJ p1 p2 p3) h2 h3 λe2i=>.inr (q _ H3 e3<|e9e hd)
def PE.XX {e:Expr}{t t':TE}(h:e08 t)(k:∀ σ H Q,t' σ H Q->e4Q (XX X Q)):e08 t':=λe0I q=>LW (e0t _ I<|k _ _ _ q) λu s' gR=>by
 let#[v,H',I',r',z]:=gR;rcases z with⟨a,o,ķ,nf,e,q⟩|q
 ·show#[v,_,I'.ZH e nf,r',q]
 ·show#[v,H',I',r',q]
def dLv (c70)(hi:e6W b9F)(c61):e4A (tP (rL n js (rVs rd) rt re)):=
 (e1Z hs).XX fun σ H Q ⟨F,ε,d,S,.mk (.mk (ð:=ð) h1 hl) h2 h3 h4,q⟩=>by subst hl h4;show#[λe3X=>f' H H1/\DR ĉ x,e6y h1 λe0u=>mi,λe3X gR=>(by let#[e1,Fe]:=gR;show#[a,ķ,ex,p1.mono (S.step e1).le,λf2p=>c0D c3K oG p1 p2 p3 fz h2 h3 λb H4 e4 y=>q _ H4 (e1.trans e4)<|by rwa [aw e1 e4]at y])]
def c0J (h:tP Ec σ H Q):e7w vJ σ H (XX X Q):=by
 obtain⟨F,ε,d,S,@⟨l,os,@⟨c,h1,hl⟩,h2,h3,h4⟩,q⟩:=h;subst h4;show#[λe3X=>f' H H1/\DR _ c x,e6y h1 λe0u=>mi,λe3X gR=>?_];let#[e1,hx]:=gR;let S1:=S.step e1;let fin:∀ b H4,f' H1 H4->DR (grow _ H1 H4) ĉ->Q Z9 H4:=λb H4 e4 y=>q _ H4 (e1.trans e4) (by rwa [aw e1 e4]at y)
 cases hl with
 | l hl=>
  let#[wC]:=hl.at hx;show#[a,ex,.inl #[vs,.inl<|ha.mono S1.le,qG S1 (rE ha hv) h2 h3 λe2i=>.inr<|fin b H3 e3 (e9e hd)]]
 | t=>
  let#[wC]:=hx;show#[a,ex,.inr<|.inl #[vs,Nu.of<|e1v ha,qG S1 (Ze ha hv) h2 h3 λe2i=>.inr<|fin b H3 e3 (e9e hd)]]
 | k=>
  let#[Fe]:=hx;show#[a,ex,.inr<|.inr ⟨ķ,p1.mono S1.le,λf2p=>c0D b8d S1 p1 p2 p3 fz h2 h3 fin⟩]
def R7 (c70)(hi:e6W xJ)(c61):e4A (tP Ec):=(e1Z hs).XX λe0N=>c0J h
open e
def b3x:typeLookup ff "keys"=pure none:=by ext d3m;kernel_rfl
def b5X:typeLookup ff "__getattr__"=pure none:=by ext d3m;kernel_rfl
def b1M:entryFor table "zip.__getattribute__"=some Builtin.«object.__getattribute__»:=
 entryFor_alias (id':="object.__getattribute__") nO ku ku nO
def oy (c9s)(vs:Ó)(name:Str)(u:Tok)(b1E:typeLookup ff name=pure none)(a4D:(["__module__","__name__","__qualname__","__doc__","__annotations__"]:η).contains name=false)(hsz:name.length+100<=sizeLine:=by size_fits):
  Meets (Builtin.«object.__getattribute__» #[[.ref a,f0P u],[]]) (λA R s=>s.heap.get? a=!{ cls:=.type "zip",dict:=none,data:=.fields vs,slots:=[].toArray }/\raisesAttr gq name A R s):=
 Meets.of_wp λprog w A R s hs=>by
  let#[EW]:=s;let#[hx,hs]:=hs;ext d2K
  simp only[a4D,Ix,Ju];ext d2K
  show wpAny_raiseAttrError hs.1 hs.2 (attrMsg_fits ku hsz)
def yg (hx:s.heap.get? a=!{ cls:=.type "zip",dict:=none,data:=.fields vs,slots:=[].toArray })(c7I):e0q b8j Q E s:=by
 let#[EW]:=s;let hT:∀ WA,(#[hp,g,d,WA,os]:Ê).TypeIs gq "zip":=λ_=>#[_,hx,1]
 ext d8a;let f3:=F.slot_zip_getattribute.lookup;let f4:=F.slot_zip_getattribute.bind gq;let f5:=b5X;repeat (any_goals (first|assumption|show hT _|((with_reducible show (wpAny _ _ (call (Value.builtin "zip.__getattribute__") _ _) _ _ _));show KC F.slot_zip_getattribute (hT _) b1M (F.args_zip_getattribute_2 ĉ) (oy a vs "keys" _ b3x (by decide) (by size_fits)) ⟨hx,hA,λh' WA e Te=>?_⟩)|wp_step))
 ext d3E
 show h Ĉ Te.of
def uY (ho:s.heap.get? a=!o)(h:Q (!o) s):e0q (loadIfAlive a) Q E s:=λΓ p _=>by
 ext1 loadIfAlive
 cbv
abbrev b0X (c8Q)(z TI TO:Addr)(T:Nat)(b:Bool):Prop:=h.get? z=!{ cls:=.type "zip",dict:=none,data:=.fields [rawInt T,.bool b,.bool false,.ref TI,.ref TO].toArray,slots:=[].toArray }
def uX (c9d)(hz)(hT)(h:∀ h',f04 true->Heap.SameBut z s.heap h'->Q false { s with heap:=h' }):
  wpAny ē A (Builtin.SmallTypes.ownedTupleIsFree Br) Q E s:=by
 show GU c0L;show GU (uY hT ?_);show GU c0L
 cases b with
 | true=>show Hk (h _ hz #[1,λ_ _=>rfl])
 | false=>show GU (wpAny_setField_rec hz Ė λh₁ hz₁ hs₁=>Hk<|h h₁ hz₁ hs₁)
def a2m (c9d)(D)(hz)(hT)(Vi)(h1)(h2:e6z k2)(Rk)(U2)(hx:xs[k1]?=!x)(hy:ys[k2]?=!y)(hQ:∀ h',f04 true->h'.IsListIter i1 l1 (k1+1)->h'.IsListIter i2 l2 (k2+1)->e4B y->h'.objs.size=s.heap.objs.size+1->
   (∀ c o,c≠z->c≠i1->c≠i2->s.heap.get? c=!o->h'.get? c=!o)->Q b6f { s with heap:=h' }):
  wpAny ē A Ag Q E s:=by
 ext d5V
 ext d2q;ext d6X;show GU (wpAny_nextOf_list_item (e60 D.i1z) (e61 D.l1z) hx λh₂ h1₂ hs₂=>Hk ?_);ext d7u;ext d6X;show GU (wpAny_nextOf_list_item ((h2.extBut hs₁.extBut D.i2z).extBut hs₂.extBut D.i12.symm) ((U2.extBut hs₁.extBut D.l2z).extBut hs₂.extBut D.l2i1) hy λh₃ h2₃ hs₃=>Hk ?_);show Hk dU;show GU (wpAny_newTuple ?_ (by change 2<=sizeLine;decide));let e3:h₃.objs.size=s.heap.objs.size:=by rw[hs₃.1,hs₂.1,hs₁.1]
 show Hk mE;ext d7u;let kp:∀ c o,c≠z->c≠i1->c≠i2->s.heap.get? c=!o->(h₃.push { cls:=.type "tuple",data:=.seq [x,y].toArray }).get? c=!o:=λc o c1 c2 c3 e=>Ha _<|f0e c3 (f0f c2<|e8z e);let up:∀ c o,h₃.get? c=some o->(h₃.push { cls:=.type "tuple",data:=.seq [x,y].toArray }).get? c=some o:=λc o e=>Ha _ e;let hn:(h₃.push { cls:=.type "tuple",data:=.seq [x,y].toArray }).get? h₃.objs.size=!{ cls:=.type "tuple",data:=.seq [x,y].toArray }:=HG _ rfl;rw[e3]at hn ⊢;show hQ _ (up ĉ<|f0e D.i2z.symm (f0f D.i1z.symm hz₁)) ((h1₂.extBut hs₃.extBut D.i12).at λo e=>up _ o e) (h2₃.at λo e=>up _ o e) hn (by rw[K7,e3]) kp
def b3h (c9d)(hh)(D)(hz)(hT)(Vi)(h1)(Rk)(hx:xs[k1]?=none)(hQ:∀ h',(∀ c o,c≠z->c≠i1->s.heap.get? c=!o->h'.get? c=!o)->Q none { s with heap:=h' }):
  wpAny ē A Ag Q E s:=by
 ext d5V
 ext d2q;ext d6X;show GU (wpAny_nextOf_list_end hh (e60 D.i1z) (e61 D.l1z) hx λh₂ e hs₂ he=>?_);let#[o,ho,hc]:=he;show GU (wpAny_isInstance #[o,ho,hc] isSubtype_stop ?_);show Hk (hQ _ λc o c1 c2 e=>hs₂ ĉ c2<|e8z e)
structure ZS (c8Q)(z TI TO i1 i2 l1 l2 d:Addr)(k:Nat):Prop where
 zok:(IsZip h z TI TO .none/\∃ a b,IsPair h TO a b) \/ ∃ T b o,b0X h z TI TO T b/\h.get? T=!o/\T≠z/\T≠TO/\T≠i1/\T≠i2/\T≠d
 Vi:IsPair h TI (d9c i1) (d9c i2)
 h1:h.IsListIter i1 l1 k
 h2:h.IsListIter i2 l2 k
def yf (c9d)(D)(Z)(hd:d<s.heap.objs.size)(Rk)(U2)(hx:xs[k]?=!x)(hy:ys[k]?=!y)(hQ:∀ h',ZS h' z TI TO i1 i2 l1 l2 d (k+1)->e4B y->a4G->Q b6f { s with heap:=h' }):
  wpAny ē A Ag Q E s:=by
 let#[hz,Vi,mh]:=Z;let zl:∀ {c:Addr}{o:Obj},s.heap.get? c=!o->s.heap.objs.size≠c:=λe=>IV<|HF e;let#[o1,e1,_]:=id h1;let#[o2,e2,_]:=id h2;rcases hz with⟨hz,a,b,hTO⟩|⟨T,b,o,hz,hT,t1,t2,t3,t4,t5⟩
 ·show wpAny_pyNext_zip_item D hz Vi hTO h1 h2 Rk U2 hx hy λe4f a5 a6 a7=>hQ h' #[.inr #[_,false,_,a1,a5,zl hz,zl hTO,zl e1,zl e2,IV hd],f05 D.TIz D.TITO D.TIi1 D.TIi2 Vi,a3,a4] a5 a7
 ·show a2m D hz hT Vi h1 h2 Rk U2 hx hy λh' a1 a3 a4 a5 a6 a7=>hQ h' #[.inr #[T,true,o,a1,f05 t1 t3 t4 hT,Ea],f05 D.TIz D.TIi1 D.TIi2 Vi,a3,a4] a5 λc o c1 _ c3 c4 e=>a7 c o c1 c3 c4 e
def AK (c9d)(hh)(D)(Z)(Rk)(U2)(hx:xs[k]?=none)(hQ:∀ h',a4G->Q none { s with heap:=h' }):
  wpAny ē A Ag Q E s:=by
 let#[hz,Vi,mh]:=Z;rcases hz with⟨hz,a,b,hTO⟩|⟨T,b,o,hz,hT,_⟩
 ·show wpAny_pyNext_zip_end hh D hz Vi hTO h1 h2 Rk U2 (.inl hx) hQ
 ·show b3h hh D hz hT Vi h1 Rk hx λh' kk=>hQ h' λc o c1 _ c3 _ e=>kk c o c1 c3 e
variable {prog:É}{w:World}{κ:Type}[DecidableEq κ]{knd:KeyKind prog w κ}
theorem a92 (knd)(xs ys:Ó)(ps:List (κ×Value)):Prop:=xs.size=ps.length/\∀ (i:Nat) p,ps[i]?=!p->∃ u,xs[i]?=!u/\ys[i]?=!p.2/\knd.is p.1 u=true
def a2B (c9d)(c8n)(hh)(W5)(D)(hp:a92 knd xs ys ps)(nd:d≠z/\d≠TI/\d≠TO/\d≠i1/\d≠i2/\d≠l1/\d≠l2)(d1P):
  ∀ (n i:Nat)(s:Ê),n=ps.length - i->i<=ps.length->ZS s.heap z TI TO i1 i2 l1 l2 d i->s.heap.IsList l1 xs->s.heap.IsList l2 ys->e36 d b6Z->
   (∀ h' tk,f00 xQ->(∀ b o,b≠d->b≠z->b≠TO->b≠i1->b≠i2->s.heap.get? b=!o->h'.get? b=!o)->R Oj { s with heap:=h',toks:=tk })->
   codeAny ē A (d8Z z) R s:=by
 let#[dz,dTI,dTO,di1,di2,dl1,dl2]:=nd;let lk:∀ {h h':Heap}{l:Addr}{vs:Ó},h.IsList l vs->(∀ o,h.get? l=!o->h'.get? l=!o)->h'.IsList l vs:=λgR k=>by let#[o,ho,r]:=gR;show#[o,k o ho,r]
 intro n
 induction n with
 | zero=>
  ext d7C;let ei:i=ps.length:=#[0]
  ext d8v;show GU (AK hh D Z Rk U2 a9B λh' ext=>?_);let#[uD]:=hd;show GU (Hk<|Hk (h h' _ ⟨o,es,ep,ext d o dz dTO di1 di2 ho,by rw[ei,HM]at r;show r⟩ λb o _ e4s hb=>ext b o b1 b2 b3 b4 hb))
 | succ n ih=>
  ext d7C;let Nt:i<ps.length:=#[0]
  ext d5T
  let#[u,ex,ey,hk]:=hp.2 i p ep;ext d8v;let hdl:d<s.heap.objs.size:=by let#[o,_,_,ho,_]:=hd;show HF ho
  show GU (yf D Z hdl Rk U2 ex ey λh1 Z1 ht QA=>?_);let XF:e6x d b7C:=by let#[uD]:=hd;show#[lH,QA d o dz dTO di1 di2 ho,r]
  show GU (Io<|GU (K3 ?_));show GU (KY #[_,ht,1] ?_);show GU<|K4 ht rfl dU;let hml:(merged []<|ps.take i).length<=sizeLine:=by let h1:=merged_length_le ([])<|ps.take i;ext d3L
  ext d2C;show ih (i+1) { s with heap:=h2,toks:=s.toks+1 } #[0] #[0] ?_ (lk Rk λo e=>NZ _ o dl1.symm<|QA _ o D.l1z D.l1TO D.l1i1 D.l1i2 e) (lk U2 λo e=>NZ _ o dl2.symm<|QA _ o D.l2z D.l2TO D.l2i1 D.l2i2 e) ?_ λe2Y h3 h4=>f01 h3 λb o b0 e4s hb=>h4 b o b0 b1 b2 b3 b4 (NZ b o b0<|QA b o b1 b2 b3 b4 hb)
  ·let#[zk,CK]:=Z1;show#[?_,f06 dTI.symm q1,q2.at λo e=>NZ _ o di1.symm e,q3.at λo e=>NZ _ o di2.symm e];rcases zk with⟨a1,a,b,a2⟩|⟨T,b,o,a1,a2,t1,t2,t3,t4,t5⟩
   ·show .inl #[f06 dz.symm a1,a,b,f06 dTO.symm a2]
   ·show .inr #[T,b,o,f06 dz.symm a1,f06 t5 a2,Ea]
  ·ext d5r
def a4j (c9d)(c8n)(hh)(D)(hz:IsZip s.heap z TI TO .none)(Vi)(hTO:IsPair s.heap TO .none .none)(h1:s.heap.IsListIter i1 l1 0)(h2:e6z 0)(Rk)(U2)(hp:a92 knd xs ys ps)(W5)(h:∀ h' tk,e1w xQ->(∀ b o,b≠z->b≠TO->b≠i1->b≠i2->s.heap.get? b=!o->h'.get? b=!o)->Q UF { s with heap:=h',toks:=tk }):
  wpAny ē A (call UV [.ref z]) Q E s:=by
 let ls:∀ {c:Addr}{o:Obj},s.heap.get? c=!o->s.heap.objs.size≠c:=λe=>IV<|HF e;ext d2o;let hz':=Ha { cls:=.type "dict",data:=.dict [].toArray } hz;ext d3x;show GU (KY #[_,hz',1] ?_);show GU (yg hz' hh λg1 tk1 e1 ne1=>?_);ext d5J;show GU kW;show GU (wpAny_pyIter_zip (e7v hz) ?_);ext d5U;let XF:g1.DictOf knd s.heap.objs.size []:=by let#[uD]:=Og;show#[c6n]
 let lk:∀ {l:Addr}{vs:Ó},e26 vs->g1.IsList l vs:=λgR=>by let#[o,ho,r]:=gR;show#[o,Om _ o ho,r]
 let#[p1,q1,_]:=id h1;let#[p2,q2,_]:=id h2;let#[p3,q3,_]:=id Rk;let#[p4,q4,_]:=id U2;show a2B (A:=A.in1) hh W5 D hp #[ls hz,ls Vi,ls hTO,ls q1,ls q2,ls q3,ls q4] _ ps.length 0 { s with heap:=g1,toks:=tk1 } #[0] (HW _) #[.inl #[e7v hz,_,_,e7v hTO],e7v Vi,h1.at λo e=>Om _ o e,h2.at λo e=>Om _ o e] (lk Rk) (lk U2) (by show XF) λf2t=>?_;show#[1,f01 hD λb o e4s e=>keep b o (ls e).symm b1 b2 b3 b4<|Om b o e]
open e
inductive a37 (K:Ψ)(Q:VK)(d1X):∀ a b ķ,vs=[.ref a,.ref b]->(LO K H1 a (ķ.map λkv=>kV kv.1))->LO K H1 b ľ->ķ.length<=1000->Nx H1 Ť Q
theorem tDZ (K)(ta):TE:=λd95=>ta σ H λe5u=>a37 K Q vs H1
def c3l:∀ {ķ:ξ}{us vs:θ},sY Ŝ us->sY ľ vs->∃ ps:List (Ws×Value),KV ķ ps/\us.length=ps.length/\∀ (i:Nat) p,ps[i]?=!p->∃ u,us[i]?=!u/\vs[i]?=!p.2/\(aP P w).is p.1 u=true:=by
 intro ķ
 induction ķ with
 | nil=>intro us vs h h';cases h;cases h';show#[[],.nil,1,λi p h=>by simp at h]
 | cons kv ķ ih=>
  intro us vs h h'
  cases h with
  | @cons _ u _ _ ru r=>
   cases h' with
   | @cons _ v _ _ rv r'=>
    let#[ps,cZ]:=ih r r';show#[wE::ps,.cons #[1,rv] k1,by simp[k2],λi p h=>?_]
    cases i with
    | zero=>
     let h:wE=p:=by simpa using h
     subst h;show#[u,2,jN ru]
    | succ i=>show k3 i p ų
def a9v (K)(hc)(hgD:Gl X "dict")(hmD:X.mg "dict"=none)(hgZ:Gl X "zip")(hmZ:X.mg "zip"=none)(ha:PA X BY ta)(hK)(c7s):
  PE X (.Call c2p [.Call (.Name "zip" p2) BY [] p3] [] pos) (tDZ K ta):=by
 subst hK;ext d2p;show IC (eI I hgD hmD PyProof.Rows.boot_dict ?_);show IU ?_;show Calls.spliced_cons ?_;show IC<|eI I hgZ hmZ b61 (IU (LW (ha p3 ñ s σ H _ I h) λus e4I=>?_) FA (by rw[TZ];rfl));ext d43;let#[a,b,ķ,e,hx,hy,hz,q]:=q1;subst e;let#[ZE,1,r,r']:=Cr r1
 cases r
 cases r';let#[zZ,p1,_]:=I1.list hx;let#[MJ,YN,p2,_]:=I1.list hy;let#[ps,cZ]:=c3l rv YN;ext d6f;ext d3H;ext d7u;let lt:∀ {c:Addr}{o:Obj},s1.heap.get? c=!o->@LT.lt Nat _ c s1.heap.objs.size:=λe=>HF e;let#[oa,ea,ra]:=id p1.isList;let#[ob,eb,rb]:=id p2.isList;let la:=lt ea;let lb:=lt eb;show a4j ń #[cB,cB,qm] a1 a2 a3 a4 a5 #[oa,f05 ea,ra] #[ob,f05 eb,rb] #[by show k2,λi p h1=>by simpa using k3 i p h1] #[] λXH tk hD keep=>?_;all_goals try (intro z;let z':@Eq Nat ĉ:=z;lia)
 let UI:(bg [] ķ).length<=sizeLine:=by let h1:=cw ķ [];ext d7i;lia
 let le:@LE.le Nat _ s1.heap.objs.size h'.objs.size:=by rw[a6];lia
 show#[.ref h'.objs.size,_,I1.laid (λc o e=>?_) le ?_,1,q.at c2h]
 ·let:=lt e;show keep c o ?_ ?_ ?_ ?_<|a7 c o e;all_goals (intro z;let z':@Eq Nat ĉ:=z;lia)
 ·show#[UI,JC.mpr<|IV (HS I1.big le),_,k1.merge .nil,hD]
def a4p (c8s)(hb:YX X.K fd ps ds)(hd:sY dvs ds)(d12)(c9C)(h:sp vL H Q (W σ)):e5j s:=by
 let r2:=r.append hd;let hl:(us++ds).length=ps.length:=by rw[<- r2.length];ext d6y
 show KB (d8N Ĉ c1i r2)
 cases r with
 | error e=>ext d4K
 | ok fl=>
  cases fl with
  | ret u=>show I.after hq
  | next=>ext d2Y
  | brk=>ext d2Y
  | cont=>ext d2Y
def a17 (bs:Ñ):(List.range bs.length).any b7D=bs.any id:=by
 let e:(List.range bs.length).map b7D=bs:=by show Jk Ė λi e1C=>?_;simp[h2]
 let:=List.any_map (f:=λi=>e7q false) (l:=List.range bs.length) (p:=id);rw[e]at this;show this.symm
def C8 (K)(hc)(hK):Md X (.builtin "any") Own:=by
 ext d36
 ext d4v;let hlen:its.length=bs.length:=by let:=rv.length;ext d6S;omega
 let hpn:p≠s.heap.objs.size:=by let#[_,_,e,_]:=pl;show HR oj
 show call_any_walk ?_;show Kq pl.isList ?_;show#[c4i,λi=>e7q false,c3h]
 ·let hv:its[i]?=!v:=by simpa using hv
  let hi:i<bs.length:=by rw[<- hlen];show (GW.mp hv).1
  ext d4D
  ext d2I
 ·let e:its.toArray.size=bs.length:=by simp[hlen]
  rw[e,a17];ext d3t
theorem a5M (d1L)(dvs)(sp):Prop:=
 ∃ f fd ds,mg x=!.ref f/\W.keepIn K Fr=true/\YX K fd ps ds/\sY dvs ds/\LX P w K mg base Ce k f fd ps sp
theorem Fb (sp)(dvs)(c9l)(t:TA):TE:=λd95=>t σ H λe5u=>sp vL H1 Q (W σ)
def Bj (d12)(D:a5M X.prog X.w X.K X.mg X.base k x ps dvs sp)(c9O):
  PE X ę (Fb sp dvs W t):=by
 let#[zH,ds,hm,hk,hb,hd,F]:=D;ext d2F;show a4p F hr hb hd hx I1 r q
variable {x:Str}{p:Pos}{K:Ψ}
def dB (d0b)(k:Cb R r)(c80)(c7G)(hn)(c7E):e8l (tP Lb):=(bQ hc hg hm hv ha hn OO he Of).imp λe0N=>tP.cb k h
def dBt (k:Cb R r)(c9h)(c7G)(hn)(c7E):e8l (tP Lb):=(cY hc hg hm hv ha hn OO he Of).imp λe0N=>tP.cb k h
def LC.put (hd:e3v v):∀ {ð:ι}{ķ:ξ},ķ.map (·.1)=ð.map (·.1)->e37 ľ->
  (ķ.map λkv=>if kv.1=y then wE else kv).map (·.1)=(ð.map λkv=>if kv.1=y then (kv.1,d) else kv).map (·.1)/\LC F ((ð.map λkv=>if kv.1=y then (kv.1,d) else kv).map (·.2)) ((ķ.map λkv=>if kv.1=y then wE else kv).map (·.2)):=by
 intro ð
 induction ð with
 | nil=>
  intro ķ h _
  cases ķ with
  | nil=>show#[2]
  | cons _ _=>cases h
 | cons p ð ih=>
  intro ķ h y'
  cases ķ with
  | nil=>cases h
  | cons q ķ=>
   ext d4G;simp only[HE,h1];ext d8x
   ·rw[if_pos z,if_pos z];show#[by rw[i1],v,_,1,hd,i2]
   ·rw[if_neg z,if_neg z];show#[by rw[h1,i1],tF,by cbv,i2]
theorem vI (d2b)(d:D):ι:=if b3y=true then ð.map (λkv=>if kv.1=y then (kv.1,d) else kv) else ð++[(y,d)]
theorem sd (d2b):ι:=ð.filter λkv=>decide (kv.1≠y)
theorem h9 (ð more:ι):ι:=more.foldl (λacc kv=>vI acc kv.1 kv.2) ð
def a0W {α β:Type}{l:List (Ws×α)}{m:List (Ws×β)}(h:l.map (·.1)=m.map (·.1)):(l.any λkv=>decide A8)=m.any λkv=>decide A8:=by
 let:∀ {γ:Type} (l:List (Ws×γ)),(l.any λkv=>decide _)=(l.map (·.1)).any λk=>decide (k=y):=λl=>by rw[List.any_map];rfl
 rw[this,this,h]
def b6T (d0I)(k:e37 ľ)(hd:e3v v):(dY ķ y v).map (·.1)=(vI ð y d).map (·.1)/\LC F ((vI ð y d).map (·.2)) ((dY ķ y v).map (·.2)):=by
 ext1 dY vI;rw[a0W h];by_cases z:b3y=true
 ·rw[if_pos z,if_pos z];show LC.put hd h k
 ·rw[if_neg z,if_neg z];simp only[GZ,HE,IP,h,true_and];show k.app (.one hd)
def c0B:∀ {md:ι}{mv:ξ}{ð:ι}{ķ:ξ},mv.map (·.1)=md.map (·.1)->LC F (md.map (·.2)) (mv.map (·.2))->ķ.map (·.1)=ð.map (·.1)->e37 ľ->
  (bg ķ mv).map (·.1)=(h9 ð md).map (·.1)/\LC F ((h9 ð md).map (·.2)) ((bg ķ mv).map (·.2)):=by
 intro md
 induction md with
 | nil=>
  intro mv ð ķ h _ h' k
  cases mv with
  | nil=>show#[h',k]
  | cons _ _=>cases h
 | cons p md ih=>
  intro mv ð ķ h y' h' k
  cases mv with
  | nil=>cases h
  | cons q mv=>
   let#[u,uy]:=y';ext d2x;let#[qu]:=b6T (y:=p.1) h' k q2;let:=ih (ð:=vI ð p.1 p.2) (ķ:=e7o u) h2 (V8▸q3) i1 i2;change (e9f mv).map (·.1)=_/\LC F _ ((e9f mv).map (·.2));rw[h1,show q.2=u from q1];show this
def El:∀ {ð:ι}{ķ:ξ},ķ.map (·.1)=ð.map (·.1)->e37 ľ->(lQ ķ y).map (·.1)=(sd ð y).map (·.1)/\LC F ((sd ð y).map (·.2)) ((lQ ķ y).map (·.2)):=by
 intro ð
 induction ð with
 | nil=>
  intro ķ h _
  cases ķ with
  | nil=>show#[2]
  | cons _ _=>cases h
 | cons p ð ih=>
  intro ķ h y'
  cases ķ with
  | nil=>cases h
  | cons q ķ=>
   ext d4G;unfold lQ sd at i1 i2 ⊢;rw[IK,IK,h1];ext d8x
   ·rw[if_neg<|by simp[z],if_neg<|by simp[z]];show#[qu]
   ·rw[if_pos<|by simp[z],if_pos<|by simp[z]];simp only[HE,i1,h1,true_and];show#[tF,by cbv,i2]
def a0L {ð:ι}{ķ:ξ}(d0I):LC F C3 Ŝ:=by
 let:∀ l:List Ws,LC F (l.map kD) (l.map kV):=λl=>by
  induction l with
  | nil=>rfl
  | cons y l ih=>show#[_,_,1,by cases y <;> rfl,ih]
 let e1:ð.map pK=(ð.map (·.1)).map kD:=by rw[GY];rfl
 let e2:Ŝ=(ķ.map (·.1)).map kV:=by rw[GY];rfl
 rw[e1,e2,h];show this _
def wW:∀ ms:Ξ,LC F (ms.map .int) (ms.map V.int):=by
 intro r'
 induction r' with
 | nil=>
  show rfl
 | cons _ ms ih'=>
  show #[_,_,2,ih']
theorem prs (ð:ι):χ:=ð.map λkv=>.tup [kD kv.1,kv.2]
def b2s:∀ {ð:ι}{vs:π},LC F (prs ð) vs->∃ ķ:ξ,ķ.map (·.1)=ð.map (·.1)/\LC F š ľ/\Paired (λv (kv:Ws×V)=>∃ t,v=.ref t/\F t=!.tup xI) vs ķ:=by
 intro ð
 induction ð with
 | nil=>intro vs h;ext d6E;show#[[],2,.nil]
 | cons p ð ih=>
  intro vs h;let#[v,ws,q1,#[a,us,q0,q2,ZE,q3,q4,u3,u4,q5,q6,q7],q8]:=h;let#[ķ,qu,i3]:=ih q8;subst q0 q1 q5 q3
  cases q7;rw[oM q4]at q2;show#[(p.1,u3)::ķ,by cbv,#[tF,q6,i2],.cons #[a,1,q2] i3]
inductive OZ:Ä
 |s {x:D}{m:χ}:oJ x m->OZ [x] (.int m.length)
 |k {ð:ι}:OZ zJ (.int ð.length)
def b2H:e6o (λe1r=>(∃ p ys,xs=uZ/\(e5R ys\/Nu X.K H p ys)/\Q qK H)\/∃ d ķ,xs=DP/\Rd H d lJ/\Q Ee H):=a9J.or a9Z
def c3q:Cb OZ (λe1r=>(∃ p ys,xs=uZ/\(e86 ys\/Nu K H p ys)/\Q qK H)\/∃ d ķ,xs=DP/\Rd H d lJ/\Q Ee H):=λf0w=>by
 cases z with
 | s h=>show .inl (d9N a1D)
 | k=>
  ext d8z;let:=d94 p2;simp at this;show .inr #[a,ķ,1,p1.mono s,by rw[this];show tP.at s q rfl]
inductive cLi:Ä
 |s {x:D}{m:χ}:oJ x m->cLi [x] lI
 |k {ð:ι}:cLi zJ (d9d C3)
def jo (hc):e8m (λe1r=>(∃ p ys,xs=uZ/\(e5R ys\/Nu X.K H p ys)/\Nx H DA Q)\/∃ d ķ,xs=DP/\Rd H d lJ/\Nx H (d9d Ŝ) Q):=(DG X.K).or (qj hc)
def c6z:Cb cLi (λe1r=>(∃ p ys,xs=uZ/\(e86 ys\/Nu K H p ys)/\Nx H DA Q)\/∃ d ķ,xs=DP/\Rd H d lJ/\Nx H (d9d Ŝ) Q):=λf0w=>by
 cases z with
 | s h=>show .inl (d9N c6u)
 | k=>
  ext d8z;show .inr #[a,ķ,1,p1.mono s,jK s q λe5v=>#[c,_,1,z,a0L p2]]
inductive XN:Ä
 |k {ð:ι}:XN zJ qv
 |p {ð:ι}:ð.length<=1000->XN [.lst (prs ð)] qv
def eO (hc):Md X UV Ō:=b6V.or (cA hc)
def b1X:Cb XN Ō:=λf0w=>by
 cases z with
 | k=>
  ext d8z;show .inl #[a,ķ,1,p1.mono s,jK s q λe5v=>let m:=c0B p2 (p3.mono e) (ð:=[]) (ķ:=[]) rfl rfl;#[c6E]]
 | p h3=>
  let#[xH]:=hx;let#[ķ,qu,i3]:=b2s p2;let:=d94 i1;simp at this;show .inr #[a,ķ,1,#[vs,s ĉ p1,Paired.NL i3 λe2Z=>(by let#[t,z1,z2]:=gR;show#[t,z1,s ĉ z2])],#[0],jK s q λe5v=>let m:=c0B i1 (i2.mono e) (ð:=[]) (ķ:=[]) rfl rfl;#[c6E]]
inductive cSo:Ä
 |k {ð:ι}{ns ms:Ξ}:ð.map (·.1)=ns.map (λn:Int=>(Sum.inl n:Ws))->ns.length<64->(∀ TF:Ξ,TF.Perm ns->TF.Pairwise iV->TF=ms)->cSo zJ (d9d (ms.map .int))
def f2J:Cb cSo (λe1r=>∃ d ķ ns,xs=DP/\Rd H d lJ/\ķ.map (·.1)=ns.map (λn:Int=>(Sum.inl n:Ws))/\ns.length<64/\
  ∀ TF:Ξ,TF.Perm ns->TF.Pairwise iV->Nx H b8k Q):=λf0w=>by
 let#[zC,h5]:=z;ext d8z;show#[a,ķ,_,1,p1.mono s,p2.trans h3,h4,λTF a1 a2=>?_];rw[h5 TF a1 a2];show jK s q λe5v=>#[c,_,1,z,wW _]
def b4n:∀ {ð:ι}{vs us:π},LC F C3 vs->e37 us->∃ ķ:ξ,vs=ķ.map (λkv=>kV kv.1)/\us=ķ.map (·.2)/\ķ.map (·.1)=ð.map (·.1):=by
 intro r'
 induction r' with
 | nil=>
  intro _ _ h h';show #[[],h,h',1]
 | cons p ð ih'=>
  intro _ _ y2' y3';let#[v,uy]:=y2';let#[u,us,q4,q5,q6]:=y3';let#[ķ,qu,i3]:=ih' q3 q6;show#[(p.1,u)::ķ,by rw[q1,i1,oM q2];rfl,by rw[q4,i2];rfl,by cbv]
open e
def PE.p (h:e08 (tN re)):e08 vJ:=h.imp λd97=>tN.p
def a7z {K:Ψ}(h:tN kL σ H Q):e3D Q:=by
 obtain⟨F,ε,d,S,@⟨l,os,h1,h2,h3,h4⟩,q⟩:=h;show#[E6,l,S,h1,λJ e1M hJ=>qG oG hJ h2 h3 λf2o=>?_];let n0:H a=none:=by cases y:H a with
  | none=>rfl
  | some o=>rw[e1I y]at ha;cases ha
 subst h4;show q a H2 ļ n0 #[vs,hv,hd.mono λb o y=>?_];unfold grow aJ at y;ext d37
 ·grind
 ·rw[aF z];ext d6V;by_cases w:H b=none
  ·rw[if_pos w]at y ⊢;by_cases w1:H1 b=none
   ·cbv
   ·rw[if_neg w1]at y;show e2 ĉ y
  ·rw[if_neg w]at y ⊢;by_cases w1:H1 b=none
   ·cases y3:H b with
    | none=>show absurd y3 w
    | some o=>rw[e1I y3]at w1;cases w1
   ·rwa [if_neg w1]at y
variable {st:Stmt}{re rk:Rx}{K:Ψ}{i j:Nat}
def dD0:PE X c1p (tN λ_ d=>d=MU []):=Qx.imp λe1H e7V=>by let#[qe]:=gR;subst h;show q p _ (b8 ě hp) hp #[[],af,2]
inductive rD1 (d19):∀{k:Ws}{x v:D},ra ε x->x=kD k->rb ε v->d=MU [(k,v)]
def dD1 (c63):PE X (.Dict [!a] [b] pos) (tN (rD1 ra rb)):=
 (FH (D8 ha hb c6A) rfl rfl İ<|Nat.le_of_ble_eq_true rfl).imp fun σ H Q ⟨F,ε,d,S,.mk (k:=k) h1 hk h2 h3,q⟩ p hp=>by
  subst hk;let S0:e8t (upd H p<|.dK []) ε:=⟨λb o y=>by rw[a9 (λz=>by rw[z]at y;rw[e3N y]at hp;cases hp)];show S.le ĉ y,S.len,S.rd⟩
  show tP.go S0 h1 λx e0d=>e6v h2 λy e4N=>#[e2 ĉ<|e1I af,[(k,y)],by rw[oM q1];rfl,Nat.le_of_ble_eq_true rfl,?_]
  let e3:f' H (e7l p<|.dK (bg [] [(k,y)])):=bb ((b8 ě hp).trans<|e1.trans e2) hp;subst h3;show q p _ e3 hp ⟨[(k,y)],by rw[af];rfl,rfl,_,_,rfl,q2.mono λb o w=>?_,rfl⟩;rw[aw e1 e2]at w;unfold grow at w;by_cases z:b=p
  ·subst z;rw[if_neg<|by grind [af]]at w;rw[e3N w]at hp;cases hp
  ·rw[aF z];ext d6V;rw[a9 z]at w ⊢;show w
inductive TB (d1Q):Fl->Prop
 |mk {ð:ι}{k:Ws}{x d:D}:ε[i]?=!.ow u0->ð.length<=1000->V7 re ε d->rk ĩ x->x=kD k->TB i rk re ε (d8S i (MU (vI ð k d)))
def qP (h:e0R (YM s0 (tP rk) te))(kt):e1F (TB i rk re):=λe1l=>h.imp λe0f=>by let#[Ck]:=gR;obtain @⟨ð,k,x,d,h1,h2,h3,h4,hk⟩:=h;subst hk;show kt Ĉ b1U;let#[On]:=S1.ro i _ h1;show#[_,p1,tP.go S1.a h4 λy e6Y=>#[a,_,1,oM q2▸Uo.k (e1f p4) (JL (by let:=d94 p5;simp at this;rw[this];show h2)<|by decide +kernel),f0Z F1 u1 ((S1.MR e2).chg h1 p1 ?_)]];let#[qu]:=b6T p5 p6 q1;show#[_,af,qu]
inductive YT (i j:Nat)(ε:Ev):Fl->Prop
 |mk {l:χ}{d:D}:ε[j]?=!.ow (d9d (l++[d]))->YT i j ε b0h
inductive YU (i j:Nat)(ε:Ev):Fl->Prop
 |mk {l:χ}{d:D}:ε[j]?=!.ow (d9d GD)->YU i j ε b0h
def a7C (h:e0R (iY (ZN K "list" ZZ (kH j)) vS)):e1F (YT i j):=λe1l=>h.imp λe0f=>by
 ext d5R;obtain @⟨l,d,h1⟩:=h;let#[rD,p5]:=e5Y _ h1;let hl:=p5.length;rw[Hn,Ih]at hl;let#[v,v1,v2]:=p5.at (i:=l.length) (d:=d) Ė
 show#[_,p1,.inl c2n,a,vs,v,2,p4,by rw[hl];show v1,p ĉ F ě<|(e2I #[_,af,?_]).Uw v2 i];let:=p5.take l.length
 simp_all [List.take_left',List.dropLast_eq_take]
def a3z (h:e0R (iY b0q vS)):e1F (YU i j):=λe1l=>h.imp λe0f=>by let#[Ck]:=gR;obtain @⟨l,d,h1⟩:=h;let#[rD,Dh,p5,p6]:=e5Y _ h1;show#[_,p1,.inl lM,a,_,(0),(0),v,2,p4,by decide,by decide,by simp[seqIndex?],1,p ĉ F ě<|(e2I b5O).Uw p5 i]
inductive WK (i:Nat)(rk:Rx)(ε:Ev):Fl->Prop
 |mk {ð:ι}{k:Ws}{x v:D}:ε[i]?=!.ow u0->rk ĩ x->x=kD k->cQ ð k=!v->WK i rk ε (d8S i (MU (sd ð k)))
def a3B (h:e0R (zO (CA s0 (tP rk)))):e1F (WK i rk):=λe1l=>h.imp λe0f=>by let#[Ck]:=gR;obtain @⟨ð,k,x,v,h1,h2,hk,h3⟩:=h;subst hk;let#[On]:=e5X _ h1;let#[w,w1,_]:=(LC.val p5 p6).2 v h3;let#[qu]:=El p5 p6;show#[_,p1,a,1,.inl #[ķ,.inl p4],e7u h2 λy e6Y=>#[ķ,k,w,e1f p4,oM q2,w1,f0Z F ě<|(S.MR e2).chg h1 p1 #[_,af,qu]]]
inductive rSI (d1Q):Fl->Prop
 |mk {l:χ}{m:Nat}{k:Int}{d:D}:ε[i]?=!.ow EE->V7 re ε d->rk ĩ sH->Wn l.length k=!m->rSI i rk re ε (d8S i (.lst (l.set m d)))
def qSI (h:e0R (iY te (a42 s0 (tP rk) CW)))(kt):e1F (rSI i rk re):=λe1l=>h.imp λe0f=>by
 ext d5R;obtain @⟨l,m,k,d,h1,h3,h4,h5⟩:=h;show kt Ĉ b1U;let#[rD,p5]:=S1.ro i _ h1;show#[_,p1,tP.go S1.a h4 λy e6Y=>#[a,vs,k,m,1,q2,e1f p4,by rw[p5.length];show h5,f0Z F1 u1<|(S1.MR e2).chg h1 p1 #[_,af,?_]]];let:∀ {l:χ}{vs:π} (m:Nat),LC F1 l vs->LC F1 (l.set m d) (vs.set m x):=by
  intro l
  induction l with
  | nil=>intro vs m h;rw[h];rfl
  | cons e l ih=>
   intro vs m h;let#[Dh,mh]:=h
   cases m with
   | zero=>show#[tF,q1,h2]
   | succ m=>show#[tF,h1,ih m h2]
 show this m p5
inductive a3x (i:Nat)(g:Int->Int->Int)(c79):Fl->Prop
 |mk {x y:Int}:ε[i]?=!.fz (.int x)->re ĩ (.int y)->a3x i g re ε (.nx (ε.set i (.fz (.int (g x y)))))
def sG (h:e0R (ZO i vJ (ipI g))):e1F (a3x i g re):=λe1l=>h.imp λe0f=>by let#[Ck]:=gR;obtain @⟨x,y,h1,h2⟩:=h;let#[v,v1,v2]:=f0X _ h1;show#[v,v1,e7u h2 λu e1M _ q1=>#[x,y,v2,q1,p ĉ F ě<|(S.MR e1).Uw (d:=.int _) rfl i]]
inductive rEx (c79):Fl->Prop
 |mk {d:D}:re ĩ d->rEx re ε lD
def Led (d2a)(c8X):QS X (.Expr e pos) (rEx re):=λe1l=>(aA h hs).imp λe0f=>by let#[Ck]:=gR;let#[h1]:=h;show tP.go S.a h1 λe0u=>p σ H1 F ě (S.MR e1)
open e
def a5e (h0:H0 a≠none->F0 a=!o)(hH:H a=!o):e8y DO=grow (e8y F0) (e8y H0) (e8y H):=by
 ext d8y
 ·subst z;by_cases n:H0 b=none
  ·let e1:e5W H b≠none:=by rw[ax n,hH];show nofun
   rw[cD e1,ax<|Qr.mpr n,cD (by rw[hH];show nofun)]
  ·let e0:=h0 n;let e1:e5W H b≠none:=by ext1 grow;rw[if_neg n,e0];show nofun
   rw[cD e1];ext d6V;rw[if_neg λm=>n<|Qr.mp m,cD (by rw[e0];show nofun)]
 ·rw[bB z];ext d6V;rw[bB z,bB z,bB z]
def gO (h:F a=none\/F a=!o):e5Z (Na a u F)=F:=by
 rcases h with h|h
 ·rw[sI h,sI h]
 ·show mI h
def V2.Na (hF:F a=Option.some o)(k:Wt o ķ)(k')(hb:b≠a):e9d b->V2 Bn xw d b:=by
 cases d with
 | lst l=>rintro⟨vs,h,q⟩;show#[vs,by rw[bB hb];show h,q.Na hF k k']
 | dct ks l=>rintro⟨vs,h,h2,q⟩;show#[vs,by rw[bB hb];show h,h2,q.Na hF k k']
 | _=>show λz=>z.elim
def Ss.Na {a:Addr}(S)(hF:F a=!o)(k:Wt o ķ)(k'):Ss (L2.Na a o' F0) (L2.Na a o' H0) Bn σ xw ε:=by
 let h0:=λn=>by let:=S.lo ĉ hF;unfold L2.grow at this;rwa [if_neg n]at this
 show#[cI S.b0,cI S.f0,cI S.up,?_,S.len,c4q,S.ap]
 ·rw[<- a5e h0 (e3N hF)];show cI S.lo
 ·let#[v,v1,v2]:=f0X d q;show#[v,v1,v2.Na hF k k']
 ·let#[b,Ah,b4]:=e5X d q;let hb:b≠a:=λz=>by grind
  show#[b,b1,by rw[bB hb];show b2,by rw[bB hb];show b3,b4.Na hF k k' hb]
variable {X:Cx}
theorem NC (X)(E:Ends):Ends where
 nx:=λσ H=>(∃ a o ķ,NF X a/\H a=!.frz o lJ/\E.nx σ (d8X a lJ))\/E.nx σ H
 rt:=λv H=>(∃ a o ķ,NF X a/\H a=!.frz o lJ/\E.rt v (d8X a lJ))\/E.rt v H
def YC.NC {F0 H0 F:Hp}{E:Ends}:∀ {f:Fl},e6w F E f->e6w F (NC X E) f
 | .nx _,h=>λσ H F' u S=>.inr (h σ H F' u S)
 | .rt _,h=>λx H a b c=>.inr (h x H a b c)
def SP.WB (h:e6l (NC X E) f s):e6l E f s:=by
 cases f with
 | next=>
  obtain⟨σ,H,I,⟨a,o,ķ,nf,e,q⟩|q⟩:=h
  ·show#[σ,_,I.ZH e nf,q]
  ·show#[σ,H,I,q]
 | ret v=>
  obtain⟨x,σ,H,I,r,⟨a,o,ķ,nf,e,q⟩|q⟩:=h
  ·show#[x,σ,_,I.ZH e nf,r,q]
  ·show#[x,σ,H,I,r,q]
 | brk=>ext d5K
 | cont=>ext d5K
def b2J {ð:ι}(hJ:GP J pr)(hg:Xt g q)(S1:e0X F1 σ H1 ε)(d06)(h2:jv q rb ε xB f)(pu:e6w F1 E f):
  ∃ W:Nat->Nat->Υ,(∃ m,W 0 m σ H2)/\∀ i m σ H,e4z H->((J o a).stop i H/\(NC X E).nx σ H)\/((J o a).go i H/\∃ N:Υ,ġ/\∀ x H',(J o a).Xy i H x H'->e4R H' λe5L=>r9 { NC X E with nx:=N,ct:=N,bk:=(NC X E).nx } σ2 H2):=by
 ext d4Z
 ·ext d4R;rcases f2 with⟨_,f2,nf⟩|f2
  ·ext d2X;let h0:F0 a=none\/F0 a=!.dK ķ:=by
    cases y:F0 a with
    | none=>show .inl rfl
    | some w=>have:=S1.up ĉ y;rw[p1]at this;show .inr this.symm
   let h0':H0 a=none\/H0 a=!.dK ķ:=by
    cases y:H0 a with
    | none=>show .inl rfl
    | some w=>have:=S1.b0 ĉ y;rw[Yj]at this;show .inr this.symm
   rw[jx Yj]at f2;subst f2;show iX (tb:=λE σ H=>∃ F0 H0,f0g H) qD hg S2 (hJ eF p2<|p3.Na p1 Ķ jJ) h2 ?_
   cases f with
   | nx ε'=>show λe4g=>.inl #[a,o,ķ,nf,S'.le ĉ<|u _ _ eF,by let S3:=S'.Na (u _ _ eF) jJ<|.inl rfl;rw[gO h0,gO h0']at S3;rw[jx<|S'.le _ _ (u _ _ eF)];show pu σ' ĉ ?_ S3;let:=e1x u;rwa [mI p1]at this]
   | rt d=>show λx H' b1 b2 z=>.inl #[a,o,ķ,nf,b2 ĉ eF,by
     let hH':=b2 ĉ eF;rw[jx hH'];let b3:=e1x b1;rw[gO h0']at b3;let b4:=e1x b2;rw[mI p1]at b4;show pu x _ b3 b4 ?_;let hz:grow (Na a c2q F0) (Na a c2q H0) H' a=!(.frz o<|.dK ķ):=by
      by_cases n:H0 a=none
      ·rw[ax<|Qr.mpr n];show hH'
      ·ext d6V;rw[if_neg λm=>n<|Qr.mp m,cD];intro m;let:=S1.lo ĉ p1
       grind [grow]
     let z2:=z.Na hz jJ<|.inl rfl;rw[a5e (λn=>by unfold grow at hz;rwa [if_neg n]at hz) hH',gO h0,gO h0']at z2
     show z2]
  ·cbv
 ·ext d4R;rcases f2 with⟨f2,_⟩|f2
  ·cbv
  ·ext d7l;show iX (tb:=λE σ H=>∃ F0 H0,f0g H) qD hg S1 (hJ p1 p2 p3) h2 (.NC pu)
def b0T (hp)(hc)(hi:e6W xJ)(c7d):QS X ŧ (m5 (Y0 rd) q rb):=by
 ext d7V;obtain⟨F,ε,f,S,@⟨l,@⟨c,h1,hl⟩,h2⟩,p⟩:=h;let hbx:Q1 X ss r9:=λe1q E I gR=>by let#[F0,H0,h]:=gR;ext d7m
 show LW (e38 _ I #[λe3X=>f' H H1/\DR _ c x,e7t h1 λe0u=>mi,λe3X gR=>?_]) λf s' q=>SP.WB q;let#[e1,hx]:=gR;let S1:=S.grow e1;let pu:=p.up (aj (H1:=H1) S.le)
 cases hl with
 | l hl=>
  let#[wC]:=hl.at hx;show#[a,ex,.inl #[vs,.inl<|ha.mono S1.le,e1y (rE ha hv) h2<|.NC pu]]
 | t=>
  let#[wC]:=hx;show#[a,ex,.inr<|.inl #[vs,Nu.of<|e1v ha,e1y (Ze ha hv) h2<|.NC pu]]
 | k=>
  let#[Fe]:=hx;show#[a,ex,.inr<|.inr ⟨ķ,p1.mono S1.le,λf2p=>b2J b8d hg S1 p1 p2 p3 fz h2 pu⟩]
def qLv (hp)(hc)(hi:e6W b9F)(c7d):QS X ŧ (m5 (rVs rd) q rb):=by
 ext d7V;obtain⟨F,ε,f,S,@⟨l,@⟨ð,h1,hl⟩,h2⟩,p⟩:=h;subst hl;let hbx:Q1 X ss r9:=λe1q E I gR=>by let#[F0,H0,h]:=gR;ext d7m
 show LW (e38 _ I #[λe3X=>f' H H1/\DR ĉ x,e7t h1 λe0u=>mi,λe3X gR=>(by let#[e1,Fe]:=gR;show#[a,ķ,ex,p1.mono (S.grow e1).le,λf2p=>b2J c3K hg L6 p1 p2 p3 fz h2<|p.up (aj S.le)])]) λf s' q=>SP.WB q
def XA {K:Ψ}(c9Y)(h:e0R (iY (e7w vJ) vS))(hK:K=X.K):e1F (Ft i Ec):=by intro F0 H0 ñ s σ H E I z;let#[E6,f,S,z,p]:=z;let#[z]:=z;show LW (e0t (NC X E) I<|c0J (e7t z λe0u=>p _ H1 _ jP<|(S.grow e1).Uw q1 i)) λf s' q=>SP.WB q
open e
variable {q:Õ}{rb:Rs}{α:Type}{u:α->D}
def a98 (I:β->Ú)(g:β->α->β):∀ (xs:List α) {b:β}{ε:Ev},(∀ b x ε,x∈xs->I b ε->∃ ε1,e3h ε1/\∃ ε2,e50 fH/\I (g b x) ε2)->I b ε->∃ ε',e2d yD/\I yO ε':=by
 intro r'
 induction r' with
 | nil=>
  intro _ ε _ h;show Eu
 | cons x xs ih'=>
  intro b ε k h;let#[ε1,k1,ε2,k2,k3]:=k b x ε Hi h;let#[Fk]:=ih' (λb y ε hy=>k b y ε<|He _ hy) k3;show#[ε',c5a]
def b1H (d1d):∀ (xs:List α){ε:Ev},(∀ x ε,x∈xs->I ε->∃ ε1,e3h ε1/\if c x=true then rb ε1 (.rt (h x)) else ∃ ε2,e50 fH/\I ε2)->I ε->match xs.find? c with
   | some x=>e2d (.rt<|h x)
   | none=>∃ ε',e2d yD/\I ε'
 | [],ε,_,h=>Eu
 | x::xs,ε,k,hI=>by
  let#[ε1,k1,k2]:=k x ε Hi hI;rw[Jg]
  cases z:c x with
  | true=>rw[z,if_pos rfl]at k2;show .ret k1 k2
  | false=>
   rw[z,if_neg nofun]at k2;let#[ε2,k3,k4]:=k2;let:=b1H I c h xs (λy ε hy=>k y ε<|He _ hy) k4
   cases y:xs.find? c with
   | some w=>rw[y]at this;show .next k1 k3 this
   | none=>rw[y]at this;let#[Fk]:=this;show#[ε',.next k1 k3 h1,h2]
def dR (I:β->Ú)(μ:β->Nat)(h0:I b ε)(k:∀ b ε,I b ε->rt ĩ false/\r2 ε f\/rt ĩ true/\∃ b' ε',rb ε yD/\I b' ε'/\μ b'<μ b):pY (rWh rt rb) r2 ε f:=by
 let go:∀ (n:Nat) {b:β}{ε:Ev},μ b<n->I b ε->∃ ε',f1V yD/\r2 ε' f:=λn=>by
  induction n with
  | zero=>cbv
  | succ n ih=>
   intro b ε h hI;rcases k b ε hI with⟨t,h1⟩|⟨t,b',ε',k1,k2,k3⟩
   ·show#[ε,.done t,h1]
   ·let#[ε2,mh]:=ih #[] k2;show#[ε2,.next t k1 h1,h2]
 let#[Fk]:=go _ (IJ _) h0;show .nx #[_,h1] h2
def b3w (c7h)(fin:∀ ε,I yO ε->r2 ε f):e27 f:=
 let #[Fk]:=a98 I g xs k h0
 .nx xz jf
def gT (xs)(d1d)(h0:I ε)(hl)(k:∀ x ε,x∈xs->I ε->∃ ε1,e3h ε1/\if c x=true then rb ε1 (.rt (h x)) else ∃ ε2,e50 fH/\I ε2)(hs:∀ x,xs.find? c=!x->f=.rt (h x))(fin:xs.find? c=none->∀ ε,I ε->r2 ε f):e27 f:=by
 let:=b1H I c h xs k h0
 cases z:xs.find? c with
 | some x=>rw[z]at this;rw[hs x z];show .rt (.mk hl this)
 | none=>rw[z]at this;let#[Fk]:=this;show .nx xz (fin z ε' h2)
open e
def bO (n):sD 0 n=(List.range n).map λi=>.int (i:Int):=by ext1 sD;show HA λi _=>by rw[L0]
def AQ (s n:Nat):sD s n=(e6u n).map λi=>.int (i:Int):=by ext1 sD;simp[List.range'_eq_map_range]
abbrev rw (r:Ξ):D:=.lst (r.map .int)
abbrev tb (t:Θ):D:=.lst vP
def UX (g:α->Int)(d0c):Fl.rt (rw d3)=.rt (d9d (l.map λx=>.int (g x))):=by cbv
def tbm (g:α->Ξ)(d0c):Fl.rt (tb d3)=.rt (d9d uJ):=by cbv
def b8I {g:α->β}(c8j){i:Nat}{x:α}(h:l[i]?=!x):R8 d3 (i:Int)=!g x:=dG ĝ
def dE {l:Ξ}(h:i<l.length):R8 (l.map D.int) (i:Int)=!.int (l.getD i 0):=b8I ĝ
def c0r {t:Θ}(h:i<t.length):R8 vP (i:Int)=!rw (t.getD i []):=b8I ĝ
def iu {t:List α}{z:α}(h:i<t.length):t.getD i z∈t:=by cbv
def ne_int (c7K):e7x (.bl (decide (i≠j))):=e7y (e4W rfl (e1Q (by
 ext d3O
 ·subst c;simp
 ·rw[Hf c,Hg λz=>c<|by injection z];rfl)))
def eq_int (c7K):e7U (.bl (decide (i=j))):=e7y (e4W rfl (e1Q (by
 rw[if_neg nofun];ext d3O
 ·subst c;simp
 ·rw[Hg c,Hg λz=>c<|by injection z])))
theorem Dr:Option Nat->D
 | none=>.non
 | some a=>.int (a:Int)
def cF (k:Nat):uB l none iG=l.take k:=by ext1 uB;rw[HT.Ux,HT.RH,List.drop_zero,Nat.sub_zero,List.take_eq_take_iff];omega
def iD (k:Nat):uB l iG none=l.drop k:=by
 ext1 uB;rw[HT.Ux,HT.RH,Ir<|by cbv]
 cbv
variable {α:Type}{u:α->D}
abbrev _root_.Ö:=Nat->Ú
def a9U {ok:D->Prop}:∀ (xs:List α)(I:Ö){ε:Ev},I 0 ε->(∀ i x ε,xs[i]?=!x->I i ε->∃ ε1,e3h ε1/\((∃ d,e50 KW/\ok d)\/∃ ε2,e50 fH/\I (i+1) ε2))->(∃ d,e2d KW/\ok d)\/∃ ε',e2d yD/\I xs.length ε':=by
 intro xs
 induction xs with
 | nil=>intro I ε h _;show .inr Eu
 | cons x xs ih=>
  intro I ε h k;obtain⟨ε1,k1,⟨d,k2,k3⟩|⟨ε2,k2,k3⟩⟩:=k 0 x ε rfl h
  ·show .inl #[d,.ret k1 k2,k3]
  ·rcases ih (λi=>I<|i+1) k3 (λi y ε hy=>k (i+1) y ε<|by simpa using hy) with⟨d,h1,h2⟩|⟨ε',h1,h2⟩
   ·show .inl #[d,c5a]
   ·show .inr #[ε',c5a]
def oU (c8P)(k):∃ ε',e6A yD/\I xs.length ε':=by
 rcases a9U (ok:=λ_=>False) xs I h0 (λi x ε h h'=>let ⟨ε1,a,b⟩:=k i x ε h h';#[c6w]) with⟨_,_,z⟩|⟨ε',h1,h2⟩
 ·show z.elim
 ·show#[ε',.mk hl h1,h2]
def cW (c8P)(k)(c99):e27 f:=
 let #[Fk]:=e6B k
 .nx h1 jf
def b3p (c8P)(k:∀ i x ε,xs[i]?=!x->I i ε->∃ ε1,e3h ε1/\((∃ d,e50 KW/\f=.rt d)\/∃ ε2,e50 fH/\I (i+1) ε2))(c99):e27 f:=by
 rcases a9U xs I h0 k with⟨d,h1,rfl⟩|⟨ε',h1,h2⟩
 ·show .rt xz
 ·show .nx xz jf
open e
variable {α:Type}{u:α->D}{ε:Ev}{J:Ú}
def lq (h1:r1 ε (.nx ε1))(h2:∃ ε',r2 ε1 yD/\J ε'):∃ ε',pY r1 r2 ε yD/\J ε':=let ⟨ε',a,b⟩:=h2;#[ε',.nx h1 a,b]
def b4V {rt:Å}{rx ry:Rs}{ε:Ev}{J:Ú}(h:rt ĩ true)(k:∃ ε2,rx ε fH/\J ε2):∃ ε2,rIf rt rx ry ε fH/\J ε2:=let ⟨ε2,a,b⟩:=k;#[ε2,.t h a,b]
def b7U {r A B:Ú}(h:∀ ε,A ε->B ε)(k:∃ ε,r ε/\A ε):∃ ε,r ε/\B ε:=let ⟨ε,a,b⟩:=k;#[ε,a,h ε b]
def a5b (c7h)(fin:∀ ε',I yO ε'->J ε'):∃ ε',e6A yD/\J ε':=
 let #[Fk]:=a98 I g xs k h0
 #[ε',.mk hl h1,e8A h2]
def Gw (c8P)(k)(fin):∃ ε',e6A yD/\J ε':=
 let #[Fk]:=e6B k
 #[ε',h1,e8A h2]
open e
def aO (c8j){x:α}(h:l[i]?=!x):l.take (i+1)=l.take i++[x]:=by rw[IM,h];rfl
def gt_int (c7K):rO (d9j b9a) ra rb ε b9a:=EJ
def lt_int (c7K):rO (d9j b9b) ra rb ε b9b:=EJ
def jB (h:(List.range n)[i]?=!x):i=x/\i<n:=by
 let#[mh]:=GW.mp h;rw[HV]at h1
 cbv
def gK (c8j)(c83):cQ uk k=(l.find? λx=>decide (f x=k)).map g:=by ext1 cQ;rw[List.find?_map,Option.map_map];rfl
def kS:D.str x=kD ou:=rfl
def kI:D.int i=kD (.inl i):=rfl
def sP:(cQ ð k).isSome=true ↔ k∈ð.map (·.1):=by grind [cQ,Option.isSome_map,List.find?_isSome,List.mem_map]
def j5 (c8j){f:α->Str}{g:α->D}:(cQ (l.map λx=>(.inr (f x),g x)) (.inr y)).isSome=decide (y∈l.map f):=by
 rw[IH,sP,GY,Iw,GX,GX]
 grind
def Cu (c8j)(d00){g:α->D}:(cQ (l.map λx=>rS) (.inl y)).isSome=decide (y∈l.map f):=by
 rw[IH,sP,GY,Iw,GX,GX]
 grind
def cr (h:k∉ð.map (·.1)):vI ð k d=ð++[(k,d)]:=if_neg λz=>h (let #[p,a,b]:=List.any_eq_true.mp z;GX.mpr #[p,a,HB b])
inductive a48:D->D->D->Prop
 |mk {x:D}{k:Nat}:k<=1000->a48 (.lst [x]) sH (d9d (List.replicate k x))
def A9:SU a48 ZY:=λe0s=>by
 obtain @⟨x,k,hk⟩:=z;let#[vb,p1,w,ws,1,p2,1]:=hu;show#[a,k,[w],1,hv,s ĉ p1,kE,?_,λp n=>q ĉ (b8 ě n) #[p,_,1,by rw[ax n,af],LC.mono (aj s) ĉ ?_]]
 ·show HH (by simpa using hk) (by decide +kernel:1000<=sizeLine)
 ·clear hk q hv
  induction k with
  | zero=>rfl
  | succ k ih=>show#[w,_,1,p2,ih]
def cy (c9k)(c7B)(e:d=.lst (xs.map h)):e8u d:=e▸b7 hi hl k
def OZ.m {g:α->D}{x:List α}:OZ [.lst (x.map g)] (.int x.length):=by rw[<- GS (f:=g)];show .s (.sq .lst)
def c6F (i:Int):∀ (ks:Ξ),XC yq ((ks.map D.int).map fv)=decide k8:=by
 intro r'
 induction r' with
 | nil=>
  show rfl
 | cons k ks ih'=>
  ext d3u
  grind
def jO:VQ n yq (rw ks) a40:=.s #[.sq .lst,1,by rw[List.all_map,IS];show λ_ _=>rfl,by rw[show XC (fv<|.int i) _=decide _ from c6F i ks]]
def c22 (i:Str):∀ (ks:η),XC (.str i) ((ks.map D.str).map fv)=decide k8:=by
 intro r'
 induction r' with
 | nil=>
  show rfl
 | cons k ks ih'=>
  ext d3u
  grind
def b4Z {ks:η}:VQ n (.str i) (d9d (ks.map .str)) a40:=.s #[.sq .lst,1,by rw[List.all_map,IS];show λ_ _=>rfl,by rw[show XC (fv<|.str i) _=decide _ from c22 i ks]]
def vN.m (c8j)(c83):vN (MU uk) (l.map λx=>kD (f x)):=by let:=vN.k (ð:=l.map λx=>zD);rw[GY]at this;show this
def cG (nd:(ð.map (·.1)).Nodup)(h:(k,d)∈ð):cQ ð k=!d:=by
 ext1 cQ
 induction ð with
 | nil=>cases h
 | cons kv l ih=>
  ext d4q;rcases Hs.mp h with z|z
  ·rw[<- z,List.find?_cons_of_pos<|by simp];rfl
  ·rw[List.find?_cons_of_neg (by simp only[decide_eq_true_eq];show λy=>nd.1<|GX.mpr #[_,z,y.symm])];show ih nd.2 z
def c4D:∀ {more ð:ι},((ð++more).map (·.1)).Nodup->h9 ð more=ð++more
 | [],ð,_=>(HD _).symm
 | kv::more,ð,nd=>by
  ext1 h9;rw[IG,cr λz=>by rw[GZ,HE,HL]at nd;show nd.2.2 _ z _ Hi rfl]
  let:=c4D (more:=more) (ð:=ð++[kv]) (by rwa [HI]);rwa [HI]at this
def XN.m (c8j)(c83)(h:l.length<=1000)(nd:(l.map f).Nodup):XN [.lst (l.map λx=>.tup [kD (f x),g x])] (MU uk):=by let:=XN.p (ð:=l.map λx=>zD) ų;rw[c4D (by rw[IF,GY];show nd),IF]at this;unfold prs at this;rw[GY]at this;show this
def c5X (h:q<n):Wn n (q:Int)=!q:=by ext1 Wn;rw[if_pos<|Int.natCast_nonneg q];simp[h]
inductive XO (R:Ä)(d0H):∀ F l d,f' F H->LC F l vs->R l d->a8Z
def XO.p (h:e8w E):XO R vs H Q E:=let ⟨F,l,d,s,a,b,q⟩:=h
 #[F,l,d,s,a,b,λa H' e n w=>q _ H' e (w.dr Lv λo z=>by rw[ax n];show z)]
def fu (d1D)(Dd)(hr)(ht:e8j X.env=(do
   let ov <- eval o X.env
   standAt apos.atName
   let (f,first) <- holding [ov] ş
   callWith pos f first (e0m Š) Ĩ):=ă):PE X Ğ (tP (a0a (·=C) m (λ_=>R) ra)):=GC he (λC' h=>by cases h;show Dd) hr ht
def dFN (Dd:e0Z (XO R))(hr)(d0Y):
  PE X ę (tN Lb):=(e70 Of).imp fun σ H Q ⟨F,ε,d,S,⟨h1,h2⟩,q⟩=>e35 h1 λe8Z=>by
 rw[HD];show#[_,_,d,S1.le,q1,h2,λa e1D n w=>q a H2 ļ ?_ ?_]
 ·cases y:H a with
  | none=>rfl
  | some o=>rw[e1I y]at n;cases n
 ·rwa [aw e1 e2]at w
def dLN (c70)(hi)(c61):e4A (tN kL):=(e1Z hs).imp λd97=>a7z
variable {K:Ψ}
def OR.dvN {k:Nat}(c9Y)(c7m)(S:f0I Uz)(hb:ay st=c0M)(t:∀ l d,R l d->l.length=ps.length/\re ((ent N.length l).map Sl.a) d)(b:∀ (Lr:Value)(A:Ë)(outer:List Env)(s:Ê)(H:Hp)(E:XK),LM k ĕ->PE (e0E E).Ur e (tN re)):e0b (XO R):=
 F.ok S (λe3o gR=>(by let#[_,l,d,_,hl,hR,_]:=gR;rw[hl.length,(t l d hR).1])) λd90 gR=>by let#[F,l,d,sm,hl,hR,q]:=gR;show#[_,hb▸aq (bD<|e3O hr),_,_,d,(lr N sm hl).a,(t l d hR).2,λa H' e n w=>q a H' e n<|by rwa [aw ě e]at w]
def Df.p (h:e2Q k x ps (XO R)):e2Q k x ps sv:=let ⟨f,fd,a,b,c,d⟩:=h;#[zH,nZ,d.imp λd9X=>XO.p]
open e
inductive cDk:Ä
 |mk {ð:ι}:cDk zJ qv
def a96 (hc)(hg:Gl X "dict")(hm:X.mg "dict"=none)(c7G)(hn:("dict":Str)≠"__name__":=ö)(OO:(("dict":Str)==("__debug__":Str))=false:=ö)(he)(Of):PE X (.Call c2p ke [] pos) (tN (rF cDk rs)):=(cY (eO hc) hg hm boot_dict ha hn OO he Of).imp fun σ H Q ⟨F,ε,d,S,⟨h1,h2⟩,q⟩=>e35 h1 λe8Z=>by
 cases h2;let#[c4b]:=q1;show .inl #[a,ķ,1,p1.mono S1.le,λp e1D n z=>?_];let n0:=e1.free n;let m:=c0B (F:=aJ p<|e0W H2) (ð:=[]) (ķ:=[]) p2 (p3.mono λb o y=>?_) rfl rfl
 ·show q p H2 ļ n0 #[_,z,m.1,m.2]
 ·by_cases c:b=p
  ·subst c;rw[ax n0,n]at y;cases y
  ·rw[aF c];unfold grow at y ⊢;by_cases w:H b=none
   ·rw[if_pos w]at y ⊢;show e2 ĉ y
   ·cbv
def dI:PE X (d9p (.int n)) (d9q (.int n)):=dC aK
def jk:PE X b7V (d9q Ao):=dC a5S
def Eg:PE X (d9p (.bool c)) (d9q (.bl c)):=dC nL
def SH:PE X b6K (d9q .non):=dC b2A
def qr (d2a):RT X c0M (ZX re):=q1 (qR h)
def Mz (hr)(c63)(d0V):e6n b9C:=dS SC ha hb hs
def eL (hm:X.mg "len"=none)(d1E)(hg:Gl X "len":=ă)(he:starEach [e] X.env=Ĭ::starEach [] X.env:=ă):PE X (d9k (.Name "len" p)) (tP (rF OZ (rA re SI))):=dB c3q b2H hg hm boot_len (da ha Lp he) (he:=he)
def qs (i)(hN)(he:e08 vJ)(c68):
  QS X Ty (Ft i re):=qS b6h λe0N=>h
def qo (i)(hN)(he:e08 (tN re))(c68):
  QS X Ty (CV i re):=qO b6h λe0N=>h
def P4 (d0T):PX ė [] (Ql Ba):=df0
variable {K:Ψ}{x:Str}{st:Stmt}{k:Nat}
def OR.dw (c7m)(c7a):e0b sv:=
 F.dv S t λe2k=>e3O hr S.nd
def MM.dw (c90)(c7a):e0b sv:=
 MM.dv F S t λe2k=>e3O hr S.nd
abbrev Fu (K:Ψ)(x:Str)(st:Stmt):=OR K x x st
open e
class Bd where
  P : Program
  w : World
  K : PySem.W.Frag
  mg : Str -> Option Value
  base : Heap
variable [B:Bd]
abbrev Mh:=Df B.P B.w B.K B.mg B.base
abbrev ML:=Dm B.P B.w B.K B.mg B.base
abbrev Wf:=Dk B.P B.w B.K B.mg B.base
abbrev ZD:=Cy B.P B.w B.K B.mg B.base
abbrev Gj:=DfX B.P B.w B.K B.mg B.base
abbrev Er:=a5M B.P B.w B.K B.mg B.base
abbrev Ep:=DiX B.P B.w B.K B.mg B.base
abbrev QN:=LX B.P B.w B.K B.mg B.base
abbrev Tm (k:Nat)(x ğ:Str)(st:Stmt)(ps:η)(sp:Sp):Prop:=∀ f fd,OR B.K x ğ st f fd->e7z ps sp
abbrev Tk (k:Nat)(x:Str):=Tm k x x
def dw (d0f)(t)
  (b) (S:ar Fn ps Uz:=by exact Py):e8B sv:=
 λf _ F=>F.dw N t (b f) S
def N7 (d0f)(t:∀ l d,R l d->r (ent (ps++N).length l) KW)
  (b) (S:ar Fn ps Uz:=by exact Py) (hl:∀ l d,R l d->l.length=ps.length:=by intro _ _ h;cases h <;> rfl):e8B sv:=
 dw N (λl d h=>#[hl l d h,.inl<|t l d h]) b S
open e
universe L2
namespace K72
open PySem L2
open PyProof.Rows (boot_all boot_bool boot_dict boot_int boot_list boot_sorted boot_str boot_tuple)
structure uh (c9i)(c7r):Prop where
 cl:PM K C
 nP:Mb K C "prime"
 Mg:mg "range"=none
 NW:mg "zip"=none
 WT:mg "sum"=none
 M8:mg "len"=none
abbrev fD (c7r)(p:Int):D:=.ins C ["prime"] [.int p]
variable {C:Addr}
def uh.fl [Bx:Bd](T):∀ C',C'=C->e6C C'/\Mb Bx.K C' "prime":=λC' h=>h▸#[T.cl,T.nP]
inductive RD (c7r):Ä
 |mk {p n:Int}:0<p->RD C wY (.int (n % p))
def a0x [Bx:Bd](T):Tm 1 "fit" "Field.fit" (e51 1) æ (d8L RD):=by
 let OF:=T.fl;show N7 [] ?_ λd9Y=>(qr<|e0O (Đ 1) uS)
 rintro _ _ ⟨hp⟩;show#[#[lP,#[hp]],1]
inductive ie (c7r):Ä
 |mk {p:Int}{xs ys:Ξ}:0<p->p<=1000000->xs.length<=1000->(∀ x∈xs,0<=x/\x<p)->ie C [fD C p,rw xs,rw ys] (.int (Mx.LI p xs ys))
def jw (f:α->γ)(g:β->δ):∀ (xs:List α)(ys:List β),(xs.map f).zip (ys.map g)=(xs.zip ys).map λz=>(f z.1,g z.2)
 | [],_=>rfl
 | _::_,[]=>rfl
 | _::xs,_::ys=>by simp_all [HE,L4,jw]
def fU (xs ys:Ξ):((xs.zip ys).map λz=>D.tup b9H)=((xs.map D.int).zip (ys.map D.int)).map λz=>.tup [z.1,z.2]:=by rw[jw,GY];rfl
def iC:∀ (xs ys:Ξ),((xs.zip ys).map λz=>z.1 * z.2).sum=Mx.dot xs ys
 | [],_=>by simp[Mx.dot]
 | _::_,[]=>by simp[Mx.dot]
 | x::xs,y::ys=>by rw[L4,HE,List.sum_cons,iC xs ys];rfl
def a8J [Bx:Bd](T)(Lo):Tk 3 "row_sum" (top 38) ù (d8L ie):=by
 show N7 [] ?_ λd9Y=>(qr (e3P Lo hr.m (da (e5p (da (e6D (cS 2 [] ["mine","theirs"]) sk
  Ę
  P4
  b1B) Lp)) Lp)))
 rintro _ _ @⟨p,xs,ys,hp,Ve,hl,hx⟩;show#[#[wZ,#[#[#[b7 #[_,_,#[3],fU xs ys] (by rw[J7];lia) λe79=>#[yn,2,#[?_]],1],.mk (by rw[GY];rfl)],1],#[hp]],?_]
 ·let:=hx z.1 (Jf hz).1;show .inl vF
 ·rw[iC,<- Mx.LU]
abbrev Cs:=List (Int×Int)
abbrev Rq (cs:Cs):D:=MU (cs.map λx=>b9I)
theorem aU (cs)(k:Int):Ô:=(cs.find? λx=>decide XY).map (·.2)
def sC (h:aU cs k=!n):cQ (cs.map λx=>oF) DQ=!.int n:=by simp_all [aU,HN,gK]
inductive kq:Ä
 |l {t:Θ}{k:Nat}:t.length<=1000->(∀ r∈t,k<r.length)->kq [tb t,.int k] (rw (Mx.col t k))
 |d {α:Type}{l:List α}{g:α->Cs}{h:α->Int}{k:Int}:l.length<=1000->(∀ x∈l,aU (g x) k=some (h x))->kq [.lst (l.map λx=>Rq (g x)),.int k] (rw (l.map h))
def b24 [Bx:Bd]:Tk 1 "column" (top 39) ["table","place"] (Pr kq):=by
 show N7 [] ?_ λd9Y=>(qr (e0y (d9B ["row","place"]) NR
  Ĕ
  P4
  (λe0i=>Mz hr (Đ 0)<|Đ 1)))
 intro _ _ h
 cases h with
 | @l t k hl hk=>show#[e52 hl λe2T=>#[_,3,.l .lst<|dE (hk r hr)],UX _ _]
 | @d α l g h k hl hk=>show#[e52 hl λe0M=>#[_,3,.k (sC<|hk x hx) kI],UX _ _]
inductive a1c:Ä
 |mk {n i:Nat}:n<=1000->a1c [.int n,.int i] (rw (Mx.Ll n i))
def a3d:ar ā ā (d88 41):=Py
def c0U [Bx:Bd](T):Tk 1 "ones_row" (top 41) ā (XO a1c):=by
 ext d2U;show F.dvN a3d rfl ?_ λe2k=>(dLN 0 rfl (d9B ["place","own"]) Z8
  Ĕ
  P4
  (λe0i=>Yw (e0H (Đ 0)<|Đ 1) dI dI))
 rintro _ _ @⟨n,i,hn⟩;show#[1,?_];rw[show rw _=.lst ((List.range n).map λj=>.int<|if j=i then 1 else 0) from D.lst.inj (Fl.rt.inj<|UX _ _)▸rfl];show b7 ⟨n,hn,⟨rfl,rfl⟩,(bO n).symm⟩ (by simpa using hn) λj _=>mE
 let rd:=eq_int (ε:=[some<|.int j,some<|.int i]) (ra:=rV 0) (rb:=rV 1) rfl rfl;by_cases c:j=i
 ·rw[Hf<|by rw[c]]at rd;show .t rd (by rw[if_pos c];rfl)
 ·rw[Hg<|by lia]at rd;show .f rd (by rw[if_neg c];rfl)
inductive b26:Ä
 |mk {n:Nat}:n<=1000->b26 Ay (tb (Mx.ones n))
def c3i [Bx:Bd](T)(MN):Tk 2 "ones" (top 42) ["many"] (Pr b26):=by
 let MN:=MN.p;show N7 [] ?_ λd9Y=>(qr (e9g (cS 1 [0] ["own","many"]) Z8
  Ĕ
  P4
  (λe0i=>dF MN hr.m rfl<|e0l ŝ)))
 rintro _ _ @⟨n,hn⟩;show#[b7 #[n,hn,#[2],(bO n).symm] b9J λj _=>#[_,lP,#[hn]],tbm ĉ]
inductive pG (c7r):Ä
 |mk {p a b:Int}:0<p->Wk a b->pG C b7E (.int (a * b % p))
def a60 [Bx:Bd](Lo):Tm 2 "times" "Field.times" (e51 4) ã (d8L pG):=by
 show N7 [] ?_ λd9Y=>(d9P qr Lo (d9h (e3i (Đ 1)<|Đ 2)))
 rintro _ _ ⟨hp,hc⟩;show#[#[wZ,#[#[2,#[hc]],1],#[hp]],1]
inductive uQ (c7r):Ä
 |mk {p a b:Int}:0<p->uQ C b7E (.int ((a - b) % p))
def b29 [Bx:Bd](Lo):Tm 2 "minus" "Field.minus" (e51 3) ã (d8L uQ):=by
 show N7 [] ?_ λd9Y=>(d9P qr Lo (d9h (e9h (Đ 1)<|Đ 2)))
 rintro _ _ ⟨hp⟩;show#[#[wZ,#[#[2,pE],1],#[hp]],1]
inductive Ot (c7r):Ä
 |mk {p:Int}{r:Ξ}:0<p->r.length<=1000->Ot C [c6S] (rw (r.map WH))
def c1J [Bx:Bd](Lo):Tk 2 "fitted_row" (top 43) ["field","row"] (d8L Ot):=by
 show N7 [] ?_ λd9Y=>(qr (e0y b32 Pi
  Ĕ
  P4
  (λe0i=>Rp (Đ 1) Lo hr.m<|e0S Lp)))
 rintro _ _ @⟨p,r,hp,hl⟩;show#[e52 hl λx _=>#[_,c6T,#[2],#[hp]],UX ĉ]
inductive TgD (c7r):Ä
 |mk {p k:Int}{r:Ξ}:0<p->0<=k->k<=1000000->r.length<=1000->TgD C [c6S,.int k] (rw (Mx.scaled p r k))
def c4d [Bx:Bd](LY):Tk 3 "scaled" (top 45) b6i (d8L TgD):=by
 show N7 [] ?_ λd9Y=>(qr (e0y (cS 1 [0,2] [c5K,"number"]) Pi
  Ĕ
  P4
  (λe0i=>Rp (Đ 1) LY hr.m<|e01 ŝ)))
 rintro _ _ @⟨p,k,r,hp,h0,h1,hl⟩;show#[e52 hl λx _=>#[_,c6T,#[3],#[hp,.inl vF]],UX ĉ]
inductive PF:Ä
 |mk {t:Θ}{st q:Nat}:t.length<=1000->st<=t.length->q<=1000->(∀ r∈t,q<r.length)->PF [tb t,.int st,.int q] (Dr (Mx.MG t st q))
def c0j [Bx:Bd](T):Tk 1 "row_with" (top 44) b6j (Pr PF):=by
 show N7 ["at"] ?_ λd9Y=>(qC (e1g (iR2 rfl T.Mg<|e0l (da (d8U 0) Lp)) vd (aI 3)
  (q1 (qI (e4C (Mz hr (Mz hr (Đ 0)<|Đ 3)<|Đ 2) dI)
  An
  q0)))
 jr)
 rintro _ _ @⟨t,st,q,hl,hs,hq,hw⟩;show ?_;show gT _ (λε=>∃ o,ε=[.fz<|tb t,.fz<|.int st,.fz<|.int q,o]) (λa=>decide c2r) (λa=>.int (a:Int)) #[_,1] #[st,t.length,#[0],hl,#[1,#[#[2],by rw[<- GS];show .s<|.sq .lst],1],(AQ _ _).symm] (λa ε ha gR=>?_) (λa h=>by ext1 Mx.MG;rw[h];rfl) λh ε _=>#[1,by ext1 Mx.MG;rw[h];rfl]
 ext d3v;let ha:=List.mem_range'_1.mp ha;ext d5Q;let rd:=ne_int (ε:=([Sl.fz<|tb t,.fz<|.int st,.fz<|.int q,o].set 3<|.fz (.int a)).map Sl.a) (ra:=e18 (e18 A7<|rV 3)<|rV 2) (rb:=rC<|.int 0) #[#[2,.l .lst<|c0r #[0]],1,.l .lst<|dE (hw _<|iu (by omega:a<t.length))] rfl
 cases c:decide c2r with
 | false=>ext d8A
 | true=>ext d8c
inductive a8s (c7r):Ä
 |mk {p:Int}{r ld:Ξ}{q:Nat}:0<p->p<=1000000->r.length<=1000->q<r.length->Mx.Np p r->a8s C [c6S,rw ld,.int q] (rw (Mx.without p r ld q))
def b16 [Bx:Bd](T)(LY)(ME):Tk 3 "without" (top 46) b3z (d8L a8s):=by
 show N7 ["often"] ?_ λd9Y=>(qC (qs 4 ND<|e7A (Đ 3))
 (qC (qI (e0H (Đ 4) dI)
  (qr<|Đ 1)
  q0)
 (qr (e6D (cS 2 [0,4] [c5b]) sk
  Ę
  P4
  (λe0i=>e3Q ME hr.m<|e0S (d9h (e3Q LY hr.m<|e1h ŵ)))))))
 rintro _ _ @⟨p,r,ld,q,hp,Ve,hl,hq,hf⟩;show .nx #[2,.l .lst<|dE hq] ?_;ext1 Mx.without;let rd:=eq_int (ε:=[some<|fD C p,some<|rw r,some<|rw ld,some<|.int q,some<|.int (r.getD q 0)]) (ra:=rV 4) (rb:=rC<|.int 0) rfl rfl;by_cases c:r.getD q 0=0
 ·rw[Hf c]at rd;ext d3S;show .rt FZ
 ·rw[Hg c]at rd;ext d3j;show .nx Gk #[b7 (xs:=r.zip ld) c0N (by rw[J7];lia) λe79=>#[yn,wZ,#[1,#[wZ,#[3],#[hp,?_]],1],#[hp]],?_]
  ·let:=Mx.Np.at hp hf q;show .inl vF
  ·rw[<- IX];show UX ĉ
inductive EQ (c7r):Ä
 |mk {p n:Int}:My.O2 p=true->p<=1000000->0<n->n<p->EQ C wY (.int (My.bk p n))
def a4u [Bx:Bd](T)(Lo)(LY):Tm 3 "back" "Field.back" (e51 5) æ (d8L EQ):=by
 let OF:=T.fl;show N7 ["rest","made"] ?_ λd9Y=>(qC (d9R qs 2 Lo ŵ)
 (qC (qI (e97 dI)
  j8
  q0)
 (qC (qs 3 ND dI)
 (qC (qW Hr (e4C (Đ 2) dI)
  (qC (d9R qs 3 LY (da (Đ 3)<|da (e9h dI<|e2J uS (Đ 2)) Lp))
 (d9A 2 (e0O uS<|Đ 2))))
 An))))
 rintro _ _ @⟨p,n,hP,W7,h0,h1⟩;ext d2G;let hp:0<p:=#[]
 let en:=IW #[] h1;let r0:=eq_int (ε:=[some<|fD C p,some<|.int n,some<|.int n,none]) (ra:=rV 2) (rb:=rC<|.int 0) rfl rfl;rw[Hg<|by lia]at r0;show .nx #[wZ,#[2],(by let:=RD.mk (C:=C) (n:=n) hp;rwa [en]at this)]<|.nx (.f r0 rfl) (.nx ⟨rfl⟩ ?_);show dR (b:=(n,1)) (λb ε=>ε=[.fz<|fD C p,.fz<|.int n,.fz<|.int b.1,.fz<|.int b.2]/\0<b.1/\b.1<p/\My.Inv p n b.1 b.2) (λb=>b.1.toNat) #[1,h0,h1,My.Sn Ve (by rw[Im _<|by lia];show en)] λb e3y=>?_;let#[he,r0,r1,I]:=gR;subst he;let rd:=ne_int (ε:=[some<|fD C p,some<|.int n,some<|.int b.1,some<|.int b.2]) (ra:=rV 2) (rb:=rC<|.int 1) rfl rfl;by_cases c:b.1=1
 ·rw[Hg λz=>z c]at rd;rw[c]at I;show .inl #[rd,1,by rw[My.Xs I.lo I.hi<|My.VD I]]
 ·rw[Hf c]at rd;let l:=My.Xr hP r0 c r1;let m0:=I.lo;let m1:=I.hi;show .inr #[rd,(p % b.1,b.2 * (0 - p / b.1) % p),_,.nx #[wZ,#[1,#[1,#[#[3],1,#[r0,#[]]],pE],1],#[hp,.inl vF]] #[#[3],1,#[r0]],#[1,l.1,#[],My.Xq I Ve r0],by change (p % b.1).toNat<b.1.toNat;lia]
inductive b0p:Ä
 |mk {r:Ξ}{m:Nat}:m<=r.length->r.length<=1000->b0p [rw r,.int m] (Dr (Mx.M0 r m))
def b6v [Bx:Bd](T):Tk 1 "first_place" (top 49) FW (Pr b0p):=by
 show N7 ["place"] ?_ λd9Y=>(qC (e1g vh CG (aI 2)
  (q1 (qI (e4C (Mz hr (Đ 0)<|Đ 2) dI)
  jc
  q0)))
 jr)
 rintro _ _ @⟨r,m,hm,hl⟩;show ?_;show gT _ b2Z (λa=>decide (Mx.e r a≠0)) (λa=>.int<|a) ⟨_,rfl⟩ ⟨m,#[],⟨rfl,rfl⟩,(bO _).symm⟩ (λa ε ha gR=>?_) (λa h=>by ext1 Mx.M0;rw[h];rfl) λh ε _=>#[1,by ext1 Mx.M0;rw[h];rfl]
 ext d3v;let ha:=HP.mp ha;ext d5Q;let rd:=ne_int (ε:=([Sl.fz<|rw r,.fz<|.int m,o].set 2<|.fz (.int a)).map Sl.a) (ra:=e18 A7<|rV 2) (rb:=rC<|.int 0) #[2,.l .lst<|dE #[]] rfl
 cases c:decide (Mx.e r a≠0) with
 | false=>ext d8A
 | true=>ext d8c
abbrev Bz (l:À):D:=.lst (l.map λ(a:Nat)=>.int (a:Int))
inductive cO:Ä
 |mk {t:Θ}{m:Nat}:t.length<=1000->(∀ r∈t,m<=r.length/\r.length<=1000)->cO [tb t,.int m] (Bz (Mx.Ml t m))
def b2i [Bx:Bd](OA:Mh 1 "first_place" FW (Pr b0p)):Tk 2 "lead_places" (top 50) ["rows","many"] (Pr cO):=by
 show N7 ["places"] ?_ λd9Y=>(qC (e28 (e53 (d9B FW) NR
  Ĕ
  P4
  (λe0i=>dF OA hr.m rfl<|e0S ŵ)) rfl)
 (qr (e0y b9K qL
  Ĕ
  (λe0i=>bK<|e9i (Đ 0) SH)
  ĵ)))
 rintro _ _ @⟨t,m,hl,hw⟩;show .nx #[e52 hl λe2T=>#[_,lP,#[(hw r hr).1,(hw r hr).2]]] #[bd (h:=Dr) Option.isSome #[1,by rw[GY];show .l .lst] Ĵ λo _=>#[_,1,#[2,by cases o <;> show⟨⟩],λ_=>rfl],?_];ext1 Mx.Ml;congr 2;clear hl hw
 induction t with
 | nil=>rfl
 | cons r t ih=>
  rw[HE]
  cases c:Mx.M0 r m with
  | none=>cbv
  | some a=>
   injection ih with ih;rw[List.filter_cons_of_pos rfl,HE,<- ih];rfl
structure YA (p:Int)(w:Nat)(t:Θ):Prop where
 sh:Mx.Sh p w t
 Mt:t.length<=100
 nar:w<=200
inductive c3s (c7r):Ä
 |mk {p:Int}{t:Θ}{st a q wd:Nat}:My.O2 p=true->p<=1000000->YA p wd t->q<wd->st<=a->a<t.length->Mx.e B4 q≠0->c3s C [fD C p,tb t,.int st,.int a,.int q] (tb (Mx.cleared p EX t st a q))
def WhR [Bx:Bd](T)(Sx:Mh 3 "scaled" b6i (d8L TgD))(R9:Mh 3 "without" b3z (d8L a8s))(OX:ML 3 C "back" æ (d8L EQ)):Tk 4 "cleared" (top 47) b1p (d8L c3s):=by
 show N7 ["lead","others"] ?_ λd9Y=>(qC (qs 5 ND<|dF Sx hr.m rfl (da (Đ 0)<|da b9c (d9h (e3P OX hr.m<|da (Mz hr b9c<|Đ 4) Lp))))
 (qC (e8C (aQ (i:=6) ND rfl rfl rfl (cS 1 [0,4,5] ["row","field","place","lead"]) (av<|Tj (Yv (Đ 1) Yu<|Yt (Đ 3)) (Yv (Đ 1) (Yt<|f07 dI) Yu))
  Ĕ
  P4
  (λe0i=>dF R9 hr.m rfl<|e0l b5Q)) rfl)
 (qr<|Tj (Tj (Yv (Đ 6) Yu<|Yt (Đ 2)) (c7<|e0T Lp).p) (Yv (Đ 6) (Yt<|Đ 2) Yu))))
 rintro _ _ @⟨p,t,st,a,q,wd,hP,W7,S,hq,hs,ha,Wo⟩;ext d3a;let nar:=S.nar;let ma:=iu (z:=[]) ha;let wa:=S.sh.PZ _ ma;let fa:=Mx.Np.at #[0] (S.sh.fit _ ma) q;let f0:0<Mx.e B4 q:=#[0]
 let hb:=My.a5s hP f0 fa.2;let mt:∀ {r},r∈t.take a++t.drop (a+1)->r∈t:=λh=>(Hx.mp h).elim IN List.mem_of_mem_drop;let ra:e18 ZU DJ [some<|fD C p,some<|tb t,some<|.int st,some<|.int a,some<|.int q,none,none] (rw B4):=#[2,.l .lst<|c0r ha]
 let cd:uB vP none (!(a:Int))++uB vP (some<|(a:Int)+1) none=(t.take a++t.drop (a+1)).map rw:=by rw[cF,show ((a:Int)+1)=((a+1:Nat):Int) from rfl,iD,GZ,Jl,KH]
 show .nx #[#[1,ra,#[wZ,#[#[ra,1,.l .lst<|dE #[0]],1],⟨hP,W7,f0,fa.2⟩],1],⟨#[0],hb.1,L1 (Int.le_of_lt hb.2) W7,#[0]⟩] (.nx ⟨b7 (xs:=t.take a++t.drop (a+1)) (u:=rw) (h:=λr=>rw (Mx.without p r (Mx.scaled p B4<|My.bk p (Mx.e (t.getD a []) q)) q)) ⟨⟨⟨rfl,.lst,rfl,⟨rfl⟩,rfl⟩,⟨rfl,.lst,⟨⟨rfl,rfl,.i⟩⟩,rfl,rfl⟩,.l ?_⟩,by rw[cd];show .l .lst⟩ ?_ λe2T=>#[_,1,#[5],#[#[0],W7,qm,?_]]⟩ #[#[#[c0O,u8,.l ?_],#[1,.lst,#[1],2],.l ?_],?_])
 ·rw[<- Hn,cd];simp;omega
 ·simp;omega
 ·rw[S.sh.PZ r<|mt hr];omega
 ·rw[S.sh.PZ r<|mt hr];show hq
 ·show S.sh.fit r (mt hr)
 ·rw[cF];simp;omega
 ·rw[cF,iD];simp;omega
 ·rw[cF,iD];ext1 Mx.cleared;change Fl.rt (.lst<|List.map rw (_++[_]++_))=_;rw[GZ,GZ,Jl,KH,GY];rfl
open e
variable {C:Addr}
abbrev red (c84):Θ:=(e5k m).1
inductive kh (c7r):Ä
 |mk {p:Int}{m wd:Nat}{t:Θ}:My.O2 p=true->p<=1000000->YA p wd t->m<=wd->kh C yQ (tb Fp)
def c3E (hP)(S:YA p wd t)(i):∃ ps,(e5k i).2=ps.length/\Mx.RR p wd i wH ps/\(red p t i).length=t.length/\YA p wd wH:=by ext d2G;let#[ps,ic,_]:=Mx.RR.run #[0] oB S.sh i;show#[ps,h1,h2,h3,h2.sh,by rw[h3];show S.Mt,S.nar]
def a4y [Bx:Bd](T)(OT:Mh 2 "fitted_row" ["field","row"] (d8L Ot))(Qd:Mh 1 "row_with" b6j (Pr PF))(Rf:Mh 4 "cleared" b1p (d8L c3s)):Tk 5 "reduced" (top 48) â (d8L kh):=by
 show N7 ["rows","start","place","at"] ?_ λd9Y=>(qC (e28 (e2p (cS 1 [0] ["row","field"]) Pi
  Ĕ
  P4
  (λe0i=>dF OT hr.m rfl<|e0l ŝ)) rfl)
 (qC (qs 4 ND dI)
 (qC (e1g nA A6 (aI 5)
  (qC (qs 6 ND<|dF Qd hr.m rfl (da (Đ 3)<|e10 wo))
 (q1 (qI (e9i (Đ 6) SH)
  (qC (qs 3 ND<|dF Rf hr.m rfl (da (Đ 0)<|e1h (da (Đ 4)<|e2q wo)))
 (q1<|sG (yA (i:=4) ND rfl yu dI b6X)))
  q0))))
 An)))
 rintro _ _ @⟨p,m,wd,t,hP,W7,S,hm⟩;ext d3a;let nar:=S.nar;show .nx #[b7 (h:=rw) m8 #[] λe2T=>#[_,lP,?_]] ZQ
 ·let:=Ot.mk (C:=C) (p:=p) #[] (by rw[S.sh.PZ r hr];lia);rwa [Mx.UC<|S.sh.fit r hr]at this
 show cW lT (λf2q=>∃ o5 o6,ε=[.fz<|fD C p,.fz<|tb t,.fz<|.int m,.fz<|tb wH,.fz<|.int ((e1n (My.bk p) t i).2:Nat),o5,o6]) ⟨_,_,rfl⟩ ⟨m,#[],⟨rfl,rfl⟩,(bO _).symm⟩ (λe2O=>?_) λe3y=>?_
 ·let#[o5,o6,he]:=gR;let#[1,hi]:=jB hx;subst he;let#[ps,ic,Sr]:=c3E hP S i;let TY:(e5k i).2<=(red p t i).length:=by rw[h1];show h2.len
  let UK:=Mx.Qu p EX t i;unfold Mx.step at UK;let hf:=Sr.Mt;ext d5Q;let c1:=PF.mk (st:=(e5k i).2) (q:=i) #[] TY #[] λe2T=>by rw[e9L hr];lia
  cases hrw:Mx.MG wH (e5k i).2 i with
  | none=>
   rw[hrw]at c1 UK;show#[_,.nx u7<|.f nX rfl,_,_,by ext1 red;rw[UK];rfl]
  | some a=>
   let#[pU]:=Mx.Qv hrw;rw[hrw]at c1 UK;show#[_,.nx u7<|e7B (.nx #[#[6],#[hP,W7,Sr,#[],pU]] #[2]),_,_,by ext1 red;rw[UK];rfl]
 ·let#[o5,o6,he]:=gR;subst he;rw[HV];show#[2]
abbrev MI (c84):À:=Mx.Ml Fp m
theorem vE (d1m):D:=if (MI p Ŋ m).length<m then .non else tb (((e6E m).take m).map (List.drop m))
inductive RS (c7r):Ä
 |mk {p:Int}{m:Nat}{t:Θ}:My.O2 p=true->p<=1000000->YA p m t->m<=100->RS C yQ (vE p t m)
def a91 (r o:Ξ):rw (r++o)=.lst (r.map .int++o.map .int):=e2e GZ
def a2b [Bx:Bd](T)(Nz)(MC)(NP):Tk 6 "reader" (top 51) â (d8L RS):=by
 show N7 ["joined","rows"] ?_ λd9Y=>(qC (qS (e2p (cS 2 [] ["row","own"]) (e9j T.NW<|e0l (d9h (dF Nz hr.m rfl<|da CJ Lp)))
  Ę
  P4
  (λe0i=>Tj (Đ 0)<|Đ 1)) λd97=>nF (n:=2))
 (qC (qs 4 ND<|f1W b5Q)
 (qC (qI (e3R (eL T.M8<|f1X b5S)<|Đ 2)
  jr
  q0)
 (qr (e0y (cS 1 [2] FW) (av<|Yv (Đ 4) Yu (Yt<|Đ 2))
  Ĕ
  P4
  (λe0i=>Yv (Đ 0) (Yt<|Đ 1) Yu))))))
 ext d6q;ext d3a;let Sj:YA p lA Ŋ:=#[Mx.QW #[0] S.sh,by rw[Mx.Nk];show Mt,#[0]]
 let#[ps,ic,Sr]:=c3E hP Sj m;let hf:=Sr.Mt;show .nx #[cy (xs:=t.zip<|Mx.ones t.length) (u:=λz=>.tup [rw z.1,rw z.2]) (h:=λz=>rw (z.1++z.2)) #[_,_,#[1,#[#[uH,1],AE],1],by rw[jw,GY];rfl] (by rw[J7];omega) (λe79=>#[yn,2,?_]) ?_] (.nx #[#[4],#[hP,W7,Sj,#[0]]] ?_)
 ·let h1:=S.sh.PZ _ (Jf hz).1;let#[j,_,h2]:=GX.mp (Jf hz).2;let h2:z.2.length=t.length:=by rw[<- h2];simp[Mx.Ll]
  rw[a91];show .l (by rw[GS,GS];omega)
 ·ext1 Mx.joined;rw[<- IX,show tb _=.lst FG from rfl,GY];rfl
 let rd:=lt_int (ε:=[some<|fD C p,some<|tb t,some<|.int m,some<|tb Ŋ,some<|tb qX]) (ra:=rF OZ<|rA (rF cO<|rA (rV 4) (rA (rV 2) SI)) SI) (rb:=rV 2) ⟨⟨⟨⟨rfl,rfl,rfl⟩,⟨#[0],λe2T=>by rw[e9L hr];omega⟩⟩,rfl⟩,OZ.m⟩ rfl;ext1 vE;ext d4c
 ·ext d3S;rw[Hf<|Int.ofNat_lt.mpr c]at rd;show .rt FZ
 ·ext d3j;rw[Hg λz=>c<|Int.ofNat_lt.mp z]at rd;show .nx (.f rd rfl) ⟨b7 (u:=rw) ⟨⟨rfl,.lst,rfl,⟨rfl⟩,rfl⟩,by rw[cF,Jl];show .l .lst⟩ (by rw[Hm];omega) λr _=>#[_,2,.lst,#[1],1,by rw[iD,<- KH]],tbm ĉ⟩
theorem gy (d1m):À:=(List.range m).filter λq=>not (decide si)
theorem mM (d1m):D:=match gy p t m with
 | []=>.non
 | u::_=>rw b4s
def b3U (d1z):∀ (l:Ð)(v:Ξ),Mx.Nv p u l v=l.foldl (λb z=>b.set z.2 ((0 - Mx.e z.1 u) % p)) v:=by
 intro r'
 induction r' with
 | nil=>
  ext d48
 | cons _ l ih'=>
  intro _;show ih' _
def c6a (l:À):Bz l=rw (l.map λ(a:Nat)=>(a:Int)):=by rw[show rw _=.lst (List.map D.int _) from rfl,GY];rfl
inductive Loc (c7r):Ä
 |mk {p:Int}{m:Nat}{t:Θ}:My.O2 p=true->p<=1000000->YA p m t->Loc C yQ (mM p t m)
def c0W [Bx:Bd](T)(MC)(NP)(MN)(ME):Tk 6 "nought" (top 52) â (d8L Loc):=by
 show N7 ["rows","places","unled","told","row","place"] ?_ λd9Y=>(qC (qs 3 ND<|f1W b5T)
 (qC (qs 4 ND<|f1X (da (Đ 3)<|e01 Lp))
 (qC (qS (e2r (cS 1 [4] ["place","places"]) nA
  Ĕ
  b0Y
  ĵ) λd97=>nF (K:=Bx.K) (n:=0))
 (qC (qI (e0H (d8U 5) dI)
  jr
  q0)
 (qC (qo 6 ND<|dFN MN hr.m rfl (da (Đ 2)<|da c1y Lp))
 (qC (e1g (e9j T.NW<|e1h A4) a9e (cH Bx.K [7,8])
  (q1<|qSI (yB (e3P ME hr.m<|da dI (d9h (Mz hr (Đ 7)<|Mz hr (Đ 5) dI)))<|a0l (pv 6) (Đ 8) b6E) (λe0N=>h)))
 yK))))))
 rintro _ _ @⟨p,m,t,hP,W7,S⟩;let Ve:2<=p:=((My.Lz p).mp hP).1;let nar:=S.nar;let#[ps,ic,Sr]:=c3E hP S m;let hf:=Sr.Mt;let eps:f08 m=ps:=Mx.MS h2;show .nx #[#[4],#[hP,W7,S,Hl _]] (.nx #[#[3],#[#[0],λe2T=>by rw[e9L hr];omega]] (.nx #[bd (xs:=List.range m) b68 #[m,#[0],#[2],(bO _).symm] (by rw[HV];omega) λq _=>#[_,1,#[2,?_],λ_=>rfl]] ?_))
 ·let:=jO (n:=true) (i:=q) (ks:=(f08 m).map λ(a:Nat)=>(a:Int));rw[<- c6a,if_pos rfl]at this;rwa [show decide ((q:Int)∈(f08 m).map λ(a:Nat)=>(a:Int))=decide si from JG.mpr #[λh=>let ⟨a,h1,h2⟩:=GX.mp h;Int.ofNat.inj h2▸h1,Ho]]at this
 rw[show (List.range m).filter b68=e7C m from rfl];let rd:=eq_int (ε:=[some<|fD C p,some<|tb t,some<|.int m,some<|tb Fp,some<|Bz Bg,some<|Bz (e7C m),none,none,none]) (ra:=rF OZ<|rA (rV 5) SI) (rb:=rC<|.int 0) uH rfl;ext1 mM
 cases hu:e7C m with
 | nil=>rw[hu]at rd;show .rt FZ
 | cons u us=>
  rw[hu]at rd;rw[Hg (by simp;omega)]at rd;let um:u<m:=HP.mp (Hw.mp (by rw[show (List.range m).filter _=e7C m from rfl,hu];show Hi:u∈(List.range m).filter λq=>not (decide si))).1;show .nx Gk (.nx #[#[1,b2c,1],AE] ?_);show b3w ((red p t m).zip<|f08 m) (u:=λz=>.tup [rw z.1,.int (z.2:Int)]) (λb ε=>b.length=m/\∃ o7 o8,ε=[.fz<|fD C p,.fz<|tb t,.fz<|.int m,.fz<|tb Fp,.fz<|Bz Bg,.fz<|Bz (u::us),.ow<|rw b,o7,o8]) (λb z=>b.set z.2<|(0 - Mx.e z.1 u) % p) (b:=Mx.Ll m u) ⟨Mx.LF _ _,_,_,rfl⟩ ⟨_,_,⟨rfl,rfl,rfl⟩,by rw[jw,GY];rfl⟩ (λb e5w=>?_) λe3y=>?_
  ·ext d68;let hq:z.2<m:=h2.lt _<|eps▸(Jf hz).2;let hw:=Sr.sh.PZ _ (Jf hz).1;show#[_,#[_,3],_,#[1,.z #[wZ,#[1,#[1,b2c,.l .lst<|dE #[0]],1],AE],1,c5X<|by simpa [hb] using hq],by simpa using hb,.fz<|rw z.1,.fz<|.int (z.2:Int),?_];rw[show rw (b.set ĉ)=.lst (List.map D.int<|b.set _ _) from rfl,List.map_set];rfl
  ·ext d68;show#[1,by change Fl.rt (rw (Mx.Nv p u ĉ))=_;rw[b3U]]
theorem fm (d1m):D:=match vE p t m with
 | .non=>.tup [c6V,mM p t m]
 | d=>.tup [.str "reads",d]
inductive a6r (c7r):Ä
 |mk {p:Int}{m:Nat}{t:Θ}:My.O2 p=true->p<=1000000->YA p m t->m<=100->a6r C yQ (fm p t m)
def a07 [Bx:Bd](Sy:Mh 6 "reader" â (d8L RS))(Sz:Mh 6 "nought" â (d8L Loc)):Tk 7 "judgement" (top 65) â (d8L a6r):=by
 show N7 ["read"] ?_ λd9Y=>(qC (qs 3 ND<|dF Sy hr.m rfl b5T)
 (qC (qI (e9i (Đ 3) SH)
  (qr<|i7 (da jk<|e1h Lp))
  q0)
 (qr<|i7 (da jk<|da (dO c5J A9 (c7<|da dI Lp).p<|Đ 2) (d9h (dF Sz hr.m rfl<|e0S b5U))))))
 ext d6q;let c1:=RS.mk (C:=C) hP W7 S hm;ext1 fm;unfold vE at c1 ⊢;ext d4c
 ·rw[if_pos c]at c1 ⊢;show .nx u7 (.nx kT #[#[#[1,#[u8,1,#[#[]]],#[#[4],#[hP,W7,S]],1],kR],by rw[show rw _=.lst _ from rfl,List.map_replicate];rfl])
 ·rw[if_neg c]at c1 ⊢;show .nx u7 (.rt<|e7B #[v8,1])
open e
abbrev gD (c:Cl)(p:Str×Kd):D:=.ins (c.of p.2) sT [.str p.1]
abbrev bu (t:LS):D:=.tup a8l
abbrev D9 (c:Cl)(S:NS):D:=MU nG
abbrev a35 (S:NS):D:=MU (S.Lj.map λt=>(.inl t.1,bu t))
abbrev aH (c:Cl)(S:NS):D:=.ins c.Mj ["kept_posts","kept_ties","next_number"] [D9 c S,a35 S,.int S.next]
abbrev br (l:η):D:=.lst (l.map .str)
abbrev aZ (c7t):D:=.lst qQ
theorem NS.names (S:NS):η:=S.Lu.map (·.1)
theorem NS.LL (S:NS):η:=(S.Lu.filter λp=>rdB p.2).map (·.1)
theorem NS.Mi (S:NS):Option (Str×Kd):=S.Lu.find? λp=>not (VG p.2)
theorem rM:Option (Str×Kd)->D
 | none=>.non
 | some p=>.str p.1
def b5N {S:NS}:(cQ nG ou).isSome=decide (x∈S.names):=j5
variable {c:Cl}
def Cl.Ok.fp' [Bx:Bd](O):∀ C,C=c.Mj->e6C C/\Mb Bx.K C "kept_posts":=λ_ h=>h▸#[O.cn,O.fp]
def Cl.Ok.ft' [Bx:Bd](O):∀ C,C=c.Mj->e6C C/\Mb Bx.K C "kept_ties":=λ_ h=>h▸#[O.cn,O.ft]
def Cl.Ok.nm' [Bx:Bd](O):∀ C,ju c C->e6C C/\Mb Bx.K C "name":=λ_ gR=>by let#[k,h]:=gR;show h▸#[O.cls k,O.nam k]
inductive iJ (b:Bool):Ä
 |mk {d:D}:iJ b [d] AN
def dQ [Bx:Bd](F:e4l Þ (fM AN)):e4l Þ (Pr (iJ b)):=F.imp fun vs H Q E ⟨_,_,_,s,h,⟨⟩,q⟩=>let ⟨v,ws,e,_,e2⟩:=h;#[v,by rw[e,e2],q _ H ě rfl]
inductive bT (c:Cl):Ä
 |mk {S:NS}{x:Str}:x.length<=1000->gf x=true->x∉S.names->bT c tS .non
inductive QL:Ä
 |mk {x:Str}:x.length<=1000->QL [.str x] (.bl (gf x))
def b2p [Bx:Bd](O)(Rc:Mh 1 "is_name" sT (Pr QL)):Tm 2 "check_new_name" "Net.check_new_name" (d83 4) Ý (d89 bT):=by
 ext d49;show dw [] ?_ λd9Y=>(qC (qI (GB<|dV (df<|dF Rc hr.m rfl ŵ))
  j8
  q0)
 (q1 (qI (e54 (Đ 1)<|V0 LG (Đ 0))
  j8
  q0)))
 rintro _ _ @⟨S,x,hx,h1,h2⟩;let d1:=QL.mk hx;rw[h1]at d1;show#[1,.inr #[1,_,.nx (.f #[#[2],d1] rfl)<|.f #[lP,e12 rfl (by rw[b5N,Hg h2];rfl)] rfl]]
inductive b43 (c:Cl):Ä
 |mk {S:NS}:b43 c yP (br S.names)
def b8S [Bx:Bd](O)(c73):Tm 1 "names" "Net.names" (d83 11) Þ (d89 b43):=by
 ext d49;show N7 [] ?_ λd9Y=>(qr<|e2s boot_list (d9h (V0 LG<|Đ 0)))
 rintro _ _ @⟨S⟩;show#[#[#[#[3],1],.k],by rw[GY];change Fl.rt b2x=_;rw[GY];rfl]
inductive bC (c:Cl):Ä
 |mk {S:NS}:S.Lu.length<=1000->bC c yP (br S.LL)
def b04 (d0c)(f:α->Ws)(g:α->D):l.map g=(l.map λx=>zD).map (·.2):=by rw[GY];rfl
def a6Q [Bx:Bd](O)(PH):Tm 2 "listeners" "Net.listeners" (d83 12) Þ (d89 bC):=by
 ext d49;let Ua:=O.nm';show N7 [] ?_ λd9Y=>(qr (dLv 0 rfl (cS 1 [] ["post"]) c0P
  Ĕ
  (λe0i=>bK<|dV (df<|GC (Đ 0) PH hr.m))
  (λe0i=>V0 Ua<|Đ 0)))
 rintro _ _ @⟨S,hl⟩;show#[bd (λp=>rdB p.2) xY hl λp _=>#[_,1,#[1,#[_,1],by decide,by rw[<- gW O];show⟨⟩],λ_=>#[1,#[_,1],1]],by change Fl.rt b2x=_;rw[GY];rfl]
inductive ya (c:Cl):Ä
 |mk {S:NS}:ya c yP (rM S.Mi)
def b4Q [Bx:Bd](O)(PJ):Tm 2 "home" "Net.home" (d83 13) Þ (d89 ya):=by
 ext d49;let Ua:=O.nm';show N7 ["post"] ?_ λd9Y=>(qC (qLv Hr rfl c0P (pN 1 ND) (aI 1)
  (q1 (qI (GB<|dV (df<|GC (Đ 1) PJ hr.m))
  (qr<|V0 Ua (Đ 1))
  q0)))
 jr)
 rintro _ _ @⟨S⟩;show ?_;show gT S.Lu (λε=>∃ o,ε=[.fz _,o]) (λp=>not (VG p.2)) (λp=>.str p.1) #[_,1] xY (λp ε _ gR=>?_) (λp h=>by ext1 NS.Mi;rw[h];rfl) λh ε _=>#[1,by ext1 NS.Mi;rw[h];rfl]
 ext d3v;let hb:iJ b2y [gD c p] (.bl<|VG p.2):=by rw[<- i5 O];show⟨⟩
 ext d5Q
 cases z:VG p.2 with
 | true=>rw[z]at hb;show#[_,.f b6n rfl,_,1]
 | false=>rw[z]at hb;show .t b6n #[#[1,#[_,1],1],1]
inductive iS (c:Cl):Ä
 |mk {S:NS}:S.Lj.length<=1000->iS c yP (aZ S.Lj)
def b4a [Bx:Bd](O):Tm 1 "ties" "Net.ties" (d83 14) Þ (d89 iS):=by
 let Ub:=O.ft';show N7 [] ?_ λd9Y=>(qr (dLv 4 rfl (cS 4 [] [Ai]) (b5R<|V0 Ub (Đ 0))
  ģ
  P4
  (d8K BV)))
 rintro _ _ @⟨S,hl⟩;show#[b7 xY hl λt _=>#[yn,#[5],kR],1]
inductive cP (c:Cl):Ä
 |mk {S:NS}{x:Str}:x∈S.names->cP c tS .non
def b41 [Bx:Bd](O):Tm 1 "check_there" "Net.check_there" (d83 8) Ý (d89 cP):=by
 ext d49;show dw [] ?_ λd9Y=>(q1 (qI (e4X (Đ 1)<|V0 LG (Đ 0))
  j8
  q0))
 rintro _ _ @⟨S,x,h⟩;show#[1,.inr #[1,_,.f #[lP,e12 rfl (by rw[b5N,Hf h];rfl)] rfl]]
theorem NS.into (S:NS)(x):Ξ:=(S.Lj.filter λt=>decide Ř).map (·.1)
theorem NS.NU (S:NS)(x):Ξ:=(S.Lj.filter λt=>decide wB).map (·.1)
inductive pJ (c:Cl)(g:NS->Str->Ξ):Ä
 |mk {S:NS}{x:Str}:S.Lj.length<=1000->x∈S.names->pJ c g tS (rw (g S x))
def eq_str (d0w):e7U b81:=e7y (e4W rfl<|e1Q (by show JG.mpr #[congrArg V.str,V.str.inj]))
def b42 [Bx:Bd](LB)(Lq):Tm 2 "into" "Net.into" (d83 15) Ý b9M:=by
 show N7 [] ?_ λd9Y=>(qC zq
 (qr (e9k a7u Gq
  ģ
  (λe0i=>bK<|e97 (Đ 4))
  ĵ)))
 ext d40
def b2w [Bx:Bd](LB)(Lq):Tm 2 "out_of" "Net.out_of" (d83 16) Ý c1A:=by
 show N7 [] ?_ λd9Y=>(qC zq
 (qr (e9k a7u Gq
  ģ
  (λe0i=>bK<|e0H (Đ 1) (Đ 4))
  ĵ)))
 ext d40
open e
inductive iT (c7t)(x:Str):Str->Prop
 |refl:iT ts x x
 |step {t:LS}:t∈ts->iT ts x t.2.1->iT ts x t.2.2.1
abbrev oK (R:η):D:=MU (R.map λy=>(.inr y,.bl true))
def a4V {R:η}:(cQ (R.map λy=>b6o) (.inr y)).isSome=decide (y∈R):=by simp[j5,Ks]
abbrev lh (nm:Str)(b:List Str×η)(t:LS):List Str×η:=if t.2.1=nm/\t.2.2.1∉b.1 then b9N else b
inductive Cq (c7t)(R':η):Nat->List Str×List Str->Prop
 |done:Cq ts R' 0 (R',[])
 |step {n:Nat}{R W:η}{nm:Str}:Cq ts R' n (ts.foldl ga (R,W))->Cq ts R' (n+1) (R,W++[nm])
theorem nN (c7t)(R:η):Nat:=ts.countP λt=>decide (t.2.2.1∉R)
def a6x (ht:t∈ts)(h:t.2.2.1∉R):nN ts (R++gn)<nN ts R:=by
 let#[a,b,1]:=List.append_of_mem ht;ext1 nN;let k:∀ l:List LS,l.countP (λu=>decide (u.2.2.1∉R++gn))<=l.countP λu=>decide _:=λl=>List.countP_mono_left λu _ z=>Hf λy=>HB z<|HK _ y;let:=k a;let:=k b;rw[List.countP_append,List.countP_append,List.countP_cons_of_neg<|by simp,List.countP_cons_of_pos<|by simpa using h]
 lia
structure GO (c7t)(x:Str)(b:List Str×η):Prop where
 ld:∀ y∈b.1,iT ts x y
 Mt:b.1.length+nN ts b.1<=1+ts.length
def c1t (hn:iT ts x nm):∀ (us:List LS)(b:List Str×η),(∀ t∈us,t∈ts)->GO ts x b->(∀ y∈b.2,y∈b.1)->GO ts x (e29 b)/\(∀ y∈(e29 b).2,y∈(e29 b).1)/\2 * nN ts (e29 b).1+(e29 b).2.length<=2 * nN ts b.1+b.2.length:=by
 intro r'
 induction r' with
 | nil=>
  intro b _ I h;show #[I,h,Hl _]
 | cons t us ih'=>
  intro b ht I h;rw[IG];let Qm:=λu hu=>ht u<|He _ hu;by_cases c:t.2.1=nm/\t.2.2.1∉b.1
  ·let ol:=a6x (ht t Hi) c.2;rw[show lh nm b t=_ from if_pos c];let#[ic]:=ih' b9N Qm #[λe16=>(Hx.mp hy).elim (I.ld y) λz=>by rw[Ht.mp z];show .step (ht t Hi)<|c.1▸hn,by let:=I.Mt;simp;lia] λe16=>(Hx.mp hy).elim (λz=>HK _<|h y z)<|Hq _;show#[h1,h2,by simp at h3 ol ⊢;lia]
  ·rw[show lh nm b t=_ from if_neg c];show ih' b Qm I h
def a6Z:∀ (n:Nat)(R W:η),2 * nN ts R+W.length<=n->GO ts x (R,W)->(∀ y∈W,y∈R)->∃ R' k,Cq ts R' k (R,W)/\GO ts x (R',[]):=by
 intro n
 induction n with
 | zero=>
  ext d3w
  ·show#[c6x]
  ·simp at hn
 | succ n ih=>
  ext d3w
  ·show#[c6x]
  ·rw[List.concat_eq_append]at hn h I ⊢;let#[ic]:=c1t (I.ld nm<|h nm (by simp)) ts (R,W) (λ_ z=>z) #[I.ld,I.Mt] λe16=>h y C4;let#[R',k,a,b]:=ih ĉ (by simp at hn h3;lia) h1 h2;show#[R',k+1,.step a,b]
def a0J (c7t)(x):∃ R n,Cq ts R n ([x],[x])/\(∀ y∈R,iT ts x y)/\R.length<=1+ts.length:=by let#[R,n,ic]:=a6Z (ts:=ts) _ [x] [x] kJ #[λe16=>by rw[Ht.mp hy];show .refl,by simp[nN,List.countP_le_length]] λ_ z=>z;show#[R,n,mh,by grind]
inductive b8l:Ä
 |mk {ts:List LS}{x:Str}{R:η}{n:Nat}:ts.length<=900->Cq ts R n ([x],[x])->b8l [aZ ts,.str x] (oK R)
def a6Y [Bx:Bd](c73):Tk 1 "led_to" (top 27) c2s (Pr b8l):=by
 show N7 ["reached","waiting","name",Ai] ?_ λd9Y=>(qC (qo 2 ND<|dD1 (Đ 1) Eg)
 (qC (qo 3 ND<|c7 ŵ)
 (qC (qW Hr (e6F xu dI)
  (qC (a7C<|pS 4 ND (b0d Bx.K Hu PySem.F.slot_list_pop PySem.F.type_list_pop a0E<|pv 3))
 (q1 (e8U (e07 rfl<|ae A6 (ae xy<|ae jZ (ae FB aD))) (cH Bx.K [5,6,7,8])
  (q1 (qI (PW.pt<|xM (e0H (Đ 6)<|Đ 4) (eX<|e4X (Đ 7) (Đ 2)))
  (qC (d9r (e3w zB (Đ 7) Eg rfl))
 (q1<|qA (aA<|d92 (pv 3) (a8 (Đ 7) K')) (λe0N=>h)))
  q0))))))
 jc)))
 rintro _ _ @⟨ts,x,R,n,hl,L⟩;show .nx #[#[1,kS,2]] (.nx #[u8] ?_);let o0:nN ts [x]<=ts.length:=List.countP_le_length;show dR (b:=(n,[x],[x])) (λb ε=>Cq ts R b.1 b.2/\b.2.2.length<=b.2.1.length/\b.2.1.length+nN ts b.2.1<=1+ts.length/\∃ o4 o5 o6 o7 o8,ε=[.fz<|aZ ts,.fz<|.str x,.ow<|oK b.2.1,.ow<|br b.2.2,o4,o5,o6,o7,o8]) (·.1) ⟨L,Hl _,Nat.add_le_add_left o0 _,_,_,_,_,_,rfl⟩ λe9y=>?_;let#[n,b]:=gR;let#[L,hw,hf,o4,jd]:=Y';dsimp only at L hw hf he;subst he;let rd:=gt_int (ε:=[some<|aZ ts,some<|.str x,some<|oK b.1,some<|br b.2,o4.a,o5.a,o6.a,o7.a,o8.a]) (ra:=rF OZ<|rA DJ SI) (rb:=rC<|.int 0) uH rfl
 cases L with
 | done=>show .inl #[rd,2]
 | @step n R' W nm L=>
  rw[Hf<|by simp]at rd;let hw:W.length+1<=R'.length:=by simpa using hw
  show .inr #[rd,(n,ts.foldl ga (R',W)),lq (ε1:=[.fz<|aZ ts,.fz<|.str x,.ow<|oK R',.ow<|br W,.fz<|.str nm,o5,o6,o7,o8]) (by rw[show br (W++[nm])=.lst (W.map .str++[.str nm]) from congrArg D.lst GZ];show⟨rfl⟩) ?_];show a5b (u:=bu) ts (λb ε=>b.2.length<=b.1.length/\b.1.length+nN ts b.1<=1+ts.length/\∃ o5 o6 o7 o8,ε=[.fz<|aZ ts,.fz<|.str x,.ow<|oK b.1,.ow<|br b.2,.fz<|.str nm,o5,o6,o7,o8]) (lh nm) (b:=(R',W)) ⟨by change W.length<=R'.length;lia,hf,_,_,_,_,rfl⟩ ⟨rfl,.l .lst⟩ (λb e8Y=>?_) λε' gR=>by let#[hb,hf,jd]:=gR;show#[#[L,hb,hf,tR,_,he],IJ _]
  let#[hb,hf,jd]:=gR;subst he;let r1:=eq_str (ε:=[some<|aZ ts,some<|.str x,some<|oK b.1,some<|br b.2,some<|.str nm,some<|.int t.1,some<|.str t.2.1,some<|.str t.2.2.1,some<|.int t.2.2.2]) (ra:=rV 6) (rb:=rV 4) rfl rfl;by_cases c1:t.2.1=nm
  ·rw[Hf c1]at r1;by_cases c2:t.2.2.1∈b.1
   ·show#[_,#[_,3],_,.f (.t r1 #[2,e5l (by rw[a4V,Hf c2];rfl)]) rfl,by rw[show lh nm b t=b from if_neg λz=>z.2 c2];show#[hb,hf,tR,1]]
   ·let ol:=a6x ht c2;show#[_,#[_,3],_,.t (.t r1 #[2,e5l (by rw[a4V,Hg c2];rfl)])<|.nx #[1,by rw[GS];lia,.z rfl,1,kS] #[1,by rw[GS];lia,.z rfl],?_];rw[show lh nm b t=_ from if_pos #[c1,c2]];show#[by simpa using hb,by simp;lia,.fz<|.int t.1,.fz<|.str t.2.1,.fz<|.str t.2.2.1,.fz<|.int t.2.2.2,?_];rw[cr λz=>c2<|by simpa using z];ext d7D;rw[show oK (b.1++[t.2.2.1])=MU (b.1.map (λy=>b6o)++[(.inr t.2.2.1,.bl true)]) from congrArg MU GZ,show br (b.2++gn)=.lst (b.2.map .str++[.str t.2.2.1]) from congrArg D.lst GZ];rfl
  ·rw[Hg c1]at r1;show#[_,#[_,3],_,.f (.f r1) rfl,by rw[show lh nm b t=b from if_neg λz=>c1 z.1];show#[hb,hf,tR,1]]
universe K72
namespace Mw
def Tg [DecidableEq β](g:α->β):∀ (xs:List β)(ts:List α),xs.Nodup->(∀ t∈ts,g t∈xs)->(xs.flatMap λx=>ts.filter λt=>decide (g t=x)).Perm ts
 | [],ts,_,h=>by
  cases ts with
  | nil=>show .nil
  | cons t _=>show absurd (h t<|by simp) Ė
 | x::xs,ts,nd,h=>by
  ext d4q;rw[Jb];let e:(xs.flatMap λy=>ts.filter λt=>decide (g t=y))=xs.flatMap λy=>(ts.filter λt=>not (decide (g t=x))).filter λt=>decide (g t=y):=by
   rw[KF,KF];congr 1;show HA λe16=>?_;rw[List.filter_filter];show Ld λt _=>?_;by_cases c:g t=y
   ·let:¬ g t=x:=λz=>nd.1 (by rw[<- z,c];show hy);simp[c,this];intro z;show this (c.trans z)
   ·simp[c]
  rw[e];let ih:=Tg g xs (ts.filter λt=>not (decide (g t=x))) nd.2 λe4t=>by
   ext d6Y;let h3:=h t h1;rcases Hs.mp h3 with z|z
   ·simp[z]at h2
   ·show z
  show (List.Perm.append_left _ ih).trans (List.filter_append_perm ĉ)
def RY [DecidableEq β]:∀ (l1 l2:List β),l1.Nodup->(∀ x∈l1,x∈l2)->l2.length<=l1.length->∀ x∈l2,x∈l1:=by
 intro r'
 induction r' with
 | nil=>
  intro l2 _ _ hl x hx
  cbv
 | cons a l1 ih'=>
  intro l2 nd sub hl x hx;ext d4q;let ha:=sub a Ė;by_cases c:x=a
  ·rw[c];simp
  ·show He _ (ih' (l2.erase a) nd.2 (λe16=>?_) ?_ x ?_)
   ·grind
   ·grind
   ·cbv
def VW {l1:Ξ}(p:l1.Perm l2)(h1:l1.Pairwise iV)(h2:l2.Pairwise iV):l1=l2:=
 List.Perm.eq_of_pairwise (λa b _ _ h3 h4=>Int.le_antisymm h3 h4) h1 h2 p
universe Mw
namespace K72
open PySem L2
open PyProof.Rows (boot_all boot_bool boot_dict boot_int boot_list boot_sorted boot_str boot_tuple)
structure GL (mg:Ω):Prop where
 Ov:mg "dict"=none
 NX:mg "sorted"=none
variable {c:Cl}{f:Addr}
def a9i {S:NS}(h:x∈S.names):∃ p∈S.Lu,p.1=x/\cQ nG ou=!gD c p:=by let:=f0h (x:=x);rw[Hf h,gK,Option.isSome_map,IQ]at this;let#[p,hp]:=this;show#[p,Ik hp,Sum.inr.inj<|HB (Jq (p:=λp:Str×Kd=>decide (wN=.inr x)) hp),by rw[gK,hp];rfl]
inductive b30 (c:Cl):Ä
 |mk {S:NS}{x y:Str}:x∈S.names->y∈S.names->S.Lj.length<=900->b2C->¬ iT S.Lj y x->b30 c [aH c S,.str x,.str y] .non
def a2R [Bx:Bd](O)(PJ)(LB)(Lq)(SA:Mh 1 "led_to" c2s (Pr b8l)):Tm 2 "check_ends" "Net.check_ends" (d83 7) ã (d89 b30):=by
 ext d49;show dw [] ?_ λd9Y=>(qC zq
 (qC (d9P Led LB Œ)
 (qC (qI (GB<|dV (df<|GC (d9S LG 2) PJ hr.m))
  j8
  q0)
 (q1 (qI (e54 (Đ 1)<|dF SA hr.m rfl (da (e4Y Lq hr.m)<|e01 Lp))
  j8
  q0)))))
 rintro _ _ @⟨S,x,y,hx,hy,hl,hk,hn⟩;let#[p,hp,ep,hv]:=a9i hy;let hb:iJ b2y [gD c p] Ŭ:=by rw[i5 O,hk p hp ep];show⟨⟩
 let#[R,n,jb]:=a0J S.Lj y;show#[1,.inr #[1,_,.nx a6C<|.nx #[#[wZ,#[2],#[hy]]] (.nx (.f #[#[#[3],1,.k hv kS],#[_,1],by decide,hb] rfl)<|.f ⟨rfl,⟨⟨⟨rfl,rfl,by decide,⟨#[]⟩⟩,rfl,rfl⟩,⟨hl,h1⟩⟩,e5l (by rw[a4V,Hg λz=>hn<|h2 x z];rfl)⟩ rfl)]]
theorem gU (ts:η)(b:Str×η):Bool:=not (decide (b.1∈ts))&&b.2.all λy=>decide Dx
theorem bN (bs)(ts:η):Option Str:=(bs.find? (gU ts)).map (·.1)
theorem ZW:Option Str->D
 | none=>.non
 | some x=>.str x
abbrev uI (bs:List (Str×η)):D:=MU (bs.map λb=>(.inr b.1,br b.2))
inductive NN:Ä
 |mk {bs:List (Str×η)}{ts:η}:(bs.map (·.1)).Nodup->(∀ b∈bs,b.2.length<=1000)->NN [uI bs,br ts] (ZW (bN bs ts))
def By (c8j){f:α->Str}(d07):((l.map λx=>((.inr (f x):Ws),g x)).map (·.1)).Nodup:=by
 rw[GY];let:(l.map f).map (Sum.inr)=l.map (d9w .inr):=by rw[GY];rfl
 rw[<- this];show Le _ (λ_ _ h z=>h<|Sum.inr.inj z) h
def u9 (c8j)(d00)(d07):((l.map λx=>((.inl (f x):Ws),g x)).map (·.1)).Nodup:=by
 rw[GY];let:(l.map f).map (Sum.inl)=l.map (d9w .inl):=by rw[GY];rfl
 rw[<- this];show Le _ (λ_ _ h z=>h<|Sum.inl.inj z) h
def b5P [Bx:Bd](c73):Tk 1 "first_ready" (top 28) c1B (Pr NN):=by
 show N7 sT ?_ λd9Y=>(qC (e8U CG (aI 2)
  (q1 (qI (PW.pt (xM (e4X (Đ 2)<|Đ 1) (eX (dV (df (e3r (da (e0y (d9B ["one","told"]) (av<|e7D (Đ 2))
  Ĕ
  P4
  (λe0i=>dIn SC (Đ 0)<|Đ 1)) Lp)))))))
  jc
  q0)))
 jr)
 rintro _ _ @⟨bs,ts,nd,hl⟩;show ?_;show gT bs (λε=>∃ o,ε=[.fz<|uI bs,.fz<|br ts,o]) (gU ts) (λb=>.str b.1) #[_,1] C9 (λb ε hb gR=>?_) (λb h=>by ext1 bN;rw[h];rfl) λh ε _=>#[1,by ext1 bN;rw[h];rfl]
 ext d3v;ext d5Q;ext1 gU;by_cases c:b.1∈ts
 ·rw[Hf c];show#[_,.f (.f #[2,by let:=e7E (i:=b.1) (ks:=ts);rwa [Hf c]at this]) rfl,_,1]
 ·rw[Hg c];let r1:rO jC kB ZU b0C Ŭ:=#[2,by let:=e7E (i:=b.1) (ks:=ts);rwa [Hg c]at this]
  let r2:rF Xp (rA (rL 0 [1] (Y0<|e18 A7 kB) Ba<|rO W1 A7 ZU) SI) b0C (.bl<|b.2.all λy=>decide Dx):=#[#[b7 #[#[2,.k (cG (By nd)<|Ho hb) kS],.l .lst] (hl b hb) λy _=>#[_,3,b4Z],1],by let:=Xp.mk (by rw[GY];rfl:b.2.map (λy=>D.bl<|decide Dx)=_);rwa [List.all_map]at this]
  cases z:b.2.all λy=>decide Dx with
  | true=>rw[z]at r2;show .t (.t r1 r2) #[2]
  | false=>rw[z]at r2;show#[_,.f (.t r1 r2) rfl,_,1]
theorem T7 (c9k)(f:α->Int)(d0c):List α:=l.mergeSort λa b=>decide (f a<=f b)
def N0 (d00):(T7 f l).Perm l:=List.mergeSort_perm ĉ
def Spl (d00):((T7 f l).map f).Pairwise iV:=by rw[Jo];show (List.pairwise_mergeSort (le:=λa b=>decide (f a<=f b)) (λa b c e1C=>Hf<|L1 (HB h1) (HB h2)) (λa b=>by simp[Int.le_total]) l).imp HB
inductive b8O:Ä
 |mk {α:Type}{l:List α}{f:α->Int}{g:α->D}:l.length<64->(l.map f).Nodup->b8O [MU (l.map λx=>rS)] (MU ((T7 f l).map λx=>rS))
def c5l [Bx:Bd](T:GL Bx.mg):Tk 1 "by_number" (top 55) ["told"] (Pr b8O):=by
 show N7 [] ?_ λd9Y=>(qr (e0J (da (e0y (cS 1 [0] ["number","told"]) (av<|dB f2J (mG rfl) rfl T.NX boot_sorted ŝ)
  Ĕ
  P4
  (d9U b9e)) Lp)))
 rintro _ _ @⟨α,l,f,g,hl,nd⟩;let pm:=N0 (f:=f) (l:=l);let so:=Spl (f:=f) (l:=l);generalize T7 f l=m at pm so;show#[#[#[b7 #[#[#[2],?_],.l .lst] (by rw[pm.length_eq];lia) λe0M=>#[_,1,#[#[1,#[2,.k (cG (u9 nd)<|Ho (pm.mem_iff.mp hx)) kI],1],kR]],1],XN.m (f:=λx=>.inl<|f x) (by rw[pm.length_eq];lia) ?_],1]
 ·let:=cSo.k (ð:=l.map λx=>(_,g x)) (by rw[GY,GY];rfl) Ĵ λTF e1C=>Mw.VW (h1.trans (pm.map _).symm) h2 so;ext d5E
 ·let:=u9 b34 (g:=g);ext d5E
open e
abbrev _root_.Λ:=Option Ξ
abbrev MQ:=Int×Λ
theorem SM:Option Ξ->D
 | none=>.non
 | some ks=>rw ks
abbrev BB (m:MQ):D:=.tup [.int m.1,SM m.2]
abbrev h8 (d1n):D:=.lst (ms.map BB)
theorem bG (S:NS)(x):Λ:=if S.Mi.map (·.1)=some x then none else !S.into x
theorem Lx (c9n):List MQ:=ns.flatMap λx=>(S.NU x).map λk=>zj
def b5D (c9n)(x):Lx S (ns++[x])=Lx S ns++(S.NU x).map λk=>zj:=by simp[Lx,IE]
def b4E (c9n)(i):(Lx S CC).length<=(Lx S ns).length:=by
 ext1 Lx
 conv=>rhs;rw[<- Iy i ns,IE,Hn]
 omega
variable {c:Cl}
abbrev _root_.Æ:=List Str->Prop
inductive ki (c7L):Ä
 |mk {S:NS}{ns:η}:ord S ns->ki c ord yP (br ns)
inductive iH (c7L):Ä
 |mk {S:NS}{ns:η}:ord S ns->b6q->S.Lj.length<=1000->(Lx S ns).length<=1000->iH c ord yP (h8 Ŏ)
def c49 (ha:ra ε Ao)(hb:rb ε (rM h)):e7U (.bl (decide (h.map (·.1)=!x))):=by
 show .mk ha hb ?_
 cases h with
 | none=>show .mk rfl rfl rfl (e1Q rfl)
 | some p=>show .mk rfl rfl rfl (congrArg D.bl<|by show JG.mpr ⟨λz=>f1Y (Option.some.inj z).symm,λz=>e6G (V.str.inj z).symm⟩)
def a7G [Bx:Bd](MB)(MD)(Mn)(OV:ML 2 c.Mj "out_of" Ý c1A):Tk 3 "mixing_ties" (top 54) ["net"] (d8W iH):=by
 show N7 ["home",lB,"mixed","number"] ?_ λd9Y=>(qC (d84 1 MB)
 (qC oX
 (qC (e0w b69 vd (aI 3)
  (qC (qs 4 ND<|Yw (e0H (Đ 3)<|Đ 1) SH (e3P Mn hr.m<|e1h Lp))
 (q1 (e0w (d9P av OV Ŷ) A6 (aI 5)
  (q1<|qA (aA<|d92 zB (a8 (i7<|e0T (e10 Lp)) K')) (λe0N=>h))))))
 jc)))
 rintro _ _ @⟨S,ns,ho,hn,hl,hm⟩;show .nx b8r (.nx #[Z7] ?_);show cW ns (λf2q=>∃ o3 o4 o5,ε=[.fz<|aH c S,.fz<|rM S.Mi,.ow<|h8 (Lx S<|ns.take i),o3,o4,o5]) ⟨_,_,_,rfl⟩ ⟨⟨rfl,rfl,by decide,⟨ho⟩⟩,.l .lst⟩ (λe2O=>?_) λe3y=>?_
 ·let#[o3,o4,o5,he]:=gR;subst he;let xn:=hn x<|Hb hx;let tl:=b4E S ns<|i+1;rw[aO hx,b5D,Hn,GS]at tl;rw[aO hx,b5D];show#[_,1,lq (ε1:=[.fz<|aH c S,.fz<|rM S.Mi,.ow<|h8 (Lx S<|ns.take i),.fz<|.str x,.fz<|SM (bG S x),o5]) ?_ ?_]
  ·let r:=c49 (ε:=[some<|aH c S,some<|rM S.Mi,none,some<|.str x,o4.z,o5.z]) (ra:=rV 3) (rb:=rV 1) rfl rfl;ext1 bG;by_cases z:S.Mi.map (·.1)=!x
   ·rw[Hf z]at r;ext d6M;show#[.t r rfl]
   ·rw[Hg z]at r;ext d7T;show#[.f r #[wZ,#[2],#[hl,xn]]]
  ·show Gw (S.NU x) (λj ε=>∃ o5,ε=[.fz<|aH c S,.fz<|rM S.Mi,.ow<|h8 (Lx S (ns.take i)++((S.NU x).take j).map λk=>zj),.fz<|.str x,.fz<|SM (bG S x),o5]) ⟨_,by rw[J9,IP,HD]⟩ ⟨⟨rfl,by decide,⟨rfl,rfl⟩,⟨hl,xn⟩⟩,.l .lst⟩ (λj k ε hk gR=>?_) λε' ⟨o5,he⟩=>#[_,_,_,by rw[HM]at he;show he]
   let#[o5,he]:=gR;ext d7n;let e:h8 (Lx S CC++((S.NU x).take<|j+1).map λk=>zj)=.lst ((Lx S CC++((S.NU x).take j).map λk=>zj).map BB++[BB zj]):=by rw[aO hk,GZ,<- HI];show congrArg D.lst GZ
   show#[_,1,_,#[1,by simp;lia,.z v8],.fz<|.int k,by rw[e];rfl]
 ·let#[CD,he]:=gR;rw[he,HM];show#[2]
open e
variable {C:Addr}
inductive a79:Ä
 |mk {n:Int}:My.O2 n=true->n<=1000000->a79 Ay Ŭ
def le_int (c7K):rO (d9j b8s) ra rb ε b8s:=EJ
def b08 [Bx:Bd]:Tk 1 "is_prime" (top 35) þ (Pr a79):=by
 show N7 ["divisor"] ?_ λd9Y=>(qC (qI (e3R (Đ 0) dI)
  Op
  q0)
 (qC (qs 1 ND dI)
 (qC (qW Hr (dT qM eA (e3i (Đ 1)<|Đ 1)<|Đ 0)
  (qC (qI (d9x (e0O (Đ 0)<|Đ 1))
  Op
  q0)
 (q1<|sG (yA (i:=1) ND rfl yu dI b6X))))
 Op)))
 rintro _ _ @⟨n,hP,hn⟩;let h2:=(My.Lz n).mp hP;let r0:=lt_int (ε:=[some<|.int n,none]) (ra:=rV 0) (rb:=rC<|.int 2) rfl rfl;rw[Hg<|by omega]at r0;show .nx (.f r0 rfl) (.nx ⟨rfl⟩ ?_);show dR (λd ε=>ε=[.fz<|.int n,.fz<|.int d]/\2<=d/\d<=n) (λd=>(n+1 - d).toNat) #[1,kE] λd e3y=>?_;let#[he,d2,dn]:=gR;subst he;let rd:=le_int (ε:=[some<|.int n,some<|.int d]) (ra:=e3E ZU<|rV 1) (rb:=rV 0) #[2,GK] rfl;by_cases z:d * d<=n
 ·rw[Hf z]at rd;let a:2 * d<=d * d:=Int.mul_le_mul_of_nonneg_right d2 #[0];let r1:=eq_int (ε:=[some<|.int n,some<|.int d]) (ra:=e2x A7<|rV 1) (rb:=rC<|.int 0) #[2,AE] rfl;rw[Hg (by rw[<- Im _ #[0]];show h2.2 d d2 z)]at r1;show .inr #[rd,d+1,_,.nx (.f r1 rfl) #[2],#[1,kE],#[0]]
 ·rw[Hg z]at rd;show .inl #[rd,2]
inductive a2c:Ä
 |mk {n:Int}:a2c Ay Ŭ
inductive a9W (c7r):Ä
 |mk {p n:Int}:0<=n->n<p->a9W C wY Ŭ
def b9z [Bx:Bd](T)(Ng):Tk 2 "is_number_of" (top 57) c0T (d8L a9W):=by
 let OF:=T.fl;show N7 [] ?_ λd9Y=>(qr<|Es (dF Ng hr.m rfl<|e0l Lp) (nJ<|dCh (nK qM gZ dI (Đ 1)<|V0 OF (Đ 0)) eA eA))
 rintro _ _ @⟨p,n,h0,h1⟩;show#[.t #[#[2],⟨⟩]<|.t rfl rfl (by let:=e0o (i:=0) (j:=n) trivial;rwa [Hf h0]at this) ⟨rfl,rfl,rfl⟩ (by let:=fI.mk (C:=λ_ _=>True) (g:=λi j=>Tb<|.bl (decide (i<j))) (i:=n) (j:=p) trivial;rwa [Hf h1]at this),1]
inductive OQ (c7r):Ä
 |mk {p:Int}{ns:Ξ}:ns.length<=1000->(∀ n∈ns,0<=n/\n<p)->OQ C [fD C p,rw ns,.int ns.length] Ŭ
def a6w [Bx:Bd](c73)(Oa:Mh 2 "is_number_of" c0T (d8L a9W)):Tk 3 "is_row_of" (top 58) b6r (d8L OQ):=by
 show N7 [] ?_ λd9Y=>(qr (Es (dM bq cM CJ<|Đ 2) (nJ (e3r (da (e0y b32 Pi
  Ĕ
  P4
  (λe0i=>dF Oa hr.m rfl<|e0l ŝ)) Lp)))))
 rintro _ _ @⟨p,ns,hl,hn⟩;let r1:=eq_int (ε:=[some<|fD C p,some<|rw ns,some<|.int ns.length]) (ra:=rF OZ<|rA (rV 1) SI) (rb:=rV 2) ⟨⟨rfl,rfl⟩,OZ.m⟩ rfl;rw[Hf rfl]at r1;show⟨.t r1 ⟨⟨b7 ⟨rfl,.l .lst⟩ hl λn hm=>#[_,lP,#[(hn n hm).1,(hn n hm).2]],rfl⟩,Xp.mk (by rw[GY];rfl)⟩,by simp⟩
abbrev bo:=Int×Ξ
abbrev aV (c9e):D:=MU (ř.map λr=>(.inl r.1,rw r.2))
theorem inc (msg)(cs):Option Ξ->Ξ
 | none=>msg
 | some ks=>ks.map λk=>(aU cs k).getD 0
inductive eQ:Ä
 |n {msg:Ξ}{d:D}:eQ [rw msg,.non,d] (rw msg)
 |s {msg ks:Ξ}{cs:Cs}:ks.length<=1000->(∀ k∈ks,∃ n,aU cs k=!n)->eQ [rw msg,rw ks,Rq cs] (rw (inc msg cs !ks))
def b4y [Bx:Bd]:Tk 1 "coming_in" (top 60) b37 (Pr eQ):=by
 show N7 [] ?_ λd9Y=>(qC (qI xp
  (qr<|Đ 0)
  q0)
 (qr (e0y (cS 1 [2] b9f) Pi
  Ĕ
  P4
  ź)))
 intro l d h
 cases h with
 | n=>show .rt (e7B #[2])
 | @s msg ks cs hl hk=>show .nx kT #[e52 hl λk hm=>#[_,3,by let#[n,hn]:=hk k hm;rw[hn];show .k (sC hn) kI],UX ĉ]
open e
theorem uq (fo)(k:Int):Bool:=match fo with
 | none=>false
 | some ks=>decide Zv
theorem gB (ř)(n:Int):Option bo:=ř.find? λr=>decide (r.1=n)
theorem bZ (ř)(k:Int):Ξ:=((gB ř k).map (·.2)).getD []
def fJ (h:gB ř k=!r):cQ c1D DQ=!rw r.2:=by rw[gK,funext λx=>JG.mpr #[Sum.inl.inj,congrArg _],show ř.find? _=some r from h];rfl
theorem cT (p)(c9o)(cs)(m:MQ):Int:=if uq fo m.1 then 0 else Mx.LI p Au c2t
theorem bc (p)(c9o):List MQ->Cs->Cs
 | [],cs=>cs
 | m::ms,cs=>e0L ms (cs++[(m.1,e5E cs m)])
def b8v (p)(c9o)(m:MQ):∀ (ms:List MQ)(cs:Cs),e0L (ms++[m]) cs=e0L ms cs++[(m.1,e5E (e0L ms cs) m)]:=by
 intro r'
 induction r' with
 | nil=>
  ext d48
 | cons _ ms ih'=>
  intro _;show ih' _
def dJ (p)(c9o):∀ (ms:List MQ)(cs:Cs),(e0L ms cs).map (·.1)=cs.map (·.1)++ms.map (·.1)
 | [],_=>by simp[bc]
 | m::ms,cs=>by
  simp_all [bc,dJ]
def a2J {cs:Cs}{k:Int}(c91):∃ n,aU cs k=!n:=by
 let#[x,mh]:=GX.mp h;let#[y,hy]:=IQ.mp (d9l h1 h2)
 simp_all [aU]
structure ye (d1n):Prop where
 nd:(ms.map (·.1)).Nodup
 Mt:ms.length<64
 ahead:∀ (i:Nat) m ks,ms[i]?=!m->m.2=!ks->ks.length<=1000/\∀ k∈ks,k∈(ms.take i).map (·.1)
theorem UT (p)(l:Ξ):Prop:=∀ z∈l,0<=z/\z<p
structure yd (p:Int)(d1n)(c9e)(fo:Λ):Prop where
 p0:0<p
 p1:p<=1000000
 fits:ye ms
 has:∀ m∈ms,uq fo m.1=false->∃ r,gB ř m.1=!r/\UT p r.2/\r.2.length<=1000
variable {C:Addr}
inductive AG (c7r):Ä
 |mk {p:Int}{ms:List MQ}{ř:List bo}{msg:Ξ}{fo:Λ}:yd p ms ř fo->AG C [fD C p,h8 ms,aV ř,rw msg,SM fo] (Rq (T7 (·.1) kx))
def a2a (h1:ra ε (SM fo))(h2:rb ε sH)(h3:rc ε .non):vH (λε b=>rO (fN true) ra rc ε AN) (λε b=>rO W1 rb ra ε AN) ε (uq fo k):=by
 cases fo with
 | none=>show .f b7F
 | some ks=>show .t b7F #[h2,h1,jO]
def c1r [Bx:Bd](MP)(Pq:Mh 1 "coming_in" b37 (Pr eQ))(LV):Tk 4 "flow" (top 61) ò (d8L AG):=by
 show N7 ["carries",c5q] ?_ λd9Y=>(qC (d9K 5)
 (qC (e0w Pi (e07 rfl<|ae xy (ae jZ aD)) (cH Bx.K [6,7])
  (q1 (qI (PW.pt<|xM b9g (eX<|e54 (Đ 6) (Đ 4)))
  (q1<|qP (bV (aM hr) (pv 5) (Đ 6) dI rfl) (λe0N=>h))
  (q1<|qP (e3w (pv 5) (Đ 6) (e9M rfl<|e0S (da (Mz hr (Đ 2)<|Đ 6)<|da (dF Pq hr.m rfl<|e1h (da (Đ 7)<|e0T Lp)) Lp)) rfl) (λe0N=>h)))))
 (qr<|e5F wo)))
 rintro _ _ @⟨p,ms,ř,msg,fo,W⟩;ext d7W;show .nx #[1] ?_;show cW ms (λf2q=>∃ o6 o7,ε=[.fz<|fD C p,.fz<|h8 ms,.fz<|aV ř,.fz<|rw msg,.fz<|SM fo,.ow<|Rq (e0L (ms.take i) []),o6,o7]) ⟨_,_,rfl⟩ ⟨rfl,.l .lst⟩ (λi m ε hm gR=>?_) λe3y=>?_
 ·ext d5W;let lt:=(GW.mp hm).1;let nd:=W.fits.nd;let hk:=e5G iU [];rw[aO hm,b8v];generalize bc p ř msg fo iU []=cs at hk;let hl:cs.length<=1000:=by let:=d94 hk;simp at this;omega
  let nw:(.inl m.1:Ws)∉(cs.map λx=>oF).map (·.1):=λz=>by let#[x,mh]:=GX.mp z;let#[y,h3,1]:=GX.mp h1;let:=GX.mpr #[y,h3,Sum.inl.inj h2];rw[hk,IP,IF]at this;let nd:=(Iy i ms)▸nd;rw[GZ,HL]at nd;show nd.2.2 _ this _ (GX.mpr #[m,Hb (i:=0) (by rw[Ko];show hm),1]) rfl
  let tt:=a2a (ε:=[some<|fD C p,some<|h8 ms,some<|aV ř,some<|rw msg,some<|SM fo,some<|Rq cs,some<|.int m.1,some<|SM m.2]) (ra:=rV 4) (rb:=rV 6) (rc:=rC .non) rfl rfl rfl;let e:∀ z:Int,Rq (cs++[(m.1,z)])=MU (vI (cs.map λx=>oF) (.inl m.1)<|.int z):=λz=>by rw[cr nw];show congrArg MU GZ
  show#[mR,?_];ext1 cT
  cases hf:uq fo m.1 with
  | true=>rw[hf]at tt;show#[_,.t tt #[1,by rw[GS];show hl,.z rfl,1,kI],.fz<|.int m.1,.fz<|SM m.2,by rw[if_pos rfl,e];rfl]
  | false=>
   rw[hf]at tt;let#[r,ic]:=W.has m (Hb hm) hf;let er:bZ ř m.1=r.2:=by ext1 bZ;rw[h1];rfl
   rw[er];let ci:eQ [rw msg,SM m.2,Rq cs] (rw c2t):=by
    cases hx:m.2 with
    | none=>show .n
    | some ks=>show .s (e62 hx).1 λk Us=>a2J (by rw[hk];show (e62 hx).2 k Us)
   show#[_,.f tt #[1,by rw[GS];show hl,.a #[#[1,c0V,#[#[4],ci],1],#[W.p0,W.p1,h3,h2]] rfl,1,kI],.fz<|.int m.1,.fz<|SM m.2,by rw[if_neg nofun,e];rfl]
 ·ext d8B;ext d2V;let hk:=e5G ms [];show#[#[#[2],.mk (by let:=d94 hk;simp at this;omega) (by rw[hk];show W.fits.nd)],1]
open e
structure a5z (c9i)(c7r):Prop where
 cl:PM K C
 nP:Mb K C "prime"
 g_G:∃ t,mg "GREATEST_PRIME"=!.int 1000000 t
variable {c:Cl}{C:Addr}
def c1C:ar í í (aa jh):=Py
inductive cK (c7r)(c8O):∀(x dx:Addr) (p:Int),vs=[.ref x,.int p]->H x=!.ins C dx []->p<=1000000->My.O2 p=true->(∀ H',f' H H'->Q .non (upd H' x (.ins C dx [("prime",.int p)])))
def c5N [Bx:Bd](T:a5z Bx.K Bx.mg C)(Qf:Mh 1 "is_prime" þ (Pr a79)):Tm 2 "__init__" "Field.__init__" jh í (cK C):=by
 ext d2U;let#[tk,hgG]:=T.g_G;show F.k c1C λe2U=>?_
 ·let#[x,dx,p,1,hx,hp,hP,q]:=h;show#[_,(ag (gC (PW.pt<|YW (pT a6J fY<|g8 (v:=.int 1000000) rfl hgG #[_,1]) (t6<|t7 (df<|aR Qf hr.m rfl wA)))
  Gg
  N3)
 (aq<|e4T fY rfl)),?_]
  show#[_,1,yU,1,qf (λhc=>absurd (HB hc)<|by lia) λhc=>?_];show#[_,1,H,[.int p],.bl true,f'.refl _,Ym,#[hP,hp],λv H' e hv=>#[true,hv,zh ?_]];show#[m4,x,C,dx,[],1,e ĉ hx,T.cl,T.nP,by decide,q H' e]
inductive a3u (c7r)(d1N):∀{p:Int},rs ε [.int p]->p<=1000000->My.O2 p=true->d=fD C p
def xK (Dd:Dk X.prog X.w X.K X.mg X.base k x C ps (cK C))(c7S)(d0Y):
  PE X ę (tP (a3u C rs)):=(gY Dd hr hg ha OO he Of).imp fun σ H Q ⟨F,ε,d,S,⟨h1,h2,h3,h4⟩,q⟩=>e35 h1 λvs e1M S1 gR x dx nx nd ne=>by
 let#[v,ws,ev,hv,hw]:=gR;subst ev h4
 cases hv
 cases hw;show .mk x dx _ rfl af h2 h3 λH' e'=>#[1,q ĉ (λa o z=>?_) #[x,FI,by rw[ax<|e1.free nx,af],1,_,_,3]]
 let z1:=e1I z;let n1:=ak z1 nx;rw[a9 n1];show e' ĉ (by rw[a9 n1,a9<|ak z1 nd];show z1)
def c3k:∀ {l:List α},(l.map f).Nodup->∀ {x y},x∈l->y∈l->f x=f y->x=y:=by
 intro l
 induction l with
 | nil=>intro _ x y hx;cases hx
 | cons a l ih=>
  intro nd x y hx hy e;ext d4q;rcases Hs.mp hx with h1|h1 <;> rcases Hs.mp hy with h2|h2
  ·rw[h1,h2]
  ·show absurd (GX.mpr #[y,h2,by rw[<- e,h1]]) nd.1
  ·cbv
  ·show ih nd.2 h1 h2 e
def a5X (pm:cs.Perm l)(nd:(l.map (·.1)).Nodup)(h:aU l k=!n):aU cs k=!n:=by
 unfold aU at h ⊢;let#[x,mh]:=HN.mp h;let hm:=pm.mem_iff.mpr<|Ik h1;let hx:=HB<|Jq (p:=λx:Int×Int=>decide _) h1;let#[y,hy]:=IQ.mp (d9l hm hx);let hy2:=HB<|Jq (p:=λx:Int×Int=>decide XY) hy;let:=c3k b34 (Ik hy) hm (hy2.trans hx.symm)
 cbv
theorem bY (p)(ř)(d0J)(k:Int):Ξ:=(List.range many).map λj=>(aU Gs k).getD 0
inductive kr (c7L):Ä
 |mk {S:NS}{ns:η}{p:Int}{ř:List bo}{many:Nat}{fo:Λ}:ord S ns->(∀ x∈ns,x∈S.names)->S.Lj.length<=1000->My.O2 p=true->yd p (Lx S ns) ř fo->many<=1000->kr c ord [gx,SM fo] (MU ((T7 (·.1) (Lx S ns)).map λm=>(.inl m.1,rw (bY p ř fo Ŏ many m.1))))
def b66 [Bx:Bd](F:MM Bx.K "carried" "carried" (top 63) f fd)(T:GL Bx.mg)(LQ)(LH)(Qh)(Nz)(OI)(LV):QN MY 5 f fd á (d8W kr):=by
 show MM.dw F [c5n,"flows"] ?_ λe7b=>(qC (qs 5 ND<|e3x Ŷ)
 (qC (qs 6 ND<|e9N rfl ŝ)
 (qC (qs 7 ND (e0y (cS 1 [1,4,5,6] ["message","plan","fallen",c5n]) (av<|dF Nz hr.m rfl Œ)
  Ĕ
  P4
  (λe0i=>dF Qh hr.m rfl<|e1h (da (Đ 4)<|e0l sS))))
 (qr (e5F (da (e0J (da (R7 2 rfl (cS 2 [7] [c5q,"flows"]) (av<|Đ 6)
  Ę
  P4
  (d9U (dF OI hr.m rfl<|e01 ŝ))) Lp)) Lp))))))
 rintro _ _ @⟨S,ns,p,ř,many,fo,ho,hn,hl,hP,W,hm⟩;ext d7W;let nd:=W.fits.nd;show#[1,.inl<|.nx #[c1F] (.nx b7b<|.nx ⟨b7 (h:=λj=>Rq<|f09 (bc p ř (Mx.Ll many j) fo (Lx S ns) [])) ⟨⟨⟨rfl,rfl⟩,⟨hm⟩⟩,?_⟩ (by simpa using hm) λj _=>#[_,1,#[6],#[W]]⟩ #[#[#[#[#[b7 (u:=BB) m8 #[] λm hm'=>#[yn,#[1,#[#[3],.d ED λj _=>?_],1],kR],1],e31 #[] ?_],1],.mk Mt nd],1])]
 ·ext1 Mx.ones;ext d6r;show .l .lst
 ·let hk:=dJ p ř Ň fo Ŏ [];let#[n,hn]:=a2J (cs:=bc p ř Ň fo Ŏ []) (k:=m.1) (by rw[hk];show Ho hm');rw[hn];show a5X N0 (by rw[hk];show nd) hn
 ·let:=e8D nd (g:=λ_=>.non);ext d5E
open e
structure a2i (mg:Ω):Prop where
 Ov:mg "dict"=none
 M8:mg "len"=none
 Q6:mg "list"=none
 b1g:mg "min"=none
theorem AM (many:Int):Option Ξ->Int
 | none=>many
 | some ks=>ks.length
theorem bR (ms)(ř):List bo:=(f09 ms).map λm=>(m.1,bZ ř m.1)
structure Q2 (many p:Int)(d1n)(c9e):Prop where
 row:∀ m∈ms,∃ r,gB ř m.1=!r/\(r.2.length:Int)=AM many m.2/\UT p r.2/\r.2.length<=1000
 odd:∀ r∈ř,r.1∈ms.map (·.1)
 Mt:ř.length<=1000
def a6V (nd:(ms.map (·.1)).Nodup)(h:m∈ms):gB (bR ms ř) m.1=!(m.1,bZ ř m.1):=by ext1 bR gB;let#[y,hy]:=IQ.mp (Kv (p:=λr:bo=>decide (r.1=m.1)) |>.mpr ⟨_,Ho (f:=λm:MQ=>(m.1,bZ ř m.1))<|(N0).mem_iff.mpr h,Hf rfl⟩);rw[hy];let#[z,hz,e]:=GX.mp<|Ik hy;let h2:=HB<|Jq (p:=λr:bo=>decide (r.1=m.1)) hy;rw[<- e,(e39 e).trans h2]
variable {c:Cl}{ord:NS->Æ}
structure EU (ord:NS->Æ)(c9n):Prop where
 ord:ord S ns
 nam:∀ x∈ns,x∈S.names
 tz:S.Lj.length<=60
 fits:ye Ŏ
inductive b1P (c7L):Ä
 |mk {S:NS}{ns:η}{many:Int}:EU ord S ns->b1P c ord [aH c S,.int many] (MU ((T7 (·.1) (Lx S ns)).map λm=>(.inl m.1,.int (AM many m.2))))
def b59 [Bx:Bd](d1o)(LH)(LV):Tk 4 "wanted_lengths" (top 56) [Zr] (d8W b1P):=by
 show N7 [] ?_ λd9Y=>(qr (e5F (da (e0J (da (R7 2 rfl (cS 2 [1] [c5q,"many"]) (av<|e9N rfl ŝ)
  Ę
  P4
  (d9U (Yw xp (Đ 2)<|eL T.M8 (Đ 1)))) Lp)) Lp)))
 rintro _ _ @⟨S,ns,many,N⟩;ext d69;show#[#[#[#[#[b7 #[#[#[2],#[N.ord,N.nam,DS]],.l .lst] #[] λm _=>#[yn,#[1,?_,1],kR],1],XN.m (f:=λm:MQ=>.inl m.1) #[] ?_],1],.mk Mt N.fits.nd],1]
 ·cases hx:m.2 with
  | none=>show .t nX rfl
  | some ks=>show .f nX uH
 ·let:=u9 N.fits.nd (g:=λ_=>.non);ext d5E
inductive c52 (c7L):Ä
 |mk {S:NS}{ns:η}{many p:Int}{ř:List bo}:EU ord S ns->My.O2 p=true->p<=1000000->Q2 many p Ŏ ř->c52 c ord [gx] (aV xU)
def b4k [Bx:Bd](d1o)(LQ)(Nf:Mh 4 "wanted_lengths" [Zr] (d8W b1P))(Pp:Mh 3 "is_row_of" b6r (d8L OQ)):Tk 5 "checked_plan" (top 59) b38 (d8W c52):=by
 show N7 ["field","lengths","number","strange"] ?_ λd9Y=>(qC (qs 4 ND<|e3x Ŷ)
 (qC (qs 5 ND<|dF Nf hr.m rfl sS)
 (qC (e0w io xy (aI 6)
  (q1 (qI (PW.pt<|dOr (e4X (Đ 6)<|Đ 1) (t6<|GB (dV<|df (dF Pp hr.m rfl<|e10 (da (Mz hr (Đ 1)<|Đ 6)<|da (Mz hr (Đ 5)<|Đ 6) Lp)))))
  j8
  q0)))
 (qC (e28 (e55 (cS 1 [5] ["number","lengths"]) Pi
  Ĕ
  b0Y
  ĵ) rfl)
 (qC (qI (e6F (d8U 7) dI)
  j8
  q0)
 (qr (e0J (da (e0y (d9B ["number","plan"]) io
  Ĕ
  P4
  (d9U (e2s boot_list<|da b9e Lp))) Lp))))))))
 rintro _ _ @⟨S,ns,many,p,ř,N,hP,hp,G⟩;let Mt:=N.fits.Mt;ext d5s;show .nx c0X (.nx #[#[3],#[N]] ?_);ext1 bR;generalize hg:T7 (λm:MQ=>m.1) Ŏ=gs at pm;let gl:=pm.length_eq;let gd:(gs.map (·.1)).Nodup:=(pm.map _).nodup_iff.mpr N.fits.nd;show cW gs (u:=λm=>.int m.1) (λ_ ε=>∃ o6 o7,ε=[.fz<|aH c S,.fz<|aV ř,.fz<|.int many,.fz<|.int p,.fz<|fD C p,.fz<|MU (gs.map λm=>(.inl m.1,.int<|AM many m.2)),o6,o7]) ⟨_,_,rfl⟩ ⟨rfl,vN.m⟩ (λi m ε hm gR=>?_) λe3y=>?_
 ·ext d5W;let hm:=Hb hm;let#[r,wG]:=G.row m<|pm.mem_iff.mp hm;let rr:=OQ.mk (C:=C) h4 h3;rw[h2]at rr;show#[_,1,_,.f (.f #[2,f1N (by rw[fJ h1];rfl)] #[#[1,c0V,#[2,.k (cG (u9 gd)<|Ho hm) kI],1],rr]) rfl,tF]
 ·ext d5W;let es:ř.filter b0r=[]:=Jc.mpr λe2T=>by rw[Hf<|(pm.map _).mem_iff.mpr (G.odd r hr)];show nofun
  show .nx #[bd (xs:=ř) (u:=λr=>.int r.1) (h:=λr=>.int r.1) b0r C9 G.Mt λe2T=>#[_,1,#[2,f1N (by rw[Cu (f:=λm:MQ=>m.1)];rfl)],λ_=>rfl]] ?_;rw[es];show .nx (.f (gt_int (i:=0) (j:=0) #[#[2],.s<|.sq .lst] rfl) rfl) ⟨⟨⟨b7 (xs:=gs) (u:=λm=>.int m.1) (h:=λm=>.tup [.int m.1,rw Au]) C9 #[] λm hm=>#[_,1,#[#[1,#[#[#[2,?_],1],.s<|.sq .lst],1],kR]],rfl⟩,e31 #[] ?_⟩,?_⟩
  ·let#[r,h1,_]:=G.row m<|pm.mem_iff.mp hm;let er:bZ ř m.1=r.2:=by ext1 bZ;rw[h1];rfl
   rw[er];show .k (fJ h1) kI
  ·let:=e8D gd (g:=λ_=>.non);ext d5E
  ·rw[show aV (gs.map _)=MU (List.map _<|List.map _ gs) from rfl,GY];rfl
open e
def c4Q (c82)(c9o)(cs)(m:MQ):0<=e5E cs m/\cT p ř msg fo cs m<p:=by
 ext1 cT;by_cases c:uq fo m.1=true
 ·omega
 ·rw[if_neg c,Mx.LU];show#[Ii _<|by omega,HX _ hp]
def c0Z (c82)(c9o):∀ (ms:List MQ)(cs:Cs),(∀ x∈cs,0<=x.2/\x.2<p)->∀ x∈bc p ř msg fo ms cs,0<=x.2/\x.2<p:=by
 intro r'
 induction r' with
 | nil=>
  intro _ h;show h
 | cons m ms ih'=>
  intro cs h;show ih' _ λe0M=>by
   rcases Hx.mp hx with z|z
   ·show h x z
   ·rw[Ht.mp z];show c4Q hp ř msg fo cs m
def b0U (c82)(ř)(d0J)(k:Int):UT p (e0P k):=λe79=>by
 unfold bY at hz;let#[j,_,1]:=GX.mp hz
 cases hl:aU Gs k with
 | none=>cbv
 | some n=>
  unfold aU at hl;let#[x,hx,e]:=HN.mp hl;let:=c0Z hp ř Ň fo ms [] (λ_ h=>(Ij h).elim) x (Ik hx)
  cbv
theorem bW (S:NS)(p)(rs:List bo)(d0J)(g:Str):Θ:=(S.into g).map λk=>bY p rs fo ms many k
def zM (c82)(h1:(S.into g).length<=100)(h2:many<=100):YA p many (bW S p rs fo ms many g):=by
 show#[#[Bb],by ext1 bW;rw[GS];show h1,#[]]
 ·let#[k,_,1]:=GX.mp hr;ext1 bY;rw[GS,HV]
 ·let#[k,_,1]:=GX.mp hr;show b0U hp rs fo ms many k
variable {c:Cl}{ord:NS->Æ}
def Q2.a45 (N:EU ord S ns)(hP)(hp:p<=1000000)(G:Q2 many p Ŏ ř):yd p Ŏ xU fo:=by ext d27;show#[#[],hp,N.fits,λm hm _=>#[_,a6V N.fits.nd hm,?_]];let#[r,h1,_,zC]:=G.row m hm;rw[show bZ ř m.1=r.2 by ext1 bZ;rw[h1];rfl];show#[zC]
inductive Oq (c7L):Ä
 |mk {S:NS}{ns:η}{many:Nat}{p:Int}{ř:List bo}{fo:Λ}:EU ord S ns->My.O2 p=true->p<=1000000->Q2 many p (Lx S ns) ř->many<=100->S.Lu.length<=100->S.names.Nodup->(∀ t∈S.Lj,t.1∈(Lx S ns).map (·.1))->Oq c ord [gx,SM fo] (MU (S.LL.map λg=>(.inr g,fm p (bW S p xU fo Ŏ many g) many)))
def b9E [Bx:Bd](F:MM Bx.K "judged" "judged" (top 66) f fd)(N5:Mh 5 "checked_plan" b38 (d8W c52))(LQ)(PL:Mh 5 "carried" á (d8W kr))(Lk)(Mn)(Ou:Mh 7 "judgement" â (d8L a6r)):QN MY 8 f fd á (d8W Oq):=by
 show MM.dw F ["looked_over","field","rows","told","listener","table"] ?_ λe7b=>(qC (qs 5 ND<|dF N5 hr.m rfl (da (Đ 0)<|e0l (da (Đ 2)<|e1h Lp)))
 (qC (qs 6 ND<|e3x Ŷ)
 (qC (qs 7 ND<|dF PL hr.m rfl (da (Đ 0)<|e0T (da (Đ 2)<|e1h A4)))
 (qC (d9K 8)
 (qC (e0w (av<|e4Y Lk hr.m) Bq (aI 9)
  (qC (e8C (aQ (i:=10) ND rfl rfl rfl (cS 1 [7] c1H) (d9P av Mn (da (Đ 9) Lp))
  Ĕ
  P4
  ź) rfl)
 (q1<|qP (e3w v7 (Đ 9) (dF Ou hr.m rfl<|e2q (da rJ<|e01 Lp)) rfl) (λe0N=>h))))
 (qr<|Đ 8))))))
 rintro _ _ @⟨S,ns,many,p,ř,fo,N,hP,hp,G,hm,hz,nd,hk⟩;ext d27;ext d69;ext d5s;let li:∀ g∈S.LL,g∈S.names:=λg hg=>by let#[q,mh]:=GX.mp hg;show GX.mpr #[q,(Hw.mp h1).1,h2]
 let ln:S.LL.Nodup:=e63 nd;let lz:S.LL.length<=100:=by ext1 NS.LL;rw[GS];show HH wJ hz
 let iz:∀ g,(S.into g).length<=S.Lj.length:=λg=>by ext1 NS.into;ext d3T
 show#[1,.inl<|.nx #[#[5],#[N,hP,hp,G]] (.nx c0X<|.nx ⟨⟨rfl,rfl,rfl,rfl,rfl,rfl⟩,⟨N.ord,N.nam,#[],hP,G.a45 N hP hp,#[]⟩⟩ (.nx ⟨rfl⟩ ?_))];generalize bR (Lx S ns) ř=rs;show cW S.LL (u:=.str) (λf2q=>∃ o9 N6,ε=[.fz<|aH c S,.fz<|aV ř,.fz<|.int many,.fz<|.int p,.fz<|SM fo,.fz<|aV rs,.fz<|fD C p,.fz<|MU ((T7 (·.1)<|Lx S ns).map λm=>(.inl m.1,rw b6s)),.ow<|MU ((S.LL.take i).map λg=>(.inr g,fm p qV many)),o9,N6]) #[tF] #[gc,.l .lst] (λi g ε hg gR=>?_) λe3y=>?_
 ·let#[o9,N6,he]:=gR;subst he;let gm:=Hb hg;let lt:=(GW.mp hg).1;let gz:(S.into g).length<=100:=by let:=iz g;lia
  let nw:(.inr g:Ws)∉((S.LL.take i).map λg=>((.inr g:Ws),fm p qV many)).map (·.1):=λz=>by rw[GY]at z;let#[x,mh]:=GX.mp z;let h1:=Sum.inr.inj h2▸h1;let nd:=(Iy i S.LL)▸ln;rw[HL]at nd;show nd.2.2 _ h1 _ (Hb (i:=0) (by rw[Ko];show hg)) rfl
  show#[_,1,_,.nx #[cy (xs:=S.into g) (u:=.int) (h:=λk=>rw (bY p rs fo Ŏ many k)) (d:=tb<|bW S p rs fo (Lx S ns) many g) ⟨⟨rfl,by decide,⟨rfl,rfl⟩,⟨#[],li g gm⟩⟩,.l .lst⟩ #[] (λk Us=>#[_,3,.k ?_ kI]) (by ext1 bW;rw[show tb _=.lst FG from rfl,GY];rfl)] #[1,by simp;lia,.z #[#[4],#[hP,hp,zM #[] gz hm,hm]],1,kS],.fz<|.str g,.fz<|tb qV,?_]
  ·let#[t,h1,1]:=GX.mp Us;let#[m,zC]:=GX.mp<|hk t (Hw.mp h1).1;rw[<- h4];show cG (u9<|(pm.map _).nodup_iff.mpr N.fits.nd) (Ho (f:=λm:MQ=>((.inl m.1:Ws),rw b6s))<|pm.mem_iff.mpr h3)
  ·rw[cr nw,aO hg,GZ];rfl
 ·ext d8B;ext d5a
open e
universe K72
namespace L2.Wy
example{ν:Type}[DecidableEq ν]:=0
abbrev T (ν:Type):=Int×ν×ν×Int
theorem b2 (b:Bool):Int:=if b then 1 else 0
theorem iW (U)(c8D)(t:T ν):Int:=if U t.1 then b2 (p t.2.1) - b2 (p t.2.2.1) else 0
theorem Mj (ts)(U)(c8D):Int:=(ts.map (iW U p)).sum
theorem Q3 (t:T ν)(x:ν)(U):Option ν:=if U t.1 then (if t.2.2.1=x then some t.2.1 else none) else (if t.2.1=x then some t.2.2.1 else none)
theorem flip (U)(k:Int):Int->Bool:=λj=>if j=k then not (U j) else U j
def c1Y (U)(k:Int):flip U k k=not (U k):=if_pos rfl
def mV (U)(h:j≠k):flip U k j=U j:=if_neg h
def jL (t:T ν)(ts)(U)(c8D):Mj (t::ts) U p=iW U p t+e4Z p:=by
 ext1 Mj
 cbv
def b1T (c9y)(c8D)(h:∀ t∈ts,U t.1=V t.1):e4Z p=Mj ts V p:=by ext1 Mj;ext d8d;ext1 iW;rw[h t ht]
theorem BL (ts):Prop:=(ts.map (·.1)).Nodup
def BL.tail (h:BL (t::ts)):BL ts:=(HQ.mp h).2
def BL.ne (h:BL (t::ts))(hu:u∈ts):u.1≠t.1:=λe=>(HQ.mp h).1 (by change t.1∈ts.map _;rw[<- e];show Ho hu)
def BL.inj (h:BL ts){u:T ν}(ht:t∈ts)(hu:u∈ts)(e:t.1=u.1):t=u:=by
 induction ts with
 | nil=>cases ht
 | cons a ts ih=>
  rcases Hs.mp ht with rfl|ht1
  ·rcases Hs.mp hu with rfl|hu
   ·rfl
   ·show absurd e.symm (h.ne hu)
  ·rcases Hs.mp hu with rfl|hu
   ·show absurd e (h.ne<|by assumption)
   ·show ih h.tail (by assumption) hu
def a51 (d0g){x y:ν}(d1F):iW FN p t=iW U p t+b2 (p x) - b2 (p y):=by
 unfold Q3 at h;ext1 iW;rw[c1Y]
 cases hU:U t.1 with
 | true=>
  cbv
 | false=>
  cbv
def a5g (c66)(d0g){x y:ν}(nd)(ht:t∈ts)(d1F):Mj ts FN p=e4Z p+b2 (p x) - b2 (p y):=by
 induction ts with
 | nil=>cases ht
 | cons a ts ih=>
  rw[jL,jL];rcases Hs.mp ht with rfl|ht
  ·rw[a51 h,b1T p λu hu=>mV U<|nd.ne hu]
   lia
  ·rw[ih nd.tail ht];let:iW FN p a=iW U p a:=by ext1 iW;rw[mV U λe=>nd.ne ht e.symm]
   lia
theorem Flow (ts)(U)(h g:ν)(v:Int):Prop:=∀ p:ν->Bool,e4Z p=v * (b2 (p h) - b2 (p g))
def Flow.none (ts)(h g:ν):e3a (λ_=>false) h g 0:=λp=>by
 rw[Int.zero_mul];ext1 Mj
 induction ts with
 | nil=>rfl
 | cons t ts ih=>
  rw[HE,List.sum_cons,ih];rfl
abbrev Cm (ν:Type):=List (ν×Option (Int×ν))
theorem keys (d0x):List ν:=c.map (·.1)
inductive Oc (c8a)(h:ν):Cm ν->Prop
 |one:Oc ts U h oV
 |snoc {cs:Cm ν}{x y:ν}{t:T ν}:Oc ts U h cs->x∈keys cs->t∈ts->Q3 t x U=!y->¬ y∈keys cs->Oc ts U h (cs++[uM])
def bh (a b:Cm ν):keys (a++b)=keys a++keys b:=GZ
def Oc.nd (c8r):(keys cs).Nodup:=by
 induction C with
 | one=>simp[keys]
 | snoc C hx ht hs hy ih=>
  rw[bh];show HL.mpr #[ih,by simp[keys],λe6Z e=>?_];let:=Ht.mp hb
  cbv
def Oc.Mi (c8r):h∈keys cs:=by
 induction C with
 | one=>simp[keys]
 | snoc C hx ht hs hy ih=>rw[bh];show HK _ ih
def Oc.at (c8r){pre post:Cm ν}{y:ν}(d0h)(e:cs=pre++(y,s)::post):
  (s=none/\y=h)\/∃ t x,t∈ts/\s=!(t.1,x)/\x∈keys pre/\Q3 t x U=!y:=by
 induction C generalizing post with
 | one=>
  cases pre with
  | nil=>
   injection e with e1 e2;injection e1 with e1 e3;show .inl #[e3.symm,e1.symm]
  | cons a pre=>
   cbv
 | @snoc cs x y' t C hx ht hs hy ih=>
  rcases List.eq_nil_or_concat post with rfl|⟨WL,q,rfl⟩
  ·let e':=e;let#[mC]:=e8E rfl
   grind
  ·let e':cs++[(y',!(t.1,x))]=(pre++(y,s)::WL)++[q]:=by cbv
   let#[mC]:=e8E rfl;show ih e1
def b2O {t:T ν}{x x' y y':ν}(d1F)(h':Q3 t x' U=!y'):y=y':=by grind [Q3]
def AZ {t:T ν}{V:Int->Bool}(x:ν)(h:U t.1=V t.1):e7F U=e7F V:=by ext1 Q3;rw[h]
def ir (h:y∈keys c):∃ pre s post,c=pre++(y,s)::post:=by let#[#[y',s],hq,1]:=GX.mp h;let#[sX]:=List.append_of_mem hq;show#[pre,s,post,e]
structure qw (c8a)(g:ν)(d0x)(V:Int->Bool)(y:ν)(s:Option (Int×ν))(n:Nat):Prop where
 at':∃ pre post,c=pre++(y,s)::post/\pre.length=n/\∀ q∈pre++[(y,s)],∀ k x,q.2=!(k,x)->V k=U k
 nt:∀ p,Mj ts V p=Mj ts U p+b2 (p y) - b2 (p g)
def qw.start (e:c=pre++(g,s)::post):e2K U g s pre.length:=
 #[#[sX,1,λe0i=>rfl],λp=>by omega]
def qw.step (c9y){h g:ν}(d0y)(nd)(c9p){y x:ν}(B:e2K V y (!(k,x)) n):
  ∃ s m,m<n/\qw ts U g c (flip V k) x s m:=by
 let#[sX,hn,hV]:=B.at';rcases C.at e with⟨e0,_⟩|⟨t,x',ht,es,hx,hs⟩
 ·cases e0
 injection es with es;injection es with e1 e2;subst e1 e2;let hVt:=hV _ (Hq _<|Ht.mpr rfl) _ _ rfl;let#[a0f,s,WL,e3]:=ir hx;let Nt:a0f.length<n:=by
  rw[<- hn,e3,Hn,HZ]
  lia
 show#[s,a0f.length,Nt,#[#[a0f,WL++uM::post,by rw[e,e3];simp,1,λe3Y k' x'' hq2=>?_],λp=>?_]]
 ·let hqp:q∈pre:=by
   rw[e3];rcases Hx.mp hq with hq|hq
   ·show HK _ hq
   ·rw[Ht.mp hq];show Hq _ (Hi ..)
  let Wo:k'≠t.1:=λek=>by
   let#[a,b,eab]:=List.append_of_mem hqp;let e5:c=a++(q.1,q.2)::(b++uM::post):=by rw[e,eab];simp
   rcases C.at e5 with⟨e0,_⟩|⟨t2,x2,ht2,es2,_,TZ⟩
   ·rw[hq2]at e0;cases e0
   ·rw[hq2]at es2;injection es2 with es2;injection es2 with e6 e7;let:=nd.inj ht2 ht<|e6.symm.trans ek;ext d4A;let:=b2O TZ hs;let hk:=C.nd;rw[e,bh]at hk;let h1:q.1∈keys pre:=Ho hqp;show (HL.mp hk).2.2 q.1 h1 y (by simp[keys]) this
  rw[mV V Wo];show hV q (HK _ hqp) k' x'' hq2
 ·rw[a5g nd ht<|(AZ x hVt).trans hs,B.nt p]
  lia
def qw.stop (c9y){h g:ν}(d0y)(c9p){y:ν}(B:e2K V y none n)(c8c):e3a V h g (v+1):=by
 let#[sX,hn,hV]:=B.at';rcases C.at e with⟨_,rfl⟩|⟨t,x',ht,es,hx,hs⟩
 ·intro p;rw[B.nt p,F p,Int.add_mul,Int.one_mul]
  lia
 ·cases es
theorem uW (ts)(U)(c8D):Prop:=∀ t∈ts,∀ x z,p x=true->e7F U=!z->p z=true
theorem C0 (c8D)(t:T ν):Bool:=p t.2.1&&not (p t.2.2.1)
theorem sg (ts)(c8D):List (T ν):=ts.filter (C0 p)
def b2L (d0g)(h:∀ x z,p x=true->e7F U=!z->p z=true):iW U p t=b2 (C0 p t):=by
 ext1 iW C0 b2
 cases hU:U t.1 with
 | true=>
  let:=h t.2.2.1 t.2.1;unfold Q3 at this
  cases h1:p t.2.1 <;> cases h2:p t.2.2.1 <;> cbv
 | false=>
  let:=h t.2.1 t.2.2.1;unfold Q3 at this
  cbv
def b9v (c66){p:ν->Bool}(h:uW ts U p):e4Z p=((sg ts p).length:Int):=by
 ext1 sg
 induction ts with
 | nil=>rfl
 | cons t ts ih=>
  rw[jL,IK,ih λu hu=>h u<|He _ hu,b2L<|h t (Hi ..)]
  cases C0 p t with
  | true=>
   grind [b2]
  | false=>
   grind [b2]
def Flow.cut (c66){h g:ν}{p:ν->Bool}(c8c)(hc:uW ts U p)(hh:p h=true)(hg:p g=false):((sg ts p).length:Int)=v:=by let:=F p;rw[b9v hc,hh,hg]at this;rw[this];change v * (1 - 0)=v;omega
inductive Q8 (ts:List (T ν)):ν->List (T ν)->ν->Prop
 |nil (x:ν):Q8 ts x [] x
 |snoc {x:ν}{ws:List (T ν)}{t:T ν}:Q8 ts x ws t.2.1->t∈ts->Q8 ts x yc t.2.2.1
theorem nums (ws:List (T ν)):Ξ:=ws.map (·.1)
def Q8.sub (c85):∀ t∈ws,t∈ts:=by
 induction W with
 | nil=>cbv
 | snoc W ht ih=>
  intro t h;ext d5F
  ·show ih t h
  ·cbv
def Q8.up (c66)(c7o){x y:ν}(c9W)(c85):rk x+ws.length<=rk y/\(∀ t∈ws,rk t.2.1<rk y)/\ws.Nodup:=by
 induction W with
 | nil=>cbv
 | @snoc ws t W ht ih=>
  let:=hr _ ht;let#[qu,i3]:=ih;show#[by rw[Hn,Ih];omega,λu hu=>?_,?_]
  ·rcases Hx.mp hu with hu|hu
   ·let:=i2 u hu;omega
   ·cbv
  ·show HL.mpr #[i3,by simp,λe6Z e=>?_];let eb:=Ht.mp hb;let:=i2 a ha;omega
def a1O (c9W)(nd)(hs:∀ t∈ws,t∈ts)(h:ws.Nodup):(nums ws).Nodup:=by
 induction ws with
 | nil=>show Jy
 | cons a ws ih=>
  let#[mh]:=HQ.mp h;show HQ.mpr #[λz=>?_,ih (λe4t=>hs t<|He _ ht) h2];let#[u,hu,e]:=GX.mp z;let:=nd.inj (hs u<|He _ hu) (hs a<|Hi ..) e
  cbv
theorem without (U)(ks:Ξ):Int->Bool:=λk=>U k&&not (decide Zv)
def c0w (nd)(c8D)(W:Q8 Ħ x ws y)(hn:(nums ws).Nodup):
  Mj ts (without U xE) p=e4Z p - b2 (p x)+b2 (p y):=by
 induction W with
 | nil=>
  simp[b1T,without,nums]
 | @snoc ws t W ht ih=>
  let VI:(nums ws++[t.1]).Nodup:=by
   let:nums yc=nums ws++[t.1]:=GZ
   cbv
  let#[n1,_,n3]:=HL.mp VI;let Og:=λz=>n3 t.1 z t.1 (Ht.mpr rfl) rfl;let hU:=(Hw.mp ht).2;let hV:without U xE t.1=true:=by ext1 without;rw[hU,Hg Og];rfl
  let hs:Q3 t t.2.2.1 (without U<|nums ws)=!t.2.1:=by ext1 Q3;rw[hV,if_pos rfl,if_pos rfl]
  let e:Mj ts (without U<|nums yc) p=Mj ts (flip (without U<|nums ws) t.1) p:=b1T p λu _=>by
   let e2:nums yc=nums ws++[t.1]:=GZ;by_cases hu:u.1=t.1
   ·rw[hu,c1Y,hV];ext1 without
    cbv
   ·rw[mV _ hu];ext1 without
    cbv
  rw[e,a5g nd ((Hw.mp ht).1) hs,ih n1]
  lia
def Flow.without (nd)(c8c)(c9W)(W:e56 g)(hn:(nums ws).Nodup):e3a (e7G xE) h g (v - 1):=λp=>by
 rw[c0w nd p W hn,F p,Int.sub_mul,Int.one_mul]
 lia
instance Dp {ts:List (T ν)}{x:ν}(h:0<=Mj ts U Tl)(hi:0<Mj ts U Tl\/∃ t∈ts,U t.1=true/\t.2.2.1=x/\t.2.1≠x):∃ t∈ts,U t.1=true/\t.2.1=x:=by
 by_cases hx:∃ t∈ts,U t.1=true/\t.2.1=x
 ·show hx
 ·exfalso;let key:∀ ts:List (T ν),(∀ t∈ts,¬ (U t.1=true/\t.2.1=x))->Mj ts U Tl<=0/\((∃ t∈ts,U t.1=true/\t.2.2.1=x/\t.2.1≠x)->Mj ts U Tl<0):=by
   intro ts hts
   induction ts with
   | nil=>show#[Int.le_refl _,λgR=>(by let#[t,ht,_]:=gR;show nomatch ht)]
   | cons a ts ih=>
    let#[i1,i2]:=ih λt ht=>hts t<|He _ ht;rw[jL];let t0:iW U (λz=>decide (z=x)) a<=0:=by
     ext1 iW;split
     ·rename_i hU;change b2 (decide _) - b2 (decide _)<=0;rw[Hg λe=>(hts a<|Hi ..) #[hU,e]]
      cases decide (a.2.2.1=x) <;> decide
     ·show Int.le_refl _
    show#[#[],λgR=>?_];let#[t,ht,h1,h2,h3]:=gR;rcases Hs.mp ht with rfl|ht
    ·let:iW U Tl t=-1:=by ext1 iW;rw[if_pos h1];change b2 (decide _) - b2 (decide _)=-1;rw[Hg h3,Hf h2];rfl
     lia
    ·let:=i2 #[t,ht,h1,h2,h3]
     lia
  let#[k1,k2]:=key ts λt ht z=>hx #[t,ht,z]
  grind
def Flow.Yk (c66)(c7o){h g x:ν}(c8c)(hv:0<v)(hg:x≠g)(c9W)(W:e56 x):∃ t∈ts,U t.1=true/\t.2.1=x:=by
 let e:=F λz=>decide (z=x);rw[Hg<|show ¬ g=x from λz=>hg z.symm]at e;by_cases hh:h=x
 ·rw[Hf hh]at e;let:e4Z Tl=v:=by rw[e];change v * (1 - 0)=v;lia
  show Dp #[] (.inl<|by lia)
 ·show Dp #[] (.inr ?_)
  cases W with
  | nil=>show absurd rfl hh
  | @snoc ws t W ht=>
   let:=hr t (Hw.mp ht).1;show#[t,(Hw.mp ht).1,(Hw.mp ht).2,1,λz=>by lia]
example{ν:Type}[DecidableEq ν]:=0
theorem look (U)(x:ν):List (T ν)->Cm ν×List ν->Cm ν×List ν
 | [],s=>s
 | t::r,s=>match Q3 t x U with
  | some z=>if z∈keys s.1 then look U x r s else look U x r b3C
  | none=>e19 r s
theorem gA (ts)(x:ν):List (T ν):=ts.filter λt=>decide wB || decide Ř
theorem bfs (ts)(U):Nat->Cm ν×List ν->Cm ν
 | 0,s=>s.1
 | n+1,s=>match s.2 with
  | []=>s.1
  | x::w=>f1a U n (e19 C6 (s.1,w))
theorem eV (ts)(U)(N:Nat):Option ν->Cm ν
 | none=>[]
 | some h=>f1a U N (oV,[h])
structure Bf (c8a)(h:ν)(d0x)(d w:List ν):Prop where
 Nc:Oc ts U h c
 ks:keys c=d++w
 done:∀ x∈d,∀ t∈ts,∀ z,Q3 t x U=!z->z∈keys c
def Bf.start (ts)(U)(h:ν):e40 oV [] [h]:=#[.one,1,λe0M=>nomatch hx]
def PPs:∀ (r:List (T ν))(s:Cm ν×List ν),(∀ t∈r,t∈ts)->f1b s.1->keys s.1=d++s.2->x∈d->
  Oc ts U h (e19 r s).1/\keys (e19 r s).1=d++(e19 r s).2/\(∀ z∈keys s.1,z∈keys (e19 r s).1)/\∀ t∈r,∀ z,e7F U=!z->z∈keys (e19 r s).1
 | [],s,_,C,k,_=>#[C,k,λe79=>hz,λe4t=>nomatch ht]
 | t::r,s,hr,C,k,hx=>by
  let X8:∀ t∈r,t∈ts:=λu hu=>hr u<|He _ hu;rw[look]
  cases hs:e7F U with
  | none=>
   ext d5t
   grind
  | some y=>
   change Oc ts U h (if y∈keys s.1 then look U x r s else _).1/\_;by_cases hy:y∈keys s.1
   ·simp only[if_pos hy];ext d5t;rcases Hs.mp hu with rfl|hu
    ·rw[hs]at hz;cases hz;show c _ hy
    ·show e u hu z hz
   ·simp only[if_neg hy];let C':f1b tU:=.snoc C ĝ (hr t<|Hi ..) hs hy;let k':keys tU=d++(s.2++[y]):=by rw[bh,k,HI];rfl
    let#[nZ,e]:=PPs r (s.1++[uM],s.2++[y]) X8 C' k' hx;let hyk:y∈keys tU:=by cbv
    show#[a,b,λe79=>c z (by rw[bh];show HK _ hz),λu hu e79=>?_]
    grind
def c0E (d0K):t.2.1=x\/t.2.2.1=x:=by grind [Q3]
def Bf.step (c66){h x:ν}(d0y){d w:List ν}(B:e40 c d (x::w)):e40 (e19 C6 (c,w)).1 (d++[x]) (e19 C6 (c,w)).2:=by
 let#[a,b,m,e]:=PPs (x:=x) (d:=d++[x]) _ (c,w) b7G B.Nc (by rw[B.ks];simp) Ė;show#[a,b,λe16 e4t e79=>?_];rcases Hx.mp hy with hy|hy
 ·show m z (B.done y hy t ht z hz)
 ·let hyx:=Ht.mp hy;rw[hyx]at hz;show e t (Hw.mpr #[ht,?_]) z hz;rw[Bool.or_eq_true];rcases c0E hz with h|h
  ·show .inl (Hf h)
  ·show .inr (Hf h)
theorem Ends (ts)(nm:List ν):Prop:=∀ t∈ts,t.2.1∈nm/\t.2.2.1∈nm
def zS (d0K):z=t.2.1\/z=t.2.2.1:=by grind [Q3]
def Oc.names (d2c){nm:List ν}(c9p)(c9I):∀ z∈keys c,z∈nm:=by
 induction C with
 | one=>intro z hz;rw[Ht.mp hz];show hh
 | snoc C hx ht hs hy ih=>
  intro z hz;rw[bh]at hz;ext d8e
  ·show ih z hz
  ·rw[Ht.mp hz];rcases zS hs with e|e
   ·rw[e];show (E _ ht).1
   ·rw[e];show (E _ ht).2
def fV {xs ys:List ν}(nd:xs.Nodup)(h:∀ x∈xs,x∈ys):xs.length<=ys.length:=by
 induction xs generalizing ys with
 | nil=>show HW _
 | cons a xs ih=>
  ext d6g;let ha:=h a<|Hi ..;let:=ih (ys:=ys.erase a) n2 λe0M=>(J8 λe=>n1 (by rw[<- e];show hx)).mpr<|h x (He _ hx);rw[Li ha]at this;let:=List.length_pos_of_mem ha;rw[HZ]
  lia
def Bf.len (d2c){d w nm:List ν}(B:e40 c d w)(c9I):d.length+w.length<=nm.length/\c.length<=nm.length:=by
 let:=fV B.Nc.nd<|e7H hh;let e:(keys c).length=c.length:=GS _;let e2:=d94 B.ks
 grind
structure Rea (c8a)(h:ν)(d0x):Prop where
 Nc:Oc ts U h c
 all:∀ x∈keys c,∀ t∈ts,∀ z,Q3 t x U=!z->z∈keys c
def c3m (c9I):∀ (n:Nat)(c:Cm ν)(d w:List ν),e40 c d w->nm.length<=n+d.length->e9O (f1a U n (c,w))
 | 0,c,d,w,B,hn=>by let hl:=(B.len E hh).1;let hw:w=[]:=JH.mp #[];subst hw;show#[c3A]
 | n+1,c,d,[],B,hn=>#[c3A]
 | n+1,c,d,x::w,B,hn=>c3m E hh n _ (d++[x]) _ B.step (by rw[Hn,Ih];lia)
def c4t (c66){h:ν}{nm:List ν}(c9I)(hN:nm.length<=N):e9O (eV ts U N !h):=c3m E hh N _ [] [h] (Bf.start ts U h) (hN)
def Rea.closed (d2c)(R:e9O c):uW ts U (λz=>decide yF):=λe4t x z hx hs=>Hf (R.all x (HB hx) t ht z hs)
theorem V4 (c92):Ξ:=if k∈U then U.filter (λj=>not (decide (j=k))) else U++[k]
theorem NM (U:Ξ):Int->Bool:=λk=>decide (k∈U)
def c31 (c92):NM (V4 U k)=flip Zt k:=by
 funext j
 grind [NM,V4,flip]
instance AW (h:U.Nodup)(k:Int):(V4 U k).Nodup:=by
 ext1 V4;split
 ·show h.filter _
 ·rename_i hk;show HL.mpr ⟨h,by simp,λa ha b hb e=>?_⟩
  cbv
theorem cJ (d0x)(y:ν):Option (Int×ν):=(c.find? λq=>decide (q.1=y)).bind (·.2)
def kK {c pre post:Cm ν}{y:ν}(d0h)(nd:(keys c).Nodup)(e:c=pre++(y,s)::post):c.find? sV=!(y,s)/\cJ c y=s:=by
 let h1:c.find? sV=!(y,s):=by rw[e,bh]at nd;let hno:pre.find? sV=none:=IZ.mpr λe3Y z=>(HL.mp nd).2.2 q.1 (Ho hq) y (by simp[keys])<|HB z;rw[e,Kw,hno];simp
 show#[h1,?_];ext1 cJ;rw[h1];rfl
theorem gG (d0x):Nat->List Int->Option (Int×ν)->Ξ
 | 0,U,_=>U
 | _+1,U,none=>U
 | n+1,U,some s=>e7I (V4 U s.1) (cJ c s.2)
def b2P (d0x)(n)(c92)(x:ν):gG c (n+1) U (!(k,x))=e7I (V4 U k) (cJ c x):=rfl
def qw.look (c9y){h g y:ν}(d0y)(d0h)(c9p)(B:e2K V y s n):cJ c y=s/\c.find? sV=!(y,s)/\n<c.length:=by
 let#[sX,hn,_]:=B.at';let#[mh]:=kK C.nd e
 cbv
def a4U (nd)(c9p)(c8c):∀ (n m:Nat)(V:Ξ)(y:ν)(s:Option (Int×ν)),e2K (NM V) y s m->m<n->V.Nodup->e3a (NM (e7I V s)) h g (v+1)/\(e7I V s).Nodup
 | 0,m,V,y,s,B,hm,_=>absurd hm (JR _)
 | n+1,m,V,y,none,B,hm,hV=>#[B.stop C F,hV]
 | n+1,m,V,y,some (k,x),B,hm,hV=>by let#[s',m',Nt,B']:=B.step nd C;rw[<- c31]at B';let e:=(B'.look C).1;rw[b2P,e];show a4U nd C F n m' (V4 V k) x s' B' #[] (AW hV k)
def a1C (c66){h g:ν}(d0y)(nd)(C:Oc ts Zt h c)(F:e3a Zt h g v)(hg:g∈keys c)(hU:U.Nodup)(hn:c.length<=n):e3a (NM (e7I U (cJ c g))) h g (v+1)/\(e7I U (cJ c g)).Nodup:=by let#[pre,s,post,e]:=ir hg;let B:=qw.start (ts:=ts) (U:=NM U) e;rw[(B.look C).1];show a4U nd C F n _ U g s B (HS (B.look C).2.2 hn) hU
theorem BZ (ts)(d0x):Ξ:=nums (sg ts λz=>decide yF)
theorem eS (d2d)(N:Nat):Nat->List Int->Sum Ξ Ξ
 | 0,U=>.inr U
 | m+1,U=>if g∈keys ť then eS ts h g N m b8y else .inl (BZ ts ť)
def b5E (d2d)(N m:Nat)(U:Ξ):eS ts h g N (m+1) U=if g∈keys ť then eS ts h g N m b8y else .inl (BZ ts ť):=rfl
structure a5O (ts:List (T ν))(h g:ν)(U:Ξ)(ks:Ξ)(c8D):Prop where
 closed:uW ts Zt p
 hh:p h=true
 hg:p g=false
 ks:ks=nums (sg ts p)
def c3C (nd)(c9I)(hN:nm.length<=N):∀ (m:Nat)(U:Ξ)(v:Int),e3a Zt h g v->U.Nodup->
  (∀ V,f0i U=.inr V->e3a (NM V) h g (v+m)/\V.Nodup)/\
  (∀ ks,f0i U=.inl ks->∃ (i:Nat)(V:Ξ)(p:ν->Bool),i<m/\eS ts (!h) g N i U=.inr V/\Flow ts (NM V) h g (v+i)/\a5O ts h g V ks p/\(ks.length:Int)=v+i):=by
 intro r'
 induction r' with
 | zero=>
  intro U v F hU;show #[λV e=>by cases e;show#[by simpa using F,hU],λks e=>by cases e]
 | succ m ih'=>
  intro U v F hU;let R:=c4t (U:=NM U) E hh hN;rw[b5E];generalize hc:f1c N (!h)=c at R;let cl:c.length<=N:=by
   let:=fV R.Nc.nd (R.Nc.names E hh)
   grind [keys,List.length_map]
  by_cases hg:g∈keys c
  ·rw[if_pos hg];let#[F',hU']:=a1C nd R.Nc F hg hU cl;let#[a,b]:=ih' _ (v+1) F' hU';show#[λV e=>?_,λks e=>?_]
   ·let:=a V e
    grind
   ·let#[i,V,p,hi,c6y]:=b ks e;show#[i+1,V,p,#[],qm,e3,#[]]
    ·rw[b5E,hc,if_pos hg];show e1
    ·grind
  ·rw[if_neg hg];show#[(λV e=>by cases e),λks e=>?_]
   cases e;let hh':decide (h∈keys c)=true:=Hf R.Nc.Mi;let hg':decide (g∈keys c)=false:=Hg hg;show#[(0),U,λz=>decide yF,#[],1,by simpa using F,#[R.closed,hh',hg',1],?_];let:=F.cut R.closed hh' hg'
   simp_all [BZ,nums,GS]
theorem NU (L:List (T ν))(x:ν):Option (T ν):=L.find? λt=>decide wB
theorem db (L:List (T ν))(g:ν):Nat->ν->List (T ν)
 | 0,_=>[]
 | n+1,x=>if x=g then [] else match NU L x with
  | none=>[]
  | some t=>t::e57 n t.2.2.1
def c1s {L:List (T ν)}{x:ν}{t:T ν}(h:NU L x=!t):t∈L/\t.2.1=x:=#[Ik h,by simpa using Jq h]
def b4D (c66){U:Int->Bool}(c7o){h g:ν}{v:Int}(c8c)(hv:0<v){N:Nat}(hN:∀ z,rk z<N):∀ (n:Nat)(x:ν)(ws:List (T ν)),e56 x->N<=n+rk x->Q8 Ħ h (ws++db Ħ g n x) g
 | 0,x,ws,W,hn=>absurd (hN x) #[]
 | n+1,x,ws,W,hn=>by
  rw[db];by_cases hx:x=g
  ·cbv
  ·rw[if_neg hx]
   cases ho:NU Ħ x with
   | none=>
    let#[t,ht,hU,e]:=F.Yk hr hv hx W;show absurd (Hf e) (IZ.mp ho t<|Hw.mpr #[ht,hU])
   | some t=>
    let#[mh]:=c1s ho;subst h2;let:=hr t (Hw.mp h1).1;let:=b4D hr F hv hN n t.2.2.1 yc (.snoc W h1) #[]
    cbv
theorem gE (h g:ν)(N:Nat):Nat->List (T ν)->Θ
 | 0,_=>[]
 | m+1,L=>nums nV::e3j m (L.filter λt=>not (decide (t.1∈nums nV)))
def QXs (c66)(nd)(c7o){h g:ν}(hN:∀ z,rk z<N):∀ (m:Nat)(U:Int->Bool),e3a U h g (m:Int)->
  ∃ QM:List (List (T ν)),e3j m Ħ=QM.map nums/\QM.length=m/\(∀ ws∈QM,e56 g)/\(QM.map nums).flatten.Nodup
 | 0,U,F=>#[[],2,(λws hw=>nomatch hw),Jy]
 | m+1,U,F=>by
  let W:=b4D hr F #[] hN N h [] (.nil h) #[];rw[IF]at W;rw[gE];generalize db Ħ g N h=ws at W;let up:=W.up (rk:=rk) λe4t=>hr t (Hw.mp ht).1;let hn:=a1O nd (λe4t=>(Hw.mp<|W.sub t ht).1) up.2.2;let F':=F.without nd W hn;rw[show ((m+1:Nat):Int) - 1=(m:Int) by lia]at F';let#[QM,e,hl,hw,UZ]:=QXs nd hr hN m _ F';let ef:(ts.filter λt=>U t.1).filter (λt=>not (decide (t.1∈nums ws)))=ts.filter λt=>e7G xE t.1:=by rw[List.filter_filter];ext d4n
  rw[ef,e];let b4B:∀ vs∈QM,Q8 Ħ h vs g/\∀ k∈nums vs,¬ k∈nums ws:=λvs hv=>by
   let V:=hw vs hv;let:∀ {x y:ν}{vs:List (T ν)},Q8 (ts.filter λt=>e7G xE t.1) x vs y->Q8 Ħ x vs y:=by
    intro x y vs V
    induction V with
    | nil=>show .nil _
    | snoc V ht ih=>
     show .snoc ih ?_
     grind
   show#[this V,λe8a z=>?_];let#[AT]:=GX.mp hk;let#[a,b]:=Hw.mp<|V.sub t ht;unfold Wy.without at b;rw[Hf z]at b;simp at b
  show#[ws::QM,1,by rw[HZ,hl],λvs hv=>?_,?_]
  ·grind
  ·rw[HE,Lc]
   grind
universe L2.Wy
namespace K72
open PySem L2 L2.Wy
open PyProof.Rows (boot_all boot_bool boot_dict boot_int boot_list boot_sorted boot_str boot_tuple)
abbrev c8 (U:Ξ):D:=MU (U.map λk=>c1I)
def fK:(cQ (U.map λk=>Ũ) DQ).isSome=NM U k:=by let:=Cu (l:=U) (f:=λz=>z) (g:=λ_=>D.bl true) (y:=k);rwa [Ks]at this
theorem oD:Option Str->D
 | none=>.non
 | some x=>.str x
theorem aT (c7t):Option Ξ->List LS
 | none=>ts
 | some ks=>ts.filter λt=>not (decide (t.1∈ks))
theorem iM:Option (Int×Str)->D
 | none=>.non
 | some s=>.tup [.int s.1,.str s.2]
abbrev fg (c:Cm Str):D:=MU (c.map λq=>(.inr q.1,iM q.2))
def eM:(cQ c2u (.inr y)).isSome=decide (y∈keys c):=j5
variable {c:Cl}
inductive b9Z (c:Cl):Ä
 |mk {S:NS}{fo:Λ}:S.Lj.length<=1000->b9Z c [aH c S,SM fo] (aZ tM)
def Txt [Bx:Bd](Lq):Tk 2 "standing_ties" (top 75) c2v (d89 b9Z):=by
 show N7 [] ?_ λd9Y=>(qC (qI xp
  (qr<|e4Y Lq hr.m)
  q0)
 (qr (e0y (d9B ["tie","fallen"]) Gq
  Ĕ
  b1Y
  ĵ)))
 rintro _ _ @⟨S,fo,hl⟩
 cases fo with
 | none=>show .rt (e7B #[a4I,1])
 | some ks=>show .nx kT #[bd (λt=>not (decide _)) Sa hl λt _=>b44,1]
inductive OP:Ä
 |mk {t:LS}{x:Str}{U:Ξ}:OP [bu t,.str x,c8 U] (oD (Q3 t x Zt))
def c4X [Bx:Bd]:Tk 1 "step_over" (top 77) b8z (Pr OP):=by
 show N7 [] ?_ λd9Y=>(qC (qI (e54 ĺ<|Đ 2)
  b2d
  q0)
 b2d)
 rintro _ _ @⟨t,x,U⟩;let r1:=f0j (ra:=e18 A7<|rC (.int 1)) (rb:=rV 1) sB rfl;let r2:=f0j (ra:=e18 A7<|rC pZ) (rb:=rV 1) sB rfl;ext1 Q3
 cases hu:NM U t.1 with
 | true=>
  show .rt (.t b1r #[?_,1]);by_cases z:t.2.2.1=x
  ·rw[Hf z]at r2;ext d6M;show .t r2 sB
  ·rw[Hg z]at r2;ext d7T;show .f r2 rfl
 | false=>
  show .nx (.f b1r rfl) #[?_,1];by_cases z:t.2.1=x
  ·rw[Hf z]at r1;ext d6M;show .t r1 sB
  ·rw[Hg z]at r1;ext d7T;show .f r1 rfl
inductive c2Q:Ä
 |mk {ts:List LS}{x:Str}{t:LS}:NU ts x=!t->c2Q [aZ ts,.str x] (bu t)
def a1d [Bx:Bd]:Tk 1 "tie_out_of" (top 81) ["ties","name"] (Pr c2Q):=by
 show N7 ["tie"] ?_ λd9Y=>(qC (e8U CG (aI 2)
  (q1 (qI (e0H (Mz hr (Đ 2) dI)<|Đ 1)
  jc
  q0)))
 jr)
 rintro _ _ @⟨ts,x,t,ht⟩;show ?_;show gT ts b2Z (λt=>decide _) bu #[_,1] m8 (λt ε _ gR=>?_) (λu h=>by rw[Option.some.inj<|ht.symm.trans h]) λh=>nomatch ht.symm.trans h
 ext d3v;let r1:=eq_str (ε:=[some<|aZ ts,some<|.str x,some<|bu t]) (ra:=e18 kB<|rC (.int 1)) (rb:=rV 1) sB rfl;ext d5Q;by_cases z:t.2.1=x
 ·rw[Hf z]at r1 ⊢;show .t r1 #[2]
 ·rw[Hg z]at r1 ⊢;show#[_,.f r1 rfl,_,1]
inductive a18:Ä
 |mk {ts:List LS}{c:Cm Str}:ts.length<=1000->a18 [aZ ts,fg c] (rw (BZ ts c))
def a6D [Bx:Bd]:Tk 1 "ties_between" (top 80) ["ties","came"] (Pr a18):=by
 show N7 [] ?_ λd9Y=>(qr (e9k (cS 4 [1] [Ai,"came"]) NR
  ģ
  (λe0i=>bK<|PW.pt (xM (e54 (Đ 1)<|Đ 4)<|eX (e4X (Đ 2)<|Đ 4)))
  ĵ))
 rintro _ _ @⟨ts,cm,hl⟩;show#[bd _ m8 hl λt _=>#[yn,?_,λ_=>rfl],UX ĉ];change vH Ĉ (decide _&&not (decide _))
 cases z:decide (t.2.1∈keys cm) with
 | true=>show .t b20 #[2,e5l (by rw[eM];rfl)]
 | false=>show .f b20
open e
variable {c:Cl}
def ne_str (d0w):e7x (.bl (decide (x≠y))):=e7y (e4W rfl<|e1Q (by rw[if_pos rfl,<- decide_not];show JG.mpr ⟨λh z=>h<|V.str.inj z,λh z=>h<|f1Y z⟩))
def b2n {ws:List LS}(A:e9P y)(B:e9P z):y=z:=by
 cases A with
 | nil=>exact (by generalize hw:([])=ws at B;cases B with|nil=>rfl|snoc _ _=>show absurd hw.symm<|by simp)
 | snoc A1 h1=>
  generalize hw:_++[_]=ws at B
  cases B with
  | nil=>cbv
  | snoc B1 h2=>cbv
inductive QK:Ä
 |mk {L:List LS}{h g:Str}{N:Nat}:Q8 L h nV g->(db L g N h).length<=1000->QK [aZ L,.str h,.str g] (rw (nums nV))
def a9d [Bx:Bd](OS:Mh 1 "tie_out_of" ["ties","name"] (Pr c2Q)):Tk 2 "one_way" (top 82) b5r (Pr QK):=by
 show N7 ["way","name","tie"] ?_ λd9Y=>(qC (qo 3 ND<|c7 Lp)
 (qC (qs 4 ND<|Đ 1)
 (qC (qW Hr (e4C (Đ 4)<|Đ 2)
  (qC (qs 5 ND<|dF OS hr.m rfl (da (Đ 0)<|e10 Lp))
 (qC (qA (aA<|d92 (pv 3) (a8 (Mz hr (Đ 5) dI) K')) λe0N=>h)
 (d9A 4 c1y))))
 An)))
 rintro _ _ @⟨L,h,g,N,W,hl⟩;show .nx #[Z7] ZQ;show dR (b:=(N,[],h)) (λb ε=>Q8 L h b.2.1 b.2.2/\b.2.1++e57 b.1 b.2.2=e57 N h/\∃ o,ε=[.fz<|aZ L,.fz<|.str h,.fz<|.str g,.ow<|rw (nums b.2.1),.fz<|.str b.2.2,o]) (·.1) ⟨.nil h,rfl,_,rfl⟩ λe9y=>?_;let#[n,ws,x]:=gR;let#[A,e,o,he]:=Y';subst he;let rd:=ne_str (ε:=[some<|aZ L,some<|.str h,some<|.str g,some<|rw xE,some<|.str x,o.a]) (ra:=rV 4) (rb:=rV 2) rfl rfl;by_cases z:x=g
 ·rw[Hg λy=>y z]at rd;let e0:e57 n x=[]:=by cases n with
   | zero=>rfl
   | succ n=>ext1 db;ext d6M
  rw[e0,HD]at e;show .inl #[rd,1,by rw[e]]
 ·rw[Hf z]at rd;let nn:e57 n x≠[]:=λy=>z (by rw[y,HD]at e;rw[<- e]at W;show b2n A W)
  cases n with
  | zero=>show absurd rfl nn
  | succ n=>
   cases ho:NU L x with
   | none=>show absurd (by ext1 db;rw[if_neg z,ho]) nn
   | some t=>
    rw[show db L g (n+1) x=t::e57 n t.2.2.1 by conv=>lhs;unfold db;rw[if_neg z,ho]]at e;let e2:yc++e57 n t.2.2.1=e57 N h:=by rw[HI];show e
    let tl:=d94 e2;rw[Hn,Hn,Ih]at tl;let tx:=HB<|Jq (p:=λt:LS=>decide wB) ho;show .inr #[rd,(n,ws++[t],t.2.2.1),_,.nx #[#[3],#[ho]]<|.nx #[1,by ext1 nums;simp;lia,.z sB] sB,#[.snoc (tx▸A)<|Ik ho,e2,.fz<|bu t,?_],IJ _];simp[nums,List.map,GZ]
def b9G (c92):sd (U.map λk=>Ũ) DQ=(U.filter λj=>not (decide (j=k))).map λk=>Ũ:=by
 ext1 sd;rw[List.filter_map];congr 1;show Ld λj _=>by
  cbv
def c4k (c92):(V4 U k).length<=U.length+1:=by
 ext1 V4;split
 ·show Nat.le_succ_of_le wJ
 ·simp
inductive QJ (c:Cm Str):Nat->Option (Int×Str)->Prop
 |done {n:Nat}:QJ c n none
 |step {n:Nat}{k:Int}{x:Str}{s:Option (Int×Str)}:c.find? (λq=>decide (q.1=x))=!(x,s)->QJ c n s->QJ c (n+1) !(k,x)
def AA {c:Cm Str}(h:c.find? (λq=>decide (q.1=x))=!(x,s)):cQ c2u ou=!iM s:=by simp_all [gK]
inductive a9V:Ä
 |mk {U:Ξ}{c:Cm Str}{g:Str}{n:Nat}{s:Option (Int×Str)}:c.find? (λq=>decide (q.1=g))=!(g,s)->QJ c n s->U.Nodup->U.length+n<=1000->a9V [c8 U,fg c,.str g] (c8 (gG c n U s))
def c4J [Bx:Bd](T:GL Bx.mg):Tk 1 "used_with" (top 79) b5s (Pr a9V):=by
 show N7 ["told","step"] ?_ λd9Y=>(qC (qo 3 ND<|a96 rfl rfl T.Ov ŝ)
 (qC (qs 4 ND<|e7A (Đ 2))
 (qC (qW Hr b9g
  (qC (qI (e54 ja<|Đ 3)
  (q1<|a3B (aA<|a9N yk ja #[4]))
  (q1<|qP (bV (aM hr) (pv 3) (Mz hr (Đ 4) dI) Eg rfl) (λe0N=>h)))
 (d9A 4 (Mz hr (Đ 1)<|Mz hr (Đ 4) dI))))
 An)))
 rintro _ _ @⟨U,cm,g,n,s,hg,ss,nd,hl⟩;let em:MU (h9 []<|U.map λk=>Ũ)=c8 U:=by rw[c4D (by rw[IF];show u9 (f:=λk=>k)<|by rwa [Ks])];rfl
 let dk:=cDk.mk (ð:=U.map λk=>Ũ);rw[em]at dk;show .nx #[#[#[2],dk]] (.nx #[2,.k (AA hg) kS] ?_);show dR (β:=Nat×List Int×Option (Int×Str)) (b:=(n,U,s)) (λb ε=>QJ cm b.1 b.2.2/\b.2.1.length+b.1<=1000/\gG cm b.1 b.2.1 b.2.2=gG cm n U s/\ε=[.fz<|c8 U,.fz<|fg cm,.fz<|.str g,.ow<|c8 b.2.1,.fz<|iM b.2.2]) (·.1) ⟨ss,hl,rfl,rfl⟩ λe9y=>?_;let#[n',V,s']:=gR;let#[ss,hl,e,he]:=Y';dsimp only at ss hl e he;subst he
 cases ss with
 | done=>
  let:gG cm n' V none=V:=by cases n' <;> rfl
  show .inl #[nX,1,by rw[<- e,this]]
 | @step n1 k x s1 h1 s2=>
  let e1:cJ cm x=s1:=by ext1 cJ;rw[h1];rfl
  let e2:gG cm n1 (V4 V k) s1=gG cm n U s:=by rw[<- e,<- e1];rfl
  let tl:=c4k V k;show .inr #[nX,(n1,V4 V k,s1),_,.nx (ε1:=[.fz<|c8 U,.fz<|fg cm,.fz<|.str g,.ow<|c8 (V4 V k),.fz<|iM !(k,x)]) ?_ #[#[1,sB,.k (AA h1) kS]],#[s2,by change (V4 V k).length+n1<=1000;lia,e2,1],IJ _];ext1 V4;by_cases z:k∈V
  ·ext d6M;let#[v,hv]:=IQ.mp (fK (U:=V) (k:=k) |>.trans (Hf z));let:=WK.mk (i:=3) (rk:=e18 pf<|rC FV) (ε:=[.fz<|c8 U,.fz<|fg cm,.fz<|.str g,.ow<|c8 V,.fz<|iM !(k,x)]) rfl sB kI hv;rw[b9G]at this;show .t #[sB,1,f1N (by rw[fK,NM,Hf z];rfl)] this
  ·ext d7T;let:=TB.mk (i:=3) (rk:=e18 pf<|rC FV) (re:=rC<|.bl true) (ε:=[.fz<|c8 U,.fz<|fg cm,.fz<|.str g,.ow<|c8 V,.fz<|iM (some (k,x))]) rfl (by rw[GS];lia) (.z rfl) ⟨rfl,rfl,.t rfl⟩ kI;rw[cr λy=>z<|by simpa using y]at this;rw[show c8 (V++[k])=MU (V.map (λk=>Ũ)++[c1I]) from congrArg MU GZ];show .f #[sB,1,f1N (by rw[fK,NM,Hg z];rfl)] this
open e
abbrev gL (nm:η)(c7t):D:=MU (nm.map λx=>(.inr x,aZ C6))
theorem wI (U)(x)(s:Cm Str×η)(t:LS):Cm Str×η:=match Q3 t x U with
 | some z=>if z∈keys s.1 then s else b3C
 | none=>s
def c47 (U)(x):∀ (r:List LS)(s:Cm Str×η),e19 r s=r.foldl (wI U x) s
 | [],_=>rfl
 | t::r,s=>by
  rw[IG,<- c47 U x r];ext1 wI;rw[look]
  cases Q3 t x U with
  | none=>rfl
  | some z=>
   by_cases c:z∈keys s.1
   ·simp only[if_pos c]
   ·simp only[if_neg c]
inductive Ph:Ä
 |n {d e:D}:Ph [.non,d,e] (fg [])
 |s {h:Str}{nm:η}{ts:List LS}{U:Ξ}{N:Nat}:Ends ts nm->h∈nm->nm.Nodup->nm.length<=N->nm.length<=900->Ph [.str h,gL nm ts,c8 U] (fg (eV ts Zt N !h))
def c4w [Bx:Bd](c73)(Pl:Mh 1 "step_over" b8z (Pr OP)):Tk 2 "reached_from" (top 78) b5t (Pr Ph):=by
 show N7 ["came","waiting","name","tie","nearby"] ?_ λd9Y=>(qC (qI (dT a1U a4m (Đ 0) SH)
  (qr dD0.p)
  q0)
 (qC (qo 3 ND<|dD1 (Đ 0) SH)
 (qC (qo 4 ND<|c7 ŝ)
 (qC (qW Hr (e6F (d8U 4) dI)
  (qC (a3z<|pS 5 ND (d8V Ct))
 (q1 (e0w (av<|e7A (Đ 5)) xy (aI 6)
  (qC (qs 7 ND<|dF Pl hr.m rfl (da (Đ 6)<|e0T Œ))
 (q1 (qI (PW.pt<|xM (e9i (Đ 7) SH) (eX<|e4X (Đ 7) (Đ 3)))
  (qC (qP (e3w yk (Đ 7) (i7<|da (Mz hr (Đ 6) dI) (e0T Lp)) rfl) λe0N=>h)
 (q1<|qA (aA<|e96 (a8 (Đ 7) K')) (λe0N=>h)))
  q0)))))))
 An))))
 intro _ _ r
 cases r with
 | n=>show .rt (e7B #[2])
 | @s h nm ts U N E hh nd hN hz=>
  show .nx kT (.nx #[#[1,kS,2]] (.nx #[u8] ?_));show dR (β:=Nat×Cm Str×η) (b:=(N,oV,[h])) (λb ε=>(∃ d,Bf ts Zt h b.2.1 d b.2.2/\nm.length<=b.1+d.length)/\bfs ts Zt b.1 b.2=f1c N !h/\∃ o5 o6 o7,ε=[.fz<|.str h,.fz<|gL nm ts,.fz<|c8 U,.ow<|fg b.2.1,.ow<|br b.2.2,o5,o6,o7]) (·.1) ⟨⟨[],Bf.start ..,by simpa using hN⟩,rfl,_,_,_,rfl⟩ λe9y=>?_;let#[n,cm,wt]:=gR;let#[#[d,B,hn],eN,o5,lL]:=Y';dsimp only at B hn eN he;subst he;let bl:=B.len E hh;let rd:=gt_int (ε:=[some<|.str h,some<|gL nm ts,some<|c8 U,some<|fg cm,some<|br wt,o5.a,o6.a,o7.a]) (ra:=rF OZ<|rA pf SI) (rb:=rC<|.int 0) uH rfl
  cases wt with
  | nil=>
   let:f1a Zt n (cm,[])=cm:=by cases n <;> rfl
   show .inl #[rd,1,by rw[<- eN,this]]
  | cons x wt=>
   rw[Hf<|by simp]at rd;rw[HZ]at bl;obtain⟨n,rfl⟩:∃ n',n=n'+1:=#[n - 1,#[]]
   let xn:x∈nm:=e7H hh x (by rw[B.ks];simp);let st:=B.step;let eN:f1a Zt n (look Zt x C6 (cm,wt))=f1c N !h:=eN;rw[c47]at st eN;show .inr #[rd,(n,(gA ts x).foldl (wI Zt x) (cm,wt)),lq (ε1:=[.fz<|.str h,.fz<|gL nm ts,.fz<|c8 U,.ow<|fg cm,.ow<|br wt,.fz<|.str x,o6,o7]) ⟨rfl⟩ ?_];show a5b (u:=bu) (gA ts x) (λs ε=>(keys s.1).Nodup/\(∀ y∈keys s.1,y∈nm)/\s.2.length<=s.1.length/\∃ o6 o7,ε=[.fz<|.str h,.fz<|gL nm ts,.fz<|c8 U,.ow<|fg s.1,.ow<|br s.2,.fz<|.str x,o6,o7]) (wI (NM U) x) (b:=(cm,wt)) ⟨B.Nc.nd,e7H hh,?_,_,_,rfl⟩ ⟨⟨rfl,rfl,.k (cG (By (f:=λx=>x)<|by rwa [Ks])<|Ho xn) kS⟩,.l .lst⟩ (λs e8Y=>?_) λε' gR=>by let#[CD,lL]:=gR;show#[#[#[d++[x],st,by simp;lia],eN,CD,he],IJ _]
   ·let:=d94 B.ks;unfold keys at this;simp at this;change wt.length<=cm.length
    lia
   ·let#[ic,lL]:=gR;subst he;let kl:=fV h1 h2;let kl:s.1.length<=nm.length:=by unfold keys at kl;rwa [GS]at kl
    let tm:=(Hw.mp ht).1;let so:=OP.mk (t:=t) (x:=x) (U:=U);ext d5Q;ext1 wI
    cases hs:e7F Zt with
    | none=>
     rw[hs]at so;show#[_,.nx FT<|.f (.f nX) rfl,h1,h2,h3,.fz<|bu t,.fz .non,1]
    | some z=>
     rw[hs]at so;by_cases cz:z∈keys s.1
     ·simp only[if_pos cz];show#[_,.nx FT<|.f (e7B #[2,e5l (by rw[eM,Hf cz];rfl)]) rfl,h1,h2,h3,.fz<|bu t,.fz<|.str z,1]
     ·simp only[if_neg cz];let zn:z∈nm:=(zS hs).elim (λe=>e▸(E t tm).1) λe=>e▸(E t tm).2;show#[_,.nx FT<|.t (e7B #[2,e5l (by rw[eM,Hg cz];rfl)]) (.nx #[1,by rw[GS];lia,.z #[#[sB,2],kR],1,kS] #[1,by rw[GS];lia,.z rfl]),?_,?_,?_,.fz<|bu t,.fz<|.str z,?_]
      ·rw[bh];show HL.mpr #[h1,by simp[keys],λe6Z=>by rw[Ht.mp hb];show λ(e:a=z)=>cz<|e▸ha]
      ·rw[bh];show λe16=>(Hx.mp hy).elim (h2 y) λe=>by rw[Ht.mp e];show zn
      ·simpa using h3
      ·rw[cr λy=>cz (by rw[GY]at y;let#[q,a,b]:=GX.mp y;show GX.mpr #[q,a,Sum.inr.inj b]),show fg (s.1++[(z,!(t.1,x))])=MU (s.1.map (λq=>a9X)++[(.inr z,iM<|some (t.1,x))]) from congrArg MU GZ,show br (s.2++[z])=.lst (s.2.map .str++[.str z]) from congrArg D.lst GZ];rfl
structure b9V (c7t)(N:Nat):Prop where
 nd:BL ts
 rk:∃ rk:Str->Nat,(∀ t∈ts,rk t.2.1<rk t.2.2.1)/\∀ z,rk z<N
 Mt:N<=1000
 many:ts.length<=1000
variable {c:Cl}
inductive Dfd:Ä
 |mk {ts:List LS}{U:Int->Bool}{h g:Str}{m N:Nat}:b9V ts N->Wy.Flow ts U h g m->m<=1000->Dfd [aZ (ts.filter λt=>U t.1),.str h,.str g,.int m] (tb (gE h g N m Ħ))
def a2k [Bx:Bd](c73)(Ra:Mh 2 "one_way" b5r (Pr QK)):Tk 3 "parted_ways" (top 83) b2F (Pr Dfd):=by
 show N7 ["told","left","way"] ?_ λd9Y=>(qC c2w
 (qC (qs 5 ND<|Đ 0)
 (qC (qW Hr (e3R (d8U 4)<|Đ 3)
  (qC (qs 6 ND<|dF Ra hr.m rfl (da (Đ 5)<|e0l Œ))
 (qC (e28 (e2r (cS 1 [6] ["tie","way"]) io
  Ĕ
  b1Y
  ĵ) rfl)
 (q1<|qA (aA<|e96 (a8 (Đ 6) K')) (λe0N=>h)))))
 (qr<|Đ 4))))
 rintro _ _ @⟨ts,U,h,g,m,N,PT,F0,hm⟩;let#[rk,hr1,hr2]:=PT.rk;show .nx #[Z7] ZQ;show dR (b:=(m,U,[])) (λb ε=>Wy.Flow ts b.2.1 h g b.1/\b.2.2.length+b.1=m/\b.2.2++e3j b.1 (ts.filter λt=>b.2.1 t.1)=e3j m Ħ/\∃ o,ε=[.fz<|aZ (ts.filter λt=>U t.1),.fz<|.str h,.fz<|.str g,.fz<|.int m,.ow<|tb b.2.2,.fz<|aZ (ts.filter λt=>b.2.1 t.1),o]) (·.1) #[F0,kR,_,1] λe9y=>?_;let#[n,Ui,dn]:=gR;let#[F2,hs,eP,o,he]:=Y';dsimp only at F2 hs eP he;subst he;let rd:=lt_int (ε:=[some<|aZ (ts.filter λt=>U t.1),some<|.str h,some<|.str g,some<|.int m,some<|tb dn,some<|aZ (ts.filter λt=>Ui t.1),o.a]) (ra:=rF OZ<|rA pf SI) (rb:=rV 3) uH rfl
 cases n with
 | zero=>
  rw[Hg<|by omega]at rd;show .inl #[rd,1,by rw[<- eP];change _=Fl.rt (tb dn);rw[show gE h g N 0 _=[] from rfl,HD]]
 | succ n=>
  rw[Hf<|by omega]at rd;let W:=b4D hr1 F2 #[0] hr2 N h [] (.nil h) #[0];rw[IF]at W;let up:=W.up λe4t=>hr1 t (Hw.mp ht).1;let hgN:=hr2 g;let Mt:=PT.Mt;let hz:(e4m h).length<=1000:=#[0]
  let F3:=F2.without PT.nd W<|a1O PT.nd (λe4t=>(Hw.mp<|W.sub t ht).1) up.2.2;rw[show ((n+1:Nat):Int) - 1=(n:Int) by omega]at F3;let ef:(ts.filter λt=>Ui t.1).filter (λt=>not (decide (t.1∈nums ŷ)))=ts.filter λt=>Wy.without Ui (nums<|e4m h) t.1:=by rw[List.filter_filter];ext d4n
  let eP:dn++nums ŷ::e3j n ((ts.filter λt=>Ui t.1).filter λt=>not (decide (t.1∈nums ŷ)))=e3j m Ħ:=eP;let c1:=QK.mk W hz;generalize nums ŷ=ks at c1 F3 eP ef;rw[ef]at eP;show .inr #[rd,(n,Wy.without Ui ks,dn++[ks]),_,.nx u7<|.nx ⟨bd (λt=>not (decide (t.1∈ks))) m8 (HH wJ PT.many) λt _=>b44⟩ #[1,by rw[GS];omega,.z rfl],#[F3,by simp;omega,by rw[HI];show eP,.fz<|rw ks,?_],IJ _];ext d7D;rw[ef,show tb (dn++[ks])=.lst (dn.map rw++[rw ks]) from congrArg D.lst GZ];rfl
def QJ.mono (h:QJ cm n s):∀ {m:Nat},n<=m->QJ cm m s:=by
 induction h with
 | done=>show λ_=>.done
 | step h1 _ ih=>show λ{m} hm=>by obtain⟨k,rfl⟩:∃ k,m=k+1:=#[m - 1,#[0]];show .step h1 (ih<|by omega)
def f2K (C:f1b cm):∀ post:Cm Str,(keys (cm++post)).Nodup->∀ y∈keys cm,∃ s,(cm++post).find? sV=!(y,s)/\QJ (cm++post) cm.length s:=by
 induction C with
 | one=>show λpost nd e16=>by rw[Ht.mp hy];show#[none,(kK nd rfl (pre:=[])).1,.done]
 | @snoc cs x y t C hx ht hs hy ih=>
  intro post nd z hz;rw[HI]at nd ⊢;let ih:=ih _ nd;rw[bh]at hz;rw[Hn];ext d8e
  ·let#[s,mh]:=ih z hz;show#[s,h1,h2.mono<|e9l _]
  ·rw[Ht.mp hz];let#[s,mh]:=ih x hx;show#[!_,(kK nd rfl).1,.step h1 h2]
def c6I (c:Cm Str):∀ (n:Nat)(U:Ξ)(s:Option (Int×Str)),(e7I U s).length<=U.length+n
 | 0,U,_=>Hl _
 | n+1,U,none=>e9l _
 | n+1,U,some s=>by
  let h1:=c6I c n (V4 U s.1)<|cJ c s.2;let h2:=c4k U s.1;rw[gG]
  lia
structure Wi (S:NS)(fo:Λ)(N:Nat):Prop where
 parts:b9V tM N
 ends:Ends tM S.names
 nn:S.names.Nodup
 hN:S.names.length<=N
 tl:S.Lj.length<=1000
 pl:S.names.length<=900
theorem lE:Sum Ξ Θ->D
 | .inl ks=>.tup [.str "cut",rw ks]
 | .inr QM=>.tup [.str "ways",tb QM]
theorem be (c7t)(ho:Option Str)(g:Str)(N m:Nat):Sum Ξ Θ:=match ho with
 | none=>.inl []
 | some h=>match eS ts (!h) g N m [] with
  | .inl ks=>.inl ks
  | .inr U=>.inr (e3j m (ts.filter λt=>NM U t.1))
inductive c10:Ä
 |mk {nm:η}{ts:List LS}:nm.Nodup->nm.length<=900->ts.length<=1000->Ends ts nm->(∀ t∈ts,t.2.1≠t.2.2.1)->c10 [br nm,aZ ts] (gL nm ts)
inductive Rr (c:Cl):Ä
 |mk {S:NS}{g:Str}{m N:Nat}{fo:Λ}:Wi S fo N->g∈S.LL->1<=m->m<=1000->m * N+N<=1000->Rr c [aH c S,.str g,.int m,SM fo] (lE (be tM ī g N m))
open e
structure w8 (mg:Ω):Prop where
 Mg:mg "range"=none
variable {c:Cl}{f:Addr}{fd:È}
def b6O (c7t):BZ ts []=[]:=by ext1 BZ sg nums;rw[Jc.mpr λt _=>by ext1 C0;simp[keys]];rfl
def b76 [Bx:Bd](F:MM Bx.K "ways" "ways" (top 84) f fd)(c73)(TR:Bx.mg "range"=none)(Lk)(MB)(Pu:ML 1 c.Mj "names" Þ (d89 b43))
  (Ny:Mh 2 "standing_ties" c2v (d89 b9Z)) (O6:Mh 1 "ties_by_post" jX (Pr c10)) (O9:Mh 2 "reached_from" b5t (Pr Ph))
  (Pk:Mh 1 "used_with" b5s (Pr a9V)) (O7:Mh 1 "ties_between" ["ties","came"] (Pr a18)) (Ox:Mh 3 "parted_ways" b2F (Pr Dfd)):QN MY 4 f fd ï (d89 Rr):=by
 let T:w8 Bx.mg:=#[TR]
 show MM.dw F ["home","ties","touching","used","turn","came"] ?_ λe7b=>(qC (qI (e4X (Đ 1)<|e4Y Lk hr.m)
  j8
  q0)
 (qC (d84 4 MB)
 (qC (qs 5 ND<|dF Ny hr.m rfl b5V)
 (qC (qs 6 ND<|dF O6 hr.m rfl (da (e4Y Pu hr.m)<|e0T Lp))
 (qC (qs 7 ND dD0.p)
 (qC (e1g nA FB (aI 8)
  (qC (qs 9 ND<|dF O9 hr.m rfl (da (Đ 4)<|e2q Gh))
 (qC (qI (e4X (Đ 1)<|Đ 9)
  (qr<|i7 (da jk<|da (dF O7 hr.m rfl<|e0T (da (Đ 9) Lp)) Lp))
  q0)
 (d9A 7 (dF Pk hr.m rfl<|f1d (da (Đ 9)<|e0l Lp))))))
 (qr (i7 (da jk (da (dF Ox hr.m rfl (da (e0y (cS 1 [7] ["tie","used"]) io
  Ĕ
  (λe0i=>bK<|e54 ĺ (Đ 1))
  ĵ)<|e10 b5U)) Lp))))))))))
 rintro _ _ @⟨S,g,m,N,fo,O,hg,Vf,hm,hz⟩;let pl:S.Lu.length<=900:=by let:=O.pl;unfold NS.names at this;rwa [GS]at this
 let UD:=O.parts.many;let#[rk,hr1,hr2]:=O.parts.rk;let inl:=e7E (i:=g) (ks:=S.LL);rw[Hf hg]at inl;let En:=O.ends;let Pt:=O.parts;show#[1,.inl<|.nx (.f #[1,gc,inl] rfl) (.nx b8r<|.nx ⟨⟨rfl,rfl,rfl⟩,⟨O.tl⟩⟩ (.nx ⟨⟨⟨rfl,rfl,by decide,⟨⟩⟩,rfl,rfl⟩,⟨O.nn,O.pl,UD,En,λe4t z=>by let:=hr1 t ht;rw[z]at this;lia⟩⟩ ZQ))];generalize aT S.Lj fo=ts at UD hr1 En Pt;ext1 be
 cases hh:S.Mi with
 | none=>
  show b3p lT (u:=λ(j:Nat)=>.int (j:Int)) (λf2q=>i=0/\∃ o8 o9,ε=[.fz<|aH c S,.fz<|.str g,.fz<|.int m,.fz<|SM fo,.fz .non,.fz<|aZ ts,.fz<|gL S.names ts,.fz<|c8 [],o8,o9]) ⟨rfl,_,_,rfl⟩ ⟨m,hm,⟨rfl,rfl⟩,(bO _).symm⟩ (λe2O=>?_) λe3y=>by let#[h,_]:=gR;rw[HV]at h;lia
  let#[hi,o8,o9,he]:=gR;subst he;show#[_,1,.inl #[_,.nx #[#[4],.n]<|.rt (.t #[2,e5l rfl] b1f),?_]];rw[b6O];rfl
 | some q=>
  let hq:q.1∈S.names:=Ho<|Ik hh;show b3p (List.range m) (u:=λ(j:Nat)=>.int (j:Int)) (λf2q=>∃ Ui o8 o9,ε=[.fz<|aH c S,.fz<|.str g,.fz<|.int m,.fz<|SM fo,.fz<|.str q.1,.fz<|aZ ts,.fz<|gL S.names ts,.fz<|c8 Ui,o8,o9]/\Ui.Nodup/\Ui.length<=i * N/\Wy.Flow ts (NM Ui) q.1 g i/\eS ts (some q.1) g N m []=eS ts (some q.1) g N (m - i) Ui) ⟨[],_,_,rfl,Jy,HW _,Flow.none ts q.1 g,rfl⟩ ⟨m,hm,⟨rfl,rfl⟩,(bO _).symm⟩ (λe2O=>?_) λe3y=>?_
  ·let#[c59]:=gR;subst he;let#[1,hi]:=jB hx;rw[show m - i=m - (i+1)+1 by lia,b5E]at eW;let R:=c4t (ts:=ts) (U:=NM Ui) En hq O.hN;let c1:=Ph.s (U:=Ui) En hq O.nn O.hN O.pl;generalize eV ts (NM Ui) N (!q.1)=cc at eW R c1;let ccl:cc.length<=N:=by
    let:=fV R.Nc.nd<|R.Nc.names En hq;let e:(keys cc).length=cc.length:=GS _;let:=O.hN
    lia
   let i1:i * N+N<=m * N:=by rw[<- K9];show Nat.mul_le_mul_right _ hi
   ext d5Q;by_cases hgc:g∈keys cc
   ·rw[if_pos hgc]at eW;let#[F',nd']:=a1C Pt.nd R.Nc Fi hgc nd ccl;let#[s,mh]:=f2K R.Nc [] (by rw[HD];show R.Nc.nd) g hgc;rw[HD]at h1 h2;let es:cJ cc g=s:=by ext1 cJ;rw[h1];rfl
    let ul':=c6I cc N Ui s;rw[es]at F' nd' eW;show .inr #[_,.nx u7<|.nx (.f #[2,e5l (by rw[eM,Hf hgc];rfl)] rfl) #[#[4],#[h1,h2.mono ccl,nd,#[]]],gG cc N Ui s,.fz<|.int i,.fz<|fg cc,1,nd',by rw[K9];lia,by rw[show ((i+1:Nat):Int)=(i:Int)+1 by lia];show F',eW]
   ·rw[if_neg hgc]at eW;show .inl #[_,.nx u7<|.rt (.t #[2,e5l (by rw[eM,Hg hgc];rfl)] b1f),by change Fl.rt a4J=_;rw[eW];rfl]
  ·let#[c59]:=gR;subst he;rw[HV,Nat.sub_self]at eW;rw[HV]at Fi;let eW:eS ts (!q.1) g N m []=.inr Ui:=eW;show#[#[#[1,#[#[bd (xs:=ts) (u:=bu) (h:=bu) (λt=>NM Ui t.1) m8 UD λt _=>#[_,1,#[sB,1,f1N (by rw[fK];rfl)],λ_=>rfl],4],#[Pt,Fi,hm]],1],kR],?_];change Fl.rt a4J=_;rw[eW];rfl
open e
universe K72
namespace Mk
open Mx
def ux (hP)(h:p ∣ a * b):p ∣ a\/p ∣ b:=by
 ext d27;by_cases c:p ∣ a
 ·show .inl c
 ·let h0:0<a % p:=by
   let:=Ii a (b:=p) #[];let n:=λz=>c (Iz z)
   lia
  let#[k,hk]:=My.To hP _ h0<|HX _ #[];let#[j,hj]:=h;show .inr #[My.bk p (a % p) * j - My.bk p (a % p) * (a / p) * b - k * b,?_];let e:=Ji a p;generalize My.bk p _=z at *
  generalize a % p=r at *
  generalize a / p=q at *
  grind
def b36 {q:α->Bool}:∀ {l:List α},l.Nodup->(∀ x∈l,∀ y∈l,q x=true->q y=true->x=y)->l.length<=(l.filter λx=>not (q x)).length+1
 | [],_,_=>by simp
 | a::l,nd,h=>by
  rw[HQ]at nd
  cases c:q a with
  | false=>
   rw[IK,c];let:=b36 nd.2 λe0M e16=>h x (by simp[hx]) y C4
   cbv
  | true=>
   let:l.filter (λx=>not (q x))=l:=KU.mpr λe0M=>by
    cases c2:q x with
    | false=>rfl
    | true=>show absurd (h a Ė x (by simp[hx]) c c2▸hx) nd.1
   rw[IK,c,this];simp
theorem Nw (p)(k:Int)(vs ss:Ξ):Bool:=(List.zipWith (λv s=>(k * v+s) % p) vs ss).any λx=>decide (x=0)
def a5h (hP):∀ (vs ss:Ξ)(X:À),X.Nodup->(∀ x∈X,(x:Int)<p)->vs.length<X.length->(∀ v∈vs,¬ p ∣ v)->∃ k∈X,f1e ss=false
 | [],_,x::X,_,_,_,_=>b6u
 | [],_,[],_,_,h,_=>by simp at h
 | _::_,[],x::X,_,_,_,_=>b6u
 | _::_,[],[],_,_,h,_=>by simp at h
 | v::vs,s::ss,X,nd,lt,h,nz=>by
  let one:X.length<=(X.filter λ(x:Nat)=>not (decide b7c)).length+1:=b36 nd λe0M e16 e1C=>by
   let h1:=Iz<|HB h1;let h2:=Iz<|HB h2;let h3:p ∣ ((x:Int) - y) * v:=by
    let:=JB h1 h2;let e:(x:Int) * v+s - (y * v+s)=(x - y) * v:=by rw[Int.sub_mul];omega
    rwa [e]at this
   rcases ux hP h3 with h3|h3
   ·let a1:=lt x hx;let a2:=lt y hy;let#[j,hj]:=h3;let hj0:j=0:=by
     rcases Int.lt_trichotomy j 0 with z|z|z
     ·let:p * j<=p * (-1):=JK #[0] #[0];omega
     ·show z
     ·let:p * 1<=p * j:=JK #[0] #[0];omega
    subst hj0;omega
   ·show absurd h3 (nz v<|by simp)
  let#[k,hk,hb]:=a5h hP vs ss (X.filter λ(x:Nat)=>not (decide b7c)) (nd.sublist J1) (λe0M=>lt x (Hw.mp hx).1) (by simp only[HZ]at h;omega) λu hu=>nz u (by simp[hu]);let#[hk1,hk2]:=Hw.mp hk;show#[k,hk1,?_];unfold Nw at hb ⊢;rw[List.zipWith_cons_cons,KI,hb];simpa using hk2
theorem ub (p)(vs ss:Ξ):Nat:=((List.range p.toNat).find? λ(k:Nat)=>not (f1e ss)).getD 0
def Wx (hP)(hl:(vs.length:Int)<p)(nz:∀ v∈vs,¬ p ∣ v):Nw p (ub p vs ss) vs ss=false/\(∀ j:Nat,j<ub p vs ss->Nw p j vs ss=true)/\((ub p vs ss:Nat):Int)<p:=by
 let#[k,hk,hb]:=a5h hP vs ss (List.range p.toNat) List.nodup_range (λe0M=>by grind) ĝ nz
 cases hf:(List.range p.toNat).find? λ(k:Nat)=>not (f1e ss) with
 | none=>
  cbv
 | some u=>
  let e:ub p vs ss=u:=by ext1 ub;rw[hf];rfl
  cbv
theorem mF (a b:Int)(x q:Ξ):Ξ:=List.zipWith (λu v=>a * u - b * v) x q
def b9A (a b:Int):∀ (x q y:Ξ),x.length=q.length->dot vX y=a * dot x y - b * dot q y
 | [],[],y,_=>by simp[mF,dot]
 | [],_::_,y,h=>by simp at h
 | _::_,[],y,h=>by simp at h
 | u::x,v::q,[],_=>by simp[mF,dot]
 | u::x,v::q,w::y,h=>by
  let ih:=b9A a b x q y ų;change ž * w+dot vX y=a * (u * w+dot x y) - b * (v * w+dot q y)
  rw[ih]
  grind
def c0n (h:x.length=q.length):(mF a b x q).length=x.length:=by
 ext1 mF
 cbv
structure Ok (p:Int)(m:Nat)(P:Θ)(F:Nat->Ξ):Prop where
 len:P.length=m
 PZ:∀ r∈P,r.length=m/\Np p r
 fw:∀ j,j<m->(F j).length=m
 off:∀ i j,i<m->j<m->i≠j->p ∣ dot œ (F j)
 own:∀ i,i<m->¬ p ∣ dot œ (F i)
 sep:∀ x:Ξ,x.length=m->(∀ j,j<m->p ∣ dot x (F j))->∀ y:Ξ,y.length=m->p ∣ dot x y
def Ok.start {p:Int}(d17)(m):Ok p m (ones m) (Ll m) where
 len:=by simp[ones]
 PZ:=λe2T=>by let#[i,_,1]:=GX.mp hr;show#[LF ĉ,fc hp ĉ]
 fw:=λj _=>LF ĉ
 off:=λe4K h=>by
  ext d4z
  grind [Mu,LF,b33,Int.dvd_zero]
 own:=λe8X=>by
  ext d4z
  rw[e1,Mu Ĉ<|LF _ _];let:=b33 m i i;unfold e at this;intro h;let:=KJ #[0] h;omega
 sep:=λe0M h e16=>by
  rw[a3N ĉ<|by omega];let:∀ n,n<=x.length->p ∣ eU (λj=>e x j * e y j) n:=by
   intro n
   induction n with
   | zero=>intro _;show Int.dvd_zero _
   | succ n ih=>
    intro hn;let h1:=h n #[0];rw[Mp,Mu Ĉ hx]at h1;show Jt (ih<|by omega) (Kp h1)
  show this _ kJ
theorem OL (d2h)(i):Ξ:=
 if i=w\/LI p œ t=0 then P.getD i [] else List.zipWith (λa b=>(LI p Ŕ t * a - LI p œ t * b) % p) œ Ŕ
theorem moved (d2h):Θ:=(List.range P.length).map (OL p P w t)
def b4N (p a b:Int):∀ (x q y:Ξ),p ∣ dot (List.zipWith (λu v=>ž % p) x q) y - dot vX y
 | [],_,y=>by simp[mF,dot]
 | _::_,[],y=>by simp[mF,dot]
 | u::x,v::q,[]=>by simp[mF,dot]
 | u::x,v::q,w::y=>by
  let#[k,hk]:=b4N p a b x q y;show#[k - ž / p * w,?_];change ž % p * w+dot _ y - (ž * w+dot vX y)=_;let e:=Ji ž p;generalize ž % p=r at *
  generalize ž / p=d at *
  rw[<- e]
  grind
def Ok.at (d0D)(hi:i<m):(P.getD i []).length=m/\Np p œ:=h.PZ _ (getD_mem (by rw[h.len];show hi))
def c4z (hP)(d0D)(hw)(d2i)(hi:i<m):
  ∃ a b:Int,¬ p ∣ a/\(i=w->b=0)/\(∀ y,p ∣ dot (OL p P w t i) y - (a * dot œ y - b * dot Ŕ y))/\(i≠w->p ∣ a * dot œ t - b * dot Ŕ t):=by
 ext d27;let n1:¬ p ∣ (1):=λz=>by let:=KJ #[0] z;omega
 ext d5X
 ·ext d3S;show#[(1),(0),n1,λ_=>rfl,λy=>by simp,λz=>?_];rcases c with c|c
  ·show absurd c z
  ·rw[LU]at c;simpa using Iz c
 ·ext d3j;show#[LI p Ŕ t,LI p œ t,λz=>?_,λz=>absurd (.inl z) c,λy=>?_,λ_=>?_]
  ·rw[LU]at z;let:=Jt z<|e8F (dot Ŕ t / p);rw[Ji]at this;show ht this
  ·let:=b4N p (LI p Ŕ t) (LI p œ t) œ Ŕ y;rwa [e9Q _<|by rw[(h.at hi).1,(h.at hw).1]]at this
  ·rw[LU,LU];generalize dot _ t=u;generalize dot _ t=v;let e1:=Ji u p;let e2:=Ji v p;show#[u % p * (v / p) - v % p * (u / p),?_];generalize u % p=a at *
   generalize v % p=b at *
   generalize u / p=c at *
   generalize v / p=d at *
   grind
def a6s (hi:i<P.length):(e8G P w t).getD i []=OL p P w t i:=by simp[moved,hi]
def Ok.move {p:Int}{m:Nat}{P:Θ}{F:Nat->Ξ}(hP)(d0D){w:Nat}(hw){t:Ξ}(hl:t.length=m)(d2i):
  Ok p m (e8G P w t) (λj=>if j=w then t else F j) where
 len:=by simp[moved,h.len]
 PZ:=λe2T=>by
  ext d27;let#[rT]:=GX.mp hr;let hi:i<m:=by rw[<- h.len];show HP.mp hi
  ext d5X
  ·ext d3S;show h.at hi
  ·ext d3j;show#[by rw[List.length_zipWith,(h.at hi).1,(h.at hw).1,Nat.min_self],λe0M=>?_];let#[k,hk,1]:=Ig.mp hx;rw[KM];show#[Ii _<|by omega,HX _<|by omega]
 fw:=λe7W=>by
  ext d7E
  ·rw[if_pos c,hl]
  ·rw[if_neg c,h.fw j hj]
 off:=λe4K n=>by
  ext d3A;ext d7E
  ·ext d3S;let h1:=hd t;let h2:=hz λz=>n<|z.trans c.symm;let:=Jt h1 h2;ext d3g
  ·ext d3j;let h1:=hd<|F j;let h2:=Iv (b:=a)<|h.off i j hi hj n;let h3:=Iv (b:=b)<|f1f Fs;let:=Jt h1<|JB h2 h3;ext d3g
 own:=λe8X=>by
  ext d3A;intro z;by_cases c:i=w
  ·rw[if_pos c]at z;let h1:=hd t;rw[hb c,Int.zero_mul,Int.sub_zero]at h1;let h2:=JB z h1;rw[Int.sub_sub_self]at h2;rcases ux hP h2 with q|q
   ·show na q
   ·rw[c]at q;show ht q
  ·rw[if_neg c]at z;let h1:=hd<|F i;let h3:=Iv (b:=b)<|h.off w i hw hi Fs;let h2:=Jt (JB z h1) h3;rw[Int.sub_sub_self,Int.sub_add_cancel]at h2;rcases ux hP h2 with q|q
   ·show na q
   ·show h.own i hi q
 sep:=λe0M hk e16=>by
  let lw:=(h.at hw).1;let h1:=h.sep (mF (dot Ŕ<|F w) (dot x<|F w) x<|P.getD w []) (by rw[c0n<|by omega,hx]) λe7W=>by
   rw[e9Q _<|by omega];ext d7E
   ·subst c;rw[Int.mul_comm,Int.sub_self];show Int.dvd_zero _
   ·let h2:=hk j hj;rw[if_neg c]at h2;show JB (Iv h2) (Iv<|f1f Fs)
  let h2:=h1 t hl;rw[e9Q _<|by omega]at h2;let h3:=hk w hw;rw[if_pos rfl]at h3;let h4:p ∣ dot x (F w) * dot Ŕ t:=by let:=JB (Iv (b:=dot Ŕ<|F w) h3) h2;rwa [Int.sub_sub_self]at this
  show h.sep x hx (λe7W=>?_) y hy;ext d7E
  ·rw[c];rcases ux hP h4 with q|q
   ·show q
   ·show absurd q ht
  ·let:=hk j hj;rwa [if_neg c]at this
abbrev Ask:=Nat×Nat×Int
theorem WZ (p)(c7b)(d1e)(h o:Int):List Int×Ξ:=
 (e64 T.1,f0k T.2 (A.map λb=>s b h))
theorem Qy (p)(c7b)(d1e)(n):List Int×Ξ:=
 if T.2.getD n 0≠0 then T else WZ p mixed A s T (e9m (0,0,0)).2.2 (e9R (A.map λb=>s b (e9m (0,0,0)).2.2))
theorem QV (p)(c7b):Nat->List Int×Ξ
 | 0=>(e41 0,e6H 0)
 | n+1=>e9n n
abbrev Vc (p:Int)(c7b):Ξ:=(QV p mixed A s A.length).1
structure Uh (p:Int)(c7b):Prop where
 prime:My.O2 p=true
 Mt:(A.length:Int)<=p
 nd:mixed.Nodup
 ahead:∀ a∈A,a.2.2∈mixed
 own:∀ a∈A,¬ p ∣ s a a.2.2
structure a6v (p:Int)(c7b)(n:Nat)(d1e):Prop where
 l1:T.1.length=mixed.length
 l2:T.2.length=A.length
 f1:Np p T.1
 f2:Np p T.2
 val:∀ (i:Nat) a,A[i]?=!a->p ∣ T.2.getD i 0 - dot T.1 c1K
 nz:∀ i,i<n->T.2.getD i 0≠0
def c1S (c82)(f:α->β->Int)(x:List α)(y:List β):Np p (List.zipWith (λa b=>f a b % p) x y):=λe79=>by let#[k,hk,1]:=Ig.mp hz;rw[KM];show#[Ii _<|by lia,HX _ hp]
def a6X {p a:Int}:p ∣ a % p - a:=#[-(a / p),by let:=Ji a p;rw[Int.mul_neg];lia]
def b64 (p o h:Int)(f:Int->Int):∀ (mixed told:Ξ),told.length=mixed.length->mixed.Nodup->p ∣ dot (e64 told) qk - (o * dot told qk+if h∈mixed then f h else 0):=by
 intro mixed
 induction mixed with
 | nil=>
  intro told e _
  cases told with
  | nil=>simp[dot]
  | cons _ _=>simp at e
 | cons k mixed ih=>
  intro told e nd
  cases told with
  | nil=>simp at e
  | cons a told=>
   rw[HQ]at nd;let#[j,hj]:=ih told Zz nd.2;let#[i,hi]:=@a6X p FO;show#[j+i * f k,?_];change FO % p * f k+dot _ qk - (o * (a * f k+dot told qk)+if h∈k::mixed then f h else 0)=_;let e1:(if h∈k::mixed then f h else 0)=(if k=h then 1 else 0) * f k+if h∈mixed then f h else 0:=by
    by_cases c:k=h
    ·cbv
    ·simp[c,Ne.symm c]
   grind
def QE (d15)(i):0<=r.getD i 0/\r.getD i 0<p:=Np.at hp h i
def Vb (h:Uh p mixed A s):∀ n,n<=A.length->a6v p mixed A s n b2G
 | 0,_=>by
  ext d33;show#[by simp[QV],by simp[QV],λe0M=>?_,λe0M=>?_,λi f2r=>?_,λe8X=>absurd hi<|JR _]
  ·let:=Jm hx;omega
  ·let:=Jm hx;omega
  ·let z:∀ (n:Nat)(y:Ξ),dot Aj y=0:=λn=>by
    induction n with
    | zero=>intro y;rfl
    | succ n ih=>
     intro y
     cases y with
     | nil=>rfl
     | cons b y=>change 0 * b+dot Aj y=0;rw[ih];omega
   change p ∣ (e6H (0:Int)).getD i 0 - dot (e41 0) _;rw[z,GV,List.getElem?_replicate_of_lt (GW.mp ha).1];simp
 | n+1,hn=>by
  ext d33;let p0:0<p:=#[0]
  let I:=Vb h n #[0];change a6v p mixed A s (n+1) (e9n n);generalize QV p mixed A s n=T at I;ext1 Qy;by_cases c:T.2.getD n 0≠0
  ·ext d3S;show { I with nz:=λe8X=>?_ };by_cases e:i=n
   ·rw[e];show c
   ·show I.nz i #[0]
  ·ext d3j;let c:T.2.getD n 0=0:=Classical.not_not.mp c;let ea:A[n]?=some A[n]:=GT #[0];let eg:e9m (0,0,0)=A[n]:=by rw[GV,ea];rfl
   let am:A[n]∈A:=Ia _;rw[eg];generalize ha:A[n]=a at *
   let sl:(A.map λb=>s b a.2.2).length=A.length:=by simp
   let#[u1,_,_]:=Wx h.prime (vs:=T.2.take n) (ss:=A.map λb=>s b a.2.2) (by rw[Hm];let:=h.Mt;omega) λv hv=>by let#[rT]:=Ig.mp hv;rw[Kt];rw[Hm]at hi;let:=I.nz i #[0];let f:=QE p0 I.f2 i;rw[GV,GT<|by omega]at this f;intro z;let:=KJ (by let h1:T.2[i]≠0:=this;let h3:0<=T.2[i]/\T.2[i]<p:=f;omega) z;let h3:0<=T.2[i]/\T.2[i]<p:=f;omega
   generalize (e9R (A.map λb=>s b a.2.2):Int)=o at *
   let vat:∀ i b,A[i]?=!b->(f0k T.2<|A.map λb=>s b a.2.2).getD i 0=i6 % p:=λi e2h=>by let hi:=(GW.mp hb).1;rw[GV,JV,Hh,hb,GV,GT (by rw[I.l2];show hi)];rfl
   ext1 WZ;show#[by simp[I.l1],by simp[I.l2],c1S p0 Ĉ,c1S p0 Ĉ,λi e2h=>?_,λe8X=>?_] <;> dsimp only
   ·rw[vat i b hb];let#[x,hx]:=I.val i b hb;let#[y,hy]:=b64 p o a.2.2 (s b) mixed T.1 I.l1 h.nd;rw[if_pos<|h.ahead a am]at hy;let#[z,hz]:=@a6X p i6;show#[z+o * x - y,?_];generalize i6 % p=q at *
    generalize dot (List.zipWith _ mixed T.1) c2y=w at *
    generalize dot T.1 c2y=d at *
    let e1:T.2.getD i 0=d+p * x:=#[0]
    rw[e1]at hz;let e2:q=o * (d+p * x)+s b a.2.2+p * z:=#[0]
    let e3:w=o * d+s b a.2.2+p * y:=#[0]
    rw[e2,e3]
    grind
   ·by_cases e:i=n
    ·subst e;rw[vat i a<|by rw[ea],c];intro z;let:=Iz z;rw[Int.mul_zero,L0]at this;show h.own a am this
    ·let U3:i<A.length:=#[0]
     rw[vat i A[i]<|GT U3];intro z;let:Nw p o (T.2.take n) (A.map λb=>s b a.2.2)=true:=by ext1 Nw;rw[List.any_eq_true];show#[(0),IT.mpr #[i,?_],by simp];rw[JV,IR<|by omega,Hh,GT U3,GT (by rw[I.l2];show U3)];rw[GV,GT (by rw[I.l2];show U3)]at z;show congrArg some z
     rw[this]at u1
     cases u1
def VA (h:Uh p mixed A s):(Vc p mixed A s).length=mixed.length/\Np p c2z/\∀ a∈A,¬ p ∣ dot c2z c1K:=by
 ext d33;let I:=Vb h A.length<|Hl _;show⟨I.l1,I.f1,λf2r z=>?_⟩;let#[i,hi,e]:=Ig.mp ha;let h1:=Jt (I.val i a<|by cbv) z;let f:=QE #[] I.f2 i;let:=I.nz i hi;let:=KJ #[] h1
 lia
abbrev MQ:=Int×Λ
abbrev M9:=Nat×Θ
theorem st (w:Nat):Int:=-1 - (w:Int)
theorem PN (e w:Nat)(way):List (Int×Ask):=(way.zip (st w::way)).map λq=>(q.1,e,w,q.2)
theorem Oi (d1f):List (Int×Ask):=ways.zipIdx.flatMap λx=>PN e x.2 x.1
theorem O5 (ê):List (Int×Ask):=ê.zipIdx.flatMap λx=>Oi x.2 x.1.2
theorem pick (c9f)(k:Int):List Ask:=(L.filter λx=>decide XY).map (·.2)
abbrev Ma (ê:List M9)(k:Int):List Ask:=pick (O5 ê) k
def fj:∀ (way:Ξ)(s:Int),(k,a)∈way.zip (s::way) ↔ ∃ l r,way=l++k::r/\a=l.getLast?.getD s:=by
 intro r'
 induction r' with
 | nil=>
  intro s;simp
 | cons b way ih'=>
  intro s;rw[L4,Hs,ih' b];ext d4M
  ·rintro (h|⟨l,r,rfl,rfl⟩)
   ·cases h;show#[[],way,2]
   ·show#[b::l,r,1,by rw[List.getLast?_cons];rfl]
  ·rintro⟨l,r,e,rfl⟩
   cases l with
   | nil=>cbv
   | cons c l=>
    grind
def Sf {e:Nat}:(k,a)∈PN e w way ↔ ∃ l r,way=l++k::r/\a=(e,w,l.getLast?.getD uL):=by
 ext1 PN;rw[GX];ext d4M
 ·rintro⟨⟨k',h⟩,hm,z⟩
  cases z
  simp_all [fj]
 ·rintro⟨l,r,h1,rfl⟩;show#[(k,_),(fj way _).mpr #[l,r,h1,1],1]
def Pe:(k,a)∈O5 ê ↔ ∃ LK way,ê[a.1]?=!LK/\LK.2[a.2.1]?=!way/\∃ l r,way=l++k::r/\a.2.2=l.getLast?.getD Bl:=by
 ext1 O5 Oi;rw[J0];ext d4M
 ·rintro⟨⟨LK,e⟩,he,h⟩;let#[#[way,w],hw,h]:=J0.mp h;let#[l,r,mh]:=Sf.mp h;let he:=Iq.mp he;let hw:=Iq.mp hw;subst h2;show#[LK,way,he,hw,l,r,h1,1]
 ·rintro⟨LK,way,he,hw,l,r,h1,h2⟩;show#[(LK,a.1),Iq.mpr he,J0.mpr #[(way,a.2.1),Iq.mpr hw,Sf.mpr #[l,r,h1,?_]]]
  grind
def Pd:a∈pick L k ↔ (k,a)∈L:=by
 ext1 pick
 cbv
def SX (e w:Nat)(way):(PN e w way).map (·.1)=way:=by ext1 PN;rw[GY];change (way.zip _).map (·.1)=way;rw[List.map_fst_zip<|by simp]
def Ti (d1f):(Oi e ways).map (·.1)=ways.flatten:=by ext1 Oi;rw[List.map_flatMap];let:(λx:List Int×Nat=>(PN e x.2 x.1).map _)=λx=>x.1:=funext λx=>SX Ĉ;rw[this,KF,List.zipIdx_map_fst]
def RQ (c9J):((Ma ê k).map (·.1)).Nodup:=by
 let pw:(O5 ê).Pairwise λx y=>x.1=y.1->x.2.1≠y.2.1:=by
  ext1 O5;ext d8C;show#[λe0M=>?_,?_]
  ·let h1:=h x.1<|Hb (Iq.mp hx);rw[<- Ti x.2]at h1;show (Jo.mp h1).imp λn z=>e6q n
  ·let key:∀ (x:M9×Nat)(a:Int×Ask),a∈Oi x.2 x.1.2->a.2.1=x.2:=λx f2r=>by let#[q,_,h2]:=J0.mp ha;let#[CD,e]:=Sf.mp h2;rw[e]
   let hn:(ê.zipIdx.map (·.2)).Nodup:=by rw[List.zipIdx_map_snd];show List.nodup_range'
   show (Jo.mp hn).imp λ{x y} n a ha b hb _ z=>n ?_;rw[<- key x a ha,<- key y b hb,z]
 ext1 Ma pick;rw[GY,List.Nodup,Jo,List.pairwise_filter];show pw.imp λ{x y} n hx hy=>n ?_
 grind
def b14:∀ (n:Nat)(X:À),X.Nodup->(∀ x∈X,x<n)->X.length<=n:=by
 intro r'
 induction r' with
 | zero=>
  intro X _ h
  cases X with
  | nil=>simp
  | cons x X=>show absurd (h x<|by simp) (JR _)
 | succ n ih'=>
  intro X nd h;let h1:=b36 (q:=λx=>decide (x=n)) nd λx _ y _ a b=>by
   grind
  let h2:=ih' (X.filter λx=>not (decide (x=n))) (nd.sublist J1) λe0M=>by
   grind
  lia
def UR (c9J):(Ma ê k).length<=ê.length:=by
 let:=b14 ê.length _ (RQ h k) λe0M=>by let#[a,ha,1]:=GX.mp hx;let#[LK,_,h1,_]:=Pe.mp<|Pd.mp ha;show (GW.mp h1).1
 cbv
theorem fr (D:Ξ)(s:Int)(way):Int:=((way.filter λk=>decide (k∈D)).getLast?).getD s
def StK (nd:(D++k::rest).Nodup)(hs:way.Sublist (D++k::rest))(s:Int):
  (¬ k∈way/\fr (D++[k]) s way=fr D s way)\/∃ l r,way=l++k::r/\fr D s way=l.getLast?.getD s/\fr (D++[k]) s way=k:=by
 let#[l,l2,1,mh]:=List.sublist_append_iff.mp hs;let#[nD,nk,dis]:=HL.mp nd;rw[HQ]at nk;let fl:∀ z:Ξ,l.filter (λx=>decide (x∈D++z))=l:=λz=>KU.mpr λe0M=>by simp[h1.subset hx]
 let kl:=λz=>dis k (h1.subset z) k Ė rfl;let fD:∀ r:Ξ,r.Sublist rest->r.filter (λx=>decide _)=[]:=λe2T=>Jc.mpr λe0M z=>dis x (by simpa using z) x b7d rfl;let fk:∀ r:Ξ,r.Sublist rest->r.filter (λx=>decide (x∈D++[k]))=[]:=λe2T=>Jc.mpr λe0M z=>by
  rcases Hx.mp (HB z) with z|z
  ·show dis x z x b7d rfl
  ·show nk.1 (Ht.mp z▸hr.subset hx)
 let fl0:=fl [];rw[HD]at fl0;ext1 fr;rcases List.sublist_cons_iff.mp h2 with h2|⟨r,rfl,h3⟩
 ·show .inl #[λz=>?_,?_]
  ·rcases Hx.mp z with z|z
   ·show kl z
   ·show nk.1 (h2.subset z)
  ·rw[Jj,Jj,fl,fl0,fD _ h2,fk _ h2]
 ·show .inr #[l,r,1,qm]
  ·let:=λz=>dis k z k Ė rfl;rw[Jj,fl0,IK,fD _ h3,Hg this];simp
  ·rw[Jj,fl,IK,fk _ h3,Hf<|show k∈D++[k] by simp];simp
def FX {p:Int}(h:p ∣ a % p):p ∣ a:=by let:=Jt h<|e8F (a / p);rwa [Ji]at this
abbrev Q9:=List (Int×Ξ)
abbrev _root_.Δ:=List Θ
structure SV where
 R:List Q9
 P:Δ
theorem lk (R:Q9)(k:Int):Ξ:=((R.find? λr=>decide (r.1=k)).map (·.2)).getD []
theorem starts (m):Ξ:=(List.range m).map st
theorem M' (m):Option Ξ->Ξ
 | none=>starts m
 | some ks=>ks
theorem rowsOf (ê)(T:SV)(e:Nat):Q9:=T.R.getD (ê.getD e (0,[])).1 []
theorem shown (p)(ê)(T:SV)(a:Ask)(k:Int):Int:=LI p ((T.P.getD a.1 []).getD a.2.1 []) Ed
theorem newRow (p)(m)(cs:Ξ)(R:Q9)(x:MQ)(told:Ξ):Ξ:=if x.1∈cs then List.replicate m 0 else M3 p (cols ((M' m x.2).map (lk R)) m) told
theorem LD (p)(m)(ç)(R:List Q9)(x:MQ)(told:Ξ):List Q9:=List.zipWith (λcs r=>r++[(x.1,e0B cs r x told)]) ç R
theorem Ol (p)(ê)(k:Int)(T:SV)(a:Ask):SV:={ T with P:=T.P.set a.1 (e8G c1M a.2.1 Ed) }
theorem Ly (p)(m)(ê)(T:SV)(x:MQ):Ξ:=Vc p (M' m x.2) lU (e9S T)
theorem RZ (p)(m)(ç)(ê)(T:SV)(x:MQ):SV:=(Ma ê x.1).foldl (e8H x.1) { T with R:=e1R x gV }
theorem start (m)(ç)(ê):SV:=⟨ç.map λ_=>(List.range m).map λw=>Fo,ê.map λ_=>ones m⟩
theorem stN (p)(m)(ç)(ê)(ord:List MQ):Nat->SV
 | 0=>e3k ê
 | n+1=>RZ p m ç ê zc g9
structure Pj (c7W):Prop where
 prime:My.O2 p=true
 nd:(ord.map (·.1)).Nodup
 pos:∀ x∈ord,0<=x.1
 mix:∀ x∈ord,∀ ks,x.2=!ks->ks.Nodup
 ahd:∀ (i:Nat) x ks,ord[i]?=!x->x.2=!ks->∀ k∈ks,k∈(ord.take i).map (·.1)
 ech:∀ LK∈ê,LK.1<ç.length
 ways:∀ LK∈ê,LK.2.length=m
 XR:∀ LK∈ê,∀ way∈LK.2,way.Sublist c2A
 link:∀ LK∈ê,∀ way∈LK.2,∀ l k r,way=l++k::r->∀ mx,(k,mx)∈ord->∀ w,w<m->l.getLast?.getD uL∈M' m mx
 ZC:∀ LK∈ê,LK.2.flatten.Nodup
 free:∀ LK∈ê,∀ way∈LK.2,∀ k∈way,¬ k∈ç.getD LK.1 []
 Mt:(ê.length:Int)<=p
structure b07 (c7W)(n:Nat)(T:SV):Prop where
 rl:T.R.length=ç.length
 pl:T.P.length=ê.length
 keys:∀ R∈T.R,R.map (·.1)=starts m++(ord.take n).map (·.1)
 rows:∀ R∈T.R,∀ r∈R,r.2.length=m/\Np p r.2
 ok:∀ e LK,ê[e]?=!LK->Ok p m WI λw=>lk c00 (fr ż uL (LK.2.getD w []))
def a1S (d0i)(z:Q9):lk (R++z) k=lk R k:=by
 ext d6Z;rw[Kw]
 cases hf:R.find? λx=>decide (x.1=r.1) with
 | none=>ext d52
 | some x=>rfl
def TQ (h:¬ k∈R.map (·.1))(v:Ξ):lk (R++[(k,v)]) k=v:=by ext1 lk;rw[Kw,IZ.mpr λe0M z=>h<|by simpa using #[x.2,(HB z)▸hx]];simp
def VB (d0i):(k,lk R k)∈R:=by
 ext d6Z
 cases hf:R.find? λx=>decide (x.1=r.1) with
 | none=>ext d52
 | some x=>
  let h2:x.1=r.1:=by simpa using Jq hf
  rw[<- h2];show Ik hf
def OD {e:Nat}(h:ê[e]?=!LK):rowsOf ê T e=T.R.getD LK.1 []:=by
 ext1 rowsOf
 cbv
def Z5 (c7O)(h:LK∈ê):T.R.getD LK.1 []∈T.R:=by
 let:=e9o h;rw[GV,GT (by rw[I.rl];show this)]
 cbv
def a1k (D:Ξ)(s:Int)(way):fr D s way=s\/fr D s way∈D:=by
 ext1 fr
 cases h:(way.filter λk=>decide (k∈D)).getLast? with
 | none=>show .inl rfl
 | some x=>show .inr (by simpa using (Hw.mp<|List.mem_of_getLast? h).2)
def Eb (c7O)(hR:R∈T.R)(hw)(way):fr ż uL way∈R.map (·.1):=by
 rw[e4D hR];rcases a1k ż uL way with h|h
 ·rw[h];show HK _ (Ho<|HP.mpr hw)
 ·show Hq _ h
def TJ (c7O)(d0j):Uh p (M' m x.2) lU (e9S T):=by
 let xm:=Hb hx;show#[G.prime,L1 (by let:=UR G.ZC x.1;omega) G.Mt,?_,λf2r=>?_,λf2r=>?_]
 ·cases h:x.2 with
  | none=>
   change (starts m).Nodup;ext1 starts;rw[List.Nodup,Jo];show List.nodup_range.imp λn z=>n (by unfold st at z;omega)
  | some ks=>show G.mix x xm ks h
 all_goals
  let#[LK,way,mh,l,r,zC]:=Pe.mp<|Pd.mp ha;let em:=Hb h1;let wm:=Hb h2;let hw:=e42 em▸(GW.mp h2).1
 ·rw[h4];show G.link LK em way wm l x.1 r h3 x.2 xm _ hw
 ·let K:=e43 h1;let od:ord=ord.take n++x::ord.drop (n+1):=by rw[<- (GW.mp hx).2,<- Jh _,Iy]
  let nd:=G.nd;let hs:=e9T way wm;rw[od,GZ,HE]at nd hs;let ef:fr ż Bl way=a.2.2:=by
   rcases StK nd hs Bl with⟨z,_⟩|⟨l',r',e1,e2,_⟩
   ·show absurd (by rw[h3];simp) z
   ·let wn:=nd.sublist hs;rw[e1]at h3;rw[e2,h4];rw[e1]at wn;let:l'=l:=by
     rcases (List.append_eq_append_iff.mp h3) with⟨as,q1,q2⟩|⟨bs,q1,q2⟩
     ·cases as with
      | nil=>simpa using q1.symm
      | cons y as=>
       cases q2;rw[h3,q1]at wn;show absurd rfl b1I
     ·cases bs with
      | nil=>simpa using q1
      | cons y bs=>
       cases q2;rw[q1]at wn;show absurd rfl b1I
    rw[this]
  let own:=K.own a.2.1 hw;let eg:LK.2.getD a.2.1 []=way:=by rw[GV,h2];rfl
  rw[eg,ef]at own;ext1 shown;rw[OD h1,LU];intro z;show own (FX z)
def Ok.congr (d0D)(e:∀ j,j<m->F' j=F j):Ok p m P F':=
 #[h.len,h.PZ,λe7W=>by rw[e j hj];show h.fw j hj,λe4K n=>by rw[e j hj];show h.off i j hi hj n,λe8X=>by rw[e i hi];show h.own i hi,λe0M hk=>h.sep x hx λe7W=>by cbv]
def PC (k:Int):∀ (A:List Ask)(T:SV),(A.map (·.1)).Nodup->(e44 T).R=T.R/\(e44 T).P.length=T.P.length/\
  (∀ e,(∀ a∈A,a.1≠e)->(e44 T).P.getD e []=T.P.getD e [])/\
  ∀ a∈A,a.1<T.P.length->(e44 T).P.getD a.1 []=e8G c1M a.2.1 Ed:=by
 intro r'
 induction r' with
 | nil=>
  intro T _;show #[2,λ_ _=>rfl,λ_ h=>(Ij h).elim]
 | cons b A ih'=>
  intro T nd;rw[HE,HQ]at nd;let#[wG]:=ih' (e8H k T b) nd.2;let l1:(e8H k T b).P.length=T.P.length:=List.length_set;let off:∀ e,b.1≠e->(e8H k T b).P.getD e []=T.P.getD e []:=λe n=>by
   change (T.P.set b.1 _).getD e []=_
   cbv
  show#[h1,h2.trans l1,λe he=>?_,λf2r hl=>?_]
  ·rw[IG,h3 e λf2r=>he a<|by simp[ha]];show off e (he b<|by simp)
  ·rw[IG];rcases Hs.mp ha with rfl|ha
   ·rw[h3 a.1 λc hc z=>nd.1<|z▸Ho hc];change (T.P.set a.1 _).getD a.1 []=_
    cbv
   ·rw[h4 a ha<|l1▸hl,off a.1 λz=>nd.1<|z▸Ho ha];rfl
def c2R (c82)(d0u):Np p (M3 p t v):=λe0M=>by let#[r,_,1]:=GX.mp hx;rw[LU];show#[Ii _<|by lia,HX _ hp]
def b1K (t:Θ)(m)(v:Ξ):(M3 p (cols t m) v).length=m:=by simp[M3,cols]
def a47 (hc:∀ b∈comes,b.length=m)(hq:q.length=m)(ht:told.length=comes.length):p ∣ dot q (M3 p (cols comes m) told) - dot told (comes.map λb=>dot q b):=by rw[b3n];let h2:=QF comes m told q hc hq ht;let e:QT comes q=comes.map λb=>dot q b:=HA λb _=>Mp b q;rw[e,Mp]at h2;rw[<- h2];show Iz (by rw[Int.sub_emod,Nl p q _,Int.sub_self];simp)
def b6z (c7O)(d0j):e4u (n+1) (d9I RZ T x):=by
 ext d6N;let#[tl,tf,tn]:=VA<|TJ I G hx;let od:ord=ord.take n++x::ord.drop (n+1):=by rw[<- (GW.mp hx).2,<- Jh ((GW.mp hx).1),Iy]
 let tk:(ord.take<|n+1).map (·.1)=(ord.take n).map (·.1)++[x.1]:=by rw[IM,hx,GZ];rfl
 let nd:=G.nd;rw[od,GZ,HE]at nd;let nk:∀ R∈T.R,¬ x.1∈R.map (·.1):=λR hR z=>by
  rw[e4D hR]at z;rcases Hx.mp z with z|z
  ·ext d5u;unfold st at e
   lia
  ·ext d53
 let#[GJ,f4]:=PC x.1 lU { T with R:=e1R x gV }<|RQ G.ZC x.1;let zat:∀ c r,ç[c]?=!r->∀ R,T.R[c]?=!R->(e1R x<|e0U x)[c]?=!R++[(x.1,e0B r R x<|e0U x)]:=λc e2T R hR=>by ext1 LD;rw[JV,hr,hR]
 let a3n:∀ R',R'∈LD p m ç T.R x gV->∃ R∈T.R,∃ r,R'=R++[(x.1,e0B r R x<|e0U x)]:=λR' h=>by unfold LD at h;let#[c,hc,1]:=Ig.mp h;rw[KM];show#[_,Ia _,_,1]
 ext1 RZ;show#[by rw[f1];simp[LD,I.rl],f2.trans I.pl,λR' hR=>?_,λR' hR e2T=>?_,λe LK he=>?_]
 ·rw[f1]at hR;let#[R,h1,r,1]:=a3n R' hR;rw[GZ,e4D h1,tk,HI];rfl
 ·rw[f1]at hR;let#[R,h1,cs,1]:=a3n R' hR;rcases Hx.mp hr with h|h
  ·show I.rows R h1 r h
  ·rw[Ht.mp h];change (e0B cs R x _).length=m/\Np p (e0B cs R x _);ext1 newRow;split
   ·show#[by simp,λe79=>by let:=Jm hz;lia]
   ·show#[b1K Ĉ,c2R #[] _ _]
 ·let em:=Hb he;let K:=I.ok e LK he;let hR:=Z5 I G em;let hel:=(GW.mp he).1;let hc:=e9o em;let eR:T.R[LK.1]?=!T.R.getD LK.1 []:=by rw[GV,GT (by rw[I.rl];show hc)];rfl
  let eC:ç[LK.1]?=!ç.getD LK.1 []:=by rw[GV,GT hc];rfl
  let gR':(e1R x<|e0U x).getD LK.1 []=T.R.getD LK.1 []++[(x.1,e0B IO c00 x<|e0U x)]:=by rw[GV,zat LK.1 _ eC _ eR];rfl
  rw[f1];rw[gR',tk];generalize hr0:T.R.getD LK.1 []=R at *
  let MR:∀ w,w<m->∀ way,lk (R++[(x.1,e6U x<|e0U x)]) (e3A way)=lk R (e3A way):=λw hw way=>a1S (Eb I G hR hw way) _;let wat:∀ w,w<m->∃ way,LK.2[w]?=!way/\LK.2.getD w []=way/\way.Sublist ((ord.take n).map (·.1)++x.1::(ord.drop<|n+1).map (·.1)):=λw hw=>by
   let hw':w<LK.2.length:=by rw[e42 em];show hw
   show#[LK.2[w],GT hw',by rw[GV,GT hw'];rfl,?_];let:=e9T _<|Ia hw';rwa [od,GZ,HE]at this
  by_cases hA:∃ w0,w0<m/\x.1∈LK.2.getD w0 []
  ·let#[w0,hw0,X']:=hA;let#[way,mC,e3]:=wat w0 hw0;rw[e2]at X';obtain⟨l,r,e4,e5,e6⟩:∃ l r,way=l++x.1::r/\fr ż (st w0) way=l.getLast?.getD (st w0)/\fr ((ord.take n).map (·.1)++[x.1]) (st w0) way=x.1:=by
    rcases StK nd e3 (st w0) with⟨z,_⟩|z
    ·show absurd X' z
    ·show z
   let am:(b4b:Ask)∈Ma ê x.1:=Pd.mpr<|Pe.mpr #[LK,way,he,e1,l,r,e4,1];let h4:=f4 _ am (by rw[I.pl];show hel);let Tx:rowsOf ê { T with R:=e1R x gV } e=R++[(x.1,e6U x<|e0U x)]:=by rw[OD he,<- gR']
   let h4:(List.foldl (e8H x.1) { T with R:=e1R x gV }<|Ma ê x.1).P.getD e []=e8G WI w0 (e6U x<|e0U x):=by rw[h4];rw[Tx,TQ<|nk R hR]
   rw[h4];let fre:=G.free LK em way (Hb e1) x.1 X';let cl:∀ b∈(M' m x.2).map (lk R),b.length=m:=λe2h=>by
    let#[k,hk,1]:=GX.mp hb;show (I.rows R hR (k,lk R k) (VB ?_)).1;rw[e4D hR]
    cases h:x.2 with
    | none=>ext d5G
    | some ks=>rw[h]at hk;show Hq _ (G.ahd n x ks hx h k hk)
   let a3M:e6U x gV=M3 p (cols ((M' m x.2).map<|lk R) m) gV:=by ext1 newRow;rw[if_neg fre]
   let shn:¬ p ∣ dot B6 (e6U x<|e0U x):=λz=>by
    rw[a3M]at z;let:=JB z<|a47 (told:=e0U x) cl ((K.at hw0).1) (by rw[GS];show tl);rw[Int.sub_sub_self,GY]at this;show tn _ am ?_;let e7:(M' m x.2).map (e9S T b4b)=((M' m x.2).map<|(λb=>dot B6 b) ∘ lk R).map WH:=by rw[GY];ext d7X;ext1 shown;rw[OD he,hr0,LU];rfl
    rw[e7];let h5:=Nl p gV<|(M' m x.2).map ((λb=>dot B6 b) ∘ lk R);rw[Jp this]at h5;show Iz h5
   show (K.move G.prime hw0 (by rw[a3M];show b1K Ĉ) shn).congr λw hw=>?_;by_cases c:w=w0
   ·subst c;rw[if_pos rfl,e2,e6,TQ<|nk R hR]
   ·ext d3j;let#[a2K,pU]:=wat w hw;let nin:¬ x.1∈a2K:=λz=>by
     let fl:=G.ZC LK em;rw[List.Nodup,List.pairwise_flatten]at fl;let pw:=Kf.mp fl.2;let#[i1,j1]:=GW.mp g1;let#[i2,j2]:=GW.mp e1;rcases Nat.lt_or_gt_of_ne c with q|q
     ·show pw w w0 i1 i2 q x.1 (j1▸z) x.1 (j2▸X') rfl
     ·show pw w0 w i2 i1 q x.1 (j2▸X') x.1 (j1▸z) rfl
    ext d38
    ·rw[z];show MR w hw a2K
    ·show absurd (by rw[z];simp) nin
  ·let h3:=f3 e λf2r z=>by
    let#[b7v,way,mh,l,r,zC]:=Pe.mp<|Pd.mp ha;rw[z,he]at h1
    cases h1;let hw:=e42 em▸(GW.mp h2).1;show hA #[a.2.1,hw,?_];rw[GV,h2];change x.1∈way;rw[h3];simp
   rw[h3];show K.congr λw hw=>?_;let#[way,pU]:=wat w hw;ext d38
   ·rw[z];show MR w hw way
   ·show absurd #[w,hw,by rw[g2,z];simp] hA
def a2g (G):e4u 0 (e3k ê):=by
 ext d6N;let hk:((List.range m).map λw=>Fo).map (·.1)=starts m:=by rw[GY];rfl
 show#[by simp[start],by simp[start],λR hR=>?_,λR hR e2T=>?_,λe LK he=>?_]
 ·let#[tF]:=GX.mp hR;rw[hk];simp
 ·let#[tF]:=GX.mp hR;let#[w,_,1]:=GX.mp hr;show#[LF ĉ,fc #[0] _ _]
 ·let em:=Hb he;let e1:(e3k ê).P.getD e []=ones m:=by
   change ((ê.map λ_=>ones m)[e]?).getD []=_
   cbv
  let e2:(e3k ê).R.getD LK.1 []=(List.range m).map λw=>Fo:=by change ((ç.map λ_=>_)[LK.1]?).getD []=_;rw[Hh,GT<|e9o em];rfl
  rw[e1,e2];show (Ok.start #[0] m).congr λe7W=>?_;let e3:fr ((ord.take 0).map (·.1)) (st j) (LK.2.getD j [])=st j:=by ext1 fr;rw[Jc.mpr λx _ z=>by simp at z];rfl
  let#[w,_,e4]:=GX.mp<|VB (by rw[hk];show Ho<|HP.mpr hj);let e5:=e39 e4;let e6:w=j:=by unfold st at e5;omega
  cbv
def OK (G):∀ n,n<=ord.length->e4u n zc:=by
 intro r'
 induction r' with
 | zero=>
  intro _;show a2g G
 | succ n ih'=>
  intro h;let hx:ord[n]?=!ord.getD n xT:=by
   grind
  show b6z (ih'<|by lia) G hx
def Tr (es:List M9)(LK:M9):O5 (es++[LK])=O5 es++Oi es.length LK.2:=by ext1 O5;rw[JM,IE];simp
def Th {e:Nat}{ways:Θ}(h:ways[w]?=!way):Oi e (ways.take (w+1))=Oi e yL++PN e w way:=by ext1 Oi;ext d4f
def c3O (es fs:List M9):(O5 es).length<=(O5 (es++fs)).length:=by simp[O5,JM,IE,Hn]
def c4R (d1f)(w:Nat):(Oi e yL).length<=(Oi e ways).length:=by
 let h:Oi e ways=Oi e yL++((ways.drop w).zipIdx (ways.take w).length).flatMap λx=>PN e x.2 x.1:=by
  ext1 Oi
  ext d3C
 cbv
def VY (c9f)(k:Int)(a:Ask):pick oo k=pick L k++[a]:=by simp[pick,Jj,GZ]
def V' (c9f)(h:k≠k')(a:Ask):pick oo k'=pick L k':=by
 ext1 pick
 cbv
def Y3 (c9f)(k:Int):(pick L k).length<=L.length:=by ext1 pick;ext d3T
theorem Ls (d0k):List M9:=found.zipIdx.flatMap λx=>x.1.map λways=>ww
def Ro {found:List Δ}(h:found[c]?=!bl):Ls (found.take (c+1))=Ls mS++bl.map λways=>rX:=by ext1 Ls;ext d4f
def f2I (d0k)(c:Nat):∃ r,Ls found=Ls mS++r:=by
 show#[((found.drop c).zipIdx (found.take c).length).flatMap λx=>x.1.map λways=>ww,?_];ext1 Ls
 ext d3C
def room (hB:(O5 (Ls found)).length<=B)(h1:found[c]?=!bl)(h2:bl[j]?=!ways)(h3:ways[w]?=!way):
  (O5 (Ls mS++(bl.take j).map λways=>rX)++Oi (Ls mS++(bl.take j).map λways=>rX).length yL++(PN (Ls mS++(bl.take j).map λways=>rX).length w way).take i).length<=B:=by
 let#[r,hr]:=f2I found<|c+1;let e1:bl=bl.take j++ways::bl.drop (j+1):=by let#[hj,e]:=GW.mp h2;rw[<- e,<- Jh hj,Iy]
 rw[Ro h1,e1,GZ,HE,<- HI,HI,List.cons_append,List.append_cons]at hr;rw[hr]at hB;generalize (Ls _++(bl.take j).map λways=>_)=A at hB ⊢;show HH ?_ hB;show HH ?_<|c3O _ _;rw[Tr,Hn,Hn,Hn];let h4:=c4R A.length ways<|w+1;rw[Th h3,Hn]at h4;rw[Hm]
 lia
def Tf (c7O)(d0j):∀ R∈T.R,¬ x.1∈R.map (·.1):=λR hR z=>by
 rw[e4D hR]at z;let nd:=G.nd;rw[show ord=ord.take n++x::ord.drop (n+1) by rw[<- (GW.mp hx).2,<- Jh _,Iy],GZ,HE]at nd;rcases Hx.mp z with z|z
 ·ext d5u;unfold st at e
  lia
 ·ext d53
def V3 (X R:List α)(hc:c<=X.length)(j)(d:α):(X.take c++R.drop c).getD j d=if j<c then X.getD j d else R.getD j d:=by
 let hl:(X.take c).length=c:=by grind
 rw[GV];by_cases h:j<c
 ·rw[if_pos h,HY<|by omega,IR h,GV]
 ·rw[if_neg h,Ib<|by omega,hl,Ko,GV];congr 2;omega
def Pb (hk:ç[c]?=!ks)(hR:c<R.length):(LD p m ç R x told).getD c []=R.getD c []++[(x.1,e0B ks (R.getD c []) x told)]:=by
 let e:R[c]?=!R.getD c []:=by
  cbv
 ext1 LD;rw[GV,JV,hk,e];rfl
variable {p:Int}{m:Nat}{ç:Θ}{ê:List M9}{ord:List MQ}
def b8f (G)(n)(hn:n<ord.length)(c8x):(e0n (n+1)).R.getD c []=(e0n n).R.getD c []++[((ord.getD n xT).1,e0B ks b1Z g9 (Ly p m ê zc g9))]:=by let I:=OK G n #[];change (RZ p m ç ê ĉ).R.getD c []=_;ext1 RZ;rw[(PC Ĉ<|RQ G.ZC _).1];show Pb hc (by rw[I.rl];show (GW.mp hc).1)
def b2K (G)(c8x)(n):∀ d,n+d<=ord.length->∃ z,(e0n (n+d)).R.getD c []=(e0n n).R.getD c []++z
 | 0,_=>#[[],(HD _).symm]
 | d+1,h=>by let#[z,e]:=b2K G hc n d #[0];let h2:=b8f G (n+d) #[0] hc;rw[e,HI]at h2;show#[_,h2]
abbrev Uc (c7W)(c:Nat):Q9:=(e0n ord.length).R.getD c []
def zp (G)(c8x)(hn:n<=ord.length)(hk:k∈starts m++(ord.take n).map (·.1)):lk uN k=lk b1Z k:=by
 let#[z,e]:=b2K G hc n (ord.length - n) #[0];rw[show n+_=ord.length by omega]at e;ext1 Uc;rw[e];show a1S ?_ z;let I:=OK G n hn;let OE:=(GW.mp hc).1;let hm:(e0n n).R.getD c []∈(e0n n).R:=by rw[GV,GT (by rw[I.rl];show OE)];show Ia _
 rw[I.keys _ hm];show hk
def Yp (G)(c8x)(d0j):lk uN x.1=e0B ks uN x (Ly p m ê zc x):=by
 let hn:=(GW.mp hx).1;let eg:ord.getD n xT=x:=by rw[GV,hx];rfl
 let I:=OK G n #[0];let OE:=(GW.mp hc).1;let hm:(e0n n).R.getD c []∈(e0n n).R:=by rw[GV,GT (by rw[I.rl];show OE)];show Ia _
 rw[zp G hc (n:=n+1) #[0]<|Hq _ (GX.mpr #[x,by rw[IM,hx];simp,1]),b8f G n hn hc,eg,TQ<|Tf I G hx _ hm];ext1 newRow;split
 ·rfl
 ·congr 2;show HA λe8a=>(zp G hc #[0] ?_).symm
  cases h:x.2 with
  | none=>ext d5G
  | some ks'=>rw[h]at hk;show Hq _ (G.ahd n x ks' hx h k hk)
def We (G)(c8x)(hw):lk uN uL=Ll m w:=by
 rw[zp G hc (HW _)<|HK _ (Ho<|HP.mpr hw)];let e2:(e3k ê).R.getD c []=(List.range m).map λw=>Fo:=by change ((ç.map λ_=>_)[c]?).getD []=_;rw[Hh,hc];rfl
 change lk ((e3k ê).R.getD c []) _=_;rw[e2];let h:=VB (R:=(List.range m).map λw=>Fo) (by rw[GY];show Ho<|HP.mpr hw);let#[w',_,e4]:=GX.mp h;let e5:st w'=st w:=e39 e4;let e6:w'=w:=by unfold st at e5;lia
 show (congrArg Prod.snd e4).symm.trans (by rw[e6])
def Yo (G){e:Nat}(he:ê[e]?=!LK)(ne:∀ way∈LK.2,way≠[])(hx:x.length=m)(hk:∀ way∈LK.2,∀ k,way.getLast?=!k->p ∣ dot x (lk (d9I Uc ord LK.1) k))(hy:y.length=m):p ∣ dot x y:=by
 let I:=OK G ord.length<|Hl _;let em:=Hb he;show (I.ok e LK he).sep x hx (λe7W=>?_) y hy;let Yf:j<LK.2.length:=by rw[e42 em];show hj
 let eg:LK.2.getD j []=LK.2[j]:=by cbv
 let wm:=Ia Yf;rw[eg,HM];let hf:fr c2A (st j) LK.2[j]=(LK.2[j].getLast?).getD (st j):=by ext1 fr;rw[KU.mpr λe8a=>Hf<|(e9T _ wm).subset hk]
 rw[hf]
 cases hl:LK.2[j].getLast? with
 | none=>cbv
 | some k=>show hk _ wm k hl
open e
universe Mk
namespace K72
open PySem L2
open PyProof.Rows (boot_all boot_any boot_bool boot_dict boot_int boot_list boot_sorted boot_str boot_tuple)
structure Oo (c9i)(c9K):Prop where
 cl:PM K CE
 nR:Mb K CE "rows"
 nB:Mb K CE "probes"
 Mg:mg "range"=none
 NW:mg "zip"=none
 a3U:mg "any"=none
 M8:mg "len"=none
 Ms:mg "enumerate"=none
abbrev b1s (c9K)(R:Mk.Q9)(B:Θ):D:=.ins CE ["rows","probes"] [aV R,tb B]
variable {C CE:Addr}
def Oo.fr [Bx:Bd](c7e):∀ C',C'=CE->e6C C'/\Mb Bx.K C' "rows":=λC' h=>h▸#[T.cl,T.nR]
def Oo.fb [Bx:Bd](c7e):∀ C',C'=CE->e6C C'/\Mb Bx.K C' "probes":=λC' h=>h▸#[T.cl,T.nB]
def dNg (h:PE X a (tC yq)):PE X (.UnaryOp .USub a pos) (tP (rC (.int (-i)))):=(a3C Rdy h).imp λe1H=>by let#[Bv,r,q]:=gR;show#[i,1,tP.at S.le q (by rw[r];rfl)]
def yj (d0i):cQ (R.map λr=>m7) DQ=!rw ű:=by let#[x,mh]:=GX.mp h;let#[y,hy]:=IQ.mp (Kv (p:=λr:bo=>decide (r.1=k)) |>.mpr #[x,h1,Hf h2]);rw[fJ hy,show Mk.lk R k=y.2 by ext1 Mk.lk;rw[hy];rfl]
inductive c4Z:Ä
 |mk {m:Nat}:m<=1000->c4Z [.int m] (rw (Mk.starts m))
def a01 [Bx:Bd](c7e):Tk 1 "message_ties" (top 88) ["many"] (Pr c4Z):=by
 show N7 [] ?_ λd9Y=>(qr (e9g b9K Z8
  Ĕ
  P4
  (λe0i=>e9h (dNg aK)<|Đ 0)))
 rintro _ _ @⟨m,hm⟩;show#[b7 b6w ED λj _=>#[_,3,pE],UX ĉ]
inductive pH (C CE:Addr):Ä
 |mk {p k:Int}{i:Nat}{B:Θ}{R:Mk.Q9}:0<p->p<=1000000->k∈R.map (·.1)->i<B.length->UT p ś->(B.getD i []).length<=1000->pH C CE [b1s CE R B,fD C p,.int i,.int k] (.int (Mx.LI p ś ű))
def a9t [Bx:Bd](c7e)(MP):Tm 4 "shown" "Ear.shown" (ao Cv 1) ä (Pr (pH C CE)):=by
 let Yl:=T.fr;let Wc:=T.fb;show N7 [] ?_ λd9Y=>(qr<|e9M rfl (da (Đ 1)<|da (d9S Wc 2) (d9h (d9S Yl 3))))
 rintro _ _ @⟨p,k,i,B,R,p0,p1,hk,hi,hf,hl⟩;show#[#[#[1,#[#[3],1,.l .lst<|c0r hi],#[#[3],1,.k (yj hk) kI],1],#[p0,p1,hl,hf]],1]
inductive PD (c7r):Ä
 |mk {p:Int}{us ss:Ξ}:My.O2 p=true->p<=1000000->(us.length:Int)<p->us.length<=1000->(∀ u∈us,¬ p ∣ u)->UT p us->PD C [fD C p,rw us,rw ss] (.int (Mk.ub p us ss:Nat))
def b01 [Bx:Bd](c7e)(Lo):Tk 2 "unbarred" (top 90) b5u (d8L PD):=by
 show N7 ["often"] ?_ λd9Y=>(qC (qs 3 ND dI)
 (qC (qW Hr (dV (df (dB a1E (C8 Bx.K rfl) rfl T.a3U boot_any (da (e6D (cS 2 [0,3] b21) sk
  Ę
  P4
  (λe0i=>dM bq cM (e3Q Lo hr.m<|e9U Lp) dI)) Lp))))
  (q1<|sG (yA (i:=3) ND rfl yu dI b6X)))
 An))
 rintro _ _ @⟨p,us,ss,hP,p1,hl,hz,nz,hF⟩;let#[ZE,u3]:=Mk.Wx hP (ss:=ss) hl nz;show .nx #[1] ?_;show dR (β:=Nat) (λj ε=>ε=[.fz<|fD C p,.fz<|rw us,.fz<|rw ss,.fz<|.int j]/\j<=e58 ss) (λj=>e58 ss - j) #[1,HW _] λj e3y=>?_;let#[he,hj]:=gR;subst he;let rd:rF Yy (rA (rL 2 [0,3] (λε l=>∃ m n,rA ZU (rA kB SI) ε [.lst m,.lst n]/\l=(m.zip n).map λz=>.tup [z.1,z.2]) Ba<|e4k (rMe C "fit" (RD C) kB<|rA (rO GR (e3E DJ<|rV 0)<|rV 1) SI) (rC<|.int 0)) SI) [some<|fD C p,some<|rw us,some<|rw ss,some<|.int j] (.bl<|Mk.Nw p j us ss):=by show⟨⟨b7 ⟨_,_,⟨rfl,rfl,rfl⟩,fU _ _⟩ (by rw[J7];lia) λe79=>#[yn,eq_int #[wZ,b8B,#[#[]]] rfl],rfl⟩,?_⟩;let:=Yy.mk (by rw[GY];rfl:(us.zip ss).map (λz=>D.bl<|decide (((j:Int) * z.1+z.2) % p=0))=_);ext1 Mk.Nw;rw[<- IX,List.any_map];rwa [List.any_map]at this
 by_cases z:j<e58 ss
 ·rw[u2 j z]at rd;show .inr #[rd,j+1,yn,#[1,z],#[]]
 ·let z:j=e58 ss:=#[]
  rw[z,u1]at rd;show .inl #[by rw[z];show rd,1,by rw[z]]
inductive gv (c7r):Ä
 |mk {p:Int}{t:Θ}{r:Ξ}:0<p->p<=1000000->(∀ z∈t,UT p z/\z.length<=1000)->t.length<=1000->gv C [fD C p,tb t,rw r] (rw (Mx.M3 p t r))
def b6Q [Bx:Bd](MP):Tk 4 "times_row" (top 40) ["field","table","row"] (d8L gv):=by
 show N7 [] ?_ λd9Y=>(qr (e0y (cS 1 [0,2] [c5K,"row"]) Pi
  Ĕ
  P4
  (λe0i=>e9M rfl<|e0l sS)))
 rintro _ _ @⟨p,t,r,p0,p1,ht,hl⟩;show#[e52 hl λe79=>#[_,1,#[4],#[p0,p1,(ht z hz).2,(ht z hz).1]],UX ĉ]
inductive a9F (c7r):Ä
 |mk {p:Int}{m:Nat}{mixed told:Ξ}{R:Mk.Q9}:0<p->p<=1000000->(∀ k∈mixed,k∈R.map (·.1)/\(Mk.lk R k).length=m/\UT p ű)->mixed.length<=1000->m<=1000->a9F C [fD C p,rw mixed,rw told,aV R,.int m] (rw (Mx.M3 p (Mx.cols (mixed.map (Mk.lk R)) m) told))
def b56 [Bx:Bd](c7e)(MW)(OI):Tk 5 "mixed_row" (top 92) b1i (d8L a9F):=by
 show N7 ["comes"] ?_ λd9Y=>(qC (qs 5 ND (e0y (cS 1 [3] c1H) Pi
  Ĕ
  P4
  ź))
 (qr (f1Z (e0S (da (e9g (cS 1 [5] ["place","comes"]) (X4 rfl T.Mg<|e10 Lp)
  Ĕ
  P4
  (λe0i=>dF OI hr.m rfl<|e0l ŝ))<|e01 Lp)))))
 rintro _ _ @⟨p,m,mixed,told,R,p0,p1,hk,hl,hm⟩;show .nx #[cy m8 hl (λk h=>#[_,3,.k (yj (hk k h).1) kI]) (by rw[show tb _=.lst FG from rfl,GY];rfl)] #[#[#[1,cy b6w ED (λe7W=>#[_,lP,.l Ĵ λe2T=>?_]) ?_,2],#[p0,p1,qm]],1]
 ·let#[k,h1,1]:=GX.mp hr;rw[(hk k h1).2.1];show HP.mp hj
 ·ext1 Mx.cols;ext d6r;rfl
 ·intro z hz;let#[j,hj,1]:=GX.mp hz;show#[λe16=>?_,by ext1 Mx.col;simpa using hl];unfold Mx.col at hy;rw[GY]at hy;let#[k,h1,1]:=GX.mp hy;let:=hk k h1;show Mk.QE p0 this.2.2 j
 ·ext1 Mx.cols;simpa using hm
open e
variable {C CE:Addr}
abbrev xZ (c9K)(d0L)(a:Mk.Ask):D:=.tup [b1s CE (R a) (B a),.int (a.2.1:Nat),.int a.2.2]
structure a5P (d2j)(d0L)(s:Mk.Ask->Int->Int):Prop where
 pl:∀ a∈A,a.2.1<(B a).length
 fit:∀ a∈A,UT p b8C/\((B a).getD a.2.1 []).length<=1000
 has:∀ a∈A,∀ b∈A,b.2.2∈(R a).map (·.1)
 sh:∀ a∈A,∀ k,s a k=Mx.LI p b8C (Mk.lk (R a) k)
inductive gw (C CE:Addr):Ä
 |mk {p:Int}{mixed:Ξ}{A:List Mk.Ask}{R:Mk.Ask->Mk.Q9}{B:Mk.Ask->Θ}{s:Mk.Ask->Int->Int}:p<=1000000->a5P p A R B s->Mk.Uh p mixed A s->mixed.length<=1000->A.length<=1000->gw C CE [fD C p,rw mixed,.lst (A.map (xZ CE R B))] (rw (Mk.Vc p mixed A s))
def b6e (n):rw Aj=.lst (List.replicate n FV):=e2e List.map_replicate
def b0N [Bx:Bd](c7e)(MO)(Lo)(Qc:Mh 2 "unbarred" b5u (d8L PD)):Tk 5 "multipliers" (top 91) b6x (Pr (gw C CE)):=by
 show N7 ["told","values","at","ask","steps","often"] ?_ λd9Y=>(qC (d9W 3 CJ)
 (qC (d9W 4 (d8U 2))
 (qC (e1g (iE rfl T.Ms<|e01 Lp) (e07 rfl<|ae A6 (ae xy aD)) (cH Bx.K [5,6])
  (q1 (qI (d9x (Mz hr (Đ 4)<|Đ 5))
  (qC (XA (n:=3) (e55 (cS 3 [0,6] [c6X,"field","ask"]) qL
  a5E
  P4
  (λe0i=>e3P MO hr.m<|e1h (da (Đ 1)<|da ja Lp))) rfl)
 (qC (qs 8 ND<|dF Qc hr.m rfl (da (Đ 0)<|da (Yv (Đ 4) Yu<|Yt (Đ 5)) Gh))
 (qC (qS (e2p (cS 2 [0,6,8] ["number",c5K,"ask","often"]) (e9j T.NW<|e0l Ŷ)
  Ę
  P4
  (λe0i=>e3Q Lo hr.m<|da (Tj (e3i (Đ 4)<|Đ 1)<|Yw (e0H (Đ 0)<|Mz hr (Đ 3) dI) dI dI) Lp)) λd97=>nF (n:=2))
 (q1 (qS (aQ (i:=4) ND rfl rfl rfl (cS 2 [0,8] b21) (e9j T.NW<|e10 Gh)
  Ę
  P4
  (λe0i=>e3Q Lo hr.m<|e9U Lp)) λd97=>nF (n:=2))))))
  q0)))
 An)))
 rintro _ _ @⟨p,mixed,A,R,B,s,p1,K1,pre,mz,az⟩;let p2:=((My.Lz p).mp pre.prime).1;show .nx #[u8,uH,#[mz]] (.nx #[u8,uH,#[az]] ?_);show cW A.zipIdx (u:=λz=>.tup [.int (z.2:Nat),f1g z.1]) (λf2q=>∃ o5 o6 o7 o8,ε=[.fz<|fD C p,.fz<|rw mixed,.fz<|.lst c01,.fz<|rw (e2t i).1,.fz<|rw (e2t i).2,o5,o6,o7,o8]) ⟨_,_,_,_,by ext1 Mk.QV;rw[b6e,b6e];rfl⟩ ⟨_,⟨rfl,rfl⟩,by rw[List.zipIdx_map,GY];rfl⟩ (λn e5w=>?_) λe3y=>?_
 ·let#[jd]:=gR;rw[K5,Nat.zero_add]at hz;let#[a,ea,1]:=HN.mp hz;subst he;let hn:n<A.length:=(GW.mp ea).1;let am:=Hb ea;let I:=Mk.Vb pre n #[];let st:e2t (n+1)=Mk.Qy p mixed A s (e2t n) n:=rfl;let ega:e9m (0,0,0)=a:=by rw[GV,ea];rfl
  unfold Mk.Qy Mk.WZ at st;rw[ega]at st;rw[st];clear st;generalize Mk.QV p mixed A s n=M at I;let rd:=eq_int (ε:=[some<|fD C p,some<|rw mixed,some<|.lst c01,some<|rw M.1,some<|rw M.2,some<|.int n,some<|f1g a,o7.a,o8.a]) (ra:=e18 pf<|rV 5) (rb:=rC<|.int 0) #[2,.l .lst<|dE (by rw[I.l2];show hn)] rfl;show#[mR,?_];by_cases c0:M.2.getD n 0=0
  ·rw[Hf c0]at rd;rw[if_neg λz=>z c0];let tl:((M.2.take n).length:Int)<p:=by
    rw[Hm];let:=pre.Mt
    lia
   let tz:∀ u∈M.2.take n,¬ p ∣ u:=λu hu=>by
    let#[rT]:=Ig.mp hu;rw[Kt];rw[Hm]at hi;let z1:=I.nz i #[];let z2:=Mk.QE #[] I.f2 i;rw[GV,GT<|show i<M.2.length by lia]at z1 z2;simp only[Option.getD_some]at z1 z2;intro z;let:=KJ #[] z
    lia
   let u3:=(Mk.Wx pre.prime (ss:=A.map λb=>s b a.2.2) tl tz).2.2;let ub:=PD.mk (C:=C) (ss:=A.map λb=>s b a.2.2) pre.prime p1 tl (by rw[Hm];lia) tz λu hu=>I.f2 u<|IN hu;generalize Mk.ub p (M.2.take n) (A.map λb=>s b a.2.2)=o at u3 ub ⊢;show#[_,.t rd<|.nx ⟨cy ⟨rfl,.l .lst⟩ az (λe2h=>#[_,#[2],1,by decide,#[2,sB,1],by rw[K1.sh b hb];show#[#[],p1,K1.has b hb a am,K1.pl b hb,(K1.fit b hb).1,(K1.fit b hb).2]])<|Fl.rt.inj c02⟩ (.nx #[#[1,#[1,.lst,1,#[1],by rw[cF,<- Jl]],2],ub]<|.nx ⟨cy (h:=λz=>.int<|((o:Int) * z.2+if z.1=a.2.2 then 1 else 0) % p) ⟨_,_,⟨rfl,rfl,rfl⟩,fU _ _⟩ (by rw[J7];lia) (λe79=>#[yn,wZ,#[#[#[2,sM],?_,.i],1],#[#[]]]) ?_⟩ #[cy (xs:=M.2.zip<|A.map λb=>s b a.2.2) (u:=λz=>.tup b9H) (h:=λz=>.int<|((o:Int) * z.1+z.2) % p) (d:=rw (List.zipWith (λv x=>((o:Int) * v+x) % p) M.2<|A.map λb=>s b a.2.2)) c0N (by rw[J7,I.l2];lia) (λe79=>#[yn,wZ,b8B,#[#[]]]) ?_]),_,_,_,_,1]
   ·let r1:=eq_int (ε:=[some<|.int z.1,some<|.int z.2,some<|fD C p,some<|f1g a,some<|.int o]) (ra:=rV 0) (rb:=e18 DJ<|rC pZ) rfl sB;by_cases e:z.1=a.2.2
    ·rw[Hf e]at r1;rw[if_pos e];show .t r1 rfl
    ·rw[Hg e]at r1;rw[if_neg e];show .f r1 rfl
   ·rw[<- IX];ext d7o
   ·rw[<- IX];ext d7o
  ·rw[Hg c0]at rd;rw[if_pos c0];show#[c6U,tR,1]
 ·let#[jd]:=gR;subst he;rw[JN];show#[2]
open e
open L2.Wy
variable {c:Cl}{C:Addr}
def a5a (c9k){u:α->D}{J:Ú}(c8P)(k)(fin:∀ ε',I xs.length ε'->∃ ε2,r2 ε' fH/\J ε2):∃ ε',e27 yD/\J ε':=
 let #[Fk]:=e6B k;let #[ε2,zC]:=e8A h2
 #[ε2,.nx h1 h3,h4]
inductive ig (c:Cl):Ä
 |mk {S:NS}:S.Lj.length<=1000->ig c [aH c S,.int 0] (tb [[]])
theorem lV:Sum Ξ Θ->Θ
 | .inl _=>[]
 | .inr w=>w
theorem c6 (S:NS)(N m:Nat)(ks:Ξ):Δ:=S.LL.map λg=>lV (be yW ī g N m)
abbrev WD (t:Δ):D:=.lst (t.map tb)
abbrev WC (t:List Δ):D:=.lst (t.map WD)
inductive cC (c:Cl):Ä
 |mk {S:NS}{m N:Nat}{ç:Θ}:ç.length<=1000->(∀ ks∈ç,Wi S (!ks) N/\∀ g∈S.LL,∃ w,be yW ī g N m=.inr w)->S.Lu.length<=1000->1<=m->m<=1000->m * N+N<=1000->cC c [yG,tb ç] (WC (ç.map (c6 S N m)))
def MF:ar [Zr,"chosen","listeners","told","choice","by_listener","listener","found"] î (d88 87):=Py
def c3I [Bx:Bd](Lk)(Qb):Tk 5 "ways_by_choice" (top 87) î (d89 cC):=by
 ext d2U;let ND:=MF.nd;show F.dv MF ?_ λe2k=>(qC (d84 3 Lk)
 (qC c2w
 (qC (e0w qL A6 (aI 5)
  (qC jM
 (qC (e0w (av<|Đ 3) jZ (aI 7)
  (qC (qs 8 ND<|dF Qb hr.m rfl Ž)
 (qC (qI (e0H (Mz hr (Đ 8) dI) jk)
  j8
  q0)
 (q1<|qA (aA<|d92 (pv 6) (a8 (Mz hr (Đ 8) dI) K')) (λe0N=>h)))))
 (qZ 6<|q1 (qA (aA<|e96 (a8 (Đ 6) K')) λe0N=>h)))))
 (qr<|Đ 4))))
 rintro _ _ @⟨S,m,N,ç,hc,hw,hp,Vf,hm,hz⟩;let ll:S.LL.length<=1000:=by ext1 NS.LL;rw[GS];show HH wJ hp
 show#[1,.inl<|.nx ⟨rfl,rfl,by decide,⟨hp⟩⟩ (.nx ⟨⟨rfl,by simp,rfl⟩⟩ ?_)];show cW ç (λf2q=>∃ o5 o6 o7 o8,ε=[.fz<|aH c S,.fz<|.int m,.fz<|tb ç,.fz<|br S.LL,.ow<|WC ((ç.take i).map<|c6 S N m),o5,o6,o7,o8]) ⟨_,_,_,_,rfl⟩ ⟨rfl,.l .lst⟩ (λi ks ε hk gR=>?_) λe3y=>?_
 ·let#[jd]:=gR;ext d7n;let#[O,W]:=hw ks<|Hb hk;show⟨_,rfl,lq ⟨⟨rfl,by simp,rfl⟩⟩ ?_⟩;show a5a S.LL (λj ε=>∃ o7 o8,ε=[.fz<|aH c S,.fz<|.int m,.fz<|tb ç,.fz<|br S.LL,.ow<|WC b48,.fz<|rw ks,.ow<|WD ((S.LL.take j).map λg=>lV<|e7J (S.Mi.map (·.1)) g N m),o7,o8]) ⟨_,_,rfl⟩ ⟨rfl,.l .lst⟩ (λj g ε hg gR=>?_) λe3y=>?_
  ·let#[o7,o8,he]:=gR;subst he;let#[wy,X5]:=W g<|Hb hg;let jl:=(GW.mp hg).1;let c1:=Rr.mk (c:=c) O (Hb hg) Vf hm hz;rw[X5]at c1;let rd:=eq_str (ε:=[some<|aH c S,some<|.int m,some<|tb ç,some<|br S.LL,some<|WC b48,some<|rw ks,some<|WD ((S.LL.take j).map λg=>lV<|be c03 ī g N m),some<|.str g,some<|lE (.inr wy)]) (ra:=e18 (rV 8)<|rC FV) (rb:=rC<|.str "cut") sB rfl;rw[Hg<|by decide]at rd;show#[_,1,_,.nx #[#[5],c1]<|.nx Gk #[1,by simp;lia,.z sB],.fz<|.str g,.fz<|lE (.inr wy),?_];rw[aO hg,GZ,HE,IP,X5,show WD (_++[lV<|.inr wy])=.lst (List.map tb _++[tb wy]) from congrArg D.lst GZ];rfl
  ·let#[o7,o8,he]:=gR;ext d2V;show#[_,#[_,2,by simp;lia,.z rfl],.fz<|rw ks,.fz<|WD (c6 S N m ks),o7,o8,?_];rw[aO hk,GZ,HE,IP,show WC (_++[c6 S N m ks])=.lst (List.map WD _++[WD<|c6 S N m ks]) from congrArg D.lst GZ];rfl
 ·let#[tR,he]:=gR;ext d5a
inductive d6 (c:Cl)(c7r)(Rm:Ä):Ä
 |mk {S:NS}{m N:Nat}{p:Int}{d:D}:My.O2 p=true->p<=1000000->Wi S (![]) N->a6G->S.Lu.length<=1000->1<=m->m<=1000->m * N+N<=1000->(S.LL.length:Int)<=p->Rm [yG,fD C p,tb [[]],WC [c6 S N m []]] d->d6 c C Rm Ar d
def MV:ar [c6J,nj,"needed"] à (aa EB):=Py
def vR [Bx:Bd](d2k)(Po:Mh 6 "made_plan" ó (Pr Rm)):QN MY 7 f fd à (Pr DC):=by
 let ND:=MV.nd;show MM.dv F MV ?_ λe2k=>(qC (qs 4 ND<|e3x Œ)
 (qC (qs 5 ND<|dF Nh hr.m rfl b5V)
 (qC (qs 6 ND<|f2a b5v)
 (qC (qs 7 ND<|e3i b4u (d8U 5))
 (qC (qI b7f
  j8
  q0)
 (qr<|dF Po hr.m rfl (da (Đ 0)<|e0l (da (Đ 4)<|e0T (e2q Lp)))))))))
 rintro _ _ @⟨S,m,N,p,d,hP,p1,O,W,hp,Vf,hm,hz,hl,M⟩;ext d4g;rw[Hg<|by lia]at rd;show#[1,.inl<|.nx FQ (.nx #[#[3],#[O.tl]]<|.nx ⟨⟨rfl,rfl,rfl,rfl⟩,e1p hz⟩ (.nx a86<|.nx Gk #[#[#[6],M],1]))]
open e
universe K72
namespace L2
open PySem PySem.Spec PyProof.Rows
inductive Vo (c9S)(vs:π)(H:Hp)(x2:VK)(E:XK):∀ F l C,f' F H->LC F l vs->R l C->(∀ od H',f' H H'->E yN od H')
abbrev Rz:=Ev->Addr->Prop
theorem tX (c9l)(F0 H0:Hp)(e:Rz):TS:=λ_ σ H=>∃ F ε C,e6V H ε/\e ε C/\∀ σ' od H',f' H0 H'->W σ' yN od H'
theorem QX (X)(c9l)(st)(e:Rz):Prop:=∀ F0 H0,e0R (tX W F0 H0 e)
theorem nU (X)(c9l)(st:Í)(e:Rz):Prop:=∀ F0 H0,Q1 X st (tX W F0 H0 e)
variable {st:Stmt}{r:Rs}{z:Rz}{rt:Å}
inductive zNx (r:Rs)(z:Rz)(d1R):∀{ε1:Ev},r ε (.nx ε1)->z ε1 C
def xC (c9Z)(k:nU X W ss z):f0l (zNx r z):=λe1l=>(ag ue<|k F0 H0).imp λe0f=>by let#[E6,C,S,#[mh],p]:=gR;show#[mr,λe4g=>#[F',_,C,S',h2,p]]
def x1 (h:QX X W st z):f0l z:=λe1l=>(ag ue Pz).imp λE σ H h=>h
inductive zIf (rt:Å)(z:Rz)(d1R):Prop
 |t:rt ĩ true->z ε C->zIf rt z ε C
def a7D (h:e82 z6)(ha:nU X W a z):QX X W BG (zIf rt z):=λe1l=>(gC h (ha F0 H0) Pz).imp λE σ H ⟨F,ε,C,S,⟨h1,h2⟩,p⟩=>
 #[_,_,true,S.a,h1,λe1M=>#[E6,C,S.MR e1,h2,p]]
inductive Ci (q:Õ)(rb:Rs)(zb:Rz):Ev->List D->Addr->Prop
 |next {ε ε1 ε2:Ev}{d:D}{l:χ}{C:Addr}:q d ε ε1->rb ε1 fH->Ci q rb zb ε2 l C->Ci q rb zb ε GD C
 |ex {ε ε1:Ev}{d:D}{l:χ}{C:Addr}:q d ε ε1->zb ε1 C->Ci q rb zb ε GD C
inductive a2H (ri:Ri)(q:Õ)(rb:Rs)(zb:Rz)(d1R):∀{l:χ},ri ze l->Ci q rb zb ε l C
instance xL (hp)(hc)(hi)(ht:PG X tg g)(hg:Xt g q)(hb:RT X ss rb)(hx:nU X W ss zb)(hs):
  QX X W ŧ (a2H ri q rb zb):=λF0 H0=>(bJ hp hc hi ht (tb:=λE σ H=>tQ F0 H0 rb E σ H\/tX W F0 H0 zb E σ H) (λñ s σ H D I h=>h.elim (hb F0 H0 ñ s σ H D I)<|hx F0 H0 ñ s σ H D I) hs).imp fun E σ H ⟨F,ε,C,S,.mk (l:=l) h1 h2,p⟩=>by
 show#[F,_,l,S.z,h1,λJ H1 e1 hJ=>?_];show#[λi m σ H=>m=l.length - i/\i<=l.length/\∃ F' ε',f' _ F'/\Ss F0 H0 F' σ H ε'/\Ci q rb zb ε' (l.drop i) C,#[_,1,HW _,_,ε,f'.refl _,S.grow e1,h2],?_];rintro i m σ H ⟨rfl,hi,F',ε',u,S',w⟩;by_cases c:i<l.length
 ·rw[Jh c]at w;let#[go,yl]:=(hJ.mono u).go H i l[i] S'.le<|GT c;show .inr #[go,?_]
  cases w with
  | next t b w=>
   show#[λσ' H'=>∃ F2,f' _ F2/\Ss F0 H0 F2 σ' H' _,λσ2 H2 gR=>(by let#[F2,u2,S2]:=gR;show#[_,#[0],1,c,F2,_,u2,S2,w]),λx H2 y=>?_];let#[e2,hx]:=yl x H2 y;show hg ą ą x _ (S'.grow e2) hx t λσ3 S3=>.inl #[_,_,_,S3,b,λσ4 H4 F4 u4 S4=>#[F4,u.trans<|(aj S'.le).trans u4,S4]]
  | ex t b=>
   show#[λ_ _=>False,λ_ _ z=>z.elim,λx H2 y=>?_];let#[e2,hx]:=yl x H2 y;show hg ą ą x _ (S'.grow e2) hx t λσ3 S3=>.inr #[_,_,_,S3,b,p]
 ·rw[List.drop_of_length_le<|by omega]at w
  cases w
inductive Zu (c7r)(R:List D->Prop)(d0H):∀ F ea l ws,vs=.ref ea::ws->H ea=!BW ea C->((∀ b o,F b=!o->b≠ea/\H b=!o))->LC F l ws->R l->(∀ dx H',(∀ b o,b≠ea->H b=!o->H' b=!o)->H' ea=!xq ea C dx->Q .non H')
inductive zRz (c7r)(rs:Á)(R:List D->Prop)(ε:Ev):Addr->Prop
 |mk {l:χ}:rs ĩ l->R l->l.length<=1000->zRz C rs R ε C
def a8g (d0U)(hc)(hw:c5x X W)(c7j)(Dd:e22 (Zu C R))(c7S)(c7G)(c86):
  QX X W a89 (zRz C rs R):=λe1l=>(Bc O hc hw hg Dd hr ha OO TY Of).imp λe0f=>by
 let#[E6,C',S,h,p]:=gR;let#[ic]:=h;show NI.go S.a h1 λvs e0d=>#[HH (by rw[q1.length];show h3)<|by decide,λea VJ=>#[_,ea,_,vs,1,af,λb o w=>?_,q1,h2,λdx H' k1 k2=>#[1,dx,k2,p Ĉ λb o w=>?_]]]
 ·let:=e1v w;let ne:=ak this VJ;show#[ne,by rw[a9 ne];show this]
 ·let w1:=e1 ĉ<|S.b0 _ _ w;let ne:=ak w1 VJ;rw[aF ne];show k1 b o ne (by rw[a9 ne];show w1)
inductive Cn (rs:Á)(c9S)(d1R):∀{l:χ},rs ĩ l->R l C
def RX.go (S)(h:Cn rs R ε C)(p:∀ σ' od H',f' H0 H'->W σ' yN od H'):RX (Vo R) W Ad σ H Q:=by ext d7R;show NI.go S.a h1 λvs e0d=>#[_,_,C,S1.le,q1,h2,λod H' e=>p Ĉ<|S.b0.trans (e1.trans e)]
def b4h (h:e0R (iY (RX (Vo R) W Ad) vS)):QX X W st (Cn rs R):=λe1l=>h.imp λe0f=>by let#[E6,C,S,h,p]:=gR;show RX.go S h p
open e
variable {K:Ψ}{st:Stmt}{k:Nat}{R:List D->Addr->Prop}{z:Rz}
theorem c4W (n m:Nat)(z:Rz)(c9S):Prop:=∀ l C,R l C->l.length=m/\z (ent n l) C
def OR.dvE (c7m)(c7p):e1B (Vo R):=
 F.okX S a4k λd90 gR=>by let#[F,l,C,s1,hl,hR,q]:=gR;show#[c3p]
def MM.dvE (c90)(c7p):e1B (Vo R):=
 MM.okX F S a4k λd90 gR=>by let#[F,l,C,s1,hl,hR,q]:=gR;show#[c3p]
def LX.qx (F:d91 MY k f fd ps sp):d91 Ce k f fd ps sp:=
 #[F.len,λe7c=>K8 (f1K hv hs) λr s' h=>by
  cases r with
  | error e=>show h.elim
  | ok f=>cases f <;> show h]
def LX.or (c96)(F':e6Q ps sp'):e6Q ps λe3o=>e1d E\/sp' vs H Q E:=
 #[λe3o h=>h.elim (F.len vs H Q E)<|F'.len vs H Q E,λe7c=>hs.elim (f1K hv)<|F'.run A outer s H args us vs Q E hr he hb hv]
open e
def a0c (x:e5H h):e5H (h.push o):=by let#[GJ,oe,vs,T,oT,ts,he,r1,hd,h1,hnT,hTe,hT,r2]:=x;let kp:∀ {b u},h.get? b=!u->(h.push o).get? b=!u:=λq=>Ha _ q;show#[λe66=>kp<|f1 b u q,f2,f3.of_keeps λe66 _=>#[u,kp q,1],oe,vs,T,oT,ts,kp he,r1,hd,h1,hnT,hTe,kp hT,r2]
theorem a2X (K)(C1 C2:Addr)(tb:(St->XK)->TS)(th:TS):TS:=λe3t=>
 tb (λσ' cls od H'=>e9V cls [.ref C1,.ref C2]=!true/\th D σ' H') D σ H
def Fy {x1:Str}{tb:(St->XK)->TS}(d0U)(g1:Gl X x1)(m1:X.mg x1=!.ref C1)(g2:Gl X x2)(m2:X.mg x2=!.ref C2)(hb:∀ pn W,Q1 (X.a2P pn W) body (tb W))(hh:∀ ea pn,Q1 (X.Sk ea pn) (b₀::YL) th)(d1:(x1==("__debug__":Str))=false:=ö)(d2:(x2==("__debug__":Str))=false:=ö):
  PS X (.Try body [.ExceptHandler (!.Tuple [.Name x1 p1,.Name x2 p2] kk PQ) none (b₀::YL) a8L] [] [] pos) (a2X X.K C1 C2 tb th):=by
 ext d2u;show wpAny_Try_except ?_;show II (hb ñ _ [] s σ H D (I.ZG.Ru _) h) (λf s1 q=>?_) (λe s1 q=>?_)
 ·cases f with
  | next=>
   let#[l9,I',q]:=q;show KO #[FC,q]
  | brk=>ext d5A;show#[FC,q]
  | cont=>ext d5A;show#[FC,q]
  | ret u=>let⟨v,σ',H',I',r,q⟩:=q;show#[v,FC,r,q]
 ·let#[Qw,σ',Hc,sc,Ic,ea,c4o,hW,hth]:=q;let I1:=Ic.Sm os u LJ bare λb z=>e6q Ė;let fl':=fl;rw[O.Vw]at fl';let a9b:X.A.frames=!(X.env::X.outer):=by rw[I.ok.frames,O.Vw]
  show wpAny_looks_onW a9b O.frm fl' λh4 held up4=>?_;show wpAny_landsW held λh5 fl5 up5=>?_;let hfr:∀ b∈R5 X.stack,∃ o,s1.heap.get? b=!o/\∀ vs,o.data≠.fields vs:=λe2h=>by let#[_,zQ]:=fl.2.2.1.mem hb;show#[zQ]
  let at_:∀ {h6:Heap},B.StaysIn h6->s1.heap.UpToSlots h6->Inv _ Qw σ' H' { s1 with heap:=h6 }:=λ{h6} hB up=>by let#[u6,a8P,_]:=c0K u LJ fl.1 hB up hfr I1.Px old;show Ic.Sm os u6 a8P bare λb z=>e6q Ė
  let J5:=(at_ fl5.1<|up4.trans up5).Tt (ea:=ea);show wpAny_handleBy_cons (codeAny_handlers_test<|wpAny_Tuple (wpAny_items_cons<|dD J5 g1 m1 (wpAny_items_cons<|dD J5 g2 m2 (wpAny_items_nil ⟨by size_fits,?_⟩) d2) d1)) (by intro q;cases q);let fl7:=a0c (o:={ cls:=.type "tuple",data:=.seq [Dc].toArray }) fl5;let up7:h5.UpToSlots (h5.push { cls:=.type "tuple",data:=.seq [Dc].toArray }):=λe32 _=>#[o.slots,Ha _ q]
  let LT:PySem.W.Looks Ē (h5.push { cls:=.type "tuple",data:=.seq [Dc].toArray }) (typeOf<|.ref ea) cls:=by let#[ob,hob,a8T]:=fl7.there;subst a8T;show (PySem.W.Looks.ld hob).andThen .now
  show (PySem.W.exm_tup2 ((at_ fl7.1<|up4.trans (up5.trans up7)).Tt (ea:=ea)).Ow LT (HG h5 rfl) hW).here ?_;show codeAny_handlers_suite ?_;show lands_againW fl7 λh6 fl6 up6=>?_;show II (hh ea ñ [] _ _ _ D ((at_ fl6.1<|up4.trans (up5.trans<|up7.trans up6)).Tt) hth) (λf s9 q9=>?_) (λ_ _ z=>False.elim z)
  cases f with
  | next=>ext d3F
  | brk=>ext d3F
  | cont=>ext d3F
  | ret u=>let⟨v,σ9,H9,I9,r,q⟩:=q9;show#[v,c34,r,q]
open PySem.Calls PySem.W
open PySem.Builtin PySem.Builtin.ObjectAttr
def Dq (c8q)(W8:ox.dict=!d)(VH:s.heap.Ns1 d m)(wi:Within b1t L)(hL:L.length<=1000)(c8t)(h:∀ h' WA,h'.Ns1 d b1t->(∀ b o,b≠d->s.heap.get? b=!o->h'.get? b=!o)->R Oj { s with heap:=h',toks:=WA }):
  codeAny ē A b0z R s:=by
 ext d7x;ext d60;let I:f1h x ox C !od:=#[hx,SE,by ext1 notCls;rw[QZ],by rw[W8];show hod]
 ext d7P;let ne:cd.mro.isEmpty=false:=by cases q:cd.mro with|nil=>rw[q]at ho;cases ho|cons _ _=>rfl
 let sub:e21 (isInstance ĉ) true:=I.type.andThen<|looks_mroIn X (by ext1 mroIn;rw[hc,Option.bind_some,if_neg (by rw[ne];decide),yi _ ho]);show codeAny_call_builtin SF.slot.plain SF.entry (@check_slot Ĉ s "object.__setattr__" "object" "__setattr__" _ c2f [] _ SF.kind SF.split sub (SF.args ĉ v) ?_);ext d2H;let L3:e21 c0z none:=by
  cases attr with
  | none=>show .now
  | some a=>
   ext d3Y
   cases b with
   | true=>cases e
   | false=>show .now
 ext d2Z;let#[U0,g,dr,t,os]:=s;let#[ES]:=ox;ext d5O;ext d7u;show GU<|Hk (GU (wpAny_nsSet1 VH λh' VI hs=>?_));let#[As]:=VI.count wi;show GU (e3q (by rw[hdD];show pastItsLine_dict<|HH hcD (by rw[IY];lia)) ?_);show Hk (h h' _ VI λb ob hbd hb=>(hs.2 b hbd).trans hb)
variable {X:Cx}{σ:St}{H:Hp}
def a2f:∀ {fs:Ï},fs.lookup g=!z->g∈fs.map (·.1):=by
 intro r'
 induction r' with
 | nil=>
  intro h
  cases h
 | cons p fs ih'=>
  intro h;rw[Kb]at h
  cases hb:g==p.1 with
  | true=>cbv
  | false=>rw[hb]at h;show He _ (ih' h)
def a94 (I)(e:H ea=!xq ea C dx)(ed:H dx=!.xd fs)(hz:fs.length<=900)(T:mH X.K C f)(ry)(h:∀ s',d9Z (d8X dx c1O) s'->Q () s'):e2n c1n Q E s:=by
 let#[c5E]:=id<|show oY ea C (!dx) s.heap from (I.LJ ea _ e).1;let#[mA,VH,a4s]:=(show LP X.prog X.w H s.heap dx (.xd fs) from I.LJ dx _ ed)
 ext d60;let IA:f1h ea ox C !od:=#[hx,hc,by ext1 notCls;rw[hd],by rw[W8];show hod]
 let wi:Within (λg=>if g=f then some u else mA g) (f::fs.map (·.1)):=Within.cons f u λg hg=>by
  let hr:=a4s g
  cases hl:fs.lookup g with
  | none=>rw[hl]at hr;cases hm:mA g with
   | none=>show absurd hm hg
   | some z=>rw[hm]at hr;show (show False from hr).elim
  | some z=>show a2f hl
 let ned:ea≠dx:=λz=>by cbv
 show set_plain I.Ow IA T.sa (Dq (s:={ s with toks:=s.toks+1 }) I.Ow hx hc hd W8 VH wi (by rw[HZ,GS];lia) T.ov T.tk T.hd λh' WA VI hk=>?_);show h _ (I.Sm (ch:=[]) rfl ?_ ?_ I.bare λb z=>absurd z<|by simp)
 ·let old:∀ b,b≠dx->upd H dx (.xd<|(f,y)::fs) b=H b:=λe2h=>a9 hb;show#[c28]
  ·show hk b o (λz=>by rw[z,ed]at n;cases n) q
  ·show#[o.slots,hk b o (λz=>by rw[z,ed]at n;cases n) q]
  ·rw[old b (λz=>by rw[z,ed]at n;cases n)];show n
  ·by_cases hb:b=dx
   ·let#[o',_,_,U1,_]:=id VI
    cbv
   ·show#[o,hk b o hb q]
  ·ext d42
  ·ext d42
  ·show#[[].toArray,by rw[old b (λz=>by rw[z,ed]at q;cases q)];simpa using q]
 ·intro a v q;by_cases hb:a=dx
  ·rw[hb,af]at q
   ext d4x
   ·ext d3J
   ·rw[if_neg hg];let:(g==f)=false:=by simpa using hg
    ext d7Q;show a4s g
  ·rw[a9 hb]at q;show (e6p q).MR b1O (λc OE=>?_) λc xs OE=>?_
   ·grind
   ·ext d4b;show OE
   ·ext d4b;show OE
inductive b1R (c7r)(c8f):∀ ea dx fs,x=.ref ea->H2 ea=!xq ea C dx->H2 dx=!.xd fs->fs.length<=900->D.nx σ (upd H2 dx c1O)
theorem ZT (C)(ta tv:TE)(f):TS:=λe3t=>tv σ H λy H1=>ta σ H1 λx H2=>b1R C f D σ y x H2
def vK (c7l):PS X lx (ZT C ta tv f):=by ext d5M;let#[x,Bs,rx,ea,EG,he,hd,hz,q2]:=gR;ext d5B;show a94 I2 he hd hz T ry λs3 I3=>#[σ,_,I3,q2]
open e
universe L2
namespace K72
open PySem L2
open PyProof.Rows (boot_all boot_bool boot_dict boot_int boot_list boot_sorted boot_str boot_tuple)
def c5u:ar ÿ ÿ (aa Ff):=Py
def j9 [Bx:Bd](T:f1i C "needed"):Tm 1 "__init__" "SmallPrime.__init__" Ff ÿ (Zu C λl=>∃ i:Int,l=ji):=by
 ext d2U;show F.ok c5u Af Q0
 ·let#[_,KR,_,_,hl,#[i,1],_]:=h;let#[v,_,1,_,h]:=hl
  cases h;rfl
 ·let#[_,KR,he,_,hl,#[i,1],q]:=h;let#[v,_,1,_,h]:=hl
  cases h;show#[_,aq<|zY T (pv 0) (pv 1) rfl,?_];show⟨_,rfl,_,rfl,ea,rfl,he,λdx hd ne=>q dx _ (λf0u=>?_) af⟩;rw[a9 nb,a9<|ak hb hd];show hb
inductive b23 (c8O):∀(a:Addr) (xs:π),vs=zV->H a=!.lst xs->(∀ l H',f' H H'->H l=none->Q kC H')
def c04:ar Av Av (d88 2):=Py
def b6l [Bx:Bd](h1:Bx.mg "isinstance"=none)(h2:Bx.mg "list"=none)(TL:W.kitOne Bx.K Ő Ő=!true):Tk 1 "kept" (top 2) Av b23:=by
 ext d2U;show F.k c04 λe2U=>?_
 ·let#[a,xs,1,ha,q]:=h;show#[_,ag (gC (df<|f0m h1 a7F (d8Y lS (mK (v:=.ty "list") rfl h2 boot_list rfl))) (d9V (cY (DG Bx.K) rfl h2 boot_list<|a8 lS K')) N3) Pz,?_];show#[_,1,.ref a,CD,1,.lst ha,TL,_,1,Gm ?_];show#[_,1,a,xs,1,.inl<|LO.of ha,λl H' e h0 _=>q l H' e h0]
def b6S:ar å å (aa AL):=Py
def wj [Bx:Bd](T1:f1i C "fallen")(T2:f1i C "name")(T3:f1i C "numbers")(Uk:Mh 1 "kept" Av b23):Tm 2 "__init__" "Cut.__init__" AL å (Zu C λl=>∃ xs z ys,l=b6y):=by
 ext d2U;show F.ok b6S Af Q0
 ·let#[_,KR,_,_,hl,#[xs,z,ys,1],_]:=h;let#[tF,CD,1,CD,1,_,h]:=hl
  cases h;rfl
 ·let#[F0,KR,he,hF,hl,#[xs,z,ys,1],q]:=h;let#[tF,#[a,us,1,ha,_],tF,hz,tF,#[b,vs,1,hb,_],h]:=hl
  cases hz
  cases h;let ha:=(hF ĉ ha).2;let#[nbe,hb]:=hF ĉ hb;show#[_,ag (zY T1 lS (aR Uk hr.m rfl<|e7K K') rfl)<|ag (vK T2 lS zB rfl) (aq<|vK T3 lS (aR Uk hr.m rfl<|a8 (pv 3) K') rfl),?_];show⟨_,rfl,a,us,rfl,ha,λla e1M h1=>#[_,1,ea,1,e1I he,λdx hdx ne=>?_]⟩;show#[m4,ea,FI,af,(by rw[a9 ne];show af),(by change 1<=900;decide),?_];let kb:∀ c o,c≠ea->H c=!o->(upd (upd (f0N dx<|.xd [("fallen",.ref la)]) ea<|xq ea C dx) dx<|.xd [("name",.str z),("fallen",.ref la)]) c=some o:=λc o nc hc=>by let hc1:=e1I hc;rw[a9<|ak hc1 hdx,a9 nc,a9<|ak hc1 hdx];show hc1
  show#[_,1,b,vs,1,kb b _ nbe hb,λlb e1D h2=>?_];show#[_,1,ea,FI,e1f (by rw[a9 ne.symm];show af),e1f af,(by change 2<=900;decide),?_];show q dx _ (λc o nc hc=>?_) ?_
  ·rw[a9<|ak (e1I hc) hdx];show e2 ĉ (kb c o nc hc)
  ·rw[a9 ne.symm];show e2 ĉ (by rw[a9 ne.symm];show af)
open L2.Wy
open PyProof.Rows (boot_any)
def qNs:RT X ss λ_ _=>False:=λe1l=>Pz.imp λe0f=>by let#[Ck]:=gR;show h.elim
def a3v:∀ (n:Nat)(xs:List α)(I:Ö){ε:Ev},I 0 ε->xs[n]?=!x->(∀ i y ε,i<n->xs[i]?=!y->I i ε->∃ ε1,q (u y) ε ε1/\∃ ε2,e50 fH/\I (i+1) ε2)->
  (∀ ε,I n ε->∃ ε1,e3h ε1/\zb ε1 C)->Ci q rb zb ε ve C:=by
 intro n
 induction n with
 | zero=>
  intro xs I ε h0 hx _ fin
  cases xs with
  | nil=>cases hx
  | cons y xs=>cases hx;let#[ε1,a,b]:=fin ε h0;show .ex a b
 | succ n ih=>
  intro xs I ε h0 hx k fin
  cases xs with
  | nil=>cases hx
  | cons y xs=>
   let#[ε1,a,ε2,b,c]:=k 0 y ε (Nat.succ_pos _) rfl h0;show .next a b (ih xs (λi=>I<|i+1) c hx (λi y ε hi hy h=>k (i+1) y ε (Nat.succ_lt_succ hi) hy h) fin)
variable {c:Cl}{aC aS:Addr}
inductive AJ (S:NS)(m N:Nat):∀{n:Nat}{g:Str}{ks:Ξ},S.LL[n]?=!g->be nC ī g N m=.inl ks->(∀ i h,i<n->S.LL[i]?=!h->∃ w,be nC ī h N m=.inr w)
inductive AF (c:Cl)(aC:Addr):List D->Addr->Prop
 |mk {S:NS}{m N:Nat}:Wi S (![]) N->AJ S m N->S.Lu.length<=1000->1<=m->m<=1000->m * N+N<=1000->AF c aC [yG,tb [[]]] aC
instance jI [Bx:Bd](F:Fu Bx.K "ways_by_choice" (top 87) f fd)(Lk)(Qb)(Xw:Ep 2 "Cut" aC å (Zu aC λl=>∃ xs z ys,l=[.lst xs,.str z,.lst ys])):QN Wp 5 f fd î (Vo (AF c aC)):=by
 let ND:=MF.nd;show F.dvE MF ?_ λLr A outer s H E hr=>(xC (qS (pS 3 ND<|fu (Đ 0) Lk hr.m) λ_ _ _ h=>h)
 (xC (qO (pS 4 ND<|c7 Lp) λ_ _ _ h=>h)
 (x1 (xL PassesOwn.leaving rfl (b1W<|Đ 2) (pN 5 ND) (aI 5) qNs
  (xC (qO (pS 6 ND<|c7 Lp) λ_ _ _ h=>h)
 (x1 (xL PassesOwn.leaving rfl (b1W<|Đ 3) (pN 7 ND) (aI 7)
  (qC (qs 8 ND<|dF Qb hr.m rfl Ž)
 (qC (qI (dT bq cM (Mz hr (Đ 8) dI) jk)
  (q1 a6W)
  q0)
 (q1<|qA (aA<|Qp Bx.K Hu Hz Hy aB (pv 6) (a8 (Mz hr (Đ 8) dI) K')) (λ_ _ _ h=>h))))
  (xC (qS (pS 8 ND<|dF Qb hr.m rfl Ž) λ_ _ _ h=>h)
 (x1<|a7D (dT bq cM (Mz hr (Đ 8) dI) jk) (x1<|a8g mL rfl c4u rfl Xw hr.m (da (Đ 5)<|da (Đ 7) (da (dS (aM hr) (Đ 8)<|dC aK) Lp))))))))))))
 rintro _ _ @⟨S,m,N,O,⟨hg,ec,hn⟩,hp,Vf,hm,hz⟩;rename_i n g ks;let ll:S.LL.length<=1000:=by ext1 NS.LL;rw[GS];show HH (HJ ĉ) hp
 show⟨rfl,.mk ⟨rfl,rfl,by decide,⟨hp⟩⟩<|.mk ⟨⟨rfl,by simp,rfl⟩⟩ (.mk rfl<|.ex rfl (.mk ⟨⟨rfl,by simp,rfl⟩⟩ (.mk rfl ?_)))⟩;show a3v n S.LL (λj ε=>∃ o7 o8,ε=[.fz<|aH c S,.fz<|.int m,.fz<|tb [[]],.fz<|br S.LL,.ow<|.lst [],.fz<|D.lst [],.ow<|WD ((S.LL.take j).map λg=>lV<|be Ÿ (S.Mi.map (·.1)) g N m),o7,o8]) ⟨_,_,rfl⟩ hg (λj h ε hj hh gR=>?_) λε gR=>?_
 ·let#[o7,o8,he]:=gR;subst he;let#[wy,X5]:=hn j h hj hh;let jl:=(GW.mp hh).1;let c1:=Rr.mk (c:=c) O (Hb hh) Vf hm hz;rw[X5]at c1;let rd:=eq_str (ε:=[some<|aH c S,some<|.int m,some<|tb [[]],some<|br S.LL,some<|.lst [],some<|D.lst [],some<|WD ((S.LL.take j).map λg=>lV<|be Ÿ ī g N m),some<|.str h,some<|lE (.inr wy)]) (ra:=rO Sub (rV 8)<|rC (.int 0)) (rb:=rC<|.str "cut") #[2,.t rfl] rfl;rw[Hg<|by decide]at rd;show#[_,1,_,.nx #[#[5],c1]<|.nx (.f rd rfl) #[1,by simp;lia,.z #[2,.t rfl]],.fz<|.str h,.fz<|lE (.inr wy),?_];rw[aO hh,GZ,HE,IP,X5,show WD (_++[lV<|.inr wy])=.lst (List.map tb _++[tb wy]) from congrArg D.lst GZ];rfl
 ·let#[o7,o8,he]:=gR;subst he;let c1:=Rr.mk (c:=c) O (Hb hg) Vf hm hz;rw[ec]at c1;let rd:=eq_str (ε:=[some<|aH c S,some<|.int m,some<|tb [[]],some<|br S.LL,some<|.lst [],some<|D.lst [],some<|WD ((S.LL.take n).map λg=>lV<|be Ÿ ī g N m),some<|.str g,some<|lE (.inl ks)]) (ra:=rO Sub (rV 8)<|rC (.int 0)) (rb:=rC<|.str "cut") #[2,.t rfl] rfl;rw[Hf rfl]at rd;show#[_,1,.mk #[#[5],c1]<|.t rd (.mk #[2,#[2,.t rfl],1] #[_,_,_,1] (by change 3<=1000;decide))]
inductive zE (c:Cl)(aC:Addr):List D->Addr->Prop
 |mk {S:NS}{m N:Nat}{p:Int}:My.O2 p=true->p<=1000000->Wi S (![]) N->AJ S m N->S.Lu.length<=1000->1<=m->m<=1000->m * N+N<=1000->zE c aC Ar aC
def wv [Bx:Bd](c76)(LQ)(Nh)(LR:Gj 5 "ways_by_choice" î (Vo (AF c aC))):f1j (Vo (zE c aC)):=by
 let ND:=MV.nd;show MM.dvE F MV ?_ λe2k=>(xC a5Z
 (xC a4M
 (x1<|b4h (pS 6 ND<|a1I a0u LR hr.m rfl b5v))))
 rintro _ _ @⟨S,m,N,p,hP,p1,O,W,hp,Vf,hm,hz⟩;show#[1,.mk FQ<|.mk #[#[3],#[O.tl]] #[#[4],#[O,W,hp,Vf,hm,hz]]]
inductive jp (c:Cl)(aS:Addr):List D->Addr->Prop
 |mk {S:NS}{m N:Nat}{p:Int}:My.O2 p=true->p<=1000000->Wi S (![]) N->a6G->S.Lu.length<=1000->1<=m->m<=1000->m * N+N<=1000->p<(S.LL.length:Int)->jp c aS Ar aS
def b0Q [Bx:Bd](d2k)(OU:Ep 1 "SmallPrime" aS ÿ (Zu aS λl=>∃ i:Int,l=ji)):f1j (Vo (jp c aS)):=by
 let ND:=MV.nd;show MM.dvE F MV ?_ λe2k=>(xC a5Z
 (xC a4M
 (xC (qS (pS 6 ND<|f2a (da (Đ 0)<|e0l (e0T Lp))) λe0N=>h)
 (xC (qS (pS 7 ND<|e3i b4u (eL T.M8<|Đ 5)) λe0N=>h)
 (x1<|a7D b7f (x1<|a8g mL rfl c4u rfl OU hr.m Gh))))))
 rintro _ _ @⟨S,m,N,p,hP,p1,O,W,hp,Vf,hm,hz,hl⟩;let ll:S.LL.length<=1000:=by ext1 NS.LL;rw[GS];show HH wJ hp
 ext d4g;rw[Hf<|by lia]at rd;show#[1,.mk FQ<|.mk ⟨⟨rfl,rfl,rfl⟩,⟨O.tl⟩⟩ (.mk ⟨⟨rfl,rfl,rfl,rfl⟩,e1p hz⟩<|.mk a86 (.t rd<|.mk #[2] #[_,1] (by change 1<=1000;decide)))]
open e
theorem okN (ch:Ξ)(n:Int):Bool:=decide (ch.length=0) || decide b4c
theorem uK (ch:Ξ)(b:Θ)(n:Int):Θ:=if okN ch n=true then b++[ch++[n]] else b
theorem eB (ç)(nums:Ξ):Θ:=ç.foldl b3H []
def c29 (ch:Ξ):∀ (nums:Ξ)(b:Θ),(f2b b).length<=b.length+nums.length:=by
 intro r'
 induction r' with
 | nil=>
  intro b;show Hl _
 | cons n ns ih'=>
  intro b;rw[IG,HZ];show HH (ih' _) ?_;ext1 uK;split <;> simp <;> lia
def a52 (nums:Ξ):∀ (ç b:Θ),(ç.foldl b3H b).length<=b.length+ç.length * nums.length:=by
 intro r'
 induction r' with
 | nil=>
  intro b;simp
 | cons ch cs ih'=>
  intro b;rw[IG,HZ,K9];let h1:=ih'<|f2b b;let h2:=c29 ch nums b
  lia
def b10 {ch:Ξ}(h:ch.length≠0):R8 (ch.map D.int) (-1)=!.int (ch.getD (ch.length - 1) 0):=by
 let h2:ch.length - 1<ch.length:=#[0]
 ext1 R8 Wn;rw[GS,if_neg<|by omega,if_pos<|by omega,show (-1+(ch.length:Int)).toNat=ch.length - 1 by omega];simp[GT h2]
theorem ua (nums:Ξ):Nat->Θ
 | 0=>[[]]
 | k+1=>eB (ua nums k) nums
theorem zw (nums:Ξ):Nat->Θ
 | 0=>[[]]
 | k+1=>zw nums k++ua nums (k+1)
variable {c:Cl}
inductive a5T:Ä
 |mk {ç:Θ}{nums:Ξ}:ç.length * nums.length<=1000->(∀ ch∈ç,ch.length<=1000)->a5T [tb ç,rw nums] (tb (eB ç nums))
def c3S [Bx:Bd](c73):Tk 1 "longer_by_one" (top 72) b9h (Pr a5T):=by
 show N7 ["told","choice","number"] ?_ λd9Y=>(qC oX
 (qC (e8U vd (aI 3)
  (q1 (e0w Pi pR (aI 4)
  (q1 (qI (PW.pt<|dOr (d9x xu) (t6<|e6F (Đ 4) (Mz hr (Đ 3)<|dNg aK)))
  (q1<|qA (aA<|d92 zB (a8 (f07 (c7<|e10 Lp).p) K')) (λe0N=>h))
  q0)))))
 jc))
 rintro _ _ @⟨ç,nums,hz,hc⟩;show .nx #[Z7] ?_;show cW ç (λf2q=>∃ o3 o4,ε=[.fz<|tb ç,.fz<|rw nums,.ow<|tb (eB (ç.take i) nums),o3,o4]) ⟨_,_,rfl⟩ ⟨rfl,.l .lst⟩ (λi ch ε hi gR=>?_) λe3y=>?_
 ·let#[o3,o4,he]:=gR;subst he;let Zk:=(GW.mp hi).1;let bl:=a52 nums g7 [];rw[Hm,Nat.min_eq_left<|by omega]at bl;let bm:=Nat.mul_le_mul_right nums.length (show i+1<=ç.length by omega);show⟨_,rfl,Gw nums (λj ε=>∃ o4,ε=[.fz<|tb ç,.fz<|rw nums,.ow<|tb ((nums.take j).foldl j7<|eB g7 nums),.fz<|rw ch,o4]) ⟨_,rfl⟩ ⟨rfl,.l .lst⟩ (λj n ε hj gR=>?_) λε' gR=>?_⟩
  ·let#[o4,he]:=gR;subst he;let hjl:=(GW.mp hj).1;let b2:=c29 ch (nums.take j)<|eB g7 nums;rw[Hm,Nat.min_eq_left<|by omega]at b2;let b3:(eB g7 nums).length<=i * nums.length:=by ext1 eB;simpa using bl
   rw[aO hj,JY,IG,List.foldl_nil];generalize (nums.take j).foldl j7 (eB g7 nums)=b at b2 ⊢;let r1:=eq_int (ε:=a5G) (ra:=rF OZ<|rA DJ SI) (rb:=rC<|.int 0) ⟨⟨rfl,rfl⟩,OZ.m⟩ rfl;let ho:rOr (λε b=>e4k (rF OZ<|rA DJ SI) (rC<|.int 0) ε<|.bl b) (λε b=>rO (fI a9Q λi j=>Tb<|.bl (decide (j<i))) pf (e18 DJ<|rC (.int<|-1)) ε<|.bl b) a5G (okN ch n):=by
    by_cases c0:ch.length=0
    ·rw[Hf<|by omega]at r1;rw[show okN ch n=true by simp[okN,c0]];show .t r1
    ·rw[Hg<|by omega]at r1;rw[show okN ch n=decide b4c by ext1 okN;rw[Hg c0,Bool.false_or]];show .f r1 (gt_int rfl #[2,.l .lst<|b10 c0])
   by_cases c1:okN ch n=true
   ·rw[c1]at ho;show#[_,1,_,.t ho #[1,by simp;omega,.z #[1,u8,.l (by let:=hc ch<|Hb hi;simp;omega)]],.fz<|.int n,?_];rw[show uK ch b n=b++[ch++[n]] from if_pos c1,show tb (b++[ch++[n]])=.lst (b.map rw++[rw (ch++[n])]) from congrArg D.lst GZ,show rw (ch++[n])=.lst (ch.map .int++Ay) from congrArg D.lst GZ];rfl
   ·rw[Bool.eq_false_iff.mpr c1]at ho;show#[_,1,_,.f ho rfl,.fz<|.int n,by rw[show uK ch b n=b from if_neg c1];rfl]
  ·let#[o4,he]:=gR;subst he;show#[.fz<|rw ch,o4,?_];rw[HM,aO hi];ext1 eB;rw[JY];rfl
 ·ext d8B;ext d5a
inductive c21 (c:Cl):Ä
 |mk {S:NS}{k:Nat}:S.Lj.length<=1000->k<=1000->(∀ j,j<k->(ua ł j).length * S.Lj.length<=1000/\(∀ ch∈ua ł j,ch.length<=1000)/\(zw ł j).length<=1000)->c21 c [aH c S,.int k] (tb (zw ł k))
def c4T [Bx:Bd](T:w8 Bx.mg)(Lq)(NA:Mh 1 "longer_by_one" b9h (Pr a5T)):Tk 2 "choices" (top 73) û (d89 c21):=by
 show N7 ["numbers","told","longest","turn"] ?_ λd9Y=>(qC (e28 (e53 c1P Gq
  Ĕ
  P4
  (λe0i=>e7D dI)) rfl)
 (qC (d9J 3)
 (qC (d9J 4)
 (qC (e1g vh A6 (aI 5)
  (qC (qs 4 ND<|dF NA hr.m rfl b5S)
 (d9A 3 (Tj (Đ 3)<|Đ 4))))
 An))))
 rintro _ _ @⟨S,k,hl,hk,hb⟩;show .nx #[b7 Sa hl λt _=>#[_,3,.t rfl]]<|.nx ⟨⟨⟨⟨rfl,by simp,rfl⟩,rfl⟩,by simp,rfl⟩⟩ (.nx ⟨⟨⟨⟨rfl,by simp,rfl⟩,rfl⟩,by simp,rfl⟩⟩ ?_);rw[show D.lst _=rw (S.Lj.map (·.1)) by rw[show rw (S.Lj.map (·.1))=.lst _ from rfl,GY];rfl];show cW (List.range k) (λf2q=>∃ o5,ε=[.fz<|aH c S,.fz<|.int k,.fz _,.fz<|tb (zw ł i),.fz<|tb (ua (S.Lj.map (·.1)) i),o5]) ⟨_,rfl⟩ ⟨k,hk,⟨rfl,rfl⟩,(bO _).symm⟩ (λi x ε hi gR=>?_) λe3y=>?_
 ·let#[o5,he]:=gR;subst he;let Zk:=(jB hi).2;let#[Ah]:=hb i Zk;show#[_,1,_,.nx #[#[3],.mk (by rw[GS];show b1) b2] #[2,.l ?_],.fz<|.int x,?_]
  ·let:=a52 ł (ua ł i) [];rw[GS,GS];let:(eB (ua ł i)<|S.Lj.map (·.1)).length<=1000:=by ext1 eB;simpa using HH this (by simpa using b1)
   lia
  ·rw[show zw ł (i+1)=zw ł i++ua ł (i+1) from rfl,show tb _=.lst _ from congrArg D.lst GZ];rfl
 ·let#[o5,he]:=gR;rw[HV]at he;subst he;show#[2]
def a9M [Bx:Bd](h:Mh k "choices" û (d89 c21)):Mh k "choices" û (d89 ig):=
 let #[zH,a,b,c',d]:=h
 #[f,fd,a,b,c',d.imp λe3o gR=>by let#[F,l,d,s,mh,q]:=gR;let#[hl]:=h2;show#[F,_,_,s,h1,.mk hl #[0] λj z=>absurd z<|JR _,q]]
open e
theorem UU (d)(H H':Hp):Prop:=∀ a o,a≠d->H a=!o->H' a=!o
def UU.of (e):UU d H H':=λa o _ h=>e a o h
def UU.trans (a:UU d H H1)(b:UU d H1 H2):UU d H H2:=λc o n h=>b c o n (a c o n h)
theorem NS.put (S:NS)(x)(k:Kd):NS:={ S with Lu:=S.Lu++[(x,k)] }
def Mv.put (N)(hd:H dp=!.dK ķ)(hp:Paired a7t ķ S.Lu)(pa:Nd c H gq p)(e:UU dp H H')(Qn:H' dp=!.dK (ķ++[(Sum.inr p.1,.ref a)])):e4S (S.put p.1 p.2):=by
 let#[#[dx,h1],_,#[kt,h3,p3],h4]:=N;let VC:∀ {v:V}{q:Str×Kd},e9a q->Nd c H' v q:=λgR=>by let#[Eh,hb]:=gR;show#[Eh,e ĉ lX hb]
 let X1:∀ {v:V}{t:LS},OH H v t->OH H' v t:=λgR=>by let#[b,eb,hb]:=gR;show#[b,eb,e ĉ lX hb]
 show#[#[dx,e ĉ (d8J h1 hd) h1],#[_,Qn,Paired.Qs (Paired.NL hp λe2Z=>(by let#[x,y]:=gR;show#[x,VC y])) #[1,VC pa]],#[kt,e ĉ (Ne.symm h4) h3,Paired.NL p3 λe2Z=>(by let#[x,y]:=gR;show#[x,X1 y])],h4]
def jW (c83):∀ {ķ:ξ}{l:List α},Paired (λ(kv:Ws×V) x=>kv.1=f x/\DR H (g x) kv.2) ķ l->ķ.map (·.1)=(l.map λx=>zD).map (·.1)/\LC H ((l.map λx=>zD).map (·.2)) ľ:=by
 intro a b h
 induction h with
 | nil=>show#[2]
 | cons h r ih=>let⟨a,b⟩:=h;show#[by cbv,tF,b,ih.2]
def Nd.dr (h:e9a p):DR H (gD c p) v:=let ⟨a,dx,e,q⟩:=h;#[a,dx,_,e,q,1,_,_,3]
def OH.dr (h:OH H v t):DR H (bu t) v:=let ⟨a,e,q⟩:=h;#[a,_,e,q,ik]
def Mv.dr (N):DR H (aH c S) (d9c n):=by let#[FY,_]:=N;let a:=jW<|Paired.NL p2 λe2Z=>(by let#[a,b]:=gR;show#[a,b.dr]);let b:=jW<|Paired.NL p3 λe2Z=>(by let#[a,b]:=gR;show#[a,b.dr]);show#[n,FI,h1,1,tF,#[dp,kp,1,.inl h2,a.1,a.2],tF,#[dt,kt,1,.inl h3,b.1,b.2],_,_,3]
def pr (hl:LC H l vs)(hR:R l d)(q:∀ x H',f' H H'->DR H' d x->Q x H'):e8w E0:=#[H,l,d,f'.refl _,hl,hR,λx H' e h=>q x H' e<|h.mono (aG ě e)]
def XM (d1p):LC H [d] [v]:=#[tF,h,1]
def dr2 (d1p)(h'):LC H [d,d'] [v,v']:=#[tF,h,tF,h',1]
theorem Gr (S:NS)(k:Kd):Bool:=decide (20<=S.Lu.length) || (rdB k&&decide (8<=S.LL.length))
inductive dH (c:Cl)  (vs:π) (H:Hp) (Q:VK) (E:XK):∀(n dp dt a:Addr) (S:NS) (p:Str×Kd),vs=[.ref n,.ref a]->Mv c H n dp dt S->Nd c H gq p->¬ p.1∈S.names->S.Lu.length<=1000->Gr S p.2=false->(∀ H',UU dp H H'->Mv c H' n dp dt (S.put p.1 p.2)->Q .non H')
def b4L:ar ü ü (aa mD):=Py
def c3x [Bx:Bd](O)(c73)(TG:GN Bx.mg)(PH)(Lk):Tm 3 "put_in" "Net.put_in" mD ü (dH c):=by
 ext d2U;let#[tl,SN]:=TG.mop;let#[tn,QC]:=TG.mol;show F.k b4L λe2U=>?_
 ·let#[n,dp,dt,a,S,p,1,N,pa,Og,hz,oA]:=h;let ND:=b4L.nd;ext d3P;let#[ķ,hd,hp]:=id N.Lu;let#[a',dxa,ea,ha]:=id pa
  cases ea;let hl:=Paired.length hp;show#[_,(ag (gC (pT Dt b12<|g8 (v:=.int 20) rfl SN #[_,1])
  Gg
  N3)
 (ag (gC (PW.pt<|D6 (df<|qJ fY PH hr.m) (eX<|pT Dt (e65 boot_len<|a8 (qH lS Lk hr.m) K') (e9b QC #[_,1])))
  Gg
  N3)
 (aq<|e3w No (xk Bx.K fY rfl) fY rfl))),?_]
  let store:∀ {D:L2.Ends}{σ:St} H1,D.nx σ=Q .non->f' H H1->a9r D σ gq (d9c dp) (.str p.1) H1:=λ{D σ} H1 eD e1=>by
   let hv:cU ķ wN=none:=by
    cases hs:cU ķ wN with
    | none=>rfl
    | some v=>
     let:=(jW (f:=λp:Str×Kd=>(.inr p.1:Ws)) (g:=gD c)<|Paired.NL hp λe2Z=>(by let#[a,b]:=gR;show#[a,b.dr]))
     let h2:=(LC.val (y:=.inr p.1) this.1 this.2).1;let h3:=f0h (x:=p.1);rw[Hg Og]at h3;rw[h2<|Option.not_isSome_iff_eq_none.mp (by rw[h3];show nofun)]at hs
     cases hs
   show#[dp,_,1,Uo.k (k:=Sum.inr p.1) (e1I hd) (by change ķ.length<2 ^ 24;lia),?_];let b1:UU dp H (f0N dp<|.dK (dY ķ wN<|.ref a)):=λf0u=>by rw[a9 nb];show e1 ĉ hb
   rw[eD];show q2 _ b1 (N.put hd hp pa b1<|by rw[af,gX _ hv])
  unfold Gr at q1;rw[Bool.or_eq_false_iff,Bool.and_eq_false_iff]at q1;let#[g0,g2]:=q1;let g0:=ID g0;show#[vU,tF,h1,O.cn,O.fp,1,dp,ķ,1,hd,yU,1,qf (λg1=>?_) (λg1=>?_)]
  ·let g1:20<=S.Lu.length:=by let:=HB g1;lia
   show absurd g1 g0
  ·show#[_,1,a,c.of p.2,dxa,_,1,#[_,1],ha,1,pr (XM pa.dr) ⟨⟩ λx e1M hx=>#[_,hx,?_]];rw[gW O]
   cases hb:rdB p.2 with
   | false=>show zh (zh #[m4,n,c.Mj,dx,c6b,c4P,e1I ha,O.cls _,O.nam _,1,store H1 rfl e1])
   | true=>
    show Gm #[zW,pr b9R #[hz] λy e1D gR=>?_];let#[l,vs,ey,Rk,hv]:=gR;subst ey;let vl:=hv.length;let SO:=e1.trans e2;show#[l,_,1,.inl<|LO.of Rk,_,_,2,_,1,qf (λg3=>?_) λg3=>#[m4,n,c.Mj,dx,tF,SO ĉ h1,c4P,SO ĉ ha,O.cls _,O.nam _,1,store H2 rfl SO]];let g3:8<=S.LL.length:=by let:=HB g3;rw[vl,GS]at this;lia
    rcases g2 with z|z
    ·rw[hb]at z;cases z
    ·show absurd g3 (ID z)
theorem may (S:NS)(x)(k:Kd):Prop:=gf x=true/\¬ x∈S.names/\¬ (VG k=false/\S.Mi.isSome=true)/\Gr S k=false
inductive fW (c:Cl)(k:Kd)  (vs:π) (H:Hp) (Q:VK) (E:XK):∀(n dp dt:Addr) (S:NS) (x:Str),vs=[c6c]->Mv c H n dp dt S->x.length<=1000->S.Lu.length<=1000->may S x k->(∀ H',UU dp H H'->Mv c H' n dp dt (S.put x k)->Q .non H')
def made (N)(hz:S.Lu.length<=1000)(hm:may S x k)(q2:∀ H',UU dp H H'->e4S (S.put x k)->e2P H')(y dy:Addr)(ny:H y=none)(ndy:H dy=none)(ne:dy≠y):
  dH c [.ref n,.ref y] (upd (d8P H dy y fR) y (.ins fR dy [("name",.str x)])) Q E:=by
 let e1:f' H (upd (upd (upd H dy<|.own y) y<|.ins fR dy []) y<|.ins (c.of k) dy [("name",.str x)]):=bb (bb (f2c ndy) ny) ny;show⟨n,dp,dt,y,S,(x,k),rfl,N.mono e1,⟨y,dy,rfl,af⟩,hm.2.1,hz,hm.2.2.2,λH' b' N'=>q2 H' ((UU.of e1).trans b') N'⟩
def b2e:e9c (aa C5):=Py
def c1U [Bx:Bd](O)(Lw)(Mc)(Vs:Wf 1 "Post" c.post Ý (gQ c)):Tm 4 "post" "Net.post" C5 Ý (fW c .post):=by
 ext d2U;show F.k b2e λe2U=>?_
 ·ext d6G;show#[_,(ag CU
 (d8T lS Mc (gY Vs hr.m rfl<|e7K K') K')),?_]
  show#[jq];show#[zW,_,1,λe8b=>#[y,.post,c5L]];show made (Q:=λ_ H2=>e2P H2) qB hz hm WF y dy ny ndy ne
def b1y:e9c (aa rK):=Py
def dBo [Bx:Bd](O)(Lw)(Mc)(Qk:Wf 1 "Listener" c.PR Ý (gQ c)):Tm 4 "listener" "Net.listener" rK Ý c2B:=by
 ext d2U;show F.k b1y λe2U=>?_
 ·ext d6G;show#[_,(ag CU
 (d8T lS Mc (gY Qk hr.m rfl<|e7K K') K')),?_]
  show#[jq];show#[zW,_,1,λe8b=>#[y,.listener,c5L]];show made (Q:=λ_ H2=>e2P H2) qB hz hm WF y dy ny ndy ne
def a95:e9c (aa Pa):=Py
def b19 [Bx:Bd](O)(Lw)(Mc)(MB)(Um:Wf 1 "House" c.house Ý (gQ c)):Tm 4 "house" "Net.house" Pa Ý (fW c .house):=by
 ext d2U;show F.k a95 λe2U=>?_
 ·ext d6G;show#[_,(ag CU
 (ag (gC (pT b2I (qH lS MB hr.m) b2A)
  Gg
  N3)
 (d8T lS Mc (gY Um hr.m rfl<|e7K K') K'))),?_]
  show#[jq];show#[zW,pr b9R ⟨⟩ λhv e1D hx2=>?_]
  cases hs:S.Mi with
  | some p=>show absurd #[1,by rw[hs];rfl] hm.2.2.1
  | none=>
   rw[hs]at hx2
   cases hx2;let e1:=e1.trans e2;show#[1,_,1,a39 rfl ?_];show#[zW,_,1,λe8b=>#[y,.house,c5L]];show made (Q:=λ_ H2=>e2P H2) qB hz hm WF y dy ny ndy ne
structure GM (mg:Ω):Prop where
 NK:mg "isinstance"=none
 Z4:mg "int"=none
 a0D:mg "bool"=none
 M8:mg "len"=none
structure a1L (mg:Ω):Prop where
 mot:∃ t,mg "MOST_TIES"=!.int 40 t
 lod:∃ t,mg "LONGEST_DELAY"=!.int 99 t
structure a1K (K:Ψ):Prop where
 ii:W.kitOne K xW xW=!true
 ib:W.kitOne K xW lZ=!false
theorem NS.Wl (S:NS)(x y:Str)(d:Int):NS:={ S with Lj:=S.Lj++c2C,next:=S.next+1 }
theorem GQ (n d:Addr)(H H':Hp):Prop:=∀ a o,a≠n->a≠d->H a=!o->H' a=!o
def dr3 (d1p)(h')(h2:DR H d2 v2):LC H [d,d',d2] [v,v',v2]:=#[tF,h,dr2 h' h2]
inductive c5R (d0H):∀ i:Int,vs=ji->Q Ŭ H
def c5U:ar þ þ (aa B0):=Py
def tT [Bx:Bd](d1G):Tk 1 "is_whole" B0 þ c5R:=by
 ext d2U;show F.k c5U λe2U=>?_
 ·let#[i,1,q]:=h;show#[_,aq<|bD (yH (d9F Bx.K (mK (v:=.ty "int") rfl T.Z4 boot_int rfl))<|nJ (a0n<|f0m T.NK a7F (d8Y lS (mK (v:=.ty "bool") rfl T.a0D boot_bool rfl)))),?_];show#[c6d,TI.ii,_,1,Gm #[c6d,TI.ib,_,1,q]]
def UpL [Bx:Bd](F:Fu Bx.K "is_whole" B0 f fd)(d1G):e4l þ (Pr a2c):=(tT T TI f fd F).imp λe3o gR=>by
 let#[F,_,_,s,h,r,q]:=gR
 cases r;let#[v,ws,3]:=h;show#[_,1,q _ H ě rfl]
def b6W [Bx:Bd](F:Fu Bx.K "is_name" ip f fd)(c73)(TG:GN Bx.mg)(TK:n5 Bx.K):e4l sT (Pr QL):=(yM F T TG TK).imp λe3o gR=>by let#[F,_,_,s,h,r,q]:=gR;let#[hx]:=r;let#[v,ws,3]:=h;show#[_,1,hx,λH' e=>q _ H' e rfl]
inductive b2v:Ä
 |mk {n:Int}:1<=n->n<=99->b2v Ay Ŭ
def c4r [Bx:Bd](TH)(Ng):Tk 2 "is_delay" (top 26) þ (Pr b2v):=by
 let#[tl,QY]:=TH.lod;show N7 [] ?_ λd9Y=>(qr<|Es (dF Ng hr.m rfl<|e0S Lp) (nJ<|dCh (nK qM qM dI (Đ 0)<|dC (g8 (v:=.int 99) rfl QY #[_,1])) eA eA))
 rintro _ _ @⟨n,h0,h1⟩;show#[.t #[#[2],⟨⟩]<|.t rfl rfl (by let:=e0o (i:=1) (j:=n) trivial;rwa [Hf h0]at this) rfl (by let:=e0o (i:=n) (j:=99) trivial;rwa [Hf h1]at this),1]
inductive sJ (c:Cl)  (vs:π) (H:Hp) (Q:VK) (E:XK):∀(n dp dt:Addr) (S:NS) (x y:Str) (d:Int),vs=[c6c,.str y,.int d]->Mv c H n dp dt S->x∈S.names->y∈S.names->(∀ t∈S.Lj,t.1<S.next)->b2C->¬ iT S.Lj y x->1<=d->d<=99->S.Lj.length<40->(∀ H',GQ n dt H H'->Mv c H' n dp dt (S.Wl x y d)->Q (.int S.next) H')
def b1q:ar ["self",DX,"number"] ô (aa EI):=Py
def c4M [Bx:Bd](F:MM Bx.K "tie" "Net.tie" EI f fd)(O)(T:GM Bx.mg)(TH)(Ni:ML 2 c.Mj "check_ends" ã (d89 b30))(Qg:Mh 2 "is_delay" þ (Pr b2v)):
  QN MY 3 f fd ô (sJ c):=by
 let#[tl,U4]:=TH.mot;show F.k b1q λe2U=>?_
 ·let#[n,dp,dt,S,x,y,d,1,N,hx,hy,a8V,hb,hL,hi1,hi2,g,q5]:=h;let ND:=b1q.nd;ext d3P;let#[ķ,hd,hp]:=id N.Lj;let hl:=Paired.length hp;show#[_,(ag (aA<|bE lS Ni hr.m (d8Y fY zB))
 (ag (gC (t7<|df (aR Qg hr.m rfl<|a8 yk K'))
  Gg
  N3)
 (ag (gC (pT Dt b12<|g8 (v:=.int 40) rfl U4 #[_,1])
  Gg
  N3)
 (ag (pS 4 ND<|xk Bx.K lS rfl)
 (ag (e3w No Ct (eY<|a8 Ct (a8 fY<|f1k EL)) rfl)
 (ag (e4T (dZ nQ Ct aK) rfl)
 (d9V Ct))))))),?_]
  show#[_,1,n,FI,h1,1,m4,pr (dr3 N.dr (d':=.str x) (d2:=.str y) rfl rfl) #[hx,hy,#[0],hb,hL] λ_ H0 e0 _=>?_];show#[_,1,pr (XM (d:=.int d) rfl) #[hi1,hi2] λ_ e1M hv=>#[_,hv,zh ?_]];let e1:=e0.trans e1;show#[vU,c6b,O.cn,O.ft,1,dt,ķ,1,e1I hd,yU,1,qf CY (λ_=>?_)]
  ·let:=HB z;omega
  show#[vU,c6b,O.cn,O.fn,1,?_];show#[m4,m4,(by change 4<=sizeLine;decide),λtp e1D h02 XD=>?_];let SO:=e1.trans e2;let hv:cU ķ c2D=none:=by
   cases hs:cU ķ c2D with
   | none=>rfl
   | some v=>
    let:=(jW<|Paired.NL hp λe2Z=>(by let#[a,b]:=gR;show#[a,b.dr]))
    let h2:=(LC.val (y:=.inl S.next) this.1 this.2).1;rw[h2 (Option.not_isSome_iff_eq_none.mp λz=>by rw[Cu,Iw]at z;let#[t,ht,et]:=GX.mp z;let:=a8V t ht;omega)]at hs
    cases hs
  let nnt:n≠dt:=cR h1 hd λz=>nomatch z;show#[vU,tF,SO ĉ h1,O.cn,O.ft,1,_,1,dt,_,1,Uo.k (k:=Sum.inl S.next) (SO ĉ hd) (by change ķ.length<2 ^ 24;omega),?_];rw[gX _ hv];show#[_,1,_,_,2,_,1,n,c.Mj,dx,_,1,by rw[a9 nnt];show SO ĉ h1,O.cn,O.fn,(by change 3<1000;decide),?_];let b2:GQ n dt H (upd (e7l dt<|.dK (ķ++b5w)) n<|.ins c.Mj dx [b7y,b8b,("next_number",.int<|S.next+1)]):=λa o na nd ha=>by rw[a9 na,a9 nd];show SO ĉ ha
  show#[_,1,q5 _ b2 ?_];let#[_,#[kp,h2,p2],_,h4]:=N;let VC:∀ {v:V}{q:Str×Kd},e9a q->v≠.ref n->Nd c _ v q:=λ{v q} gR Wo=>by let#[Eh,hb]:=gR;show#[Eh,b2 b _ (λz=>Wo<|by rw[eb,z]) (cR hb hd λz=>nomatch z) hb]
  let X1:∀ {v:V}{t:LS},OH H v t->OH _ v t:=λ{v t} gR=>by let#[b,eb,hb]:=gR;show#[b,eb,b2 b _ (d8J hb h1) lX hb]
  let ntp:tp≠n:=(ak (e1I h1) h02).symm;let ntd:tp≠dt:=(ak (e1I hd) h02).symm;show#[#[dx,af],#[kp,b2 dp _ (d8J h2 h1) h4 h2,Paired.NL p2 fun kv p ⟨a1,a2⟩=>#[a1,VC a2 ?_]],#[ķ++b5w,by rw[a9 nnt.symm];show af,Paired.Qs (Paired.NL hp λe2Z=>(by let#[a1,a2]:=gR;show#[a1,X1 a2])) #[1,tp,1,?_]],h4]
  ·let#[Eh,RM]:=a2;rintro z;rw[z]at eb
   cases eb;rw[h1]at RM;injection RM with RM;injection RM with _ _ RM
   cases RM
  ·rw[a9 ntp,a9 ntd];show XD
theorem bz (c9k)(kf:α->Ws)(nm:List α)(as:υ):ξ:=(nm.zip as).map λp=>c05
def b1l [DecidableEq α](kj):∀ (nm:List α)(as:υ),nm.Nodup->as.Nodup->nm.length=as.length->∃ LA:α->Addr,(∀ x∈nm,cU Vy (kf x)=!.ref JI/\LA x∈as)/\(∀ x∈nm,∀ y∈nm,LA x=LA y->x=y)/\as=nm.map LA:=by
 intro nm
 induction nm with
 | nil=>
  intro as _ _ hl
  cases as with
  | nil=>show#[λ_=>0,b9i,b9i,1]
  | cons _ _=>cases hl
 | cons x nm ih=>
  intro as h1 h2 hl
  cases as with
  | nil=>cases hl
  | cons a as=>
   let#[n1,n2]:=HQ.mp h1;let#[a1,a2]:=HQ.mp h2;let#[LA,l1,l2,l3]:=ih as n2 a2 Ĵ;let ne:∀ y∈nm,y≠x:=λe16 e=>n1<|e▸hy;show⟨λy=>if y=x then a else LA y,λe16=>?_,λe16 e79 e=>?_,?_⟩
   ·rcases Hs.mp hy with rfl|hy
    ·simp only[if_pos rfl];show#[b3j rfl,Hi ..]
    ·simp only[if_neg<|ne y hy];show⟨?_,He _ (l1 y hy).2⟩;rw[show bz kf (x::nm) (a::as)=(kf x,V.ref a)::e6I as from rfl,c3Z λz=>ne y hy (kj ĉ z).symm];show (l1 y hy).1
   ·grind
   ·cbv
def b3L:∀ (a b:ξ),((a++b).map (·.1)).Nodup->bg a b=a++b:=by
 intro a b
 induction b generalizing a with
 | nil=>intro _;rw[HD];rfl
 | cons k b ih=>
  intro h;let hk:cU a k.1=none:=by
   grind [cU]
  change bg (dY a k.1 k.2) b=_
  simp_all [gX]
def a4C {kf:α->Ws}(kj)(h:nm.Nodup)(hl:nm.length<=as.length):bg [] Vy=e6I as:=by
 rw[b3L [] _ ?_]
 ·rfl
 ·rw[IF];ext1 bz;rw[GY];let e:((λx:Ws×V=>x.1) ∘ λp:α×Addr=>c05)=kf ∘ (·.1):=rfl;rw[e,<- GY];let hs:((nm.zip as).map (·.1)).Nodup:=by
   simp_all [List.map_fst_zip]
  show Le _ (λa b SG e=>SG<|kj _ _ e) hs
def c3c (c7t)(t:LS)(x):gA (ts++[t]) x=gA ts x++(if t.2.1=x\/t.2.2.1=x then [t] else []):=by
 ext1 gA
 grind
def c3T:∀ nm:List α,e6I (nm.map LA)=nm.map λx=>b13:=by
 intro r'
 induction r' with
 | nil=>
  show rfl
 | cons x nm ih'=>
  show congrArg ((kf x,V.ref<|LA x)::·) (ih')
def c4m:∀ {nm:η}{vs:π},LC G (nm.map .str) vs->vs=nm.map V.str
 | [],_,h=>h
 | _::_,_,⟨_,_,e,h1,h2⟩=>by rw[e,c4m h2,show _=V.str _ from h1];rfl
def a5Y:∀ {ts:List LS}{vs:π},LC G qQ vs->f0n ts:=by
 intro r'
 induction r' with
 | nil=>
  intro _ h
  cases h;show .nil
 | cons _ _ ih'=>
  intro _ y1';let#[_,_,e,mh]:=y1';subst e;let#[vb,h,ik]:=h1;show .cons #[a,1,h] (ih' h2)
def f2C:∀ {ts:List LS}{vs:π},f0n ts->LC G qQ vs:=by
 intro ts vs h
 induction h with
 | nil=>rfl
 | cons a r ih=>show#[tF,a.dr,ih]
def iB:∀ {l:List α},(∀ x∈l,DR G (g x) (h x))->LC G d3 (l.map h):=by
 intro r'
 induction r' with
 | nil=>
  ext d48
 | cons _ _ ih'=>
  intro k;show #[_,_,1,k _ Hi,ih' λe0M=>k x<|He _ hx]
def b3o:ar ["names","ties","touching","tie"] jX (d88 76):=Py
def b1D [Bx:Bd](d1o):Tk 1 "ties_by_post" (top 76) jX (Pr c10):=by
 ext d2U;show F.ok b3o vv Q0
 ·obtain⟨G,_,_,sF,hl,@⟨nm,ts,UZ,hz,htz,hE,Wo⟩,q⟩:=h;let#[tF,#[ln,vs1,1,a81,XF],tF,#[l,xs,1,hx0,U0],1]:=hl;let hln:H ln=!(.lst<|nm.map V.str):=by rw[<- c4m XF];show sF ĉ a81
  let hx:=e2a hx0;let hp:=a5Y U0;let ND:=b3o.nd;let VE:=Paired.length hp;show#[_,(ag (pS 2 ND (e4n (a8 (e71 (d9O 0)
  Ĕ
  zK
  (d9y lS)) K')))
 (ag (e0V (d9O 1) vd
  (ag (aA<|d92 b2M EL)
 (d8I b2M yk)))
 (d9V zB))),?_]
  show#[_,1,ln,1,#[_,LO.of hln],a1X (K:=Bx.K) (xs:=nm.map V.str) (λlc i H1=>H lc=none/\f' H H1/\∃ as:υ,as.length=i/\as.Nodup/\(∀ a∈as,H1 a=!.lst []/\H a=none/\a≠lc)/\∃ vs,H1 lc=!.lst vs/\Paired (λv (kv:Ws×V)=>∃ t,v=.ref t/\H1 t=!.tup xI) vs (e0D zI as))
   (λlc Vg=>#[Vg,c5d]) (λlc i H1 _ h=>LO.of<|h.2.1 _ _ hln) (λlc i v H1 ev h=>?_) (λlc H1 h=>?_)]
  ·let#[c5v]:=h;obtain⟨x,ex,rfl⟩:∃ x,nm[i]?=!x/\v=.str x:=by
    rw[Hh]at ev
    cases hm:nm[i]? with
    | none=>rw[hm]at ev;cases ev
    | some m=>rw[hm]at ev;show#[m,1,by simpa using ev.symm]
   let hi:i<nm.length:=(GW.mp ex).1;dsimp only[yp];ext d54;show#[_,Fv,λf2s=>#[(by change 2<=sizeLine;decide),λt e78 h3 ht=>?_]];let hvl:=Paired.length X9;let X7:(e0D zI as).length=i:=by ext1 bz;rw[GS,J7,Hm,Wq];omega
   let alc:a≠lc:=λz=>by rw[z,Rj]at h2;cases h2
   let tlc:t≠lc:=λz=>by rw[z,e1f Rj]at h3;cases h3
   show#[vs,e3 ĉ<|e1f Rj,by rw[hvl,X7];change i<2 ^ 24;omega,Vg,bb ū Vg,as++[a],by rw[Hn,Wq];rfl,?_,λe2h=>?_,vs++[.ref t],af,?_]
   ·ext d5b;let:=(has a hb).1;rw[h2]at this
    ext d46
   ·rcases Hx.mp hb with hb|hb
    ·let#[Ah]:=has b hb;show#[by rw[a9 b3];show e3 ĉ<|e1f b1,b2,b3]
    ·rw[Ht.mp hb];show#[by rw[a9 alc];show e3 ĉ ha,e1.free h2,alc]
   ·let tk:nm.take (i+1)=nm.take i++[x]:=by rw[IM,ex];rfl
    let er:e0D (nm.take<|i+1) (as++[a])=e0D zI as++[(Sum.inr x,.ref a)]:=by ext1 bz;rw[tk,List.zip_append (by rw[Hm,Wq];omega),GZ];rfl
    ext d4i;let:=e3 ĉ<|e1f Qm;rw[a9 (λz=>by rw[z,e3 ĉ<|e1f Rj]at this;cases this)];show this
  ·let#[c5v]:=h;rw[GS]at Wq X9;rw[HM]at X9;let X7:(e0D nm as).length<=1000:=by ext1 bz;rw[GS,J7,Wq];omega
   show#[lc,_,1,#[vs,Rj,X9],c6o];rw[a4C b9j UZ<|by omega]at hd;let#[LA,Y7,la2,la3]:=b1l (λ_ _=>Sum.inr.inj) nm as UZ han Wq.symm;let ek:e0D nm as=nm.map λx=>(.inr x,V.ref<|LA x):=la3▸c3T nm;generalize bz (Sum.inr:Str->Ws) nm as=ķ at Y7 hd ek;let SQ:=e1.trans e2;let dN:∀ x∈nm,LA x≠d:=λe0M z=>by
    let:=(has _ (Y7 x hx).2).1;rw[z,h2]at this
    ext d46
   let lN:∀ x∈nm,H JI=none:=λe0M=>(has _ (Y7 x hx).2).2.1;show#[_,1,l,1,#[_,LO.of<|e45 hx],?_];show c5Z (K:=Bx.K) (xs:=xs) (λj σ H3=>(∃ o,σ=[some<|.ref ln,some<|.ref l,some<|.ref d,o])/\f' H H3/\H3 d=!.dK ķ/\∀ x∈nm,∃ us,H3 JI=!.lst us/\Paired (OH G) us (gA (ts.take j) x))
    #[#[_,1],SQ,hd,λe0M=>#[[],e1f (has _ (Y7 x hx).2).1,.nil]] (λj σ H3 _ h=>LO.of<|h.2.1 _ _ hx) ?_ ?_
   ·rintro j v σ H3 ev ⟨⟨o,rfl⟩,e3,hd3,hT⟩;let#[t,et,p,1,hpt]:=e4o ev;let htm:t∈ts:=Hb et;let#[m1,m2]:=hE t htm;let tk:ts.take (j+1)=ts.take j++[t]:=by rw[IM,et];rfl
    let n12:LA t.2.1≠LA t.2.2.1:=λz=>Wo t htm<|la2 _ m1 _ m2 z;let hp3:=e3 ĉ<|e2a hpt;let#[ys,hy,Zi]:=hT _ m1;let#[zs,hz3,hpz]:=hT _ m2;let hyl:ys.length<=1000:=by rw[Paired.length Zi];show HH wJ b5x
    let hzl:zs.length<=1000:=by rw[Paired.length hpz];show HH wJ b5x
    show#[_,1,_,1,p,_,(1),_,2,Nu.of hp3,1,d,.ref<|LA t.2.1,1,(by rw[<- (Y7 _ m1).1];show PY.k (k:=Sum.inr t.2.1) hd3),.inl #[1,_,LO.of hy],_,1,LA t.2.1,_,_,2,hy,by change ys.length<2 ^ 24;omega,?_];let e4:f' H (upd H3 c1V<|.lst (ys++uZ)):=bb e3<|lN _ m1;let hd4:e5q d=!.dK ķ:=by rw[a9 (dN _ m1).symm];show hd3
    let hz4:e5q (LA t.2.2.1)=!.lst zs:=by rw[a9 n12.symm];show hz3
    let hp4:=e4 ĉ<|e2a hpt;show#[_,1,_,1,p,_,(2),_,2,Nu.of hp4,1,d,.ref<|LA t.2.2.1,1,(by rw[<- (Y7 _ m2).1];show PY.k (k:=Sum.inr t.2.2.1) hd4),.inl #[1,_,LO.of hz4],_,1,LA t.2.2.1,_,_,2,hz4,by change zs.length<2 ^ 24;omega,?_];show#[#[_,1],bb e4<|lN _ m2,by rw[a9 (dN _ m2).symm];show hd4,λe0M=>?_];rw[tk,c3c];by_cases h1:t.2.1=x
    ·rw[if_pos<|.inl h1];subst h1;show#[ys++uZ,by rw[a9 n12,af],?_];show Paired.Qs Zi #[p,1,hpt]
    ·by_cases h2:t.2.2.1=x
     ·rw[if_pos<|.inr h2];subst h2;show#[zs++uZ,af,?_];show Paired.Qs hpz #[p,1,hpt]
     ·rw[if_neg (by rintro (z|z);show h1 z;show h2 z),HD];let#[us,hu,hpu]:=hT x hx;show⟨us,?_,hpu⟩;rw[a9 λz=>h2 (la2 _ hx _ m2 z).symm,a9 λz=>h1 (la2 _ hx _ m1 z).symm];show hu
   ·rintro σ H3 ⟨⟨o,rfl⟩,e3,hd3,hT⟩;rw[VE,HM]at hT;show#[_,1,q _ H3 e3 #[d,ķ,1,.inl (by rw[ax<|e1.free h2];show hd3),by rw[ek,GY,GY];rfl,?_]];rw[ek,GY,GY];show iB λe0M=>?_;let#[us,hu,hpu]:=hT x hx;show#[LA x,us,1,by rw[ax<|lN x hx];show hu,LC.mono (aj sF) ĉ<|f2C hpu]
def b9s:∀ {xs ys:η},xs.Nodup->qT->xs.length<=ys.length:=by
 intro r'
 induction r' with
 | nil=>
  intro ys _ _;show HW _
 | cons x xs ih'=>
  intro ys nd h;ext d4q;let hx:=h x Ė;let:=ih' (ys:=ys.erase x) nd.2 λe16=>(J8 (λz:y=x=>nd.1 (by rw[<- z];show hy))).mpr (h y<|by simp[hy])
  grind
theorem bL (bs):Nat->η
 | 0=>[]
 | k+1=>bL bs k++[(bN bs (bL bs k)).getD ""]
structure Cj (bs:List (Str×η)):Prop where
 nd:(bs.map (·.1)).Nodup
 ends:∀ b∈bs,∀ y∈b.2,y∈bs.map (·.1)
 rk:∃ rank:Str->Nat,∀ b∈bs,∀ y∈b.2,rank y<rank b.1
def a8q (A:Cj bs)(Nt:ts.length<bs.length):∃ x,bN bs ts=!x/\x∈bs.map (·.1)/\x∉ts:=by
 let#[rank,hrk]:=A.rk;let one:∃ b∈bs,b.1∉ts:=by
  by_cases h:∃ b∈bs,b.1∉ts
  ·show h
  ·let hs:∀ x∈bs.map (·.1),x∈ts:=λe0M=>by
    let#[b,hb,1]:=GX.mp hx;by_cases hh:b.1∈ts
    ·show hh
    ·show absurd #[b,hb,hh] h
   let:=b9s A.nd hs;ext d6S
   lia
 let key:∀ n,∀ b∈bs,b.1∉ts->rank b.1=n->∃ b'∈bs,gU ts b'=true:=by
  intro n
  induction n using Nat.strongRecOn with
  | ind n ih=>
   intro b hb hbt hn;by_cases U7:∀ y∈b.2,y∈ts
   ·show#[b,hb,?_];ext1 gU
    cbv
   ·let#[y,hy]:=Classical.not_forall.mp U7;let#[hy1,hy2]:=Classical.not_imp.mp hy;let#[b',RM,e']:=GX.mp<|A.ends b hb y hy1;show ih _ (by rw[<- hn];show hrk b hb y hy1) b' RM (by rw[e'];show hy2) (by rw[e'])
 let#[b,hb,hbt]:=one;let#[b',RM,X8]:=key _ b hb hbt rfl
 cases hf:bs.find? _ with
 | none=>show absurd X8 (by let:=IZ.mp hf b' RM;simpa using this)
 | some c=>
  let hc:=Jq hf;show#[c.1,by ext1 bN;rw[hf];rfl,Ho<|Ik hf,λz=>?_];unfold gU at hc
  cbv
def kQ (A:Cj bs):∀ k,k<=bs.length->(bL bs k).Nodup/\(bL bs k).length=k:=by
 intro r'
 induction r' with
 | zero=>
  intro _;show #[Jy,1]
 | succ k ih'=>
  intro h;let#[mh]:=ih' #[];let#[x,e,hx,hn]:=e3S #[];show#[?_,by simp[bL,h2]];change (bL bs k++[(bN bs<|bL bs k).getD ""]).Nodup;rw[e,HL]
  grind
theorem cE (c7t)(x):η:=(ts.filter λt=>decide Ř).map (·.2.1)
theorem bn (S:NS):List (Str×η):=S.names.map λx=>(x,f1l x)
def c3L (c7t)(t:LS)(x):cE (ts++[t]) x=cE ts x++(if t.2.2.1=x then [t.2.1] else []):=by
 ext1 cE;congr 1;by_cases h:t.2.2.1=x
 ·simp[h]
 ·simp[h]
def pB (c7t)(x):(cE ts x).length<=ts.length:=by ext1 cE;ext d3T
def a6T (A:Cj bs):∀ k,k<=bs.length->∀ x,x∈bL bs k->x∈bs.map (·.1):=by
 intro r'
 induction r' with
 | zero=>
  intro _ x h;show (Ij h).elim
 | succ k ih'=>
  intro hk x h;let#[y,ey,hy,_]:=e3S (by rw[(kQ A k<|by lia).2];lia);unfold bL at h;ext d5F
  ·show ih' #[] x h
  ·grind
def f2y (d1S):aU cs k=none:=by ext1 aU;let:(cs.find? λx=>decide XY)=none:=IZ.mpr λe0M z=>h<|HB z▸Ho hx;rw[this];rfl
def c08:∀ {ř:List bo},(ř.map (·.1)).Nodup->∀ r∈ř,gB ř r.1=!r:=by
 intro r'
 induction r' with
 | nil=>
  ext d7F
 | cons x ws ih'=>
  intro nd r h;ext1 gB;ext d5v
  ·cbv
  ·let ne:¬ x.1=r.1:=λz=>nd.1<|z▸Ho h;ext d7a
theorem ai (S:NS):List MQ:=Lx S Ş
def b6m (ds:Cs)(c91):aU (cs++ds) k=aU cs k:=by grind [a2J,aU,List.find?_append]
def f2z (d1S):aU (cs++[(k,n)]) k=!n:=by
 let hn:=f2y h;unfold aU at hn ⊢;rw[Kw]
 cases hf:cs.find? (λx=>decide XY) with
 | some x=>cbv
 | none=>
  cbv
def b8V (ds:Cs):∀ {mo:Λ},(∀ ks,mo=!ks->∀ k∈ks,k∈cs.map (·.1))->inc msg (cs++ds) mo=inc msg cs mo
 | none,_=>rfl
 | some ks,h=>HA λe8a=>by rw[b6m ds<|h ks rfl k hk]
def b8T (F:ye ms):∀ i,i<=ms.length->∀ m∈ms.take i,aU b7h m.1=!cT p ř msg fo b7h m
 | 0,_,_,h=>by rw[J9]at h;show (Ij h).elim
 | i+1,hi,m,h=>by
  let ih:=e2X i #[0];let Nt:i<ms.length:=#[0]
  obtain⟨r,er⟩:∃ r,ms[i]?=!r:=c1v
  let tk:ms.take (i+1)=ms.take i++[r]:=by rw[IM,er];rfl
  let ck:=e5G iU [];rw[IP,IF]at ck;let nd:=F.nd;rw[<- Iy (i+1) ms,GZ]at nd;let nd:=(HL.mp nd).1;rw[tk,GZ]at nd;let fr:¬ r.1∈(e0L iU []).map (·.1):=λz=>by rw[ck]at z;show (HL.mp nd).2.2 _ z _ Ė rfl
  rw[tk]at h ⊢;rw[b8v];ext d5F
  ·let mk:m.1∈(e0L iU []).map (·.1):=by rw[ck];show Ho h
   rw[b6m _ mk,ih m h];ext d5w;let#[oh]:=Jr h;rw[Hm]at hj;let ej':ms[j]?=!m:=by rw[Kt]at ej;rw[GT<|by omega,ej]
   let:=(F.ahead j m ks ej' Xa).2 k hk;let#[y,hy,e]:=GX.mp this;show GX.mpr #[y,(List.take_sublist_take_left<|by omega).subset hy,e]
  ·rw[Ht.mp h,f2z fr];ext d5w;show (F.ahead i r ks er Xa).2 k hk
def a4Y (F:ye ms)(h:m∈ms):aU kx m.1=!cT p ř msg fo kx m:=by let:=e2X ms.length<|Hl _;rw[HM]at this;show this m h
def b8E (A:Cj bs):∀ k,k<=bs.length->∀ (i:Nat) x,(bL bs k)[i]?=!x->∃ b∈bs,b.1=x/\∀ y∈b.2,y∈(bL bs k).take i:=by
 intro r'
 induction r' with
 | zero=>
  intro _ i x h;simp[bL]at h
 | succ k ih'=>
  intro hk i x h;let hl:=(kQ A k<|by omega).2;unfold bL at h ⊢;by_cases c:i<(bL bs k).length
  ·rw[HY c]at h;let#[b,hb,e,hy]:=ih' #[0] i x h;show#[b,hb,e,λy yy=>by rw[KL<|by omega];show hy y yy]
  ·rw[Ib<|by omega]at h;let ei:i=(bL bs k).length:=by
    by_cases c2:i - (bL bs k).length=0
    ·omega
    ·cbv
   subst ei;rw[Nat.sub_self]at h;let#[z,ez,_,_]:=e3S #[0];rw[ez]at h;let h:z=x:=by simpa using h
   subst h;unfold bN at ez;let#[b,hf,hb]:=HN.mp ez;show#[b,Ik hf,hb,λe16=>?_];rw[KL<|Hl _,HM];let hr:=Jq hf
   simp_all [gU,IL,IS]
def c3M (f:α->List β):∀ (ns:List α)(i:Nat)(m:β),(ns.flatMap f)[i]?=!m->∃ j x,ns[j]?=!x/\m∈f x/\∀ m'∈(ns.take j).flatMap f,m'∈(ns.flatMap f).take i:=by
 intro r'
 induction r' with
 | nil=>
  intro i m h;simp at h
 | cons a ns ih'=>
  intro i m h;rw[Jb]at h ⊢;by_cases c:i<(f a).length
  ·rw[HY c]at h;show#[(0),a,1,Hb h,λm' hm=>by simp at hm]
  ·rw[Ib<|by lia]at h;let#[j,x,hj,hm,k]:=ih' _ m h;show⟨j+1,x,hj,hm,λm' hm'=>?_⟩;rw[List.take_append,Ir<|by lia];rw[List.take_succ_cons,Jb]at hm';rcases Hx.mp hm' with z|z
   ·cbv
   ·show Hq _ (k m' z)
def cu (c9q){i:Nat}{x:α}(h1:xs[i]?=!x)(h2:xs[j]?=!x):i=j:=by let#[hi,e1]:=GW.mp h1;let#[hj,e2]:=GW.mp h2;show (List.getElem_inj nd).mp c0k
abbrev LT:=Int×Str×Str
theorem E7 (R:List LT)(x):Ξ:=(R.filter λr=>decide (r.2.2=x)).map (·.1)
structure LN (S:NS)(ord:η)(R:List LT):Prop where
 Z3:S.names.Nodup
 nin:∀ x∈S.names,x∈ord
 nd:ord.Nodup
 zero:ord[0]?=!("h":Str)
 Lj:S.Lj.map (λt=>b9U)=R
 mem:∀ r∈R,r.2.1∈S.names/\r.2.2∈S.names
 ok:∀ r∈R,∃ u v:Nat,u<v/\ord[u]?=!r.2.1/\ord[v]?=!r.2.2
 asc:(R.map (·.1)).Pairwise (·<·)
 len:ord.length<=20
 ZV:R.length<=40
variable {S:NS}{ord:η}{R:List LT}
def LN.Wl (c7M)(c93):∃ u v:Nat,u<v/\ord[u]?=!t.2.1/\ord[v]?=!t.2.2.1:=h.ok _ (h.Lj▸Ho ht)
def LN.XW (c7M)(c93):t.2.1∈S.names/\t.2.2.1∈S.names:=h.mem _ (h.Lj▸Ho ht)
def LN.Ue (c7M):(bn S).map (·.1)=S.names:=by ext1 bn;rw[GY];show List.map_id _
def LN.ends (c7M):∀ t∈S.Lj,t.2.2.1∈S.names:=λe4t=>(h.XW ht).2
def LN.Vm (c7M):Cj yt where
 nd:=by rw[h.Ue];show h.Z3
 ends:=λe2h e16=>by rw[h.Ue];let#[x,hx,1]:=GX.mp hb;let#[AT]:=GX.mp hy;show (h.XW (Hw.mp ht).1).1
 rk:=by
  show#[λx=>ord.idxOf x,λe2h e16=>?_];let#[x,hx,1]:=GX.mp hb;let#[AT]:=GX.mp hy;let#[ht,htx]:=Hw.mp ht;let htx:=HB htx;let#[yh,mh]:=h.Wl ht;rw[htx]at h2;let ix:∀ (i:Nat) z,ord[i]?=!z->ord.idxOf z=i:=λi e79=>by let hl:=List.idxOf_lt_length_of_mem<|Hb hz;show cu h.nd ĝ hz
  change ord.idxOf t.2.1<ord.idxOf x;ext d61
def LN.Lx (c7M):(ai S).Perm (S.Lj.map λt=>Fc):=by
 ext d2P;let#[Uq,WO]:=kQ h.Vm S.names.length #[0];let a7X:=λe0M=>by let:=a6T h.Vm S.names.length #[0] x hx;rw[h.Ue]at this;show this
 let fin:∀ t∈S.Lj,t.2.1∈bL _ S.names.length:=λe4t=>by show (Mw.RY ĉ Uq a7X<|by omega) _ (h.XW ht).1
 let e1:ai S=((e7L S.names.length).flatMap λx=>S.Lj.filter λt=>decide wB).map λt=>Fc:=by
  ext1 ai K72.Lx NS.NU;rw[List.map_flatMap];congr 1;funext x
  cbv
 rw[e1];show (Mw.Tg (λt:LS=>t.2.1) _ S.Lj Uq fin).map _
def LN.keys (c7M):((ai S).map (·.1)).Perm (R.map (·.1)):=by let:=h.Lx.map (·.1);rw[GY]at this;rw[<- h.Lj,GY];show this
def LN.into (c7M)(x):S.into x=E7 R x:=by ext1 NS.into E7;rw[<- h.Lj,List.filter_map,GY];rfl
def LN.a4a (c7M)(x):(S.into x).length<=1000:=by
 rw[h.into];ext1 E7;rw[GS];let:=HJ (λr:LT=>decide (r.2.2=x)) R;let:=h.ZV
 lia
def LN.Mt (c7M):(ai S).length<64:=by
 let:=h.keys.length_eq;rw[GS,GS]at this;let:=h.ZV
 lia
def LN.fits (c7M):ye Zb where
 Mt:=h.Mt
 nd:=h.keys.nodup_iff.mpr (h.asc.imp λz=>Int.ne_of_lt z)
 ahead:=λi m ks hi hk=>by
  ext d2P;let#[j,x,hj,hm,up]:=c3M ą hi;let#[k0,_,1]:=GX.mp hm;let hk:=hk;let ek:ks=S.into x:=by
   unfold bG at hk
   cbv
  subst ek;show#[h.a4a x,λe8a=>?_];let#[t,ht0,1]:=GX.mp hk;let#[ht1,htx]:=Hw.mp ht0;let#[b,hb,e,hy]:=b8E h.Vm S.names.length #[0] j x hj;let#[x',_,1]:=GX.mp hb;let e:=e;subst e;let:=up _<|J0.mpr #[_,hy t.2.1<|Ho (Hw.mpr #[ht1,htx]),GX.mpr #[t.1,Ho<|Hw.mpr #[ht1,Hf rfl],1]];show Ho this
open e
theorem bv (S:NS)(ho:Option Str)(N m:Nat)(ç):List Δ:=ç.map λks=>S.LL.map λg=>lV c1W
def c4s (c7t)(h g:Str)(N m:Nat):be ts (!h) g N m=match eS ts (!h) g N m [] with
  | .inl ks=>.inl ks
  | .inr U=>.inr (e3j m<|ts.filter λt=>NM U t.1):=rfl
def cN (c8j){x d:α}(h:l[i]?=!x):l.getD i d=x:=by rw[GV,h];rfl
structure wP (p:Int)(d0u)(m:Nat):Prop where
 len:v.length=m
 fit:UT p v
 some:v.filter (λz=>not (decide (z=0)))≠[]
 ker:∀ r∈t,Mx.dot r v % p=0
def b1j (c85):∀ {ws1:List LS}{t:LS}{ws2:List LS},ws=ws1++t::ws2->Q8 ts x ws1 t.2.1/\t∈ts:=by
 induction W with
 | nil=>intro ws1 t ws2 e;simp at e
 | @snoc ws t' A ht ih=>
  intro ws1 t ws2 e;rcases List.eq_nil_or_concat ws2 with rfl|⟨ws3,t3,rfl⟩
  ·cbv
  ·rw[List.concat_eq_append,<- List.cons_append,<- HI]at e;let#[e1,_]:=List.append_inj' e rfl;show ih e1
def gJ (c85):(ws=[]/\y=x)\/∃ Vv t,ws=Vv++[t]/\t∈ts/\t.2.2.1=y/\Q8 ts x Vv t.2.1:=by
 cases W with
 | nil=>show .inl #[2]
 | snoc A ht=>show .inr #[tF,ht,1,A]
def c0H (k:∀ t∈ts,t∈ts')(c85):Q8 ts' x ws y:=by
 induction W with
 | nil=>show .nil _
 | snoc A ht ih=>show .snoc ih (k _ ht)
def BT (c7t)(h g:Str):e3a (NM []) h g 0:=by show Flow.none ts h g
structure WN (S:NS)(h:Str)(ord:η)(R:List LT):Prop where
 ln:LN S ord R
 Mi:S.Mi.map (·.1)=!h
 Pf:h∈S.names
 no:∀ t∈S.Lj,t.2.2.1≠h
 pos:∀ t∈S.Lj,0<=t.1
def WN.mem (W)(c93):Fc∈ai S:=W.ln.Lx.mem_iff.mpr (GX.mpr #[AT])
def WN.one (W)(h1:(k,a)∈ai S)(h2:(k,b)∈ai S):a=b:=by
 let#[i,hi,e1]:=Ig.mp h1;let#[j,hj,e2]:=Ig.mp h2;let g1:((ai S).map (·.1))[i]?=!k:=by cbv
 let g2:((ai S).map (·.1))[j]?=!k:=by cbv
 let:=cu W.ln.fits.nd g1 g2
 cbv
def WN.a8a (W):bG S h=none:=by ext1 bG;rw[if_pos W.Mi]
def WN.a3V (W)(n:x≠h):bG S x=!S.into x:=by ext1 bG;rw[if_neg λz=>n<|Option.some.inj (z.symm.trans W.Mi)]
def b4o {S:NS}(c93):t.1∈S.into t.2.2.1:=by show Ho (Hw.mpr #[ht,Hf rfl])
def WN.sub (d1g):∀ (n:Nat) {ws:List LS}{y:Str},ws.length=n->Q8 ts h ws y->∀ {t:LS}{i:Nat},t∈S.Lj->t.2.1=y->(ai S)[i]?=!(t.1,bG S t.2.1)->(nums ws).Sublist (((ai S).take i).map (·.1))
 | 0,ws,y,hn,A,t,i,ht,ey,hi=>by rw[JH.mp hn];show List.nil_sublist _
 | n+1,ws,y,hn,A,t,i,ht,ey,hi=>by
  ext d4r
  ·simp at hn
  ·let nh:t.2.1≠h:=λz=>W.no t' Zf (by rw[e',<- ey,z]);let hk:t'.1∈((ai S).take i).map (·.1):=(e2u ĉ hi<|W.a3V nh).2 _ (by rw[ey,<- e'];show b4o<|hs t' Qm);let#[r,hr,er]:=GX.mp hk;let#[oh]:=Kg.mp hr;let Yf:j<(ai S).length:=#[]
   let ejr:(ai S)[j]?=!(t'.1,bG S t'.2.1):=by rw[GT Yf,ej];let#[k,mx]:=r;let er:k=t'.1:=er;subst er;let:=W.one (a:=mx) (b:=bG S t'.2.1) (by rw[<- ej];show Ia Yf)<|W.mem Zf;rw[this]
   let ih:=WN.sub W hs n b9J A' Zf rfl ejr;let tk:((ai S).take<|j+1).map (·.1)=((ai S).take j).map (·.1)++[t'.1]:=by rw[IM,ejr,GZ];rfl
   let en:nums (Vv++[t'])=nums Vv++[t'.1]:=by ext1 nums;rw[GZ];rfl
   rw[en];show List.Sublist.trans (d9n ih) ?_;rw[<- tk];show Kc _ (List.take_sublist_take_left<|by lia)
def WN.whole (d1g)(A:Q8 ts h ws y):(nums ws).Sublist ((ai S).map (·.1)):=by
 ext d4r
 ·show List.nil_sublist _
 ·let#[vY]:=Ig.mp<|W.mem Zf;let ei:(ai S)[i]?=!(t'.1,bG S t'.2.1):=by rw[GT hi,ei]
  let tk:((ai S).take<|i+1).map (·.1)=((ai S).take i).map (·.1)++[t'.1]:=by rw[IM,ei,GZ];rfl
  let en:nums (Vv++[t'])=nums Vv++[t'.1]:=by ext1 nums;rw[GZ];rfl
  rw[en];show List.Sublist.trans (d9n (W.sub hs _ rfl A' Zf rfl ei)) ?_;rw[<- tk];show Kc _ (JA ĉ)
def a1J (Pf)(O:Wi S (!ks) N)(e:be yW (!h) g N m=.inr w):
  ∃ QM:List (List LS),w=QM.map nums/\QM.length=m/\(∀ ws∈QM,Q8 yW h ws g)/\w.flatten.Nodup:=by
 rw[c4s]at e;let PT:=O.parts;let#[rk,hr1,hr2]:=PT.rk;let#[w1,_]:=c3C PT.nd O.ends Pf O.hN m [] 0 (BT _ h g) Jy
 cases hw:eS _ _ g N m [] with
 | inl ks'=>rw[hw]at e;cases e
 | inr U=>
  rw[hw]at e;let F:=(w1 U hw).1;rw[L0]at F;let#[QM,c6y]:=QXs PT.nd hr1 hr2 m _ F;let e:=Sum.inr.inj e;rw[<- e,e1];show#[QM,1,e2,λws W4=>c0H b7G<|e3 ws W4,e4]
def a8v:∀ (l:List Δ)(k:Nat),(∀ x∈l,x.length=n)->((l.zipIdx k).flatMap λx=>x.1.map λways=>ww).length=l.length * n:=by
 intro r'
 induction r' with
 | nil=>
  intro _ _;simp
 | cons x l ih'=>
  intro k h;rw[List.zipIdx_cons,Jb,Hn,GS,ih' (k+1) λe16=>h y<|by simp[hy],h x<|by simp,HZ,K9]
  lia
def b4P (he:LK∈Mk.Ls (bv S ho N m ç)):∃ ks g,ç[LK.1]?=!ks/\g∈S.LL/\LK.2=lV c1W:=by let#[#[bl,c],hx,hm]:=J0.mp he;let hx:=Iq.mp hx;unfold bv at hx;rw[Hh]at hx;let#[ks,hk,1]:=HN.mp hx;let#[ways,hw,1]:=GX.mp hm;let#[g,hg,1]:=GX.mp hw;show#[ks,g,hk,hg,1]
def cV (ht:t∈aT ts !ks):t∈ts/\¬ t.1∈ks:=by ext d6Y;show#[h1,by simpa using h2]
def a1i (Pf)(hO)(he:LK∈Mk.Ls zy):
  ∃ ks g,ç[LK.1]?=!ks/\g∈S.LL/\∃ QM:List (List LS),LK.2=QM.map nums/\QM.length=m/\(∀ ws∈QM,Q8 yW h ws g)/\LK.2.flatten.Nodup:=by
 let#[ks,g,hk,hg,e]:=b4P he;let#[O,hW]:=hO ks<|Hb hk;let#[w,ew]:=hW g hg;let#[QM,nZ,d]:=a1J Pf O ew;rw[ew]at e;let e:=e;show#[ks,g,hk,hg,QM,e.trans a,b,c,e▸d]
def WN.Wa (d1H):
  Mk.Pj p m ç qp Zb:=by
 let perm:=W.ln.Lx;let inm:∀ x∈ai S,∃ t∈S.Lj,x=_:=λe0M=>by let#[t,ht,e]:=GX.mp<|perm.mem_iff.mp hx;show#[t,ht,e.symm]
 let XU:(S.Lj.map (·.1)).Nodup:=by
  let:=W.ln.fits.nd;let pk:=(perm.map (·.1))
  rw[GY]at pk;show pk.nodup_iff.mp this
 show#[hP,W.ln.fits.nd,λe0M=>?_,λe0M ks e=>?_,λi x ks hi e e8a=>(e2u x ks hi e).2 k hk,λLK he=>?_,λLK he=>?_,λf0v=>?_,λf0v l k r e mx hm w hwm=>?_,λLK he=>?_,λf0v e8a=>?_,?_]
 ·let#[AT]:=inm x hx;show W.pos t ht
 ·let#[AT]:=inm x hx;let e:=e;unfold bG at e;split at e
  ·cases e
  ·cases e;show XU.sublist B2
 ·let#[ks,g,hk,_]:=e3l he;show (GW.mp hk).1
 ·let#[pF,e,l,_]:=e3l he;rw[e,GS,l]
 ·let#[pF,e,_,wk,_]:=e3l he;rw[e]at hw;ext d3G;show W.whole b9W (wk ws W4)
 ·let#[pF,e',_,wk,_]:=e3l he;rw[e']at hw;ext d3G;let#[ws1,b3a,1,mC]:=List.map_eq_append_iff.mp e;let#[t,ws2,1,e3,e4]:=List.map_eq_cons_iff.mp e2;let#[A,ht]:=b1j (wk _ W4) rfl;let em:=W.one hm<|e3▸W.mem ((cV ht).1);rcases gJ A with⟨rfl,eh⟩|⟨Vv,t',rfl,Qm,et',_⟩
  ·subst e1;rw[em,eh,W.a8a];show Ho (HP.mpr hwm)
  ·subst e1;let nh:=λz=>W.no t' (cV Qm).1<|et'.trans z;rw[em,W.a3V nh,GZ];rw[List.getLast?_append];rw[<- et'];show b4o (cV Qm).1
 ·let#[pF,CD,nd]:=e3l he;show nd
 ·let#[ks,g,Us,_,QM,e,_,wk,_]:=e3l he;rw[e]at hw;ext d3G;let#[AT]:=GX.mp hk;let:=(cV<|(wk ws W4).sub t ht).2;rw[GV,Us];show this
 ·let:=a8v zy 0 λe0M=>by let#[ks,_,1]:=GX.mp hx;rw[GS]
  ext1 Mk.Ls;rw[this];ext1 bv;rw[GS];show Mt
def a11 (hj:j<m):(f1m k).getD j 0=(aU b3I k).getD 0:=by
 show cN ?_;ext1 bY
 cbv
def a5R (G:f1n ms)(F:ye ms)(c8x)(d01)(hT:∀ (n:Nat) x,ms[n]?=!x->bZ ř x.1=e0p (d9I Mk.stN ms n) x):∀ (n:Nat) x,ms[n]?=!x->f1m x.1=Mk.lk (d9I Mk.Uc ms c) x.1:=by
 intro n
 induction n using Nat.strongRecOn with
 | ind n ih=>
  ext d7z;rw[Mk.Yp G hc hx];ext1 bY;let one:∀ j,(aU b3I x.1).getD 0=if x.1∈ks then 0 else Mx.LI p ĉ:=λj=>by
   rw[a4Y F<|Hb hx];change cT ą ĉ=_;ext1 cT;rw[hf];by_cases Pf:x.1∈ks
   ·rw[if_pos Pf,if_pos<|Hf Pf]
   ·rw[if_neg Pf,if_neg<|by simpa using Pf]
  ext1 Mk.newRow;by_cases Pf:x.1∈ks
  ·rw[if_pos Pf];apply JZ;intro j;rw[Hh];by_cases hj:j<m
   ·rw[Js hj,List.getElem?_replicate_of_lt hj];change some ((aU _ x.1).getD 0)=_;rw[one j,if_pos Pf]
   ·rw[Ip<|by simpa using hj,Ip<|by simpa using hj];rfl
  ·rw[if_neg Pf];ext1 Mx.M3 Mx.cols;rw[GY];ext d6h;rw[one j,if_neg Pf,hT n x hx];change _=e4a ĉ;rw[Mx.LU,Mx.LU,Mx.Mp];congr 2
   cases h2:x.2 with
   | none=>
    change Mx.Ll m j=Mx.col ((Mk.starts m).map _) j;rw[<- Mx.Xo m j hj];congr 1;ext1 Mx.ones Mk.starts;rw[GY];show HA λw hw=>(Mk.We G hc<|HP.mp hw).symm
   | some ks'=>
    ext1 Mx.col;rw[GY];ext d7p;let#[r,hr,1]:=GX.mp<|(F.ahead n x ks' hx h2).2 k hk;let#[vY]:=Kg.mp hr;let:=ih i #[] r (by rw[GT<|by lia,ei]);change _=(Mk.lk _ r.1).getD j 0;rw[<- this,a11 hj]
def b5a {ws:List LS}(A:e9P g)(hk:(nums ws).getLast?=!k):∃ t∈ts,t.1=k/\t.2.2.1=g:=by
 rcases gJ A with⟨rfl,_⟩|⟨Vv,t,rfl,ht,e,_⟩
 ·cases hk
 ·let en:nums (Vv++[t])=nums Vv++[t.1]:=by ext1 nums;rw[GZ];rfl
  rw[en,List.getLast?_append]at hk;show#[t,ht,Option.some.inj hk,e]
def WN.reads (d1H){c:Nat}(c8x){ř:List bo}(d01)(hT:∀ (n:Nat) x,(ai S)[n]?=!x->bZ ř x.1=Mk.Ly p m qp (Mk.stN p m ç qp Zb n) x)(hg:g∈S.LL)(ngh:g≠h)(hS:wP p (bW S p ř fo Zb m g) v m):False:=by
 let G:=W.Wa hP hO Mt;let Xd:=a5R G W.ln.fits hc hf hT;let#[O,hW]:=hO ks<|Hb hc;ext d4S;let a9P:((c,w))∈Mk.Ls (bv S (some h) N m ç):=by show J0.mpr ⟨(S.LL.map λg=>lV<|be _ _ g N m,c),Iq.mpr ?_,GX.mpr #[w,GX.mpr #[g,hg,by rw[ew];rfl],1]⟩;ext1 bv;rw[Hh,hc];rfl
 let#[e,he]:=IT.mp a9P;let sep:=λ{y:Ξ} (hy:y.length=m)=>Mk.Yo G he (λway hw=>?_) hS.len (λway hw e8a=>?_) hy
 ·apply hS.some;rw[Jc];intro z hz;let#[oh]:=Ig.mp hz;let hd:=sep<|Mx.LF m j;rw[Mx.Mp,e8I hS.len,GV,GT hj]at hd;let hd:=hd;rw[ej]at hd;let f:=hS.fit z hz;let:z=0:=by
   rcases Int.lt_trichotomy z 0 with q|q|q
   ·lia
   ·show q
   ·let:=KJ q hd;lia
  rw[this];simp
 ·ext d7b;intro z;rcases gJ (e3 ws W4) with⟨_,eg⟩|⟨Vv,t,rfl,_⟩
  ·show ngh eg
  ·unfold nums at z;simp at z
 ·ext d7b;let#[AT,etg]:=b5a (e3 ws W4) hk;let hts:=(cV ht).1;let#[vY]:=Ig.mp<|W.mem hts;let:=Xd i _ (by rw[GT hi,ei]);let this:=this;rw[<- this,Mx.Mp];show Iz (hS.ker _ ?_);show GX.mpr #[t.1,etg▸b4o hts,1]
def a6q:∀ (m:Nat)(ps:À),(∀ q,q<m->q∈ps)->m<=ps.length:=by
 intro r'
 induction r' with
 | zero=>
  intro _ _;show HW _
 | succ m ih'=>
  intro ps h;let hm:=h m<|IJ m;let:=ih' (ps.erase m) λe3Y=>(J8<|by lia).mpr (h q<|by lia)
  grind
structure b0y (c84)(L:Nat):Prop where
 rd:(Mx.Ml qX m).length=L
 le:L<=m
 un:gy p t m=[] ↔ L=m
def a09 (c9g):∃ L,b0y p t m L:=by
 ext d2G;let#[ps,AO,_]:=Mx.RR.run #[0] oB (Mx.QW #[0] S) m;let#[Y1,Ah,_]:=Mx.RR.run #[0] oB S m;let e1:=Mx.MS a2;let e2:=Mx.MS b2;let el:ps.length=Y1.length:=by
  let:=Mx.Uy (p:=p) (bk:=My.bk p) (ř:=Mx.joined t) m<|Hl _;rw[Mx.UH S]at this
  cbv
 show#[ps.length,by rw[e1],by rw[el];show b2.Mt,?_];let eu:e7C m=(List.range m).filter λq=>not (decide (q∈Y1)):=by ext1 gy MI;rw[e2]
 rw[eu,el];ext d4M
 ·intro h;let:=a6q m Y1 λe3Y=>by
   cbv
  let:=b2.Mt;omega
 ·intro h;let:=b2.all h
  cbv
abbrev rdr (c84):Θ:=((red p (Mx.joined t) m).take m).map (List.drop m)
structure yb (p:Int)(t R:Θ)(m:Nat):Prop where
 len:R.length=m
 PZ:∀ r∈R,r.length=t.length
 fit:∀ r∈R,UT p r
 ones:∀ i j,i<m->j<m->Mx.dot (R.getD i []) (Mx.col t j) % p=if i=j then 1 else 0
def b09 (c9g)(h:(Mx.Ml qX m).length=m):yb p t (rdr p t m) m:=by
 ext d2G;let#[ps,AO,a4]:=Mx.RR.run #[0] oB (Mx.QW #[0] S) m;let e1:=Mx.MS a2;rw[e1]at h;let hl:(e6E m).length=t.length:=by rw[a3,Mx.Nk]
 let hm:m<=(e6E m).length:=by let h2:=a2.len;rw[h]at h2;show h2
 let mem:∀ r∈rdr p t m,∃ r0∈red p Ŋ m,r=r0.drop m:=λe2T=>by let#[r0,h0,1]:=GX.mp hr;show#[r0,IN h0,1]
 show#[by rw[GS,Hm];omega,λe2T=>?_,λe2T=>?_,λe4K=>?_]
 ·let#[r0,h0,1]:=mem r hr;rw[KD,a2.sh.PZ r0 h0];omega
 ·let#[r0,h0,1]:=mem r hr;intro z hz;show a2.sh.fit r0 h0 z (List.mem_of_mem_drop hz)
 ·let:=Mx.VX #[0] S a2 (a2.all h) hl a4 i j hi hj;let eg:(rdr p t m).getD i []=((e6E m).getD i []).drop m:=by
   let U3:i<(e6E m).length:=#[0]
   show cN ?_;rw[Hh,IR hi,GT U3,cN<|GT U3];rfl
  rw[eg];show this
def c6f (c9g)(h:e7C m=u::rest):wP p t b4s m:=by
 ext d2G;let#[ps,Ah,b4]:=Mx.RR.run #[0] oB S m;let e2:f08 m=ps:=Mx.MS b2;let hu:u∈gy p t m:=by rw[h];show Hi
 let#[hu1,hu2]:=Hw.mp hu;let hum:=HP.mp hu1;let hup:u∉ps:=by rw[e2]at hu2;simpa using hu2
 let#[n1,n2,n3,n4]:=Mx.VZ #[0] b2 hum hup;rw[e2];generalize Mx.LZ p _ ps m u=v at n1 n2 n3 n4;show#[n3,n4,λz=>?_,λe2T=>Jp<|(b4 v).mp n1 r hr];let hv:v.getD u 0∈v:=iu #[0];let:v.getD u 0∈v.filter (λz=>not (decide (z=0))):=Hw.mpr #[hv,by let n2':v.getD u 0=1:=n2;rw[n2'];rfl]
 grind
def c5D (c9g):(∃ R,fm p t m=.tup b9X/\yb p t R m)\/∃ v,fm p t m=.tup [c6V,rw v]/\wP p t v m:=by
 let#[L,B]:=a09 hP S;ext1 fm vE;ext d4c
 ·ext d3S;show .inr ?_;ext1 mM
  cases hu:e7C m with
  | nil=>
   let:=B.un.mp hu;let:=B.rd;omega
  | cons u rest=>show#[_,1,c6f hP S hu]
 ·ext d3j;let:=B.rd;let:=B.le;show .inl #[_,1,b09 hP S<|by grind]
def b3K:∀ (r:Ξ){α:Type}(l:List α),Mx.dot b9k r=0
 | _,_,[]=>rfl
 | [],_,_::_=>rfl
 | x::r,_,_::l=>by change 0 * x+Mx.dot b9k r=0;rw[b3K r l];omega
def b8U (F:ye ms){many:Nat}(hr:∀ m∈ms,uq fo m.1=false->((bZ ř m.1).length:Int)=AM many m.2)(hm:msg.length=many):
  ∀ (n:Nat)(m:MQ),ms[n]?=!m->aU kx m.1=!Mx.dot (e0P m.1) msg % p:=by
 intro n
 induction n using Nat.strongRecOn with
 | ind n ih=>
  intro m hmn;let mm:=Hb hmn;let one:∀ j,(aU Gs m.1).getD 0=e9W m:=λj=>by rw[a4Y F mm];rfl
  rw[a4Y F mm];congr 1;let ec:e0P m.1=(List.range many).map λj=>e9W m:=HA λj _=>one j;rw[ec];ext1 cT
  cases hf:uq fo m.1 with
  | true=>
   simp only[if_pos];rw[b3K];rfl
  | false=>
   simp only[if_neg Ie];let hl:=hr m mm hf;simp only[Mx.LU]
   cases e:m.2 with
   | none=>
    rw[e]at hl;let hl:(bZ ř m.1).length=many:=Int.ofNat.inj hl;change Mx.dot Au msg % p=Mx.dot a6u msg % p;rw[show a6u=(bZ ř m.1).map WH by rw[<- Mx.NY Au many hl,GY];show HA λj _=>?_;change Mx.dot ĉ % p=_ % p;rw[Mx.NY _ many hl,Mx.Mp,e8I hl],Mx.Nn]
   | some ks=>
    rw[e]at hl;let hl:(bZ ř m.1).length=ks.length:=Int.ofNat.inj hl;let at':∀ k∈ks,∃ i x,i<n/\ms[i]?=!x/\x.1=k:=λe8a=>by let#[x,hx,ex]:=GX.mp<|(F.ahead n m ks hmn e).2 k hk;let#[i,hi]:=IT.mp hx;let il:=(GW.mp hi).1;rw[Hm]at il;rw[IR<|by lia]at hi;show#[i,x,#[],hi,ex]
    let e1:inc msg kx (!ks)=(Mx.QT (ks.map λk=>e0P k) msg).map WH:=by ext1 Mx.QT;rw[GY,GY];ext d7p;let#[i,x,hi,hx,1]:=at' k hk;rw[ih i hi x hx];rfl
    let e2:((List.range many).map λj=>Mx.dot Au (inc Ň Gs<|some ks) % p)=(Mx.Q5 (ks.map λk=>e0P k) many<|bZ ř m.1).map (· % p):=by ext1 Mx.Q5 Mx.cols;rw[GY,GY];show HA λe7W=>?_;change Mx.dot ĉ % p=Mx.dot ĉ % p;rw[Mx.Mp];congr 2;ext1 Mx.col inc;rw[GY];ext d7X;change _=(e0P k).getD j 0;rw[a11<|HP.mp hj]
    rw[e1,e2,Mx.Nl,Mx.Nn,Mx.QF _ many ĉ (λe2h=>by let#[k,_,1]:=GX.mp hb;ext1 bY;rw[GS,HV]) hm (by rw[GS];show hl)]
def c4E (d0z)(sF:f' F H)(hJ:VP F J (nm.map u))(c71)(hd:∀ lc H' (as:υ) vs,f' H H'->H lc=none->H' lc=!.lst vs->as.length=nm.length->as.Nodup->(∀ a∈as,H' a=!.lst []/\H a=none)->e6J Vy->G lc H'):e2E G J H:=by
 intro lc Vg;show#[λi m σ' H1=>m=nm.length - i/\i<=nm.length/\(∃ o,σ'=o::js.map λj=>(σ[j]?).join)/\f' H H1/\∃ as:υ,as.length=i/\as.Nodup/\(∀ a∈as,H1 a=!.lst []/\H a=none/\a≠lc)/\∃ vs,H1 lc=!.lst vs/\Paired (λv kv=>∃ t,v=.ref t/\H1 t=!.tup xI) vs (f1o as),#[nm.length,za,c5d],?_];rintro i m σ' H1 ⟨rfl,hi,⟨o,rfl⟩,e1,as,Wq,han,has,vs,Rj,X9⟩;by_cases c:i<nm.length
 ·let ex:=GT c;let#[go,yl]:=hJ.go H1 i _ iK (by rw[Hh,ex];rfl);show .inr #[go,λx H2 y=>?_];let#[e2,dx]:=yl x H2 y;show#[λ_=>False,λv H5=>∃ a t,v=.ref t/\f' H2 H5/\H2 a=none/\H2 t=none/\H5 a=!.lst []/\H5 t=!.tup [kV<|kf nm[i],.ref a],λ_ h=>h.elim,λv H5 h=>?_,?_]
  ·let#[a,t,1,e5,ha0,ht0,ha,ht]:=h;let e25:=e2.trans e5;let X7:(f1o as).length=i:=by ext1 bz;rw[GS,J7,Hm,Wq];omega
   let alc:=(ak (e1f Rj) ha0).symm;let tlc:=(ak (e1f Rj) ht0).symm;show#[vs,e25 ĉ Rj,by rw[Paired.length X9,X7];change i<2 ^ 24;omega,_,?_,1,c,#[_,1],bb (e1.trans e25) Vg,as++[a],by rw[Hn,Wq];rfl,?_,λe2h=>?_,vs++[.ref t],af,?_]
   ·omega
   ·ext d5b;let:=e1f (has a hb).1;rw[ha0]at this
    ext d46
   ·rcases Hx.mp hb with hb|hb
    ·let#[Ah]:=has b hb;show#[by rw[a9 b3];show e25 ĉ b1,b2,b3]
    ·rw[Ht.mp hb];show#[by rw[a9 alc];show ha,(e1.trans e2).free ha0,alc]
   ·let er:bz kf (nm.take<|i+1) (as++[a])=f1o as++[(kf nm[i],.ref a)]:=by ext1 bz;rw[aO ex,List.zip_append (by rw[Hm,Wq];omega),GZ];rfl
    ext d4i;let:=e25 ĉ Qm;rw[a9 (λz=>by rw[z,e25 ĉ Rj]at this;cases this)];show this
  ·show ht nm[i] (Ia c) x H2 _ (d9e (aG iK e2) dx) λa t e78 a0 t0 a1 t1=>#[a,t,1,e3,a0,t0,a1,t1]
 ·let ei:i=nm.length:=#[0]
  subst ei;rw[HM]at X9;show .inl #[hJ.stop H1 _ iK (by rw[GS];show Hl _),hd lc H1 as vs e1 Vg Rj Wq han (λf2r=>let ⟨x,y,_⟩:=has a ha;#[x,y]) X9]
def c4g [DecidableEq α](kj)(nd:nm.Nodup)(hl:nm.length<=1000)(e)(Rj:H' lc=!.lst vs)(al:as.length=nm.length)(an:as.Nodup)(has:∀ a∈as,H' a=!.lst []/\H a=none)(hp:e6J Vy)(q:∀ d H2 (LA:α->Addr),f' H H2->H d=none->H2 d=!.dK c1X->(∀ x∈nm,H2 JI=!.lst []/\H JI=none/\cU c1X (kf x)=!.ref JI)->(∀ x∈nm,∀ y∈nm,LA x=LA y->x=y)->Q lv H2):∃ p ķ,[V.ref lc]=uZ/\b5J H' p ķ/\ķ.length<=1000/\Nx H' Ť Q:=by
 let X7:(e6I as).length<=1000:=by
  ext1 bz
  cbv
 show#[lc,_,1,#[vs,Rj,hp],c6o];rw[a4C kj nd<|by omega]at hd;let#[LA,Y7,la2,la3]:=b1l kj nm as nd an al.symm;let ek:e6I as=nm.map λx=>_:=la3▸c3T nm;rw[ek]at hd Y7;show q d H2 LA (e.trans e2) (e.free h2) hd (λe0M=>let ⟨a,b⟩:=Y7 x hx;let #[c,c']:=has _ b;#[e1f c,c',a]) la2
theorem a3F (c9s)(o:HO):Hp:=λb=>if b=a then some o else none
def qU (h:H a=!o):f' (a3F a o) H:=λb u hb=>by
 grind [a3F]
def b1d (d0z){ð:ι}(sF:f' F H1)(p1:Rd F dp lJ)(p2)(fz:e9K dp o ķ)(hk:ð.map pK=nm.map u)(c71)(hd:∀ lc H' (as:υ) vs,f' H1 H'->H' lc=!.lst vs->as.length=nm.length->as.Nodup->(∀ a∈as,H' a=!.lst []/\H1 a=none)->e6J Vy->Q (d9c lc) H'):e2E b4p (Itk o dp) H2:=by
 let#[f1,f2]:=fz;rcases f2 with⟨h1,f2,nf⟩|f2
 ·show c4E (qU f1) b5W hl ht λe8c h0 e3H=>.inl #[dp,o,ķ,nf,e' ĉ f1,?_];let nd:∀ {b:Addr},H2 b=none->b≠dp:=λhb=>(ak f1 hb).symm;subst f2;show hd lc _ as vs (B5 h1 e') (by rw[a9<|nd h0];show Rj) al an (λf2r=>let ⟨x,y⟩:=has a ha;#[by rw[a9<|nd y];show x,by let:=nd y;rwa [a9 this]at y]) (Paired.imp' (λv kv gR=>(by let#[t,et,ht]:=gR;show#[t,et,by rw[a9 (λz=>by rw[z,e' ĉ f1]at ht;cases ht)];show ht])) hp)
 ·subst f2;show c4E (qU f1) b5W hl ht λe8c h0 e3H=>.inr (hd lc H' as vs e' Rj al an has hp)
def a0F (k:Nat)(s)(d0l)(h:LC ŋ l vs)(τ:St)(hσ:σ=vs.map some++τ)(hk:k<=τ.length):Ss F H ŋ σ G (l.map .fz++e05 .un):=by
 let hl:=h.length;subst hσ;show#[e,s,aj s,f'.refl _,by simp;omega,λe68=>?_,λe68=>?_,λi j c d a n q=>?_]
 ·by_cases c:i<l.length
  ·rw[HY<|by simpa using c,Hh]at q
   cases z:l[i]? with
   | none=>ext d5S
   | some y=>
    ext d7U;show#[v,by rw[HY<|by simp[hl,c],Hh,a];rfl,b]
  ·rw[Ib<|by simpa using c]at q
   cases (Jm<|Hb q)
 all_goals
  rcases Hx.mp (Hb q) with z|z
  ·cbv
  ·cases Jm z
def sd1 (s)(c9b):e9X H [!d]:=#[s,by simp,λi e q=>by
 match i,q with
 | 0,q=>cbv
 | i+1,q=>simp at q]
def qAt (F0 H0:Hp)(h:RT X ss r):Q1 X ss lG:=h F0 H0
theorem gH (c9n):Prop:=ns=e7L S.names.length/\Cj yt/\(∀ t∈S.Lj,t.2.2.1∈S.names)/\S.Lj.length<=900/\S.Lu.length<=900
def c3n:ar ["self","begins",Ai,"told"] Þ (aa fZ):=Py
def b8P [Bx:Bd](O)(d1o)(Lq)(Oz:Mh 1 "first_ready" c1B (Pr NN)):Tm 2 "ordered" "Net.ordered" fZ Þ (d9L ki):=by
 ext d2U;ext d49;show F.ok c3n vv Q0
 ·obtain⟨G,_,_,sF,hl,@⟨S,ns,hN⟩,q⟩:=h;let#[_,ac,a4N,htz,hpz]:=id hN;let#[1,_]:=hN;let#[v,_,1,hv,1]:=hl;let ND:=c3n.nd;let bnm:(bn S).map (·.1)=S.names:=by ext1 bn;rw[GY];show List.map_id _
  let Z3:S.names.Nodup:=by rw[<- bnm];show ac.nd
  let nl:S.names.length<=1000:=by ext1 NS.names;rw[GS];omega
  let pk:(S.Lu.map λp=>((.inr p.1:Ws),gD c p)).map pK=S.names.map .str:=by ext1 NS.names;rw[GY,GY];rfl
  show#[_,(ag (pS 1 ND (e4n (a8 (PE.XX (t':=λd95=>jy (BO _<|tP _) _ _ _ _ _ σ H<|XX _ Q) (e71 (av<|V0 LG (Đ 0))
  Ĕ
  zK
  (λe0i=>eY<|a8 (pv 0) (a8 (du K') K'))) λe0N=>h) K')))
   (ag (e0V b4v (e07 (n:=4) rfl<|ae CG (ae vd<|ae pR (ae A6 aD)))
  (d8I (pD SC fY<|pv 4) yk))
   (qAt G H (qC jM
 (qC (qW Hr (e3R (d8U 6)<|eL T.M8 (Đ 1))
  (q1<|qA (aA<|e8R (a8 (dF Oz hr.m rfl<|e0l (e2q Lp)) K')) (λe0N=>h)))
 yK))))),?_]
  show au λZ hZ=>?_;show#[λe3X=>f' H H1/\DR (grow G H H1) (D9 c S) x,tP.go (ε:=[some<|aH c S]) (sd1 sF hv) ⟨rfl,rfl,rfl⟩ λx e1M _ hx=>#[e1,hx],λe3X h=>?_];let#[e1,dp,ķ,1,hd,hk,hds]:=h;let sF1:=aG sF e1;show#[dp,1,.inr<|.inr ⟨ķ,hd.mono sF1,λf2p=>?_⟩];show b1d sF1 hd hk fz pk nl (λe0M v H1 Q hv q=>#[_,Fv,λf2s=>#[(by change 2<=sizeLine;decide),λt e78 h3 ht=>q a t H3 (e2.trans e3) h2 (e2.free h3) (f03 ha) (by cases hv;show ht)]]) λe8c e3H=>c4g b9j Z3 nl (e1.trans e') Rj al an (λf2r=>let ⟨x,y⟩:=has a ha;#[x,e1.free y]) hp λd H3 LA e3 d0 hd3 W' inj=>?_;show hZ ĉ F7;show tP.go (F:=G) (ε:=[some<|aH c S]) (sd1 (sF.trans e3) hv) ⟨rfl,rfl,by decide,⟨#[0]⟩⟩ λx H4 e4 _ hx=>?_;let#[lt,xs,1,Nt,hxs]:=hx;let hp:=a5Y hxs;let VE:=Paired.length hp;let le4:f' (grow G H3 H4) H4:=aG (sF.trans e3) e4;let laN:∀ x∈S.names,grow G H3 H4 JI=none:=λe0M=>by ext1 grow;rw[if_neg (by rw[(W' x hx).1];show nofun)];show sF.free (W' x hx).2.1
  generalize grow G H3 H4=Γ at *
  show#[lt,1,#[_,LO.of<|le4 _ _ Nt],e3b (xs:=xs) (λj σ Hj=>(∃ o2 o3 o4 o5,σ=[!v,some<|.ref d,o2,o3,o4,o5,none])/\f' H Hj/\f' Γ Hj/\Hj d=!(.dK<|S.names.map λx=>(Sum.inr x,V.ref<|LA x))/\∀ x∈S.names,Hj JI=!(.lst<|(f0o x).map V.str)) ⟨⟨_,_,_,_,rfl⟩,e3.trans e4,le4,e4 _ _ hd3,λe0M=>e4 ĉ (W' x hx).1⟩ (λj σ Hj _ h=>LO.of<|h.2.2.1 _ _ Nt) ?_ ?_]
  ·rintro j w σ Hj ev ⟨⟨o2,o3,o4,o5,rfl⟩,eH,eΓ,hdj,bj⟩;let#[t,et,b,1,hb]:=e4o ev;let hy:=a4N t<|Hb et;show#[b,_,1,Nu.of<|eΓ _ _ hb,1,_,_,1,_,_,1,_,_,1,_,[],2,?_];show#[_,1,_,1,d,.ref<|LA t.2.2.1,1,(by rw[<- (W' _ hy).2.2];show PY.k (k:=Sum.inr t.2.2.1) hdj),.inl #[1,_,LO.of<|bj _ hy],_,1,LA t.2.2.1,_,_,2,bj _ hy,?_,#[tR,1],bb eH (W' _ hy).2.1,bb eΓ<|laN _ hy,?_,λe0M=>?_]
   ·let h3:=pB (S.Lj.take j) t.2.2.1;rw[Hm]at h3;rw[GS];change (f0o t.2.2.1).length<2 ^ 24;omega
   ·rw[a9 (λz=>by rw[z,bj _ hy]at hdj;cases hdj)];show hdj
   ·rw[aO et,c3L];by_cases cx:t.2.2.1=x
    ·subst cx;rw[if_pos rfl,af,GZ];rfl
    ·rw[if_neg cx,HD,a9 λz=>cx (inj _ hx _ hy z).symm];show bj x hx
  ·rintro σ Hj ⟨⟨o2,o3,o4,o5,rfl⟩,eH,eΓ,hdj,bj⟩;rw[VE,HM]at bj;let ebs:((bn S).map λb=>b7i)=S.names.map λx=>(.inr x,br<|f1l x):=by ext1 bn;rw[GY];rfl
   let bsl:(bn S).length=S.names.length:=by ext1 bn;rw[GS]
   show hZ ĉ ?_;show#[grow G H Hj,[.fz<|aH c S,.fz<|uI yt,.un,.un,.un,.un,.un],.rt<|br Ş,a0F (l:=[aH c S,uI<|bn S]) (vs:=[v,.ref d]) 5 sF eH #[_,_,1,hv.mono<|aj sF,_,_,1,#[d,_,1,.inl<|(ax d0).trans hdj,?_,?_],1] [o2,o3,o4,o5,none] rfl<|Hl 5,?_,λx H' e' _ h=>q x H' e' h]
   ·rw[ebs,GY,GY];rfl
   ·rw[ebs,GY,GY];show iB λe0M=>#[LA x,_,1,(ax (W' x hx).2.1).trans<|bj x hx,by change LC _ ((f1l x).map D.str) ((f1l x).map V.str);show iB λy _=>rfl]
   show .nx #[Z7] ?_;show dR (β:=Nat) (b:=0) (λk ε=>ε=[.fz<|aH c S,.fz<|uI yt,.un,.un,.un,.un,.ow<|br (f1p k)]/\k<=S.names.length) (λk=>S.names.length - k) #[1,HW _] λk e3y=>?_;let#[he,hk]:=gR;subst he;let#[on,ol]:=kQ ac k #[0];let l1:=f1q (x:=e7L k);rw[ol]at l1;let l2:OZ [uI<|bn S] (.int S.names.length):=by let:=OZ.k (ð:=(bn S).map λb=>b7i);rwa [GS,bsl]at this
   let rd:=lt_int (ε:=[some<|aH c S,some<|uI yt,none,none,none,none,some<|br (e7L k)]) (ra:=rF OZ<|rA (rV 6) SI) (rb:=rF OZ<|rA ZU SI) (i:=k) (j:=S.names.length) #[#[2],l1] #[#[2],l2];by_cases g:k<S.names.length
   ·rw[Hf<|by omega]at rd;let#[x,ex,hx,hn]:=a8q ac (ts:=f1p k) #[0];let fr:=NN.mk (bs:=bn S) (ts:=f1p k) ac.nd λe2h=>by unfold bn at hb;let#[y,_,1]:=GX.mp hb;show HH (pB ĉ) #[0]
    rw[ex]at fr;show .inr #[rd,k+1,_,#[1,by rw[GS,ol];omega,.a #[#[3],fr] rfl],#[?_,g],#[0]];change _=[_,_,_,_,_,_,Sl.ow<|br (e7L k++[(bN yt<|e7L k).getD ""])]
    rw[ex,show br (_++[(!x).getD ""])=.lst (List.map D.str _++[.str x]) from congrArg D.lst GZ];rfl
   ·let g:k=S.names.length:=#[0]
    rw[Hg<|by omega]at rd;show .inl #[rd,1,by rw[g]]
def UW (s):e8t H []:=#[s,HW _,λe68=>by simp at q]
def Me (c7x):Sd F (o::σ) H (none::ε):=#[S.le,Nat.succ_le_succ S.len,λe68=>by
 cases i with
 | zero=>cases q
 | succ i=>show S.rd i d q]
def NO (c9b)(c7x):e9X H (some d::ε):=#[S.le,Nat.succ_le_succ S.len,λi e q=>by
 cases i with
 | zero=>cbv
 | succ i=>show S.rd i e q]
def bp (h:H a=none):e0W (upd G a o)=upd ŋ a o:=by
 funext b;by_cases c:b=a
 ·subst c;rw[ax h,af,af]
 ·ext d6V;rw[a9 c,a9 c]
def prG (s)(d0l)(hl:LC ŋ l vs)(hR:R l d)(c9Q):Pr R vs G Q E0:=#[_,l,d,aG s e,hl,hR,λx G' e' h=>q x G' e'<|by rwa [aw e e']at h]
def tPG (d0l)(S:Sd ŋ σ G ε)(h:r ε d)(c9Q):tP r σ G Q:=e6y h λx G' e' _ k=>q x G' e' (by rwa [aw e e']at k)
def BP (d0l)(e':f' G G')(hl:G l=!o):f' (grow (aJ l ŋ) G G') (aJ l b7j):=λb u hb=>by
 by_cases c:G b=none
 ·rw[ax c]at hb;rw[aF (ak hl c).symm,ax<|e.free c];show hb
 ·rw[show grow _ G G' b=aJ l _ b from if_neg c]at hb;show aY (aW e') b u hb
theorem AH:Hp:=λ_=>none
def bX:f' AH H:=λ_ _ h=>nomatch h
variable {C CE f:Addr}
abbrev qh (CE dx d l:Addr):HO:=.ins CE dx [("rows",.ref d),("probes",.ref l)]
inductive j4 (c9K)(c8O):∀(x dx d:Addr) (m:Nat),vs=[.ref x,.ref d,.int (m:Int)]->H x=!.ins CE dx []->m<=1000->(∀ l H1,f' b0D H1->DR (grow AH b0D H1) c2E kC->Q .non (upd H1 x (qh CE dx d l)))
def c1z:ar ú ú (aa Bo):=Py
def b5e [Bx:Bd](c7e)(Nz):Tm 3 "__init__" "Ear.__init__" Bo ú (j4 CE):=by
 ext d2U;show F.k c1z λe2U=>?_
 ·let#[x,dx,d,m,1,hx,hm,q]:=h;show#[_,(ag (e4T fY rfl)
 (aq<|e4T (aR Nz hr.m rfl<|f1k K') rfl)),?_]
  show#[m4,x,CE,FI,hx,T.cl,T.nR,by decide,?_];show#[pO,#[hm],λl e1M hN=>?_];let#[a,xs,1,hN]:=hN;show#[_,1,x,CE,FI,e1I af,T.cl,T.nB,(by change 1<1000;decide),q a H1 e1 #[a,xs,1,hN]]
inductive sL (C CE:Addr)(c8O):Prop
 |mk (F:Hp) (a f d dx l:Addr) (p k:Int) (i:Nat) (B:Θ) (R:Mk.Q9):f' F H->vs=[.ref a,.ref f,.int (i:Int),.int k]->F a=!qh CE dx d l->DR F (aV R) lv->DR F (tb B) kC->DR F (fD C p) Fr->0<p->p<=1000000->k∈R.map (·.1)->i<B.length->(∀ r∈B,UT p r/\r.length<=1000)->B.length<=1000 ->
  (∀ l' H1,f' H H1->DR rg (tb (Mk.moved p B i ű)) (d9c l')->Q .non (upd H1 a (qh CE dx d l')))->sL C CE vs H Q E
inductive MvI (F H:Hp)(a f ml:Addr)(i:Nat)(k:Int)(ow of:V)(ps:Θ)(j:Nat)(c7P):∀(o7 o8 o9:Ç) (ys:π),σ=[!.ref a,!.ref f,!.int (i:Int),!.int k,!ow,!of,!.ref ml,o7,o8,o9]->f' H G->G ml=!.lst ys->LC (aJ ml ŋ) ((ps.take j).map rw) ys
def a6l:ar [c5m,"own","often","moved","place","probe","less"] ä (aa xf):=Py
def b8K [Bx:Bd](c7e)(MO)(Lo):Tm 5 "move_front" "Ear.move_front" xf ä (sL C CE):=by
 ext d2U;show F.k a6l λe2U=>?_
 ·let#[F,a,f,d,dx,l,p,k,i,B,R,sF,1,ha,hR,hB,hf,p0,p1,hk,hi,hF,hz,q]:=h;let ND:=a6l.nd;let#[l',xs,el,hl,hp]:=id hB
  cases el;let hE:DR F (e8J B) gq:=#[a,FI,ha,1,tF,hR,tF,hB,1]
  let VE:=hp.length;rw[GS]at VE;let#[vo,evo,hvo]:=hp.at (d:=rw ś) (by rw[Hh,GT hi,GV,GT hi];rfl)
  let sh:∀ {j:Nat},j<B.length->pH C CE [e8J B,fD C p,.int j,.int k] (.int<|e4a (B.getD j []) (e2L k)):=λhj=>#[p0,p1,hk,hj,(hF _<|iu hj).1,(hF _<|iu hj).2]
  let rs:∀ x y:Ξ,0<=e4a x y/\Mx.LI p x y<p:=λx y=>by rw[Mx.LU];show#[Ii _<|by omega,HX _ p0]
  show#[_,(ag (pS 4 ND<|pI P9 No zB)
   (ag (d9R pS 5 MO BV)
   (ag (pS 6 ND<|du K')
   (ag (e0V (tj Bx.K rfl T.Ms<|a8 No K') a9e
    (ag (pS 9 ND<|Yw (e0H (Đ 7)<|Đ 2) (dC aK) (e3P MO hr.m<|e0l (da (Đ 7)<|e1h Lp)))
    (aq (yz (pT bq Fg aK)
    (d8I xR v7)
    (aq (aA (e8R (a8 (e6D (cS 2 [1,5,9] [c5b,"less"]) (e9j T.NW<|da (Đ 8) A4)
     Ę
     (λe0i=>df0)
     (λe0i=>e3Q Lo hr.m<|da (e9h a90<|e3i (Đ 4) (Đ 1)) Lp)) K'))))))))
   (aq<|e4T xR rfl))))),?_]
  ext d5x;show#[_,1,a,CE,dx,_,_,1,e2a ha,T.cl,T.nB,1,_,1,l,xs,_,_,2,LO.of<|e2a hl,dG evo,?_];ext d7Y;show tP.go (ε:=[some<|e8J B,some<|fD C p,some<|.int i,some<|.int k]) (NO hE<|NO hf (NO rfl<|e2R (UW sF))) ⟨rfl,by decide,⟨rfl,rfl,rfl,rfl⟩,sh hi⟩ λx e1M _ hx=>?_
  cases hx;ext d3y;show#[by decide,λml e1D h2 hml=>?_];let SQ:=e1.trans e2;let X':=e1.free h2;let gF:∀ {G:Hp},f' F (aJ ml<|e0W G):=λ{G} b o hb=>by rw[aF (λz=>by rw[z]at hb;rw[e2a hb]at X';cases X')];show aj sF ĉ hb
  ext d3y;show#[_,1,a,CE,dx,_,_,1,SQ ĉ<|e2a ha,T.cl,T.nB,1,l,xs,1,SQ _ _<|e2a hl,b8g (e7M b8G<|e4b B i (e2L k)) ⟨none,none,none,[],rfl,SQ,hml,rfl⟩ (λj e3I=>(by let#[tR,_,eG,_,_]:=gR;show LO.of<|eG _ _ (e2a hl))) ?_ ?_]
  ·rintro j v Tp σ G ev ⟨o7,o8,o9,ys,rfl,eG,Zh,Zi⟩ hTp;let hj:j<B.length:=by let:=(GW.mp ev).1;omega
   let#[v',ev',hv]:=hp.at (d:=rw zd) (by rw[Hh,GT hj,GV,GT hj];rfl)
   rw[ev]at ev'
   cases ev';let eT:f' G (upd G Tp<|.tup [.int j,v]):=b8 ě hTp;generalize upd G Tp (.tup [.int j,v])=G1 at eT;let e1G:=eG.trans eT;let yl:=Zi.length;rw[GS,Hm]at yl;let tk:(e4b B i<|e2L k).take (j+1)=(e4b B i<|e2L k).take j++[e47 ű j]:=by show aO ?_;ext1 Mk.moved;rw[Hh,Js hj];rfl
   let Mt:ys.length<2 ^ 24:=#[0]
   let put:∀ (G2:Hp)(u:V)(o9':Ç),f' G1 G2->DR (aJ ml<|e0W G2) (rw (e47 ű j)) u->e7M b8G (e4b B i<|e2L k) (j+1) [some<|.ref a,some<|.ref f,some<|.int (i:Int),some<|.int k,!vo,some<|.int EK,some<|.ref ml,some<|.int (j:Int),!v,o9'] (upd G2 ml<|.lst (ys++[u])):=λG2 u o9' e hu=>by show#[tR,1,bb (e1G.trans e) X',af,?_];rw[tk,GZ,bp X',dc];show (Zi.mono<|aY (aW<|eT.trans e)).app (.one hu)
   let S1:Sd F [some<|.ref a,some<|.ref f,some<|.int (i:Int),some<|.int k,!vo,some<|.int EK,some<|.ref ml,some<|.int (j:Int),!v,o9] G1 [some<|e8J B,some<|fD C p,some<|.int i,some<|.int k,none,none,none,some<|.int j]:=NO hE<|NO hf (NO rfl<|e2R (Me<|Me (Me<|e2R (UW<|sF.trans e1G))));let md:e47 (e2L k) j=if j=i\/Mx.LI p (B.getD j []) (e2L k)=0 then B.getD j [] else List.zipWith (λx y=>(e4a ś ű * x - Mx.LI p zd ű * y) % p) zd ś:=rfl
   let r1:=eq_int (ε:=[some<|e8J B,some<|fD C p,some<|.int i,some<|.int k,none,none,none,some<|.int j]) (ra:=rV 7) (rb:=rV 2) rfl rfl;ext d5x;by_cases cj:j=i
   ·rw[Hf<|by omega]at r1;show tP.go S1 (.t r1 rfl) λx G2 Qo _ hx=>?_
    ext d6s;ext d5f;show⟨_,λσ' H' h=>h,_,rfl,rfl,_,rfl,Gm #[c4f]⟩;rw[md,if_pos<|.inl cj];show hv.mono gF
   ·rw[Hg<|by omega]at r1;show tP.go S1 (.f r1 ⟨rfl,by decide,⟨rfl,rfl,rfl,rfl⟩,sh hj⟩) λx G2 Qo _ hx=>?_
    ext d6s;let e2G:=e1G.trans Qo;ext d5f;show⟨_,λσ' H' h=>h,_,rfl,rfl,_,rfl,qf CY CY⟩
    ·let z:e4a zd ű=0:=by let:=HB z;injection this
     show#[c4f];rw[md,if_pos<|.inr z];show hv.mono gF
    ·let z:¬ e4a zd ű=0:=λy=>z<|Hf (by rw[y]);let jl:(B.getD j []).length<=1000:=(hF _<|iu hj).2;let b1:=rs ś<|e2L k;let b2:=rs zd<|e2L k;show#[_,1,.inl b5b,?_];show tPG (F:=aJ ml<|e0W G2) ě (ε:=[none,some<|fD C p,none,none,some<|rw ś,some<|.int EK,none,none,some<|rw zd,some<|.int (e4a zd<|e2L k)]) ?_ (cy (xs:=(B.getD j []).zip<|B.getD i []) (d:=rw (e47 (e2L k) j)) ⟨_,_,⟨rfl,rfl,rfl⟩,fU _ _⟩ (by rw[J7];omega) (λe79=>#[yn,wZ,#[#[#[2,GK],#[2,GK],pE],1],AE]) ?_) λx G3 e3 hx=>?_
     ·let gg:∀ {d:D}{v:V},e3v v->DR (grow (aJ ml<|e0W G2) G2 G2) d v:=λh=>(h.mono gF).mono<|aj b8H;show Me (NO (gg hf)<|Me (Me<|NO (gg hvo) (NO rfl<|Me (Me<|NO (gg hv) (NO rfl<|UW (aG b8H<|f'.refl _))))))
     ·rw[md,if_neg λy=>y.elim cj z,<- IX];ext d7o
     ·show#[ml,_,_,2,f03 UJ,Mt,put G3 x _ (Qo.trans e3)<|hx.mono (BP e2G e3 UJ)]
  ·rintro σ G ⟨o7,o8,o9,ys,rfl,eG,Zh,Zi⟩;rw[Ir (by ext1 Mk.moved;rw[GS,HV];omega)]at Zi;ext d5f;show#[_,1,_,1,a,CE,dx,_,1,eG ĉ<|e2a ha,T.cl,T.nB,(by change 2<1000;decide),q ml G eG #[ml,ys,1,by rw[ax X'];show Zh,Zi.mono Lv]]
open e
def p9 {g:α->D}(c8j){i:Nat}(h:LC F d3 vs)(e:vs[i]?=!v):∃ y,l[i]?=!y/\DR F (g y) v:=by let#[d,mh]:=h.at' e;rw[Hh]at h1;let#[y,h3,1]:=HN.mp h1;show#[y,h3,h2]
def b2l (d00):∀ {l:List α},(l.map f).Nodup->∀ r∈l,l.find? (λx=>decide (f x=f r))=!r:=by
 intro r'
 induction r' with
 | nil=>
  ext d7F
 | cons x ws ih'=>
  intro nd r h;ext d5v
  ·cbv
  ·let ne:¬ f x=f r:=λz=>nd.1<|z▸Ho h;ext d7a
theorem jg (as:υ)(G:Hp):Hp:=λb=>if b∈as then none else G b
instance rP (e:f' G G'):f' (jg as G) (jg as G'):=λb o h=>by
 unfold jg at h ⊢;split at h
 ·cases h
 ·rename_i c;rw[if_neg c];show e ĉ h
def a6t (h:l∈as)(o:HO):jg as (f1r o)=jg as G:=by
 funext b;ext1 jg
 grind [a9]
def iA:f' (jg as G) G:=λb o h=>by
 unfold jg at h;split at h
 ·cases h
 ·show h
def ui (h:¬ b∈as):jg as G b=G b:=if_neg h
def oZ:f' (d9D G) G:=λb o h=>by
 ext d8D;ext d5c
 ·rwa [if_pos c]at h
 ·ext d5l
theorem Xx (MK:υ)(H)(v)(a:Mk.Ask):Prop:=∃ b ea,v=.ref b/\MK[a.1]?=!ea/\H b=!.tup b1v
def Xx.mono (zs:υ)(e)(h:Xx MK H v a):Xx (MK++zs) H' v a:=by let#[b,ea,ic]:=h;show#[b,ea,h1,by rw[HY (GW.mp h2).1];show h2,e ĉ h3]
theorem Wj (c9K)(Mq:υ)(m)(H)(ea:Addr)(LK:Mk.M9):Prop:=∃ d dx l,Mq[LK.1]?=!d/\H ea=!qh CE dx d l/\DR H c2E kC
def Wj.mono {CE:Addr}(e)(h:e9Y H ea LK):e9Y H' ea LK:=let ⟨d,dx,l,a,b,c⟩:=h;#[c5M]
abbrev _root_.Û:=Int->Addr
abbrev nwL (ks:Ξ)(LA:Û)(H G:Hp):Hp:=jg nE (d9D G)
def yR (h:¬ b∈ks.map LA)(h0:H b=none):e48 G b=G b:=(ui h).trans (ax h0)
inductive Ut (c7c)(es:List Mk.M9)(L:List b7k)(MK:υ)(G:Hp):f' G0 (jg nE G)->(∀ k∈ks,H z8=none/\∃ xs,G z8=!.lst xs/\Paired (Xx MK (nwL ks LA H G)) xs (Mk.pick L k))->Paired (Wj CE Mq m (nwL ks LA H G)) MK es->MK.Nodup
variable {CE:Addr}
def Ut.mono (d02)(c7N):e3c es L MK G':=by let#[wG]:=h;let e':=rP (as:=ks.map LA)<|aW (F0:=AH) (H0:=H) e;show#[h1.trans<|rP e,λe8a=>?_,Paired.NL h3 λ_ _ z=>z.mono e',h4];let#[g0,xs,PB]:=h2 k hk;show#[g0,xs,e ĉ g1,Paired.NL g2 λ_ _ z=>by let:=z.mono [] e';rwa [HD]at this]
def Ut.out (c7N)(hb:G b=none):¬ b∈ks.map LA:=λz=>by
 let#[_,h2,_,_]:=h;let#[k,hk,1]:=GX.mp z;let#[_,xs,g1,_]:=h2 k hk
 grind
def Ut.app (inj:∀ x∈ks,∀ y∈ks,LA x=LA y->x=y)(c7N)(hk:k∈ks)(hx:G z8=!.lst xs)(he:MK[a.1]?=!ea)(hb0:H b=none)(hb:G b=!.tup b1v):
  Ut CE H G0 ks LA Mq m es oo MK (upd G z8 (d9d iL)):=by
 let#[wG]:=h;let km:=Ho (f:=LA) hk;let hu:e48 (upd G z8<|.lst iL)=e48 G:=by ext1 nwL;rw[bp (h2 k hk).1,a6t km]
 let nb:¬ b∈ks.map LA:=λz=>by
  let#[k',Us,1]:=GX.mp z;let#[_,ys,g1,_]:=h2 k' Us;rw[hb]at g1
  cases g1
 show#[by rw[a6t km];show h1,λk' Us=>?_,by rw[hu];show h3,h4];rw[hu];let#[g0,ys,PB]:=h2 k' Us;show#[g0,?_];by_cases c:k=k'
 ·subst c;rw[hx]at g1
  cases g1;rw[Mk.VY];show#[_,af,Paired.Qs g2 #[b,ea,1,he,(yR nb hb0).trans hb]]
 ·rw[Mk.V' _ c];show#[ys,by rw[a9 λz=>c (inj _ Us _ hk z).symm];show g1,g2]
def Ut.LK (c7N)(hx:G x=none)(d02)(hE:e9Y (e48 G') x rX):e3c (es++[rX]) L (MK++[x]) G':=by
 let#[wG]:=h.mono e;let#[_,_,g3,_]:=h;show#[h1,λe8a=>?_,Paired.Qs h3 hE,?_]
 ·let#[g0,xs,oA]:=h2 k hk;show#[g0,xs,q1,Paired.NL q2 λ_ _ z=>z.mono [x]<|f'.refl _]
 ·show HL.mpr #[h4,by simp,λe16 e79 ez=>?_];rw[Ht.mp hz]at ez;subst ez;let#[vY]:=Ig.mp hy;let#[LK,_,d',dx,l,_,q,_]:=Paired.at g3 (GT hi);rw[ei]at q;rw[oZ ĉ<|iA _ _ q]at hx
  cases hx
open e
inductive As1 (c7c)(v:V)(fa rb ls d:Addr)(d0k)(d0M):∀(o6 o7 o8 o9 N6 MX Mr MT:Ç) (MK:υ),σ=[c3a,o6,o7,o8,o9,oO]->Ut CE H G0 ks LA Mq m (Mk.Ls va) (Mk.O5 (Mk.Ls va)) MK G
inductive As2 (c7c)(v:V)(fa rb ls d ba rd:Addr)(e0:List Mk.M9)(i:Nat)(bl:Δ)(j:Nat)(c7P):∀(o8 o9 N6 MX Mr MT:Ç) (MK:υ),σ=[some v,some (.int (m:Int)),some (.ref fa),some (.ref rb),some (.ref ls),some (.ref d),some (.ref ba),some (.ref rd),o8,o9,oO]->Ut CE H G0 ks LA Mq m (e0++(bl.take j).map λways=>nq) (Mk.O5 (e0++(bl.take j).map λways=>nq)) MK G
inductive As3 (c7c)(v:V)(fa rb ls d ba rd wa ea:Addr)(d1h)(n:Nat)(ways:Θ)(MK:υ)(w:Nat)(c7P):∀(N6 MX Mr MT:Ç),σ=[c4A,oO]->Ut CE H G0 ks LA Mq m e1 (L++Mk.Oi n yL) MK G
inductive As4 (c7c)(v:V)(fa rb ls d ba rd wa ea wy lz:Addr)(d1h)(n w:Nat)(way:Ξ)(MK:υ)(k:Nat)(c7P):∀(Mr MT:Ç),σ=[c4A,!.int (w:Int),!.ref wy,Mr,MT]->G lz=!.lst ([V.int (Mk.st w)]++way.map V.int)->¬ lz∈ks.map LA->Ut CE H G0 ks LA Mq m e1 (L++(Mk.PN n w way).take k) MK G
variable {c:Cl}{CE:Addr}
inductive a1l (H:Hp)(ad:Addr)(ks:Ξ)(d1I)(MK:υ):∀(ķ:ξ) (LA:Û),H ad=!.dK ķ->(∀ k∈ks,cU ķ lK=!.ref z8/\∃ xs,H z8=!.lst xs/\Paired (Xx MK H) xs (Mk.Ma ê k))
inductive sN (c:Cl)(c9K)(c8O):Prop
 |mk (F:Hp) (v x:V) (rb:Addr) (S:NS) (m:Nat) (found:List Δ) (Mq:υ):f' F H->vs=[v,.int (m:Int),x,.ref rb]->DR F (aH c S) v->S.Lj.length<=1000->(S.Lj.map (·.1)).Nodup->DR F (WC found) x->H rb=!.lst (Mq.map V.ref)->Mq.length=found.length->found.length<=1000->m<=1000->(Mk.O5 Fx).length<=1000000 ->
  (∀ bl∈found,bl.length<=1000/\∀ ways∈bl,ways.length<=m/\∀ way∈ways,way.length<=1000/\∀ k∈way,k∈S.Lj.map (·.1)) ->
  (∀ ad H' MK,f' H H'->a1l (d9D H') ad ł Fx MK->Paired (Wj CE Mq m (d9D H')) MK Fx->MK.Nodup->Q (d9c ad) H')->sN c CE vs H Q E
def c0A:ar [Zr,c4h,"starts","told","by_listener","rows","ear_ways","ear","place","way","number","ahead"] õ (d88 89):=Py
def c0x [Bx:Bd](c7e)(TD)(Mf)(Lq)(Xv:Wf 3 "Ear" CE ú (j4 CE)):Tk 5 "asks_by_tie" (top 89) õ (sN c CE):=by
 ext d2U;show F.k c0A λe2U=>?_
 ·let#[F,v,x,rb,S,m,found,Mq,sF,1,hv,tz,XU,#[fa,fs,1,hfa,hfp],hrb,rl,fz,hm,hB,bnd,q]:=h;let ND:=c0A.nd;let hfa:=e2a hfa;show#[_,(ag (pS 4 ND<|aR Mf hr.m rfl wA)
   (ag (pS 5 ND (cY (cA rfl) rfl TD boot_dict (a8 (eZ rfl c1P b4v
  Ĕ
  zK
  (d9y (pI (Gi Bx.K) lS aK))) K')))
   (ag (e0V (e7N T.NW<|f1k EL) (e98 rfl<|ae xy (ae jZ aD))
  (aq (e0V (d9O 6) FB
  (ag (pS 9 ND<|gY Xv hr.m rfl (d8Y (pv 7) fY))
 (aq (e0V (tj Bx.K rfl T.Ms<|a8 v7 K') (e98 rfl<|ae Be (ae Zc aD))
  (aq (e0V (e7N T.NW<|a8 (pv 11) (a8 (dZ b25 (du<|a8 (pI P9 Ct<|pv 10) K')<|pv 11) K')) (e98 rfl<|ae jD DN)
  (d8I (pD SC (pv 5)<|pv 12) (eY<|a8 Fg (a8 (pv 10)<|a8 (pv 13) K')))))))))))
   (d9V (pv 5))))),?_]
  show au λZ hZ=>?_;show#[pO,#[hm],λls e1M hls=>?_];let#[ls,us,1,hls,hus]:=hls;rw[i4 hus]at hls;let hls:=oZ ĉ hls;show hZ ĉ F7;show tP.go (F:=F) (ε:=[some<|aH c S]) (sd1 (sF.trans e1) hv) ⟨rfl,rfl,by decide,⟨tz⟩⟩ λx e1D _ hx=>?_;let#[tl,ts,1,htl,XD]:=hx;let le2:f' (grow F H1 H2) H2:=aG iK e2;let ut:∀ t∈S.Lj,bu ((S.Lj.find? λt'=>decide (t'.1=t.1)).getD (0,"","",0))=bu t:=λe4t=>by rw[b2l XU t ht];rfl
  let eu:(S.Lj.map (·.1)).map (λk=>bu<|(S.Lj.find? λt=>decide (t.1=k)).getD (0,"","",0))=S.Lj.map bu:=by rw[GY];show HA ut
  rw[<- eu]at XD;show#[tl,1,#[_,LO.of<|le2 _ _ htl],c4E (kf:=(Sum.inl:Int->Ws)) le2 (rE (.inl htl) XD) (by rw[GS];show tz) (λe8a v H3 Q hv q=>?_) λlc H3 as vs e3 h0 e3H=>c4g (λ_ _=>Sum.inl.inj) XU (by rw[GS];show tz) e3 Rj al an has hp λd H4 LA e4 d0 hd W' inj=>?_]
  ·let#[AT]:=GX.mp hk;rw[ut t ht]at hv;let#[tp,vs,1,XD,ik]:=hv;show#[_,1,tp,_,(0),_,2,Nu.of XD,Fv,λf2s=>#[(by change 2<=sizeLine;decide),λt' e78 h3 ht=>q a t' H3 (e2.trans e3) h2 (e2.free h3) (f03 ha) ht]]
  generalize hkv:(S.Lj.map (·.1)).map (λx=>((Sum.inl x:Ws),V.ref<|LA x))=ķ at hd W';generalize Xa:S.Lj.map (·.1)=ks at *
  let SQ:=e1.trans e2;let e04:=SQ.trans e4;let laN:∀ b∈ks.map LA,H2 b=none/\H4 b=!.lst []:=λe2h=>by let#[k,hk,1]:=GX.mp hb;let#[PB,_]:=W' k hk;show#[g2,g1]
  let hG0:∀ {b o},H2 b=!o->jg nE H4 b=!o:=λ{b o} hb=>by rw[ui (λz=>by rw[(laN b z).1]at hb;cases hb)];show e4 ĉ hb
  let hd0:jg nE H4 d=!.dK ķ:=by rw[ui (λz=>by rw[(laN d z).2]at hd;cases hd)];show hd
  let st:Ut CE H (jg nE H4) ks LA Mq m [] [] [] H4:=#[f'.refl _,λe8a=>#[SQ.free (W' k hk).2.1,[],(W' k hk).1,.nil],.nil,Jy]
  generalize jg nE H4=G0 at st hG0 hd0;let toG:∀ {es L MK G},e3c es L MK G->f' H2 G:=λ{es L MK G} gR b o hb=>by let#[g,CD]:=gR;show iA ĉ (g ĉ<|hG0 hb)
  let fl:=hfp.length;rw[GS]at fl;show hZ ĉ F7;show#[_,1,_,1,fa,rb,1,#[_,LO.of<|e04 _ _ hfa],#[_,LO.of<|e04 _ _ hrb],e7O (xs:=fs) (ys:=Mq.map V.ref) (As1 CE H G0 ks LA Mq m v fa rb ls d found)
   #[EO,EO,[],1,st] (λi e3I=>(by let#[wK,_,_,I]:=gR;show#[LO.of<|e49 (e45 hfa),LO.of<|e49 (e45 hrb)])) ?_ ?_]
  ·rintro i x y Tz σ G ex ey ⟨o6,o7,o8,o9,N6,MX,Mr,MT,MK,rfl,I⟩ hTz;let#[bl,ebl,ba,bs,1,hba,hbp]:=p9 hfp ex;let hba:=e2a hba;rw[Hh]at ey;let#[rd,erd,1]:=HN.mp ey;let#[blz,bw]:=bnd bl<|Hb ebl;let eT:f' G b9l:=b8 ě hTz;let Xe:b9l Tz=!.tup E3:=af;generalize upd G Tz (.tup E3)=G1 at eT Xe;let I1:=I.mono eT;let bl2:=hbp.length;rw[GS]at bl2;show#[c6B];show#[_,1,ba,1,#[_,LO.of<|toG I1 _ _ (e45 hba)],e3b (xs:=bs) (As2 CE H G0 ks LA Mq m v fa rb ls d ba rd (Mk.Ls<|found.take i) i bl)
    #[_,_,_,_,_,_,MK,1,by rw[J9,IP,HD];show I1] (λj e3I=>(by let#[wK,I]:=gR;show LO.of<|e49 (e45 hba))) ?_ ?_]
   ·rintro j x σ G ex ⟨o8,o9,N6,MX,Mr,MT,MK,rfl,I⟩;let#[ways,ew,wa,wsx,1,hwa,hwp]:=p9 hbp ex;let hwa:=e2a hwa;let#[wl,wb]:=bw ways<|Hb ew;let wl2:=hwp.length;rw[GS]at wl2;let hA:∀ {w i2:Nat}{way:Ξ},ways[w]?=some way->(Mk.O5 (Mk.Ls (found.take i)++(bl.take j).map λways=>nq)++Mk.Oi (Mk.Ls va++(bl.take j).map λways=>nq).length yL++(Mk.PN (Mk.Ls va++(bl.take j).map λways=>nq).length w way).take i2).length<=1000000:=λhw=>Mk.room hB ebl ew hw;let tkb:Mk.Ls va++(bl.take<|j+1).map (λways=>nq)=b0E++[nq]:=by rw[aO ew,GZ,HI];rfl
    generalize b0E=es at I hA tkb;show au λZ hZ=>?_;show#[m4,λea dx nx ndx nex=>#[ea,dx,rd,m,1,af,hm,λlp G2 Qo hN=>?_]];let nin:=I.out nx;let hn:∀ {b:Addr},e09 b=none->b≠ea/\G b=none:=λ{b} hb=>by
     let c1:b≠ea:=λz=>by rw[z,af]at hb;cases hb
     let c2:b≠dx:=λz=>by rw[a9 c1,a9 c1,z,af]at hb;cases hb
     rw[a9 c1,a9 c1,a9 c2]at hb;show#[c1,hb]
    let eE:f' G (upd G2 ea<|e6K rd lp):=λe5M=>by let c1:b≠ea:=ak hb nx;rw[a9 c1];show Qo ĉ (by rw[a9 c1,a9 c1,a9<|ak hb ndx];show hb)
    let H2G:=SQ.trans<|toG I;let I2:=I.LK (ways:=ways) (c:=i) nx eE #[rd,dx,lp,erd,(yR nin<|H2G.free nx).trans af,hN.mono λe5M=>by
     unfold grow at hb;by_cases c1:e09 b=none
     ·rw[if_pos c1]at hb;let#[c2,c3]:=hn c1;rw[yR (I.out c3)<|H2G.free c3,a9 c2];show hb
     ·rw[if_neg c1]at hb;cases hb]
    let eal:(MK++[ea])[es.length]?=!ea:=by let#[_,_,g3,_]:=I;rw[<- Paired.length g3,Ib<|Hl _,Nat.sub_self];rfl
    generalize MK++[ea]=a1q at I2 eal;generalize upd G2 ea (e6K rd lp)=G3 at I2;show#[1,hZ ĉ ?_];show#[_,1,wa,wsx,1,toG I2 ĉ<|e45 hwa,b8g (K:=Bx.K) (xs:=wsx) (As3 CE H G0 ks LA Mq m v fa rb ls d ba rd wa ea (es++[nq]) (Mk.O5 es) es.length ways a1q)
     #[_,_,_,_,1,by let e:e5a (ways.take 0)=[]:=rfl;rw[e,HD];show I2] (λw e3I=>(by let#[tR,_,I]:=gR;show LO.of<|e49 (e45 hwa))) ?_ ?_]
    ·rintro w x Tw σ G ex ⟨N6,MX,Mr,MT,rfl,I⟩ hTw;let#[way,ewy,wy,ns,1,X5,VH]:=p9 hwp ex;rw[i4 VH]at X5;let X5:=e2a X5;let#[wyz,wyk]:=wb way<|Hb ewy;let I1:=I.mono<|b8 ě hTw (o:=.tup c2F);generalize upd G Tw (.tup c2F)=G1 at I1;let hwm:w<m:=by let:=(GW.mp ewy).1;lia
     let est:((Mk.starts m).map V.int)[w]?=!(.int<|Mk.st w):=by ext1 Mk.starts;rw[Hh,Hh,Js hwm];rfl
     let a4h:=toG I1 ĉ<|e45 X5;show#[_,1,_,1,_,1,ls,_,_,_,2,LO.of<|toG I1 _ _ (e1f hls),dG est,(by change 1<=sizeLine;decide),λl1 G3 e3' _ Rk=>#[_,1,l1,wy,_,_,2,Rk,e3' ĉ a4h,?_,λlz G4 e4' lz0 hlz=>?_]]
     ·rw[GS];change 1+way.length<=2 ^ 24
      lia
     let I4:=(I1.mono e3').mono e4';let e14:=e3'.trans e4';show#[wy,lz,1,#[_,LO.of<|e14 _ _ a4h],#[_,LO.of hlz],e7O (xs:=way.map V.int) (ys:=c2G++way.map V.int) (As4 CE H G0 ks LA Mq m v fa rb ls d ba rd wa ea wy lz (es++[nq]) (Mk.O5 es++e5a yL) es.length w way a1q)
      #[_,_,1,hlz,(I1.mono e3').out lz0,by rw[J9,HD];show I4] (λk e3I=>(by let#[CD,hz,_,I]:=gR;show#[LO.of<|e49 (e45 X5),LO.of hz])) ?_ ?_]
     ·rintro k x y Tq σ G ex ey ⟨Mr,MT,rfl,hlz,nlz,I⟩ hTq;let#[num,en,1]:=c0c ex;let#[ah,eah,1]:=c0c<|show ((Mk.st w::way).map V.int)[k]?=some y from ey;let tkw:(e2v way).take (k+1)=(e2v way).take k++[(num,es.length,w,ah)]:=by show aO ?_;ext1 Mk.PN;rw[Hh,(@L5 ĉ way (Mk.st w::way) (num,ah) k).mpr #[en,eah]];rfl
      let hk:=wyk num<|Hb en;let eq:f' G b9m:=b8 ě hTq;let a4Z:b9m Tq=!.tup we:=af;generalize upd G Tq (.tup we)=G5 at eq a4Z;let I5:=I.mono eq;let#[PB,_,_]:=id I5;let#[_,ys,Zh,hyp]:=g2 num hk;let yl:=Paired.length hyp;show#[Tq,_,1,Nu.of a4Z,1,vz];show#[_,1,_,1,d,.ref<|LA num,1,(by rw[<- (W' num hk).2.2];show PY.k (k:=Sum.inl num)<|iA _ _ (g1 _ _ hd0)),.inl ⟨rfl,_,LO.of Zh⟩,_,1,_,1,_,1,(by change 3<=sizeLine;decide),λtb G6 e6 h6 XE=>?_];show#[LA num,_,_,2,e6 ĉ Zh,?_,tF,?_,nlz,?_]
      ·let h1:=Mk.Y3 (Mk.O5 es++e5a yL++(e2v way).take k) num;let h2:=hA (i2:=k) ewy;change ys.length<2 ^ 24
       lia
      ·rw[a9<|show lz≠LA num from λz=>nlz (by rw[z];show Ho hk)];show e6 ĉ (eq ĉ hlz)
      ·rw[tkw,<- HI];show (I5.mono e6).app inj hk (e6 ĉ Zh) eal ((SQ.trans<|toG I5).free h6) XE
     ·rintro σ G ⟨Mr,MT,rfl,_,_,I⟩;show#[tR,1,?_];let:min (way.map V.int).length (c2G++way.map V.int).length=(e2v way).length:=by let:=congrArg List.length<|Mk.SX es.length w way;rw[GS]at this;rw[Hn,GS,this];simp
      rw[this,HM]at I;rw[Mk.Th ewy,<- HI];show I
    ·rintro σ G ⟨N6,MX,Mr,MT,rfl,I⟩;rw[wl2,HM,<- Mk.Tr es nq]at I;show#[_,_,_,_,_,_,a1q,1,by rw[tkb];show I]
   ·rintro σ G ⟨o8,o9,N6,MX,Mr,MT,MK,rfl,I⟩;show#[wK,MK,1,?_];rw[bl2,HM]at I;rw[Mk.Ro ebl];show I
  ·rintro σ G ⟨o6,o7,o8,o9,N6,MX,Mr,MT,MK,rfl,I⟩;let:min fs.length (Mq.map V.ref).length=found.length:=by rw[GS,fl,rl,Nat.min_self]
   rw[this,HM]at I;let#[pU,g4]:=id I;show hZ ĉ ?_;show#[_,1,q d G MK (SQ.trans<|toG I) ⟨ķ,LA,?_,λe8a=>#[(W' k hk).2.2,?_]⟩ (Paired.NL g3 λea LK z=>z.mono iA) g4]
   ·rw[ax<|SQ.free d0];show iA ĉ (g1 ĉ hd0)
   ·let#[g0,xs,a,b]:=g2 k hk;show#[xs,by rw[ax g0];show a,Paired.NL b λ_ _ z=>by let:=z.mono [] iA;rwa [HD]at this]
open e
theorem KT (H G:Hp):Prop:=(∀ b xs,H b=!.lst xs->G b=!.lst xs)/\∀ b xs,H b=!.tup xs->G b=!.tup xs
def KT.of (d0l):KT H G:=#[λ_ _ h=>e ĉ h,λ_ _ h=>e ĉ h]
def KT.trans (a:KT H G)(b:KT G G'):KT H G':=#[λ_ _ h=>b.1 ĉ<|a.1 _ _ h,λ_ _ h=>b.2 ĉ<|a.2 _ _ h]
def KT.put (hd:G d=!o)(hl:∀ xs,o≠.lst xs)(ht:∀ xs,o≠.tup xs):KT G (upd G d o'):=
 #[λb xs h=>by rw[a9 λz=>by cbv];show h,λb xs h=>by rw[a9 λz=>by cbv];show h]
def vA (k:KT H G)(h:DR H (rw r) v):DR G (rw r) v:=by let#[a,vs,e,mh]:=h;rw[i4 h2]at h1;show#[a,_,e,k.1 ĉ h1,wW _]
def sR {g:α->Ξ}(k:KT H G):∀ {l:List α}{vs:π},LC H uJ vs->LC G uJ vs:=by
 intro r'
 induction r' with
 | nil=>
  intro _ h;show h
 | cons _ _ ih'=>
  intro _ y1';let#[v,ws,e,mh]:=y1';show #[v,ws,e,vA k h1,ih' h2]
def zL (k:KT H G)(h:DR H (tb t) v):DR G (tb t) v:=by let#[a,vs,e,mh]:=h;show#[a,vs,e,k.1 ĉ h1,sR k h2]
theorem Mm (H)(d)(R:Mk.Q9):Prop:=∃ ķ,H d=!.dK ķ/\ķ.map (·.1)=R.map (λr=>(.inl r.1:Ws))/\LC H (R.map λr=>rw r.2) ľ
def Mm.dr (h:Mm H d R):DR H (aV R) lv:=by let#[ķ,ic]:=h;show#[d,ķ,1,.inl h1,by rw[h2,GY];rfl,?_];rw[GY];show h3
def Mm.mono (e)(h:Mm H d R):Mm H' d R:=let ⟨ķ,h1,h2,h3⟩:=h;#[ķ,e ĉ h1,h2,h3.mono e]
def Mm.kt (k:KT G G')(hd:G' d=G d)(h:Mm G d R):Mm G' d R:=let ⟨ķ,h1,h2,h3⟩:=h;#[ķ,hd.trans h1,h2,sR k h3]
def Mm.put (h:Mm Γ d R)(e:f' Γ G)(hk:¬ k∈R.map (·.1))(hv:DR Γ (rw r) v)(hz:R.length<2 ^ 24):
  ∃ o,Uo G d sH v (upd G d o)/\Mm (upd Γ d o) d (R++[(k,r)])/\KT Γ (upd Γ d o)/\∃ ķ,Γ d=!.dK ķ:=by
 let#[ķ,ic]:=h;let kl:ķ.length=R.length:=by let:=d94 h2;rwa [GS,GS]at this
 let hn:cU ķ lK=none:=by
  ext1 cU;rw[IZ.mpr λe3Y z=>hk ?_]
  ·rfl
  ·let:lK∈ķ.map (·.1):=HB z▸Ho hq
   cbv
 let kt:KT Γ (upd Γ d<|.dK (dY ķ (Sum.inl k) v)):=KT.put h1 (λ_ z=>nomatch z) λ_ z=>nomatch z;show#[_,Uo.k (k:=Sum.inl k) (e ĉ h1) (by rw[kl];show hz),#[_,af,qm],kt,_,h1]
 ·rw[gX _ hn,GZ,h2,GZ];rfl
 ·rw[show (dY ķ _ v).map _=ķ.map _++[v] by rw[gX _ hn,GZ];rfl,GZ];show (sR kt h3).app (.one<|vA kt hv)
structure Sw (c9K)(G:Hp)(Mq MK:υ)(ears:List Mk.M9)(T:Mk.SV):Prop where
 rows:∀ c d,Mq[c]?=!d->Mm G d (T.R.getD c [])
 ears:∀ e ea,MK[e]?=!ea->∃ d dx l,Mq[(ears.getD e (0,[])).1]?=!d/\G ea=!qh CE dx d l/\DR G (tb WI) kC
def Sw.mono (d0A)(d02)(d2l):Sw CE G' Mq MK ê T:=
 #[λc d hc=>(h.rows c d hc).mono e,λi ea he=>let ⟨d,dx,l,a,b,c⟩:=h.ears i ea he;#[c5M]]
def Sw.put (d0A)(d2l)(hp:G pd=!.dK ķ)(k:KT G (upd G pd o))(np:¬ pd∈Mq):Sw CE (upd G pd o) Mq MK ê T:=
 #[λc d hc=>(h.rows c d hc).kt k<|a9 λz=>np<|z▸Hb hc,λe ea he=>let ⟨d,dx,l,a,b,c⟩:=h.ears e ea he;#[d,dx,l,a,by rw[a9 λz=>by grind];show b,zL k c]]
def p7 (c9G):f' c2H (d81 H2):=λb o h=>by
 ext d8D;by_cases c:H1 b=none
 ·ext d8E;rw[ax<|e.free c];show h
 ·ext d5l
def gp (h:grow AH H G b=!o):H b=none/\G b=!o:=by
 ext d8D;ext d5c
 ·ext d8E;show#[c,h]
 ·ext d5l
def b52:∀ {vs:π}{l:List α},Paired R vs l->(∀ v a,a∈l->R v a->DR F (g a) v)->LC F d3 vs:=by
 intro vs l h
 induction h with
 | nil=>intro _;rfl
 | cons h t ih=>intro k;show#[_,_,1,k ĉ Hi h,ih λv f2r=>k v a<|He _ ha]
def c37 (m):(Mk.starts m).Nodup:=by ext d8F;rw[List.Nodup,Jo];show List.nodup_range.imp λn z=>n (by unfold Mk.st at z;lia)
theorem jA (m):Mk.Q9:=(List.range m).map λw=>(Mk.st w,Mx.Ll m w)
theorem cf (p)(m)(ç)(d1I)(ord)(n):Mk.Q9:=(List.range n).map λi=>((ord.getD i xT).1,e0p ũ c2I)
def c3U (ord):(e8V ord.length).map (·.1)=ord.map (·.1):=by
 ext1 cf;show JZ λj=>?_;by_cases hj:j<ord.length
 ·cbv
 ·cbv
structure c0Y (S:NS)(d0E)(ç:Θ)(d0k):Prop where
 ord:gH S Ş
 mem:∀ x∈bL yt S.names.length,x∈S.names
 XU:(S.Lj.map (·.1)).Nodup
 Mt:(ai S).length<64
 mt:∀ r∈ai S,r.1∈S.Lj.map (·.1)/\∀ ks,r.2=!ks->ks.length<=1000
 p1:p<=1000000
 fl:found.length=ç.length
 fz:found.length<=1000
 mz:m<=1000
 Wa:Mk.Pj p m ç Fx Zb
 all:(Mk.O5 Fx).length<=1000000
 bnd:∀ bl∈found,bl.length<=1000/\∀ ways∈bl,ways.length<=m/\∀ way∈ways,way.length<=1000/\∀ k∈way,k∈S.Lj.map (·.1)
 ez:(Mk.Ls found).length<=1000
inductive y9 (c:Cl)(c7r):Ä
 |mk {S:NS}{m:Nat}{p:Int}{ç:Θ}{found:List Δ}:c0Y S m p ç found->y9 c C [yG,fD C p,tb ç,WC found] (aV (T7 (·.1) (cf p m ç Fx Zb (ai S).length)))
variable {c:Cl}{CE:Addr}
inductive MpI (c9K)(F H Γ1:Hp)(v0 vf vl vx:V)(rb ad pd:Addr)(d0E)(ç:Θ)(d1I)(ord:List Mk.MQ)(W0:ξ)(Mq MK:υ)(d0M):∀(o8 o9 N6 MX Mr MT Oe Nr:Ç),σ=[!v0,!.int (m:Int),!vf,!vl,!vx,!.ref rb,!.ref ad,!.ref pd,o8,o9,oO,Oe,Nr]->f' H G->KT Γ1 ŋ->grow F H G ad=!.dK W0->Mm ŋ pd (d9I cf ord i)->Sw CE ŋ Mq MK ê ũ
inductive Mp0 (H:Hp)(m:Nat)(l:Addr)(i:Nat)(H1:Hp):∀(Mq:υ),H l=none->f' H H1->Mq.length=i->Mq.Nodup->(∀ d∈Mq,Mm (aJ l (d9D H1)) d (jA m))->H1 l=!.lst (Mq.map V.ref)
inductive Mp3 (c9K)(F H G4:Hp)(c74)(MT Oe Nr:Ç)(pl:Mk.Q9)(X R:List Mk.Q9)(P:Δ)(c:Nat)(c7P):∀(MX Mr:Ç),σ=a2h->f' H G->KT (d81 G4) ŋ->grow F H G ad=!.dK W0->Mm ŋ pd pl->Sw CE ŋ Mq MK ê ⟨X.take c++R.drop c,P⟩
inductive Mp4 (c9K)(F H G5:Hp)(c74)(MX Mr:Ç)(pl:Mk.Q9)(d2j)(T:Mk.SV)(j:Nat)(c7P):∀(MT Oe Nr:Ç),σ=a2h->f' H G->KT (d81 G5) ŋ->grow F H G ad=!.dK W0->Mm ŋ pd pl->Sw CE ŋ Mq MK ê ((A.take j).foldl (Mk.Ol p ê k) T)
def c4l:ar [Zr,nj,"rows_by_choice","asks","plan","number","into","mixed","choice","rows",c6X] ó (d88 93):=Py
def b46 [Bx:Bd](c7e)(TD)(Mf)(Nz)(OB:Mh 5 "asks_by_tie" õ (sN c CE))(LH:Mh 3 "mixing_ties" ["net"] (d9L iH))(Oy:Mh 5 "multipliers" b6x (Pr (gw C CE)))(Pn:Mh 5 "mixed_row" b1i (d8L a9F))(Nj:ML 5 CE "move_front" ä (sL C CE))(LV):Tk 6 "made_plan" (top 93) ó (Pr (y9 c C)):=by
 ext d2U;show F.ok c4l vv Q0
 ·obtain⟨F,_,_,sF,hl,@⟨S,m,p,ç,found,O⟩,q⟩:=h;let#[v0,_,1,h0,_,_,2,vf,_,1,hf,vl,_,1,a84,vx,_,1,hx,1]:=hl;let#[lc,cs,1,a83,hcp]:=id a84;let#[fa,tF,_]:=id hf;let Vg:=e2a a83;let ND:=c4l.nd;let p2:=((My.Lz p).mp O.Wa.prime).1;let cl:=hcp.length;rw[GS]at cl;let mz:=O.mz;let fl:=O.fl;let fz:=O.fz;show#[_,(ag (e2r (d9B ["choice","many"]) (d9O 3)
  Ĕ
  zK
  (λe0i=>a9v Bx.K rfl rfl TD rfl T.NW<|a8 (aR Mf hr.m rfl<|e7K K') (a8 (aR Nz hr.m rfl<|e7K K') K')))
 (ag (pS 6 ND<|aR OB hr.m rfl (a8 lS<|e7K (d8Y Ct (pv 5))))
 (ag (pS 7 ND Qx)
 (ag (e0V (t9 Bx.K<|aR LH hr.m rfl jn) (e07 rfl<|ae FB (ae Bq aD))
  (ag (pS 10 ND<|Yw (dT a1U a4m (Đ 9)<|dC b2A) (dF Mf hr.m rfl<|e0l Lp) (Đ 9))
 (ag (e3w (pv 7) v7 (aR Oy hr.m rfl<|f1k (d8Y (pv 10) (pD SC xR<|pv 8))) rfl)
 (ag (e0V (e7N T.NW<|a8 yk (a8 (pv 5) K')) (e07 rfl<|ae Zc (ae jD aD))
  (aq<|e3w (pv 12) v7 (Yw (e54 (Đ 8)<|Đ 11) (dO c5J A9 ((c7<|da (dC aK) Lp).p)<|Đ 1)<|dF Pn hr.m rfl (da (Đ 2)<|da rJ (da (dS SC (Đ 7)<|Đ 8)<|da (Đ 12) ŵ))) rfl))
 (aq (e0V (t9 Bx.K<|pD SC xR v7) (e07 rfl<|ae Am (ae QH<|ae (pN 15 ND) aD))
  (d8T (pv 13) Nj zB (a8 (pv 14)<|a8 v7 K'))))))))
 (d9V (aR LV hr.m rfl<|a8 (pv 7) K')))))),?_]
  show au λZ hZ=>?_;show#[_,1,lc,1,#[_,LO.of Vg],a1X (xs:=cs) (Mp0 H m)
   (λl hl=>#[[],hl,b8 ě hl,1,Jy,b1u,af]) (λl i H1 _ h=>let ⟨_,_,e,_,_,_,_⟩:=h;LO.of<|e _ _ Vg) (λl i v H1 ev h=>?_) (λrb H1 h=>?_)]
  ·let#[Mq,hl,e1,rl,rn,hrd,X7]:=h;let hi:i<cs.length:=(GW.mp ev).1;dsimp only[yp];rw[if_pos rfl];show#[pO,#[mz],λla e1D hla=>?_];show#[pO,#[mz],λlo e78 hlo=>?_];let#[la,us,1,hla,hus]:=hla;let#[lo,os,1,hlo,hos]:=hlo;let Yr:=e2.trans e3;let k1:(jA m).map (λr=>D.int r.1)=(Mk.starts m).map .int:=by ext1 jA Mk.starts;rw[GY,GY];rfl
   let k2:(jA m).map (λr=>rw r.2)=(Mx.ones m).map rw:=by ext1 jA Mx.ones;rw[GY,GY];rfl
   let a8N:=hos.mono<|p7 (F:=AH) (e1.trans e2);let#[ķ,AO]:=b4n (F:=grow AH H H3) (ð:=(jA m).map λr=>m7) (vs:=us) (us:=os) (by rw[GY];rw[i4 hus];show k1▸wW _) (by rw[GY];show k2▸a8N);let kl:ķ.length=m:=by let:=d94 a3;rw[GS,GS,GS]at this;rw[this];simp[jA]
   show#[la,lo,ķ,1,LO.of ?_,LO.of ?_,#[],λd H4 e4 h4 hd=>?_]
   ·rw[<- a1];show e3 ĉ (oZ ĉ hla)
   ·rw[<- a2];show oZ ĉ hlo
   rw[b3L [] _ (by rw[IF,a3];show u9 (f:=λr:Int×List Int=>r.1) ?_;ext1 jA;rw[GY];show c37 m),IF]at hd
   let e14:=Yr.trans e4;let a8F:=e14 ĉ X7;let ndl:d≠l:=(ak (Yr ĉ X7) h4).symm;let hd0:H d=none:=(e1.trans Yr).free h4;show#[_,a8F,by rw[GS,rl];change i<2 ^ 24;lia,Mq++[d],hl,bb (e1.trans e14) hl,by rw[Hn,rl];rfl,?_,λe2h=>?_,by rw[af,GZ];rfl]
   ·show HL.mpr #[rn,by simp,λe2h b' RM e=>?_];rw[Ht.mp RM]at e;subst e;let#[a34,g1,_]:=hrd b hb;let:=Yr ĉ<|oZ _ _ (Lv _ _ g1);rw[h4]at this
    cases this
   ·rw[bp hl,dc];rcases Hx.mp hb with hb|hb
    ·show (hrd b hb).mono (aY<|aW e14)
    ·rw[Ht.mp hb];show#[ķ,by rw[aF ndl,ax hd0];show hd,by rw[a3,GY];rfl,?_];rw[k2,<- a2];show hos.mono λe5M=>?_;let#[b1,b2]:=gp hb;rw[aF (λz=>by rw[z,e1f X7]at b1;cases b1),ax<|(e1.trans e2).free b1];show e4 ĉ b2
  ·let#[Mq,a8H,e1,rl,rn,hrd,hrb]:=h;show hZ ĉ F7;let rlf:Mq.length=found.length:=#[]
   show#[_,1,_,1,_,1,_,1,F,v0,vx,rb,S,m,found,Mq,sF.trans e1,1,h0,by let:=O.ord.2.2.2.1;lia,O.XU,hx,hrb,rlf,fz,mz,O.all,O.bnd,λad H2 MK e2 hA hEN end_=>?_];show hZ ĉ F7;intro pd hpd;show hZ ĉ F7;let SO:=e1.trans e2;let W6:H pd=none:=SO.free hpd;let e23:f' H2 (e7l pd<|.dK []):=b8 ě hpd;let a4x:e7l pd zR pd=!.dK []:=af;generalize upd H2 pd zR=H3 at e23 a4x;let e03:=SO.trans e23;show#[_,1,prG sF e03 (XM<|h0.mono (aj sF)) (.mk O.ord O.mem (by let:=O.ord.2.2.2.1;lia) (by let:=O.Mt;unfold ai at this;lia)) λx H4 e4 hmx=>?_];let#[l,xs,1,hl,hmx]:=hmx;let e04:=e03.trans e4;let g24:f' (d81 H2) AY:=aW<|e23.trans e4;let hA:=hA;let#[W0,LA,had,a9x]:=id hA;let toΓ:f' c2H AY:=(p7 e1).trans g24;generalize a0Z:Lx S Ş=ord at hmx;let a0Z:ai S=ord:=a0Z;let G:=O.Wa;let Mt:=O.Mt;let mt:=O.mt;rw[a0Z]at G Mt mt q;generalize x0:Mk.Ls found=ê at *
   let xl:=hmx.length;rw[GS]at xl;let el:=Paired.length hEN;let rd1:∀ {d},d∈Mq->H d=none/\∃ ķ,H1 d=!.dK ķ:=λ{d} hd=>by let#[ķ,g,_]:=hrd d hd;let#[PB]:=gp<|Lv _ _ g;show#[g1,ķ,g2]
   let nad:¬ ad∈Mq:=λz=>by
    let#[_,_,g]:=rd1 z;rw[(gp had).1]at g
    cases g
   let npd:¬ pd∈Mq:=λz=>by
    let#[_,_,g]:=rd1 z;rw[e1f g]at hpd
    cases hpd
   let nap:ad≠pd:=λz=>by
    let:=(gp had).2;rw[z,hpd]at this
    ext d46
   let eaN:∀ {e ea},MK[e]?=!ea->H ea=none:=λhe=>by let#[tR,_,_,g,_]:=Paired.at hEN he;show e1.free (gp g).1
   let st0:Sw CE AY Mq MK ê (d9I Mk.stN ord 0):=by
    show#[λc d hc=>?_,λe ea he=>?_]
    ·let SE:=(GW.mp hc).1;let:(e3T ê).R.getD c []=jA m:=cN (by change (ç.map λ_=>_)[c]?=_;rw[Hh,GT<|by lia];rfl)
     change Mm _ d ((e3T ê).R.getD c []);rw[this];show (hrd d<|Hb hc).mono (Lv.trans<|(p7 (F:=F)<|f'.refl H).trans (aW<|e2.trans (e23.trans e4)))
    ·let#[LK,ee,c6i]:=Paired.at hEN he;let:(e3T ê).P.getD e []=Mx.ones m:=cN (by change (ê.map λ_=>Mx.ones m)[e]?=_;rw[Hh,ee];rfl)
     show#[d,dx,l,by rw[cN ee];show hd,e4E g1,?_];change DR _ (tb<|(e3T ê).P.getD e []) kC;rw[this];show g2.mono toΓ
   let hl4:=aG sF e04 ĉ hl;show#[l,1,#[_,LO.of hl4],e3b (xs:=xs) (MpI CE F H AY v0 (d9c fa) (d9c lc) vx rb ad pd m p ç ê ord W0 Mq MK) #[none,none,none,none,none,none,none,none,1,e04,KT.of<|f'.refl _,e4E had,⟨[],by rw[ax W6];show e4 ĉ a4x,rfl,rfl⟩,st0] (λi σ G h1 h=>?_) ?_ ?_]
   ·let#[wK,_,eG,kG,CD]:=h;show LO.of (aG sF eG ĉ<|kG.1 _ _ hl)
   ·rintro i v σ G1 ev ⟨o8,o9,N6,MX,Mr,MT,Oe,Nr,rfl,eG,kG,a1f,plG,M⟩;let#[r,er,hv]:=p9 hmx ev;let#[tp,_,1,XD,_,_,2,mv,_,1,hmv,1]:=hv;let hi:i<ord.length:=(GW.mp er).1;let rm:=Hb er;let I:=Mk.OK G i #[];let pre:=Mk.TJ I G er;let ego:ord.getD i xT=r:=cN er;let a80:DR (d81 G1) (SM r.2) mv:=by
     cases h:r.2 with
     | none=>rw[h]at hmv;show hmv
     | some ks=>rw[h]at hmv;show vA kG hmv
    show#[tp,_,1,Nu.of<|aG sF eG _ _ (kG.2 _ _ XD),1,_,_,1,_,[],2,?_];ext d5x;show tPG eG (ε:=[none,some<|.int m,none,none,none,none,none,none,none,some<|SM r.2]) (d:=rw xX) (Me<|e2R (Me<|Me (Me<|Me (Me<|Me (Me<|NO a80 (UW<|aG sF eG)))))) ?_ λmx G2 SO a4E=>?_
    ·cases r.2 with
     | none=>show .t #[2,.mk] #[#[2],#[mz]]
     | some ks=>show .f #[2,.mk] rfl
    ext d3y;let#[hkv,axs,a4W,hap]:=a9x r.1 (mt r rm).1;let axl:=Paired.length hap;let mk:∀ R∈(e1J i).R,∀ k∈Mk.M' m r.2,k∈R.map (·.1):=λR hR e8a=>by
     rw[e4D hR]
     cases h:r.2 with
     | none=>ext d5G
     | some ks=>rw[h]at hk;show Hq _ (G.ahd i r ks er h k hk)
    let mlz:(f1s r.2).length<=1000:=by
     cases h:r.2 with
     | none=>change (Mk.starts m).length<=1000;ext d8F;simpa using mz
     | some ks=>show (mt r rm).2 ks h
    let alz:(e2M r.1).length<=1000:=HH (Mk.UR G.ZC r.1)<|x0▸O.ez;let pn:e8V (i+1)=e8V i++[(r.1,e0p ũ r)]:=by ext1 cf;rw[KQ,GZ,HE,ego];rfl
    let nk:¬ r.1∈(e8V i).map (·.1):=λz=>by
     unfold cf at z;rw[GY]at z;let#[oh]:=GX.mp z;let hj:=HP.mp hj;let e1:(ord.map (·.1))[j]?=!r.1:=by rw[Hh,GT<|by lia];let ej:(ord.getD j xT).1=r.1:=ej;rw[cN<|GT #[]]at ej;show congrArg some ej
     let e2:(ord.map (·.1))[i]?=!r.1:=by rw[Hh,er];rfl
     let:=cu G.nd e1 e2
     lia
    let st:e1J (i+1)=Mk.RZ p m ç ê ũ r:=by change Mk.RZ p m ç ê ũ c2I=_;rw[ego]
    let told:Mk.Vc p xX vD (Mk.shown p ê<|e1J i)=e0p ũ r:=rfl;let eG2:=eG.trans SO;let k2:KT AY (d81 G2):=kG.trans<|KT.of (aW SO);let hdm:(e8V i).length<2 ^ 24:=by ext1 cf;rw[GS,HV];lia
    let M2:=M.mono<|aW SO;generalize hT:e1J i=Tm at *
    let one:∀ a∈Mk.Ma ê r.1,∃ LK,ê[a.1]?=!LK/\LK∈ê/\a.2.1<m/\ê.getD a.1 (0,[])=LK:=λa am=>by let#[LK,way,h1,Vj,_]:=Mk.Pe.mp<|Mk.Pd.mp am;let em:=Hb h1;show#[LK,h1,em,e42 em▸(GW.mp Vj).1,cN h1]
    let K1:a5P p vD (λa=>Tm.R.getD (ê.getD a.1 (0,[])).1 []) (λa=>Tm.P.getD a.1 []) (Mk.shown p ê Tm):=by
     show#[λa am=>?_,λa am=>?_,λa am b bm=>?_,λa am k=>?_];all_goals let⟨LK,h1,em,hw,eg1⟩:=one a am
     ·rw[(e43 h1).len];show hw
     ·let:=(e43 h1).at hw;show#[this.2,by rw[this.1];show mz]
     ·rw[eg1];show mk _ (Mk.Z5 I G em) _ (pre.ahead b bm)
     ·ext1 Mk.shown;rw[Mk.OD h1,eg1]
    show#[_,1,_,1,_,1,_,1,ad,.ref<|LA r.1,1,(by rw[<- hkv];show PY.k (k:=Sum.inl r.1)<|aG sF eG2 _ _ (aW SO _ _ a1f)),prG sF eG2 (dr3 c2J a4E (d2:=.lst<|(e2M r.1).map (xZ CE _ _)) #[LA r.1,axs,1,k2.1 _ _<|e4E a4W,b52 hap λv a am h=>?_]) (.mk O.p1 K1 pre mlz alz) λlt G3 e3 Nt=>?_]
    ·let#[b,ea,1,VJ,hb]:=h;let#[c6i]:=M2.ears a.1 ea VJ;show#[b,_,1,k2.2 ĉ<|e4E hb,_,_,1,#[ea,FI,g1,1,tF,(M2.rows _ d hd).dr,tF,g2,1],_,_,2,_,_,3]
    let Yr:=SO.trans e3;let eG3:=eG.trans Yr;let#[o,a0Y,Yc,kp,kvp,hkp]:=(plG.mono<|aW Yr).put (aG sF eG3) nk Nt hdm;show⟨_,rfl,_,rfl,pd,_,rfl,a0Y,?_⟩;ext d7Y;rw[told,<- pn]at Yc;let hG4:f' H (upd G3 pd o):=bb eG3 W6;let Zd:KT (d81 G3) Ef:=by rw[bp W6];show kp
    let k4:KT AY Ef:=(k2.trans<|KT.of (aW e3)).trans Zd;let ad4:e0W (upd G3 pd o) ad=!.dK W0:=by rw[bp W6,a9 nap];show aW Yr ĉ a1f
    let M4:Sw CE Ef Mq MK ê Tm:=by rw[bp W6];show (M.mono<|aW Yr).put hkp kp npd
    let mx4:DR Ef (rw xX) mx:=vA Zd<|a4E.mono (aW e3);rw[<- bp W6]at Yc;generalize upd G3 pd o=G4 at hG4 k4 ad4 M4 mx4 Yc;let rbΓ:e0W H4 rb=!(.lst<|Mq.map V.ref):=by rw[ax a8H];show e4 ĉ (e23 ĉ<|e1f hrb)
    let Rl:=I.rl;let Xl:(e0e r<|e6e r).length=ç.length:=by ext1 Mk.LD;rw[List.length_zipWith,Rl,Nat.min_self]
    show#[_,1,_,1,lc,rb,1,#[_,LO.of<|hG4 _ _ Vg],#[_,LO.of<|aG sF hG4 _ _ (k4.1 _ _ rbΓ)],e7O (xs:=cs) (ys:=Mq.map V.ref) (Mp3 CE F H G4 v0 vx mv mx fa lc rb ad pd m W0 Mq MK ê r.1 MT Oe Nr VV (e0e r<|e6e r) Tm.R Tm.P)
     #[_,_,1,hG4,KT.of<|f'.refl _,ad4,Yc,by rw[J9,List.drop_zero,IF];show M4] (λc e3I=>(by let#[CD,a,b,CD]:=gR;show#[LO.of<|a _ _ Vg,LO.of<|aG sF a _ _ (b.1 _ _<|k4.1 _ _ rbΓ)])) ?_ ?_]
    ·rintro c x' y' Tz σ G5 ex ey ⟨MX,Mr,rfl,eG5,k5,ad5,VF,M5⟩ hTz;let#[ks,eks,hca]:=p9 hcp ex;rw[Hh]at ey;let#[rd,erd,1]:=HN.mp ey;let hc:c<ç.length:=(GW.mp eks).1;let eT:f' G5 b8J:=b8 ě hTz;let Xe:b8J Tz=!.tup WP:=af;generalize upd G5 Tz (.tup WP)=G6 at eT Xe;let Yq:=eG5.trans eT;let mx6:=(vA k5 mx4).mono<|aW eT;let UL:=VF.mono<|aW eT;let eR:Tm.R[c]?=!Tm.R.getD c []:=by rw[GV,GT (by rw[Rl];show hc)];rfl
     let Rm:Tm.R.getD c []∈Tm.R:=Hb eR;let gdc:((e0e r<|e6e r).take c++Tm.R.drop c).getD c []=Tm.R.getD c []:=by rw[Mk.V3 _ _<|by lia,if_neg<|J3 _]
     let a4t:Mm (d81 G6) rd FD:=gdc▸(M5.rows c rd erd).mono (aW eT);show#[c6B];show tPG Yq (ε:=[none,some<|.int m,some<|fD C p,none,none,none,none,some<|aV VV,some<|.int r.1,none,some<|rw xX,some<|rw ks,some<|aV FD]) (d:=rw (Mk.newRow p m ks FD r<|e6e r)) (Me<|e2R (NO c2J<|Me (Me<|Me (Me<|NO UL.dr (NO rfl<|Me (NO mx6<|NO (hca.mono<|aj sF) (NO a4t.dr<|UW (aG sF Yq)))))))) ?_ λln G7 e67 hln=>?_
     ·let ri:=jO (n:=false) (i:=r.1) (ks:=ks);ext1 Mk.newRow;by_cases Pf:r.1∈ks
      ·rw[Hf Pf]at ri;rw[if_pos Pf,b6e];show .t #[2,ri] #[u8,1,#[mz]]
      ·rw[Hg Pf]at ri;rw[if_neg Pf];show .f #[2,ri] #[#[2,#[2,.k (yj (by rw[pn,GZ];simp)) kI],3],?_];rw[pn,Mk.TQ nk];show .mk #[] O.p1 (λe8a=>#[mk _ Rm k hk,I.rows _ Rm (k,_)<|Mk.VB (mk _ Rm k hk)]) mlz mz
     let b0k:(Tm.R.getD c []).length<2 ^ 24:=by
      let:=congrArg List.length<|I.keys _ Rm;rw[GS,Hn,GS,Hm]at this;unfold Mk.starts at this;rw[GS,HV]at this
      lia
     let eG7:=Yq.trans e67;let#[o,a0Y,Og,k7,kk,hkk]:=(a4t.mono<|aW e67).put (aG sF eG7) (Mk.Tf I G er _ Rm) hln b0k;let rdm:=Hb erd;let rd0:=(rd1 rdm).1;rw[<- bp rd0]at Og k7;let g57:=aW (F0:=F) (H0:=H)<|eT.trans e67;show#[m4,rd,_,1,a0Y,tF,bb eG7 rd0,(k5.trans<|KT.of g57).trans k7,?_,(VF.mono g57).kt k7 ?_,?_]
     ·rw[bp rd0,a9<|show ad≠rd from λz=>nad<|z▸rdm];show g57 ĉ ad5
     ·rw[bp rd0,a9<|show pd≠rd from λz=>npd<|z▸rdm]
     ·let M7:=M5.mono g57;show#[λc' d' OE=>?_,λe ea he=>?_]
      ·change Mm _ d' (((e0e r<|e6e r).take (c+1)++Tm.R.drop (c+1)).getD c' []);rw[Mk.V3 ĉ<|by lia];by_cases cc:c'=c
       ·subst cc;rw[erd]at OE
        cases OE;rw[if_pos<|IJ _,Mk.Pb eks<|by lia];show Og
       ·let nd':d'≠rd:=λz=>cc<|cu rn (z▸OE) erd;let h7:=(M7.rows c' d' OE).kt k7 (by rw[bp rd0,a9 nd']);let e7:((e0e r<|e6e r).take c++Tm.R.drop c).getD c' []=if c'<c+1 then (e0e r<|e6e r).getD c' [] else Tm.R.getD c' []:=by
         rw[Mk.V3 ĉ<|by lia];by_cases lt:c'<c
         ·rw[if_pos lt,if_pos<|by lia]
         ·rw[if_neg lt,if_neg<|by lia]
        rw[<- e7];show h7
      ·let#[c6i]:=M7.ears e ea he;show#[d,dx,l,hd,by rw[bp rd0,a9 (λz=>by rw[z,hkk]at g1;cases g1)];show g1,zL k7 g2]
    ·rintro σ G5 ⟨MX,Mr,rfl,eG5,k5,ad5,VF,M5⟩;ext d5f;let mn:min cs.length (Mq.map V.ref).length=ç.length:=by rw[GS];lia
     rw[mn,Ir<|by lia,List.drop_of_length_le<|by lia,HD]at M5;let k05:=k4.trans k5;let a5t:=k05.1 ĉ<|e4E a4W;let nda:=Mk.RQ G.ZC r.1;show#[_,1,_,1,ad,.ref<|LA r.1,1,(by rw[<- hkv];show PY.k (k:=Sum.inl r.1)<|aG sF eG5 _ _ ad5),LA r.1,1,#[_,LO.of<|aG sF eG5 _ _ a5t],e3b (xs:=axs) (Mp4 CE F H G5 v0 vx mv mx fa lc rb ad pd m W0 Mq MK ê r.1 MX Mr VV p vD { Tm with R:=e0e r E9 })
      #[_,_,_,1,eG5,KT.of<|f'.refl _,ad5,VF,M5] (λj e3I=>(by let#[tR,a,b,CD]:=gR;show LO.of<|aG sF a _ _ (b.1 _ _ a5t))) ?_ ?_]
     ·rintro j v σ G6 ev ⟨MT,Oe,Nr,rfl,Yq,k6,ad6,UL,M6⟩;let#[a,ea',b,ea,1,VJ,hb]:=Paired.at hap ev;let#[LK,h1,em,hw,eg1]:=one a<|Hb ea';let K1:=e43 h1;let a9g:=e9o em;let tka:=aO ea';let ndt:(((e2M r.1).take j).map (·.1)).Nodup:=by rw[Jl];show nda.sublist (JA ĉ)
      let#[GJ,_]:=Mk.PC (p:=p) (ê:=ê) r.1 ((e2M r.1).take j) { Tm with R:=e0e r E9 } ndt;let fa':=f3 a.1 λa' ha' z=>by
       let#[j',Yf,ej']:=Kg.mp ha';let g1:((e2M r.1).map (·.1))[j']?=!a.1:=by rw[Hh,GT<|by lia,ej'];show congrArg some z
       let g2:((e2M r.1).map (·.1))[j]?=!a.1:=by rw[Hh,ea'];rfl
       let:=cu nda g1 g2
       lia
      let hT7:((e2M r.1).take<|j+1).foldl QG { Tm with R:=e0e r E9 }=Mk.Ol p ê r.1 (((e2M r.1).take j).foldl QG { Tm with R:=e0e r E9 }) a:=by rw[tka,JY];rfl
      generalize hT6:((e2M r.1).take j).foldl QG { Tm with R:=e0e r E9 }=T6 at *
      let fa':T6.P.getD a.1 []=Tm.P.getD a.1 []:=fa';let#[d,dx,lp,hd,hx6,XE]:=M6.ears a.1 ea VJ;rw[eg1]at hd;let ekc:ç[LK.1]?=!ç.getD LK.1 []:=by rw[GV,GT a9g];rfl
      let R6:T6.R.getD LK.1 []=Tm.R.getD LK.1 []++[(r.1,Mk.newRow p m IO (Tm.R.getD LK.1 []) r<|e6e r)]:=by rw[f1];show Mk.Pb ekc #[]
      let le6:=aG sF Yq;show#[b,_,1,Nu.of<|le6 _ _ (k6.2 _ _<|k05.2 _ _ (e4E hb)),1,_,_,1,_,_,1,_,[],2,?_];show#[_,1,ea,dx,_,1,le6 ĉ hx6,1,_,1,_,1,_,1,e0W G6,ea,fa,d,dx,lp,p,r.1,a.2.1,T6.P.getD a.1 [],T6.R.getD LK.1 [],le6,1,hx6,(M6.rows LK.1 d hd).dr,XE,hf.mono<|aj sF,#[],O.p1,by rw[R6,GZ];simp,by rw[fa',K1.len];show hw,λe16=>?_,by rw[fa',K1.len];show mz,λl' G7 e7 hl'=>?_]
      ·rw[fa']at hy;show#[(K1.PZ y hy).2,by rw[(K1.PZ y hy).1];show mz]
      rw[aw Yq e7]at hl';let ea0:=eaN VJ;let g67:=aW (F0:=F) (H0:=H) e7;let hx7:=g67 ĉ hx6;let k7:KT (d81 G7) (grow F H<|upd G7 ea (e6K d l')):=by rw[bp ea0];show KT.put hx7 (λ_ z=>nomatch z) Ļ
      let k67:=(KT.of g67).trans k7;let nea:∀ {c ķ},e0W G6 c=!.dK ķ->c≠ea:=λhc z=>by rw[z,hx6]at hc;cases hc
      let kep:∀ {c:Addr},c≠ea->e0W (upd G7 ea<|e6K d l') c=e0W G7 c:=λhc=>by rw[bp ea0,a9 hc]
      let M7:=M6.mono g67;let a3l:∀ {d' R'},Mm (d81 G6) d' R'->Mm (grow F H<|upd G7 ea (e6K d l')) d' R':=λh=>by let#[ķ,hk,_]:=id h;show (h.mono g67).kt k7 (kep<|nea hk)
      show#[_,_,_,1,bb (Yq.trans e7) ea0,k6.trans k67,(kep<|nea ad6).trans<|g67 _ _ ad6,a3l UL,?_];rw[hT7];show⟨λc' d' OE=>a3l<|M6.rows c' d' OE,λe ea2 he=>?_⟩;let al:a.1<T6.P.length:=by rw[f2];change a.1<Tm.P.length;rw[I.pl];show (GW.mp h1).1
      by_cases ce:e=a.1
      ·subst ce;rw[VJ]at he
       cases he;show#[d,dx,l',by rw[eg1];show hd,by rw[bp ea0,af],?_];change DR _ (tb<|(T6.P.set a.1<|e4b (T6.P.getD a.1 []) a.2.1 (Mk.lk (Mk.rowsOf ê T6 a.1) r.1)).getD a.1 []) _;rw[cN (List.getElem?_set_self al),Mk.OD h1];show zL k7 hl'
      ·let#[d2,dx2,l2,hd2,PB]:=M7.ears e ea2 he;show#[d2,dx2,l2,hd2,(kep λz=>ce<|cu end_ (z▸he) VJ).trans g1,?_];change DR _ (tb<|(T6.P.set a.1 _).getD e []) _;rw[GV,List.getElem?_set_ne<|Ne.symm ce,<- GV];show zL k7 g2
     ·rintro σ G6 ⟨MT,Oe,Nr,rfl,Yq,k6,ad6,UL,M6⟩;rw[axl,HM]at M6;show#[_,_,_,_,_,_,_,_,1,Yq,k05.trans k6,ad6,UL,by rw[st];show M6]
   ·rintro σ G1 ⟨o8,o9,N6,MX,Mr,MT,Oe,Nr,rfl,eG,kG,a1f,plG,M⟩;show hZ ĉ ?_;rw[xl]at plG;let pk:=e3F ord;show#[_,1,prG sF eG (XM plG.dr) (.mk (f:=λr:Int×List Int=>r.1) (g:=λr=>rw r.2) ?_ (by rw[pk];show G.nd)) λx H7 e7 hx7=>q x H7 (eG.trans e7) hx7];let:=d94 pk;rw[GS,GS]at this
    lia
open e
def b3q:∀ (ê:List Mk.M9)(k:Nat),(∀ LK∈ê,LK.2.flatten.length<=B)->((ê.zipIdx k).flatMap λx=>Mk.Oi x.2 x.1.2).length<=ê.length * B:=by
 intro r'
 induction r' with
 | nil=>
  intro _ _;simp
 | cons x l ih'=>
  intro k h;let ih:=ih' (k+1) λe16=>h y C4;let hx:=h x Ė;rw[<- Mk.Ti k x.2,GS]at hx;rw[List.zipIdx_cons,Jb,Hn,HZ,K9]
  grind
def fV:∀ {xs ys:Ξ},xs.Nodup->qT->xs.length<=ys.length
 | [],ys,_,_=>HW _
 | x::xs,ys,nd,h=>by
  ext d4q;let hx:=h x Ė;let:=fV (ys:=ys.erase x) nd.2 λe16=>(J8 (λz:y=x=>nd.1 (by rw[<- z];show hy))).mpr<|h y C4;rw[Li hx]at this;let h1:0<ys.length:=List.length_pos_of_mem hx;rw[HZ]
  lia
def WN.Rv (W):S.Lj.length<=40:=by let:=W.ln.ZV;rw[<- W.ln.Lj,GS]at this;show this
def WN.XU (W):(S.Lj.map (·.1)).Nodup:=by let pk:=W.ln.Lx.map (·.1);rw[GY]at pk;show pk.nodup_iff.mp W.ln.fits.nd
def WN.WM (W):∀ x∈bL yt S.names.length,x∈S.names:=λe0M=>by let:=a6T W.ln.Vm S.names.length (by simp[bn]) x hx;rwa [W.ln.Ue]at this
def WN.Y4 (W)(pz):gH S Ş:=#[1,W.ln.Vm,W.ln.ends,by let:=W.Rv;lia,#[]]
def WN.a78 (W)(pz):EU gH S Ş:=#[W.Y4 pz,W.WM,by let:=W.Rv;lia,W.ln.fits]
def WN.wok (W)(pz:S.Lu.length<=20)(fo):Wi S fo 21:=by
 let sub:(aT S.Lj fo).Sublist S.Lj:=by
  cases fo with
  | none=>show List.Sublist.refl _
  | some ks=>show J1
 let nl:S.names.length<=20:=by ext1 NS.names;rw[GS];show pz
 let ol:=W.ln.len;let tl:=W.Rv;let sl:=sub.length_le;let ix:∀ (i:Nat) z,ord[i]?=!z->ord.idxOf z=i:=λi e79=>by let hl:=List.idxOf_lt_length_of_mem<|Hb hz;show cu W.ln.nd ĝ hz
 show#[#[W.XU.sublist<|sub.map _,⟨λz=>ord.idxOf z,λe4t=>?_,λz=>?_⟩,#[0],#[0]],λe4t=>W.ln.XW<|sub.subset ht,W.ln.Z3,#[0],#[0],#[0]]
 ·let#[yh,mh]:=W.ln.Wl<|sub.subset ht;change ord.idxOf t.2.1<ord.idxOf t.2.2.1;ext d61
 ·grind
def WN.make (d1H)(p1)(pz)(ez:ç.length * S.LL.length<=1000)(fz:ç.length<=1000)(mz:m<=1000):c0Y S m p ç zy:=by
 let G:=W.Wa hP hO Mt;let kt:∀ k∈(ai S).map (·.1),k∈S.Lj.map (·.1):=λe8a=>by let#[r,hr,1]:=GX.mp hk;let#[AT]:=GX.mp<|W.ln.Lx.mem_iff.mp hr;show Ho ht
 let el:=a8v zy 0 λe16=>by let#[ks,_,1]:=GX.mp hy;rw[GS]
 let fl:(bv S (!h) N m ç).length=ç.length:=GS _;let el:(Mk.Ls<|bv S (!h) N m ç).length=ç.length * S.LL.length:=by ext1 Mk.Ls;rw[el,fl]
 let a46:=W.ln.Mt;let lz:S.LL.length<=S.Lu.length:=by ext1 NS.LL;ext d3T
 show#[W.Y4 pz,W.WM,W.XU,a46,λe2T=>#[kt _<|Ho hr,λks hk=>?_],p1,fl,by rw[fl];show fz,mz,G,?_,λbl hbl=>?_,by rw[el];show ez]
 ·let#[vY]:=Ig.mp hr;show (e2u r ks ĝ hk).1
 ·let:=b3q (B:=64) _ 0 λLK he=>by
   let sub:∀ k∈LK.2.flatten,k∈(ai S).map _:=λe8a=>by let#[way,hw,hk]:=List.mem_flatten.mp hk;show (G.XR LK he way hw).subset hk
   let:=fV (G.ZC LK he) sub;ext d6S
   lia
  show HH this ?_
  lia
 ·let#[ks,hk,1]:=GX.mp hbl;show#[by rw[GS];lia,λways hw=>?_];let#[g,hg,1]:=GX.mp hw;let#[O,hW]:=hO ks hk;ext d4S;let e:lV (be c03 (!h) g N m)=w:=by rw[ew];rfl
  rw[e,e1];show#[by cbv,λway hw=>?_];ext d3G;let sb:=W.whole b9W<|e3 ws W4;let sl:=sb.length_le;rw[GS]at sl;show⟨#[],λe8a=>kt k<|sb.subset hk⟩
def WN.told (W)(n)(x:MQ)(hx:(ai S)[n]?=!x):gB a9E x.1=!(x.1,e0p (d9I Mk.stN Zb n) x):=by let nd:((T7 (·.1)<|e1z _ (ai S).length).map _).Nodup:=(N0.map _).nodup_iff.mpr (by rw[c3U];show W.ln.fits.nd);show c08 nd (x.1,_) (N0.mem_iff.mpr ?_);show GX.mpr #[n,HP.mpr<|(GW.mp hx).1,by rw[cN hx]]
def WN.good (W)(hP)(G:f1n Zb)(mz:m<=1000):Q2 m p Zb a9E:=by
 let pm:=N0 (f:=λr:Int×List Int=>r.1) (l:=e1z Zb (ai S).length);let Mt:=W.ln.Mt;let kl:=congrArg List.length<|e3F (ai S);rw[GS,GS]at kl;show⟨λe0M=>?_,λe2T=>?_,?_⟩
 ·let#[n,hn]:=List.getElem?_of_mem hx;show#[_,W.told n x hn,?_];let#[jb]:=Mk.VA<|Mk.TJ (Mk.OK G n (by let:=(GW.mp hn).1;lia)) G hn;let#[vY]:=Ig.mp hx;let mw:((f1s x.2).length)=AM m x.2/\(f1s x.2).length<=1000:=by
   cases e2:x.2 with
   | none=>
    let:(f1s none).length=m:=by change (Mk.starts m).length=m;ext d8F;simp
    rw[this];show#[1,mz]
   | some ks=>show#[1,(e2u x ks ĝ e2).1]
  rw[<- h1]at mw;show#[mw.1,h2,mw.2]
 ·let:=Ho (f:=λr:Int×List Int=>r.1)<|pm.mem_iff.mp hr;rwa [c3U]at this
 ·rw[pm.length_eq]
  lia
universe K72
namespace L2.So
open PySem PySem.W PyProof.Rows
structure Ask (lt:Nat->Nat->Bool):Prop where
 a1G:∀ {i j},lt i j=true->lt j i=false
 trans:∀ {i j k},lt j i=false->lt k j=false->lt k i=false
abbrev g (d03)(i:Nat):Nat:=p.getD i 0
theorem St (lt)(x y:Nat):Prop:=lt y x=false/\(lt x y=false->x<y)
theorem V1 (lt)(d03)(n):Prop:=∀ a b,a<b->b<n->St lt BQ GG
structure Pre (d03)(n N:Nat):Prop where
 size:p.size=N
 perm:p.Perm (List.range N).toArray
 same:∀ i,n<=i->i<N->g p i=i
 low:∀ i,i<n->g p i<n
def x8 (hj:j<=p.size)(k:Nat):g (f1t i j) k=if i<=k/\k<j then g p (i+j - 1 - k) else g p k:=by ext1 g kas_rev;rw[Iu,getElem?_mirror_all hj k];split <;> rw[Iu]
def a41 (hk:k<p.size)(hl:l<=k)(j):g (bubble p k (k - l)) j=if j=l then g p k else if l<j/\j<=k then g p (j - 1) else g p j:=by
 ext1 g;rw[Iu,Iu,Iu,Iu,getElem?_bubble hk _<|by omega,show k - _=l by omega];split
 ·rfl
 ·split <;> rfl
variable {lt:Nat->Nat->Bool}{N:Nat}{cmp:Nat->Nat->(Bool->Shared->Prop)->Shared->Prop}{s:Ê}{p:Array Nat}
def Pre.rev (d2m)(hj:j<=n):Pre (f1t i j) n N:=by
 let hz:=h.size;let e:=λk=>x8 (p:=p) (i:=i) (j:=j) #[] k;show#[(mirror_size ą).trans hz,(mirror_perm ą).trans h.perm,λk e1C=>?_,λk h1=>?_]
 ·rw[e,if_neg<|by lia];show h.same k h1 h2
 ·rw[e];split
  ·show h.low _ #[]
  ·show h.low _ h1
def Pre.up (h:e8K N)(hn:n<N):Pre p (n+1) N:=
 #[h.size,h.perm,λi e1C=>h.same i #[0] h2,λi h1=>by
  by_cases c:i=n
  ·rw[c,h.same n kJ hn];omega
  ·let:=h.low i #[0];omega]
def Pre.at (d2m)(hi:i<N):g p i<N:=by
 by_cases c:i<n
 ·let:=h.low i c;omega
 ·rw[h.same i #[0] hi];show hi
def V1.up (A)(h:e6L n)(P:e8K N)(hn:n<N)(h1:1<=n)(hl:lt BK (g p (n - 1))=false):e6L (n+1):=by
 intro a b SG hb;by_cases c:b<n
 ·show h a b SG c
 ·let:b=n:=#[0]
  ext d4A;let hlo:=P.low a #[0];rw[P.same b kJ hn]at hl ⊢;show#[?_,λ_=>hlo];by_cases ca:a=b - 1
  ·rw[ca];show hl
  ·show A.trans (h a (b - 1) #[0]<|by omega).1 hl
example(hc:∀ i j C, i<N->j<N->C (lt i j) s->cmp i j C s):=0
include hc
def a8I (d1T):∀ (f n:Nat),n+f=N->1<=n->e8K N->e6L n->(∀ m,n<=m->m<=N->Pre p m N->e6L m->(m<N->lt (g p m) (g p (m - 1))=true)->Q m s)->(kas_asc p f n).kasWp cmp Q s
 | 0,n,e,_,P,S,q=>q n kJ #[0] P S λz=>by omega
 | f+1,n,e,h1,P,S,q=>by
  ext d5m
  cases c:lt BK vQ with
  | true=>show q n kJ #[0] P S λ_=>c
  | false=>show a8I A f (n+1) #[0] #[0] (P.up<|by omega) (S.up A P #[0] h1 c) λm h2 h3=>q m #[0] h3
structure Dn (lt:Nat->Nat->Bool)(d03)(n q:Nat):Prop where
 lo:q<n
 far:∀ a b,a<n - (q+1)->n - (q+1)<=b->b<n->lt GG BQ=true
 old:∀ a b,a<b->b<n - (q+1)->St lt GG BQ
 new:∀ a b,n - (q+1)<=a->a<b->b<n->lt BQ GG=false/\lt GG BQ=false/\g p a<g p b
omit hc in
def Ask.Z6 (A){x y z:Nat}(h1:lt x y=true)(h2:lt z y=false):lt x z=true:=by
 cases c:lt x z with
 | true=>rfl
 | false=>rw[A.trans h2 c]at h1;cases h1
omit hc in
def Ask.st (A){x y:Nat}(h:lt x y=true):St lt x y:=#[A.a1G h,λz=>by rw[h]at z;cases z]
omit hc in
def Dn.flip {n q:Nat}(A)(D:f1u n q)(P:e8K N)(hn:n<=N)(p':Array Nat)(hp:p'=if q > 0 then kas_rev p (n - (q+1)) n else p):Pre p' n N/\∀ a b,a<b->b<n->f2d (g p' a):=by
 ext d7H;let lo:=D.lo;subst hp;by_cases c:q > 0
 ·ext d3S;show#[P.rev hn<|Hl _,λe1V=>?_];let e:=λk=>e4c #[] k;rw[e,e];by_cases ca:n - (q+1)<=a
  ·rw[if_pos<|by lia,if_pos<|by lia];let#[ic]:=D.new (n - (q+1)+n - 1 - b) (n - (q+1)+n - 1 - a) #[] #[] #[];show⟨h2,λ_=>h3⟩
  ·rw[if_neg (c:=_<=a/\_)<|by lia];by_cases cb:n - (q+1)<=b
   ·rw[if_pos<|by lia];show A.st (f1v _ #[] #[]<|by lia)
   ·rw[if_neg<|by lia];show D.old a b SG #[]
 ·ext d3j;show#[P,λe1V=>?_];by_cases cb:b<n - (q+1)
  ·show D.old a b SG cb
  ·show A.st (f1v b #[] #[] hb)
omit hc in
def Dn.le (A)(D:f1u n q)(ha:a<n):lt BQ (g p (n - 1))=false:=by
 by_cases c:a<n - (q+1)
 ·show A.a1G (f1v _ c #[0]<|by omega)
 ·by_cases e:a=n - 1
  ·rw[e]
   cases z:lt _ _ with
   | false=>rfl
   | true=>rw[A.a1G z]at z;cases z
  ·show (D.new a _ #[0] #[0]<|by omega).1
def c12 (A){Q:Array Nat×Nat×Nat->Shared->Prop}:∀ (f:Nat)(p:Array Nat)(n q:Nat),n+f=N->1<=n->e8K N->f1u n q->(∀ p m q,m<=N->1<=m->Pre p m N->f1u m q->Q (p,m,q) s)->(kas_desc f p n q).kasWp cmp Q s
 | 0,p,n,q,e,h1,P,D,k=>k p n q #[0] h1 P D
 | f+1,p,n,q,e,h1,P,D,k=>by
  ext d7H;let lo:=D.lo;ext d5m;let en:=P.same n kJ #[0];let step:∀ (p':Array Nat),(∀ a,n<=a->g p' a=g p a)->Pre p' n N->(∀ a b,a<b->b<n->f2d (g p' a))->(∀ a,a<n->lt (g p' n) (g p' a)=true)->(kas_desc f p' (n+1) 0).kasWp cmp Q s:=λp' hg P' hs hl=>
   c12 A f p' (n+1) 0 #[0] #[0] (P'.up<|by omega) ⟨#[0],λe2j h4=>by
    let:b=n:=#[0]
    ext d4A;show hl a<|by omega,λe2j=>hs a b h2<|by omega,λe2j h4=>by omega⟩ k
  cases c:lt BK vQ with
  | true=>
   let#[P',hs]:=D.flip A P #[0] _ rfl;let hl:∀ a,a<n->lt BK BQ=true:=λf2r=>A.Z6 c<|D.le A ha;change (if q > 0 then kas_desc f (f1t (n - (q+1)) n) (n+1) 0 else kas_desc f p (n+1) 0).kasWp cmp Q s;by_cases cq:q > 0
   ·rw[if_pos cq]at P' hs ⊢;let e2:=λk=>e4c #[0] k;show step _ (λf2r=>by rw[e2,if_neg<|by omega]) P' hs λf2r=>?_;rw[e2,if_neg<|by omega,e2];split
    ·show hl _ #[0]
    ·show hl _ ha
   ·rw[if_neg cq]at P' hs ⊢;show step _ (λ_ _=>rfl) P' hs hl
  | false=>
   ext d5m
   cases d:lt vQ BK with
   | true=>show k p n q #[0] h1 P D
   | false=>
    show c12 A f p (n+1) (q+1) #[0] #[0] (P.up<|by omega) ⟨#[0],λe2j h4=>?_,λe2j=>D.old a b h2<|by omega,λe2j h4=>?_⟩ k
    ·by_cases cb:b=n
     ·subst cb;let h5:=f1v (b - 1) #[0] #[0] #[0]
      cases z:lt GG BQ with
      | true=>rfl
      | false=>rw[A.trans z d]at h5;cases h5
     ·show D.far a b #[0] #[0] #[0]
    ·by_cases cb:b=n
     ·subst cb;let l1:=D.le A (a:=a) #[0];let l2:lt (g p<|b - 1) BQ=false:=by
       by_cases ca:a=b - 1
       ·rw[ca]at l1 ⊢;show l1
       ·show (D.new a (b - 1) #[0] #[0]<|by omega).2.1
      show#[A.trans d l1,A.trans l2 c,by rw[en];show P.low a<|by omega]
     ·show D.new a b #[0] #[0] #[0]
def c32 (c8y){n:Nat}(h1:1<=n)(hn:n<=N)(c87)(c7C):(kas_tail3 n N p).kasWp cmp Q s:=by ext d7H;let e:=λk=>x8 (p:=p) (i:=0) (j:=n) #[0] k;ext1 kas_tail3;rw[KS];show a8I hc A _ n #[0] h1 (P.rev hn<|Hl _) (λe1V=>?_) λm h2 h3 P' S' _=>k m _ #[0] h3 P' S';rw[e,e,if_pos<|by omega,if_pos<|by omega];show D ĉ #[0] #[0]
def b4R (c8y){n:Nat}(h1:1<=n)(hn:n<N)(c87)(hl:∀ a,a<n->lt n BQ=true)(c7C):(kas_descPart n N p).kasWp cmp Q s:=by
 ext1 kas_descPart;rw[KS];show c12 hc A _ p (n+1) 0 #[] #[] (P.up hn) #[#[],λe2j h4=>?_,λe2j=>D a b h2<|by lia,λe2j h4=>by lia] λp m q h2 h3 P' D'=>?_
 ·let:b=n:=#[]
  ext d4A;rw[P.same b kJ hn];show hl a #[]
 ·let#[P2,D2]:=D'.flip A P' h2 _ rfl;ext d7D;by_cases c:q > 0
  ·rw[if_pos c]at P2 D2 ⊢;ext d8f
  ·rw[if_neg c]at P2 D2 ⊢;ext d8f
omit hc in
def kO (hn:1<=n)(hN:n<=N):Pre (List.range N).toArray n N:=by
 let e:∀ i,i<N->g (List.range N).toArray i=i:=λe8X=>by ext1 g;rw[Iu];simp[hi]
 show#[by simp,Array.Perm.refl _,λi _ h=>e i h,λi h=>by rw[e i<|by lia];show h]
def c4j (c8y)(h1:1<=N)(c7C):(kas_count N (List.range N).toArray).kasWp cmp Q s:=by
 let e:∀ i,i<N->g (List.range N).toArray i=i:=λe8X=>by
  by_cases z:i=0
  ·subst z;let:=(kO (Hl 1) h1).low 0 #[0];omega
  ·show (kO (Hl 1) h1).same i #[0] hi
 ext1 kas_count;rw[KS];show a8I hc A _ 1 #[0] kJ (kO kJ h1) b7l λn h2 h3 P S hl=>?_;by_cases c:n=N
 ·rw[if_pos<|by simpa using c];show k n _ h2 h3 P S
 ·rw[if_neg<|by simpa using c];let hl:=hl #[0];rw[P.same n kJ<|by omega,e _<|by omega]at hl;by_cases c1:n > 1
  ·rw[if_pos c1];show hc Ĉ (P.at h3 #[0]) (P.at h3 #[0]) ?_
   cases d:lt (g (List.range N).toArray 0) (g (List.range N).toArray _) with
   | true=>show k n _ h2 h3 P S
   | false=>
    rw[e _<|by omega,e _<|by omega]at d;let S':∀ a b,a<b->b<n->lt b a=false:=λe1V=>by let:=(S a b SG hb).1;rwa [e _<|by omega,e _<|by omega]at this
    let al:∀ a b,a<b->b<n->lt a b=false:=λe1V=>by
     let l1:lt a (n - 1)=false:=by
      by_cases z:a=0
      ·rw[z];show d
      ·show A.trans d (S' 0 a #[0]<|by omega)
     by_cases z:b=n - 1
     ·rw[z];show l1
     ·show A.trans (S' b _ #[0]<|by omega) l1
    let er:=λk=>x8 (p:=(List.range N).toArray) (i:=0) (by simpa using h3) k;show b4R hc A #[0] #[0] (P.rev h3<|Hl _) (λe1V=>?_) (λf2r=>?_) k
    ·rw[er,er,if_pos<|by omega,if_pos<|by omega,e _<|by omega,e _<|by omega];show#[S' ĉ #[0]<|by omega,λ_=>by omega]
    ·rw[er,if_pos<|by omega,e _<|by omega];by_cases z:0+n - 1 - a=n - 1
     ·rw[z];show hl
     ·show A.Z6 hl (al ĉ #[0]<|by omega)
  ·let:n=1:=#[0]
   ext d4A;show b4R hc A kJ #[0] P b7l (λf2r=>?_) k;let:a=0:=#[0]
   ext d4A;rw[e 0<|by omega];show hl
def c5s (d1T){k:Nat}(hk:k<N)(P:Pre p k N)(S:e6L k)(q:∀ l,l<=k->b5c->(∀ a,l<=a->a<k->lt k BQ=true)->Q l s):∀ (f l r:Nat),r - l<=f->l<=r->r<=k->b5c->(∀ a,r<=a->a<k->lt k BQ=true)->(kas_place p k f l r).kasWp cmp Q s
 | 0,l,r,h,h1,h2,h3,h4=>q l #[] h3 λa z=>h4 a #[]
 | f+1,l,r,h,h1,h2,h3,h4=>by
  ext1 kas_place;by_cases c:l ≥ r
  ·ext d3S;show q l #[] h3 λa z=>h4 a #[]
  ·ext d3j;show hc Ĉ (P.at #[] hk) (P.at #[] #[]) ?_;let ek:p.getD k 0=k:=P.same k kJ hk;rw[ek]
   cases d:lt k (g p<|(l+r) / 2) with
   | true=>
    show c5s A hk P S q f l ((l+r) / 2) #[] #[] #[] h3 λa z1 z2=>?_;by_cases z:a=(l+r) / 2
    ·rw[z];show d
    ·cases y:lt k BQ with
     | true=>rfl
     | false=>rw[A.trans (S _ a #[] z2).1 y]at d;cases d
   | false=>
    show c5s A hk P S q f ((l+r) / 2+1) r #[] #[] h2 (λa z1=>?_) h4;by_cases z:a=(l+r) / 2
    ·rw[z];show d
    ·show A.trans (S a ((l+r) / 2) #[]<|by lia).1 d
def LET (d0P)(c94):∀ (f:Nat)(p:Array Nat)(k:Nat),k+f=N->1<=k->Pre p k N->e6L k->(kas_bin f p k).kasWp cmp Q s
 | 0,p,k,e,_,P,S=>by
  let:k=N:=#[0]
  ext d4A;show q p P S
 | f+1,p,k,e,h1,P,S=>by
  ext d7H;change ((kas_place p k k 0 k).bind λl=>kas_bin f (bubble p k<|k - l)<|k+1).kasWp cmp Q s;rw[KS];show c5s hc A #[0] P S (λl hl h3 h4=>?_) k 0 k #[0] #[0] kJ (λa z=>by omega) (λa z1 z2=>by omega);let b:=λj=>a41 (p:=p) (k:=k) (l:=l) #[0] hl j;let ek:=P.same k kJ #[0];show LET A q f _ (k+1) #[0] #[0] #[(bubble_size Ĉ).trans hz,(bubble_perm Ĉ).trans P.perm,λi z1 z2=>?_,λi z=>?_] λa c hac OE=>?_
  ·rw[b,if_neg<|by omega,if_neg<|by omega];show P.same i #[0] z2
  ·rw[b];split
   ·omega
   ·split
    ·let:=P.low (i - 1) #[0];omega
    ·let:=P.low i #[0];omega
  ·let old:∀ x y,x<y->y<k->St lt (g p x) (g p y):=S;rw[b,b];by_cases ca:a=l
   ·rw[if_pos ca,if_neg<|by omega,if_pos<|by omega,ek];show A.st (h4 _ #[0]<|by omega)
   ·rw[if_neg ca];by_cases cc:c=l
    ·rw[if_pos cc,if_neg<|by omega,ek];show#[h3 a<|by omega,λ_=>P.low a<|by omega]
    ·rw[if_neg cc];split
     ·rw[if_pos<|by omega];show old ĉ #[0] #[0]
     ·split
      ·show old ĉ #[0] #[0]
      ·show old ĉ hac #[0]
def Vx (d0P)(h1:1<=N)(c94):(kas_sort N).kasWp cmp Q s:=by
 ext1 kas_sort;rw[KS];show c4j hc A h1 λm p h2 h3 P S=>?_;by_cases c:m<N
 ·rw[if_pos c,show max m 1=m by omega];show LET hc A q _ p m #[0] h2 P S
 ·ext d3j;let:m=N:=#[0]
  ext d4A;show q p P S
open e
universe L2.So
namespace L2
open PySem PySem.Spec PySem.Calls PyProof.Rows PySem.W
theorem bI:List Int->List Int->Bool
 | a::x,b::y=>if a=b then bI x y else decide (a<b)
 | _,_=>false
def c1m:∀ {x y:Ξ},bI x y=true->bI y x=false
 | a::x,b::y,h=>by
  unfold bI at h ⊢;by_cases c:a=b
  ·ext d8E;rw[if_pos c.symm];show c1m h
  ·rw[if_neg c]at h;rw[if_neg<|Ne.symm c];let:=HB h;show Hg #[]
 | [],_,_=>by cases ‹List Int› <;> rfl
 | _::_,[],h=>by cases h
def a6H:∀ {x y z:Ξ},x.length=y.length->y.length=z.length->bI y x=false->bI z y=false->bI z x=false
 | [],_,[],_,_,_,_=>rfl
 | [],_,_::_,_,_,_,_=>rfl
 | a::x,b::y,c::z,h1,h2,h3,h4=>by
  unfold bI at h3 h4 ⊢;by_cases e1:b=a
  ·rw[if_pos e1]at h3;by_cases e2:c=b
   ·rw[if_pos e2]at h4;rw[if_pos<|e2.trans e1];show a6H T0 SS h3 h4
   ·rw[if_neg e2]at h4;ext d4Q;let:=ID h4;ext d6L
  ·rw[if_neg e1]at h3;let h3:=ID h3;by_cases e2:c=b
   ·ext d4Q;ext d6L
   ·rw[if_neg e2]at h4;let h4:=ID h4;ext d4Q;ext d6L
 | _::_,_::_,[],_,_,_,_=>rfl
 | _::_,[],_,h,_,_,_=>by simp at h
def DH:∀ {xs ys:θ}{x y:Ξ}{i:Nat},IntsAre xs x->IntsAre ys y->x.length=y.length->Q (bI x y) s->KatLex prog w A true false Q (xs.zip ys) i s
 | _,_,[],y,i,hx,hy,e,q=>by
  cases hx
  cases y with
  | nil=>cases hy;show q
  | cons _ _=>simp at e
 | _,_,a::x,y,i,hx,hy,e,q=>by
  cases y with
  | nil=>simp at e
  | cons b y=>
   cases hx with
   | cons _ t hx=>
    cases hy with
    | cons _ u hy=>
     show kat_cons (wpAny_eqBool_int ?_);unfold bI at q;by_cases c:a=b
     ·rw[if_pos c]at q;rw[show (a==b)=true from Jv.mpr c];show kat_yes (DH hx hy Zz q)
     ·ext d4p;rw[show (a==b)=false from JC.mpr c];show kat_no ?_
      cases i with
      | zero=>show oneLt_int q
      | succ i=>show kat_one ĉ (PySem.wpAny_lt_int q)
theorem Ug (c8Q)(n)(vs:θ)(rs:Θ):Prop:=vs.length=rs.length/\∀ (i:Nat) v r,vs[i]?=!v->rs[i]?=!r->r.length=n/\∃ a o xs k,v=.ref a/\h.get? a=!o/\o.cls=.type "tuple"/\o.data=.seq xs k/\IntsAre xs.toList r
def Ug.keep (k:∀ b o,h.get? b=!o->h'.get? b=!o)(t:Ug h n vs rs):Ug h' n vs rs:=
 #[t.1,λi v r e1C=>let ⟨l,a,o,xs,k',e,q,rest⟩:=t.2 i v r h1 h2;#[l,a,o,xs,k',e,k ĉ q,rest]]
def Ug.Xh (hn:1<=n):∀ {vs:θ}{rs:Θ},Ug h n vs rs->∃ fs,KatTups h vs fs/\fs.length=vs.length/\∀ v∈fs,∃ i t,v=e8d t
 | [],[],_=>#[[],trivial,1,nofun]
 | [],_::_,t=>by let:=t.1;simp at this
 | _::_,[],t=>by let:=t.1;simp at this
 | v::vs,r::rs,t=>by
  let#[l,a,o,xs,k,1,CK,q4]:=t.2 0 v r rfl rfl;let#[fs,GJ]:=Ug.Xh hn (vs:=vs) (rs:=rs) #[by simpa using t.1,λi v r e1C=>t.2 (i+1) v r h1 h2]
  cases r with
  | nil=>simp at l;lia
  | cons x r=>
   let hx:∃ t ys,xs.toList=.int x t::ys:=by
    generalize xs.toList=L at q4
    cases q4 with
    | cons _ t _=>show#[t,_,1]
   let#[t',ys,ey]:=hx;show#[.int x t'::fs,KatTups.cons q1 q2 q3 (by rw[<- KA,ey];rfl) f1,by simpa using f2,λv hv=>?_];rcases Hs.mp hv with rfl|hv
   ·show#[tF]
   ·show f3 v hv
def oC (ho:s.heap.get? a=!seqObj "list" vs.toArray m)(d0p)(hna:∀ (i:Nat) v,vs[i]?=!v->v≠.ref a)(h:∀ (p:À),p.Perm DW->Xi0->P m9 { s with heap:=sortedHeap s.heap a vs (p.map λi=>e3U Value.none).toArray }):
  wpAny ē A (Builtin.«list.sort» #[zV,[]]) P E s:=by
 rw[list_sort_plain];let ha:a<s.heap.objs.size:=HF ho;show GU b6A;show GU (Km ho rfl ?_);obtain⟨e1,ho1⟩:∃ e1,(s.heap.update a<|Obj.mapSeq λ_=>[].toArray).get? a=!seqObj "list" [].toArray e1:=b5y
 show GU b6B;show GU (wpAny_newTuple ?_);show GU (Lg ?_);show Io ?_;let ho6:(((s.heap.update a<|Obj.mapSeq λ_=>[].toArray).push<|seqObj "tuple" vs.toArray 0).push<|seqObj "list" [].toArray 0).get? a=!seqObj "list" [].toArray e1:=by rw[Lf _ _ _ (by rw[size_push',Heap.size_update];show HR<|Jz ha),Lf _ _ _ (by rw[Heap.size_update];show HR ha)];show ho1
 change wpAny ē A _ P E { s with heap:=((s.heap.update a<|Obj.mapSeq λ_=>[].toArray).push<|seqObj "tuple" vs.toArray 0).push (seqObj "list" [].toArray 0) };ext d7D;let hsz:vs.toArray.size=vs.length:=by simp
 let T6:Ug (((s.heap.update a<|Obj.mapSeq λ_=>[].toArray).push<|seqObj "tuple" vs.toArray 0).push<|seqObj "list" [].toArray 0) n vs rs:=by show⟨T.1,λi v r e1C=>?_⟩;let#[l,b,o,xs,k,1,q,rest]:=T.2 i v r h1 h2;let nb:b≠a:=λz=>hna i _ h1 (by rw[z]);show#[l,b,o,xs,k,1,Ha _ (Ha _ ?_),rest];rw[e6r _ nb];show q
 ext d7q
 ·ext d62;rw[StateT.run_pure];ext d39;ext d7D;show GU b6C;show GU (Km ho6 rfl ?_ (hsz2:=by rw[Array.size_map];change (pairsOf vs).size<=_;rw[pairsOf_size,IY];omega));ext d63;let:=h DW (List.Perm.refl _) (λe1V=>by rw[hsz]at h2;omega);ext d7u;let e:((arrOf<|SortSt.mk' general' (vs.toArray.zip vs.toArray) [].toArray 7 none).map (·.2))=((List.range vs.length).map λi=>e3U Value.none).toArray:=by apply Array.toList_inj.mp;change ((vs.toArray.zip vs.toArray).map (·.2)).toList=_;rw[Array.toList_map,Array.toList_zip];show Jk Ė λi c1 c2=>?_;simp at c1 c2;simp[c1]
  rw[<- e]at this;show this
 ·rw[if_neg h2,if_neg h2];rw[hsz]at h2;let#[fs,GJ]:=T6.Xh hn;show GU (kat_kind (T:=.type "int") (s:={ s with heap:=((s.heap.update a<|Obj.mapSeq λ_=>([].toArray:Ó)).push<|seqObj "tuple" vs.toArray 0).push (seqObj "list" [].toArray 0) }) f1 #[0] (λv hv=>?_) (by rfl) ?_)
  ·let#[i,t,1]:=f3 v hv;show .now
  ·rw[show (Value.type "int" != Value.type "tuple")=true from rfl];let A0:So.Ask λi j=>bI kF (rs.getD (j % rs.length) []):=by
    let tl:=T.1;let len:∀ i,(rs.getD z4 []).length=n:=λi=>by let hi:i % rs.length<rs.length:=Nat.mod_lt _ #[0];let:=T.2 z4 (vs[i % rs.length]'#[0]) (rs[i % rs.length]) (GT<|by omega)<|GT hi;rw[GV,GT hi];show this.1
    show#[c1m,λ{i j k} h1 h2=>a6H b4w b4w h1 h2]
   show GU (II (kat_run (ks:=vs) (vs:=vs) (Q:=λQ4 s'=>s'={ s with heap:=((s.heap.update a<|Obj.mapSeq λ_=>([].toArray:Ó)).push<|seqObj "tuple" vs.toArray 0).push (seqObj "list" [].toArray 0) }/\∃ p:Array Nat,e9p vs.length/\So.V1 (λi j=>bI kF<|rs.getD (j % rs.length) []) p vs.length/\arrOf Q4=p.map (kas_item<|vs.toArray.zip vs.toArray)/\failedOf Q4=none)
    (G:=λp s'=>s'={ s with heap:=((s.heap.update a<|Obj.mapSeq λ_=>([].toArray:Ó)).push<|seqObj "tuple" vs.toArray 0).push (seqObj "list" [].toArray 0) }/\So.Pre p vs.length vs.length/\So.V1 (λi j=>bI kF<|rs.getD (j % rs.length) []) p vs.length) rfl #[0] U8 (λp Q4 s' e4s=>b4g) ?_) ?_ λ_ _ e=>e)
   ·show So.Vx b8L A0 #[0] b7m;let tl:=T.1;let#[l1,b1,o1,xs1,k1,z1,g1,c1,d1,i1]:=T6.2 i vs[i] (rs[i]'#[0]) (GT hi)<|GT #[0];let#[l2,b2,o2,xs2,k2,z2,g2,c2,d2,i2]:=T6.2 j vs[j] (rs[j]'#[0]) (GT hj)<|GT #[0];ext1 kas_ask;rw[GV,GT hi,GV,GT hj];change wpAny ĉ (keyLt' (tuples' true) vs[i] vs[j]) Ĉ;rw[z1,z2];let s1:xs1.size=n:=by rw[<- Il,i1.length,l1]
    let s2:xs2.size=n:=by rw[<- Il,i2.length,l2]
    show kat_lt g1 d1 g2 d2 ?_;rw[s1,s2,Hg<|by omega];show DH i1 i2 (l1.trans l2.symm) ?_;let e3:∀ k,(hk:k<rs.length)->rs.getD (k % rs.length) []=rs[k]:=λe8a=>by rw[Nat.mod_eq_of_lt hk,GV,GT hk];rfl
    rw[e3 i<|by omega,e3 j<|by omega]at q;show q
   ·ext d4H;ext d7D;let hz:=q1.size;show GU b6C;let e:=kat_snds (vs:=vs) (ks:=vs) rfl har;show GU (Km ho6 rfl ?_ (hsz2:=by rw[e,HU,GS,Il,hz,IY];omega));rw[hf,e];ext d63;show Hk (h p.toList ?_ λe1V=>?_)
    ·let:=Array.perm_iff_toList_perm.mp q1.perm;ext d3g
    ·let:=(q2 a b SG hb).1;let tl:=T.1;let e1:∀ i,i<vs.length->f1w 0=So.g p i:=λe8X=>by ext1 So.g;rw[Iu,GV,KA]
     rw[e1 a<|by omega,e1 b hb];let m1:∀ i,i<vs.length->So.g p i % rs.length=So.g p i:=λe8X=>Nat.mod_eq_of_lt (by let:=q1.low i hi;omega);dsimp only at this;rw[m1 a<|by omega,m1 b hb]at this;show this
def PGs (d0b)(k1:builtinKind id=none)(k2:plainId id=true)(k3:entryFor table id=!b)(k4:argsOk id #[us,kw])(go:f2e (b #[us,kw]) (λfin s'=>match fin with
   | .done f=>(match (Except.ok f:Result) with|.ok (.ret v)=>Q v s'|.ok _=>False|.error e=>E e s')
   | .again c'=>c'.quiet=true/\codeAny ē A c' (λr s'=>match r with|.ok (.ret v)=>Q v s'|.ok _=>False|.error e=>E e s') s') E s):
  wpAny ē A (call iN us kw) Q E s:=by
 show KB (codeAny_call_builtin k2 k3 ?_);simp only[checkBuiltinCall,k1]
 cases hs:Manifest.signature? id with
 | none=>show Hk go
 | some sig=>
  let k5:Bind.checkArgs id sig #[us,kw]=pure ():=by simpa only [argsOk,hs] using k4
  simp only[k5];show Hk go
variable {St:Nat->Heap->Prop}
def a54:(toString "max"++toString ".loop":String)="max.loop":=by decide
def b3l (c8z):
  ∀ (k j:Nat)(s:Ê)(v0:Value)(e0:Nat),n - (j+1)=k->j+1<=n->St (j+1) s.heap->P pe v0->
  s.heap.get? S=!{ cls:=.type "list",dict:=none,data:=.seq [v0,v0].toArray e0,slots:=[].toArray }->
  (∀ v h' tk,P b9n v->sQ->R (.ok (.ret v)) { s with heap:=h',toks:=tk })->
  codeAny ē A (.builtin "max.loop" #[b8M,kw]) R s:=by
 let nW:S∉wr:=λh=>nS<|W.sub _ h;intro k
 induction k with
 | zero=>
  ext d6H;let en:j+1=n:=#[]
  ext d2D;show GU<|K3 (W.done s _ _ (en▸g0) λe2Y k'=>?_);ext d6I;change wpAny _ A.in1 (updateSeq S (λ_=>[].toArray) >>= _) Ĉ;ext d6R;show wpAny_updateSeq Zm rfl<|GU (L8 (Hk ?_));show g3 v0 _ tk (by rw[<- en];show g1) λe7a=>(Jd ĉ<|Ne.symm b2).trans (f1x e)
 | succ k ih=>
  ext d6H;let lt:j+1<n:=#[]
  ext d2D;show GU<|K3 (W.item (j+1) s _ _ lt g0 λv e2Y gP g0' k'=>?_);ext d6I;change wpAny _ A.in1 (tryCatch (holding [v,v]<|richCompare .Gt v v0 >>= _) _ >>= _) _ _ _;show GU<|K3 (Io<|GU (cm (j+1) pe v v0 _ _ _ gP g1 ?_));show GU<|Io (Jn ?_);show GU (L8 dU)
  cases hb:bt (j+1) pe with
  | true=>
   simp only[if_true];ext d6R;show wpAny_updateSeq Zm rfl<|GU (L8 ?_);rw[a54];show Hk ⟨e2S _,ih (j+1) _ v _ #[] lt (e6M g0' λb bf o e=>?_) (by simp only[argBest,hb,if_true];show gP) (JW _ Zm rfl) λe6g=>?_⟩
   ·ext d4j
   ·show g3 v' h2 tk2 gP' λe7a=>e7P b0s
  | false=>
   simp only[Ix,Ju];show GU (L8 ?_);rw[a54];show Hk #[e2S _,ih (j+1) _ v0 e0 #[] lt g0' (by simp only[argBest,hb,Ix,Ju];show g1) Zm λe6g=>?_];show g3 v' h2 tk2 gP' λe7a=>e7P (f1x e)
def a7H (c8z)(g0:St 0 s.heap)(g2:s.heap.get? S=!{ cls:=.type "list",dict:=none,data:=.seq [].toArray e0,slots:=[].toArray })(gN:n=0->∀ h' tk,sQ->R (.ok (.ret d)) { s with heap:=h',toks:=tk })(g3:0<n->∀ v h' tk,P b9n v->sQ->R (.ok (.ret v)) { s with heap:=h',toks:=tk }):
  codeAny ē A (.builtin "max.loop" #[b8M,[(x,d)]]) R s:=by
 let nW:=λh=>nS<|W.sub _ h;show JQ F.entry_max_loop ?_;show GU b50;change wpAny _ A.in1 Ĉ s;by_cases hn:0<n
 ·show GU (K3 (W.item 0 s ĉ hn g0 λv e2Y gP g0' k'=>?_));ext d6I;change wpAny _ A.in1 (updateSeq S (λ_=>[v,v].toArray) >>= _) Ĉ;ext d6R;show wpAny_updateSeq Zm rfl ?_;show Hk #[e2S _,b3l W bt cm S nS _ 0 _ v _ rfl hn (e6M g0' λb bf o e=>?_) gP (JW _ Zm rfl) λe6g=>?_]
  ·ext d4j
  ·show g3 hn v' h2 tk2 gP' λe7a=>e7P b0s
 ·let en:n=0:=#[0]
  show GU (K3 (W.done s ĉ (en▸g0) λe2Y k'=>?_));change wpAny _ A.in1 (rule _ >>= _) Ĉ;show GU<|wpAny_rule (Hk ?_);show gN en h' tk λb o b1 _ e=>f1x e
open e
def Ca (a d:Value):argsOk "max" #[[a],dL]:=by ext1 argsOk;kernel_rfl
def b9L (hh)(hl:e26 (intItems xs))(g0:xs.size=0->∀ h' tk,Dl->Q d { s with heap:=h',toks:=tk })(g1:0<xs.size->∀ v h' tk,(intItems xs)[argBest (λi j=>decide b51) (xs.size - 1)]?=!v->Dl->Q v { s with heap:=h',toks:=tk }):
  wpAny ē A (call (.builtin "max") Ky dL) Q E s:=by
 show PGs F.kind_max F.plain_max F.entry_max (Ca ĉ) ?_;change wpAny _ A.in1 (Builtin.Builtins.bindParams "max" c11 0 #[[],dL] >>= _) ĉ s;show GU (wpAny_of_eq (show Builtin.Builtins.bindParams "max" c11 0 #[[],dL]=pure [none,!d] from rfl) ?_);ext d39;show GU (iter_intList hl λs₂ e st hfp hlI=>?_);subst e;show GU (JX ?_);rw[a54];show Hk #[e2S _,?_];let W:=Walks.list (A:=A.in1) (prog:=prog) (w:=w) hh _ l hlI<|intItems xs;show a7H W (λi j=>decide b51) (CmpOf.ints_gt At λ_ _=>intItems_at) _ (λhm=>J3 _<|hfp _ hm) (e6M st λb _ o e=>Ha _ e) B3 (λen e2Y hk=>?_) (λhn v e2Y hP hk=>?_)
 ·show g0 (by simpa [intItems] using en) h' tk a7g
 ·show g1 (by simpa [intItems] using hn) v h' tk (by simpa [intItems] using hP) a7g
variable {X:Cx}{e:Expr}{es:Ì}{X0:List Keyword}{t tk:TA}{p pos:Pos}
inductive a9w (K:Ψ)(Q:VK)(vs:π)(zs:π)(H2:Hp):∀ (a:Addr)(ns:Ξ)(y:V),vs=zV->zs=[y]->LO K H2 a Ł->(ns=[]->Q y H2)->(∀ m∈ns,(∀ j∈ns,j<=m)->Q (.int m) H2)
theorem a23 (K)(t tk:TA):TE:=λd95=>t σ H λe5u=>tk σ H1 λzs H2=>a9w K Q vs zs H2
def FF (K)(c9T)(hv:bootBuiltins "max"=!.builtin "max")(ha)(hk:PK X X0 tk)(hK)(Xa:(e1t ZB).filterMap (·.1)=(["default"]:η):=ă)
  (he:e0m ő=Ĭ::e0m SZ:=ă)
  (ON:(e0m ő).any (·.1)=false:=ă)
  (U7:(e1t ZB).all (·.1.isSome)=true:=ă)
  (hkw:(e1t ZB).any (·.1.isNone)=false:=ă):PE X (.Call (.Name "max" p) ke X0 pos) (a23 K t tk):=by
 subst hK;ext d2p;show IC (e2l hv ?_ Ĺ<|by decide);show callWith_kw (thA (e7Y h) λus s1 e5u I1 r1 q1=>LW (d9C hk q1) λws f2l=>?_) he ON U7 hkw;let#[zs,vO]:=gR;rw[Xa];let#[a,ns,y,2,hq,q0,q3]:=q2;ext d6T
 cases ru;let#[d,1,rd]:=dh r2;let#[c6M]:=I2.list hq;let hi:IntsAre its ns:=b93 rv;ext d7h;let hl':s2.heap.IsList a (intItems xs):=hx▸pl.isList;let e1:ns=xs.toList.map (·.1):=by rw[<- nums_intItems,<- hx];show (show numsOf its.toArray.toList=ns from hi.numsOf).symm
 let el:ns.length=xs.size:=by rw[e1,GS,Il]
 show b9L (I2.ok.hd hc) hl' (λhn e2Y hk=>?_) (λhn v e2Y hv hk=>?_)
 ·show#[y,H2,I2.kept hk,rd,q0<|JH.mp #[]]
 ·let#[t',1]:=intItems_at hv;let#[mh]:=argBest_gt At<|xs.size - 1;show⟨.int _,H2,I2.kept hk,⟨_,rfl⟩,q3 _ ?_ λe2h=>?_⟩
  ·rw[numAt_eq,e1];show getD_mem (by rw[GS,Il];lia)
  ·rw[e1]at hb;let#[j,hj,1]:=mem_getD hb;rw[GS,Il]at hj;rw[<- numAt_eq];show h2 j #[]
open e
theorem P5 (K)(H):Nat->V->V->Prop
 | 0,x,y=>(∃ i,x=.int i/\y=.int i)\/∃ z,x=.str z/\y=.str z
 | k+1,x,y=>P5 K H k x y\/(∃ p q vs ws,x=.ref p/\y=.ref q/\LO K H p vs/\LO K H q ws/\Paired BJ vs ws)\/∃ p q vs ws,x=.ref p/\y=.ref q/\Nu K H p vs/\Nu K H q ws/\Paired BJ vs ws
variable {X:Cx}{ñ:ζ}{s:Ê}{σ:St}{H:Hp}
def b8F (h:∀ j,e j=true):(List.range n).all e=true:=by rw[IS];show λj _=>h j
def P5.items (ih:∀ {A:Ë}{x y:V}{v u:Value},P5 X.K H k x y->e2m v->e5P u->A.units+k<cLine->e0K v u true)(r1)(r2)(p:Paired (P5 X.K H k) vs ws)(d0d):
  ∀ j (h1:j<its.toArray.size) (h2:j<MJ.toArray.size),e0K its.toArray[j] MJ.toArray[j] true:=λj e1C=>by
 rw[HU]at h1 h2;ext d2z;let#[y',ey',l]:=Paired.at p ex;rw[ey]at ey';obtain rfl:=Option.some.inj ey';let:=ih l rx ry hu;ext d3g
def P5.eq (I):∀ (k:Nat) {A:Ë}{x y:V}{v u:Value},P5 X.K H k x y->e2m v->e5P u->A.units+k<cLine->e0K v u true
 | 0,A,x,y,v,u,h,rx,ry,hu=>by
  rcases h with⟨i,rfl,rfl⟩|⟨z,rfl,rfl⟩
  ·ext d2N;let:=b2r.eq (K:=X.K) X A ñ s σ H yq yq ĉ i i rfl I #[t,1] #[t',1] rfl rfl hu;rwa [Hf rfl]at this
  ·let:=RN.eq (K:=X.K) X A ñ s σ H AD AD v u (Sum.inr z) (Sum.inr z) rfl I rx ry rfl rfl hu;rwa [Hf rfl]at this
 | k+1,A,x,y,v,u,h,rx,ry,hu=>by
  let ih:=@P5.eq I k;rcases h with h|⟨p,q,vs,ws,rfl,rfl,h1,h2,h3⟩|⟨p,q,vs,ws,rfl,rfl,h1,h2,h3⟩
  ·show ih h rx ry #[0]
  ·cases rx
   cases ry;by_cases e:p=q
   ·subst e;ext d4o
   ·ext d2Q;ext d7I;let:=SeqAt.RcAt.lists (A:=A) (e:=λ_=>true) pl.isList V9.isList (by simp;omega) #[0]<|e72 (by rw[KG];omega);rwa [b8F λ_=>rfl]at this
  ·cases rx
   cases ry;by_cases e:p=q
   ·subst e;ext d4o
   ·let#[yv]:=I.tuple h1;let#[vm]:=I.tuple h2;ext d2w;let l3:=Paired.length h3;ext d7I;let:=SeqAt.RcAt.tuples (A:=A) (e:=λ_=>true) pl V9 #[0]<|e72 (by rw[KG];omega);rw[b8F λ_=>rfl]at this;let e2:(its.toArray.size==MJ.toArray.size)=true:=by simp;omega
    rwa [e2]at this
open e
theorem b03 (K)(H)(k:Nat)(x y:V):Prop:=∃ p q vs ws,x=.ref p/\y=.ref q/\LO K H p vs/\LO K H q ws/\Paired BJ vs ws
def Ei (K)(c8o)(h):NH X EV (d9g k Ŭ):=by
 ext d7r
 cases rx
 cases ry;ext d2Q;show SeqAt.eq_listAt pl.isList V9.isList (by simp;omega) #[0] (P5.items (P5.eq I k) r1 r2 h3 (by rw[KG];omega)) ?_;ext d8g
def DB (K)(c8o)(h):NH X Fh (d9g k xA):=by
 ext d7r
 cases rx
 cases ry;ext d2Q;show SeqAt.RcNeAt.lists (e:=λ_=>true) pl.isList V9.isList (by simp;omega) #[0] (P5.items (A:=X.A.in1) (P5.eq I k) r1 r2 h3 (by rw[KG];omega)) X.prog X.w X.xe _ ?_;ext d8g
theorem nil:Hp:=λ_=>none
def b2E:f' (grow nil H H') ň:=λa o h=>by
 unfold grow at h ⊢;ext d6W
 ·rwa [if_pos n]at h ⊢
 ·rw[if_neg n]at h;cases h
inductive tW (r:Rx)(c7w)(Q:VK):∀ F ε d,Sd F σ H ε->r ε d->(∀ x H',f' H H'->DR (grow nil H H') d x->Q x H')
variable {re:Rx}{x:Str}{k:Nat}{K:Ψ}
inductive rCp (re:Rx)(c7T):∀{l:χ},re ε EE->b8N->d=.lst l
def b4M:∀ {l:χ}{vs:π},b8N->e1u vs->LC G l vs
 | [],_,_,h=>h
 | d::l,_,f,⟨v,ws,e,h1,h2⟩=>#[v,ws,e,uo (f d<|Hi ..) h1,b4M (λe0M=>f x<|He _ hx) h2]
def dCp (hg:Gl X "list")(hm:X.mg "list"=none)(d1E)(he:starEach [e] X.env=[Ĭ]:=ă)(Of:(e0m Š).any (·.1)=false:=ă):PE X (d9k (.Name "list" p)) (tW (rCp re)):=(cY (DG X.K) hg hm boot_list (da ha Lp he) Ĺ Ĺ he Of).imp λe1H=>by let#[qe]:=gR;obtain @⟨l,h1,h2,rfl⟩:=h;show NI.go S #[h1,1] λe8Z=>?_;let#[xH]:=q1;show#[a,vs,1,.inl<|LO.of (e1v p1),λp e1D n z=>q _ H2 ļ #[p,vs,1,by rw[ax<|e1.free n];show z,b4M h2 p2]]
example{q:Õ}{rb:Rs}{st:Stmt}:=0
inductive D1 (re:Rx)(c9c):∀{l:χ},re ĩ EE->jv q rb ε l f
def qLw (hp)(hc)(hi:PE X iter (tW re))(c7d):
  QS X ŧ (D1 re q rb):=λe1l=>(e6N hs).imp fun E σ H ⟨F,ε,f,S,.mk h1 h2,p⟩=>
 #[_,_,_,S.a,h1,λx e1M ⟨a,vs,ex,ha,hv⟩=>
  let ha':=b2E ĉ ha
  #[a,ex,#[vs,LO.of<|(S.grow e1).le _ _ ha'],e3s (rE (.inl ha')<|hv.mono b2E) h2<|p.up jP]]
inductive YS (j:Nat)(q:Õ)(ε:Ev):Fl->Prop
 |mk {l:χ}{d:D}{ε':Ev}:ε[j]?=!.ow (d9d GD)->q d (ε.set j (.ow EE)) ε'->YS j q ε yD
def a3y (h:e0R (iY b0q g))(hg:Xt g q):e1F (YS j q):=λe1l=>h.imp λe0f=>by let#[Ck]:=gR;obtain @⟨l,d,ε',h1,h2⟩:=h;let#[rD,Dh,p5,p6]:=e5Y _ h1;show#[_,p1,.inl lM,a,_,(0),(0),v,2,p4,c3b,by simp[seqIndex?],1,hg ą ą v _ (e2I b5O) p5 h2 λσ' S'=>p σ' _ F ě S']
inductive a53 (x:V)(c64):∀ (l:Addr)(xs:η)(z:Str)(k:Nat),x=.ref l->vs=[.str z]->H l=!.lst gI->xs[k]?=!z->b6D->Q .non (d9Q l ((xs.eraseIdx k).map V.str))
theorem a8m (z:Str):Value->Bool
 | .str a _=>a==z
 | _=>false
def c2X:∀ {xs:η}{us:θ},sY gI us->us.length=xs.length/\∀ (i:Nat) u,us[i]?=!u->∃ x t,xs[i]?=!x/\u=.str x t
 | [],_,h=>by cases h;show#[1,λi u e=>by simp at e]
 | x::xs,_,h=>by
  cases h with
  | cons a b=>
   let#[t,1]:=a;let#[l,f]:=c2X b;show#[by simpa using l,λi u e=>match i with
    | 0=>#[x,t,1,(Option.some.inj e).symm]
    | i+1=>f i u e]
def l8 (f:α->β):∀ (l:List α)(k:Nat),(l.eraseIdx k).map f=(l.map f).eraseIdx k
 | [],_=>rfl
 | _::_,0=>rfl
 | _::l,k+1=>congrArg _ (l8 f l k)
def b0i:DU X "list.remove" a53:=by
 ext d2W;let#[l,xs,z,k,2,hH,hk,hno,q]:=h
 ext d4t;let#[t,1]:=ru;let#[z',its,n,r,hl,e]:=I.UE hH;let#[len,f]:=c2X r;let kl:=(GW.mp hk).1;show KC F.slot_list_remove x6 F.entry_list_remove (F.args_list_remove_2 ĉ)
  (MeetsSeq.list_remove l its.toArray n _ (a8m z) (λe16=>?_) k (by rw[HU];omega) ?_ (λm hm hmk=>?_) (by rw[HU];omega)) pi
 ·let#[i,hi]:=IT.mp (by simpa using hy);let#[x,t',_,1]:=f i y hi;show eqGives_str x z t' t
 ·let#[x,t',mh]:=f k its[k]<|GT #[0];rw[hk]at h1;cases h1;ext d7Z;show Jv.mpr rfl
 ·let#[x,t',mh]:=f m its[m]<|GT hm;ext d7Z;show JC.mpr λw=>hno m hmk ?_;rw[h1,w]
 ·show#[.non,_,I.Y6 (its':=its.eraseIdx k) hH e ?_ (r.eraseIdx k |> λr=>?_) ?_,1,q]
  ·rw[List.eraseIdxIfInBounds_toArray]
  ·let e2:(xs.eraseIdx k).map V.str=(xs.map V.str).eraseIdx k:=l8 Ĉ;rw[e2];show r
  ·let:=lg gI k;rw[l8];omega
inductive a3s (j:Nat)(c79):Fl->Prop
 |mk {xs:η}{z:Str}{k:Nat}:ε[j]?=!.ow (d9d Ku)->re ĩ AD->xs[k]?=!z->b6D->a3s j re ε (d8S j (.lst ((xs.eraseIdx k).map .str)))
def a6B:∀ {xs:η}{vs:π},LC F Ku vs->vs=xs.map V.str
 | [],_,h=>h
 | x::xs,_,⟨v,ws,e,h1,h2⟩=>by rw[e,show v=.str x from h1,a6B h2];rfl
def c3r:∀ {xs:η},LC F Ku gI
 | []=>rfl
 | _::_=>#[_,_,2,c3r]
def a7B (h:e0R (zO (tBM K "list" a53 (kH j) (lF te lW))))(c7D):e1F (a3s j re):=λe1l=>h.imp λe0f=>by let#[Ck]:=gR;obtain @⟨xs,z,m,h1,h2,h3,h4⟩:=h;let#[rD,p5]:=e5Y _ h1;let e:=a6B p5;subst e;show#[_,p1,.inl lM,k Ĉ<|e7u h2 λe0u=>#[a,xs,z,m,1,by rw[show x=.str z from q1],e1I p4,h3,h4,f0Z F ě<|(S.MR e1).chg h1 p1 #[_,af,c3r]]]
open e
theorem BN (a:Ξ):List Ξ->Θ
 | []=>[a]
 | b::l=>if bI b a=true then b::BN a l else a::b::l
theorem dA (l:Θ):Θ:=l.foldr BN []
def lm (a:Ξ):∀ l,(BN a l).Perm (a::l)
 | []=>List.Perm.refl _
 | b::l=>by
  ext1 BN;split
  ·show ((lm a l).cons b).trans (List.Perm.swap a b l)
  ·show List.Perm.refl _
def bH:∀ l,(dA l).Perm l
 | []=>List.Perm.refl _
 | a::l=>(lm a<|dA l).trans ((bH l).cons a)
abbrev ST (l:Θ):Prop:=l.Pairwise λa b=>bI b a=false
def b5l (ha:a.length=n):∀ {l:Θ},b7I->ST l->ST (BN a l)
 | [],_,_=>e5D _
 | b::l,h,u=>by
  let#[ZE]:=Jx.mp u;let hb:=h b Hi;let hl:=λe2T=>h r<|He _ hr;ext1 BN;by_cases c:bI b a=true
  ·ext d3S;show Jx.mpr #[λe2T=>?_,b5l ha hl u2];rcases Hs.mp ((lm a l).mem_iff.mp hr) with rfl|hr
   ·show c1m c
   ·show u1 r hr
  ·ext d3j;let c:=Bool.eq_false_iff.mpr c;show Jx.mpr #[λe2T=>?_,u];rcases Hs.mp hr with rfl|hr
   ·show c
   ·show a6H (ha.trans hb.symm) (hb.trans (hl r hr).symm) c (u1 r hr)
def iw:∀ {l:Θ},b7I->ST (dA l)
 | [],_=>List.Pairwise.nil
 | a::l,h=>b5l (h a Hi) (λe2T=>h r<|He _ ((bH l).mem_iff.mp hr)) (iw λe2T=>h r<|He _ hr)
def b54:∀ {x y:Ξ},x.length=y.length->bI x y=false->bI y x=false->x=y
 | [],[],_,_,_=>rfl
 | a::x,b::y,e,h1,h2=>by
  unfold bI at h1 h2;by_cases c:a=b
  ·rw[if_pos c]at h1;rw[if_pos c.symm]at h2;rw[c,b54 Zz h1 h2]
  ·rw[if_neg c]at h1;rw[if_neg<|Ne.symm c]at h2;let:=ID h1;let:=ID h2
   lia
 | [],_::_,e,_,_=>by simp at e
 | _::_,[],e,_,_=>by simp at e
def lf (h:∀ r∈l,r.length=n)(p:m.Perm l)(u:ST m):m=dA l:=by let q:=p.trans (bH l).symm;show List.Perm.eq_of_pairwise (λa b ha hb e1C=>?_) u (iw h) q;show b54 ((h a<|p.mem_iff.mp ha).trans (h b<|(bH l).mem_iff.mp hb).symm) h2 h1
def f2u (d:α)(d0c):(List.range l.length).map (λi=>l.getD i d)=l:=by ext d41
def c3f {p:À}(h:∀ r∈rs,r.length=n)(hp:p.Perm b7J)(u:∀ a b,a<b->b<rs.length->bI (rs.getD zi []) (rs.getD v9 [])=false):p.map b94=dA rs:=by
 let hl:p.length=rs.length:=by rw[hp.length_eq,HV]
 show lf h ?_ ?_
 ·let:=hp.map λi=>rs.getD i [];rwa [f2u]at this
 ·show Kf.mpr λe4K hij=>?_;rw[GS]at hi hj;let:=u i j hij #[0];let e:∀ k (hk:k<p.length),p.getD k 0=p[k]:=λe8a=>by rw[GV,GT hk];rfl
  rw[e i hi,e j hj]at this;rw[List.getElem_map,List.getElem_map];show this
def a5B (hl:e26 vs.toArray)(d0p)(h:∀ p:À,p.Perm DW->Xi0->Q (d9c į) { s with heap:=sortedAll s.heap vs (p.map λi=>e3U Value.none).toArray }):
  wpAny ē A (call qN Ky) Q E s:=by
 show Calls.call_function_entry kind_sorted plain_sorted entry_sorted c2o ?_;ext d39;show GU (collect_list hl ?_);show GU (Lg ?_);let hsz:((s.heap.push<|seqObj "list" [].toArray 0).update s.heap.objs.size<|Obj.mapSeq xg).objs.size=s.heap.objs.size+1:=by rw[Heap.size_update,size_push']
 let Zj:(((s.heap.push<|seqObj "list" [].toArray 0).update s.heap.objs.size<|Obj.mapSeq xg).push<|seqObj "list" vs.toArray 0).get? į=!seqObj "list" vs.toArray 0:=by rw[<- hsz];show HG _ rfl
 let keep:∀ b o,s.heap.get? b=!o->(((s.heap.push<|seqObj "list" [].toArray 0).update s.heap.objs.size<|Obj.mapSeq xg).push<|seqObj "list" vs.toArray 0).get? b=some o:=λe32=>by let Nt:=HF q;rw[Lf Ĉ (by rw[hsz];show HR<|Jz Nt),e6r _<|HR Nt,Lf _ _ _<|HR Nt];show q
 rw[hsz];show GU (Io<|e17 (oC Zj U8 hn (T.keep keep) (λi v hv z=>?_) λp a1 a2=>mE) (args_list_sort _))
 ·let tl:=T.1;let hi:=(GW.mp hv).1;let#[_,a,o,xs,k,e,q,_]:=T.2 i v _ hv<|GT #[0];ext d4J;show absurd (HF q) (Nat.not_lt.mpr<|KK _)
 ·show Hk #[_,1,h p a1 a2]
theorem isNs (n)(H)(v)(r:Ξ):Prop:=∃ a,v=.ref a/\H a=!.tup (r.map V.int)/\r.length=n
theorem a58:List V->Hp->VK->Prop:=λe1r=>∃ (l:Addr)(ts:π)(rs:Θ)(n:Nat),xs=Ky/\H l=!.lst ts/\rs.length<64/\1<=n/\Paired (isNs n H) ts rs/\∀ p:À,p.Perm b7J->p.map b94=dA rs->Nx H (d9d b5d) Q
def b5M (r:sY ts its):∀ {p:À},(∀ i∈p,i<ts.length)->sY b5d (p.map λi=>e9Z Value.none)
 | [],_=>.nil
 | i::p,h=>by let hi:=h i Hi;let#[u,mh]:=r.get<|GT hi;show .cons ?_<|b5M r λe7W=>h j<|He _ hj;change rp (ts.getD i .non) (e9Z Value.none);rw[GV,GV,GT hi,h1];show h2
def b0V:Md X qN a58:=by
 ext d2r;let#[l,ts,rs,n,1,hH,U8,hn,hp,q]:=h;ext d3N
 cases rx;let#[z',its,k,r,hl,e]:=I.UE hH;let tl:=Paired.length hp;let il:=r.length;show a5B (rs:=rs) #[_,e,1,k,1] #[0] hn #[#[0],λi v row e1C=>?_] λp a1 a2=>?_
 ·let hi:i<ts.length:=by rw[il];show (GW.mp h1).1
  let#[u,PB]:=r.get<|GT hi;let#[a7r,g3,a,g4,g5,g6]:=e4o (GT hi);rw[h1]at g1;cases g1;rw[h2]at g3;cases g3;rw[g4]at g2;cases g2;let#[_,its',rv,o,ho,hc,m,hd]:=I.LJ a _ g5;show#[g6,a,o,its'.toArray,m,1,ho,hc,hd,by simpa using b93 rv]
 ·let#[ep,hat]:=sortedAll_at s.heap its (p.map λi=>e9Z Value.none).toArray;let e1:its.length=rs.length:=#[0]
  rw[e1]at a1 a2;let rl:∀ r∈rs,r.length=n:=λe2T=>by
   let#[i,hi]:=IT.mp hr;let Nt:i<ts.length:=by rw[tl];show (GW.mp hi).1
   let#[a7r,g3,a,g4,g5,g6]:=e4o (GT Nt);rw[hi]at g3;cases g3;show g6
  let pl:p.length=rs.length:=by rw[a1.length_eq,HV]
  show#[.ref _,_,I.laid (λ_ _=>sortedAll_old) (KK _)<|show LP X.prog X.w _ _ _ Bu from #[by rw[GS,pl];show HH (Ka U8)<|by decide,_,ep,b5M r λe8X=>?_,by simpa using hat],1,(q p a1<|c3f rl a1 a2).at c0o];let:=a1.mem_iff.mp hi;rw[HP]at this;omega
abbrev tD (r:Ξ):D:=.tup (r.map .int)
def Cz (s):∀ {rs:Θ}{vs:π},zr->LC F DF vs->Paired (isNs n H) vs rs
 | [],_,_,h=>by cases h;show .nil
 | r::rs,_,hl,⟨v,ws,e,⟨a,us,h1,h2,h3⟩,h4⟩=>by subst e;show .cons #[a,h1,?_,hl r Hi]<|Cz s (λe2T=>hl r<|He _ hr) h4;rw[<- i4 h3];show s ĉ h2
def jU (h:LC F ds vs):∀ {p:À},(∀ i∈p,i<ds.length)->LC F (d9T ds.getD) (d9T vs.getD)
 | [],_=>rfl
 | i::p,k=>by
  let#[v,mh]:=h.at (GT<|k i Hi)
  show#[_,_,1,?_,jU h λe7W=>k j<|He _ hj];change DR F (ds.getD i .non) (e3U .non);rw[GV,GV,h1,GT<|k i Hi];show h2
def a62 {rs:Θ}{p:À}(k:∀ i∈p,i<rs.length):(p.map λi=>(rs.map tD).getD i .non)=(p.map λi=>rs.getD i []).map tD:=by rw[GY];show HA λe8X=>?_;change (rs.map tD).getD i .non=tD (rs.getD i []);rw[GV,GV,Hh,GT<|k i hi];rfl
inductive cSt:Ä
 |mk {rs:Θ}{n:Nat}:rs.length<64->1<=n->zr->cSt [.lst DF] b7o
def c23:Cb cSt a58:=λf0w=>by obtain @⟨rs,n,U8,hn,hl⟩:=z;let#[xH]:=hx;show#[a,vs,rs,n,1,s ĉ p1,U8,hn,Cz s hl p2,λe7V e=>λD e1M n1 z1=>q ĉ e1 ?_];let k:∀ i∈p,i<rs.length:=λe8X=>HP.mp<|hp.mem_iff.mp hi;show#[D,_,1,by rw[ax n1];show z1,?_];let:=jU p2 c06;rw[a62 k,e]at this;show this.mono (aj s)
inductive yx (i:Nat)(ε:Ev):Fl->Prop
 |mk {rs:Θ}{n:Nat}:ε[i]?=!.ow (d9d DF)->rs.length<64->1<=n->zr->yx i ε (d8S i b7o)
def a0b (c9Y)(h:e0R (iY (tCB a58 (lF s0 lW)) vS)):e1F (yx i):=λe1l=>h.imp λe0f=>by
 ext d5R;obtain @⟨rs,n,h1,h2,h3,h4⟩:=h;let#[rD,p5]:=e5X _ h1;show#[_,p1,a,vs,rs,n,1,p4,Fd,Cz S.le h4 p5,λe3Y e D e1M n1 z1=>?_];let k:∀ j∈q,j<rs.length:=λe7W=>HP.mp<|hq.mem_iff.mp hj;let w:=jU p5 (p:=q) c06;rw[a62 k,e]at w;let u:f' F (aJ D<|e8v H1):=λb o y=>by rw[aF (λz=>by rw[z]at y;rw[e3N y]at n1;cases n1)];show aj S.le ĉ y
 let#[F',u',S']:=S.a3g i n1 e1<|show V2 (aJ D<|e8v H1) H1 Bu D from #[_,z1,w.mono u];show p _ H1 F' u' S'
theorem Y5:List Int->Int
 | []=>0
 | a::l=>if l=[] then a else max a (Y5 l)
def b8w:∀ {l:Ξ},l≠[]->Y5 l∈l/\∀ j∈l,j<=Y5 l
 | [],h=>absurd rfl h
 | a::l,_=>by
  ext1 Y5;by_cases c:l=[]
  ·rw[if_pos c,c];show#[Ht.mpr rfl,λe7W=>by rw[Ht.mp hj];show K6 _]
  ·ext d3j;let#[mh]:=b8w c;show#[?_,λe7W=>?_]
   ·rcases Int.le_total a (Y5 l) with h|h
    ·rw[Int.max_eq_right h];show He _ h1
    ·rw[Int.max_eq_left h];show Hi
   ·rcases Hs.mp hj with rfl|hj
    ·show Int.le_max_left ĉ
    ·show L1 (h2 j hj) (Int.le_max_right ĉ)
def a9S:bootBuiltins "max"=!.builtin "max":=by decide +kernel
variable {re:Rx}
inductive rMx (re:Rx)(c7T):∀{ns:Ξ},re ε (rw ns)->d=.int (Y5 ns)
def a5k (c9T)(d1E)(hk:PK X [kw] c2K)(c8K)(Xa:(e1t jz).filterMap (·.1)=(["default"]:η):=ă)(he:e0m CT=Ĭ::e0m Š:=ă)(ON)(U7:(e1t jz).all (·.1.isSome)=true:=ă)(hkw:(e1t jz).any (·.1.isNone)=false:=ă):
  PE X (.Call (.Name "max" p) [e] [kw] pos) (tP (rMx re)):=(FF X.K hc hg hm a9S (da ha Lp hs) hk rfl Xa he ON U7 hkw).imp λe1H=>by
 ext d8w;obtain @⟨ns,h1,rfl⟩:=h;show NI.go S #[h1,1] λe8Z=>?_;let#[xH]:=q1;let ev:=i4 p2;subst ev;show#[a,ns,.int 0,2,LO.of<|e1v p1,λz=>?_,λm Vf hm2=>?_]
 ·subst z;show q _ H1 e1 rfl
 ·let:m=Y5 ns:=by
   let#[zC]:=b8w (l:=ns) (λz=>by rw[z]at Vf;cases Vf);let:=hm2 _ h3;let:=h4 _ Vf
   lia
  rw[this];show q _ H1 e1 rfl
open e
theorem kD':Ws->D
 | .inl i=>.int i
 | .inr x=>.str x
def Ae:∀ {ks:List Ws}{vs:π},LC F tV vs->Paired (isA H) vs ks
 | [],_,h=>by cases h;show .nil
 | k::ks,_,⟨v,ws,e,h1,h2⟩=>by
  subst e;show .cons ?_ (Ae h2)
  cases k with
  | inl i=>show h1
  | inr x=>show h1
def sE {K:Ψ}(s):∀ {l:List (List Ws)}{vs:π},LC F (l.map λks=>.tup tV) vs->Paired (wS K isA H) vs l
 | [],_,h=>by cases h;show .nil
 | ks::l,_,⟨v,ws,e,⟨a,us,h1,h2,h3⟩,h4⟩=>by subst e;show .cons #[a,us,h1,Nu.of<|s _ _ h2,Ae h3] (sE s h4)
inductive yo:D->D->D->Prop
 |mk {l:List (List Ws)}:yo (.lst (l.map λks=>.tup tV)) EN b8Q
def a3I {K:Ψ}:SU yo (λe4r=>∃ as bs,wT K jY H x as/\wT K jY H y bs/\Q c0u H):=λe0s=>by
 ext d8h
 cases h4;show#[c5G]
abbrev lu (e:Int×Str×Int×Ξ):D:=.tup [.int e.1,.str e.2.1,.int e.2.2.1,rw e.2.2.2]
def rf {K:Ψ}:∀ {ns:Ξ}{vs ws:π},LC F i8 vs->LC F i8 ws->Paired (P5 K H 0) vs ws
 | [],_,_,h,h'=>by cases h;cases h';show .nil
 | n::ns,_,_,⟨v,vs,e,h1,h2⟩,⟨w,ws,e',h3,h4⟩=>by subst e e';show .cons (.inl #[n,h1,h3]) (rf h2 h4)
def b8A {K:Ψ}(s):∀ {es:List (Int×Str×Int×Ξ)}{vs ws:π},LC F ZF vs->LC F ZF ws->Paired (P5 K H 2) vs ws
 | [],_,_,h,h'=>by cases h;cases h';show .nil
 | e::es,_,_,⟨v,vs,ev,h1,h2⟩,⟨w,ws,ew,h3,h4⟩=>by subst ev ew;show .cons ?_<|b8A s h2 h4;let#[a,us,1,ha,v1,_,1,g1,v2,_,1,g2,v3,_,1,g3,v4,_,1,g4,1]:=h1;let#[b,us',1,hb,w1,_,1,k1,w2,_,1,k2,w3,_,1,k3,w4,_,1,k4,1]:=h3;let#[c,xs,1,hc,xr]:=g4;let#[d,ys,1,hd,yr]:=k4;show .inr (.inr #[a,b,_,_,2,Nu.of<|s _ _ ha,Nu.of<|s _ _ hb,.cons (.inl<|.inl #[_,g1,k1])<|.cons (.inl<|.inr #[_,g2,k2]) (.cons (.inl<|.inl #[_,g3,k3])<|.cons (.inr<|.inl #[c,d,xs,ys,2,LO.of<|s _ _ hc,LO.of<|s _ _ hd,rf xr yr]) .nil)])
def a6f {K:Ψ}(s){es:List (Int×Str×Int×Ξ)}(hu:DR F DT u)(hv:DR F DT v):b03 K H 2 u v:=by ext d30;show#[a,b,vs,ws,2,LO.of<|s _ _ h1,LO.of<|s _ _ h3,b8A s h2 h4]
inductive fLk (n:Bool):D->D->D->Prop
 |mk {es:List (Int×Str×Int×Ξ)}:fLk n DT DT (.bl n)
def a74 {K:Ψ}:SU (fLk n) (d9g 2 (.bl n)):=λe0s=>by let⟨⟩:=z;show#[a6f s hu hv,e00 rfl]
universe L2
namespace K72
open PySem L2
open PyProof.Rows (boot_all boot_bool boot_dict boot_int boot_list boot_sorted boot_str boot_tuple)
variable {c:Cl}{C:Addr}
inductive Sv (c7L):Ä
 |mk {S:NS}{ns:η}{p:Int}{ř:List bo}{msg:Ξ}{fo:Λ}:ord S ns->b6q->S.Lj.length<=1000->My.O2 p=true->yd p Ŏ ř fo->Sv c ord [tG,qt,SM fo] (Rq (T7 (·.1) (bc p ř msg fo Ŏ [])))
def a4w [Bx:Bd](F:MM Bx.K "sent" "sent" (top 62) f fd)(LQ)(LH)(Qh):QN MY 5 f fd è (d8W Sv):=by
 show MM.dw F [] ?_ λe7b=>(qr<|dF Qh hr.m rfl (da b3N<|da (e9N rfl<|e0S Lp) (da (Đ 1)<|e01 A4)))
 rintro _ _ @⟨S,ns,p,ř,msg,fo,ho,hn,hl,hP,W⟩;ext d7W;show#[1,.inl #[#[#[c1F,b7b,4],#[W]],1]]
def c1k (c9q){i:Nat}{x y:α}(h1:xs[i]?=!x)(h2:xs[j]?=!y)(e:x=y):i=j:=by let#[a,b]:=GW.mp h1;let#[c,d]:=GW.mp h2;show (List.getElem_inj nd).mp (by rw[b,d,e])
structure a5A (mg:Ω):Prop where
 a3T:mg "max"=none
theorem OM (c7t)(L)(x):Int:=Y5 a6K
abbrev oH (ns:η)(L:Str->Int):D:=MU (ns.map λx=>(.inr x,.int (L x)))
inductive fT (c7L):Ä
 |mk {S:NS}{ns:η}{L:Str->Int}:ord S ns->ns.Nodup->ns.length<=1000->S.Lj.length<=1000->(∀ (i:Nat) x,ns[i]?=!x->∀ t∈S.Lj,t.2.2.1=x->t.2.1∈ns.take i)->(∀ x∈ns,L x=OM S.Lj L x)->fT c ord yP (oH ns L)
def b45 [Bx:Bd](T:a5A Bx.mg)(Lq)(MD):Tk 3 "lateness" (top 68) ["net"] (d8W fT):=by
 show N7 ["ties",lB] ?_ λd9Y=>(qC (d84 1 Lq)
 (qC (d9K 2)
 (qC (e0w b69 vd (aI 3)
  (q1 (qP (e3w zB (Đ 3) (a5k rfl rfl T.a3T (e9k (cS 4 [2,3] [Ai,lB]) Pi
  ģ
  (λe0i=>bK<|e97 (Đ 5))
  (λe0i=>Tj b9o<|Đ 3))<|a5f aK a0h) rfl) λe0N=>h)))
 jc)))
 rintro _ _ @⟨S,ns,L,ho,nd,nz,tz,hb,hL⟩;show .nx #[c6T,#[tz]] ZQ;show cW ns (λf2q=>∃ o3,ε=[.fz<|aH c S,.fz<|aZ S.Lj,.ow<|oH (ns.take i) L,o3]) ⟨_,rfl⟩ ⟨⟨rfl,rfl,by decide,⟨ho⟩⟩,.l .lst⟩ (λe2O=>?_) λe3y=>?_
 ·let#[o3,he]:=gR;subst he;let xi:x∉ns.take i:=λz=>by
   ext d5g;let:=c1k nd (GT<|show j<ns.length by lia) hx ej
   lia
  let e1:rw ((S.Lj.filter λt=>decide Ř).map λt=>L t.2.1+t.2.2.2)=.lst _:=e2e GY;let nw:(.inr x:Ws)∉((ns.take i).map λx=>((.inr x:Ws),D.int<|L x)).map (·.1):=λz=>by rw[GY]at z;let#[y,mh]:=GX.mp z;show xi (Sum.inr.inj h2▸h1)
  show#[_,1,_,#[1,by rw[GS,Hm];lia,.a #[by rw[e1];show bd (u:=bu) (λt=>decide Ř) m8 tz λe4t=>#[yn,eq_str rfl rfl,λe=>#[#[2,.k (cG (By (by rw[Ks];show nd.sublist<|JA _ _))<|Ho (hb i x hx t ht<|HB e)) kS],1,.i]],1] rfl,1,kS],.fz<|.str x,?_];rw[aO hx,show oH (ns.take i++[x]) L=MU (_++[_]) from congrArg MU GZ,<- cr nw,hL x<|Hb hx];rfl
 ·let#[_,he]:=gR;ext d5a
inductive Ts (c7r):Ä
 |no {p:Int}{a b d e:D}:Ts C [fD C p,.tup c07,d,e] .non
 |yes {p:Int}{t:Θ}{ks:Ξ}{cs:Cs}:0<p->p<=1000000->(∀ z∈t,UT p z/\z.length<=1000)->t.length<=1000->ks.length<=1000->(∀ k∈ks,∃ n,aU cs k=some n)->Ts C [fD C p,.tup [.str "reads",tb t],rw ks,Rq cs] (rw (Mx.M3 p t (ks.map λk=>(aU cs k).getD 0)))
def b5Z [Bx:Bd](MW):Tk 5 "read_message" (top 69) b1k (d8L Ts):=by
 show N7 [] ?_ λd9Y=>(qC (qI (e4C c14 jk)
  jr
  q0)
 (qr (f1Z (e0S (da c14 (da (e0y (cS 1 [3] b9f) qL
  Ĕ
  P4
  ź) Lp))))))
 rintro _ _ h
 cases h with
 | @no p a b d e=>
  let r:=ne_str (ε:=[some<|fD C p,some<|.tup c07,!d,!e]) (ra:=e18 ZU<|rC FV) (rb:=rC<|.str "reads") sB rfl;show .rt (.t r #[2])
 | @yes p t ks cs p0 p1 ht tz kz hk=>
  let r:=ne_str (ε:=[some<|fD C p,some<|.tup [.str "reads",tb t],some<|rw ks,some<|Rq cs]) (ra:=e18 ZU<|rC FV) (rb:=rC<|.str "reads") ⟨rfl,rfl,.t rfl⟩ rfl;show .nx (.f r rfl) ⟨⟨⟨rfl,⟨rfl,rfl,.t rfl⟩,cy (h:=λk=>.int _) m8 kz (λk Us=>#[_,3,by let#[n,hn]:=hk k Us;rw[hn];show .k (sC hn) kI])<|e2e GY,rfl⟩,#[p0,p1,ht,tz]⟩,rfl⟩
open e
universe K72
namespace L2
open PySem PySem.Spec PyProof.Rows PySem.W
theorem ZI (kz:Ξ)(p:À):Prop:=∀ a b,a<b->b<p.length->kz.getD v9 0<=kz.getD zi 0/\(kz.getD zi 0<=kz.getD v9 0->p.getD a 0<p.getD b 0)
theorem sy (kz:Ξ)(vs out:θ):Prop:=∃ p:À,p.Perm DW/\out=p.map (λi=>e3U Value.none)/\ZI kz p
variable {prog:É}{w:World}{A:Ë}
structure SK (prog:É)(w:World)(A:Ë)(f:Value)(vs:θ)(kz:Ξ)(G:List (Addr×Obj)->Shared->Prop):Prop where
 get:∀ {own s a o},G own s->(a,o)∈own->s.heap.get? a=!o
 sub:∀ {own a0p s},G own s->(∀ p∈a0p,p∈own)->G a0p s
 kept:∀ {own s h' tk},G own s->b0F->G own { s with heap:=h',toks:=tk }
 grow:∀ {own s h' tk a o},G own s->b0F->s.heap.objs.size<=a->h'.get? a=!o->(∀ v,o.data≠.cell v)->G ((a,o)::own) { s with heap:=h',toks:=tk }
 put:∀ {own s h' a o o'},G ((a,o)::own) s->(∀ p∈own,p.1≠a)->Heap.SameBut a s.heap h'->h'.get? a=!o'->(∀ v,o'.data≠.cell v)->G ((a,o')::own) { s with heap:=h' }
 turn:∀ {own:ζ}{s:Ê}{i:Nat}{v:Value}{k:Int},vs[i]?=!v->kz[i]?=!k->G own s->wpAny ē A (call f [v]) (λr s'=>∃ t,r=.int k t/\G own s') (λ_ _=>False) s
example{kS:Addr}:=0
def b2h:∀ {us:θ}{ns:Ξ}{i:Nat},e5Q ns->i<ns.length->∃ t,us.getD i Value.none=.int (ns.getD i 0) t
 | _,[],_,_,h=>by simp at h
 | _,_::_,0,.cons n t _,_=>#[t,1]
 | _,_::_,i+1,.cons n t r,h=>b2h (i:=i) r ų
def kX:∀ v,(seqObj "list" xs n).data≠.cell v:=λ_ z=>nomatch z
def c3H {st:SortSt}(c88)(hsz2:(arrOf st).size=vs.length)(ho:sy kz vs ((arrOf st).map (·.2)).toList)(hfl:failedOf st=none)(c8g):
  wpAny ē A (ksk_tail a false e1 (d9c kS) st) P E s:=by
 let nk:=S.get g<|Hi;let na:=S.get g<|He _ Hi;let hsz:keys.size=vs.length:=by let h1:=hk.length;rw[Il]at h1;omega
 let s1:=JD s.heap kS<|Obj.mapSeq λ_=>([].toArray:Ó);obtain⟨c1,hc1⟩:∃ c1,(s.heap.update kS<|Obj.mapSeq λ_=>([].toArray:Ó)).get? kS=!seqObj "list" [].toArray c1:=#[_,KP nk λ_=>[].toArray]
 let g1:=S.put g (λe7V=>by rw[Ht.mp hp];show hka.symm) s1 hc1 kX;let na1:=S.get g1<|He _ Hi;let s2:=JD (s.heap.update kS<|Obj.mapSeq λ_=>([].toArray:Ó)) a<|Obj.mapSeq λ_=>(arrOf st).map (·.2);obtain⟨c2,Yg⟩:∃ c2,((s.heap.update kS<|Obj.mapSeq λ_=>([].toArray:Ó)).update a<|Obj.mapSeq λ_=>(arrOf st).map (·.2)).get? a=!seqObj "list" ((arrOf st).map (·.2)) c2:=
  #[_,KP na1 λ_=>(arrOf st).map (·.2)]
 let g2:=S.put (own:=[]) (S.sub g1 λe7V=>He _ hp) b9p s2 Yg kX;ext1 ksk_tail;try dsimp only
 show GU (Km nk rfl ?_ (by rw[hsz,IY];omega)<|HW _);show GU (L8 ?_);show GU (seqEpoch_at na1 rfl ?_);show GU (Km na1 rfl ?_ (HW _) (by simp only[Ix,Ju,Array.size_map];rw[hsz2,IY];omega));rw[hfl];ext d63;show Hk (h ĉ c2 rfl g2 ho)
def a7y (c88)(c8g):
  wpAny ē A (ksk_end a false vs.toArray e1 (d9c kS) keys) P E s:=by
 let hsz:keys.size=vs.length:=by let h1:=hk.length;rw[Il]at h1;omega
 let hzs:(keys.zip vs.toArray).size=vs.length:=by rw[Array.size_zip,hsz,HU,Nat.min_self]
 ext1 ksk_end;try dsimp only
 ext d7q
 ·ext d62;ext d39;try dsimp only
  let er:(keys.zip vs.toArray).map (·.2)=vs.toArray:=by apply Array.toList_inj.mp;show Jk (by simp[hsz]) λi c1 c2=>?_;simp
  show c3H S g hka hk hlen U8 hzs ?_ rfl h;show#[List.range vs.length,List.Perm.refl _,?_,λe1V=>?_]
  ·change ((keys.zip vs.toArray).map (·.2)).toList=_;rw[er];show Jk Ė λi c1 c2=>?_;simp[c1]
  ·rw[HV]at hb;rw[HU]at h2;omega
 ·rw[if_neg h2,if_neg h2];rw[HU]at h2;rw[ksk_kind hk (by rw[hsz];omega)];ext d39;let kl:keys.toList.length=vs.length:=by rw[Il,hsz]
  show GU (II (kat_run (Q:=λQ4 s'=>s'=s/\∃ p:Array Nat,e9p vs.length/\So.V1 (λi j=>decide _) p vs.length/\arrOf Q4=p.map _/\failedOf Q4=none)
   (G:=λp s'=>s'=s/\So.Pre p vs.length vs.length/\So.V1 (λi j=>decide (kz.getD i 0<kz.getD j 0)) p vs.length) kl #[0] U8 (λp Q4 s' e4s=>b4g) ?_) ?_ λ_ _ e=>e)
  ·show So.Vx b8L #[λ{i j} h=>?_,λ{i j k} h1 h2=>?_] #[0] b7m
   ·let at_:∀ i,i<vs.length->∃ t,keys.toList.getD i Value.none=.int _ t:=λe8X=>by let#[t,ht]:=b2h hk (show i<kz.length by omega);show#[t,ht]
    let#[t,e1]:=at_ i hi;let#[u,e2]:=at_ j hj;ext1 kas_ask;rw[e1,e2];show kat_lt_int q
   ·let:=HB h;ext d6L
   ·let:=ID h1;let:=ID h2;ext d6L
  ·ext d4H;try dsimp only
   let hz:=q1.size;let TY:(arrOf Q4).size=vs.length:=by rw[har,Array.size_map,hz]
   show c3H S g hka hk hlen U8 TY #[p.toList,by simpa using Array.perm_iff_toList_perm.mp q1.perm,?_,λe1V=>?_] hf h
   ·rw[kat_snds kl har]
   ·rw[Il,hz]at hb;let e1:∀ i,f1w 0=So.g p i:=λi=>by ext1 So.g;rw[Iu,GV,KA]
    let#[r1,r2]:=q2 a b SG hb;rw[e1,e1];show#[Int.not_lt.mp<|ID r1,λz=>r2<|Hg #[0]]
def Key (d1J)(g:G [(kS,seqObj "list" [].toArray 0),(a,seqObj "list" [].toArray e1)] s)(hka)(c8k):
  wpAny ē A (ksk_rest a f false vs.toArray e1 (d9c kS)) P E s:=by
 show GU kW
 first
  | rw[List.forIn_toArray]
  | (simp only)
  | rw[<- Array.forIn_toList]
 show GU (ksk_fold (λi s'=>∃ kA e,G [(kS,seqObj "list" kA e),_] s'/\IntsAre kA.toList (kz.take i)) vs 0 s
  #[[].toArray,(0),g,by simpa using IntsAre.nil] ?step ?done)
 case step=>
  rintro j x s' hx ⟨kA,e,g',hk⟩;simp only[Nat.zero_add]at hk ⊢;let hj:=(GW.mp hx).1;obtain⟨k,hkj⟩:∃ k,kz[j]?=!k:=#[_,GT<|by omega]
  let hz:kA.size<=vs.length:=by let h1:=hk.length;rw[Il,Hm]at h1;omega
  show GU (Lh<|II (S.turn hx hkj g') (λv Wm he=>?_) λ_ _ hF=>hF.elim);let#[t2,1,g2]:=he;try dsimp only
  let nk:=S.get g2 Hi;let s1:=JD Wm.heap kS<|Obj.mapSeq b8R;obtain⟨c2,Yg⟩:∃ c2,(Wm.heap.update kS<|Obj.mapSeq b8R).get? kS=!_:=#[_,KP nk _]
  let ek:kz.take (j+1)=kz.take j++[k]:=by rw[IM,hkj];simp
  let ea:(kA.push<|Value.int k t2).toList=kA.toList++[Value.int k t2]:=by simp
  show GU (Km nk rfl ?_ (by rw[IY];omega)<|HH (KZ<|Array.size_push ..) (by rw[IY];omega));show Hk ⟨rfl,kA.push _,c2,S.put g2 (λe7V=>by rw[Ht.mp hp];show hka.symm) s1 Yg kX,by rw[ea,ek];show ksk_snoc hk⟩
 case done=>
  rintro s' ⟨kA,e,g',hk⟩;let Us:IntsAre kA.toList kz:=by let e3:kz.take (0+vs.length)=kz:=Ir #[0];rw[e3]at hk;show hk
  let nk:=S.get g' Hi;try dsimp only
  show GU (listItems_at nk rfl ?_);show a7y S g' hka Us hlen U8 λs2 out c _ g2 k2=>h s2 out c g2 k2
def c0G (d1J)(g:G [(a,seqObj "list" vs.toArray n)] s)(c8k):
  wpAny ē A (ksk_tree a f false) P E s:=by
 let ho:=S.get g Hi;let s1:=JD s.heap a<|Obj.mapSeq λ_=>[].toArray;obtain⟨e1,ho1⟩:∃ e1,(f1y _).get? a=!seqObj "list" [].toArray e1:=b5y
 let g1:=S.put g b9p s1 ho1 kX;let Nt:=HF ho1;show GU b6A;show GU (Km ho rfl ?_ (by rw[HU,IY];lia)<|HW _);show GU b6B;show GU (wpAny_newTuple ?_ (by change vs.length<=_;rw[IY];lia));show GU (Lg ?_<|HW _);show Io ?_;let g2:=S.kept (h':=(f1y _).push<|seqObj "tuple" vs.toArray 0) (tk:=s.toks) g1 λe5t=>Ha _ e;let g3:=S.grow (h':=((s.heap.update a<|Obj.mapSeq λ_=>([].toArray:Ó)).push<|seqObj "tuple" vs.toArray 0).push<|seqObj "list" [].toArray 0) (tk:=s.toks) g2 (λe5t=>Ha _ e) kJ B3 kX;show Key S g3 CY hlen U8 h;let:a<((s.heap.update a<|Obj.mapSeq λ_=>([].toArray:Ó)).push<|seqObj "tuple" vs.toArray 0).objs.size:=by rw[K7];show Jz Nt
 show J3 _ (Nat.lt_of_lt_of_eq this z)
open e
def Sqs {Pv:List Value->Prop}(S:∀ vs,Pv vs->SK prog w A.in1.in1 Fr vs kz G)(hlen:∀ vs,Pv vs->kz.length=vs.length)(U8:kz.length<64)(Xd:∀ (Q':List Value->Shared->Prop)(E':ρ),(∀ h' tk vs,Dl->Pv vs->Q' vs { s with heap:=h',toks:=tk })->f2e (collect v) Q' E' s)(g:G [] s)(h:∀ (s':Ê) vs D out c,Pv vs->G [(D,seqObj "list" out c)] s'->sy kz vs out.toList->Q (d9c D) s'):
  wpAny ē A (call qN [v] [(Str.ofString "key",.ref f)]) Q E s:=by
 show call_function_entry_kw kind_sorted plain_sorted entry_sorted (ksk_s1 ĉ) ?_;ext d39;show GU (Xd ĉ λe2Y vs hk hv=>?_);let S:=S vs hv;let hlen:=hlen vs hv;show GU (Lg ?_ (by rw[IY];omega));let g1:=S.grow (tk:=tk) (o:=seqObj "list" vs.toArray 0) (s:={ s with heap:=h',toks:=tk }) (S.kept g hk) (λe5t=>Ha _ e) kJ B3 kX;show GU<|Io (wpAny_call_entry_kw slot_list_sort #[_,S.get g1 Hi,1] entry_list_sort ?body<|ksk_l1 _ _);show c0G S g1 hlen #[0] λs2 out c g2 k2=>mE
 show Hk #[_,1,h s2 vs _ out c hv g2 k2]
theorem pP (c:Addr)(ğ):HO:=.ext λh=>h.CodeRec Ab ğ
theorem vi (P:Addr)(pos:Pos)(ğ)(H):Prop:=
 ∃ ps,H P=!.tbl ps/\TriplesOk ps.toList/\(codeAmong pos ps.toList=none\/∃ c,codeAmong pos ps.toList=!.ref c/\H c=!pP c ğ)
theorem Sb (P:Addr)(H H':Hp):Prop:=∀ b o,b≠P->H b=!o->H' b=!o
def Sb.refl:f1z H:=λd97 e=>e
def Sb.trans (a:f1z H1)(b:Sb P H1 H2):f1z H2:=λc o n e=>b c o n (a c o n e)
def f'.sb (a:f' H H'):f1z H':=λc o _ e=>a c o e
def vi.same (t:e5b ğ H)(e):e5b ğ H':=by let#[ps,ic]:=t;show#[ps,e ĉ h1,h2,h3.imp id λgR=>(by let#[c,a,b]:=gR;show#[c,a,e ĉ b])]
theorem Bm (mg)(base):Prop:=∃ bm ob,mg "__builtins__"=!.ref bm/\bm≠builtinsNs/\base.get? bm=!ob/\ob.cls=.type "module"/\ob.dict=!builtinsNs/\ob.data=.plain
structure FS (X:Cx)(P:Addr):Prop where
 code:∃ c,X.env.code=.ref c/\CodeHd X.base c P
 bm:Bm X.mg X.base
def b2u (x:h.CodeRec Ab q):LP pr w H h c (pP c q):=by
 show#[x,?_,λe1C y k=>?_]
 ·let#[c',o,vs,t,e,h1,_]:=x
  cases e;show#[o,h1]
 ·let#[c',o,vs,t,e,h1,r]:=y
  cases e;show#[c,o,vs,t,1,k _ h1,r]
def DL (L:FS X P)(I)(T:e5b ŕ H)(SE:f0c X.env=pure PU)(a08)(k:∀ f c' VM H' (s':Ê),Inv X (d82 PU) σ H' s'->
   Sb P H H'->e5b ŕ H'->H' c'=!pP c' ŕ->Q Fr s'):
  wpAny Ē X.A (d8O (e5I pos)) Q E s:=by
 let#[c,hc,hd]:=L.code;let#[bm,ob,Ah,b4,b5,b6]:=L.bm;let#[ps,hP,tr,st]:=T;let hPo:s.heap.get? P=!tabObj ps:=I.LJ P _ hP;let hgs:=I.mod.glob.keeps I.bk;let hgP:mainGlobals≠P:=λq=>by let#[lH,e,Qn,_]:=hgs;rw[q,hPo]at e;cases e;cases Qn
 let hbP:bm≠P:=λq=>by let e:=I.bk ĉ b3;rw[q,hPo]at e;cases e;cases b4
 let hbG:bm≠mainGlobals:=λq=>by let#[lH,e,Qn,_]:=I.mod.glob;rw[q,e]at b3;cases b3;rw[Qn]at b6;cases b6
 show kla_eval a08 ?_;rcases st with hnf|⟨c',hf,OE⟩
 ·show kla_makeFunction (mg:=X.mg) SE I.ok.glob hgs hc (hd.keeps I.bk) hPo tr hnf hgP a99 λc' VM e2Y hx hge Nt a8G XE=>?_;let hcN:H c'=none:=I.LJ.fresh hge;let hcP:c'≠P:=λz=>by rw[z,hP]at hcN;cases hcN
  let hPc:P≠c':=hcP.symm;obtain⟨H',eH⟩:∃ H',H'=upd (upd H P<|.tbl (ps++[c4B].toArray)) c' (pP c'<|X.env.qual++"<lambda>"):=#[_,1]
  let hn:∀ b,b≠P->b≠c'->H' b=H b:=λb n1 n2=>by rw[eH,a9 n2,a9 n1]
  let hHP:H' P=!(.tbl<|ps++[c4B].toArray):=by rw[eH,a9 hPc,af]
  let hHc:H' c'=!(pP c'<|X.env.qual++"<lambda>"):=by rw[eH,af]
  let ne1:∀ b u,H b=!u->b≠c':=λe5t=>ak e hcN;let neP:∀ b,H b=none->b≠P:=λb e z=>by rw[z,hP]at e;cases e
  let ext:∀ (o:Obj) b u,b≠P->s.heap.get? b=!u->(h'.push o).get? b=!u:=λo b u n e=>Ha _<|hx b u n e;let un:∀ o,Un X.fs [] H H' s.heap (h'.push o):=λo=>by
   show#[λe5t n _ _=>ext o b u (neP b n) e,λe5t n _ _=>#[u.slots,ext o b u (neP b n) e],λe5t n _=>?_,λe5t _=>?_,λb xs e=>?_,λb u xs e=>?_,λb qs e=>?_]
   ·rw[hn b (neP b n)<|HR (HS oj hge)];show n
   ·by_cases hb:b=P
    ·rw[hb];show#[_,Ha _ XE]
    ·show#[u,ext o b u hb e]
   ·ext d34
   ·ext d34
   ·by_cases hb:b=P
    ·rw[hb,hP]at e;cases e;show#[_,by rw[hb];show hHP]
    ·show#[[].toArray,by rw[hn b hb<|ne1 _ _ e,e];simp]
  let LJ:∀ o,e6k H' (h'.push o):=λo e5t=>by
   by_cases hb:b=P
   ·subst hb;rw[hHP]at e;cases e;show Ha _ XE
   ·by_cases hb2:b=c'
    ·subst hb2;rw[hHc]at e;cases e;let#[c2,o2,vs,t,e2,r1,r2]:=a8G;show b2u #[c2,o2,vs,t,e2,Ha _ r1,r2]
    ·rw[hn b hb hb2]at e;show (e80 u e).MR (λd v Qn q=>ext o d v ?_ q) (λd q=>?_) λd xs q=>?_
     ·rintro rfl;rcases Qn with z|z
      ·show hb z.symm
      ·rw[hP]at z;cases z
     ·ext d4h
     ·ext d4h
  let J:=λo=>I.un (t':=tk) (un o)<|LJ o;let a04:s.heap.objs.size<=h'.objs.size:=Ka<|JL hge Nt;show k h'.objs.size c' VM H' _ ((J _).NJ λe7V=>?_) (λb o n e=>by rw[hn b n<|ne1 _ _ e];show e) #[_,hHP,?_,.inr #[c',?_,hHc]] hHc
  ·rcases Hs.mp hp with rfl|hp
   ·show#[HG _ rfl,?_,IV<|HS I.lt a04,I.WQ a04,λv z=>nomatch z];rw[hn _ CY<|IV Nt]
    ·show I.LJ.fresh a04
    ·let:=HF XE;rw[<- z]at this;show J3 _ this
   ·ext d8i
  ·let:=TriplesOk_snoc pos.line pos.col (d9c c') ps.toList tr;ext d3g
  ·let:=codeAmong_snoc (c:=.ref c') ps.toList tr hnf;ext d3g
 ·show kla_makeFunctionHit (mg:=X.mg) SE I.ok.glob hgs hc (hd.keeps I.bk) hPo tr hf a99 λVM e2Y hk hsz=>?_;let J:=λo=>f02 (h':=h'.push o) λe5t=>Ha o<|hk b u e;show k h'.objs.size c' VM H _ ((J _).NJ λe7V=>?_) Sb.refl #[ps,hP,tr,.inr #[c',hf,OE]] OE;rcases Hs.mp hp with rfl|hp
  ·show#[HG _ rfl,I.LJ.fresh hsz,IV<|HS I.lt hsz,I.WQ hsz,λv z=>nomatch z]
  ·ext d8i
theorem Az (X)(A:Ë)(ğ)(scope)(N')(cl:Ã)(f:Addr)(cd:Value)(s:Ê)(H):Cx where
 prog:=X.prog
 w:=X.w
 K:=X.K
 mg:=X.mg
 base:=X.base
 A:=A.deeper b0G
 N:=N'
 s₀:=s
 H₀:=H
 env:=e3B cl
 outer:=X.stack
 stack:=e3B cl::X.stack
 ex:=[]
 fn:=λ_=>false
 calm:=true
 pn:=[]
 xe:=λ_ _=>False
theorem wO (x:V)(js)(σ):St:=some x::js.map λj=>(σ[j]?).join
structure b7g (X:Cx)(scope:Scope)(p:Str)(js:À)(N':η):Prop where
 cs:bx X scope 1 js N'
 hp:N'[0]?=!p
 co:scope.isCoroutine=false
 gen:scope.isGenerator=false
 WS:∀ x∈scope.names,x.2≠.cell
 par:scope.names.lookup p=!.local
def c1T (c9z)(d0q)(VH:h₁.Ns s.heap.objs.size (λy=>[(p,u)].reverse.lookup y))(hk:∀ b o,s.heap.get? b=!o->h₁.get? b=!o):
  Inv b05 [] (wO x js σ) H { s with heap:=h₁,toks:=t }:=by
 let lk:∀ y c,PU.lookup y=!c->X.env.cells.lookup y=!c:=λy c e=>SE _<|Je e;let XB:∀ b:Addr,b∉(e9q PU f (.ref c') s H).ex:=λb z=>e30 Ė;show#[#[I.ok.mod,S.cs.kind,2,Hl _,λy z c e1C=>I.ok.inj y z c (f1A h1)<|f1A h2,λe16=>?_,λy c hf _=>(Ie hf).elim,λ_=>hA,Around.frames_deeper hfr,.inr #[2],λb z=>absurd z<|XB b,I.bs,e5O I.sz,λb _ _=>XB b,λb z=>absurd z<|XB b,I.stack,I.Px],1,I.bare,Un.kept hk,#[_,VH,λi y v e1C h3=>?_],λy c h=>?_,I.LJ.fresh<|Hl _,λy c h=>I.N4 y c<|f1A h,λe3Y=>absurd (show q∈([]) from hq)<|by simp,I.LJ.kept hk,?_]
 ·let hy:=hy;rcases hy with hy|hy
  ·show absurd rfl (S.WS _<|Je hy)
  ·let#[c,hc]:=U6 _ (Je hy) rfl;show cv hc
 ·cases i with
  | zero=>
   let e2:v=x:=by
    let Vj:=h2
    cases Vj;rfl
   subst e2;let e1:y=p:=by let h1':N'[0]?=!y:=h1;rw[S.hp]at h1';cases h1';rfl
   subst e1;show#[u,r,.inl #[S.par,by simp]]
  | succ i=>
   let Vj:(js.map λj=>(σ[j]?).join)[i]?=!_:=h2;rw[Hh]at Vj
   cases ej:js[i]? with
   | none=>rw[ej]at Vj;cases Vj
   | some j=>
    rw[ej]at Vj;let Xf:(σ[j]?).join=!v:=by simpa using Vj
    let hσ:σ[j]?=!some v:=by
     cases eσ:σ[j]? with
     | none=>rw[eσ]at Xf;cases Xf
     | some o=>rw[eσ]at Xf;simp at Xf;rw[Xf]
    let#[y',AO,_]:=S.cs.cap i j ej;let h1':N'[i+1]?=!y:=h1;let e1:y'=y:=by rw[Nat.add_comm]at a1;rw[a1]at h1';cases h1';rfl
    subst e1;let Xc:=S.cs.free _ a3 rfl;ext d6j;let#[u',r',l]:=hl j y' v a2 hσ<|Xc.elim (λz=>.inr<|.inl z) λz=>.inr<|.inr z;show#[u',r',?_];let#[c0,hc0]:=U6 _ a3 rfl;let#[d,hd]:=cv hc0;let hd2:=f1A hd;rcases l with⟨k1,_⟩|⟨_,c,e,z⟩
    ·rcases Xc with z|z
     ·rw[k1]at z;cases z
     ·rw[k1]at z;cases z
    ·let:d=c:=by rw[hd2]at e;cases e;rfl
     ext d4A;show .inr #[.inr<|S.cs.frl _ a3 rfl,d,hd,z.keeps hk]
 ·let#[v,z]:=I.cell y c<|f1A h;show#[v,z.keeps hk]
 ·change (wO x js σ).length=N'.length;rw[S.cs.len];simp[wO];lia
def DM (c9z)(UM:A.depth<recursionLimit)(d0q)(hf:(f,kla_obj "<lambda>" ğ params body scope PU pm c' VM)∈ñ)(hc:H c'=!pP c' ğ)(UO:bindArgs (d9b (.ref c')) Co=pure [(p,u)])(he:PE b05 body te)(h:te (wO x js σ) H Q):e2n (call Fr [u]) ĸ (λ_ _=>False) s:=by
 let ho:=(I.pin _<|Hq _ hf).1;let RL:=(I.LJ c' _ hc).1;show KB (kla_callFunE UM ho rfl S.co S.gen rfl RL ?_);rw[UO];show Hk (wpAny_newFunctionEnv S.WS (λe16=>by rw[Ht.mp hy];show S.par) (λh₁ VH hsb=>vV) S.cs.kind)
 ·show (I.nolimit).fresh _ hsb
 ·let hk₁:=λe0F=>hsb.extBut b o nu<|Ha _ e;let J:=c1T (t:=s.toks+[(p,u)].length) (ğ:=ğ) (f:=f) (c':=c') S I SE U6 hA hfr r VH hk₁;show kla_codeExpr<|II (he [] _ _ H _ J h) (λv s' gR=>?_) λe s' z=>z.elim;let#[y,H',J',ry,q]:=gR;show I.after #[y,H',J'.os,J'.bare,J'.base,J'.LJ,ry,q]
def b0n:bootBuiltins "sorted"=!.builtin "sorted":=by decide +kernel
theorem a9G (sc)(N:η)(scope)(p:Str)(js)(N'):Bool:=
 iF sc N scope 1 js N'&&((N'[0]?==!p)&&((not scope.isCoroutine)&&((not scope.isGenerator)&&(scope.names.all (λx=>x.2 != .cell)&&(scope.names.lookup p==!.local)))))
def wM (hsc)(hN:X.N=N)(h:a9G sc N scope p js N'=true):b7g X scope p js N':=by unfold a9G at h;simp only[IL,Jv,K2,IS,bne_iff_ne]at h;let#[wG,h5,h6]:=h;show#[c1R hsc hN h1,Fd,h4,h5,h6]
variable {p Sg:Pos}{x:Str}{js:À}{P:Addr}{ta:TA}{te:TE}{k:Nat}
inductive b7s (K:Ψ)(P:Addr)(Sg:Pos)(ğ:Str)(js:À)(te:TE)(σ:St)(Q:VK)(d1X):∀ (v:V)(xs:π)(ks:Ξ)(J:Ù),vs=[v]->((∃ l,v=.ref l/\LO K H1 l xs))->xs.length<64->ks.length=xs.length->vi P Sg ğ H1->(∀ H2,Sb P H1 H2->vi P Sg ğ H2->J H2)->((∀ (i:Nat) x k,xs[i]?=some x->ks[i]?=some k->∀ H2,J H2->te (wO x js σ) H2 λy H3=>y=.int k/\f' H2 H3/\J H3))->(∀ H2 D (p:À),J H2->Sb P H1 H2->vi P Sg ğ H2->H2 D=none->p.Perm (List.range xs.length)->ZI ks p->Q (d9c D) (upd H2 D (d9d (d9T xs.getD))))
theorem a66 (K)(P:Addr)(Sg:Pos)(ğ)(js)(ta)(te):TE:=λd95=>ta σ H λe5u=>b7s K P Sg ğ js te σ Q vs H1
def yE (hr:LM (k+3) X.A)(hc)(hg:Gl X "sorted")(hm:X.mg "sorted"=none)(L:FS X P)(S:b7g X scope x js N')(ha:PA X [e] ta)(he:∀ A ğ cl f cd s H,LM k (A.deeper b0G)->PE (e9q cl f cd s H) body te)(UO:∀ (ğ:Str) PU pm cd VM u,bindArgs (d9b cd) Co=pure [(x,u)])(a08)(TY:e0m CT=Ĭ::e0m Š:=ă)(ON):
  PE X (.Call (.Name "sorted" p) [e] [#[some "key",e5I Sg,a0K]] pos) (a66 X.K P Sg ŕ js ta te):=by
 ext d2p;show IC (e2l b0n ?_ Ĺ<|by decide);let a1e:=λe16 hf=>I.ok.has y.1<|S.cs.free y hy hf;let#[cl,SE,UN,U6]:=c5i a1e;show callWith_kw (LW (e7Y h) λus e4I=>?_) TY ON rfl rfl;ext d43;let#[v,xs,ks,J,1,hcv,U8,hlen,T,hJ,Xb,a9f]:=q1;ext d6T;show wpAny_evalAll_cons<|GU (DL L I1 T SE a08 λf c' VM H2 s2 I2 sb T2 Yg=>GU<|JU (Hk (wpAny_evalAll_nil ?_)));let UM:=hr.in1.in1;let Xd:∀ (Q':List Value->Shared->Prop)(E':ρ),(∀ h' tk us,(∀ b o,s2.heap.get? b=!o->h'.get? b=!o)->e0v us->Q' us { s2 with heap:=h',toks:=tk })->wpAny Ē X.A.in1 (collect u) Q' E' s2:=by
  intro Q' E' hq;let#[l,1,hl]:=hcv
  cases ru;let U2:LO X.K H2 l xs:=by
   rcases hl with (h1|⟨o,h1⟩)|h1
   ·show .inl (.inl<|e1K h1)
   ·show .inl (.inr #[o,e1K h1])
   ·show .inr h1
  let#[c6M]:=I2.list U2;let e1:=rv.length;show collect_list pl.isList (hq _ s2.toks its (λe0F=>by let Nt:=HF e;rw[e6r _<|HR Nt];show Ha _ e) rv) #[]
 show let G:=λown s'=>∃ H',Inv X (own++(d82 cl)) σ H' s'/\J H'/\Sb P H1 H'/\vi P Sg ŕ H'/\H' c'=!(pP c'<|X.env.qual++"<lambda>")/\ ∀ q∈own,X.s₀.heap.objs.size<=q.1/\∀ r∈X.pn++((f,kla_obj "<lambda>" (X.env.qual++"<lambda>") params body scope cl ((X.mg "__name__").getD .none) c' VM)::ñ),r.1≠q.1;?_;let SKG:∀ us,e0v us->SK X.prog X.w X.A.in1.in1 (.ref f) us ks G:=λus rus=>by
  show#[λ{own s a o} g hm=>?_,λ{own a0p s} g hs=>?_,λ{own s h' tk} g hk=>?_,λ{own s h' tk a o} g hk hz ho hd=>?_,λ{own s h' a o o'} g ha hb ho hd=>?_,λ{own s i v k} hv hk g=>?_]
  ·let#[H',I',_]:=g;show (I'.pin _<|Hq _ (HK _ hm)).1
  ·ext d70;show#[H',I'.NJ λe3Y=>?_,j,a1,a2,a3,λe3Y=>a4 q<|hs q hq];rcases Hx.mp hq with z|z
   ·show I'.pin q (Hq _<|HK _ (hs q z))
   ·show I'.pin q (Hq _<|Hq _ z)
  ·let#[H',I',r]:=g;show#[H',I'.kept hk,r]
  ·ext d70;let I'':Inv X _ σ H' { s with heap:=h',toks:=tk }:=I'.kept hk;show#[H',I''.NJ λe3Y=>?_,j,AO,λe3Y=>?_]
   ·rcases Hs.mp (hq) with rfl|z
    ·show#[ho,I'.LJ.fresh hz,IV<|HS I'.lt hz,I'.WQ hz,hd]
    ·show I''.pin q (Hq _ z)
   ·rcases Hs.mp hq with rfl|z
    ·show#[HH I'.sz hz,λe2T=>?_];let X8:r∈X.pn++(own++_):=(Hx.mp hr).elim (λz=>HK _ z) λz=>Hq _<|Hq _ z;show HR (HS (HF (I'.pin r X8).1) hz)
    ·show a4 q z
  ·ext d70;let#[y6,p4,p5]:=I'.pin (a,o)<|Hq _ Hi;let I0:=I'.NJ λe3Y=>I'.pin q<|Hq _ (He _ hq);let I1':Inv X (own++_) σ H' { s with heap:=h',toks:=s.toks }:=I0.turned (λb u n e=>(hb.2 b n).trans e) p2 p3 (.inr (a4 _ Hi).1) (λy c e z=>by
     let#[v,o2,oA]:=I0.cell y c e;rw[z]at q1;let V8:=q1;rw[p1]at V8;cases V8;show p5 _ q2) (λe3Y=>by
     rcases Hx.mp hq with z|z
     ·show (a4 _ Hi).2 q (HK _ z)
     ·rcases Hx.mp z with z|z
      ·show ha q z
      ·show (a4 _ Hi).2 q (Hq _ z))
   show#[H',I1'.NJ λe3Y=>?_,j,AO,λe3Y=>?_]
   ·rcases Hs.mp (hq) with rfl|z
    ·show#[ho,p2,p3,p4,hd]
    ·show I1'.pin q (Hq _ z)
   ·rcases Hs.mp hq with rfl|z
    ·show a4 (a,o) Hi
    ·show a4 q (He _ z)
  ·ext d70;let#[xv,hx,rx]:=rus.at' hv;show LW (DM S I' UN U6 UM.hd I'.ok.frames UM.depth rx (Hq _ Hi) a3 (UO ą ĉ)
    (he ą Ĉ<|UM.deeper _) (Xb i xv _ hx hk H' j)) fun y s' ⟨z,H3,I3,rz,ez,sm,j3⟩=>?_
   subst ez;let#[t,1]:=rz;show#[t,1,d8,j3,a1.trans sm.sb,a2.same sm,sm ĉ a3,a4]
 show Sqs SKG (λus rus=>by rw[<- rus.length];show hlen) #[] Xd #[Bs,hJ H2 sb T2,sb,T2,Yg,λe3Y=>nomatch hq] λs' us D out c rus g ko=>?_;ext d70;let#[y6,p4,p5]:=I'.pin (D,_)<|Hq _ Hi;let#[p,q1,eo,q2]:=ko;let xl:=rus.length;rw[<- xl]at q1;let I0:=I'.NJ λe3Y=>I'.pin q<|Hq _ (He _<|He _ hq);let fp:e2A H' D:=⟨p2,p3,p4,.inr (a4 _ Hi).1,λy c e z=>by let#[v,o2,oA]:=I0.cell y c e;rw[z]at q1;let V8:=q1;rw[p1]at V8;cases V8;show p5 _ q2,λe3Y=>(a4 _ Hi).2 q<|(Hx.mp hq).elim (λz=>HK _ z) λz=>Hq _<|He _ z⟩
 show#[.ref D,upd H' D<|.lst (p.map λi=>xs.getD i .non),I0.Wz fp (a4 _ Hi).1 #[?_,out.toList,c,by rw[eo];show b5M rus λe8X=>HP.mp<|q1.mem_iff.mp hi,?_],1,a9f H' D p j a1 a2 p2 q1 q2]
 ·rw[GS,q1.length_eq,HV,IY]
  lia
 ·simpa using p1
open e
structure a1M (mg:Ω)(base:Heap)(fd:È)(P:Addr):Prop where
 code:∃ c,fd.code=.ref c/\CodeHd base c P
 bm:Bm mg base
def OR.okL {K:Ψ}(c9Y){k:Nat}(c7m)(L:f2f Pt)(S:f0I Uz)(len)(O4:∀ (Lr:Value)(A:Ë)(outer:List Env)(s:Ê)(H:Hp)(vs:π)(Q:VK)(E:XK),FS (e0E E).Ur Pt->LM k ĕ->e1d E->
   ∃ t,Q1 (e0E E).Ur CQ t/\t { nx:=λ_ H'=>e2P H',rt:=Q } ů H):e0b sp:=by
 ext d6P;show a8w lk RL S len λe0C vs Q E hr UY=>?_;let#[t,h,q]:=O4 Lr A outer s H vs Q E #[L.code,L.bm] hr UY;show#[t,h.Ur,q]
structure ET (P1:Addr)(H:Hp):Prop where
 t1:H P1=!.tbl [].toArray
 rest:∀ b,H b=none \/ (∃ o xs,H b=!.frz o w6) \/ b=P1
def a6j {K:Ψ}(KX:K.In s₁.heap)(VH:s₁.heap.Ns mainGlobals mg)(hb:s₁.heap.Ns builtinsNs mb)(hbb:∀ x:Str,x≠"__name__"->mb x=bootBuiltins x)(a82:s₁.heap.NoLimit)(hg:s₁.gens=[].toArray)(hbm:Bm mg s₁.heap)(T1:e4v c1 P1/\s₁.heap.get? P1=!tabObj [].toArray)(K1:K.lookup P1=none)(ha:s₁.heap.get? a=!{ cls:=.type "list",data:=.seq vs.toArray })(hi:e5S ns)(hl:ns.length<=sizeLine)(hr:LM k callerA)(F:∀ base:Heap,K.In base->e13 mg->Bm mg base->f2g P1->d91 CX k fa fd [x] sp)(UO:∀ (s:Ê)(u:Value),e7i Co [(x,u)])(UY:∀ H:Hp,ET P1 H->e02 Ł->sp zV H b97 λd97=>False)(hCX:∀ H e s',CX [] H s₁ c2L e s'->False):
  codeAny Ū callerA Ax b4Y s₁:=by
 let rv:=c3z hi;let a8c:=hi.length;let na1:a≠P1:=λz=>by rw[z,T1.2]at ha;cases ha
 let core:∀ H:Hp,ET P1 H->e02 Ł->e7e H s₁.heap->(∀ b,H b≠none->b=a\/b=P1)->(H a≠none->K.lookup a=none)->
   codeAny Ū callerA Ax (λr s'=>r=.ok (.ret<|.bool true)/\OldK s₁.heap s'.heap/\s'.os=s₁.os/\AllBare s'.gens) s₁:=by
  intro H hO hS LJ hA hK;let RP:∀ {b:Addr}{o:Obj},s₁.heap.get? b=!o->H b=none->(oP s₁.heap H).get? b=!o:=λe n=>b0R e n;let XB:∀ {b:Addr}{o:Obj},s₁.heap.get? b=!o->o.cls≠.none->o.cls≠.type "list"->H b=none:=λ{b o} e d1 d2=>by
   cases q:H b with
   | none=>rfl
   | some u=>
    ext d3B
    ·rw[e',ha]at e;cases e;show absurd rfl d2
    ·rw[e',T1.2]at e;cases e;show absurd rfl d1
  let noD:∀ {b:Addr}{o:Obj}{es:Ò}{ep:Nat},s₁.heap.get? b=!o->o.data=.dict es ep->H b=none:=λ{b o es ep} e d=>by
   cases q:H b with
   | none=>rfl
   | some u=>
    ext d3B
    ·rw[e',ha]at e;cases e;cases d
    ·rw[e',T1.2]at e;cases e;cases d
  let nsK:∀ {b:Addr}{m:Ω},s₁.heap.Ns b m->(oP s₁.heap H).Ns b m:=λ{b m} gR=>by let#[lH,e,d,r]:=gR;show#[o,es,ep,RP e<|noD e d,d,r]
  let hKb:=λe0F=>RP (KX b o e) (by
   cases q:H b with
   | none=>rfl
   | some u=>
    ext d3B
    ·rw[e']at e q;rw[hK (by rw[q];simp)]at e;cases e
    ·rw[e',K1]at e;cases e)
  let hM:Mod K mg qY:=#[hKb,nsK VH,#[mb,nsK hb,hbb],let ⟨mc,h1,h2⟩:=a82;#[mc,nsK h1,h2]]
  let a9u:Bm mg qY:=let ⟨bm,ob,b1,b2,b3,b4,r⟩:=hbm;#[bm,ob,b1,b2,RP b3 (XB b3 (by rw[b4];show λz=>nomatch z) (by rw[b4];decide)),b4,r];let RL:∀ {c Pt:Addr},e4v c Pt->CodeHd qY c Pt:=λgR=>by let#[c40,mC,r]:=gR;show#[c40,RP e1 (XB e1 (by rw[e2];show λz=>nomatch z) (by rw[e2];decide)),e2,r]
  let e0:Vr P w K mg qY callerA [] s₁ H:=#[1,hM,λe0F=>b3T e,KZ<|a4L _ _,trivial,λe2h=>absurd (show b∈([]:υ) from hb)<|by simp,LJ,.of_eq hg]
  show K8 ((F _ hKb (nsK VH) a9u<|RL T1.1).run callerA [] s₁ H #[zV,[]] zV zV _ _ hr e0 (UO s₁<|.ref a) lY<|UY H hO hS) λr s' h=>?_
  cases r with
  | error e=>show (hCX H e s' h).elim
  | ok fl=>
   cases fl with
   | next=>ext d71
   | brk=>ext d71
   | cont=>ext d71
   | ret u=>
    let#[v,H',os,bare,un,a4A,r',q]:=h;let q':=q;subst q';obtain rfl:u=Value.bool true:=r';let tab:∀ {c b:Addr}{o:Obj},e4v c b/\s₁.heap.get? b=!tabObj [].toArray->H b=!.tbl [].toArray->s₁.heap.get? b=!o->e5c o/\∃ o',s'.heap.get? b=!o':=λ{c b o} T q e=>by let#[more,e1]:=un.Rw b [].toArray q;let e2:=a4A b _ e1;rw[T.2]at e;cases e;show#[.inr<|.inl #[(T.1.tab T.2).isCodeTable,1,[].toArray,more,1,e2],_,e2]
    let old:∀ b o,s₁.heap.get? b=!o->e5c o/\∃ o',s'.heap.get? b=!o':=λe0F=>by
     rcases hO.rest b with z|⟨ob,xs,z⟩|z
     ·let:=un.keep b o e z (by intro z;show absurd (show b∈([]:υ) from z)<|by simp) Ė;show#[.inl this,o,this]
     ·let z2:=un.R4 b ob _ z;let#[e1,_]:=LJ b _ z;let#[e2,_]:=a4A b _ z2;rw[e]at e1;cases e1;show#[.inl e2,o,e2]
     ·subst z;show tab T1 hO.t1 e
    show#[1,#[λe0F=>(old b o e).1,λe0F=>(old b o e).2],os,bare]
 let tbl:∀ {b:Addr}{H:Hp},s₁.heap.get? b=!tabObj [].toArray->e4h H s₁.heap b mP:=λe=>e
 cases hk:K.lookup a with
 | some o=>
  let e:=KX a o hk;rw[ha]at e
  cases e;show let H:Hp:=λb=>if b=P1 then some mP else none;?_
  let h1:H P1=!.tbl [].toArray:=if_pos rfl;let h3:∀ b,H b≠none->b=P1:=λb z=>by
   by_cases c:b=P1
   ·show c
   ·show absurd (if_neg c) z
  show core H #[h1,λb=>?_] (.inr #[_,vs.toArray,_,hk,3,by rw[HU,a8c];show hl,by simpa using rv]) (λb u z=>?_) (λb z=>.inr<|h3 b z) λz=>absurd (h3 a z) na1
  ·by_cases c:b=P1
   ·show .inr (.inr c)
   ·show .inl (if_neg c)
  ·let c:=h3 b (by rw[z];simp);ext d5y
 | none=>
  show let H:Hp:=λb=>if b=a then some (.frz { cls:=.type "list",data:=.seq vs.toArray }<|.lst Ł) else if b=P1 then some mP else none;?_
  let h0:H a=!(.frz { cls:=.type "list",data:=.seq vs.toArray }<|.lst Ł):=if_pos rfl;let h1:H P1=!.tbl [].toArray:=(if_neg<|Ne.symm na1).trans<|if_pos rfl;let h3:∀ b,H b≠none->b=a\/b=P1:=λb z=>by
   by_cases c0:b=a
   ·show .inl c0
   ·by_cases c:b=P1
    ·show .inr c
    ·show absurd b4i z
  show core H #[h1,λb=>?_] (.inl<|.inr ⟨{ cls:=.type "list",data:=.seq vs.toArray },h0⟩) (λb u z=>?_) h3 λ_=>hk
  ·by_cases c0:b=a
   ·rw[c0];show .inr (.inl #[_,_,h0])
   ·by_cases c:b=P1
    ·show .inr (.inr c)
    ·show .inl b4i
  ·rcases h3 b (by rw[z];simp) with c|c
   ·rw[c,h0]at z;cases z;rw[c];show#[ha,by rw[GS];show hl,vs,_,rv,ha]
   ·ext d5y
def Ww (d1i){sp:W.Frag->Addr->Sp}{x1:Str}(hn:l.most=!n)(hn2:n<=sizeLine)(hdf)(hr:LM k callerA)(hY)(r1:(recsOf q).find? (λe=>e.name==x1)=!d1)(F:∀ (w:World)(mg:Ω)(fa:Addr)(h:Heap),(K w.params).In h->e4w mg->mg d.name=!.ref fa->
   ∃ (fd:È)(c1 P1:Addr),(∀ (s:Ê)(u:Value),e7i Co [(x,u)])/\tabIn l7 x1=!(c1,P1)/\(K w.params).lookup P1=none/\
    ∀ base:Heap,(K w.params).In base->e13 mg->Bm mg base->f2g P1->e6O CX k fa fd [x] (sp l7 P1))(UY:∀ (K:Ψ)(P1:Addr)(H:Hp)(a:Addr)(ns:Ξ),ns.length<=n->ET P1 H->e02 Ł->sp K P1 zV H b97 λd97=>False)(hCX:∀ (H:Hp)(s:Ê)(e:Value)(s':Ê),CX [] H s c2L e s'->False):
  W.WalkO q loose XP YP l.row.toRowW d [] cX:=by
 show Att.UQ hn hdf λw s₀ s₁ mg mb fa o pm cd doc a vs ns G Y ho hd RL hmg a00 hints hlen hg=>?_;let KX:=hY w _ Y;let#[fd,c1,P1,hb,t1,k1,hF]:=F w mg fa _ KX G.T.g hmg;show a6j KX G.T.g G.T.b G.T.builtins G.T.nolimit hg G.T.bmain (tab_of G.T KX r1 t1) k1 a00 hints (HH hlen hn2) hr hF hb (λH hO hS=>UY _ P1 H a ns hlen hO hS) λH e s'=>hCX H s₁ e s'
universe L2
namespace K72
open PySem L2
open PyProof.Rows (boot_all boot_bool boot_dict boot_int boot_list boot_sorted boot_str boot_tuple)
theorem lpR:Pos:=⟨397,28,397,54⟩
theorem lqR:Str:=("run":Str)++".<locals>."++"<lambda>"
def dFd (Dd:e2W sv/\∀ F,LC F dl dvs)(hr)(d0Y):e8l (tP b6c):=(Dj Dd.1 hr hg ha OO he Of).imp λd95 h=>NI.call Dd.2 h
def a1T (c9Z):e0R lG:=h F0 H0
def tQ.nx (S)(h:r ε yD)(k:∀ σ' H' F',f' F F'->f1J σ' H' ε'->E.nx σ' H'):e5d H:=#[E6,_,S,h,k]
def tQ.ex {I:Ú}(S)(h:∃ ε',r ε yD/\I ε')(k:∀ ε' σ' H' F',I ε'->f' F F'->f1J σ' H' ε'->E.nx σ' H'):e5d H:=let ⟨ε',h1,h2⟩:=h;#[mr,λe4g=>k ε' σ' H' F' h2 u S']
structure a5y (mg:Ω):Prop where
 NX:mg "sorted"=none
 Ms:mg "enumerate"=none
theorem qq (msgs:Θ)(L)(rd)(g:Str)(z:List Int×Nat):Int×D:=((z.2:Int)+L g,.tup [.int ((z.2:Int)+L g),.str g,.int (z.2:Int),rd g z.1])
theorem c9 (gs)(msgs:Θ)(L)(rd):List (Int×D):=gs.flatMap λg=>msgs.zipIdx.map CI
def c09:c9 (gs++[g]) msgs L rd=e3m L rd++msgs.zipIdx.map CI:=by ext1 c9;rw[IE,List.flatMap_singleton]
def a6y:∀ {gs:η},(e3m L rd).length=gs.length * msgs.length
 | []=>by simp[c9]
 | g::gs=>by let ih:=a6y (msgs:=msgs) (L:=L) (rd:=rd) (gs:=gs);unfold c9 at ih ⊢;rw[Jb,Hn,ih,GS,JN,HZ,K9,Nat.add_comm]
variable {c:Cl}{C:Addr}
structure c1E (c:Cl)(c7r)(c9n)(c9e)(d0E)(msgs:Θ)(L:Str->Int)(J:Str->D)(cs:List Int->Cs)(rd:Str->List Int->D):Prop where
 judge:Oq c gH b2R (MU (S.LL.map λg=>GF))
 late:fT c gH yP (oH ns L)
 LL:∀ g∈S.LL,g∈ns/\g∈S.names
 lnd:S.LL.Nodup
 Z3:ns.Nodup
 a7i:∀ msg∈msgs,Sv c gH [tG,qt,.non] (Rq (cs msg))
 read:∀ g∈S.LL,∀ msg∈msgs,Ts C [fD C p,J g,rw (S.into g),Rq (cs msg)] (rd g msg)
 Mt:S.LL.length * msgs.length<64
 mz:msgs.length<=60
 tz:S.Lj.length<=1000
 pz:S.Lu.length<=1000
 p1:p<=1000000
 hP:My.O2 p=true
inductive sK (c:Cl)(C Pt:Addr)(c8O):Prop
 |mk (F:Hp) (S:NS) (ns:η) (ř:List bo) (m:Nat) (p:Int) (msgs:Θ) (L:Str->Int) (J:Str->D) (cs:List Int->Cs) (rd:Str->List Int->D):LC F [tG,.int m,.int p,tb msgs] vs->f' F (aJ Pt H)->vi Pt lpR lqR H->c1E c C S ns ř m p msgs L J cs rd ->
   (∀ x H' q,Sb Pt H H'->vi Pt lpR lqR H'->q.Perm (List.range (c9 S.LL msgs L rd).length)->ZI ((c9 S.LL msgs L rd).map (·.1)) q->DR (grow F (aJ Pt H) (aJ Pt H')) (d9d (q.map λi=>((c9 S.LL msgs L rd).map (·.2)).getD i .non)) x->Q x H')->sK c C Pt vs H Q E
def a3f:ar [uG,"messages","judgements","field","late","rounds","told","listener","into","turn","carries","message"] ë (d88 70):=Py
def a0v (F:Fu K "run" (top 70) f fd)(L:f2f Pt)(T:a5y mg)(Rb:e90 8 "judged" á GH (d9L Oq)/\∀ F,LC F GH GH)(LQ:Dk P w K mg base 2 "Field" C í (cK C))(Qe:e2Q 3 "lateness" ["net"] (d9L fT))(Uj:e90 5 "sent" è GH (d9L Sv)/\∀ F,LC F GH GH)(Mn:Dm P w K mg base 2 c.Mj "into" Ý b9M)(O8:e2Q 5 "read_message" b1k (d8L Ts)):d91 MY 9 f fd ë (sK c C Pt):=by
 show F.okL L a3f Af (λLr e0C vs Q E a9D hr h=>?_)
 ·let#[c5e,_]:=h;show hv.length
 ·let#[c5e,sF,tab,O,q]:=h;let ND:=a3f.nd;let sFH:f' F H:=sF.trans Lv;show#[_,(ag (d86 qs 5 (dFd Rb hr.m rfl<|e0S BV))
   (ag (d86 qs 6 b3N)
   (ag (d86 qs 7 (dF Qe hr.m rfl<|e0S Lp))
   (ag (e9r (e28 (aQ (i:=8) ND rfl rfl rfl (cS 1 [0,1,3] ["message","net","plan","prime"]) (av<|Đ 4)
  Ĕ
  P4
  (λe0i=>dFd Uj hr.m rfl<|e0l (da (Đ 2)<|e0S Ŷ))) rfl))
   (ag (d86 qo 9 (c7 Lp))
   (ag (e9r (e0w io Be (aI 10)
  (qC (d9R qs 11 Mn (d9h rJ))
 (q1 (e1g b5f (bU K rfl<|ae jD DN) (cH K [12,13])
  (qC (qs 14 ND<|dF O8 hr.m rfl (da (Đ 6)<|da (Mz hr (Đ 5)<|Đ 10) (da xb<|e59 Lp)))
 (q1<|qA (aA<|Qp K Hu Hz Hy aB Fg (a8 (i7<|da (Tj (Đ 12)<|Mz hr (Đ 7) rJ) (da rJ<|da (Đ 12) (da (Đ 14) Lp))) K')) (λe0N=>h))))))))
   (aq (bD (yE (k:=1) (js:=[]) (N':=["reading"]) hr.m rfl rfl T.NX a9D (wM rfl rfl<|by kernel_rfl) (a8 Fg K')
  (λe1N hr=>pI (Gi K) lS aK) (λe0i _=>rfl) rfl))))))))),?_]
  let tl:∀ i,(e2N rd).length<=64:=λi=>by rw[a6y,Hm];let:=Nat.mul_le_mul_right msgs.length<|Nat.min_le_right i S.LL.length;let:=O.Mt;omega
  let lz:S.LL.length<=1000:=by let:=O.pz;ext1 NS.LL;rw[GS];show HH wJ this
  show au λZ hZ=>?_;show tQ.nx (lr _ sFH hv) #[#[5],O.judge] λσ1 H1 F1 u1 S1=>?_;show hZ ĉ F7;show tQ.nx S1 #[#[2],O.p1,O.hP,1] λe5L F2 u2 S2=>?_;show hZ ĉ F7;show tQ.nx S2 #[#[2],O.late] λσ3 H3 F3 u3 S3=>?_;show hZ ĉ F7;show tQ.nx S3 #[e52 (by let:=O.mz;omega) λmsg hm=>#[_,1,#[5],O.a7i msg hm]] λσ4 H4 F4 u4 S4=>?_;show hZ ĉ F7;show tQ.nx S4 #[Z7] λσ5 H5 F5 u5 S5=>?_;show hZ ĉ F7;show tQ.ex S5 (oU S.LL (λf2q=>∃ N6 MX Mr MT Oe,ε=[.fz<|aH c S,.fz<|aV ř,.fz<|.int m,.fz<|.int p,.fz<|tb msgs,.fz<|MU (S.LL.map λg=>GF),.fz<|fD C p,.fz<|oH ns L,.fz<|.lst (msgs.map λmsg=>Rq<|cs msg),.ow<|.lst ((e2N rd).map (·.2)),N6,MX,Mr,MT,Oe]) ⟨_,_,_,_,_,rfl⟩ ⟨rfl,vN.m⟩ (λi g ε hg gR=>?_)) λε' σ6 H6 F6 hI u6 S6=>?_
  ·let#[oO,Oe,he]:=gR;subst he;let gm:=Hb hg;let#[PB]:=O.LL g gm;let t1:=tl<|i+1;rw[aO hg,c09,Hn,GS,JN]at t1;show⟨_,rfl,lq ⟨rfl,by decide,⟨rfl,rfl⟩,⟨O.tz,g2⟩⟩ (Gw msgs.zipIdx (u:=λz=>.tup [.int (z.2:Int),Rq<|cs z.1]) (λj ε=>∃ Mr MT Oe,ε=[.fz<|aH c S,.fz<|aV ř,.fz<|.int m,.fz<|.int p,.fz<|tb msgs,.fz<|MU (S.LL.map λg=>GF),.fz<|fD C p,.fz<|oH ns L,.fz<|.lst (msgs.map λmsg=>Rq<|cs msg),.ow<|.lst c3V,.fz<|.str g,.fz<|rw (S.into g),Mr,MT,Oe]) ⟨_,_,_,by rw[J9,IP,HD];rfl⟩ ⟨_,⟨rfl,rfl⟩,?_⟩ (λj e5w=>?_) λε' gR=>?_)⟩
   ·rw[List.zipIdx_map,GY];rfl
   ·let#[Mr,MT,Oe,he]:=gR;subst he;let hz':=hz;rw[K5]at hz;let#[msg,h1,1]:=HN.mp hz;let jm:=(GW.mp h1).1;let mm:=Hb h1;show#[mR,lq #[#[1,#[2,.k (cG (e9s (by rw[Ks];show O.lnd))<|Ho gm) kS],3],O.read g gm msg mm] ⟨_,⟨rfl,?_,.z ⟨⟨⟨rfl,⟨rfl,rfl,.k (cG (e9s (by rw[Ks];show O.Z3))<|Ho g1) kS⟩,.i⟩,rfl,rfl,rfl,rfl⟩,by simp,rfl⟩⟩,.fz<|.int ((0+j:Nat):Int),.fz<|Rq (cs msg),.fz<|rd g msg,?_⟩]
    ·rw[GS,Hn,GS,Hm];omega
    ·let e:((e2N rd++(msgs.zipIdx.take<|j+1).map CI).map (·.2))=c3V++[(qq msgs L rd g (msg,0+j)).2]:=by rw[aO hz'];simp
     rw[e];rfl
   ·let#[Mr,MT,Oe,he]:=gR;subst he;show#[.fz<|.str g,.fz<|rw (S.into g),Mr,MT,Oe,?_];rw[HM,aO hg,c09]
  let#[oO,Oe,1]:=hI;rw[HM]at S6;let tz:(c9 S.LL msgs L rd).length<64:=by rw[a6y];show O.Mt
  let ek:∀ e∈c9 S.LL msgs L rd,∃ l,e.2=.tup (.int e.1::l):=λe he=>by let#[g,_,hg]:=J0.mp he;let#[z,_,1]:=GX.mp hg;show#[_,1]
  generalize c9 S.LL msgs L rd=es at S6 q tz ek;let#[a,sa,Fa,_,vs,ha,Rj]:=S6.ro 9 _ rfl;let vl:=Rj.length;rw[GS]at vl;let a65:=tab.same S6.b0;let FP:F6 Pt=none:=by
   cases z:F6 Pt with
   | none=>rfl
   | some o=>
    let#[ps,hP,_]:=tab;let:=S6.lo ĉ z;unfold grow at this;rw[if_neg (by rw[hP];show nofun)]at this;let:=e2a this;rw[bA]at this;ext d46
  show hZ ĉ ?_;show#[_,sa,.ref a,vs,es.map (·.1),Sb Pt H6,1,#[a,1,LO.of ha],#[0],by rw[GS];show vl.symm,a65,λG sb _=>sb,λi x k hx hk G jG=>?_,λG d p jG sb tb hD pm so=>?_]
  ·rw[Hh]at hk;let#[e,he,1]:=HN.mp hk;let#[l,el]:=ek e<|Hb he;let#[v,mh]:=Rj.at (show (es.map (·.2))[i]?=some e.2 by rw[Hh,he];rfl)
   rw[hx]at h1;cases h1;rw[el]at h2;let#[t,us,1,ht,_,ws,2,_]:=h2;let nt:t≠Pt:=λz=>by rw[z,FP]at ht;cases ht
   show#[_,1,t,_,(0),_,2,Nu.of<|jG _ _ nt (S6.le _ _ ht),dG (j:=0) rfl,1,f'.refl _,jG]
  ·let Hd:∀ b o,b≠Pt->H6 b=!o->b≠d/\upd G d (.lst<|p.map λi=>e3U .non) b=!o:=λf0u=>by let:=sb b o nb hb;let nd:=ak this hD;show#[nd,by rw[a9 nd];show this]
   let dP:d≠Pt:=λz=>by let#[ps,hP,_]:=tb;rw[<- z,hD]at hP;cases hP
   let H6d:H6 d=none:=by
    cases z:H6 d with
    | none=>rfl
    | some o=>show absurd rfl (Hd d o dP z).1
   let Hdn:H d=none:=S6.b0.free H6d;rw[vl]at pm;show q ĉ p (λf0u=>(Hd b o nb<|S6.b0 _ _ hb).2) (tb.same<|f2c hD) pm so ⟨d,_,rfl,?_,(jU Rj (λe8X=>by rw[GS];show HP.mp<|pm.mem_iff.mp hi)).mono λe5M=>?_⟩
   ·rw[ax (by rw[aF dP];show Hdn),aF dP,af]
   ·let nb:b≠Pt:=λz=>by rw[z,FP]at hb;cases hb
    let lo:=S6.lo ĉ hb;unfold grow at lo ⊢;rw[aF nb,aF nb];by_cases z:H b=none
    ·rw[if_pos z]at lo ⊢;show (Hd b o nb lo).2
    ·rw[if_neg z]at lo ⊢;show lo
open e
universe K72
namespace L2
open PySem PySem.Spec PyProof.Rows
def a6k:∀ {l:Ξ}{vs:π},LC G (l.map .int) vs->LC G' (l.map .int) vs
 | [],_,h=>h
 | _::_,_,⟨v,ws,e,h1,h2⟩=>#[v,ws,e,h1,a6k h2]
def b6Y (d0F):∀ {l:Θ}{vs:π},LC G sx vs->LC G' sx vs
 | [],_,h=>h
 | _::_,_,⟨v,ws,ev,⟨a,us,h1,h2,h3⟩,h4⟩=>#[v,ws,ev,#[c6p,a6k h3],b6Y e h4]
def b3d (d0F){l:Θ}:DR G pb v->DR G' pb v:=λgR=>by let#[a,us,ic]:=gR;show#[c6p,b6Y e h3]
variable {re:Rx}{q:Õ}{rb:Rs}
inductive D3 (j:Nat)(re:Rx)(c9c):∀{ř:Θ}{ð:ι},ε[j]?=!.ow u0->re b3F (d9d Qt)->jv q rb ε Qt f
def qLo (hp)(hc)(hi:PE X iter vJ)(c7d):
  QS X ŧ (D3 j re q rb):=λe1l=>(e6N hs).imp λe0f=>by
 ext d5R;obtain @⟨ř,ð,h1,h2,h3⟩:=h;let#[On]:=e5Y _ h1;show let F':=λb=>if b=a then H a else F b;?_
 let u:f' F F':=λe32=>by change (if b=a then H a else F b)=_;rw[if_neg (λz=>by rw[z,p2]at q;cases q)];show q
 let S':Sd F' σ H ((ε.set j<|.fz (MU ð)).map Sl.z):=⟨λe32=>by
  ext d37
  ·ext d6d;rw[z];show q
  ·ext d6e;show S.le ĉ q,by simpa using S.len,λe68=>by
  rw[Hh,Ja]at q;by_cases c:j=i
  ·subst c;rw[if_pos rfl,if_pos (GW.mp h1).1]at q
   cases q;show#[_,p1,a,ķ,1,.inl<|(if_pos rfl).trans p4,p5,p6.mono u]
  ·rw[if_neg c]at q
   cases hi:ε[i]? with
   | none=>rw[hi]at q;cases q
   | some s=>
    rw[hi]at q
    cases s with
    | fz c=>cases q;let#[v,x1,x2]:=f0X _ hi;show#[v,x1,x2.mono u]
    | _=>cases q⟩
 show#[F',_,_,S',h2,λx e1M hx=>?_];let hx:DR c2m Bu x:=b3d (λb o h n=>by
  unfold L2.grow at h ⊢;ext d5c
  ·rw[if_pos c]at h ⊢;show h
  ·rw[if_neg c]at h ⊢;by_cases z:b=a
   ·rw[show F' b=H a from if_pos z,p4]at h
    cases h;show absurd rfl (n _)
   ·rwa [show F' b=F b from if_neg z]at h) hx
 let#[d,vs,ex,ha,hv]:=hx;show#[d,ex,#[vs,LO.of<|(S.grow e1).le _ _ ha],e3s (rE (.inl ha) hv) h3<|p.up jP]
def exO (c9k){u:α->D}{ř:Θ}{J:Ú}(xs)(I:Ö)(h1:ε[j]?=!.ow u0)(h2:re b3F (d9d Qt))(e:ř.map tD=xs.map u)(h0)(k)(fin):∃ ε',D3 j re q rb ε yD/\J ε':=by
 ext d2J
 ·show z.elim
 ·show#[ε',.mk h1 h2 (by rw[e];show h3),e8A h4]
def exW {re:Rx}(c9k){u:α->D}{J:Ú}(xs)(I:Ö)(h2:re ĩ (d9d ve))(h0)(k)(fin):∃ ε',D1 re q rb ε yD/\J ε':=by
 ext d2J
 ·show z.elim
 ·show#[ε',.mk h2 h3,e8A h4]
open e
inductive Gv:D->D->D->Prop
 |mk {l:List (List Ws)}:Gv (.lst (l.map λks=>.tup tV)) EN b5g
def a3H {K:Ψ}:SU Gv (λe4r=>∃ as bs,wT K jY H x as/\wT K jY H y bs/\Q b6a H):=λe0s=>by
 ext d8h
 cases h4;show#[c5G]
def c30:∀ {xs:η}{z:Str},z∈xs->∃ k,xs[k]?=!z/\(∀ i,i<k->xs[i]?≠!z)/\xs.erase z=xs.eraseIdx k
 | x::xs,z,h=>by
  by_cases c:x=z
  ·show#[(0),by rw[c];rfl,λe8X=>absurd hi<|JR i,by rw[c,List.erase_cons_head];rfl]
  ·let#[k,ic]:=c30<|(Hs.mp h).resolve_left (Ne.symm c);show⟨k+1,h1,λe8X e=>?_,?_⟩
   ·cases i with
    | zero=>show c (Option.some.inj e)
    | succ i=>show h2 i #[0] e
   ·rw[List.erase_cons_tail<|by simpa using c,h3];rfl
universe L2
namespace L2.Rn
open PySem L2
abbrev T4:=Int×Str×Str×Int
abbrev Cm:=List (Int×Int)
variable (T:List T4)(vf:Cm->Str->T4->Int)
theorem OM (ts:List T4)(L)(x):Int:=Y5 a6K
theorem O3 (x):List T4:=T.filter λt=>decide Ř
theorem missing (cs:Cm)(x):List T4:=T.filter λt=>decide Ř&&not (decide (t.1∈cs.map (·.1)))
theorem UA (x):List T4:=T.filter λt=>decide wB
theorem sends (cs:Cm)(τ:Int)(x):Θ:=(UA T x).map λt=>qE
structure S where
 uw:Θ
 cs:Cm
 left:η
 hs:List (Str×Int)
theorem Oh (τ:Int)(s:S)(x):S:=if missing T s.cs x=[] then ⟨s.uw++e5e τ x,s.cs,s.left.erase x,s.hs++xj⟩ else s
theorem Mo (tu:Int)(s:S)(x):S:=if O3 T x=[] then ⟨s.uw++e5e tu x,s.cs,s.left,s.hs++zo⟩ else ⟨s.uw,s.cs,s.left++[x],s.hs⟩
theorem start (tu:Int)(ord:η):S:=ord.foldl Ŗ ⟨[],[],[],[]⟩
theorem step (s:S):S:=match dA s.uw with
 | []=>s
 | r::rest=>s.left.foldl (Oh T vf z5) ⟨rest,s.cs++[(r.getD 1 0,e4F 0)],s.left,s.hs⟩
theorem sim:Nat->S->S
 | 0,s=>s
 | n+1,s=>if s.uw=[] then s else sim n (e3V s)
open e
variable {T:List T4}{vf:Cm->Str->T4->Int}
abbrev num (r:Ξ):Int:=r.getD 1 0
abbrev S.ck (s:S):Ξ:=s.cs.map (·.1)
abbrev S.hk (s:S):η:=s.hs.map (·.1)
structure Tk (d0N):Prop where
 nd:(T.map (·.1)).Nodup
 Uq:ord.Nodup
 up:∀ t∈T,∃ u v:Nat,u<v/\ord[u]?=!t.2.1/\ord[v]?=!t.2.2.1
 pos:∀ t∈T,0<=t.2.2.2
 late:∀ x∈ord,L x=OM T L x
structure Ok (d0N)(tu τ:Int)(s:S):Prop where
 row:∀ r∈s.uw,∃ t∈T,∃ c,r=b5A/\t.2.1∈s.hk
 Nc:∀ k∈s.ck,∃ t∈T,t.1=k/\t.2.1∈s.hk/\tu+L t.2.1+t.2.2.2<=τ
 all:∀ t∈T,t.2.1∈s.hk->t.1∈s.ck \/ t.1∈s.uw.map num
 late:∀ r∈s.uw,τ<=r.getD 0 0
 nd:(s.ck++s.uw.map num).Nodup
 hs:∀ z∈s.hs,z.2=tu+L z.1
 ho:∀ x∈s.hk,x∈ord
 UZ:s.hk.Nodup
 sub:s.left.Sublist ord
 lft:∀ x∈ord,x∈s.left ↔ x∉s.hk
def a6E {T:List T4}(nd:(T.map (·.1)).Nodup)(h:t∈T)(h':t'∈T)(e:t.1=t'.1):t=t':=by
 induction T with
 | nil=>cases h
 | cons a T ih=>
  ext d6g;rcases Hs.mp h with e1|h1 <;> rcases Hs.mp h' with e2|h2
  ·rw[e1,e2]
  ·show absurd (GX.mpr #[t',h2,by rw[<- e,e1]]) n1
  ·show absurd (GX.mpr #[t,h1,by rw[e,e2]]) n1
  ·show ih n2 h1 h2
def QU [DecidableEq α]:∀ {xs ys:List α},xs.Nodup->qT->xs.length<=ys.length
 | [],_,_,_=>HW _
 | x::xs,ys,nd,h=>by let#[n1,n2]:=HQ.mp nd;let hx:=h x Hi;let:=QU (xs:=xs) (ys:=ys.erase x) n2 λe16=>(J8 λz=>n1 (by rw[<- z];show hy)).mpr<|h y (He _ hy);rw[Li hx]at this;let:=List.length_pos_of_mem hx;rw[HZ];lia
variable {ord:η}{L:Str->Int}{tu τ:Int}{s:S}
def Ok.nums (c8h):∀ k∈s.ck++s.uw.map num,k∈T.map (·.1):=λe8a=>by
 rcases Hx.mp hk with h|h
 ·let#[t,jb]:=O.Nc k h;show GX.mpr #[t,mh]
 ·let#[r,h1,1]:=GX.mp h;let#[t,h2,c,1,_]:=f1B h1;show GX.mpr #[t,h2,1]
def Ok.room (c8h):s.cs.length+s.uw.length<=T.length:=by let:=QU O.nd O.nums;ext d3g
def Ok.three (c8h):∀ r∈s.uw,r.length=3:=λe2T=>by let#[t,_,c,1,_]:=f1B hr;rfl
def RJ:t∈UA T x ↔ t∈T/\t.2.1=x:=by ext1 UA;rw[Hw,Iw]
def Ok.Oh (c7X)(c8h)(hx:x∈s.left)(e:τ=tu+L x):e9v a10:=by
 let xo:=O.sub.subset hx;let xh:=(O.lft x xo).mp hx;let snd:∀ r∈sends T vf s.cs τ x,∃ t∈T,∃ c,r=b5A/\t.2.1=x:=λe2T=>by let#[AT]:=GX.mp hr;let#[mh]:=RJ.mp ht;show#[t,h1,_,by rw[e,h2],h2]
 let hk:∀ {y},y∈(s.hs++xj).map (·.1) ↔ y∈s.hk\/y=x:=λ{y}=>by simp
 show#[λe2T=>?_,λk Us=>?_,λe4t h=>?_,λe2T=>?_,?_,λe79=>?_,λe16=>?_,?_,List.Sublist.trans (List.erase_sublist) O.sub,λe16=>?_]
 ·rcases Hx.mp hr with h|h
  ·let#[t,h1,c,Fd]:=f1B h;show#[t,h1,c,h2,hk.mpr<|.inl h3]
  ·let#[t,h1,c,Fd]:=snd r h;show#[t,h1,c,h2,hk.mpr<|.inr h3]
 ·let#[t,wG]:=O.Nc k Us;show#[t,h1,h2,hk.mpr<|.inl h3,h4]
 ·rcases hk.mp h with h|h
  ·rcases O.all t ht h with h|h
   ·show .inl h
   ·show .inr (by rw[GZ];show HK _ h)
  ·show .inr ?_;rw[GZ];show Hq _ ?_;ext1 sends;rw[GY];show GX.mpr #[t,RJ.mpr #[ht,h],1]
 ·rcases Hx.mp hr with h|h
  ·show O.late r h
  ·let#[AT]:=GX.mp h;let:=K.pos t (RJ.mp ht).1;change τ<=τ+t.2.2.2
   lia
 ·rw[GZ,<- HI];let e2:(e5e τ x).map num=(UA T x).map (·.1):=by ext1 sends;rw[GY];rfl
  rw[e2];show HL.mpr #[O.nd,e63 K.nd,λe6Z ab=>?_];let#[t,mh]:=GX.mp hb;let#[zC]:=RJ.mp h1;let:∃ t'∈T,t'.1=a/\t'.2.1∈s.hk:=by
   rcases Hx.mp ha with h|h
   ·let#[t',pU,_]:=O.Nc a h;show#[t',pU]
   ·let#[r,g0,1]:=GX.mp h;let#[t',g1,c,1,g3]:=f1B g0;show#[t',g1,1,g3]
  let#[t',pU]:=this;let:=f1C h3 g1 (by rw[h2,g2,ab]);rw[<- this,h4]at g3;show xh g3
 ·rcases Hx.mp hz with h|h
  ·show O.hs z h
  ·rw[Ht.mp h];show e
 ·rcases hk.mp hy with h|h
  ·show O.ho y h
  ·rw[h];show xo
 ·change (s.hs++xj).map (·.1) |>.Nodup
  rw[GZ];show HL.mpr #[O.UZ,by simp,λe6Z ab=>by let:a=x:=ab.trans<|Ht.mp hb;show xh (by rw[<- this];show ha)]
 ·rw[hk];let ln:=K.Uq.sublist O.sub;rw[ln.mem_erase_iff,O.lft y hy];show#[λgR z=>(by let#[a,b]:=gR;show z.elim b a),λh=>#[λz=>h<|.inr z,λz=>h<|.inl z]]
def MH:t∈missing T cs x ↔ t∈T/\t.2.2.1=x/\t.1∉cs.map (·.1):=by ext1 missing;rw[Hw,IL,Iw,K2,decide_eq_false_iff_not]
def Ok.time (c7X)(c8h)(hx:x∈ord)(m:e9w x=[])(h:∃ t∈T,t.2.2.1=x/\tu+L t.2.1+t.2.2.2=τ):τ=tu+L x:=by
 let a1:∀ t∈T,t.2.2.1=x->tu+L t.2.1+t.2.2.2<=τ:=λe4t e=>by
  let:t.1∈s.ck:=L7 λz=>by let:=MH.mpr #[ht,e,z];rw[m]at this;ext d46
  let#[t',PB,_,g4]:=O.Nc _ this;rw[f1C ht g1 g2.symm];show g4
 let#[t,ht,mC]:=h;ext d8G;let hm:L t.2.1+t.2.2.2∈(T.filter λt=>decide Ř).map λt=>L t.2.1+t.2.2.2:=GX.mpr #[t,Hw.mpr #[ht,Hf e1],1];let#[zC]:=b8w<|List.ne_nil_of_mem hm;let g1:=h4 _ hm;let#[t',g2,g3]:=GX.mp h3;let#[g4,g5]:=Hw.mp g2;let:=a1 t' g4 (HB g5)
 lia
def x0 (d1U):∀ (xs:η)(s:S),e9v s->n∈s.ck->b0H->xs.Nodup->a43->(∀ x∈s.left,x∉xs->e9w x≠[])->
  Ok T ord L tu τ c2M/\(e4p s).cs=s.cs/\∀ x∈(e4p s).left,e9w x≠[]
 | [],s,O,_,_,_,_,w=>#[O,1,λe0M=>w x hx λz=>nomatch z]
 | x::xs,s,O,nc,hτ,nd,hx,w=>by
  ext d28
  ·ext d6t;let tn:t.1=n:=e2.resolve_left λz=>by let:=MH.mpr #[ht,e1,z];rw[m]at this;cases this
   ext d25;let ln:s.left.Nodup:=K.Uq.sublist O.sub;show x0 K hn xs _ O' nc hτ n2 (λe16=>?_) λe16 ny=>?_
   ·let#[mh]:=hx y<|He _ hy;ext d4k
   ·let#[mh]:=ln.mem_erase_iff.mp hy;show w y h2 λz=>(Hs.mp z).elim h1 ny
  ·ext d5L;show x0 K hn xs s O nc hτ n2 (λe16=>hx y<|He _ hy) λe16 ny=>?_;by_cases z:y=x
   ·rw[z];show m
   ·show w y hy λq=>(Hs.mp q).elim z ny
def Ok.step (c7g)(hu:s.uw≠[]):∃ τ',e0k τ' (e3V s)/\(∀ x∈(e3V s).left,e3d (e3V s).cs x≠[])/\(e3V s).cs.length=s.cs.length+1/\
  ∃ r rest,dA s.uw=r::rest/\r.length=3/\num r∉s.ck/\(e3V s).cs=s.cs++[Ņ]:=by
 ext d6u
 cases e:dA s.uw with
 | nil=>ext d4s
 | cons r rest=>
  rw[e]at pm up;let rm:r∈s.uw:=pm.mem_iff.mp Hi;ext d7c;let first:∀ q∈rest,e1S 0<=q.getD 0 0:=λe3Y=>by
   ext d4O
   match q,q3 with
   | [a,b,d],_=>
    rw[er]at h1 ⊢;unfold bI at h1;change _<=a;by_cases z:a=tu+L t.2.1+t.2.2.2
    ·rw[z];show K6 _
    ·rw[if_neg z]at h1;let:=ID h1;change tu+L t.2.1+t.2.2.2<=a
     lia
  let nn:(s.ck++num r::rest.map num).Nodup:=by let:(s.ck++(r::rest).map num).Perm (s.ck++s.uw.map num):=(pm.map num).append_left _;ext d7J
  let nr:num r=t.1:=by rw[er];rfl
  let rt:e1S 0=tu+L t.2.1+t.2.2.2:=by rw[er];rfl
  let rn:num r∉s.ck:=λz=>(HL.mp nn).2.2 _ z _ Hi rfl;let O1:e0k z5 Ej:=by
   let ckm:∀ {k},k∈(s.cs++[Ņ]).map (·.1) ↔ k∈s.ck\/k=num r:=λ{k}=>by simp
   ext d2R
   ·rcases ckm.mp hk with h|h
    ·ext d3Q
    ·ext d4T
   ·rcases O.all t' Qm h with h|h
    ·show .inl c16
    ·ext d6J;rcases Hs.mp h with h|h
     ·show .inl c17
     ·show .inr h
   ·change ((s.cs++[Ņ]).map (·.1)++rest.map num).Nodup;rw[GZ,HI];show nn
  let es:e7Q vf s=s.left.foldl (f1D vf<|e1S 0) Ej:=by ext1 Rn.step;rw[e]
  let H:=x0 (vf:=vf) K (n:=num r) (GX.mpr #[t,ht,nr.symm]) s.left _ O1 Ė (λt' Qm h=>by rw[f1C Qm ht<|by rw[h,nr],rt]) (K.Uq.sublist O.sub) (λe0M=>#[hx,?_]) (λe0M nx=>absurd hx nx)
  ·rw[es];show#[_,H.1,by rw[H.2.1];show H.2.2,by rw[H.2.1];simp,r,rest,1,O.three r rm,rn,H.2.1]
  ·ext d3X;by_cases z:t'.1=num r
   ·show .inr z
   ·show .inl λh=>by let:t'.1∈(s.cs++[Ņ]).map (·.1):=h;rw[GZ]at this;show (Hx.mp this).elim g3 λh=>z (Ht.mp h)
def Ok.fin (c7g)(hu:s.uw=[]):∀ x∈ord,(x,tu+L x)∈s.hs:=by
 let b0e:∀ (n:Nat) x,ord[n]?=!x->x∈s.hk:=λn=>by
  induction n using Nat.strongRecOn with
  | ind n ih=>
   ext d7z;show L7 λz=>?_;let xo:=Hb hx;let#[t,g]:=b4S _<|w x ((O.lft x xo).mpr z);let#[pU]:=MH.mp g;let#[yh,hu',hv]:=K.up t g1;rw[g2]at hv;let vn:v=n:=by let#[a,b]:=GW.mp hv;let#[c,d]:=GW.mp hx;show (List.getElem_inj K.Uq).mp (by rw[b,d])
   let:=ih u #[0] _ hu';rcases O.all t g1 this with h|h
   ·show g3 h
   ·rw[hu]at h;cases h
 ext d7z;let#[n,hn]:=IT.mp hx;let#[z,mh]:=GX.mp<|b0e n x hn;let:=O.hs z h1;rw[h2]at this;rw[<- this,<- h2];show h1
def Ok.WJ (O:e9v #[u,cs,l,h]):e9v #[u,cs,ord.filter (λx=>not (decide (x∈h.map (·.1)))),h]:=
 #[O.row,O.Nc,O.all,O.late,O.nd,O.hs,O.ho,O.UZ,J1,λe0M=>by rw[Hw,K2,decide_eq_false_iff_not];show#[λz=>z.2,λz=>#[hx,z]]]
def a32 (c7X)(hx:x∈ord)(h:O3 T x=[]):L x=0:=by ext d8G;rw[show (T.filter λt=>decide _)=[] from h];rfl
def starts (c7X):∀ (pre:η)(s:S),e0k tu #[s.uw,s.cs,ord.filter (λx=>not (decide (x∈s.hk))),s.hs]->pre.Nodup->(∀ x∈pre,x∈ord/\x∉s.hk)->
  Ok T ord L tu tu #[(e1A s).uw,(e1A s).cs,ord.filter (λx=>not (decide (x∈(e1A s).hk))),(e1A s).hs]/\(e1A s).cs=s.cs/\
  (e1A s).left=s.left++pre.filter b3s/\∀ x,x∈(e1A s).hk ↔ x∈s.hk\/x∈pre/\O3 T x=[]
 | [],s,O,_,_=>#[O,1,(HD _).symm,λx=>by simp]
 | x::pre,s,O,nd,h=>by
  ext d6g;let#[xo,xh]:=h x Hi;rw[IG];by_cases c:O3 T x=[]
  ·let e:Mo T vf tu s x=a6d:=if_pos c;let O':=(O.Oh (vf:=vf) K (x:=x) (Hw.mpr #[xo,by simpa using xh]) (by rw[a32 K xo c];omega)).WJ;rw[e];let hk:∀ {y},y∈(s.hs++zo).map (·.1) ↔ y∈s.hk\/y=x:=λ{y}=>by simp
   let#[wG]:=e9t pre a6d O' n2 λe16=>#[(h y<|He _ hy).1,λz=>(hk.mp z).elim (h y<|He _ hy).2 λz=>n1 (by rw[<- z];show hy)]
   show#[mh,by rw[h3,IK,if_neg<|by simpa using c],λy=>?_];rw[h4 y];change y∈(s.hs++zo).map (·.1)\/_ ↔ _;rw[hk,Hs];ext d4M
   ·rintro ((z|z)|z)
    ·show .inl z
    ·show .inr #[.inl z,by rw[z];show c]
    ·ext d8H
   ·rintro (z|⟨z|z,q⟩)
    ·show .inl (.inl z)
    ·show .inl (.inr z)
    ·show .inr #[z,q]
  ·let e:Mo T vf tu s x=xF:=if_neg c;rw[e];let#[wG]:=e9t pre xF O n2 λe16=>h y<|He _ hy;show#[h1,h2,by rw[h3,IK,if_pos<|by simpa using c,HI];rfl,λy=>?_];rw[h4 y,Hs];constructor
   ·rintro (z|z)
    ·show .inl z
    ·ext d8H
   ·rintro (z|⟨z|z,q⟩)
    ·show .inl z
    ·show absurd (by rw[<- z];show q) c
    ·show .inr #[z,q]
def S7 (c7X):e0k tu c0b/\(e1i ord).cs=[]/\∀ x∈(e1i ord).left,e3d (e1i ord).cs x≠[]:=by
 ext d4d
 let O0:=O00.WJ;let#[wG]:=e9t ord uE O0 K.Uq λe0M=>#[hx,λz=>by cases z]
 let h2:(e1i ord).cs=[]:=h2;let h3:(e1i ord).left=ord.filter (λx=>not (decide _)):=h3;let h4:∀ x,x∈(e1i ord).hk ↔ x∈ord/\O3 T x=[]:=λx=>by let:=h4 x;rw[show (x∈(S.mk [] [] [] []).hk)=False from eq_false (λz=>by cases z),false_or]at this;show this
 let ml:∀ x,x∈(e1i ord).left ↔ x∈ord/\O3 T x≠[]:=λx=>by rw[h3,Hw,K2,decide_eq_false_iff_not]
 show#[#[h1.row,h1.Nc,h1.all,h1.late,h1.nd,h1.hs,h1.ho,h1.UZ,by rw[h3];show J1,λe0M=>?_],h2,λe0M=>?_]
 ·rw[ml,h4];show#[λz q=>z.2 q.2,λz=>#[hx,λq=>z #[hx,q]]]
 ·rw[h2];let:=((ml x).mp hx).2;intro z;show this ?_;unfold missing at z;ext1 O3;simpa using z
def V6 (c7X):∀ (n:Nat)(s:S)(τ:Int),e9v s->(∀ x∈s.left,e9w x≠[])->T.length<n+s.cs.length->∃ τ',e0k τ' (e6a s)/\(∀ x∈(e6a s).left,e3d (e6a s).cs x≠[])/\(e6a s).uw=[]
 | 0,s,τ,O,w,h=>by let:=O.room;lia
 | n+1,s,τ,O,w,h=>by
  ext1 sim;by_cases c:s.uw=[]
  ·ext d3S;show#[τ,O,w,c]
  ·ext d3j;let#[τ',O',w',l,_]:=O.step (vf:=vf) K w c;show V6 K n _ τ' O' w' (by rw[l];lia)
def XZ (c7X):∀ x∈ord,(x,tu+L x)∈(sim T vf ZM c0b).hs:=by let#[O,e,w]:=S7 K;let#[τ',O',w',u]:=V6 K ZM _ tu O w #[0];show O'.fin K w' u
def U5 (d1U):∀ (xs:η)(s:S),e9v s->b0H->xs.Nodup->a43->
  Ok T ord L tu τ c2M/\(e4p s).cs=s.cs/\∀ y∈s.left,y∉xs->y∈(e4p s).left
 | [],s,O,_,_,_=>#[O,1,λe0M _=>hx]
 | x::xs,s,O,hτ,nd,hx=>by
  ext d28
  ·ext d6t;let tn:t.1=n:=e2.resolve_left λz=>by let:=MH.mpr #[ht,e1,z];rw[m]at this;cases this
   ext d25;let#[ic]:=U5 K hn xs _ O' hτ n2 λe16=>by let#[mh]:=hx y<|He _ hy;ext d4k
   show#[h1,h2,λe16 ny=>h3 y ((J8 λz=>ny (by rw[z];show Hi)).mpr hy) λz=>ny<|He _ z]
  ·ext d5L;let#[ic]:=U5 K hn xs s O hτ n2 λe16=>hx y<|He _ hy;show⟨h1,h2,λe16 ny=>h3 y hy λz=>ny<|He _ z⟩
def Ok.ev (c7g)(hu:s.uw≠[]):∃ r rest,dA s.uw=r::rest/\r=[e1S 0,num r,e4F 0]/\num r∉s.ck/\num r∈T.map (·.1)/\rest.length<s.uw.length/\(∀ q∈rest,q.length=3)/\
  Ok T ord L tu z5 Ej/\(∀ t∈T,t.1=num r->tu+L t.2.1+t.2.2.2=e1S 0)/\(∀ x∈s.left,∃ t∈T,t.2.2.1=x/\(t.1∉(s.cs++[Ņ]).map (·.1)\/t.1=num r)):=by
 ext d6u
 cases e:dA s.uw with
 | nil=>ext d4s
 | cons r rest=>
  rw[e]at pm up;let rm:=pm.mem_iff.mp Hi;ext d7c;let first:∀ q∈rest,e1S 0<=q.getD 0 0:=λe3Y=>by
   ext d4O
   match q,q3 with
   | [a,b,d],_=>
    rw[er]at h1 ⊢;unfold bI at h1;by_cases z:a=tu+L t.2.1+t.2.2.2
    ·rw[z];show K6 _
    ·rw[if_neg z]at h1;let:=ID h1;change tu+L t.2.1+t.2.2.2<=a;omega
  let nn:(s.ck++num r::rest.map num).Nodup:=by let:(s.ck++(r::rest).map num).Perm _:=(pm.map num).append_left _;ext d7J
  let nr:num r=t.1:=by rw[er];rfl
  let rt:e1S 0=tu+L t.2.1+t.2.2.2:=by rw[er];rfl
  let rn:=λz=>(HL.mp nn).2.2 _ z _ Hi rfl;let O1:e0k z5 Ej:=by
   let ckm:∀ {k},k∈(s.cs++[Ņ]).map (·.1) ↔ k∈s.ck\/k=num r:=λ{k}=>by simp
   ext d2R
   ·rcases ckm.mp hk with h|h
    ·ext d3Q
    ·ext d4T
   ·rcases O.all t' Qm h with h|h
    ·show .inl c16
    ·ext d6J;rcases Hs.mp h with h|h
     ·show .inl c17
     ·show .inr h
   ·change ((s.cs++[Ņ]).map (·.1)++rest.map num).Nodup;rw[GZ,HI];show nn
  show#[r,rest,1,by rw[er];rfl,rn,GX.mpr #[t,ht,nr.symm],?_,λe3Y=>O.three q<|pm.mem_iff.mp (He _ hq),O1,λt' Qm h=>by rw[f1C Qm ht<|by rw[h,nr],rt],λe0M=>?_]
  ·let:=pm.length_eq;rw[HZ]at this;omega
  ·ext d3X;by_cases z:t'.1=num r
   ·show .inr z
   ·show .inl λh=>by rw[GZ]at h;show (Hx.mp h).elim g3 λh=>z (Ht.mp h)
def WE (c7X)(i):e0k tu #[((ord.take i).foldl Ŗ uE).uw,[],ord.filter (λx=>not (decide (x∈((ord.take i).foldl Ŗ uE).hk))),((ord.take i).foldl Ŗ uE).hs]/\((ord.take i).foldl Ŗ uE).cs=[]/\
  ((ord.take i).foldl Ŗ uE).left=(ord.take i).filter b3s/\∀ x,x∈((ord.take i).foldl Ŗ uE).hk->x∈ord.take i:=by
 ext d4d
 let O0:=O00.WJ;let#[wG]:=e9t _ uE O0 (K.Uq.sublist<|JA _ _) λe0M=>#[IN hx,λz=>by cases z]
 show#[by rw[h2]at h1;show h1,h2,by rw[h3,IF],λe0M=>?_];rcases (h4 x).mp hx with z|z
 ·cases z
 ·show z.1
open e
open e
universe L2.Rn
namespace K72
open PySem L2
open PyProof.Rows (boot_all boot_any boot_bool boot_dict boot_int boot_list boot_sorted boot_str boot_tuple)
def a3m (h0:0<=i)(h:i<xs.length):∃ v,xs[i.toNat]?=!v/\R8 xs i=!v:=by
 let hj:i.toNat<xs.length:=#[0]
 show#[xs[i.toNat],GT hj,?_];let:=dG<|GT hj;rwa [Int.toNat_of_nonneg h0]at this
structure Cg (mg:Ω):Prop where
 M8:mg "len"=none
 Mg:mg "range"=none
 Q6:mg "list"=none
 Ms:mg "enumerate"=none
 Z4:mg "int"=none
 NW:mg "zip"=none
 WT:mg "sum"=none
abbrev B9:Int:=(10:Int) ^ (9:Int).toNat
theorem zu:Nat->Int->Ξ
 | 0,_=>[]
 | n+1,x=>if 0<x then x % B9::zu n (x / B9) else []
theorem yV:Nat->Int->Int->Ξ
 | 0,_,_=>[]
 | n+1,k,x=>x * c1a % 2147483647::yV n (k+1) (x * c1a % 2147483647+1)
def b1S:∀ n k x,(yV n k x).length=n:=by
 intro r'
 induction r' with
 | zero=>
  ext d7f
 | succ n ih'=>
  intro k x;ext1 yV;rw[HZ,ih']
def b6J:∀ n x,(zu n x).length<=n
 | 0,_=>Hl _
 | n+1,x=>by
  ext1 zu;split
  ·simp_all [HZ,b6J]
  ·show HW _
theorem xG (c:Int)(m):Ξ:=if c % 2=0 then zu m (c / 2) else []
theorem cg (c:Int)(m):Ξ:=(xG c m++yV m 0 b18).take m
def a55 (c:Int)(m):(cg c m).length=m:=by ext1 cg;rw[Hm,Hn,b1S];omega
variable {c:Cl}
def a8A:ar ø ø (d88 96):=Py
inductive gS (K:Ψ)(c8O):∀(a:Addr) (k:Int) (ns:Ξ),vs=[.ref a,.int k]->0<=k->LO K H a Ł->(∀ c:Int,Q (.int c) H)
def a3t [Bx:Bd](d1q):Tk 1 "_law_cell_at" (top 96) ø (gS Bx.K):=by
 ext d2U;show F.k a8A λe2U=>?_
 ·let#[a,k,ns,1,hk,hS,q]:=h;show#[_,(ag (gC (pT gZ fY<|e65 boot_len jn)
  (d9V (pI P9 lS<|pv 1))
  N3)
 (d9V aK)),?_]
  show#[m4,a,_,1,.inl hS,yU,1,?_];show qf (λhc=>?_) (λhc=>?_)
  ·let hc:=HB hc;let#[v,ev,e]:=a3m hk hc;rw[Hh]at ev
   cases hn:ns[k.toNat]? with
   | none=>rw[hn]at ev;cases ev
   | some z=>
    rw[hn]at ev;let:v=.int z:=by simpa using ev.symm
    ext d4A;show#[m4,a,_,k,_,2,hS,e,q z]
  ·show q 0
inductive b2k:Ä
 |mk {c:Int}{m:Nat}:m<=100->b2k [.int c,.int m] (rw (cg c m))
def a59 [Bx:Bd](d1q):Tk 1 "_law_stream" (top 97) Ā (Pr b2k):=by
 show N7 ["_law_found","_law_number","_law_k"] ?_ λd9Y=>(qC oX
 (qC (qs 3 ND<|e2J (Đ 0) dI)
 (qC (qW Hr (PW.pt<|xM (d9x (e0O (Đ 0) dI)) (xM (e6F (Đ 3) dI)<|eX (e3R (d8U 2)<|Đ 1)))
  (qC (qA (aA<|d92 zB (a8 (e0O (Đ 3)<|dO a4i OC dI dI) K')) λe0N=>h)
 (d9A 3 (e2J (Đ 3)<|dO a4i OC dI dI))))
 (qC (qs 3 ND<|e0O (e3i (Tj (e2J (Đ 0) dI) dI) dI) dI)
 (qC (e1g vh pR (aI 4)
  (qC (qs 3 ND<|e0O (e3i (Đ 3)<|Tj (Tj (e2J (Đ 3) dI) dI) (Đ 4)) dI)
 (qC (qA (aA<|d92 (pv 2) (a8 (Đ 3) K')) λe0N=>h)
 (d9A 3 (f07 dI)))))
 (qr<|Yv (Đ 2) Yu (Yt<|Đ 1)))))))
 rintro _ _ @⟨c,m,hm⟩;show .nx #[Z7] (.nx #[xD] ?_);show dR (b:=(([]:Ξ),c / 2)) (λb ε=>(c % 2=0->b.1++zu (m - b.1.length) b.2=zu m (c / 2))/\(c % 2≠0->b.1=[])/\∃ o4,ε=[.fz<|.int c,.fz<|.int m,.ow<|rw b.1,.fz<|.int b.2,o4]) (λb=>m - b.1.length) #[λ_=>rfl,λ_=>rfl,_,1] λb ε h=>?_;let#[l,x]:=b;let#[mh,o4,1]:=h;dsimp only at h1 h2 ⊢;let r1:=eq_int (ε:=[some<|.int c,some<|.int m,some<|rw l,some<|.int x,o4.a]) (ra:=e2x A7<|rC pZ) (rb:=rC<|.int 0) #[2,iQ] rfl;let r2:=gt_int (ε:=a6e) (ra:=rV 3) (rb:=rC<|.int 0) rfl rfl;let r3:=lt_int (ε:=a6e) (ra:=rF OZ<|rA kB SI) (rb:=rV 1) uH rfl;by_cases c0:c % 2=0/\0<x/\l.length<m
 ·let#[c1,c2,c3]:=c0;rw[Hf c1]at r1;rw[Hf c2]at r2;rw[Hf<|by omega]at r3;show .inr #[.t r1<|.t r2 r3,(l++[x % B9],x / B9),_,.nx ⟨rfl,by simp;omega,.z ⟨rfl,⟨rfl,rfl,⟨⟨by decide,by decide,by decide⟩⟩⟩,⟨by decide⟩⟩⟩ ⟨⟨rfl,⟨rfl,rfl,⟨⟨by decide,by decide,by decide⟩⟩⟩,⟨⟨by decide,by decide⟩⟩⟩⟩,⟨λz=>?_,λz=>absurd c1 z,o4,?_⟩,by simp;omega]
  ·let e:m - l.length=(m - (l++[x % B9]).length)+1:=by simp;omega
   rw[<- h1 c1,e,HI];change _=l++(if 0<x then _ else _)
   rw[if_pos c2];rfl
  ·rw[show rw (l++[x % B9])=.lst (l.map .int++[.int<|x % B9]) from congrArg D.lst GZ];rfl
 ·show .inl vV
  ·by_cases c1:c % 2=0
   ·rw[Hf c1]at r1;by_cases c2:0<x
    ·rw[Hf c2]at r2;rw[Hg λz=>c0 #[c1,c2,#[0]]]at r3;show .t r1 (.t r2 r3)
    ·rw[Hg c2]at r2;show .t r1 (.f r2)
   ·rw[Hg c1]at r1;show .f r1
  let hl:l=xG c m:=by
   ext1 xG;by_cases c1:c % 2=0
   ·rw[if_pos c1,<- h1 c1]
    cases e:m - l.length with
    | zero=>show (HD _).symm
    | succ n=>rw[show zu (n+1) x=[] from if_neg λz=>c0 #[c1,z,#[0]],HD]
   ·rw[if_neg c1];show h2 c1
  show .nx #[#[#[#[xD,1,.i],1,#[.inr AR]],1,iQ]] ?_;let hz:=b6J m<|c / 2;let dl:(xG c m).length<=m:=by ext1 xG;split;show hz;show HW _
  show cW lT (u:=λ(i:Nat)=>.int (i:Int)) (λf2q=>∃ ys y o4,ε=[.fz<|.int c,.fz<|.int m,.ow<|rw (xG c m++ys),.fz<|.int y,o4]/\ys.length=i/\0<=y/\y<=2147483647/\ys++yV (m - i) i y=yV m 0 b18) #[[],_,o4,by rw[hl,HD];rfl,1,Ii _<|by decide,Int.le_of_lt<|HX _ (by decide),1] ⟨m,#[0],⟨rfl,rfl⟩,(bO _).symm⟩ (λi z ε hi h=>?_) λε h=>?_
  ·let#[ys,y,o4,1,yl,y0,y1,ym]:=h;let#[1,Zk]:=jB hi;show#[_,1,_,.nx #[#[#[1,#[#[xD,1,.i],1,.i],GK],1,iQ]]<|.nx #[1,by simp;omega,.z rfl] #[2,.i],ys++b7K,y * tq % 2147483647+1,.fz<|.int i,?_,by simp[yl],?_,?_,?_]
   ·rw[<- HI,show rw (xG c m++ys++b7K)=.lst ((xG c m++ys).map .int++[.int<|y * tq % 2147483647]) from congrArg D.lst GZ];rfl
   ·let:=Ii (y * tq) (show (2147483647:Int)≠0 by decide);omega
   ·let:=HX (y * tq) (show (0:Int)<2147483647 by decide);omega
   ·rw[<- ym,HI,show m - i=(m - (i+1))+1 by omega];rfl
  ·let#[ys,y,o4,1,yl,_,_,ym]:=h;rw[HV]at ym;rw[Nat.sub_self,show yV 0 ĉ=[] from rfl,HD]at ym;show#[c0O,?_];ext1 cg;rw[<- ym,cF,<- Jl]
theorem jH (T:List LS)(msg)(cs)(x):Ξ:=if x="h" then msg else (f1E x).map λt=>(aU cs t.1).getD 0
theorem NB (c9L)(msg)(p)(cs)(x)(t:LS):Int:=e4a (pl t.1) yw
theorem a0q (c9L)(msg)(p)(cs)(x):Θ:=(f1F x).map λt=>de
structure fX (c9e)(pl:Int->Ξ)(p:Int)(T:List LS):Prop where
 Mt:T.length<=1000
 p0:0<p
 p1:p<=1000000
 val:∀ t∈T,cQ c1D (.inl t.1)=!rw (pl t.1)
 len:∀ t∈T,(pl t.1).length<=1000
 fit:∀ t∈T,∀ z∈pl t.1,0<=z/\z<p
inductive ER:Ä
 |mk {T:List LS}{ř:List bo}{pl:Int->Ξ}{x:Str}{cs:Cs}{msg:Ξ}{p:Int}:fX ř pl p T->(x≠"h"->∀ t∈Rn.O3 T x,∃ n,aU cs t.1=!n)->ER [aZ T,aV ř,.str x,Rq cs,qt] (d9d ((a0q T pl msg p cs x).map tD))
def a8C [Bx:Bd](d1q):Tk 1 "_law_out" (top 99) ì (Pr ER):=by
 show N7 ["_law_gone","_law_number",c4H,"_law_numbers"] ?_ λd9Y=>(qC jM
 (qC (e8U (e07 rfl<|ae jZ (ae FB<|ae Bq (ae Be aD))) (cH Bx.K [7,8,9,10])
  (q1 (qI (e0H (Đ 8)<|Đ 2)
  (qC (qs 11 ND<|Đ 4)
 (qC (qI (e4C (Đ 2) jk)
  (q1 (e28 (aQ (i:=11) ND rfl rfl rfl (cS 1 [2,3] ["_law_tie",c51]) NR
  Ĕ
  b1w
  (λe0i=>Mz hr (Đ 2)<|e7D dI)) rfl))
  q0)
 (q1 (qA (aA (e8R (a8 (i7 (f1d (da rJ (da (e0O (e5p (da (e6D (cS 2 [] ["_law_a","_law_b"]) (e9j T.NW<|da (Mz hr (Đ 1)<|Đ 7) (d9h xb))
  Ę
  P4
  b1B) Lp))<|Đ 5) Lp)))) K'))) λe0N=>h))))
  q0)))
 yK))
 rintro _ _ @⟨T,ř,pl,x,cs,msg,p,O,hx⟩;show .nx #[Z7] ?_;show cW T (λf2q=>∃ o7 o8 o9 N6 MX,ε=[.fz<|aZ T,.fz<|aV ř,.fz<|.str x,.fz<|Rq cs,.fz<|rw msg,.fz<|.int p,.ow<|.lst ((((T.take i).filter λt=>decide wB).map λt=>de).map tD),o7,o8,o9,N6,MX]) #[tR,_,1] m8 (λi e8Y=>?_) λe3y=>?_
 ·ext d72;subst he;let tm:=Hb ht;show#[mR,?_];let Mt:=O.Mt;let gl:((((T.take i).filter λt=>decide wB).map λt=>de).map tD).length<=1000:=by
   rw[GS,GS];let:=HJ (λt:LS=>decide wB)<|T.take i;rw[Hm]at this
   lia
  let gs:(((T.take<|i+1).filter λt=>decide wB).map λt=>de).map tD=(((T.take i).filter λt=>decide wB).map λt=>de).map tD++(if t.2.1=x then [tD de] else []):=by
   rw[aO ht,Jj,GZ,GZ,IK];by_cases c:t.2.1=x
   ·rw[if_pos c,if_pos<|Hf c];rfl
   ·rw[if_neg c,if_neg<|by simpa using c];rfl
  generalize ((((T.take i).filter λt=>decide wB).map λt=>de).map tD)=gone at gl gs ⊢;rw[gs];let r:=eq_str (ε:=[some<|aZ T,some<|aV ř,some<|.str x,some<|Rq cs,some<|rw msg,some<|.int p,some<|.lst gone,some<|.int t.1,some<|.str t.2.1,some<|.str t.2.2.1,some<|.int t.2.2.2,MX.a]) (ra:=rV 8) (rb:=rV 2) rfl rfl;by_cases c:t.2.1=x
  ·rw[Hf c]at r;ext d3S;let q:=ne_str (ε:=[some<|aZ T,some<|aV ř,some<|.str x,some<|Rq cs,some<|rw msg,some<|.int p,some<|.lst gone,some<|.int t.1,some<|.str t.2.1,some<|.str t.2.2.1,some<|.int t.2.2.2,some<|rw msg]) (ra:=rV 2) (rb:=rC<|.str "h") rfl rfl;show#[[.fz<|aZ T,.fz<|aV ř,.fz<|.str x,.fz<|Rq cs,.fz<|rw msg,.fz<|.int p,.ow<|.lst (gone++[tD de]),.fz<|.int t.1,.fz<|.str t.2.1,.fz<|.str t.2.2.1,.fz<|.int t.2.2.2,.fz<|rw yw],.t r<|.nx #[1] (.nx (ε1:=[.fz<|aZ T,.fz<|aV ř,.fz<|.str x,.fz<|Rq cs,.fz<|rw msg,.fz<|.int p,.ow<|.lst gone,.fz<|.int t.1,.fz<|.str t.2.1,.fz<|.str t.2.2.1,.fz<|.int t.2.2.2,.fz<|rw yw]) ?_ #[1,gl,.z #[#[2,#[#[#[b7 (xs:=(pl t.1).zip<|jH T msg cs x) #[_,_,#[#[2,.k (O.val t tm) kI],2],fU (pl t.1)<|jH T msg cs x] (by let:=O.len t tm;rw[J7];lia) λe79=>#[yn,2,#[by let:=O.fit t tm z.1 (Jf hz).1;let:=O.p1;show .inl vF]],1],.mk (by rw[GY];rfl)],1,#[O.p0]],1],by simp,by ext1 NB;rw[Mx.LU,<- iC];rfl]]),.fz<|.int t.1,.fz<|.str t.2.1,.fz<|.str t.2.2.1,.fz<|.int t.2.2.2,_,1];by_cases xh:x="h"
   ·rw[Hg λz=>z xh]at q;show .f q (by rw[show jH T msg cs x=msg from if_pos xh];rfl)
   ·rw[Hf xh]at q;show .t q #[?_];rw[show rw yw=.lst ((T.filter λt=>decide Ř).map λt=>.int<|(aU cs t.1).getD 0) from by ext1 jH;rw[if_neg xh];show congrArg D.lst GY];show bd (u:=bu) (λt=>decide Ř) m8 Mt λt' Qm=>#[_,1,e91 rfl,λe=>#[1,sB,by let#[n,hn]:=hx xh t'<|Hw.mpr #[Qm,e];rw[hn];show .k (sC hn) kI]]
  ·rw[Hg c]at r;show#[_,.f r rfl,.fz<|.int t.1,.fz<|.str t.2.1,.fz<|.str t.2.2.1,.fz<|.int t.2.2.2,MX,?_];rw[if_neg c,HD];rfl
 ·ext d72;ext d5a
open e
structure a5x (mg:Ω):Prop where
 Q6:mg "list"=none
 NX:mg "sorted"=none
abbrev hsD (hs:List (Str×Int)):D:=MU (hs.map λz=>c0d)
abbrev rnd (c9L)(msg:Ξ)(p tu:Int)(ord:η):Rn.S:=Rn.sim T (e0x p) ZM (Rn.start T (e0x p) tu ord)
inductive a8B:Ä
 |mk {T:List LS}{ř:List bo}{pl:Int->Ξ}{ord:η}{L:Str->Int}{tu p:Int}{msg:Ξ}:fX ř pl p T->Rn.Tk T ord L->ord.length<=1000->T.length<64->a8B [aZ T,.lst (ord.map .str),aV ř,.int tu,qt] (hsD (rnd T pl msg p tu ord).hs)
theorem c5c (t:LS):List Ws:=[.inl t.1,.inr t.2.1,.inr t.2.2.1,.inl t.2.2.2]
def b2B (ha:ra ε (d9d (l.map bu)))(hb:rb ε EN):rO yo ra rb ε b8Q:=by let q:yo (.lst<|(l.map c5c).map λks=>.tup _) ĉ:=.mk;ext d4w;show#[ha,hb,q]
def c2W (ha:ra ε pb)(hb:rb ε EN):rO Gv ra rb ε b5g:=by let q:Gv (.lst<|(l.map λr=>r.map Sum.inl).map λks=>.tup _) ĉ:=.mk;ext d4w;rw[show ((λks:List Ws=>D.tup _) ∘ λr:List Int=>r.map Sum.inl)=tD from funext λr=>congrArg D.tup GY]at q;show#[ha,hb,q]
variable (T:List LS)(ř:List bo)(ord:η)(tu p:Int)(msg:Ξ)
abbrev b3P (u:χ)(cs:ι)(l:χ)(h:ι)(d1K):Ev:=[.fz (aZ T),.fz (d9d (ord.map .str)),.fz (aV ř),.fz (.int tu),.fz (rw msg),.fz (.int p),.ow (d9d u),.ow (MU cs),.ow EE,.ow (MU h),mO]
abbrev b6L (s:Rn.S)(d1K):Ev:=e0h (s.uw.map tD) (s.cs.map λx=>b9I) Aw (s.hs.map λz=>c0d) N6 MX Mr MT Oe Nr Od
open e
def b0Z (h:(f1F x)[i]?=!t):((e8L x).take (i+1)).map tD=((e8L x).take i).map tD++[tD qE]:=by rw[aO (show _[i]?=some qE by ext1 Rn.sends;rw[Hh,h];rfl),GZ];rfl
def a6N (c9k)(c9q){x:α}(hx:xs[i]?=!x):x∉xs.take i:=λz=>by
 ext d5g;let:=c1k nd (GT<|show j<xs.length by lia) hx ej
 lia
def b5Y (h1:p ε a)(h2:q ε b):vH p q ε (a&&b):=by
 cases a with
 | true=>show .t h1 h2
 | false=>show .f h1
def a2l (ha:ra ε sH)(hb:rb ε (Rq cs)):rO jC ra rb ε (.bl (not (decide (k∈cs.map (·.1))))):=#[ha,hb,e12 kI<|e1Q (by congr 1;rw[IH,sP,Iw,GY];show⟨λh=>let ⟨y,h1,h2⟩:=GX.mp h;GX.mpr #[y,h1,congrArg Sum.inl h2],λh=>let ⟨y,h1,h2⟩:=GX.mp h;GX.mpr b7L⟩)]
def b3R (c91):∃ n,aU cs k=!n:=by
 let#[y,mh]:=GX.mp h;ext1 aU
 cases e:cs.find? λx=>decide XY with
 | some z=>show#[_,1]
 | none=>show absurd (Hf h2) (IZ.mp e y h1)
def b4T [Bx:Bd](T:a5x Bx.mg)(Ul:Mh 1 "_law_out" ì (Pr ER)):Tk 2 "_law_round" (top 100) é (Pr a8B):=by
 show N7 ["_law_under_way","_law_came","_law_left","_law_heard_at","_law_post","_law_number","_law_delay","_law_carries","_law_time","_law_tie","_law_one"] ?_ λd9Y=>(qC jM
 (qC (d9K 7)
 (qC (qo 8 ND<|c7 Lp)
 (qC (d9K 9)
 (qC (e0w Pi Be (aI 10)
  (q1 (qI (dT c0e a3I (e0y (cS 1 [10] ["_law_tie","_law_post"]) NR
  Ĕ
  b1w
  ĵ) (c7 Lp).p)
  (qC (d9r (e3w Fg rJ (Đ 3) rfl))
 (q1 (e73 (e07 rfl<|ae Zc (ae jD<|ae Am aD)) (cH Bx.K [11,12,13])
  (q1<|qA (aA<|e8R (a8 (i7<|da (Tj (Đ 3)<|Đ 12) (da xb<|e59 Lp)) K')) (λe0N=>h)))))
  (q1<|qA (aA<|d92 (pv 8) (a8 (Đ 10) K')) (λe0N=>h)))))
 (qC (qW Hr (dT (a0r (ur RN)<|E8 hr) a3H (Đ 6) (c7 Lp).p)
  (qC (a0b<|pS 6 ND (bQ b0V rfl T.NX boot_sorted<|a8 xR K'))
 (qC (a3y (yB (d8V xR)<|e07 rfl (ae QH<|ae Zc DN))<|cH Bx.K [14,11,13])
 (qC (d9r (e3w (pv 7) xb (Đ 13) rfl))
 (q1 (qLw Hr rfl (dCp rfl T.Q6<|Đ 8) Be (aI 10)
  (q1 (qI (dT c0e a3I (e0y (cS 1 [7,10] ["_law_tie","_law_came","_law_post"]) NR
  Ĕ
  (λe0i=>bK<|PW.pt (xM (e0H ĺ<|Đ 2)<|eX (e4X ĺ<|Đ 1)))
  ĵ) (c7 Lp).p)
  (qC (a7B (aA<|Qp Bx.K Hu PySem.F.slot_list_remove PySem.F.type_list_remove b0i (pv 8) (a8 (Đ 10) K')) λe0N=>h)
 (qC (d9r (e3w Fg rJ (Đ 14) rfl))
 (q1 (e73 (e07 rfl<|ae (pN 15 ND) (ae jD<|ae (pN 16 ND) aD)) (cH Bx.K [15,12,16])
  (q1<|qA (aA<|e8R (a8 (i7<|da (Tj (Đ 14)<|Đ 12) (da (Đ 15)<|da (Đ 16) Lp)) K')) (λe0N=>h))))))
  q0))))))))
 (qr<|Đ 9)))))))
 rintro _ _ @⟨T,ř,pl,ord,L,tu,p,msg,O,K0,oz,tz⟩;show .nx #[Z7]<|.nx ⟨rfl⟩ (.nx ⟨⟨rfl,by simp,rfl⟩⟩ (.nx ⟨rfl⟩ ?_));let hz:∀ {τ:Int}{s:Rn.S},e4x τ s->s.hs.length<=1000:=λO=>by let:=Rn.QU O.UZ O.ho;ext d6S;lia
 let hn:∀ {hs:List (Str×Int)}{x:Str},x∉hs.map (·.1)->(.inr x:Ws)∉(hs.map λz=>b5B).map (·.1):=λh z=>by rw[GY]at z;let#[y,mh]:=GX.mp z;show h (GX.mpr #[y,h1,Sum.inr.inj h2])
 show cW ord (λf2q=>∃ N6 MX Mr MT Oe Nr Od,ε=d96 ((ord.take i).foldl (e6b tu) uE) N6 MX Mr MT Oe Nr Od) #[tR,CD,1] m8 (λe2O=>?_) λe3y=>?_
 ·let#[mO,he]:=gR;subst he;let S0:=e5s K0 i;let S1:=e5s K0<|i+1;let xi:=a6N K0.Uq hx;rw[aO hx,JY,IG,List.foldl_nil]at S1 ⊢;generalize (ord.take i).foldl (e6b tu) uE=s at S0 S1 ⊢;let h1:=hz S0.1;let l1:s.left.length<=1000:=by
   rw[S0.2.2.1];let:=HJ (λx=>not (decide (f1E x=[])))<|ord.take i;rw[Hm]at this
   lia
  ext d5Q;let r:=b2B (ε:=(e6R Od).map Sl.a) (ra:=rL 0 [10] (Y0<|rV 0) (λε b=>e4k E5 ZU ε<|.bl b)<|rV 0) (rb:=f1G SI) (l:=f1E x) (bd (xs:=T) (u:=bu) (h:=bu) (λt=>decide Ř) m8 O.Mt λe4t=>#[_,1,e91 rfl,λ_=>rfl]) Z7;by_cases c:f1E x=[]
  ·rw[Hf c]at r;let e:e6b tu s x=#[s.uw++e8W x,s.cs,s.left,s.hs++zo]:=if_pos c;rw[e]at S1 ⊢;let rm:s.uw.length+(e8W x).length<=T.length:=by let:=S1.1.room;rw[Hn]at this;simpa using this
   let hk:x∉s.hs.map (·.1):=λz=>xi<|S0.2.2.2 x z;show b4V r (lq (ε1:=d96 #[s.uw,s.cs,s.left,s.hs++[(x,tu)]] Ps MX Mr MT Oe Nr Od) ?_ (exO (j:=7) (ř:=f2h s.cs x) (ð:=s.cs.map λx=>ŏ) (f1F x) (u:=λt=>tD [t.1,t.2.2.2,e0x p s.cs x t]) (λj ε=>∃ MX Mr MT,ε=e0h (s.uw.map tD++((e8W x).take j).map tD) pL Aw ((s.hs++zo).map λz=>Ů) Ps MX Mr MT Oe Nr Od) rfl ⟨⟨rfl,rfl,rfl,rfl,rfl,rfl,rfl⟩,.mk O λ_ e4t=>by rw[c]at ht;cases ht⟩ GY b6G (λj e8Y=>?_) λε' gR=>?_))
   ·let q:TB 9 (rV 10) DJ (e6R Od) _:=#[1,by rw[GS];show h1,.z rfl,1,kS]
    rw[cr<|hn hk]at q;change TB ą (d8Q _ ((s.hs++zo).map _));rw[GZ];show q
   ·let#[MX,Mr,MT,he]:=gR;subst he;show#[_,#[_,3],_,b1L,.fz<|.int t.1,.fz<|.int t.2.2.2,.fz<|.int (e0x p s.cs x t),?_]
    ·ext d5n
    ·rw[b0Z ht,<- HI];rfl
   ·let#[MX,Mr,MT,he]:=gR;ext d4e;show#[tR,CD,he]
  ·rw[Hg c]at r;let e:e6b tu s x=xF:=if_neg c;show#[_,.f r #[1,by rw[GS];show l1,.z rfl],.fz<|.str x,MX,Mr,MT,Oe,Nr,Od,?_];rw[e];change _=e0h ĉ ((s.left++[x]).map .str) ą ą;rw[GZ];rfl
 ·let#[mO,he]:=gR;ext d2V;let#[S0,sc,sw]:=Rn.S7 (vf:=e0x p) (tu:=tu) K0;show dR (b:=(Rn.start T Ġ tu ord,T.length+1)) (λb ε=>(∃ τ,e4x τ b.1)/\(∀ x∈b.1.left,e7R b.1.cs x≠[])/\Rn.sim T Ġ b.2 b.1=e92 ord/\T.length<b.2+b.1.cs.length/\∃ N6 MX Mr MT Oe Nr Od,ε=d96 b.1 N6 MX Mr MT Oe Nr Od) (λb=>b.2) #[#[tu,S0],sw,1,by dsimp only;lia,_,_,_,_,_,_,_,1] λb ε h=>?_;let#[s,m]:=b;let#[#[τ,Os],w,e,hm,mO,1]:=h;dsimp only at Os w e hm ⊢;let room:=Os.room;let r:=c2W (ε:=(e6S Od).map Sl.a) (ra:=rV 6) (rb:=f1G SI) (l:=s.uw) rfl Z7;by_cases u:s.uw=[]
  ·rw[Hf u]at r;let es:e8M m s=s:=by
    cases m with
    | zero=>rfl
    | succ n=>show if_pos u
   show .inl #[r,#[1,?_]];rw[<- e,es]
  ·rw[Hg u]at r;obtain⟨m,rfl⟩:∃ n,m=n+1:=#[m - 1,by let:=List.length_pos_iff.mpr u;lia]
   let es:e8M (m+1) s=e8M m c2N:=if_neg u;let#[τ',O',w',l',_]:=Os.step (vf:=e0x p) K0 w u;let#[r0,rest,hl,er,rn,rm,rl,r3,O1,hτ,hx]:=Os.ev K0 w u;let st:e7Q Ġ s=s.left.foldl (f1D Ġ<|r0.getD 0 0) #[rest,s.cs++[(r0.getD 1 0,r0.getD 2 0)],s.left,s.hs]:=by ext1 Rn.step;rw[hl]
   obtain⟨a,b,c,rfl⟩:∃ a b c,r0=[nZ]:=#[CD,er]
   let rn:b∉s.cs.map (·.1):=rn;let rm:b∈T.map (·.1):=rm;let O1:e4x a BH:=O1;let hτ:∀ t∈T,t.1=b->tu+L t.2.1+t.2.2.2=a:=hτ;let hx:∀ x∈s.left,∃ t∈T,t.2.2.1=x/\(t.1∉(s.cs++[(b,c)]).map (·.1)\/t.1=b):=hx;let st:e7Q Ġ s=s.left.foldl BA BH:=st;let ln:s.left.Nodup:=K0.Uq.sublist Os.sub;let lz:s.left.length<=1000:=HH Os.sub.length_le oz;show .inr #[r,(e7Q Ġ s,m),b7U (λε' q2=>#[#[#[τ',O'],w',by rw[<- es];show e,by dsimp only;rw[l'];lia,q2],IJ m])
    (lq (J:=λε=>∃ N6 MX Mr MT Oe Nr Od,ε=d96 c2N N6 MX Mr MT Oe Nr Od) (ε1:=e0h (([nZ]::rest).map tD) pL Aw b2U N6 MX Mr MT Oe Nr Od) ?_
    (lq (ε1:=e2f Od) #[1,#[_,3]]
    (lq (ε1:=d96 BH N6 PP Mr Re Sc Nr Od) ?_
    (exW s.left (u:=.str) (λf2q=>∃ N6 Mr Nr Od,ε=d96 ((s.left.take i).foldl BA BH) N6 PP Mr Re Sc Nr Od) ⟨rfl,λe0M=>by let#[y,_,1]:=GX.mp hx;rfl,rfl⟩ #[tR,1] (fun i x ε Te ⟨N6,Mr,Nr,Od,he⟩=>?_) fun ε' ⟨N6,Mr,Nr,Od,he⟩=>?_))))]
   ·let q:yx 6 (e6S Od) _:=.mk (n:=3) rfl #[] Ĺ Os.three;rw[hl]at q;show q
   ·let q:TB 7 (rV 11) (rV 13) (e2f Od) _:=#[1,by rw[GS];lia,.z rfl,1,kI]
    rw[cr (λz=>by rw[GY]at z;let#[y,mh]:=GX.mp z;show rn<|GX.mpr b7L)]at q
    change TB ą (d8Q ((s.cs++[(b,c)]).map _) _);rw[GZ];show q
   ·subst he;let P0:=e6T (s.left.take i) _ O1 hτ (ln.sublist<|JA _ _) λe16=>b9q
    let P1:=e6T (s.left.take<|i+1) _ O1 hτ (ln.sublist<|JA _ _) λe16=>b9q
    let xl:=P0.2.2 x (Hb Te)<|a6N ln Te;let P1:=P1.1;let PO:=P0.1;rw[aO Te,JY,IG,List.foldl_nil]at P1 ⊢;clear P0;generalize (s.left.take i).foldl BA BH=S at PO P1 xl ⊢;let h1:=hz PO;let xo:=PO.sub.subset xl;let hk:=(PO.lft x xo).mp xl;ext d5Q;let r:=b2B (ε:=(d96 S Ps PP Mr Re Sc Nr Od).map Sl.a) (ra:=rL 0 [7,10] (Y0<|rV 0) (vH (λε b=>e4k E5 kB ε<|.bl b) λε c=>f2i ε<|.bl c)<|rV 0) (rb:=f1G SI) (l:=e7R S.cs x) (show rL 0 [7,10] (Y0<|rV 0) (vH (λε b=>e4k E5 kB ε<|.bl b) λε c=>f2i ε<|.bl c) A7 _ (.lst<|(T.filter λt=>decide Ř&&not (decide b7q)).map bu) from bd (xs:=T) (u:=bu) (h:=bu) (n:=0) (js:=[7,10]) (λt=>decide Ř&&not (decide b7q)) m8 O.Mt λe4t=>#[_,1,b5Y (e91 rfl)<|a2l ⟨rfl,rfl,.t rfl⟩ rfl,λ_=>rfl]) Z7;by_cases c0:e7R S.cs x=[]
    ·rw[Hf c0]at r;let e:f1D Ġ a S x=#[S.uw++e99 x,c41]:=if_pos c0;rw[e]at P1 ⊢;let rm:S.uw.length+(e99 x).length<=T.length:=by
      let:=P1.room;rw[Hn]at this
      lia
     let#[k,cZ]:=c30 xl;show b4V r (lq (ε1:=e2g Od) (by rw[k3];show .mk rfl rfl k1 k2)
      (lq (ε1:=d96 #[S.uw,c41] Ps PP Mr Re Sc Nr Od) ?_
      (exO (j:=7) (ř:=f2h S.cs x) (ð:=S.cs.map λx=>ŏ) (f1F x) (u:=λt=>tD [t.1,t.2.2.2,e0x p S.cs x t]) (λj ε=>∃ Mr Nr Od,ε=e0h (S.uw.map tD++((e99 x).take j).map tD) b2V a7j ((S.hs++[(x,a)]).map λz=>Ů) Ps PP Mr Re Sc Nr Od) rfl ⟨⟨rfl,rfl,rfl,rfl,rfl,rfl,rfl⟩,.mk O λ_ e4t=>?_⟩ GY b6G (fun j t ε ht ⟨Mr,Nr,Od,he⟩=>?_) fun ε' ⟨Mr,Nr,Od,he⟩=>?_)))
     ·let q:TB 9 (rV 10) (rV 14) (e2g Od) _:=#[1,by rw[GS];show h1,.z rfl,1,kS]
      rw[cr<|hn hk]at q;change TB ą (d8Q _ ((S.hs++[(x,a)]).map _));rw[GZ];show q
     ·let#[t1,t2]:=Hw.mp ht;show b3R (L7 λz=>?_);let:=Rn.MH.mpr #[t1,HB t2,z];rw[c0]at this;ext d46
     ·subst he;show#[_,#[_,3],_,b1L,.fz<|.int t.2.2.2,.fz<|.int t.1,.fz<|.int (e0x p S.cs x t),?_]
      ·ext d5n
      ·rw[b0Z ht,<- HI];rfl
     ·ext d4e;show#[tR,he]
    ·rw[Hg c0]at r;let e:f1D Ġ a S x=S:=if_neg c0;show#[_,.f r rfl,.fz<|.str x,Mr,Nr,Od,?_];rw[e];rfl
   ·rw[HM,<- st]at he;show#[tR,CD,he]
open L2.Wy
theorem NT:η:=["h","b","a","ab","c","ba","d"]
inductive VN:List Str->List (Str×Kd)->Prop
 |one:VN ["h"] [("h",.house)]
 |add {ns:η}{ps:List (Str×Kd)}{x:Str}{k:Kd}:VN ns ps->VG k=true->x∉ns->VN (ns++[x]) (ps++[(x,k)])
def VN.ok (h:VN ns ps):ps.map (·.1)=ns/\ns.Nodup/\ns[0]?=!("h":Str)/\∃ t,ps=(("h":Str),Kd.house)::t/\∀ q∈t,VG q.2=true:=by
 induction h with
 | one=>show#[wZ,1,[],1,λq h=>nomatch h]
 | add p hk hx ih=>
  let#[1,Fd,t,1,h5]:=ih;show#[by simp,HL.mpr #[h2,by simp,λe6Z e=>hx ?_],1,t++[_],1,λe3Y=>?_]
  ·rw[Ht.mp hb]at e;rw[<- e];show ha
  ·rcases Hx.mp hq with h|h
   ·show h5 q h
   ·rw[Ht.mp h];show hk
def VN.len (h:VN ns ps):ps.length=ns.length:=by rw[<- h.ok.1,GS]
structure US (nl:η)(S:NS):Prop where
 Lu:VN nl S.Lu
 up:∀ t∈S.Lj,∃ u v:Nat,u<v/\nl[u]?=!t.2.1/\nl[v]?=!t.2.2.1
 key:S.Lj.map (·.1)=(List.range S.Lj.length).map λ(i:Nat)=>(i:Int)
 next:S.next=S.Lj.length
 pos:∀ t∈S.Lj,1<=t.2.2.2
def a3K:∀ k,k<6->gf (NT.getD (k+1) "")=true/\NT.getD (k+1) ""∉NT.take (k+1)/\(NT.getD (k+1) "").length<=1000/\NT.take (k+1+1)=NT.take (k+1)++[NT.getD (k+1) ""]/\(NT.drop 1)[k]?=!NT.getD (k+1) "":=by decide +kernel
variable {nl:η}
def mQ (S:NS):S.LL.length<=S.Lu.length:=by ext1 NS.LL;ext d3T
def VN.may {ps:List (Str×Kd)}{x:Str}{k:Kd}(h:VN nl ps)(l:nl.length<=6)(hk:VG k=true)(hx:gf x=true)(nx:x∉nl):may Ew x k:=by let pl:=h.len;let ll:=mQ Ew;show#[hx,by ext1 NS.names;rw[h.ok.1];show nx,(λz=>by rw[hk]at z;show nomatch z.1),?_];ext1 Gr;rw[Hg<|show ¬ 20<=ps.length by lia,Hg (show ¬ 8<=(NS.LL Ew).length by let:(NS.mk ps [] 0).Lu.length=ps.length:=rfl;lia)];simp
def US.num (d0m)(c93):0<=t.1/\t.1<S.next:=by
 let:t.1∈S.Lj.map _:=Ho ht;rw[L.key]at this;let#[i,hi,e]:=GX.mp this;let:=HP.mp hi;rw[L.next]
 lia
def US.no (d0m)(v0:0<v):nl[v]?≠!("h":Str):=λh=>by let:=e5J h L.Lu.ok.2.2.1;omega
abbrev lt3 (t:LS):LT:=b9U
def US.wn (d0m)(m6:nl.length<=7)(rl:S.Lj.length<=12):WN S "h" nl (S.Lj.map lt3):=by
 let#[nm,n2,n0,t,et,_]:=L.Lu.ok;let nm:S.names=nl:=nm;show#[#[by rw[nm];show n2,by rw[nm];show λx h=>h,n2,n0,1,λe2T=>?_,λe2T=>?_,?_,#[],by rw[GS];lia],qm,λe4t z=>?_,λe4t=>(L.num ht).1]
 ·let#[AT]:=GX.mp hr;let#[u,v,h1,zC]:=L.up t ht;rw[nm];show#[Hb h3,Hb h4]
 ·let#[AT]:=GX.mp hr;show L.up t ht
 ·rw[GY,show ((λr:LT=>r.1) ∘ lt3)=λt:LS=>t.1 from rfl,L.key,Jo];show List.pairwise_lt_range.imp λh=>Int.ofNat_lt.mpr h
 ·ext1 NS.Mi;rw[et];rfl
 ·rw[nm];show Hb n0
 ·let#[yh,_,hv]:=L.up t ht;show L.no #[] (hv.trans<|e6G z)
def US.MI (d0m)(hy:nl[i]?=!y)(h:iT S.Lj y z):∃ j:Nat,i<=j/\nl[j]?=!z:=by
 induction h with
 | refl=>show#[i,Hl _,hy]
 | step ht _ ih=>
  let#[j,ij,hj]:=ih;let#[yh,hu,hv]:=L.up _ ht;let:=e5J hu hj;show#[v,#[],hv]
def US.Wl (d0m){u:Nat}(uv:u<v)(hx:nl[u]?=!x)(hy:nl[v]?=!y)(hd:1<=d):
  US nl (S.Wl x y d)/\¬ iT S.Lj y x/\∀ p∈S.Lu,p.1=y->VG p.2=true:=by
 show#[#[L.Lu,λe2T=>?_,qm,λe2T=>?_],λz=>?_,λe7V z=>?_]
 ·rcases Hx.mp hr with hr|hr
  ·show L.up r hr
  ·rw[Ht.mp hr];show#[yh,hx,hy]
 ·change (S.Lj++c2C).map _=(List.range (S.Lj++[_]).length).map _;rw[GZ,L.key,Hn,Ih,KQ,GZ,L.next];rfl
 ·change S.next+1=((S.Lj++[_]).length)
  rw[L.next,Hn];rfl
 ·rcases Hx.mp hr with hr|hr
  ·show L.pos r hr
  ·rw[Ht.mp hr];show hd
 ·let#[j,mh]:=L.MI hy z;let:=e5J hx h2
  lia
 ·let#[CD,t,et,ht]:=L.Lu.ok;rw[et]at hp;rcases Hs.mp hp with rfl|hp
  ·show (L.no #[]<|hy.trans (e6G z.symm)).elim
  ·show ht p hp
open e
def xV (h:H d=none)(d0l)(b:UU d G G'):f' H G':=λa o ha=>b a o (ak ha h) (e ĉ ha)
def a03 (h1:H n=none)(h:H d=none)(d0l)(b:GQ n d G G'):f' H G':=λa o ha=>b a o (ak ha h1) (ak ha h) (e ĉ ha)
theorem Su (G:Hp)(l:Addr)(R:List LS):Prop:=∃ xs,G l=!.lst xs/\Paired b0a xs R
def Su.mono (d02)(h:Su G l R):Su G' l R:=let ⟨xs,a,b⟩:=h;#[xs,e ĉ a,Paired.NL b λe2Z=>(by let#[x,y,z]:=gR;show#[x,y,e ĉ z])]
def Su.b0b (N:e5K S)(b:GQ n dt G G')(h:Su G l R):Su G' l R:=by let#[#[dx,h1],_,#[kt,h3,_],_]:=N;let#[xs,a1,a2]:=h;show#[xs,b ĉ (d8J a1 h1) (d8J a1 h3) a1,Paired.NL a2 λe2Z=>(by let#[x,y,z]:=gR;show#[x,y,b ĉ (d8J z h1) (d8J z h3) z])]
def Su.snoc (h:G l=!.lst xs)(hp:Paired b0a xs R)(hb:G b=!.tup a2r):Su (f1r (d9d iL)) l (R++[r]):=
 #[_,af,Paired.Qs (Paired.NL hp λe2Z=>(by let#[x,y,z]:=gR;show#[x,y,by rw[a9<|cR z h (λz=>nomatch z)];show z])) #[b,1,by rw[a9<|cR hb h (λz=>nomatch z)];show hb]]
def Mv.a2L (N:e5K S)(h:G l=!.lst xs):Mv c (f1r o) n dp dt S:=by
 let#[FY,h4]:=N;let k:∀ {b:Addr}{u:HO},G b=!u->(∀ ys,u≠.lst ys)->f1r o b=!u:=λhb hu=>by rw[a9<|cR hb h (hu _)];show hb
 show#[#[dx,k h1 λ_ z=>nomatch z],#[kp,k h2 Ļ,Paired.NL p2 λe2Z=>(by let#[x,b,y,e,z]:=gR;show#[x,b,y,c6q])],#[kt,k h3 Ļ,Paired.NL p3 λe2Z=>(by let#[x,b,e,z]:=gR;show#[x,b,c6q])],h4]
def a1r (ns:Ξ)(d0O):∃ cs:Ξ,qi Ł lo hi=cs.map V.int:=by ext1 qi;rw[<- KH,<- Jl];show#[_,1]
def a5c (xs:π):(qi xs (!2) !14).length<=12:=by
 ext1 qi;rw[show (some<|2)=some ((2:Nat):Int) from rfl,show (some<|14)=some ((14:Nat):Int) from rfl,HT.RH,HT.RH,Hm,KD]
 lia
def f2E (h:Su G l R):DR G (aZ R) kC:=by let#[xs,a1,a2]:=h;show#[l,xs,1,a1,b52 a2 λv r _ gR=>(by let#[b,e,hb]:=gR;show#[b,_,e,hb,ik])]
variable {c:Cl}
inductive sO (K:Ψ)(c:Cl)(c8O):∀(a:Addr) (fi:Int) (ns:Ξ),vs=[.int fi,.ref a]->LO K H a Ł->(∀ x H' nl S,f' H H'->DR H' (.tup [aH c S,aZ S.Lj,br nl]) x->nl.length<=7->S.Lj.length<=12->US nl S->Q x H')
inductive Ln1 (c9U)(d0M):∀(kn:Int) (o5 o6 o7:Ç) (ps:List (Str×Kd)),σ=[!.int fi,ug,!.int kn,o5,o6,o7,EO,none]->f' H G->G Ln=!.lst b5h->VN (NT.take (i+1)) ps->Mv c G n dp dt ⟨ps,[],0⟩
inductive a1V (c9U)(kn:Int)(i:Nat)(ps:List (Str×Kd))(c7P):∀(kd:Kd),σ=[!.int fi,ug,!.int (kn / 2),!.int (i:Int),!.str c1c,!.int (kn % 2),EO,none]->f' H G->G Ln=!.lst b5h->VN (NT.take (i+1)++[NT.getD (i+1) ""]) (ps++b7r)->Mv c G n dp dt ⟨ps++b7r,[],0⟩
inductive Ln2 (c:Cl)(H:Hp)(nl:η)(cs:Ξ)(a Ln n dp dt tl sl:Addr)(d0M):∀(o0 o4 o5 o6 o7 o9 N6 MX Mr:Ç) (S:NS),σ=[o0,ug,o4,o5,o6,o7,!.ref tl,o9,N6,MX,Mr]->f' H G->G Ln=!.lst (nl.map V.str)->G sl=!.lst (cs.map V.int)->Mv c G n dp dt S->Su G tl S.Lj->US nl S->S.Lj.length<=i
def c58:ar [c5H,"_law_net_here","_law_order","_law_kinds","_law_k","_law_name","_law_heard_by","_law_ties","_law_xs",c4H] ý (d88 98):=Py
def c5V [Bx:Bd](d1q)(Xu:Wf 1 "Net" c.Mj Þ (ng c))(NQ)(Pw:ML 4 c.Mj "house" Ý (fW c .house))(Ob:ML 4 c.Mj "listener" Ý c2B)(Qj:ML 4 c.Mj "post" Ý (fW c .post))(Rh:ML 3 c.Mj "tie" ô (sJ c)):Tk 6 "_law_net" (top 98) ý (sO Bx.K c):=by
 ext d2U;show F.k c58 λe2U=>?_
 ·let#[a,fi,ns,1,hS,q]:=h;let ND:=c58.nd;show#[_,(ag (pS 2 ND<|a8d Xu hr.m rfl)
   (ag (aA<|bE zB Pw hr.m (a8 a5S K'))
   (ag (pS 3 ND<|du (a8 a5S K'))
   (ag (pS 4 ND<|dZ bM lS aK)
   (ag (e0V (d9s lS) A6
   (ag (pS 6 ND<|Mz hr (c7<|da jk (da jk<|da jk (da jk<|da jk (d9h jk)))).p (Đ 5))
   (ag (a0e (i:=4) (j:=7) rfl ND rfl rfl Ĺ rfl rfl (d8Y (dZ bM Ct aK) (dZ bF Ct aK)) rfl)
   (ag (yz (PW.pt<|dOr (e0H (Đ 5) dI) (t6<|e0H (Đ 7) dI))
    (d8T zB Ob xR K')
    (d8T zB Qj xR K'))
   (d8I yk xR)))))
   (ag c2O
   (ag (e0V (t9 Bx.K<|vM (a3e Bx.K) fY (t8 aK) (t8 aK)) (pN 0 ND)
   (ag (pS 9 ND<|dF NQ hr.m rfl (da (Đ 0)<|da dI Lp))
   (ag (pS 10 ND<|e2J (e0O GI<|eL T.M8 (Đ 3)) (Mz hr (c7<|da dI (d9h dI)).p<|e0O GI dI))
   (ag (pS 11 ND<|e0O GI xu)
   (ag (pS 12 ND<|Tj dI (e0O c18<|Mz hr (c7<|da dI (d9h dI)).p (e0O c18 dI)))
   (aq (yz (e3R rJ<|Đ 11)
    (d8I v7 (eY<|a8 (bE zB Rh hr.m<|a8 c0f (a8 c0g<|a8 (pv 12) K')) (a8 c0f<|a8 c0g (a8 (pv 12) K'))))
    N3)))))))
   (d9V (eY<|f1k (d8Y v7 yk)))))))))),?_]
  obtain⟨m,em,m1,m6⟩:∃ m:Nat,2+fi % 5=(m:Int)/\2<=m/\m<=6:=by let b1:=Ii fi (show (5:Int)≠0 by decide);let b2:=HX fi (show (0:Int)<5 by decide);show#[(2+fi % 5).toNat,kE,#[0]]
  ext d5x;intro n dx hn hdx nd;show#[n,dx,1,af,λdp dt H2 p1 p2 p3 b1 hi hp ht=>?_];let x1:dp≠n:=λz=>by rw[z,af]at p1;cases p1
  let x2:dt≠n:=λz=>by rw[z,af]at p2;cases p2
  let p1:H dp=none:=by
   rw[a9 x1]at p1;by_cases z:dp=dx
   ·rw[z];show hdx
   ·rwa [a9 z]at p1
  let p2:H dt=none:=by
   rw[a9 x2]at p2;by_cases z:dt=dx
   ·rw[z];show hdx
   ·rwa [a9 z]at p2
  let e2:f' H H2:=λa o ha=>b1 a o (ak ha hn) (by rw[a9<|ak ha hn,a9<|ak ha hdx];show ha);let N2:Mv c H2 n dp dt #[[],[],(0)]:=#[#[dx,hi],#[[],hp,.nil],#[[],ht,.nil],p3]
  let put:∀ {nl:η}{ps:List (Str×Kd)}{x:Str}{kd:Kd}{G:Hp},VN nl ps->nl.length<=6->VG kd=true->gf x=true->x∉nl->x.length<=1000->f' H G->e5K Ew->∀ {Q:VK},(∀ G',f' H G'->UU dp G G'->VN (nl++[x]) (ps++[(x,kd)])->Mv c G' n dp dt #[ps++[(x,kd)],[],(0)]->e2P G')->fW c kd [c6c] G Q E0:=λhp l5 hk hx nx xl eG NG Q q=>
   #[n,dp,dt,_,_,1,NG,xl,HH (KZ hp.len)<|by omega,hp.may l5 hk hx nx,λG' b N'=>q G' (xV p1 eG b) b (hp.add hk nx) N']
  show#[1,?_];ext d3y;show#[_,1,n,FI,hi,1,n,dp,dt,tF,N2,c3b,#[by decide +kernel,İ,(λz=>nomatch z.2),by decide],λG1 bG1 N1=>?_];let eG1:=xV p1 e2 bG1;ext d3y;show#[(by change 1<=sizeLine;decide),λLn G2 Qo Vj hLn=>?_];let Ln0:H Ln=none:=eG1.free Vj;ext d3y;show#[_,1,fi,(5),2,AR,?_];ext d3y;show#[_,1,fi,(5),2,show (0:Int)<5 by decide,(2),fi % 5,2,2+fi % 5,1,kE,?_];rw[em,J2];show b4e (Ln1 c H fi a Ln n dp dt) #[fi / 5,none,none,none,_,1,eG1.trans Qo,hLn,.one,N1.mono Qo] ?_ ?_
  ·rintro i σ G him ⟨kn,o5,o6,o7,ps,rfl,eG,QD,W5,NG⟩;rw[L0];let#[Ea]:=a3K i #[0];show tP.go (ε:=[none,none,none,none,none,some<|.int i]) (d8R (Me<|e2R (UW bX))) (d:=.str<|NT.getD (i+1) "") #[#[#[7],kR],1,.l .lst<|dG (show ((NT.drop 1).map D.str)[i]?=_ by rw[Hh,t5];rfl)] λx Ga ea _ hx=>?_
   cases hx;show#[_,1,kn,(2),2,AR,_,1,kn,(2),2,show (0:Int)<2 by decide,tF,?_];let r1:=f0p (ra:=rV 5) (rb:=rC<|.int 1) rfl rfl;let r2:=f0p (ra:=rV 7) (rb:=rC<|.int 1) rfl rfl;obtain⟨b,hb⟩:∃ b,rOr (λε b=>e4k (rV 5) (rC<|.int 1) ε<|.bl b) (λε b=>e4k (rV 7) (rC<|.int 1) ε<|.bl b) EM b:=by
    cases h:decide ((i:Int)=1) with
    | true=>rw[h]at r1;show#[_,.t r1]
    | false=>rw[h]at r1;show#[_,.f r1 r2]
   show#[e4G ps,?_,AH,EM,b,Me<|Me (Me<|Me (Me<|e2R (Me<|e2R (UW bX)))),hb,λG' e=>?_]
   ·rintro σ G' ⟨kd,rfl,eG',hL,hp',NG'⟩;show#[_,1,.inl #[1,_,LO.of hL],_,1,Ln,_,_,2,hL,(by rw[GS,Hm];let:sizeLine=2 ^ 24:=rfl;let:NT.length=7:=rfl;omega),_,_,_,_,_,1,bb eG' Ln0,?_,by rw[t4];show hp',NG'.a2L hL];rw[af,t4,GZ];rfl
   ·let e:=ea.trans e;let NG:=NG.mono e;let#[dxG,hNG]:=id NG.ins;let QD:=e ĉ QD;let#[kp,a9h,_]:=id NG.Lu;let fin:∀ {kd:Kd}{σ:St},VG kd=true->σ=[some<|.int fi,some<|.ref a,some<|.ref n,some<|.ref Ln,some<|.int (kn / 2),some<|.int (i:Int),some<|.str c1c,some<|.int (kn % 2),none,none,none,none,none]->fW c kd [.ref n,.str<|NT.getD (i+1) ""] G' (λ_ G2=>e4G ps σ G2) E0:=λhk hσ=>put W5 (by rw[Hm];omega) hk t1 t2 t3 (eG.trans e) NG λG2 e2 b hp N2=>#[_,hσ,e2,b ĉ (d8J QD a9h) QD,hp,N2]
    show qf a9z a9z
  ·rintro σ G ⟨kn,o5,o6,o7,ps,rfl,eG,QD,W5,NG⟩;let l6:(NT.take<|m+1).length=m+1:=by rw[Hm];change min (m+1) 7=m+1;omega
   generalize NT.take (m+1)=nl at QD W5 l6;ext d3y;show#[(by change 0<=sizeLine;decide),λtl G3 e3 h3 htl=>?_];let#[cs,ec]:=a1r ns (!2)<|some 14;let cl:cs.length<=12:=by let:=a5c<|ns.map V.int;rwa [ec,GS]at this
   ext d3y;show#[_,1,(2),1,(14),1,a,_,1,(eG.trans e3).seq hS,λsl G4 e4 h4 hsl=>?_];rw[ec]at hsl;let tl0:H tl=none:=eG.free h3;let sl0:sl≠tl:=λz=>by rw[z,htl]at h4;cases h4
   let lnt:Ln≠tl:=λz=>by rw[<- z,QD]at h3;cases h3
   let e34:=e3.trans e4;let Yz:∀ {k:Nat}{x:Str},nl[k]?=!x->R8 (nl.map V.str) (k:Int)=!.str x:=λh=>dG (by rw[Hh,h];rfl);let l1:=f1q (x:=nl);show#[sl,1,#[_,LO.of hsl],e3b (xs:=cs.map V.int) (Ln2 c H nl cs a Ln n dp dt tl sl)
    #[wK,tF,eG.trans e34,e34 ĉ QD,hsl,NG.mono e34,#[[],e4 ĉ htl,.nil],#[W5,(λr h=>nomatch h),2,λr h=>nomatch h],Hl _] (λi σ G _ h=>let ⟨_,_,_,_,_,_,_,_,_,_,_,_,_,h,_,_,_,_⟩:=h;LO.of h) ?_ ?_]
   ·rintro i v σ G ev ⟨o0,o4,o5,o6,o7,o9,N6,MX,Mr,S,rfl,eG,QD,a4n,NG,TG,L,rl⟩;let#[cell,ec,1]:=c0c ev;let i9:i<12:=by let:=(GW.mp ec).1;omega
    show tP.go (F:=AH) (ε:=[some<|.int cell]) (sd1 bX rfl) (d:=rw E4) #[#[3],.mk<|by decide] λx Ga ea _ hx=>?_;let#[xl,us,1,VE,hus]:=hx;rw[i4 hus]at VE;let VE:=(gp VE).2;let sl2:=a55 cell 3;let dN:∀ {G:Hp},G Ln=!(.lst<|nl.map V.str)->DR G (br nl) (.ref Ln):=λh=>#[Ln,_,1,h,iB λ_ _=>rfl]
    let dX:∀ {G:Hp},G xl=!(.lst<|(e15 3).map V.int)->DR G (rw (e15 3)) (.ref xl):=λh=>#[xl,_,1,h,wW _]
    let aX:∀ {k:Nat},k<3->R8 ((e15 3).map D.int) ((k:Nat):Int)=!(.int<|(e15 3).getD k 0):=λh=>dE #[0];obtain⟨d,ed,d1,d9⟩:∃ d:Int,R8 ([1,2].map D.int) ((e15 3).getD 2 0 % 2)=!.int d/\1<=d/\d<=2:=by
     rcases Int.emod_two_eq ((e15 3).getD 2 0) with h|h <;> rw[h]
     ·show#[(1),uf]
     ·show#[(2),uf]
    obtain⟨b,eb,b1,b9⟩:∃ d:Int,R8 ([3,40].map D.int) ((e15 3).getD 2 0 / 200 % 2)=!.int d/\1<=d/\d<=40:=by
     rcases Int.emod_two_eq ((e15 3).getD 2 0 / 200) with h|h <;> rw[h]
     ·show#[(3),uf]
     ·show#[(40),uf]
    obtain⟨u,eu,hu⟩:∃ u:Nat,(e15 3).getD 0 0 % (nl.length:Int) / d=(u:Int)/\u<nl.length:=by let h1:=Ii b7O (show (nl.length:Int)≠0 by omega);let h2:=HX b7O (show (0:Int)<nl.length by omega);let h3:=Int.ediv_le_self d h1;let h4:=Int.ediv_nonneg h1 (show 0<=d by omega);show#[((e15 3).getD 0 0 % (nl.length:Int) / d).toNat,kE]
    obtain⟨v,ev',hv⟩:∃ v:Nat,(e15 3).getD 1 0 % (nl.length:Int)=(v:Int)/\v<nl.length:=by let h1:=Ii b7Q (show (nl.length:Int)≠0 by omega);let h2:=HX b7Q (show (0:Int)<nl.length by omega);show#[((e15 3).getD 1 0 % (nl.length:Int)).toNat,kE]
    obtain⟨dl,edl,dl1,dl9⟩:∃ dl:Int,1+(e15 3).getD 2 0 / 2 % b=dl/\1<=dl/\dl<=99:=by let h1:=Ii b5C (show b≠0 by omega);let h2:=HX b5C (show 0<b by omega);show#[_,1,kE]
    show tP.go (F:=Ga) (ε:=a4l) (Me<|Me (Me<|NO (dN<|ea _ _ QD) (d8R (Me<|NO (dX VE) qF)))) (d:=.int (u:Int)) (by rw[<- eu];show#[#[#[2,.l .lst<|aX (k:=0) Ĺ],#[#[2],l1],AE],#[v8,#[c4G,⟨by decide⟩],.l .lst ed],⟨⟨#[0],#[0]⟩⟩]) λx Gb eb' _ hx=>?_
    cases hx;show tP.go (F:=Gb) (ε:=a4l) (Me<|Me (Me<|NO (dN<|eb' _ _ (ea _ _ QD)) (d8R (Me<|NO (dX<|eb' _ _ VE) qF)))) (d:=.int (v:Int)) (by rw[<- ev'];show#[#[2,.l .lst<|aX (k:=1) (by decide)],⟨⟨rfl,rfl⟩,l1⟩,⟨#[0]⟩]) λx Gc ec' _ hx=>?_
    cases hx;let hxc:=ec' ĉ<|eb' _ _ VE;show tP.go (F:=Gc) (ε:=[none,none,none,none,none,none,none,none,none,some<|rw E4]) (d8R (Me<|Me (Me<|Me (Me<|NO (dX hxc) qF)))) (d:=.int dl) (by rw[<- edl];show#[1,#[#[#[2,.l .lst<|aX (k:=2) Ĺ],1,#[AR]],#[v8,#[#[c4G,⟨⟨by decide,by decide⟩⟩],1,⟨by decide⟩],.l .lst eb],⟨#[0]⟩],.i]) λx Gd ed' _ hx=>?_
    cases hx;let r3:=lt_int (ε:=[none,none,none,none,none,none,none,none,none,none,some<|.int u,some<|.int v]) (ra:=rV 10) (rb:=rV 11) rfl rfl;show⟨_,λσ' G' h=>h,AH,[none,none,none,none,none,none,none,none,none,none,some<|.int u,some<|.int v],_,Me<|Me (Me<|Me (Me<|Me (Me<|Me (Me<|Me (NO rfl<|e2R (UW bX)))))),r3,λG8 e8=>?_⟩;let eG8:=(ea.trans<|eb'.trans (ec'.trans ed')).trans e8;let N8:=NG.mono eG8;let T8:=TG.mono eG8;let Yi:=eG8 ĉ QD;let a4o:=eG8 ĉ a4n;show qf (λg=>?_) λg=>#[wK,_,S,1,eG.trans eG8,Yi,a4o,N8,T8,L,#[0]];let uv:u<v:=by let:=HB g;omega
    let hu:=GT hu;let hv:=GT hv;let#[L2,nl',thr]:=L.Wl uv hu hv dl1;let#[dx8,hN8]:=id N8.ins;let#[ts8,a8z,_]:=id T8;let#[kt,ht8,_]:=id N8.Lj;let nm:S.names=nl:=L.Lu.ok.1;show#[_,1,.inl #[1,_,LO.of a8z],_,1,n,dx8,_,1,hN8,1,fF,LO.of Yi,Yz hu,fF,LO.of Yi,Yz hv,jE];show#[n,dp,dt,S,_,_,dl,1,N8,by rw[nm];show Hb hu,by rw[nm];show Hb hv,λe4t=>(L.num ht).2,thr,nl',dl1,dl9,#[0],λH9 b9 N9=>?_];let T9:=T8.b0b N8 b9;let e9:=a03 hn p2 (eG.trans eG8) b9;let k9:∀ {b:Addr}{xs:π},G8 b=!.lst xs->H9 b=!.lst xs:=λh=>b9 ĉ (d8J h hN8) (d8J h ht8) h;let a1h:=k9 Yi;show#[fF,LO.of a1h,Yz hu,fF,LO.of a1h,Yz hv,_,1,(by change 4<=sizeLine;decide),λT' H10 XJ h10 hT=>?_];let#[a2O,X6,a4z]:=T9.mono XJ;let T5:a2O.length=S.Lj.length:=Paired.length a4z;show#[tl,a2O,_,2,X6,(by rw[T5];let:sizeLine=2 ^ 24:=rfl;omega),_,_,_,_,_,_,_,_,_,_,1,bb (e9.trans XJ) tl0,by rw[a9 lnt];show XJ ĉ a1h,by rw[a9 sl0];show XJ ĉ<|k9 a4o,(N9.mono XJ).a2L X6,Su.snoc X6 a4z hT,L2,by change (S.Lj++[_]).length<=_;rw[Hn,Ih];omega]
   ·rintro σ G ⟨o0,o4,o5,o6,o7,o9,N6,MX,Mr,S,rfl,eG,QD,a4n,NG,TG,L,rl⟩;rw[GS]at rl;ext d5f;show#[m4,_,1,(by change 3<=sizeLine;decide),λt G2 Qo Vj ht=>q _ G2 nl S (eG.trans Qo) #[t,_,1,ht,_,_,1,(NG.mono Qo).dr,_,_,1,f2E<|TG.mono Qo,_,_,1,⟨Ln,_,rfl,Qo _ _ QD,iB λ_ _=>rfl⟩,1] #[0] #[0] L]
open e
def b90 (h:yb p t R m)(tw:∀ b∈t,b.length=m)(hm:msg.length=m)(hf:UT p msg):Mx.M3 p R ((Mx.QT t msg).map WH)=msg:=by
 rw[Mx.Uu];ext1 Mx.QT;rw[GY];show Jk (by rw[GS,h.len,hm]) λi e1C=>?_;rw[GS]at h1;let rm:=Ia h1;let im:i<m:=by rw[<- h.len];show h1
 rw[List.getElem_map];change Mx.dot R[i] _ % p=msg[i];rw[Mx.Nl];change Mx.dot R[i] (Mx.QT t msg) % p=msg[i];rw[<- Mx.QF t m R[i] msg tw hm (h.PZ _ rm),<- Mx.Nn];let e:(Mx.Q5 t m R[i]).map WH=Mx.Ll m i:=by
  ext1 Mx.Q5 Mx.cols Mx.Ll;rw[GY,GY];ext d6h;let:=h.ones i j im hj;rw[GV,GT h1,Mx.Mp]at this;show Eq.trans this ?_;ext d3O
  ·rw[if_pos c,if_pos c.symm]
  ·rw[if_neg c,if_neg<|Ne.symm c]
 rw[e,e8I hm,GV,GT h2];let:=hf _<|Ia h2;show IW this.1 this.2
theorem Gf (T:List LS):Nat->Str->Int
 | 0,_=>0
 | n+1,x=>Rn.OM T (Gf T n) x
def a64 {T:List LS}{L L':Str->Int}{x:Str}(h:∀ t∈T,t.2.2.1=x->L t.2.1=L' t.2.1):Rn.OM T L x=Rn.OM T L' x:=by ext1 Rn.OM;ext d8d;ext d6Y;rw[h t h1<|HB h2]
def b3f {T:List LS}{nl:η}(nd:nl.Nodup)(up:∀ t∈T,∃ u v:Nat,u<v/\nl[u]?=!t.2.1/\nl[v]?=!t.2.2.1):∀ (i:Nat)(x:Str),nl[i]?=!x->∀ n n',i<n->i<n'->Gf T n x=Gf T n' x:=λi=>by
 induction i using Nat.strongRecOn with
 | ind i ih=>
  intro x hx n n' h h';obtain⟨n,rfl⟩:∃ k,n=k+1:=#[n - 1,#[0]]
  obtain⟨n',rfl⟩:∃ k,n'=k+1:=#[n' - 1,#[0]]
  show a64 λe4t e=>?_;let#[yh,hu,hv]:=up t ht;rw[e]at hv;let:=c1k nd hv hx rfl;show ih u #[0] _ hu n n' #[0] #[0]
def US.tk (N:US nl S):∃ L,Rn.Tk S.Lj nl L:=by
 let nd:=N.Lu.ok.2.1;show#[Gf S.Lj nl.length,#[?_,nd,N.up,λe4t=>by let:=N.pos t ht;lia,λe0M=>?_]]
 ·rw[N.key];show Le _ (λa b h e=>h<|Int.ofNat.inj e) List.nodup_range
 ·let#[i,hi]:=IT.mp hx;let:=(GW.mp hi).1;show b3f nd N.up i x hi nl.length (nl.length+1) this #[]
def c3W:∀ {l:List α}{x:α},l.find? p=!x->∃ i:Nat,l[i]?=!x/\(∀ j y,j<i->l[j]?=!y->p y=false)/\p x=true:=by
 intro l
 induction l with
 | nil=>intro x h;cases h
 | cons y l ih=>
  intro x h;rw[Jg]at h
  cases hy:p y with
  | true=>rw[hy]at h;cases h;show#[(0),1,λj y h=>absurd h<|JR _,hy]
  | false=>
   rw[hy]at h;let#[i,ic]:=ih h;show#[i+1,h1,λj z hj hz=>?_,h3]
   cases j with
   | zero=>cases hz;show hy
   | succ j=>show h2 j z #[] hz
def a13:∀ {ms:List MQ}{cs:Cs},(∀ m∈ms,bZ r1 m.1=bZ r2 m.1)->bc p r1 msg fo ms cs=e93 cs
 | [],_,_=>rfl
 | m::ms,cs,h=>by
  change bc p r1 msg fo ms _=e93 _;let e:cT p r1 msg fo cs m=cT p r2 msg fo cs m:=by ext1 cT;rw[h m Hi]
  rw[e];show a13 λe0M=>h x (He _ hx)
variable {S:NS}{p:Int}{m:Nat}{c:Cl}{ř:List bo}
abbrev yT (S:NS):η:=e7L S.names.length
def WN.a3L (c8b):(yT S).Nodup/\(yT S).length=S.names.length/\∀ x∈S.names,x∈yT S:=by ext d2P;let#[Uq,WO]:=kQ W.ln.Vm S.names.length #[0];show#[Uq,WO,Mw.RY ĉ Uq W.WM (by rw[WO];show Hl _)]
def WN.late (c8b)(pz:S.Lu.length<=20)(K0):fT c gH yP (oH (yT S) L):=by
 ext d2P;let#[Uq,WO,_]:=W.a3L;let nz:S.names.length<=20:=by ext1 NS.names;rw[GS];show pz
 show .mk (W.Y4<|by omega) Uq #[0] (by let:=W.Rv;omega) (λi e0M e4t e=>?_) λe0M=>K0.late x<|W.ln.nin x (W.WM x hx);let#[b,hb,e1,h]:=b8E W.ln.Vm S.names.length #[0] i x hx;show h _ ?_;let#[y,_,1]:=GX.mp hb;let e1:y=x:=e1;show GX.mpr #[t,Hw.mpr #[ht,Hf<|by rw[e,e1]],1]
def Q2.fl (d04)(F:ye Zb)(c82)(p1):yd p Zb ř none:=#[hp,p1,F,λe0M _=>let ⟨r,h1,_,h3,h4⟩:=G.row x hx;#[r,h1,zC]]
def WN.a7Q (c8b)(d04)(c82)(p1):fX ř (bZ ř) p S.Lj:=by
 let row:∀ t∈S.Lj,∃ r,gB ř t.1=!r/\bZ ř t.1=r.2/\UT p r.2/\r.2.length<=1000:=λe4t=>by let#[r,h1,_,zC]:=G.row _<|W.mem ht;show#[r,h1,by ext1 bZ;rw[h1];rfl,h3,h4]
 show#[by let:=W.Rv;lia,hp,p1,λe4t=>?_,λe4t=>?_,λe4t=>?_]
 ·let#[r,jb]:=row t ht;rw[h2];show fJ h1
 ·let#[r,_,h2,_,h4]:=row t ht;rw[h2];show h4
 ·let#[r,_,Fd,_]:=row t ht;rw[h2];show h3
abbrev vk (S:NS)(p:Int)(c9e)(msg:Ξ):Cs:=f09 (bc p ř msg none Zb [])
structure uT (c:Cl)(S:NS)(c9e)(d0E)(Rg:Str->Θ):Prop where
 good:Q2 m p Zb ř
 judge:Oq c gH b2R (MU (S.LL.map λg=>(.inr g,.tup b6H)))
 reads:∀ g∈S.LL,yb p BE (Rg g) m
def WN.vals (c8b)(d04)(hm:msg.length=m)(hk:∃ t∈S.Lj,t.1=k):aU Kk k=!Mx.dot (bY p ř none Zb m k) msg % p:=by let#[AT]:=hk;let#[n,hn]:=IT.mp<|W.mem ht;let:=b8U W.ln.fits (p:=p) (fo:=none) (λe0M _=>by let#[r,jb]:=G.row x hx;ext1 bZ;rw[h1];show h2) hm n _ hn;show a5X N0 (by rw[dJ];show W.ln.fits.nd) this
def WN.X2 (c8b)(h:k∈S.into g):∃ t∈S.Lj,t.1=k:=by let#[t,mh]:=GX.mp h;show#[t,(Hw.mp h1).1,h2]
def WN.a3k (c8b)(d1j)(Y:uT c S ř m p Rg)(K0)(hm:∀ msg∈msgs,msg.length=m/\UT p msg)(mz:msgs.length<=8)(b35:m<=100):
  c1E c C S (yT S) ř m p msgs L (λg=>.tup b6H) (vk S p ř) (λ_ msg=>rw msg):=by
 ext d2G;let#[Uq,WO,a71]:=W.a3L;let lz:S.LL.length<=7:=by ext1 NS.LL;rw[GS];show HH wJ pz
 let Mt:=Nat.mul_le_mul lz mz;let tz:=W.Rv;let a3X:∀ g∈S.LL,g∈S.names:=λg hg=>by let#[q,h1,1]:=GX.mp hg;show Ho (Hw.mp h1).1
 show#[Y.judge,W.late #[] K0,λg hg=>#[a71 g<|a3X g hg,a3X g hg],?_,Uq,λmsg Ye=>?_,λg hg msg Ye=>?_,DS,DS,p1,hP]
 ·let:=W.ln.Z3;show this.sublist B2
 ·show Sv.mk (W.Y4<|by lia) W.WM #[] hP (Y.good.fl W.ln.fits #[] p1)
 ·let#[ml,mf]:=hm msg Ye;let rd:=Y.reads g hg;let Rv:(e74 g).length<=1000:=by
   ext1 bW NS.into;rw[GS,GS];ext d5o
   lia
  let iz:(S.into g).length<=1000:=by unfold bW at Rv;rwa [GS]at Rv
  let key:Mx.M3 p (Rg g) ((S.into g).map λk=>(aU Kk k).getD 0)=msg:=by
   let e:(S.into g).map (λk=>(aU Kk k).getD 0)=(Mx.QT BE msg).map WH:=by ext1 Mx.QT bW;rw[GY,GY];ext d7p;rw[W.vals Y.good ml<|W.X2 hk];rfl
   rw[e];show b90 rd (λe2h=>?_) ml mf;let#[k,_,1]:=GX.mp hb;ext1 bY;rw[GS,HV]
  let:=Ts.yes (C:=C) #[] p1 (λe79=>#[rd.fit z hz,by rw[rd.PZ z hz];show Rv]) (by rw[rd.len];lia) iz λe8a=>#[_,W.vals Y.good ml<|W.X2 hk]
  rw[key]at this;show this
def a1w (h:¬ ∀ g∈S.LL,∃ w,be nC ī g N m=.inr w):AJ S m N:=by
 show let q:=λg=>match be Ÿ ī g N m with|.inl _=>true|.inr _=>false;?_
 cases hf:S.LL.find? q with
 | none=>
  exfalso;show h λg hg=>?_;let:=IZ.mp hf g hg
  cases e:be _ _ g N m with
  | inr w=>show#[w,1]
  | inl ks=>show (this (by show (a6M=true);rw[e])).elim
 | some g=>
  let#[n,ic]:=c3W hf;let h3:a6M=true:=h3
  cases e:be Ÿ ī g N m with
  | inr w=>cbv
  | inl ks=>
   show .mk h1 e λi x hi hx=>?_;let h4:(match be _ ī x N m with|.inl _=>true|.inr _=>false)=false:=h2 i x hi hx
   cases e:be Ÿ ī x N m with
   | inr w=>show#[w,1]
   | inl ks=>cbv
def WN.a0g (c8b)(hl:("h":Str)∉S.LL)(d1j)(m1:1<=m)(m2:m<=3)(e1:f0q (d9c aC) oq=!true)(e2:f0q (d9c aS) oq=!true):
  (∃ A,(zE c aC Ar A\/jp c aS Ar A)/\PySem.W.exmAny K (d9c A) oq=!true) \/
  ∃ ř Rg,d6 c C (y9 c C) Ar (aV ř)/\uT c S ř m p Rg:=by
 ext d2G;let O:=W.wok #[0]<|some [];by_cases hw:∀ g∈S.LL,∃ w,be Ÿ ī g 21 m=.inr w
 ·by_cases Mt:p<(S.LL.length:Int)
  ·show .inl #[_,.inr<|e8N hw #[0] m1 #[0] #[0] Mt,e2]
  ·let hO:∀ ks∈[([]:Ξ)],Wi S (!ks) 21/\∀ g∈S.LL,∃ w,e7J (some "h") g 21 m=.inr w:=λks hk=>by rw[Ht.mp hk];show#[O,by rw[<- W.Mi];show hw]
   let lz:S.LL.length<=S.Lu.length:=by ext1 NS.LL;ext d3T
   let M:=W.make hP hO (by rw[Ih,Nat.one_mul];omega) p1 #[0] (by simp;omega) Ė #[0];let e:[c6 S 21 m []]=e2b m [[]]:=by ext1 c6 bv;rw[W.Mi];rfl
   let G:=W.good hP M.Wa #[0];let told:=λn x=>W.told (p:=p) (m:=m) (ç:=[[]]) (ê:=Mk.Ls<|e2b m [[]]) n x;show .inr #[T7 (·.1)<|cf p m [[]] (Mk.Ls<|e2b m [[]]) (ai S) (ai S).length,?_];show (λgR=>(by let#[Rg,h]:=gR;show#[Rg,e8N hw #[0] m1 #[0] #[0] #[0] (by rw[e];show .mk M),h])) (?_:∃ Rg,uT c S _ m p Rg);generalize T7 (·.1) (cf p m [[]] (Mk.Ls<|e2b m [[]]) (ai S) (ai S).length)=ř at G told ⊢;let gr:∀ x∈ai S,bZ (bR (ai S) ř) x.1=bZ ř x.1:=λe0M=>by change ((gB ĉ).map _).getD []=_;rw[a6V W.ln.fits.nd hx];rfl
   let tz:∀ g,(S.into g).length<=100:=λg=>by ext1 NS.into;rw[GS];ext d5o;let:=W.Rv;omega
   let te:∀ g,bW S p (bR Zb ř) none Zb m g=e74 g:=λg=>by show HA λk _=>?_;show HA λj _=>by rw[a13 gr]
   let one:∀ g,∃ R,g∈S.LL->fm p _ m=.tup b9X/\yb p BE R m:=λg=>by
    by_cases hg:g∈S.LL
    ·rcases c5D hP (zM #[0] (tz g)<|show m<=100 by omega).1 with⟨R,h1,h2⟩|⟨v,_,h2⟩
     ·show#[R,λ_=>#[h1,by rw[<- te];show h2]]
     ·show (W.reads hP hO (by rw[Ih,Nat.one_mul];omega) (c:=0) rfl (λk=>rfl) (λn e0M=>?_) hg (λz=>hl (by rw[<- z];show hg)) (by rw[<- te];show h2)).elim;change ((gB ĉ).map _).getD []=_;rw[told n x hx];rfl
    ·show#[[],λh=>absurd h hg]
   show#[λg=>Classical.choose<|one g,G,?_,λg hg=>(e4y hg).2];let:=Oq.mk (c:=c) (fo:=none) (W.a78<|by omega) hP p1 G (show m<=100 by omega) #[0] W.ln.Z3 λe4t=>Ho<|W.mem ht;let e2:=HA λg hg=>congrArg (Prod.mk (Sum.inr g:Ws)) (e4y hg).1;rw[<- e2];show this
 ·show .inl #[_,.inl<|e8N (a1w hw) #[0] m1 #[0] #[0],e1]
open e
theorem dW (gs)(n)(L):Θ:=gs.zipIdx.flatMap λz=>(List.range n).map λk=>FR
theorem eK (gs)(n)(L):Θ:=(List.range n).flatMap λk=>gs.zipIdx.map λz=>FR
def rZ (g:α->β)(h:α->List β):∀ m:List α,(m.flatMap λb=>g b::h b).Perm (m.map g++m.flatMap h)
 | []=>List.Perm.refl _
 | b::m=>by rw[Jb,HE,Jb,List.cons_append,List.cons_append];show List.Perm.cons _ (((rZ g h m).append_left<|h b).trans ?_);rw[<- HI,<- HI];show List.perm_append_comm.append_right _
def rY {β γ:Type}(f:α->β->γ)(m:List β):∀ l:List α,(l.flatMap λa=>m.map (f a)).Perm (m.flatMap λb=>l.map λa=>f a b)
 | []=>by simp
 | a::l=>by rw[Jb];show ((rY f m l).append_left _).trans ?_;show (rZ (f a) (λb=>l.map λa=>f a b) m).symm
def OG:(e5f L).Perm AI:=rY (λ(z:Str×Nat) (k:Nat)=>[(k)+L z.1,z.2,k]) _ gs.zipIdx
def fS (h:r∈dW gs n L):∃ (g:Str)(i k:Nat),gs[i]?=!g/\k<n/\r=[(k:Int)+L g,(i:Int),(k:Int)]:=by let#[z,mh]:=J0.mp h;let#[k,h3,1]:=GX.mp h2;let#[g,i]:=z;show#[g,i,k,Iq.mp h1,HP.mp h3,1]
theorem Ahd (a b:Ξ):Prop:=a.getD 1 0<b.getD 1 0\/a.getD 1 0=b.getD 1 0/\a.getD 2 0<b.getD 2 0
def SlR:(e5f L).Pairwise Ahd:=by
 ext1 dW;ext d8C;show#[λz _=>?_,?_]
 ·rw[Jo];show List.pairwise_lt_range.imp λh=>.inr #[1,Int.ofNat_lt.mpr h]
 ·show Kf.mpr λe4K ij e0M e16=>?_;let#[k,_,1]:=GX.mp hx;let#[k',_,1]:=GX.mp hy;show .inl ?_;rw[List.getElem_zipIdx,List.getElem_zipIdx];change (0+i)<((0+j):Int)
  omega
def a5Q (pm:q.Perm (List.range (e5f L).length))(st:ZI ((e5f L).map λr=>e1S 0) q):q.map (λi=>(e5f L).getD i [])=dA AI:=by
 let three:∀ r∈dW gs n L,r.length=3:=λe2T=>by let#[g,i,k,tF]:=fS hr;rfl
 let ql:q.length=(e5f L).length:=by rw[pm.length_eq,HV]
 let up:=SlR (gs:=gs) (n:=n) (L:=L);let e:dA AI=dA (e5f L):=by show (lf (λe2T=>three r<|OG.mem_iff.mpr hr) ?_<|iw three).symm;show (bH _).trans OG
 rw[e];show c3f three pm λa b ab bl=>?_;let#[mh]:=st a b ab #[0];generalize dW gs n L=rs at *
 let inr:=λe8X=>by
  let:q.getD i 0∈q:=by rw[GV,GT hi];show Ia hi
  show HP.mp (pm.mem_iff.mp this)
 let ia:=inr a #[0];let ib:=inr b #[0];generalize q.getD a 0=i at h1 h2 ia ⊢;generalize q.getD b 0=j at h1 h2 ib ⊢;let kg:∀ i,i<rs.length->(rs.map λr=>e1S 0).getD i 0=(rs.getD i []).getD 0 0:=λe8X=>by rw[GV,Hh,GT hi,GV (l:=rs),GT hi];rfl
 rw[kg i ia,kg j ib]at h1 h2;let gi:rs.getD i []=rs[i]:=by rw[GV,GT ia];rfl
 let gj:rs.getD j []=rs[j]:=by rw[GV,GT ib];rfl
 rw[gi,gj]at h1 h2 ⊢;let ri:=three _<|Ia ia;let rj:=three _<|Ia ib;let hp:=λij=>Kf.mp up i j ia ib ij;generalize rs[i]=x at h1 h2 ri hp ⊢;generalize rs[j]=y at h1 h2 rj hp ⊢
 match x,y,ri,rj with
 | [a0,a1,a2],[b0,b1,b2],_,_=>
  let h1:a0<=b0:=h1;let h2:b0<=a0->i<j:=h2;change (if b0=a0 then (if b1=a1 then (if b2=a2 then bI [] [] else decide _) else decide _) else decide _)=false;by_cases c0:b0=a0
  ·rw[if_pos c0];let hp:a1<b1\/a1=b1/\a2<b2:=hp<|h2 #[0];by_cases c1:b1=a1
   ·rw[if_pos c1];rw[if_neg<|by omega];show Hg #[0]
   ·rw[if_neg c1];show Hg #[0]
  ·rw[if_neg c0];show Hg #[0]
theorem qg (gs)(msgs:Θ)(r:Ξ):Int×Str×Int×Ξ:=(e1S 0,gs.getD (r.getD 1 0).toNat "",e4F 0,msgs.getD (e4F 0).toNat [])
def b4t (xs)(d:α):xs.zipIdx=(List.range xs.length).map λk=>(xs.getD k d,k):=by ext d41
def f2H {f g:α->List β}(c8j)(h:∀ x∈l,f x=g x):l.flatMap f=l.flatMap g:=by rw[KF,KF,HA h]
def b4A:(e3m L λ_ msg=>rw msg)=(e4d L).map λr=>(e1S 0,lu (qg gs msgs r)):=by
 ext1 c9 dW;rw[List.map_flatMap,b4t gs ""]
 conv=>lhs;rw[show gs=(List.range gs.length).map λk=>gs.getD k "" from by show Jk Ė λi e1C=>?_;simp[h1]]
 rw[List.flatMap_map,List.flatMap_map];show f2H λi _=>?_;rw[b4t msgs [],GY,GY];ext d7X;rfl
def a6z (pm:q.Perm (List.range (e3m L λ_ msg=>rw msg).length))(st:ZI ((e3m L λ_ msg=>rw msg).map (·.1)) q):q.map (λi=>((e3m L λ_ msg=>rw msg).map (·.2)).getD i .non)=((dA (eK gs msgs.length L)).map (qg gs msgs)).map lu:=by rw[b4A]at pm st ⊢;rw[GS]at pm;rw[GY]at st;rw[<- a5Q pm st,GY,GY,GY];show HA λe8X=>?_;let:=HP.mp<|pm.mem_iff.mp hi;change ((e4d L).map _).getD i .non=lu (qg gs msgs<|(e4d L).getD i []);rw[GV,Hh,GV,GT this];rfl
def a15 (h:f<=n):(dA AI).filter (λr=>decide (e4F 0<(f:Int)))=dA (eK gs f L):=by
 let three:∀ {n:Nat},∀ r∈eK gs n L,r.length=3:=λ{n} r hr=>by let#[g,i,k,tF]:=fS<|OG.mem_iff.mpr hr;rfl
 show lf three ?_ ((iw three).filter _);show ((bH _).filter _).trans (List.Perm.of_eq ?_);ext1 eK;let#[d,1]:=Nat.exists_eq_add_of_le h;rw[List.range_add,IE,Jj,KU.mpr,Jc.mpr,HD]
 ·ext d6v;let#[j,_,1]:=GX.mp hk;let#[z,_,1]:=GX.mp hr;change ¬ decide ((f+j)<(f:Int))=true;rw[Iw];omega
 ·ext d6v;let#[z,_,1]:=GX.mp hr;let:=HP.mp hk;change decide ((k)<(f:Int))=true;rw[Iw];omega
universe K72
namespace L2
open PySem PySem.Spec PyProof.Rows
def Rd.nt (c8L)(n:∀ ps,o≠.tbl ps)(h:Rd F a o):Rd F' a o:=h.imp (λh=>e a o h n) λgR=>by let#[r,q]:=gR;show#[r,e a _ q nofun]
mutual
def DR.nt {F F':Hp}(c8L):∀ (d:D)(v:V),e3v v->f0V v
 | .non,_,h=>h
 | .bl _,_,h=>h
 | .int _,_,h=>h
 | .str _,_,h=>h
 | .lst l,_,h=>let ⟨a,vs,q1,q2,q3⟩:=h;#[c4C]
 | .scr l,_,h=>let ⟨a,vs,q1,q2,q3⟩:=h;#[c6D,e7S vs q3]
 | .tup l,_,h=>let ⟨a,vs,q1,q2,q3⟩:=h;#[c4C]
 | .dct _ l,_,h=>let ⟨a,vs,q1,q2,q3,q4⟩:=h;#[c6D,q3,e7S _ q4]
 | .ins _ _ l,_,h=>let ⟨a,dx,vs,q1,q2,q3,q4⟩:=h;#[a,dx,vs,q1,e ĉ q2 nofun,q3,e7S _ q4]
def LC.nt {F F':Hp}(c8L):∀ (l:List D)(vs:List V),e1u vs->LC F' l vs
 | [],_,h=>h
 | d::l,_,h=>let ⟨v,ws,q1,q2,q3⟩:=h;#[v,ws,q1,DR.nt e d v q2,e7S ws q3]
end
def DR.hid (t:H P=!.tbl ps)(d1p):DR (aJ P H) d v:=DR.nt (λe32 n=>by rw[aF (λz=>by rw[z,t]at q;cases q;show n _ rfl)];show q) d v h
def Sd.put (c7x)(c9F)(l:f' F' H')(hx:f0V x)(i):Sd F' (σ.set i !x) H' mZ:=#[l,by simpa using S.len,λj c q=>by
 rw[Ja]at q ⊢;by_cases z:i=j
 ·rw[if_pos z]at q;by_cases z2:i<ε.length
  ·rw[if_pos z2]at q;cases q;let:=S.len;show#[x,by rw[if_pos z,if_pos<|by lia],hx]
  ·rw[if_neg z2]at q;cases q
 ·rw[if_neg z]at q ⊢;let#[v,mh]:=S.rd j c q;show#[v,h1,DR.mono e ĉ h2]]
def mT (s:f1z H'):f' (aJ P H) (aJ P H'):=λe32=>by
 by_cases z:b=P
 ·rw[z,bA]at q;cases q
 ·rw[aF z]at q ⊢;show s b o z q
def a2A (f:F P=none)(n:H P≠none)(s:f' F H')(e):f' ň (aJ P H'):=λe32=>by
 let z:b≠P:=λz=>by unfold grow at q;rw[z,if_neg n,f]at q;cases q
 rw[aF z];unfold grow at q;ext d5c
 ·rw[if_pos c]at q;show q
 ·ext d4p;show s ĉ q
universe L2
namespace K72
open PySem L2 L2.Wy
open PyProof.Rows (boot_all boot_bool boot_dict boot_int boot_list boot_sorted boot_str boot_tuple)
structure a5w (mg:Ω):Prop extends Cg mg where
 NX:mg "sorted"=none
theorem zOf:Option D->Sl
 | none=>.un
 | some d=>.fz d
def Sd.ss (c7x):Ss F H F σ H (ε.map zOf):=by
 let old:∀ {i:Nat}{s:Sl},(ε.map zOf)[i]?=!s->∃ o,ε[i]?=!o/\zOf o=s:=λq=>by
  cbv
 show#[f'.refl _,S.le,f'.refl _,aj S.le,by simpa using S.len,c55];all_goals
  let#[o,mh]:=old q
  cases o with
  | none=>cases h2
  | some d'=>cases h2 <;> show S.rd i _ h1
def qNw (c9Z):e0R (λE σ H=>∃ F0 H0,e5d H):=λe1q D I gR=>by let#[F0,H0,q]:=gR;show h F0 H0 ñ s σ H D I q
def a8t:∀ p∈(EZ:Ξ),My.O2 p=true:=by intro p hp;simp only[Hs,Ij,Kl]at hp;rcases hp with rfl|rfl|rfl|rfl|rfl <;> show My.Y9 ku Ĺ
def US.Mi (d0m):("h":Str)∉S.LL:=λh=>by let#[nm,nd,_,t,et,_]:=L.Lu.ok;let#[q,hq,e]:=GX.mp h;let#[mh]:=Hw.mp hq;rw[<- nm]at nd;let:=c3k nd h1 (by rw[et];show Hi) e;rw[this]at h2;cases h2
def Fq {T:List LS}(K0:Rn.Tk T nl L)(hx:x∈nl):cQ ((e92 nl).hs.map λz=>b5B) ou=!.int (tu+L x):=by let h1:=Rn.XZ (vf:=e0x p) (tu:=tu) K0 x hx;let#[O,e,w]:=Rn.S7 K0;let#[τ',O',_,_]:=Rn.V6 K0 ZM _ tu O w #[0];show cG (By O'.UZ) (Ho h1)
theorem xx (gs)(k:Nat)(L):Θ:=gs.zipIdx.map λz=>FR
def b3E:eK gs (k+1) L=eK gs k L++xx gs k L:=by ext1 eK;rw[KQ,IE,List.flatMap_singleton];rfl
def a6S:∀ k,(eK gs k L).length=k * gs.length
 | 0=>by simp[eK]
 | k+1=>by rw[b3E,Hn,a6S k];ext1 xx;rw[GS,JN,K9]
theorem YD (Pt l:Addr)(G:Hp)(msgs:Θ):Prop:=∃ vs,G l=!.lst vs/\LC (aJ l xP) (msgs.map rw) vs
def YD.mono (d02)(h:YD Pt l G msgs):YD Pt l G' msgs:=let ⟨vs,a,b⟩:=h;#[vs,e ĉ a,b.mono<|aY (aY e)]
variable {Pt:Addr}
def c45 [Bx:Bd](h1:e7z à (Pr DC))(h2:e3e à (Vo (zE c aC)))(h3:e3e à (Vo (jp c aS))):e3e à (d9o DC):=
 (h1.qx.or<|h2.or h3).imp λe3o h=>h.imp id λgR=>by let#[F,l,A,s,mh,q]:=gR;show h2.elim (λz=>.inl c19) λz=>.inr c19
inductive ni (K:Ψ)(Pt:Addr)(c8O):∀(a:Addr) (ns:Ξ),vs=zV->LO K H a Ł->H Pt=!.tbl [].toArray->(∀ H',Q Ŭ H')
inductive Lw1 (Pt Lm a:Addr)(H:Hp)(x p:Int)(m:Nat)(vn vt vo vp:V)(d0M):∀(o9 N6:Ç) (msgs:Θ),σ=[!.ref a,!.int x,!vn,!vt,!vo,!.int p,!.int (m:Int),!vp,!.ref Lm,o9,N6,EO,EO,none]->f' H G->YD Pt Lm G msgs->msgs.length=i->(∀ msg∈msgs,msg.length=m/\UT p msg)
def a6F:ar ["_law_script","_law_cell","_law_net_here",c5S,"_law_prime","_law_many","_law_plan","_law_messages","_law_k","_law_xs","_law_listeners","_law_due","_law_turn","_law_message","_law_heard_at","_law_place","_law_name","_law_told","_law_few"] wX (d88 101):=Py
def a0w [Bx:Bd](T:a5w Bx.mg)(hC:Bx.mg "Cut"=!.ref aC)(hS:Bx.mg "SmallPrime"=!.ref aS)(e1:e8O (d9c aC) oq=!true)(e2:e8O (d9c aS) oq=!true)(OW:Mh 1 "_law_cell_at" ø (gS Bx.K))(NQ)(Vt:Mh 6 "_law_net" ý (sO Bx.K c))(Lk)(Pm:Er 7 "plan_for" à AB (d9o (d6 c C (y9 c C))))(SD:Mh 2 "_law_round" é (Pr a8B))(VR:Mh 9 "run" ë (sK c C Pt)):Tk 10 "law" (top 101) wX (ni Bx.K Pt):=by
 ext d2U;show F.k a6F λe2U=>?_
 ·let#[a,ns,1,hS',hT,q]:=h;let ND:=a6F.nd;show#[_,(ag (pS 1 ND<|dZ bF b2a aK) (ag (yB (aR Vt hr.m rfl<|a8 (dZ bM fY aK) jn)<|e07 rfl (ae CG<|ae vd (ae pR aD))) (ag (pS 5 ND<|Mz hr (c7<|da dI (da dI<|da dI (da dI<|da dI Lp))).p (e0O (Đ 1) dI)) (ag (pS 6 ND<|Tj dI (e0O (e2J (Đ 1) dI) dI))
   (ag (Fy #[3] rfl hC rfl hS (λpn W=>aq<|pS 7 ND (Bj a0t Pm hr.m rfl<|e01 (da (Đ 6)<|e0T Lp))) λea pn=>aq<|bD nL)
   (ag c2O
   (ag (e0V (d9s (dZ bM fY aK)) Bq
   (ag (pS 10 ND<|aR NQ hr.m rfl (d8Y (dZ nQ b2a<|dZ cL aK Fg) aK)) (aq (aA (d92 v7 (a8 (e9g (cS 1 [5,10] ["_law_j","_law_prime","_law_xs"]) (X4 rfl T.Mg<|e2q Lp)
  Ĕ
  P4
  (λe0i=>e0O (e2J (Mz hr (Đ 2)<|Đ 0) dI)<|Đ 1)) K'))))))
   (ag (qNw<|qs 11 ND (fu (Đ 2) Lk hr.m)) (ag (qNw<|qo 12 ND (c7 Lp)) (ag (qNw (e1g b5f (e07 rfl<|ae Am (ae QH aD)) (cH Bx.K [13,14])
  (qC (qs 15 ND<|dF SD hr.m rfl (da (Đ 3)<|e10 (da (Đ 7)<|e59 (da (Đ 14)<|e0T Lp))))
 (q1 (e1g (iE rfl T.Ms<|da xb Lp) (e07 rfl<|ae (pN 16 ND) (ae (pN 17 ND) aD)) (cH Bx.K [16,17])
  (q1<|qA (aA<|d92 (pv 12) (a8 (i7<|da (Mz hr (Đ 15)<|Đ 17) (da (Đ 16)<|e59 Lp)) K')) (λe0N=>h)))))))
   (ag (pS 18 ND (aR VR hr.m rfl (e01 (f1d (e2q (e0T (da (e0y (cS 1 [] ["_law_message"]) (av<|Đ 8)
  Ĕ
  P4
  (λe0i=>e2s boot_list<|e0S Lp)) Lp)))))))
   (ag (qNw (qI (dT (DB Bx.K<|E8 hr) a74 (Đ 18) (R7 3 rfl (cS 3 [8,11] ["_law_time","_law_place","_law_turn","_law_messages","_law_listeners"]) (av<|dB c23 b0V rfl T.NX boot_sorted (d9h (Đ 12)))
  a5E
  P4
  (d8K (da b9o<|e01 (da (Mz hr (Đ 3)<|Đ 2) Lp)))))
  Op
  q0)) (ag (qNw<|c3R (pS 19 ND<|e2J (eL T.M8<|Đ 8) dI) (λe0N=>h))
   (aq (bD (pM (Ei Bx.K (k:=2)<|E8 hr) (aR VR hr.m rfl<|e01 (da (Đ 7)<|e2q (da (Đ 5)<|da (Yv (Đ 8) Yu<|Yt (Đ 19)) Lp))) (e0y (cS 1 [19] ["_law_entry","_law_few"]) (av<|Đ 18)
  Ĕ
  (λe0i=>bK<|e3R ĺ (Đ 1))
  ĵ) rfl)))))))))))))))),?_]
  show au λZ hZ=>?_;show#[_,1,a,(0),ns,wZ,hS',λc1=>#[c1,(2147483647),2,show (0:Int)<2147483647 by decide,?_]];generalize c1 % 2147483647=x;show hZ ĉ F7;show#[_,1,x,(120),2,AR,_,1,a,x / 120,ns,1,hS',λy H2 nl S Qo hy k6 rl L=>?_];let#[tp,_,1,XD,vn,_,1,hn,vt,_,1,ht,vo,_,1,ho,1]:=hy;show#[tp,_,1,Nu.of XD,1,tF,vz];let W:=L.wn k6 rl;let pz:=L.Lu.len;let#[Lt,K0]:=L.tk;obtain⟨p,ep,hp⟩:∃ p:Int,R8 ([5,7,13,101,999983].map D.int) (x % 5)=!.int p/\p∈(EZ:Ξ):=by let#[v,mh]:=a3m (xs:=(EZ:Ξ).map D.int) (i:=x % 5) (Ii x<|by decide) (by let:=HX x (show (0:Int)<5 by decide);show this);rw[Hh]at h1;let#[p,h3,1]:=HN.mp h1;show#[p,h2,Hb h3]
  let hP:=a8t p hp;let Ve:2<=p:=((My.Lz p).mp hP).1;let p1:p<=1000000:=by
   simp only[Hs,Ij,Kl]at hp
   lia
  obtain⟨m,em,m1,m3⟩:∃ m:Nat,1+x / 5 % 3=(m:Int)/\1<=m/\m<=3:=by let b1:=Ii (x / 5) (show (3:Int)≠0 by decide);let b2:=HX (x / 5) (show (0:Int)<3 by decide);show#[(1+x / 5 % 3).toNat,DS,#[]]
  obtain⟨n,en,n1,n8⟩:∃ n:Nat,1+x / 15 % 8=(n:Int)/\1<=n/\n<=8:=by let b1:=Ii (x / 15) (show (8:Int)≠0 by decide);let b2:=HX (x / 15) (show (0:Int)<8 by decide);show#[(1+x / 15 % 8).toNat,DS,#[]]
  show hZ ĉ F7;show tP.go (F:=AH) (ε:=c0i) (Me<|e2R (UW bX)) (d:=.int p) ⟨⟨⟨rfl,rfl,rfl,rfl,rfl,rfl⟩,by simp,rfl⟩,⟨rfl,rfl,⟨by decide⟩⟩,.l .lst ep⟩ λ_ e78 _ hx=>?_
  cases hx;show hZ ĉ F7;show tP.go (F:=AH) (ε:=c0i) (Me<|e2R (UW bX)) (d:=.int (m:Int)) (by rw[<- em];show⟨rfl,⟨⟨rfl,rfl,⟨⟨by decide,by decide⟩⟩⟩,rfl,⟨by decide⟩⟩,.i⟩) λ_ H4 e4 _ hx=>?_
  cases hx;let e24:=e3.trans e4;let eH4:=Qo.trans e24;let hT4:=eH4 ĉ hT;let hn4:=DR.hid hT4<|e5g hn;let ht4:=DR.hid hT4<|e5g ht;let ho4:=DR.hid hT4<|e5g ho;show hZ ĉ (au λZ hZ=>?_);show NI.go (F:=aJ Pt H4) (ε:=[none,none,some<|aH c S,none,none,some<|.int p,some<|.int (m:Int)]) (Me<|Me (NO hn4<|Me (Me<|e2R (NO rfl<|UW Lv)))) (d:=[aH c S,c6Y]) ⟨rfl,rfl,rfl,rfl⟩ λvs H5 e5 S5 q5=>?_;let q5':=q5.app<|show LC _ AB AB from Ym;rcases W.a0g (c:=c) (C:=C) (K:=Bx.K) L.Mi #[] hP p1 m1 m3 e1 e2 with⟨A',hA,hex⟩|⟨ř,Rg,hR,Y⟩
  ·show .inr #[_,_,A',S5.le,q5',hA,λod H' e=>#[hex,q H']]
  show .inl #[CD,S5.le,q5',hR,λvp H6 e6 q6=>?_];let e46:=e5.trans e6;let eH6:=eH4.trans e46;let hT6:=eH6 ĉ hT;let hvp:=DR.hid hT6<|DR.mono (aG S5.le e6) _ _ q6;let k46:=e2w e46;show hZ ĉ (au λZ hZ=>?_);show#[(by change 0<=sizeLine;decide),λLm H7 e7 h7 hLm=>?_];let hT7:=e7 ĉ hT6;let nLP:Lm≠Pt:=λz=>by rw[z,hT6]at h7;cases h7
  let k47:=k46.trans<|e2w e7;let hn7:=e5h hn4;let ht7:=e5h ht4;let ho7:=e5h ho4;let b4q:=DR.mono (e2w e7) ĉ hvp;let eH7:=eH6.trans e7;show hZ ĉ (au λZ hZ=>?_);show#[_,1,x,(15),2,AR,x / 15,(8),2,show (0:Int)<8 by decide,(1),x / 15 % 8,2,1+x / 15 % 8,1,DS,?_];rw[en,J2];show b4e (lo:=0) (n:=n) (Lw1 Pt Lm a H6 x p m vn vt vo vp) #[none,none,[],1,e7,#[[],hLm,1],1,λ_ h=>nomatch h] ?_ ?_
  ·rintro i σ G hi ⟨o9,N6,msgs,rfl,eG,hM,hl,hm⟩;rw[L0];let hTG:=eG ĉ hT6;show au λZ hZ=>?_;show#[_,1,a,(1),ns,wZ,(eH6.trans eG).seq hS',λc2=>?_];show#[_,1,(7),(i:Int),2,.inl vF,c2,7 * (i:Int),2,?_];show#[AH,[.int<|c2+7 * (i:Int),.int 3],rw (cg DE 3),bX,#[yU,_,3],.mk<|by decide,λxl G1 Ys VE=>?_];let gh:f' (grow AH G G1) (aJ Lm<|aJ Pt G1):=λb o w=>by
    let#[w1,w2]:=gp w;let z1:b≠Pt:=λz=>by rw[z,hTG]at w1;cases w1
    let z2:b≠Lm:=λz=>by let#[vs,hv,_]:=hM;rw[z,hv]at w1;cases w1
    rw[aF z2,aF z1];show w2
   let hM1:=hM.mono Ys;let#[vs,hv,hd]:=hM1;let st:=a55 DE 3;ext d5f;show#[_,1,.inl #[1,_,LO.of hv],?_];show tP.go (F:=aJ Lm<|aJ Pt G1) (ε:=[none,none,none,none,none,some<|.int p,some<|.int (m:Int),none,none,none,some<|rw (cg DE 3)]) (d8R (Me<|e2R (NO rfl<|Me (Me<|Me (NO (DR.mono gh _ _ VE)<|UW (Lv.trans Lv))))))
    (d:=rw ((List.range m).map λj=>(cg DE 3).getD j 0 / 3 % p)) (cy (xs:=List.range m) (u:=λ(j:Nat)=>.int (j:Int)) (h:=λj=>.int<|(cg (c2+7 * (i:Int)) 3).getD j 0 / 3 % p) ⟨m,#[],⟨rfl,rfl⟩,(bO _).symm⟩ (by rw[HV];lia) (λe7W=>#[_,1,#[#[2,.l .lst<|dE (by let:=HP.mp hj;lia)],1,#[AR]],1,#[#[]]])<|e2e GY) λy G2 e2 _ hy=>?_
   let vl:=hd.length;rw[GS]at vl;let hv2:=e1f hv;show#[Lm,vs,y,2,hv2,(by rw[vl,hl];let:sizeLine=2 ^ 24:=rfl;lia),_,_,msgs++[(List.range m).map λj=>(cg DE 3).getD j 0 / 3 % p],1,bb (eG.trans<|Ys.trans e2) h7,⟨_,af,?_⟩,by rw[Hn,hl];rfl,λmsg Ye=>?_]
   ·rw[GZ];let eu:aJ Lm (aJ Pt<|upd G2 Lm (.lst<|vs++[y]))=aJ Lm (aJ Pt G2):=by
     funext b;by_cases z:b=Lm
     ·rw[z,bA,bA]
     ·rw[aF z,aF z];by_cases z2:b=Pt
      ·rw[z2,bA,bA]
      ·rw[aF z2,aF z2,a9 z]
    rw[eu];show (hd.mono<|aY (aY e2)).app<|.one (DR.mono (λb o w=>?_) ĉ hy);unfold grow at w;by_cases c:G1 b=none
    ·rw[if_pos c]at w;let z1:b≠Pt:=λz=>by rw[z,Ys ĉ hTG]at c;cases c
     let z2:b≠Lm:=λz=>by rw[z,hv]at c;cases c
     rw[aF z2,aF z1];show w
    ·rw[if_neg c]at w;show aY (aY e2) ĉ w
   ·rcases Hx.mp Ye with h|h
    ·show hm msg h
    ·rw[Ht.mp h];show#[by rw[GS,HV],λe79=>?_];let#[j,_,1]:=GX.mp hz;show#[Ii _<|by lia,HX _<|by lia]
  ·rintro σ G ⟨o9,N6,msgs,rfl,eG,⟨vs,hv,hd⟩,hl,hm⟩;let hTG:=eG ĉ hT6;let kG:=e2w eG;let dM:DR xP (tb msgs) (d9c Lm):=#[Lm,vs,1,by rw[aF nLP];show hv,hd.mono Lv]
   let a30:S.LL.length<=1000:=by let:=mQ S;lia
   let Sd0:Sd xP [some<|.ref a,some<|.int x,!vn,!vt,!vo,some<|.int p,some<|.int (m:Int),!vp,some<|.ref Lm,o9,N6,none,none,none,none,none,none,none,none,none] G [none,none,some<|aH c S,some<|aZ S.Lj,some<|br nl,some<|.int p,some<|.int (m:Int),some<|aV ř,some<|tb msgs,none,none,none,none,none,none,none,none,none,none,none]:=Me<|Me (NO (d9e wx hn4)<|NO (d9e wx ht4) (NO (d9e wx ho4)<|e2R (NO rfl<|NO (d9e kG hvp) (NO dM<|Me (Me<|Me (Me<|Me (Me<|Me (Me<|Me (Me<|Me (UW Lv))))))))));show hZ ĉ (au λZ hZ=>?_);show#[_,_,tQ.nx (Sd.ss Sd0) #[gc] λσ1 G1 F1 u1 S1=>?_];show hZ ĉ F7;show#[_,_,tQ.nx S1 #[Z7] λσ2 G2 F2 u2 S2=>?_];show hZ ĉ F7;show#[_,_,tQ.ex S2 (oU msgs.zipIdx (u:=λz=>.tup [.int (z.2:Int),rw z.1]) (λf2q=>∃ MT Oe Nr Od Z0,ε=[.un,.un,.fz<|aH c S,.fz<|aZ S.Lj,.fz<|br nl,.fz<|.int p,.fz<|.int (m:Int),.fz<|aV ř,.fz<|tb msgs,.un,.un,.fz<|br S.LL,.ow<|.lst ((e3C i Lt).map tD),MT,Oe,Nr,Od,Z0,.un,.un]) ⟨_,_,_,_,_,rfl⟩ ?_ (λi e5w=>?_)) λε' σ3 G3 F3 hI u3 S3=>?_]
   ·show#[_,#[2],by rw[List.zipIdx_map,GY];rfl]
   ·let#[MT,Oe,Nr,Od,Z0,he]:=gR;subst he;rw[K5]at hz;let#[msg,hmi,1]:=HN.mp hz;let im:=(GW.mp hmi).1;let a3Z:S.LL.length<=7:=by let:=mQ S;lia
    let dl:=e7T i;let dm:=Nat.mul_le_mul (show i<=8 by lia) a3Z;show#[mR,lq #[#[7],.mk (W.a7Q Y.good #[] p1) K0 #[]<|by lia] (Gw S.LL.zipIdx (u:=λz=>.tup [.int (z.2:Int),.str z.1]) (λj ε=>∃ Od Z0,ε=[.un,.un,.fz<|aH c S,.fz<|aZ S.Lj,.fz<|br nl,.fz<|.int p,.fz<|.int (m:Int),.fz<|aV ř,.fz<|tb msgs,.un,.un,.fz<|br S.LL,.ow<|.lst ((e3C i Lt).map tD++((f1H Lt).take j).map tD),.fz<|.int ((0+i:Nat):Int),.fz<|rw msg,.fz<|hsD (e3n nl).hs,Od,Z0,.un,.un]) ⟨_,_,by rw[J9,IP,HD];rfl⟩ ⟨_,⟨rfl,rfl⟩,by rw[List.zipIdx_map,GY];rfl⟩ (λj e5w=>?_) λε' gR=>?_)]
    ·let#[Od,Z0,he]:=gR;subst he;let hz':(f1H Lt)[j]?=![(i:Int)+Lt z.1,(z.2:Int),(i:Int)]:=by ext1 xx;rw[Hh,hz];rfl
     let zl:z.1∈S.LL:=by rw[K5]at hz;let#[g,hg,1]:=HN.mp hz;show Hb hg
     let znl:z.1∈nl:=by rw[<- L.Lu.ok.1];let#[q,mh]:=GX.mp zl;rw[<- h2];show Ho (Hw.mp h1).1
     show#[_,#[_,3],_,#[1,?_,.z #[#[#[2,.k (Fq K0 znl) kS],3],kR]],.fz<|.int (z.2:Int),.fz<|.str z.1,?_]
     ·rw[Hn,GS,GS,Hm];let:(f1H Lt).length<=7:=by ext1 xx;rw[GS,JN];show a3Z
      lia
     ·rw[aO hz',GZ,<- HI,Nat.zero_add];rfl
    ·let#[Od,Z0,he]:=gR;subst he;show#[.fz<|.int ((0+i:Nat):Int),.fz<|rw msg,.fz<|hsD (e3n nl).hs,Od,Z0,?_];rw[b3E,GZ,Ir (by ext1 xx;rw[GS];show Hl _)]
   ·let#[MT,Oe,Nr,Od,Z0,1]:=hI;rw[JN,hl]at S3;let Gt3:=S3.b0 ĉ hTG;let fP:grow xP G G3 Pt=none:=by ext1 grow;rw[if_neg (by rw[hTG];show nofun),bA]
    let RO:=λ{ms:Θ} (h1:∀ msg∈ms,msg.length=m/\UT p msg) (h2:ms.length<=8)=>W.a3k (C:=C) #[] hP p1 Y K0 h1 h2 #[];show hZ ĉ F7;show NI.go S3.a (d:=[tG,c6Y,tb msgs]) #[4,?_,1] λvs4 H8 e8 S8 q8=>?_
    ·show cy (xs:=msgs) (u:=rw) (h:=rw) m8 #[] (λmsg _=>#[_,1,#[#[2],.s<|.sq .lst]]) rfl
    let sF8:=a2A fP (by rw[Gt3];show nofun) (S3.a.le.trans e8) e8;show .mk _ S (yT S) ř m p msgs Lt Ĉ (by rw[HD];show q8) sF8 #[_,e8 ĉ Gt3,trivial,.inl rfl] (RO hm<|by lia) λx9 H9 q9 sb9 a2U pm9 st9 hx9=>?_;rw[a6z pm9 st9,hl]at hx9;let hx9:=DR.mono (aG sF8<|mT sb9) _ _ hx9;let a30:S.LL.length<=7:=by let:=mQ S;lia
    let dl:=e7T n;let dm:=Nat.mul_le_mul (show n<=8 by lia) a30;let lxl:=(bH<|e3C n Lt).length_eq;let three:∀ r∈eK S.LL n Lt,r.length=3:=λe2T=>by let#[g,i,k,tF]:=fS<|OG.mem_iff.mpr hr;rfl
    let k39:=((e94 (by rw[hTG];show nofun) (Lv.trans S3.b0) S3.b0).trans<|e2w e8).trans<|mT sb9;let Sd9:=Sd.put S3.a k39 Lv hx9 18;let a1p:∀ {ms:Θ}{g:Str}{i k:Nat},S.LL[i]?=some g->e8P ms [(k:Int)+Lt g,(i:Int),(k:Int)]=((k:Int)+Lt g,g,(k:Int),ms.getD k []):=λ{ms g i k} hg=>by change ((k:Int)+Lt g,S.LL.getD ((i:Int)).toNat "",(k:Int),ms.getD ((k:Int)).toNat [])=_;rw[J2,J2,GV,hg];rfl
    show hZ ĉ F7;show#[_,_,tQ.nx (Sd.ss Sd9) (.f #[1,cy (xs:=dA<|e3C n Lt) (u:=tD) (h:=λr=>lu<|e8P msgs r) ⟨⟨⟨rfl,rfl⟩,cSt.mk (rs:=e3C n Lt) (n:=3) #[] (by decide) three⟩,.l .lst⟩ #[] (λe2T=>?_) (by rw[GY];rfl),.mk] rfl) λσ4 G4 F4 u4 S4=>?_]
    ·let#[g,i,k,hg,hk,1]:=fS<|OG.mem_iff.mpr b7R;show#[yn,?_];rw[a1p hg];show#[#[1,#[2,.l .lst<|dG (by rw[Hh,hg];rfl)],1,#[2,.l .lst<|dG (by rw[Hh,GT<|show k<msgs.length by lia,GV,GT<|show k<msgs.length by lia];rfl)],1],kR]
    show hZ ĉ F7;show#[_,_,tQ.nx S4 #[#[#[#[2],OZ.m (g:=rw) (x:=msgs)],1,#[AR]],1] λσ5 G5 F5 u5 S5=>?_];let f5:b7t=((n / 2:Nat):Int):=#[]
    let#[ps9,tP9,_]:=id a2U;let tP5:=S5.b0 ĉ tP9;let fP5:grow (aJ Pt H9) H9 G5 Pt=none:=by ext1 grow;rw[if_neg (by rw[tP9];show nofun),bA]
    let mt:(msgs.take<|n / 2).length=n / 2:=by rw[Hm];lia
    show hZ ĉ ?_;show NI.go S5.a (d:=[aH c S,aV ř,.int (m:Int),.int p,tb<|msgs.take (n / 2)]) ⟨rfl,rfl,rfl,rfl,?_,rfl⟩ λvs6 H10 XJ S10 q10=>?_
    ·rw[show tb c1d=.lst (uB (msgs.map rw) none<|some b7t) from by rw[f5,cF,<- Jl]];show#[1,.lst,1,#[1],1]
    let a3j:=a2A fP5 (by rw[tP5];show nofun) (S5.a.le.trans XJ) XJ;show .mk _ S (yT S) ř m p c1d Lt Ĉ (by rw[HD];show q10) a3j (a2U.same<|S5.b0.trans XJ) (RO (λmsg h=>hm msg<|IN h)<|by lia) λx11 H11 q11 a3h a2V a7O a7h Ya=>?_;rw[a6z a7O a7h,mt]at Ya;let Ya:=DR.mono (aG a3j<|mT a3h) _ _ Ya;let a8i:=((e94 (by rw[tP9];show nofun) (Lv.trans S5.b0) S5.b0).trans<|e2w XJ).trans<|mT a3h;let b0j:Sd (aJ Pt H11) σ5 H11 _:=⟨Lv,S5.a.len,λe68=>let ⟨v,h1,h2⟩:=S5.a.rd i d q;#[v,h1,DR.mono a8i ĉ h2]⟩
    show tP.go b0j (d:=.lst<|(((dA<|e3C n Lt).map<|e8P msgs).filter λe=>decide Bp).map lu) ?_ λy12 H12 SO _ a4f=>?_
    ·show bd (xs:=(dA<|e3C n Lt).map<|e8P msgs) (u:=lu) (h:=lu) (λe=>decide Bp) m8 (by rw[GS];lia) λe he=>#[jE,λ_=>rfl]
     rw[<- f5];show lt_int sB rfl
    let eqE:(dA<|e3C (n / 2) Lt).map (qg S.LL<|msgs.take (n / 2))=((dA<|e3C n Lt).map<|e8P msgs).filter λe=>decide Bp:=by rw[List.filter_map,show ((λe:Int×Str×Int×List Int=>decide Bp) ∘ qg S.LL msgs)=λr=>decide (e4F 0<((n / 2:Nat):Int)) from rfl,a15<|Nat.div_le_self n 2];show HA λe2T=>?_;let#[g,i,k,hg,hk,1]:=fS<|OG.mem_iff.mpr b7R;rw[a1p hg,a1p hg];congr 3;rw[GV,GV,IR hk]
    rw[<- eqE]at a4f;let#[b3J,a7b,_]:=a2V;show#[a6f Lv (d9e (e2w SO) Ya)<|DR.mono (e94 (by rw[a7b];show nofun) (Lv.trans SO) SO) ĉ a4f,q _]
open e
variable {h:Heap}
theorem Zy (K)(C)(ğ)(st):Prop:=∃ f fd,Mk K C f/\OR K "__init__" ğ st f fd
def in0_mk (c7V)(mk:W.makesIn K C=true)(c9V)(c8W)(kc)
  (l)
  (c) (k:e4e Fr=true):Zy K C ğ st:=#[f,_,#[mk,a,i,kc],oS l c k]
theorem DY (K)(C)(m ğ:Str)(st):Prop:=∃ (f T:Addr)(t:Tok)(kV doc pm:Value)(an:ψ)(Lr ct:Value)(oc:Value)(od:ψ)(Nq:ω)(tc:Value)(td:ψ)(n:Nat)(T5:ω),Ch K C m f/\
 K.lookup f=some ⟨oc,od,.func a85,Nq⟩/\W.codeIn K Lr ğ=true/\W.keepIn K Fr=true/\K.lookup T=some ⟨tc,td,.seq [.int 1 t].toArray n,T5⟩
def meD0_mk {K:Ψ}{C:Addr}{m ğ:Str}(c9Y){f T:Addr}{t:Tok}(c7q)(d0t)
  (l:K.lookup f=some #[oc,od,.func a85,Nq])
  (c) (k:e4e Fr=true) (d:K.lookup T=some #[tc,td,.seq [.int 1 t].toArray n,T5]):DY K C m ğ st:=#[f,T,t,og,vT,#[a,i,k],l,c,k,d]
def c0S [Bx:Bd](F:DY Bx.K C x ğ st)(cl)(hb:∀ (T:Addr)(t:Tok)(kV doc pm:Value)(an:ψ)(Lr ct:Value)(us:θ),us.length=ps.length->∃ kk,e5i M1=seqItems? YJ >>= kk/\kk (some [.int 1 t].toArray)=pure Id)(ok):ML k C x ps sp:=by let#[f,T,t,og,vT,m,l,c,kp,d]:=F;show#[f,_,cl,m,λs us Pf hl=>?_,ok f _ vZ];rw[HD]at hl ⊢;let#[kk,mh]:=e4H hl;ext d3V
theorem zG (c9D):Prop:=∃ (f T:Addr)(kV doc pm:Value)(an:ψ)(Lr ct:Value)(oc:Value)(od:ψ)(Nq:ω)(tc:Value)(td:ψ)(n:Nat)(T5:ω),e3f x=!some Fr/\
 K.lookup f=some ⟨oc,od,.func Ě,Nq⟩/\W.codeIn K Lr ğ=true/\W.keepIn K Fr=true/\K.lookup T=some ⟨tc,td,.seq [.none].toArray n,T5⟩
def fnD0_mk {K:Ψ}(c7U){f T:Addr}(c7q)(a)
  (l:K.lookup f=some b9r)
  (c) (k:e4e Fr=true) (d:K.lookup T=some #[tc,td,.seq [.none].toArray n,T5]):zG K x ğ st:=#[f,T,v6,k,d]
def mU [Bx:Bd](d2n)(hb:∀ (T:Addr)(kV doc pm:Value)(an:ψ)(Lr ct:Value)(us:θ),us.length=ps.length->∃ kk,e5i M1=seqItems? YJ >>= kk/\kk b7S=pure Id)(ok):f1I sp:=by let#[f,T,v6,kp,d]:=F;show#[f,_,v5,ok f _ vZ];rw[HD]at hl ⊢;let#[kk,mh]:=e5r hl;ext d3V
def b1e [Bx:Bd](d2n)(hb:∀ (T:Addr)(kV doc pm:Value)(an:ψ)(Lr ct:Value)(us:θ),us.length+1=ps.length->∃ kk,e5i M1=seqItems? YJ >>= kk/\kk b7S=pure (ps.zip (us++[.none])))(ok):ZD k x ps GH sp:=by let#[f,T,v6,kp,d]:=F;show#[f,_,[.none],v5,f0H .nil,ok f _ vZ];let#[kk,mh]:=e5r ĝ;ext d3V
theorem qd (c9D):Prop:=∃ (f T:Addr)(t:Tok)(kV doc pm:Value)(an:ψ)(Lr ct:Value)(oc:Value)(od:ψ)(Nq:ω)(tc:Value)(td:ψ)(n:Nat)(T5:ω),e3f x=!some Fr/\
 K.lookup f=some ⟨oc,od,.func Ě,Nq⟩/\W.codeIn K Lr ğ=true/\W.keepIn K Fr=true/\K.lookup T=some ⟨tc,td,.seq [e5U t].toArray n,T5⟩
def fnI0_mk {K:Ψ}(c7U){f T:Addr}{t:Tok}(c7q)(a)
  (l:K.lookup f=some b9r)
  (c) (k:e4e Fr=true) (d:K.lookup T=some #[tc,td,.seq [e5U t].toArray n,T5]):qd K x ğ st:=#[f,T,t,v6,k,d]
def b4W [Bx:Bd](F:qd Bx.K x ğ st)(c65)(hb:∀ (T:Addr)(t:Tok)(kV doc pm:Value)(an:ψ)(Lr ct:Value)(us:θ),us.length+1=ps.length->∃ kk,e5i M1=seqItems? YJ >>= kk/\kk (some [e5U t].toArray)=pure (ps.zip (us++[e5U t])))(ok:∀ f fd,MM Bx.K x ğ st f fd->e3e ps sp):Er k x ps AB sp:=by let#[f,T,t,v6,kp,d]:=F;show#[f,_,[e5U t],v5,.cons #[t,1] .nil,ok f _ vZ];let#[kk,mh]:=e4H ĝ;ext d3V
theorem Et (K)(C)(ğ)(st):Prop:=∃ f fd,a2z K C f/\OR K "__init__" ğ st f fd
def xi0_mk (c7V)(c9V)(own:A5 K C f=true)(c8W)(kc)
  (l)
  (c) (k:e4e Fr=true):Et K C ğ st:=#[f,_,#[own,i,kc],oS l c k]
def b8i [Bx:Bd](F:Et Bx.K C ğ st)(c65)(aC)(hb:∀ (kV doc pm:Value)(an:ψ)(Lr ct:Value)(us:θ),us.length=ps.length->bindArgs a8W M1=pure Id)(c8B):Ep k x C ps sp:=by ext d74
def a3o [Bx:Bd](F:MZ Bx.K x ğ st)(c65)(c7J)(ok:∀ f fd,e95 fd->e3e ps sp):Gj k x ps sp:=by ext d64
theorem uV (c9D)(c Pt:Addr):Prop:=∃ f fd,e3f x=!some Fr/\OR K x ğ st f fd/\fd.code=.ref c/\W.tabIn K x=!(c,Pt)
def fnL0_mk {kV:Value}(a)(l:K.lookup f=some #[oc,od,.func (d9u x Ab),Nq])(cc:W.codeIn K Ab ğ=true)(c8H)(u:K.lookup c=some #[uc,ud,.fields uvs,usl])(v:uvs[11]?=!.ref Pt):uV K x ğ st c Pt:=by
 show#[f,_,a,oS l cc k,1,?_];ext1 W.tabIn;rw[a];ext d7D;rw[l];change (match K.lookup c with
    | some ⟨_,_,.fields vs,_⟩=>(match (vs[11]?:Î) with
     | some (.ref P)=>!(c,P)
     | _=>none)
    | _=>none)=!_
 rw[u];ext d7D;rw[v]
def c57 [Bx:Bd](F:uV Bx.K x ğ st c Pt)(c65)(bm:Bm Bx.mg base)(hc:e6P c Pt)(c7J)(ok:∀ f fd,e95 fd->a1M Bx.mg base fd Pt->e7z ps sp):f1I sp:=by let#[zH,a,F,e,_]:=F;show#[c42,F.binds hb,ok f fd F #[#[c,e,hc],bm]]
@[elab_as_elim] def c4Y (c7z):∀ (us:List α),us.length=1->(∀ a,P [a])->P us
 | [_],_,f=>f _
@[elab_as_elim] def Ge (c7z):∀ (us:List α),us.length=2->(∀ a b,P [a,b])->P us:=λe4L f=>by
 ext d2A
 show c4Y us NE (f a)
@[elab_as_elim] def DI (c7z):∀ (us:List α),us.length=3->(∀ a b c,P [nZ])->P us:=λe4L f=>by
 ext d2A
 show Ge us NE (f a)
@[elab_as_elim] def wL (c7z):∀ (us:List α),us.length=4->(∀ a b c d,P [nZ,d])->P us:=λe4L f=>by
 ext d2A
 show DI us NE (f a)
@[elab_as_elim] def z9 (c7z):∀ (us:List α),us.length=5->(∀ a b c d e,P [nZ,d,e])->P us:=λe4L f=>by
 ext d2A
 show wL us NE (f a)
@[elab_as_elim] def a9A (c7z):∀ (us:List α),us.length=6->(∀ a b c d e f,P [nZ,d,e,f])->P us
 | [tR,_,_],_,f=>f ą ĉ
def a1m [Bx:Bd](c65)(c9r)(F:MZ Bx.K x ğ st)(c8M):f1I sp:=by ext d64
def a0G [Bx:Bd]{C:Addr}(c9r)(F:QO Bx.K C x ğ st)(cl)(c8M):ML k C x ps sp:=by let#[zH,m,F]:=F;show#[zH,cl,m,pc]
def a0U [Bx:Bd](c65){C:Addr}(c9r)(F:Zy Bx.K C ğ st)(aC)(c8B)(hb:∀ (kV doc pm:Value)(an:ψ)(Lr ct:Value)(us:θ),us.length=ps.length->bindArgs a8W M1=pure Id:=đ):Wf k x C ps sp:=by ext d74
open e
def all_mk {l:W.OpenLaw}{CE:Addr}(X:K.In h)(G:e4w mg)(hfa:mg "law"=!.ref fa)(ab:Ι "Net" Ek)(ac:Ι "Post" (d9c CP))(ad:Ι "House" (d9c CH))(ah:Ι "Listener" (d9c CL))(al:Ι "Field" (d9c CF))(am:Ι "Ear" Db)(a7S:e1s CN Str.empty=true)(a9l:e0Y CN=true)(a7J:e1c CN=true)(a7l:Κ Ek)(a7R:e1s CP Str.empty=true)(a9k:e0Y CP=true)(a7I:e1c CP=true)(a7k:Κ (d9c CP))(a7U:e1s CH Str.empty=true)(a9n:e0Y CH=true)(a7L:e1c CH=true)(a7n:Κ (d9c CH))(a7T:e1s CL Str.empty=true)(a9m:e0Y CL=true)(a7K:e1c CL=true)(a7m:Κ (d9c CL))(a7V:e1s CF Str.empty=true)(a9o:e0Y CF=true)(a7M:e1c CF=true)(a7o:Κ (d9c CF))(a7W:e1s CE Str.empty=true)(a9p:e0Y CE=true)(a7N:e1c CE=true)(a7p:Κ Db)(Se:e0c Ek "kept_posts"=!none)(SJ:e0c Ek "kept_ties"=!none)(RA:e0c Ek "next_number"=!none)(WV:e0c (d9c CP) "name"=!none)(WX:e0c (d9c CH) "name"=!none)(WW:e0c (d9c CL) "name"=!none)(Tc:e0c (d9c CF) "prime"=!none)(WY:e0c Db "rows"=!none)(Va:e0c Db "probes"=!none)(Wb:Ι "LETTERS" (.str "abcdefghijklmnopqrstuvwxyz" VT))(Si:ď "LONGEST_NAME" 8 RW)(U9:ď "MOST_POSTS" 20 Tu)(R1:ď "MOST_LISTENERS" 8 QQ)(UP:ď "MOST_TIES" 40 Uv)(RC:ď "LONGEST_DELAY" 99 Ry)(R3:ď "GREATEST_PRIME" 1000000 QR)(W2:e6c EY EY=!true)(W3:e6c xW xW=!true)(Vd:e6c xW lZ=!false)(UG:e6c Ő Ő=!true)(a3P:CP≠CH)(a3O:CP≠CL)(a3Q:CH≠CL)(Zq:Ι "Cut" (d9c Up))(Xk:Κ (d9c Up))(Xm:jT K Up=true)(Xn:e0Y Up=true)(Ud:e2D Up "fallen"=!none)(Vl:e2D Up "name"=!none)(SR:e2D Up "numbers"=!none)(a5l:e9V (d9c Up) c2a=!true)(QI:Ι "SmallPrime" (d9c VS))(a29:Κ (d9c VS))(a3a:jT K VS=true)(a3b:e0Y VS=true)(Tv:e2D VS "needed"=!none)(a3c:e9V (d9c VS) c2a=!true)(SW:Ď "len")(OJ:Ď "isinstance")(a2C:Ď "str")(a2G:Ď "all")(RU:Ď "list")(YH:Ď "int")(ZA:Ď "bool")(P7:Ď "enumerate")(RF:Ď "range")(a2D:Ď "min")(Wv:Ď "dict")(Qq:Ď "sorted")(Wu:Ď "zip")(YG:Ď "sum")(a2F:Ď "any")(a2E:Ď "max")(f0:č "is_name" ip)(f1:QO K CP "reads" "Post.reads" dj)(f2:QO K CH "reads" "Post.reads" dj)(f3:QO K CL "reads" "Listener.reads" c3Y)(f4:QO K CP "hears" "Post.hears" dq)(f5:QO K CH "hears" "House.hears" c26)(f6:QO K CL "hears" "Post.hears" dq)(f7:Zy K CP "Post.__init__" bP)(f8:Zy K CH "Post.__init__" bP)(f9:Zy K CL "Post.__init__" bP)(f10:Zy K CN "Net.__init__" c0F)(f11:QO K CN "check_new_name" "Net.check_new_name" (d83 4))(f12:QO K CN "listeners" "Net.listeners" (d83 12))(f13:QO K CN "home" "Net.home" (d83 13))(f14:QO K CN "put_in" "Net.put_in" mD)(f15:QO K CN "post" "Net.post" C5)(f16:QO K CN "listener" "Net.listener" rK)(f17:QO K CN "house" "Net.house" Pa)(f18:č "is_whole" B0)(f19:č "is_delay" (top 26))(f20:QO K CN "ties" "Net.ties" (d83 14))(f21:QO K CN "names" "Net.names" (d83 11))(f22:č "led_to" (top 27))(f23:QO K CN "check_there" "Net.check_there" (d83 8))(f24:QO K CN "check_ends" "Net.check_ends" (d83 7))(f25:DY K CN "tie" "Net.tie" EI)(f26:QO K CN "into" "Net.into" (d83 15))(f27:QO K CN "out_of" "Net.out_of" (d83 16))(f28:č "first_ready" (top 28))(f29:QO K CN "ordered" "Net.ordered" fZ)(f30:č "mixing_ties" (top 54))(f31:č "by_number" (top 55))(f32:č "wanted_lengths" (top 56))(f33:č "is_number_of" (top 57))(f34:č "is_row_of" (top 58))(f35:č "is_prime" (top 35))(f36:Zy K CF "Field.__init__" jh)(f37:č "checked_plan" (top 59))(f38:QO K CF "fit" "Field.fit" (e51 1))(f39:QO K CF "times" "Field.times" (e51 4))(f40:QO K CF "minus" "Field.minus" (e51 3))(f41:QO K CF "back" "Field.back" (e51 5))(f42:č "row_sum" (top 38))(f43:č "column" (top 39))(f44:č "ones_row" (top 41))(f45:č "ones" (top 42))(f46:č "coming_in" (top 60))(f47:č "flow" (top 61))(f48:zG K "carried" "carried" (top 63))(f49:č "fitted_row" (top 43))(f50:č "row_with" (top 44))(f51:č "scaled" (top 45))(f52:č "without" (top 46))(f53:č "cleared" (top 47))(f54:č "reduced" (top 48))(f55:č "first_place" (top 49))(f56:č "lead_places" (top 50))(f57:č "reader" (top 51))(f58:č "nought" (top 52))(f59:č "judgement" (top 65))(f60:zG K "judged" "judged" (top 66))(f61:č "longer_by_one" (top 72))(f62:č "choices" (top 73))(f63:č "standing_ties" (top 75))(f64:č "ties_by_post" (top 76))(f65:č "step_over" (top 77))(f66:č "reached_from" (top 78))(f67:č "used_with" (top 79))(f68:č "ties_between" (top 80))(f69:č "tie_out_of" (top 81))(f70:č "one_way" (top 82))(f71:č "parted_ways" (top 83))(f72:zG K "ways" "ways" (top 84))(f73:Zy K CE "Ear.__init__" Bo)(f74:QO K CE "shown" "Ear.shown" (ao Cv 1))(f75:QO K CE "move_front" "Ear.move_front" xf)(f76:č "ways_by_choice" (top 87))(f77:č "message_ties" (top 88))(f78:č "asks_by_tie" (top 89))(f79:č "unbarred" (top 90))(f80:č "multipliers" (top 91))(f81:č "times_row" (top 40))(f82:č "mixed_row" (top 92))(f83:č "made_plan" (top 93))(f84:č "kept" (top 2))(f85:Et K Up "Cut.__init__" AL)(f86:Et K VS "SmallPrime.__init__" Ff)(f88:qd K "plan_for" "plan_for" EB)(f89:zG K "sent" "sent" (top 62))(f90:č "lateness" (top 68))(f91:č "read_message" (top 69))(f92:uV K "run" "run" (top 70) c1 P1)(f93:č "_law_cell_at" (top 96))(f94:č "_law_stream" (top 97))(f95:č "_law_net" (top 98))(f96:č "_law_out" (top 99))(f97:č "_law_round" (top 100))(fl:č "law" (top 101))(n1:K.lookup P1=none):
  ∃ (fd:È)(c1 P1:Addr),a44/\W.tabIn K "run"=!(c1,P1)/\K.lookup P1=none/\
   ∀ base:Heap,K.In base->e13 mg->Bm mg base->e6P c1 P1->LX l.prog w K mg base MY 10 fa fd wX (ni K P1):=by
 let#[fL,fdL,aL,FL]:=fl;let e:=hfa.symm.trans (e4q aL)
 cases e;let PV:PM K CN:=#[a7S,a9l,a7J,a7l]
 let a1y:PM K CP:=#[a7R,a9k,a7I,a7k]
 let a1A:PM K CH:=#[a7U,a9n,a7L,a7n]
 let a1z:PM K CL:=#[a7T,a9m,a7K,a7m]
 let Wg:PM K CF:=#[a7V,a9o,a7M,a7o]
 let a1B:PM K CE:=#[a7W,a9p,a7N,a7p]
 let O:Cl.Ok K je:=#[PV,a1y,a1A,a1z,Se,SJ,RA,WV,WX,WW,a3P,a3O,a3Q]
 let TL:b5G mg:=#[e0r SW,e0r OJ,e0r a2C,e0r a2G,e0r RU]
 let TG:GN mg:=#[#[_,e4q Wb],#[_,e4q Si],#[_,e4q U9],#[_,e4q R1]]
 let TK:n5 K:=#[W2]
 let TN:GM mg:=#[e0r OJ,e0r YH,e0r ZA,e0r SW]
 let TH:a1L mg:=#[#[_,e4q UP],#[_,e4q RC]]
 let TI:a1K K:=#[W3,Vd]
 let TS:GL mg:=#[e0r Wv,e0r Qq]
 let TD:a2i mg:=#[e0r Wv,e0r SW,e0r RU,e0r a2D]
 let TX:uh K mg CF:=#[Wg,Tc,c60,e0r YG,e0r SW]
 let TP:a5z K mg CF:=#[Wg,Tc,#[_,e4q R3]]
 let TR:w8 mg:=#[e0r RF]
 let TA:Cg mg:=#[e0r SW,e0r RF,e0r RU,e0r P7,e0r YH,e0r Wu,e0r YG]
 let TW:a5w mg:=#[TA,e0r Qq]
 let TV:a5x mg:=#[e0r RU,e0r Qq]
 let TU:a5y mg:=#[e0r Qq,e0r P7]
 let TM:a5A mg:=#[e0r a2E]
 let EF1:mH K Up "fallen":=#[Xk,Xm,Ud,Xn]
 let EF2:mH K Up "name":=#[Xk,Xm,Vl,Xn]
 let EF3:mH K Up "numbers":=#[Xk,Xm,SR,Xn]
 let EF4:mH K VS "needed":=#[a29,a3a,Tv,a3b]
 let TE:Oo K mg CE:=#[a1B,WY,Va,c60,e0r a2F,e0r SW,e0r P7]
 let ta1:W.tabIn K _=!(c1,P1):=(let #[tR,_,t]:=f92;t)
 show#[fdL,c1,P1,λs v=>?_,ta1,n1,λbase _ _ bm hc1=>?_]
 ·let#[c39]:=FL.ex;show .of_eq rfl
 ·
  letI Bx:Bd:=#[l.prog,w,K,mg,base]
  let fq:=@a1m h Bx X G;let mq:=@a0G Bx;let iq:=@a0U h Bx X G;let Rc:=fq f0 λe1k=>b6W F TL TG TK;let a1Q:ML 1 CP "reads" Þ (Pr<|iJ (decide ((CP:Addr)=(⟨CN,CP,CH,CL⟩:Cl).PR))):=mq f1 a1y λe1k=>by rw[show decide ((CP:Addr)=(je:Cl).PR)=false from gW O .post];show dQ (iO F)
  let YB:ML 1 CH "reads" Þ (Pr<|iJ (decide ((CH:Addr)=(⟨CN,CP,CH,CL⟩:Cl).PR))):=mq f2 a1A λe1k=>by rw[show decide ((CH:Addr)=(je:Cl).PR)=false from gW O .house];show dQ (iO F)
  let Vn:ML 1 CL "reads" Þ (Pr<|iJ (decide ((CL:Addr)=(⟨CN,CP,CH,CL⟩:Cl).PR))):=mq f3 a1z λe1k=>by rw[show decide ((CL:Addr)=(je:Cl).PR)=true from gW O .listener];show dQ (jF F)
  let a1W:ML 1 CP "hears" Þ (Pr<|iJ (not (decide ((CP:Addr)=(⟨CN,CP,CH,CL⟩:Cl).house)))):=mq f4 a1y λe1k=>by rw[show (not (decide ((CP:Addr)=(je:Cl).house)))=true from i5 O .post];show dQ (iP F)
  let YE:ML 1 CH "hears" Þ (Pr<|iJ (not (decide ((CH:Addr)=(⟨CN,CP,CH,CL⟩:Cl).house)))):=mq f5 a1A λe1k=>by rw[show (not (decide ((CH:Addr)=(je:Cl).house)))=false from i5 O .house];show dQ (om F)
  let Vq:ML 1 CL "hears" Þ (Pr<|iJ (not (decide ((CL:Addr)=(⟨CN,CP,CH,CL⟩:Cl).house)))):=mq f6 a1z λe1k=>by rw[show (not (decide ((CL:Addr)=(je:Cl).house)))=true from i5 O .listener];show dQ (iP F)
  let Vs:=iq f7 ac λe1k=>a2q F O;let Um:=iq f8 ad λe1k=>a2q F O;let Qk:=iq f9 ah λe1k=>a2q F O;let Xu:=iq f10 ab λe1k=>c4p F O;let PH:∀ C,ju (je:Cl) C->ML 1 C "reads" Þ (Pr<|iJ (decide (C=(je:Cl).PR))):=by
   rintro _ ⟨k,rfl⟩
   cases k with
   | house=>show YB
   | listener=>show Vn
   | post=>show a1Q
  let PJ:∀ C,ju (je:Cl) C->ML 1 C "hears" Þ (Pr<|iJ (not (decide (C=(je:Cl).house)))):=by
   rintro _ ⟨k,rfl⟩
   cases k with
   | house=>show YE
   | listener=>show Vq
   | post=>show a1W
  let Lw:=mq f11 PV<|b2p O Rc;let Lk:=mq f12 PV<|a6Q O PH;let MB:=mq f13 PV<|b4Q O PJ;let Mc:=mq f14 PV<|c3x O TL TG PH Lk;let Qj:=mq f15 PV<|c1U O Lw Mc Vs;let Ob:=mq f16 PV<|dBo O Lw Mc Qk;let Pw:=mq f17 PV<|b19 O Lw Mc MB Um;let Ng:=fq f18 λe1k=>UpL F TN TI;let Qg:=fq f19<|c4r TH Ng;let Lq:=mq f20 PV<|b4a O;let Pu:=mq f21 PV<|b8S O TL;let SA:=fq f22<|a6Y TL;let LB:=mq f23 PV<|b41 O;let Ni:=mq f24 PV<|a2R O PJ LB Lq SA;let Rh:ML 3 CN "tie" ô (sJ ⟨CN,CP,CH,CL⟩):=c0S f25 PV (λd9X d9X e4L=>wL us hl λd9X=>#[_,2]) λe1k=>c4M F O TN TH Ni Qg;let Mn:=mq f26 PV<|b42 LB Lq (c:=je);let OV:=mq f27 PV<|b2w LB Lq (c:=je);let Oz:=fq f28<|b5P TL;let MD:=mq f29 PV<|b8P O TD Lq Oz;let LH:=fq f30<|a7G MB MD Mn OV (c:=je);let LV:=fq f31<|c5l TS;let Nf:=fq f32<|b59 TD LH LV;let Oa:=fq f33<|b9z TX Ng;let Pp:=fq f34<|a6w TL Oa;let Qf:=fq f35 b08;let LQ:=iq f36 al<|c5N TP Qf;let N5:=fq f37<|b4k TD LQ Nf Pp;let Lo:=mq f38 Wg<|a0x TX;let LY:=mq f39 Wg<|a60 Lo;let ME:=mq f40 Wg<|b29 Lo;let OX:=mq f41 Wg<|a4u TX Lo LY;let MP:=fq f42<|a8J TX Lo;let OI:=fq f43 b24;let MN:=fq f44<|c0U TX;let Nz:=fq f45<|c3i TX MN;let Pq:=fq f46 b4y;let Qh:=fq f47<|c1r MP Pq LV;let PL:Mh 5 "carried" á (Pr<|kr ⟨CN,CP,CH,CL⟩ gH):=mU f48 X G (λe9z=>z9 us hl λe0i=>#[_,2]) λe1k=>b66 F TS LQ LH Qh Nz OI LV;let OT:=fq f49<|c1J Lo;let Qd:=fq f50<|c0j TX;let Sx:=fq f51<|c4d LY;let R9:=fq f52<|b16 TX LY ME;let Rf:=fq f53<|WhR TX Sx R9 OX;let NP:=fq f54<|a4y TX OT Qd Rf;let OA:=fq f55<|b6v TX;let MC:=fq f56<|b2i OA;let Sy:=fq f57<|a2b TX Nz MC NP;let Sz:=fq f58<|c0W TX MC NP MN ME;let Ou:=fq f59<|a07 Sy Sz;let a5N:Mh 8 "judged" á (Pr<|e75 gH):=mU f60 X G (λe9z=>z9 us hl λe0i=>#[_,2]) λe1k=>e8Q Ou;let Rb:ZD 8 "judged" á GH (Pr<|e75 gH):=b1e f60 X G (λe9z=>wL us NE λd9X=>#[_,2]) λe1k=>e8Q Ou (c:=je);let NA:=fq f61<|c3S TL;let Nh:=fq f62<|c4T TR Lq NA (c:=je);let Qi:=a9M Nh;let Ny:=fq f63<|Txt Lq (c:=je);let O6:=fq f64<|b1D TD;let Pl:=fq f65 c4X;let O9:=fq f66<|c4w TL Pl;let Pk:=fq f67<|c4J TS;let O7:=fq f68 a6D;let OS:=fq f69 a1d;let Ra:=fq f70<|a9d OS;let Ox:=fq f71<|a2k TL Ra;let Qb:Mh 4 "ways" ï (Pr<|Rr ⟨CN,CP,CH,CL⟩):=mU f72 X G (λe9z=>wL us hl λd9X=>#[_,2]) λe1k=>b76 F TL TR.Mg Lk MB Pu Ny O6 O9 Pk O7 Ox (c:=je);let Xv:=iq f73 am<|b5e TE Nz;let MO:=mq f74 a1B<|a9t TE MP;let Nj:=mq f75 a1B<|b8K TE MO Lo;let LR:=fq f76<|c3I Lk Qb (c:=je);let Mf:=fq f77<|a01 TE;let OB:=fq f78<|c0x TE TD.Ov Mf Lq Xv (c:=je);let Qc:=fq f79<|b01 TE Lo;let Oy:=fq f80<|b0N TE MO Lo Qc;let MW:=fq f81<|b6Q MP;let Pn:=fq f82<|b56 TE MW OI;let Po:=fq f83<|b46 TE TD.Ov Mf Nz OB LH Oy Pn Nj LV (c:=je);let Uk:=fq f84<|b6l (e0r OJ) (e0r RU) UG;let Xw:Ep 2 "Cut" Up å (Zu Up λl=>∃ xs z ys,l=b6y):=b8i f85 X G Zq (λf0y=>wL us hl λd9X=>rfl)<|(wj EF1 EF2 EF3 Uk);let OU:Ep 1 "SmallPrime" VS ÿ (Zu VS λl=>∃ i:Int,l=ji):=b8i f86 X G QI (λf0y=>Ge us hl λ_ _=>rfl)<|(j9 EF4);let b0u:Gj 5 "ways_by_choice" î (Vo<|AF ⟨CN,CP,CH,CL⟩ Up):=a3o f76 X G (λf0y=>DI us hl λd97=>rfl) λe1k=>jI F Lk Qb Xw;let Pm:Er 7 "plan_for" à AB (λe3o=>Pr (d6 je CF<|y9 ⟨CN,CP,CH,CL⟩ CF) vs H Q E\/Vo (λl A=>zE je Up l A\/jp je VS l A) vs H Q E):=b4W f88 X G (λd9X d9X e4L=>DI us NE λd97=>#[_,2]) λe1k=>c45 (vR (c:=je) F TL LQ Qi LR Lk Po) (wv (c:=je) F LQ Qi b0u)<|b0Q (c:=je) F TL LQ Qi LR Lk OU;let b0v:Mh 5 "sent" è (Pr<|e76 gH):=mU f89 X G (λe9z=>z9 us hl λe0i=>#[_,2]) λe1k=>a4w F LQ LH Qh (c:=je);let Uj:ZD 5 "sent" è GH (Pr<|e76 gH):=b1e f89 X G (λe9z=>wL us NE λd9X=>#[_,2]) λe1k=>a4w F LQ LH Qh (c:=je);let Qe:=fq f90<|b45 TM Lq MD (c:=je);let O8:=fq f91<|b5Z MW;let VR:Mh 9 "run" ë (sK ⟨CN,CP,CH,CL⟩ CF P1):=c57 f92 X G bm hc1 (λf0y=>z9 us hl λe0i=>rfl) λe1k L=>a0v F L TU #[Rb,λ_=>Ym] LQ Qe #[Uj,λ_=>Ym] Mn O8 (c:=je);let OW:=fq f93<|a3t TA;let NQ:=fq f94<|a59 TA;let Vt:=fq f95<|c5V TA Xu NQ Pw Ob Qj Rh (c:=je);let Ul:=fq f96<|a8C TA;let SD:=fq f97<|b4T TV Ul;show a0w (c:=je) (C:=CF) TW (e4q Zq) (e4q QI) a5l a3c OW NQ Vt Lk Pm SD VR ĉ FL
def walk (d1i)(hn:l.most=!63)(hdf)(hY)(F:∀ (w:World)(mg:Ω)(fa:Addr)(h:Heap),(K w.params).In h->e4w mg->mg d.name=!.ref fa->
   ∃ (fd:È)(c1 P1:Addr),a44/\W.tabIn l7 "run"=!(c1,P1)/\(K w.params).lookup P1=none/\
   ∀ base:Heap,(K w.params).In base->e13 mg->Bm mg base->e6P c1 P1->e6O MY 10 fa fd wX (ni l7 P1))(r1:((PyProof.Rows.recsOf q).find? (λe=>e.name==("run":Str))).isSome=true):
  W.WalkO q loose XP YP l.row.toRowW d [] cX:=
 let #[_,e1]:=IQ.mp r1
 L2.Ww hn Ĺ hdf #[uf] hY e1 F (λd97 a ns _ hO hS=>#[a,ns,1,hS,hO.t1,λ_=>rfl]) λd9X z=>z
universe K72
end
open PySem PySem.W PyProof.Rows L2
set_option tactic.hygienic true in
theorem PySem.Challenge.cw_mixposts_k94_whole_rounds_on_the_way_holds : PySem.Challenge.rw_mixposts_k94_whole_rounds_on_the_way.Holds := by
  refine topOfIt ?_
  k_fill
  refine K72.walk (l := PySem.Challenge.rw_mixposts_k94_whole_rounds_on_the_way) rfl rfl (λw h Y => PySem.W.km_in_of Y) ?F (by kernel_rfl)
  case F =>
    intro w mg fa h KX G hmg
    apply K72.all_mk KX G hmg
    case f92=>
      refine' K72.fnL0_mk ?A ?L ?C ?K ?U ?V
      (case A|L|C|K|U=>first|k_is|kit_is)
      (case V=>first|rfl|kernel_rfl)
    all_goals first|(first|apply b2S|apply a0S|apply K72.in0_mk|apply K72.fnD0_mk|apply K72.fnI0_mk|apply K72.meD0_mk|apply K72.xi0_mk)<;>(first|k_is|kit_is|kernel_rfl)|k_is|kit_is|skip
    all_goals first|decide|omega|kts_exm|kernel_rfl|(intro h;cases h)
