import PyProof.Rows.All
import Wide.All
import KE.RegKTryMore
import KE.RegKIsAll
import KE.KNestM
import KE.KTopLam
import Wide.FinOn
import Lean
import PySem.Challenge.RW_mixposts_k81_rounds_read
import KE.KIntText
import KE.KDictOf
import KE.KDictSum
import KE.KListMore
import KE.KEqDict
import KE.KPairComp
import KE.KSortTup
set_option Elab.async false
set_option linter.all false
set_option maxRecDepth 100000
set_option maxHeartbeats 0
set_option autoImplicit true
set_option compiler.extract_closed false
set_option genSizeOf false
section
open Lean in
local macro_rules|`(command|lay_quick x)=>do
 let t:=`topOfIt
 let ns:=(List.range 1093).map (λi=>t.str s!"o_{i+43}")++[49,78,93,108,123,138,153,168,183,198,213,235,257,279,320,334,392,428,464,686,695,760,836,916,988,1041,1119].map (λi:Nat=>t.str s!"sts_{i}")++[t.str "heap_39",t.str "heap_46",t.str "heap_1136",t.str "view_39",`PySem.Challenge.pw_mixposts_k81_rounds_read]
 return mkNullNode (←ns.toArray.mapM λn=>do return (←`(command|theorem $(mkIdent (.str `PySem.W.Fast s!"tw{n.hash}")):ident:True:=trivial)).raw)
lay_quick x
open PySem PySem.W PyProof.Rows
open_top topOfIt for PySem.Challenge.rw_mixposts_k81_rounds_read
end
def ß(h:True:=by first|exact .inl rfl|exact .inr rfl|assumption):=h
def ö(h:True:=by decide):=h
def Ă(h:True:=by intro _;rfl):=h
def ă(h:True:=by rfl):=h
def Ą(h:True:=by with_unfolding_all rfl):=h
def Ć(h:True:=by decide +kernel):=h
def ć(h:True:=by first|exact Or.inl rfl|exact Or.inr rfl):=h
def Ċ(h:True:=by exact c39 _):=h
def đ(h:True:=by intro _ _ _ _ _ _ us hl;first|exact c3B us hl λ_=>rfl|exact FY us hl λ_ _=>rfl|exact BB us hl λ_ _ _=>rfl|exact uB us hl λ_ _ _ _=>rfl|exact yV us hl λ_ _ _ _ _=>rfl|exact a34 us hl λ_ _ _ _ _ _=>rfl):=h
open Lean Parser Tactic in
local macro_rules|`(mutual $cs* end)=>do
 let R:=[Syntax.rewriteBottomUp].getLast!
 let C:=(R (·.setInfo .none) (mkNullNode cs)).getArgs
 let f:=C[0]![1]
 if !f.isOfKind ``Command.example then Macro.throwUnsupported
 let N:=Syntax.node .none
 let J:=λ(a:Array Syntax)=>N `null (mkSepArray a (mkAtom ","))
 let T:=f[2][1][1][0][0].getSepArgs
 let p:=λu:Syntax=>if u.isIdent then N ``rcasesPat.one #[u] else if u.isOfKind ``Term.hole then u.setKind ``rcasesPat.ignore else if u.isOfKind ``Term.anonymousCtor then N ``rcasesPat.tuple #[u[0],J (u[1].getSepArgs.map λv=>N ``rcasesPatLo #[N ``rcasesPatMed #[mkNullNode #[v]],mkNullNode]),u[2]] else u
 let O:=λq e=>N ``obtain #[mkAtom "let",mkNullNode #[N ``rcasesPatMed #[mkNullNode #[R p q]]],mkNullNode,mkNullNode #[mkAtom ":=",mkNullNode #[e]]]
 let B:=λ(t:Array Syntax) b=>N ``Term.byTactic #[mkAtom "by",N ``tacticSeq #[N ``tacticSeq1Indented #[mkNullNode (mkSepArray (T.extract 0 1++t++(T.extract 1 3).push (N ``refine #[mkAtom "refine",b])) mkNullNode)]]]
 let F:=[λ(M:NameMap Syntax)(s:Syntax)=>
  let k:=s.getKind
  if s.isIdent then(M.find? s.getId).getD s else
  if k==``Term.explicitBinder then
   if s[2].isNone&&s[3].isNone then(M.find? (.str s[1][0].getId "b")).getD s else
   if s[3][0].isOfKind ``Term.binderDefault then(s.setArg 3 mkNullNode).setArg 2 (mkNullNode #[s[2][0],N ``Term.app #[mkIdent `autoParam,mkNullNode #[s[2][1],mkIdent (s[3][0][1].getId.str "_auto_1")]]]) else s else
  if k==`term!_ then N ``Term.app #[mkIdent `some,mkNullNode #[s[1]]] else
  if k==``Parser.Tactic.show&&!s[1].isOfKind ``Term.paren then
   let s:=s.setKind ``refine
   let a:=s[1]
   match a[0].isNatLit? with
   |some j=>
    let c:=a[1][0]
    let e:=c[1].getSepArgs
    let r:=e.extract j
    s.setArg 1 (N ``Term.app #[mkIdent (.str `El s!"i{j}"),mkNullNode ((e.extract 0 j).push (if r.size==1 then r[0]! else c.setArg 1 (J r)))])
   |_=>s
  else
  let X:=λ_:Unit=>s[1].getSepArgs.flatMap λx=>match if x.isIdent then M.find? (.str x.getId "b") else none with|some b=>if b[2][1].isOfKind `«term[_]» then b[2][1][1].getSepArgs else #[x]|_=>#[x]
  if k==`«term[_]» then s.setArg 1 (J (X ())) else
  if k==`«term#[_,]» then
   let e:=X ()
   if e.isEmpty then f[1][1][0][1] else if e[0]!.isNatLit?==some 0 then T[3]![1] else N ``Term.anonymousCtor #[s[0],J (e.flatMap λx=>match x.isNatLit? with|some n=>.replicate n (mkIdent `rfl)|_=>#[x]),s[2]] else
  if k==``tacticLet__ then
   let q:=s[2][0]
   if q[0].isOfKind ``Term.anonymousCtor then O q[0] q[4] else s.setKind ``tacticHave__ else
  if k==``Term.let&&s[2][0][0].isOfKind ``Term.anonymousCtor then B #[O s[2][0][0] s[2][0][4]] s[4] else
  if k==``Term.fun&&s[0].isToken "λ" then
   let b:=s[1]
   let(x,t):=b[0].getArgs.foldl (λ(x,t) a=>if a.isOfKind ``Term.anonymousCtor then let z:=mkIdent (.mkSimple s!"ĥ{x.size}");(x.push z,t.push (O a z)) else(x.push (if a.isOfKind ``Term.hole then mkIdent `ĥ else a),t)) (#[],#[])
   s.setArg 1 ((b.setArg 0 (mkNullNode x)).setArg 3 (if t.isEmpty then b[3] else B t b[3])) else
  if k==``tacticSeq1Indented then
   let(o,_):=(s[0].getSepArgs.push .missing).foldl (λ(o,r,n,w) t=>
    if t.isOfKind ``obtain&&t[0].isToken "let" then(o,r.push t,r.size+1,w+t[1][0][0][0][1].getNumArgs)
    else if n>0&&(t.isOfKind ``tacticHave__||(t.getArgs.back?.getD t)[0].isOfKind ``location&&!t.isOfKind ``generalize) then(o,r.push t,n,w)
    else((o++if w<4 then r else T[0:1].toArray++r[0:n].toArray++T[1:3].toArray++r[n:].toArray).push t,#[],0,0)) (#[],#[],0,0)
   s.setArg 0 (mkNullNode (mkSepArray o.pop mkNullNode)) else
  if k==``omega&&s[1][0].getNumArgs==0 then T[3]![1][1][0][0][0] else
  if k==``Command.open&&s[1].isOfKind ``Command.openRenaming then mkNullNode (s[1][2].getSepArgs.map λx=>(Unhygienic.run `(command|noncomputable abbrev $(mkIdent x[2].getId):ident:=@$(mkIdent (s[1][0].getId++x[0].getId)))).raw) else
  if k==``Command.inductive&&s[4].getNumArgs==0 then
   let y:=s[2]
   let t:=y[1][0]
   let(g,e):=(List.range 30).foldl (λ(g,t) _=>let i:=if t.isOfKind ``Term.arrow then 2 else if t.isOfKind ``Term.forall then 4 else 9;if i==9 then(g,t) else(g∘t.setArg i,t[i])) ((id:Syntax->Syntax),t[1])
   let h:=N ``Term.app #[s[1][0],mkNullNode (y[0].getArgs.flatMap λb=>if b.isOfKind ``Term.explicitBinder then b[1].getArgs else #[])]
   let z:=λ(b:Syntax) e=>N ``Command.optDeclSig #[b,mkNullNode #[t.setArg 1 e]]
   (s.setArg 2 (z y[0] (N ``Term.prop #[mkAtom "Prop"]))).setArg 4 (mkNullNode #[N ``Command.ctor #[mkNullNode,mkAtom "|",N ``Command.declModifiers (.replicate 7 mkNullNode),mkIdent `mk,z mkNullNode (g (N ``Term.arrow #[e,mkAtom "->",h]))]]) else
  if k==``cbv then(T[3]!.find? (·.isOfKind ``simpAll)).getD s else
  if k==``Elab.Tactic.Ext.tacticExt1___ then N ``unfold #[s[0],mkNullNode (s[1].getArgs.map (·[0][0])),mkNullNode] else
  if k==``Command.open&&s[1][0][0].getId==`e then N ``Command.end #[s[0],mkNullNode] else
  if k==``Command.variable then mkNullNode #[(Unhygienic.run `(command|section)).raw,s] else
  if k==``Command.declaration&&s[1].isOfKind ``Command.example then N ``Command.variable #[mkAtom "variable",s[1][1][0]] else
  if k==``Command.universe then N ``Command.end #[s[0],if s[1][0].getId==`e then mkNullNode else mkNullNode #[s[1][0],mkNullNode]] else
  if k==``Command.declaration then
   let x:=s[1];let t:=x[2]
   if x.isOfKind ``Command.instance&&!x[3].isNone then Unhygienic.run `(command|set_option tactic.hygienic true in $(⟨s.setArg 1 (N ``Command.theorem #[mkAtom "theorem",x[3][0],x[4],x[5]])⟩)) else
   if x.isOfKind ``Command.definition then s.setArg 1 (N ``Command.theorem #[x[0],x[1],N ``Command.declSig #[t[0],t[1][0]],x[3]]) else
   let b:=x.isOfKind ``Command.theorem
   let s:=if b then s.setArg 1 (N ``Command.definition #[x[0],x[1],N ``Command.optDeclSig #[t[0],mkNullNode #[t[1]]],x[3],mkNullNode]) else s
   if b||x.isOfKind ``Command.abbrev then s.setArg 0 (s[0].setArg 4 (mkNullNode #[N ``Command.noncomputable #[mkAtom "noncomputable"]])) else s
  else s].getLast!
 let G:=[λ(M:NameMap Syntax)(s:Syntax)=>
  let k:=s.getKind
  let L:=λx:Syntax=>(M.find? x.getId).getD .missing
  if k==``tacticSeq1Indented then s.setArg 0 (mkNullNode (mkSepArray (s[0].getSepArgs.flatMap λt=>let u:=if t.isOfKind ``Elab.Tactic.Ext.ext then L ((t[1].find? (·.isIdent)).getD t) else t;if u.isOfKind ``Term.byTactic then u[1][0][0].getSepArgs else #[t]) mkNullNode)) else
  if k==`null then mkNullNode (s.getArgs.flatMap λt=>let u:=if t.isOfKind ``Term.explicitBinder&&t[2].isNone&&t[3].isNone then L t[1][0] else if t.isIdent then L t else .missing;if t.isIdent then if u.isOfKind ``Term.fun then u[1][0].getArgs else #[t] else if u.isOfKind ``Term.forall then u[1].getArgs else #[t]) else
  let t:=L s[0]
  if k==``Term.app&&t.isOfKind ``Term.fun then R (λx=>match if x.isIdent then t[1][0].getArgs.findIdx? (·.getId==x.getId) else none with|some i=>s[1][i]|_=>x) t[1][3] else if k==``Term.app&&t.isOfKind ``Term.app then N ``Term.app #[t[0],mkNullNode (t[1].getArgs++s[1].getArgs)] else s].getLast!
 let a:=f[1][0].getArgs
 let g:=a.foldl (λM t=>if t.isOfKind ``Term.instBinder then M.insert t[1][0].getId (R (G M) t[2]) else M) {}
 let M:=a.foldl (λM t=>if t.isOfKind ``Term.instBinder then M else let s:=R (F M) t;let n:=t[1][0].getId;if s.isOfKind ``Term.explicitBinder then M.insert (.str n "b") s else M.insert n s[2][1]) {}
 return R (F M) (R (G g) (mkNullNode (C.extract 1)))
set_option tactic.hygienic false
mutual
example(w:World)(i:Nat)(t:Gr (ps++N).length ps.length r R)(x:Str)(a:W.nsIn K mainGlobals x=some (some (.ref f)))(b:∀ (f:Addr)(Lz:Value)(A:Ë)(outer:List Env)(s:Ê)(H:Hp)(E:XK),LL k (A.deeper (envOfC ğ (ae st) s.heap.objs.size f Lz))->(ps++N).Nodup->S9 (dH N5 B.P B.w B.K B.mg B.base (ps++N) ğ (ae st) f Lz A outer s H E).Uv (aB st) r)(r:V->List V->Hp->VK->Prop)(H:Hp)(o:Obj)(h:autoParam (X.K=K) ă._auto_1)(h':DR H d' v')(d:Addr)(f:Str)(k:∀ i x ε,xs[i]?=some x->I i ε->∃ ε1,q (u x) ε ε1/\∃ ε2,rb ε1 (.nx ε2)/\I (i+1) ε2)(ho:NP X (compareOp op) r)(ht:∀ cells C s H fp,Q3 (aJ X scope N' cells C s H fp) ifs tt)(e:f' H H')(hp:PassesOwn (model X.prog X.w) X.A X.env X.xe)(u:Value)(ok:∀ f fd,MO Bx.K x ğ st f fd->QH N5 k f fd ps sp)(mu:xu (H x))(he:autoParam (starEach (e::es) X.env=(false,eval e X.env)::starEach es X.env) ă._auto_1)(heo:∃ u,h'.get? e=some u)(q:∀ x H',f' H H'->DR (grow F H H') d x->Q x H')(n:Nat)(hx:Wp X.env.scope x)(hn:autoParam (x≠"__name__") ö._auto_1)(l:K.lookup f=some ⟨oc,od,.func (W.fnOf "__init__" ğ (aT st) (aB st) (ae st) .none kV doc pm an Lz ct),Nv⟩)(sc:Scope)(m:Nat)(I:Inv X ñ σ H s)(XT:∀ b∈ch,(b∈X.ex\/X.s₀.heap.objs.size<=b)/\b≠X.env.locals/\(∀ x c,X.env.cells.lookup x=some c->c≠b)/\∀ p∈X.pn++ñ,p.1≠b)(slot:Slot T name id)(LJ:P9 X.prog X.w H' h')(hg:∀ cells C s H fp,PG (aJ X scope N' cells C s H fp) tg g)(h1:s.heap.IsListIter i1 l1 k1)(h2:∀ xs,u≠.tup xs)(hN:X.N.Nodup)(ha:PA X (e::es) t)(hs:autoParam (∀ x,foldedSetIterable iter X.env x=pure x) Ă._auto_1)(hi:PI X tg iter (tI ri))(hf:autoParam (X.fn x=true\/X.env.scope.names.lookup x=some .local) ß._auto_1)(X:Cx)(ñ:ζ)(σ:St)(Q:VK)(s':Ê)(us:θ)(D:ZipApart z TI TO i1 i2 l1 l2)(st:Stmt)(v:V)(hv:PE X value tv)(hd:autoParam ((x==("__debug__":Str))=false) ö._auto_1)(RM:autoParam ((x==("__classdict__":Str))=false) ö._auto_1)(hm:autoParam (behindInMarks op b=false) Ċ._auto_1)(hb:autoParam (∀ (kV doc pm:Value)(an:ψ)(Lz ct:Value)(us:θ),us.length=ps.length->bindArgs (W.fnOf x ğ (aT st) (aB st) (ae st) .none kV doc pm an Lz ct) ⟨us,[]⟩=pure (ps.zip us)) đ._auto_1)(ta:TA)(hc:X.calm=true)(K:Ψ)(xs:List α)(E:Ends ts nm)(te:TE)(c:W.codeIn K Lz ğ=true)(ts:List (T ν))(RK:autoParam (starEach (e::es) X.env=(false,eval e X.env)::starEach es X.env) ă._auto_1)(g:G [(kS,seqObj "list" keys e),(a,seqObj "list" [].toArray e1)] kk s)(R:RR p w m ř ps)(lo:(d==sysModules)=false)(hl:ri (ε.map Sl.z) (xs.map u))(U5:autoParam (starEach [e2] X.env=[(false,eval e2 X.env)]) ă._auto_1)(Pv:Nat->Υ)(h0:Pv 0 σ H)(hh:A.handled=none)(C:Addr)(ry:Os y u)(hr:LL k X.A)(outer:List Env)(P:É)(s:f' F H)(F:M9 X.prog X.w X.K X.mg X.base CX k f fd ps sp)(sp:Sp)(dvs:π)(ps:η)(hk:IntsAre keys.toList kz)(OO:autoParam ((x==("__debug__":Str))=false) ö._auto_1)(Oi:autoParam ((backTo pos (starEach es X.env)).any (·.1)=false) ă._auto_1)(M:Mk X.K C f)(N:Mq c H n dp dt S)(mg:Ω)(base:Heap)(ğ:Str)(scope:Scope)(A:Ask lt)(S:Ss F0 H0 F σ H ε)(len:∀ vs H Q E,sp vs H Q E->vs.length=ps.length)(hu:X.A.units+1<cLine)(hz:c6k s.heap z TI TO T b)(fx:eX x=true)(T:uA Bx.K Bx.mg C)(pa:PlainAttrs T)(Yh:typeOf (.builtin id)=pure (.type "method_descriptor"))(OG:autoParam (attributeBase o name X.env (eval o X.env)=eval o X.env) ă._auto_1)(Pq:autoParam ((apos.endLine==MB.line)=true) ă._auto_1)(O6:autoParam ((backTo pos (starEach [e] X.env)).any (·.1)=false) ă._auto_1)(hdf:d.params.defaults=[])(j:Nat)(N':η)(nT:Nat)(js:À)(hsc:X.env.scope=sc)(fin:∀ ε,I xs.length ε->r2 ε f)(hsw:autoParam (swapsWith (.ListComp elt [⟨tg,iter,ifs,0⟩] scope pos) (some (.Name x pos')) WR.line X.env=pure true) ă._auto_1)(hB2:B.StaysIn h2)(hfr:A.frames=some X.stack)(O:Cl.Ok Bx.K c)(W:WN S h ord R)(hC:s.heap.get? C=some (excClassObj nm q C N bs tl hd sn sub ab col dd k0 k1 k2 k3 k5 newId))(hI:mN "__init__"=some (.ref fI))(hfc:oI.cls=.type "function")(RW:∀ q∈P7,X.env.cells.lookup q.1=some q.2)(R7:ox.data=.fields vs)(G:h.Ns mainGlobals Bx.mg)(ķ:List (κ×V))(z:List Int×Nat)(Y3:List (TE×TE))(ed:o.data=.dict es ep)(hK:autoParam (X.K=K) ă._auto_1)(p:Int)(ř:List bC)(bk:Int->Int)(R4:ps.length<=1000)(hP:My.O5 p=true)(Dd:Dm X.prog X.w X.K X.mg X.base k C m ps (Pr R))(hJ:W6 F1 J l)(hT:s.heap.get? T=some oT)(rb:Str->Bool)(hA:A.handled=none)(knd:KeyKind prog w κ)(k':WH o' ķ)(J:Obj->Addr->It)(p1:p<=1000000)(p2:ķ.map (·.1)=ð.map (·.1))(p3:LO F1 (ð.map (·.2)) (ķ.map (·.2)))(fz:Fz X H1 H2 a o ķ)(Vp:IsPair s.heap TI (.ref i1) (.ref i2))(Rw:s.heap.IsList l1 xs)(T5:s.heap.IsList l2 ys)(Z:ZS s.heap z TI TO i1 i2 l1 l2 d k)(nd:uj ts)(bs:List (Str×η))(kt:∀ σ H Q,tP re σ H Q->te σ H Q)(Lx:MG 1 C "fit" é (Pr (RO C)))(MT:Mo 1 "ones_row" ā (Y0 a7J))(Md:MG 2 C "times" å (Pr (qu C)))(MI:MG 2 C "minus" å (Pr (v4 C)))(NM:Mo 2 "ones" ["many"] (Pr Dfd))(MH:Mo 2 "lead_places" ["rows","many"] (Pr cU))(NY:Mo 5 "reduced" ã (Pr (kW C)))(PV:∀ C,jK c C->MG 1 C "reads" Þ (Pr (iW (decide (C=c.Q0)))))(PX:∀ C,jK c C->MG 1 C "hears" Þ (Pr (iW (not (decide (C=c.house))))))(LG:MG 1 c.Mg "check_there" Ý (Pr (cV c)))(Ly:MG 1 c.Mg "ties" Þ (Pr (j8 c)))(MF:MG 2 c.Mg "home" Þ (Pr (xY c)))(Mc:MG 2 c.Mg "ordered" Þ (Pr (iw c ord)))(MA:MG 2 c.Mg "into" Ý (Pr (qy c NS.into)))(Np:Mo 1 "is_whole" ÿ (Pr c3R))(msg:Ξ)(fo:Λ)(MW:Mo 3 "row_sum" û (Pr (iu C)))(M3:Mo 1 "by_number" ["told"] (Pr dh))(ms:List MZ)(LX:W4 2 "Field" C î (cM C))(LM:Mo 3 "mixing_ties" ["net"] (Pr (iT c ord)))(Qg:Mo 4 "flow" ô (Pr (AH C)))(OJ:Mo 1 "column" ["table","place"] (Pr kX))(Lu:MG 2 c.Mg "listeners" Þ (Pr (bJ c)))(U:Int->Bool)(L:QQ nl S)(way:Ξ)(ê:List Mt)(ç:Θ)(ord:List Mk.MZ)(Na:Mo 4 "times_row" ["field","table","row"] (Pr (gD C)))(MU:MG 4 CE "shown" æ (Pr (qw C CE)))(Qc:Mo 4 "ways" ó (Pr (RD c)))(Nq:Mo 2 "choices" ý (Pr (iy c)))(LZ:Mo 5 "ways_by_choice" ï (Pr (cD c)))(m1:X.mg x1=some (.ref C1))(m2:X.mg x2=some (.ref C2))(d1:autoParam ((x1==("__debug__":Str))=false) ö._auto_1)(d2:autoParam ((x2==("__debug__":Str))=false) ö._auto_1)(LD:MG 2 c.Mg "check_new_name" Ý (Pr (bU c)))(Ml:MG 3 c.Mg "put_in" þ (eJ c))(TH:a16 Bx.mg)(kj:∀ a b,kf a=kf b->a=b)(QR:h∈S.names)(hO:∀ ks∈ç,WG S (some ks) N/\∀ g∈S.LW,∃ w,bx (bb S.Ls (some ks)) (some h) g N m=.inr w)(MN:((ç.length * S.LW.length:Nat):Int)<=p)(TD:Bx.mg "dict"=none)(Mr:Mo 1 "message_ties" ["many"] (Pr dj))(pz:S.Lv.length<=20)(lt:Nat->Nat->Bool)(bt:Nat->Nat->Bool)(cm:CmpOf prog w A.in1 .Gt P bt)(Vm:kS≠a)(hlen:kz.length=vs.length)(Sx:vs.length<64)(Eg:(arrOf st).size=vs.length)(hfl:failedOf st=none)(Vo:∀ (Q':List Value->Shared->Prop)(E':ρ),(∀ h' tk vs,(∀ b o,s.heap.get? b=some o->h'.get? b=some o)->Pv vs->Q' vs { s with heap:=h',toks:=tk })->wpAny (model prog w) A.in1 (collect v) Q' E' s)(Xi:defaultsOf params X.env=([],[]))(cl:Pf Bx.K C)(Sv:∀ y∈scope.names,y.2=.free->∃ c,(y.1,c)∈P7)(Sw:∀ (ğ:Str) P7 pm cd Ug u,bindArgs (kla_fn "<lambda>" ğ params body scope P7 pm cd Ug) ⟨[u],[]⟩=pure [(x,u)])(hY:∀ (w:World)(h:Heap),YP w h->(K w.params).In h)(rd:Str->List Int->D)(TQ:W4 1 "Net" c.Mg Þ (gY c))(MY:Mo 1 "_law_stream" ù (Pr b8p))(Nb:MG 4 c.Mg "house" Ý (cY c .house))(MC:MG 4 c.Mg "listener" Ý (cY c .listener))(Nt:MG 4 c.Mg "post" Ý (cY c .post))(Nr:MG 3 c.Mg "tie" ä (fG c))(K0:Rn.Tk S.Ls nl L)(Ff:(S.Ls.map (·.1)).Nodup)(kc:W.keepIn K (.ref C)=true)(aC:W.nsIn Bx.K mainGlobals x=some (some (.ref C))){Ē:(model X.prog X.w)}{ē:(model prog w)}{Ĕ:(λ_ _ _ _ _=>pC 0)}{ĕ:(A.deeper (envOfC ğ (ae st) s.heap.objs.size f Lz))}{Ė:(aJ X scope N' cells C s H fp)}{ė:(by simp)}{Ę:(W.fnOf x ğ (aT st) (aB st) (ae st) (.ref T) kV doc pm an Lz ct)}{ę:(.Call (.Name x p) (e::es) [] pos)}{Ě:(f'.refl _)}{ě:(by cbv)}{Ĝ:(λ_ _ _ _ _=>bX Bx.K rfl<|ag (pC 0) (ag (pC 1) aI))}{ĝ:(.builtin "object.__setattr__")}{Ğ:(.Call (.Attribute o m apos) [] [] pos)}{Ġ:(.Attribute o m apos)}{ġ:(∀ σ' H',N σ' H'->∃ m',m'<m/\W (i+1) m' σ' H')}{Ģ:(W.fnOf x ğ (aT st) (aB st) (ae st) .none kV doc pm an Lz ct)}{ģ:(λ_ _ _ _ _=>bX Bx.K rfl<|ag (pC 0) (ag (pC 1)<|ag (pC 2) (ag (pC 3) aI)))}{Ĥ:(backToKw pos (keywordEach [] X.env))}{Ħ:(ts.filter λt=>U t.1)}{ħ:(ř.getD a [])}{Ĩ:(aJ X scope N' cells C s3 (upd H2 l<|.lst []) fp)}{ĩ:(S.Mu.map (·.1))}{Ī:(keywordEach [] X.env)}{ī:(ε.map Sl.a)}{Ĭ:(X.env.qual++"<lambda>")}{ĭ:(false,eval e X.env)}{Į:(upd H2 l<|.lst [])}{į:(by decide)}{İ:(λz=>nomatch z)}{Ĵ:(λ(kv:jr×V) (a:jr×α)=>kv.1=a.1/\R H kv.2 a.2)}{ĵ:(.inl rfl)}{Ķ:(ns.map V.int)}{ĸ:(ķ.map (·.2))}{Ĺ:(EP X ñ σ Q)}{ĺ:(λ_ z=>nomatch z)}{Ļ:(dH (QV P w) P w K mg base N ğ (ae st) f Lz A outer s H E)}{ļ:(I.ok.hd hc)}{Ľ:(λ_ _ _ _ _=>Đ 0)}{ľ:((dc (gs.zipIdx.take i) msgs L rb++(msgs.zipIdx.take j).map (xq L rb (gn,0+i))).map WE)}{Ł:(e1.trans e2)}{ł:(S.Ls.map (·.1))}{Ń:(he ñ s σ H _ I h)}{ń:(s.heap.objs.size+1)}{Ņ:(.type "list")}{ņ:(ř.getD i [])}{Ň:(starEach (e::es) X.env)}{ň:(Mx.joined t)}{Ŋ:(by simpa using hl)}{ŋ:(grow F H G)}{Ō:(λxs H Q=>(∃ p ķ,xs=[.ref p]/\Rd H p (.dK ķ)/\NX H (.dK (bp [] ķ)) Q)\/∃ p ķ,xs=[.ref p]/\b4O H p ķ/\ķ.length<=1000/\NX H (.dK (bp [] ķ)) Q)}{ō:(a,seqObj "list" out c)}{Ŏ:(ha ñ s σ H _ I h)}{ŏ:(grow F H H')}{Ő:(LF S ns)}{ő:(getMethod ov m pl)}{Œ:(.Tuple elts x1 Oh)}{œ:(ME hr (Đ 0) dI)}{Ŕ:(da (Đ 2) LB)}{ŕ:(Mx.Lw many j)}{Ŗ:(P.getD i [])}{ŗ:(P.getD w [])}{Ř:(λw hw=>b2o rx fx r fs w<|by simpa using hw)}{Ś:(gu Bx.K)}{ś:(.done (.ret .none))}{Ŝ:(λb o hb e=>(sb.2 b hb).trans e)}{ŝ:(B.getD i [])}{Ş:(ķ.map λkv=>kV kv.1)}{ş:(da (Đ 0) LB)}{Š:(bP (bv S) S.names.length)}{š:(starEach [] X.env)}{Ţ:(ð.map (·.2))}{ţ:(λb o hb e=>eb b o hb e)}{Ť:(.Compare a [op] [b] pos)}{ť:(s3.heap.push { cls:=.type "dict",data:=.dict [].toArray })}{Ŧ:(λE σ H=>∃ F0 H0,tQ F0 H0 rb E σ H)}{ŧ:(.dK (bp [] ķ))}{Ũ:(fh ts (NU U) N h)}{ũ:(cH S p (bG (ak S) ř) none (ak S) m g)}{Ū:(ha pos ñ s σ H _ I h)}{ū:(.ret .none)}{Ŭ:((.inl k:jr),D.bl true)}{ŭ:(Mk.stN p m ç ê ord i)}{Ů:(model P w)}{ů:(e1.trans<|e2.trans e3)}{Ű:(Nat.succ.inj hl)}{ű:(.bl true)}{Ų:(start N vs)}{ų:(.Name x pos)}{Ŵ:(Mk.lk R k)}{ŵ:(dH CX P w K mg base N ğ scope f Lz A outer s H E)}{Ŷ:(by simpa using h)}{ŷ:(List.zipWith (λm t=>(m - c * t % p) % p) r lead)}{Ÿ:(aD<|Đ 1)}{Ź:(da (Đ 1) LB)}{ź:(da (Đ 3) LB)}{Ż:(dq (ts.filter λt=>Ui t.1) g N h)}{ż:(bb S.Ls<|some [])}{Ž:(false,eval e1 X.env)}{ž:(λ_ _ _ _ _=>ME hr (Đ 1)<|Đ 0)}{b3e:(.lst<|p.map λi=>vs.getD i .non)}{GT:((ord.take n).map (·.1))}{Id:(da (Đ 0)<|da (Đ 7) (da (Đ 1)<|da (Đ 5) LB))}{Ix:(.ref it)}{IO:(a * u - b * v)}{IR:(LP p m ê T x)}{KB:(ps.zip us)}{KF:(ç.getD LY.1 [])}{KK:(xj Bx.K (pv 0) rfl)}{KM:(("h":Str),Kd.house)}{No:(ME hr (Đ 7) dI)}{c4l:(λr s'=>r=.ok (.ret (.bool true))/\OldK s₁.heap s'.heap/\s'.os=s₁.os/\AllBare s'.gens)}{b0E:(λxs H Q=>∃ (p:Addr)(bs:Ñ),xs=[.ref p]/\LS K H p (bs.map V.bl)/\Q (.bl (bs.all id)) H)}{Op:(.For tg iter ss [] pos)}{c3O:(λxs H Q=>∃ (p:Addr)(bs:Ñ),xs=[.ref p]/\LS K H p (bs.map V.bl)/\Q (.bl (bs.any id)) H)}{P3:(.BoolOp .And (a::b::rest) pos)}{b6S:((e::es).length+([]:List Keyword).length+(if ([]:List Keyword).isEmpty then 0 else 1)<30)}{b4S:(a,seqObj "list" [].toArray e1)}{PP:(starEach es X.env)}{Re:(by simpa using h1)}{Sc:(λz=>decide (z=x))}{SB:(.Assign [.Name x pos'] e pos)}{SC:(.ref s.heap.objs.size)}{SL:(.type "dict")}{c6M:(.builtin "len")}{SZ:(QV Bx.P Bx.w)}{Tl:(λH' b' N'=>q2 H' ((UT.of e1).trans b') N')}{a6X:((X.mg "__name__").getD .none)}{b5N:((cg (S.LW.take i) msgs L rd++(msgs.zipIdx.take j).map (rB msgs L rd g)).map (·.2))}{UF:(.bl false)}{UV:(k _ _ _ q)}{W1:(t.2.2.1=x)}{a7U:(λb o hb e=>kk b o (by simpa using hb) e)}{b6q:(λxs H Q=>∃ p ys,xs=[.ref p]/\(LS K H p ys\/NC K H p ys)/\Q (.int ys.length) H)}{WP:(bi p ř msg fo ms [])}{dBo:(q1<|qA (aE<|Rj Bx.K Hv Hz Hy aH (pv 6) (a9 (ME hr (Đ 8) dI) K')) (λ_ _ _ h=>h))}{XV:(y / 1009+69621+i)}{ZB:(.inr g,.bl<|rb g)}{Eb:#[CN,CP,CH,CL]}{xp:(av λZ hZ=>?_)}{a0K:(.ListComp elt [#[tg,iter,ifs,(0)]] scope pos)}{Ci:(.ref f)}{Ax:(.dK ķ)}{DL:#[2,by show⟨⟩]}{wg:#[2,.t rfl]}{EH:(.ref a)}{tS:#[#[oc,od,.ref T,kV,doc,pm,an,Lz,ct,Nv,1,l,c],kp]}{Ae:(top 32)}{a6n:(hv ñ s σ H _ I h)}{a1p:(thE a6n λu s1 y H1 I1 ry q=>M8 (ha ñ s1 σ H1 _ I1 q) λov s2 gR=>?_)}{DZ:#[1,.l .lst]}{fB:(aU hr)}{x6:(.ref C)}{sI:(e::es)}{ZU:(.Call Ġ sI [] pos)}{E9:#[1,I.turned ţ f0 f1 f3 f4 f5]}{a1D:[some<|aK c S,some<|.int m,some<|.int p,some<|.int 0,some<|fD C p,some<|tb [[]],some<|WO [c9 S N m []],some<|.int (S.LW.length * (1:Nat):Int)]}{BU:(Hi _)}{jp:(ae st)}{ZX:(λvs H Q E gR=>(by let#[_,_,_,_,hl,hR,_]:=gR;cases hR;show hl.length))}{a10:#[ok.mod,ok.kind,ok.glob,ok.blt,ok.above,ok.inj,ok.has,ok.cab,ok.hd,ok.frames,ok.VE,ok.exf,ok.bs,ok.Ww,ok.UH,ok.Wu,ok.Qa,ok.XW]}{Fp:(λLz A outer s H vs Q E hr h=>?_)}{CO:#[_,Hw _ rfl,2]}{qt:(.builtin "type.__call__" #[.ref C::us,kw])}{EB:(pv 0)}{a2j:(thA Ū λus s1 vs H1 I1 r q=>#[I1.Oy,?_])}{a2k:((f,kla_obj "<lambda>" Ĭ params body scope cl a6X c' Ug)::ñ)}{a2l:(JB (name:=Str.ofString "__next__") T a2V (K5 a2V T F.entry_dict_keyiterator_next ?_<|F.args_dict_keyiterator_next_1 _))}{FB:[kV kv.1,kv.2]}{a2m:(λv (kv:jr×V)=>∃ t,v=.ref t/\H' t=!.tup FB)}{yB:[s1.heap.objs.size]}{BE:(∀ b o,s.heap.get? b=!o->h'.get? b=!o)}{C0:(∀ b u,s.heap.get? b=!u->h'.get? b=!u)}{a4I:#[2,by decide,#[hl]]}{gi:#[a4I,.l .lst]}{a2r:#[bh (u:=bA) (λt=>decide _) gi hl λt _=>#[_,#[2],eq_str rfl rfl,λ_=>rfl],UW _ _]}{DS:(l.map some++js.map λj=>(ε[j]?).join)}{DT:(∀ b o,b∉wr->b≠S->s.heap.get? b=!o->h'.get? b=!o)}{a2u:(∀ h' tk us,(∀ b o,s2.heap.get? b=!o->h'.get? b=!o)->Fc xs us->Q' us { s2 with heap:=h',toks:=tk })}{a2v:(∀ a t H2,f' H1 H2->H1 a=none->H1 t=none->H2 a=!.lst []->H2 t=!.tup [kV (kf x),.ref a]->Q (.ref t) H2)}{Ge:(.int i)}{yY:#[#[2],by simp,1]}{oE:#[#[1,by simp,1]]}{a2z:[!v0,!.int (m:Int),!.ref fa,!.ref lc,!vx,!.ref rb,!.ref ad,!.ref pd,!.int k,!mv,!mx,OK,Pe,Pb,To,Vc]}{a2A:[Ž,(false,eval e2 X.env)]}{Kv:(tP ra)}{lS:[.ref p]}{Dr:#[#[2],OP.m]}{iL:(NO rs)}{Gk:(pv 2)}{a2H:(M8 Ū λus s1 gR=>(by let#[vs,H1,I1,r1,q1]:=gR;show hc ñ s1 σ H1 vs us Q I1 r1 q1))}{a2I:#[ok,I.os,I.bare,I.base,I.loc,I.cell,I.free,I.Nf,λp hp=>I.pin p<|HG _ hp,I.LJ,I.len]}{yG:(aB st)}{a2K:#[p.toList,by simpa using Array.perm_iff_toList_perm.mp q1.perm,?_,λa b RX hb=>?_]}{si:(λ_ _ q=>#[_,1,q])}{a2M:(.Call (.Name "sorted" p) [e] [#[some "key",.Lambda params body scope OF,X8]] pos)}{a2N:(hq _ s2.toks its (λb o e=>by let NI:=HD e;rw[L6 _ _ _ _<|HY NI];show GW _ e) rv)}{Ce:(.nx ε2)}{EU:(by first|show Or.inl rfl|show Or.inr rfl)}{a23:(a1Y ha hb I h λv u s2 x y H2 I2 rx ry q=>ho ñ s2 σ H2 x y v u Q I2 rx ry q)}{qV:(.Assign [.Attribute o f pos'] value pos)}{Gj:#[by decide,by decide]}{BH:(.BoolOp .And (b::rest) pos)}{Ty:[.ref a]}{zr:(eB I hg hm ?_ OO)}{Gf:(pv 1)}{zM:(o * a+if k=h then 1 else 0)}{y6:(b₀::UB)}{a3O:[.ExceptHandler (!.Tuple [.Name x1 p1,.Name x2 p2] kk Oh) none y6 a1k]}{a3U:(envX ğ scope s.heap.objs.size f cd cl)}{zi:(envOfC ğ scope s.heap.objs.size f cd)}{FX:(Hg ?_)}{sK:(.nx ε')}{yn:(bi p ř ŕ fo ms [])}{jJ:(λq=>decide (q.1=y))}{Av:(ak S)}{a4m:(λvs H Q E gR=>(by let#[_,l,C,_,hl,hR,_]:=gR;rw[hl.length,(t l C hR).1]))}{yN:[e1,e2]}{qh:(.Call (.Name "zip" p) yN [] pos)}{uq:(λ_ _ _ _ _=>b3p)}{sj:(List.take m)}{xD:(ways.take w)}{gj:(B.getD j [])}{wI:(pv 3)}{a4A:(bY (wx (by rw[Jw];show nd.sublist<|Ku _ _))<|Hm (hb i x hx t ht<|HA e))}{a4B:(.Subscript a b pos)}{xB:(starEach [e] X.env)}{vC:(tP re)}{a4G:(∀ c o,c≠z->c≠TO->c≠i1->c≠i2->s.heap.get? c=!o->h'.get? c=!o)}{a4J:(lU (match ff ts (!q.1) g N m [] with|.inl ks=>.inl ks|.inr U=>.inr _))}{a4L:(qS (pS 5 ND<|dF Nq hr.m rfl (da (Đ 0)<|da (Đ 3) LB)) λ_ _ _ h=>h)}{Bq:(found.take i)}{a4N:(.inr #[o,sb _ _ (λz=>by let#[ps,e,_]:=T;rw[z,e]at h1;cases h1) h1])}{wu:#[us,[]]}{a4R:(P.at #[0] #[0])}{Fg:(Mk.LP p m ê Tm r)}{Z9:(g p a)}{a4W:(.Attribute o name apos)}{vL:#[#[],#[]]}{mP:(K w.params)}{vJ:(i∈ks)}{a41:(.bl (if n=true then not (decide vJ) else decide vJ))}{a43:(.inl<|sb _ _ (λz=>by let#[ps,e,_]:=T;rw[z,e]at h1;cases h1) h1)}{xg:(cv cell 4)}{a44:[none,none,none,some<|aY nl,none,none,none,some<|rw xg]}{a46:(∀ (s:Ê)(v:Value),BindsTo s fd #[[v],[]] [("_law_script",v)])}{Gg:(.type "int")}{vD:(λz=>?_)}{p7:(· % p)}{Ch:(.lst l)}{Ee:(Qk rt)}{px:(ε.set i (.fz d))}{oP:(S.Lv.map λp=>(.inr p.1,gJ c p))}{BD:(aD<|fe (Đ 0) Ly hr.m)}{u7:((.inl r.1:jr),rw r.2)}{uO:(bb S.Ls !ks)}{a5s:[some<|tb ç,some<|rw nums,some<|tb b,some<|rw ch,some<|.int n]}{uk:(d7 S (!h) N m ç)}{B0:(grow F H<|upd G3 pd o)}{a5v:(OS.items (OS.eq I k) r1 r2 h3 (by rw[Around.in1_units];omega))}{a5w:(I.type.here<|GQ ((looks_findIn X ha).here<|GQ (L3.here ?_)))}{a5y:(GQ<|GQ (wpAny_loadPart hx<|GQ ((looks_clsIn X UO).here ?_)))}{uP:(keywordEach X7 X.env)}{b9H:(.builtin "sorted")}{a5J:(call b9H [v] [(Str.ofString "key",.ref f)])}{a5N:(cell+((0+i:Nat):Int))}{JS:(tP rb)}{yE:(xs.map u)}{BK:(qr<|Đ 3)}{EZ:(scaled p r k)}{a5W:(qS (pS 4 ND<|xF LX hr.m rfl (da (Đ 2) LB)) λ_ _ _ h=>h)}{mr:(i,ways)}{u0:(Ti r ta tb)}{wM:(M8 Ń λu s1 gR=>?_)}{nG:(.lst ys)}{uW:(jP wi nT js g tt te)}{fQ:(QV P w)}{a57:(dH fQ P w K mg base N ğ scope f cd A outer s H E)}{jh:(kv.1=k)}{FM:(ķ.any λkv=>decide jh)}{kR:(λ_ _ _ h=>#[_,_,h])}{Fw:(pN 5 ND)}{GG:(y,!(t.1,x))}{a6c:(W.fnOf name ğ params body scope dV kV doc pm an Lz ct)}{a6d:#[.int ys.length,H,I.tok _,#[s.toks+1,by rw[Ik,hlen]],q]}{a6e:[some<|.int c,some<|.int m,some<|rw l,some<|.int x,o4.a]}{wf:(.builtin "object.__class__")}{F8:(Me p ř ps m u)}{a6h:(∀ σ',σ'.length=σ.length->Sd F σ' H ε'->Q σ' H)}{Ab:[aK c S,.int m,.int p,.int 0]}{a6j:(Paired.imp' (fun v kv ⟨t',e',Tt⟩=>#[t',e',?_]) Xe)}{a6k:(wpAny_newTuple ?_ (by change vs.length<=_;rw[Ir];lia))}{rE:(.Subscript o i pos)}{a6m:(λx y H Q=>y=.non/\Q (.bl (not (decide (x=.non)))) H)}{DJ:(ho ñ s σ H _ I h)}{mR:[fD C p,tb t,.int m]}{D6:#[.inl #[#[0],#[0]]]}{d8:(pv 4)}{Bo:(dm ř m.1)}{a6s:((List.range many).map λj=>Mx.dot Bo ŕ % p)}{Dg:(λp hp=>nomatch hp)}{a6u:(λp Pj s' b1 b2 b3 b4=>#[b4.1,p,b4.2.1,b4.2.2,b2,b3])}{a6v:(λ(kv:jr×V) (a:jr×Int)=>kv.1=a.1/\isI H kv.2 a.2)}{Cg:#[.int _,H,I.tok _,#[_,1],q]}{nM:[.ref d]}{nH:(grow F H H1)}{Em:(ε.map Sl.z)}{a6A:(top 36)}{a6B:#[#[1,by decide,#[2],#[hx]]]}{mS:(o * T.2.getD i 0+s b a.2.2)}{Cp:((T.P.getD e []).getD w0 [])}{Ps:(bb S.Ls ![])}{a6E:(∀ g∈S.LW,∃ w,bx Ps ĩ g N m=.inr w)}{xQ:(Mk.LQ found)}{Aq:(grow F H H4)}{a6H:((ts.filter λt=>decide W1).map λt=>L t.2.1+t.2.2.2)}{a6I:(wpAny _ _ (getattributeRaised _ _ _ _ _ _ _) _ _ _)}{uD:(aD<|Đ 0)}{sG:(qr<|Đ 2)}{a6L:(match bx _ _ g N m with|.inl _=>true|.inr _=>false)}{tY:(upd H a o)}{a6N:(I1.LJ.fresh<|Hi _)}{sx:(g i j)}{lD:(by simpa using h2)}{a6Q:(dH CX P w K mg base N ğ scope f cd A outer s H E)}{jw:(by decide +kernel)}{ES:(iZ rfl T.Oo<|da (Đ 1) Ŕ)}{CI:(WC rfl T.Mb<|da (Đ 0) LB)}{DQ:(WC rfl T.Mb<|da (Đ 1) LB)}{Cq:(WC rfl T.Mb<|da (Đ 2) LB)}{xc:(List.map rw _)}{lJ:(pN 6 ND)}{Bn:(ms.take i)}{xz:(NU U)}{a61:(dr2 N.dr (d':=.str x) rfl)}{BV:[.str "reads",tb R]}{Ac:(HY<|HD e)}{a63:(old_kept λb o hb e=>hk b o hb Ac<|GW _ e)}{a64:(s.heap.update kS<|Obj.mapSeq λ_=>([].toArray:Ó))}{yO:(0,0,0,"",.non)}{a66:(λ_ _ _ _ _ _ _ _ us hl=>BB us Ű λ_ _ _=>#[_,2])}{a67:(λ(kv:jr×V) p=>kv.1=Sum.inr p.1/\Nk c H kv.2 p)}{a68:(cS 4 [1] ["number","one","other","delay","name"])}{a69:(λ_ s'=>∃ σ' H',Inv X ñ σ' H' s'/\Q σ' H')}{a7a:#[_,ε,c,S.step e1,h2,λH2 e2=>q H2<|e1.trans e2]}{a7b:#[ob,es,ho,c1,c2,c3,c4,c5]}{lA:((.inl x.1:jr),D.int x.2)}{z5:(b8f<|RA (Đ 0) LG hr.m Ź)}{a7e:[some<|.int fi,none,none,none,some<|.int (i:Int)]}{AF:(by simpa using e)}{lW:(c6 i)}{lQ:(∃ m,W 0 m σ H)}{a7m:(λx y H Q=>y=.non/\Q (.bl (decide (x=.non))) H)}{Uf:(I.LJ.fresh<|Hi _)}{qE:(.ref l)}{qg:(Value.ref ea::us)}{DP:(rL n js ri rt re)}{a7I:(lj ri q rb)}{Y7:(λvs H Q E h=>?_)}{yo:[.int num,.int ah]}{xJ:#[by decide]}{Gs:(eval e X.env)}{JG:(.int i t)}{a7O:(f JG (.int j u))}{zB:(λf vs=>PySem.call f vs)}{a7Q:[.int t.1,.str t.2.1,.str t.2.2.1,.int t.2.2.2]}{a7S:(ř,ps.length)}{a7T:#[F,ε,d,S,h,λx H' e q=>k x H' e (S.step e) q]}{DM:(merged [] ps)}{a7V:(kt_code_dict_new _ #[2])}{FH:(da (Đ 5) LB)}{ly:(q∈MQ p t m)}{zc:(da (Đ 4) LB)}{w4:(da (Đ 1)<|da (Đ 2) ź)}{vG:(da (Đ 0)<|da (Đ 2) LB)}{Dp:(found.take c)}{mO:(bZ hb hd λz=>nomatch z)}{Fv:(nl.map V.str)}{ua:(bZ O8 Wm λz=>nomatch z)}{a8w:(ksk_end a false vs.toArray e1 (.ref kS) keys)}{tM:(.Name "range" p)}{FN:(hb ñ s1 σ H1 _ I1 q1)}{DK:((p,w)::P.zip vs)}{Fe:#[.bl _,H,I,1,?_]}{a8B:(F.kt_typeCall_dict_1 _)}{kM:(rL n js (rIt rd) rt re)}{Ef:(.ref z)}{rg:(pyNext Ef)}{L4:#[trivial]}{Zw:(f x,g x)}{FV:#[#[4],c1]}{CB:(pN 7 ND)}{Ak:(pN 8 ND)}{Ec:(cH S p rs fo Ő many g)}{ou:(lk (rowsOf ê T a.1) k)}{Dq:(bv S)}{rq:[.ref ba,.ref rd]}{Fj:(keywordEach [kw] X.env)}{a8T:(λxs H Q=>∃ p ys,xs=lS/\(LS K H p ys\/NC K H p ys)/\NX H nG Q)}{yt:(aT st)}{a8U:(W.fnOf "__init__" ğ yt yG jp .none kV doc pm an Lz ct)}{Eu:(a9 Gf K')}{vT:(aE<|bd EB LD hr.m Eu)}{a8W:(∀ a H',f' H H'->H a=none->Vu (ay a ŏ) H' d a->Q EH H')}{sU:(.ref T)}{a8X:(W.fnOf m ğ yt yG jp sU kV doc pm an Lz ct)}{uQ:#[.inl vL]}{a8Y:#[#[#[#[2,by decide,#[hp]],1],OP.m],Dr,uQ]}{DW:(.call (.ref fa) #[Ty,[]])}{a83:(.Raise (!.Call (.Name x np) sI [] MB) none pos)}{a84:(λv (kv:jr×V)=>∃ t,v=.ref t/\H t=!.tup FB)}{a85:(upd H2 D (.lst (p.map λi=>xs.getD i .non)))}{a86:(pI Ś wI<|pv 8)}{AO:(pI Ś wI<|pv 9)}{Bg:(i5 Bx.K)}{a9e:(λg msg=>if rb g=true then rw msg else .non)}{a9h:(Array.getElem?_eq_none (by rw[hp.1];omega))}{a9n:(wpAny_dictSet_pairs hk XS λh2 hd2 sb2=>?_)}{a9o:(UD (·.1) (cO p m ç ê Av (ak S).length))}{a9q:(ksk_rest a f false vs.toArray e1 (.ref kS))}{a9r:[some<|.int cell,none,none,none,some<|aY nl]}{a9s:(List.range (dc gs.zipIdx msgs L rb).length)}{mY:(aQ P w)}{DG:(List jr×Addr×Value)}{qe:(.ref x)}{wj:(σ.set i !v)}{kB:(.type "str")}{Fh:(.builtin "isinstance")}{BP:(I.LJ a _ ea)}{xy:(.builtin id)}{D7:["name"]}{uN:((ř.getD i []).drop m)}{a9T:(λ_ _=>True)}{Zf:(t.getD a [])}{D8:(q1 b4A)}{kU:(red p t m)}{Bj:(.nx #[1] ?_)}{kP:[aK c S]}{a9Z:((.inr q.1:jr),iX q.2)}{a90:(dO cQ NR (Đ 3)<|Đ 0)}{vh:(bE kf nm as)}{yg:(nm.take i)}{Cn:(Mx.LV p ŝ<|Mk.lk R k)}{yh:(ks.map LA)}{wO:(cO p m ç ê ord<|i+1)}{a98:#[bm,ob,b1,b2,hbG,hbP,I.bk _ _ b3,b4,b5,b6]}{a99:(qT Bx.K<|jU (Fb Bx.K) Gf (iI aG) (iI aG))}{b0a:(λg=>#[_,1,n,Yz,_,1,Yp,1,_,1,fin rfl rfl])}{b0b:(λu s1 ⟨v,H,a,b,c⟩=>k u s1 v H a b c)}{ke:(.int ķ.length)}{b0e:(.nx ((ε.set j (.ow Ch)).set i (.fz d)))}{ED:(pH s₁.heap H)}{b0g:(!.Attribute o f pos')}{M1:(upd H T (.tup [x,y]))}{b0i:(λr=>not (decide (r.1∈gs.map (·.1))))}{b0j:((J9 _ _<|Ne.symm b2).trans<|k' b o b1 e)}{b0k:(λh' c' kp e=>fin its r' hz h' c' kp e)}{b0l:(.call ĝ #[[.ref x,.str name tk,v],[]])}{b1T:(rawInt<|(i:Int)+1)}{b0n:(·.setIfInBounds 1 b1T)}{b0o:(x * z+dot r v - c * (y * z+dot lead v))}{b0p:(Tn n (js.map λj=>(ε[j]?).join) rt re)}{b0R:(hl ñ s σ H _ I hq)}{b0q:(M8 b0R λv s1 gR=>?_)}{b0r:[some<|uS bs,some<|aY ts,some<|.str b.1]}{b0t:(upd H x (.ins CE dx [("rows",.ref d)]))}{b0u:(Mk.LQ Bq++(bl.take j).map λways=>mr)}{b0w:[aK c S,aV S.Ls,.int m,.int p,.int cell]}{b0x:(λb ps e=>#[[].toArray,by rw[e];simp])}{oJ:(.bl b)}{C7:(.UnaryOp .Not a pos)}{b0C:(M8 (hc ñ s σ H _ I h) λd s1 gR=>?_)}{zh:(.If c a b pos)}{jX:(M8 Ń λv s1 gR=>?_)}{b0J:(!.Name x pos')}{v6:#[xs,xs[i],q,by simp]}{b0L:(binaryOp .Add)}{g7:(vs++dvs)}{b0N:(λc v' hc q=>in1 c v' q vD (.inr ?_))}{wY:(x - c * y % p)}{vX:(.rt d)}{xb:(wpAny_rule ?_)}{AX:(l.map λx=>rw (g x))}{YZ:(pN 3 ND)}{rD:(My.bk p)}{b00:(λ_ _ _ _ _=>bW<|WA fB (Đ 0) (Đ 1))}{zJ:[t.2.2.1]}{Yt:(dG T.Ma<|Đ 3)}{lI:(dG T.Ma<|Đ 4)}{EE:(S.UU x y d)}{BN:[("default",d)]}{b06:(JU ho rfl ?_ (by rw[Ik,Ir];lia)<|HP _)}{b07:(xH X A ğ scope N' P7 f (.ref c') s H)}{Bl:#[ps,[],(0)]}{yw:(fi / 42+(i:Int) * i)}{b1a:(∀ msg∈msgs,msg.length=m/\Vw p msg)}{EF:(λ_ q=>q)}{z8:(.str x)}{b1e:(M8 (ha ñ s σ H Q I h) λc s1 e=>?_)}{b1f:(ho ñ s2 σ H2 x y v u _ I2 r1 r2 q2)}{EY:(fE false)}{DX:(.int 0)}{sY:(k,bN S x)}{wT:(HK _ _)}{b1l:#[#[#[1,#[#[3],#[UJ]],1],by simp,1],1]}{oN:(top 86)}{b1n:["field","mixed","told","rows","many"]}{b1o:["field","judgement","into","carries"]}{b1p:(λLz A outer s H vs Q E a1C hr h=>?_)}{b1q:((R.zipIdx.take i).map<|vH R m p cell)}{b1r:(Z7 ((dc gs.zipIdx msgs L rb).map Yw))}{Za:(.Attribute e f pos)}{wC:(without p r lead q)}{b1u:(∀ x H',f' H H'->DR ŏ d x->Q x H')}{b1v:(∀ z H',f' H H'->DR ŏ d z->Q z H')}{b1w:["field","rows","start","at","place"]}{zj:(dT c4s b0X (Đ 1) SA)}{b1y:#[wg,1,.k rfl kI (by rw[fV,hu];rfl)]}{xU:(List.replicate n 0)}{b1A:(λy=>if y=name then some v else m y)}{b1B:(λa ha=>nomatch ha)}{b1C:[.ref ea,.int (a.2.1:Nat),.int a.2.2]}{b1D:#[_,Jv XJ λ_=>(arrOf st).map (·.2)]}{l4:(dO bQ NR (Đ 0) dI)}{b1F:(∀ ps,o≠.tbl ps)}{yv:(neC b o e hx)}{Ah:(grow F0 H0 H)}{yf:(BL X (tP rd))}{AJ:["row","many"]}{OL:(pv 5)}{b1M:[some<|bA t,some<|.str x,some<|cf U]}{nK:(da (Đ 7) LB)}{b1O:((HR.mp wn).2.2 x.1 ė x.1<|by simp)}{mZ:(λ_ _=>False)}{b1Q:[(kS,seqObj "list" [].toArray 0),b4S]}{b1R:(some x::js.map λj=>(σ[j]?).join)}{b1S:(λc w' P5 z=>hk c w' (λz2=>?_) z)}{rK:(S.step e1)}{b1V:(I2.LJ.fresh<|Hi _)}{GC:(ð.map pK)}{b1X:(h3.go S λx H1 F1 e1 u1 S1 q1=>?_)}{CA:[.int z.1,.int z.2]}{ZO:(by simpa using hm)}{b11:(λ_ _ _ _ _=>bW<|WA fB œ (Đ 1))}{Fm:(ç.take i)}{b14:(bL c1t rfl T.Ma boot_len<|a9 KK K')}{AY:(LA x)}{b15:(kf x,V.ref AY)}{b16:(some v::js.map λj=>(σ[j]?).join)}{b17:(tryCatch (pyNext<|.ref I) _ >>= _)}{b18:((c / 2+7919) * 48271 % 2147483647)}{b2a:(λx y H Q=>r x y H Q\/r' x y H Q)}{b2b:#[2,.l .lst<|Led (i:=0) (x:=u) rfl]}{b2d:(qr<|YA (dT bn cF œ<|Đ 1) œ SA)}{b2e:(ksk_tail a false e1 (.ref kS) st)}{b2f:((("h":Str)::NT.take i).map V.str)}{pP:(.inr x)}{vB:(List jr×V)}{wD:(compareOp .NotEq)}{jk:(.type T)}{oW:(.ref p)}{Si:(kv.1,v)}{b2n:(λi v=>(es[i]?).map (·.key)=!v)}{jW:(c.of k)}{jA:(bk (e ħ q))}{uR:(Pr R)}{xf:(pJ K n)}{iA:(ε.set i (.ow d))}{uI:(.int j)}{QJ:#[_,1,?_]}{qq:#[ķ,kv,s _ _ h,y]}{g9:(.inr #[o,1])}{yA:(l.map g)}{FO:#[_,_,#[3],iF _ _]}{Fx:(ag Ak aI)}{b2z:(bX Bx.K rfl<|ag CB Fx)}{b2A:(.lst<|List.map _ (List.map _ _))}{b2B:(not (decide (c.of p.2=c.house)))}{wB:(by simp[hy])}{oB:(Sum.inr p.1)}{b2E:(∀ p∈S.Lv,p.1=y->SY p.2=true)}{b2F:(bX Bx.K rfl<|ag lJ (ag CB aI))}{rJ:(ws++[t])}{wo:(nums ws)}{b2I:["ties","home","listener","many"]}{b2J:(R1 p mixed A s n)}{zK:(mixed.map f)}{Bt:(0,none)}{b2M:(bX Bx.K rfl<|ag Fw (ag lJ aI))}{vw:#[#[#[2],p1,hP,1]]}{b2Q:(pD fB Gk<|pI (z4 Bx.K) wI aG)}{b2R:#[han,by simp,λb hb b' QT e=>?_]}{l7:(sF.trans e1)}{FU:(pv 6)}{b2U:(pI Ś d8<|pv 10)}{AC:(Mk.Mh m r.2)}{DI:(look bs d.1=!d.2)}{b2X:[aK c S,bc ř,.int m,.int p,.non]}{gc:(.inr g,J g)}{b2Y:(MP (S.LW.map λg=>gc))}{jI:[.str "alike",x,y]}{b20:(λl A=>xX c aC l A\/io c aS l A)}{b21:#[xs.length - (i+1),#[],1,NI,p']}{b22:(λi h=>h.IsStrIter it ty x t i)}{b23:(λε=>∃ o,ε=[.fz _,.fz _,o])}{b24:#[2,.k rfl kS (by rw[eY,z];rfl)]}{b25:["value","step","field","often"]}{b26:[(a,seqObj "list" vs.toArray n)]}{b27:(xH X A ğ scope N' cl f cd s H)}{EI:(λx=>x.1.isSome)}{u8:(λx1 x2=>x1++x2)}{DU:(λ_ _ q=>GW _ q)}{b3c:(∀ xs,LS K H a xs->xs[i]?=!x)}{b3d:(.Assign [.Name x pos'] a0K WR)}{rT:(tP (rO f ra rb))}{EX:(xs.map some++cs)}{BC:(os.filterMap id)}{b3h:(KA Oj.typeIs ?_)}{FI:(qr SA)}{Ap:(My.TB hP)}{Bs:#[#[3],by simp,1]}{zY:(aD<|Đ 5)}{zt:(ME hr (Đ 4) dI)}{b3n:#[hx,hm.1,hm.2.1]}{su:(hs t' Tt)}{yT:(g p b)}{FE:(Hw _ rfl)}{l8:(ME hr (Đ 1) dI)}{g8:(.tbl [].toArray)}{b3t:(aE<|bd Gk Nb hr.m (a9 ji K'))}{zX:[.ref aC,.ref aS]}{b3v:(λa b h e=>h<|Int.ofNat.inj e)}{b3w:(QR _ _ d)}{b3x:(.BoolOp .Or (a::b::rest) pos)}{b3y:(W.instObj C s.heap.objs.size)}{b3z:(I.type.here<|GQ (hm.here ?_))}{zy:(mW n)}{jB:(tQ F0 H0 r)}{qY:(kv.1=y)}{b3C:(ð.any λkv=>decide qY)}{b3D:["field","row","lead","place"]}{DA:(.f DL rfl)}{b3F:(s.1++[(z,!(t.1,x))],s.2++[z])}{Co:(dq L g N h)}{sP:(bb S.Ls fo)}{FJ:(n8 a b x q)}{Zc:(uU ch)}{b3L:(λb ch=>nums.foldl Zc b)}{WF:[x',.ref rd]}{b3N:(xF LX hr.m rfl<|da (Đ 3) LB)}{wZ:(p.getD a 0)}{CG:(p.getD b 0)}{kn:((a,o)::own)}{b3S:[(kS,seqObj "list" keys e),b4S]}{sW:#[[],H,I,.nil,h]}{nv:(.cons rfl .nil)}{b3V:(.Call (.Name x p) [] [] pos)}{uT:(.int ys.length)}{b3X:(call (.ref fI) (.ref e::us))}{b3Z:(GQ (wpAny_dictEpoch a b ?_))}{zo:(λl=>R (l++dl))}{Gv:(l.map λx=>Zw)}{mi:(.inl (f x),g x)}{b33:(cS 1 [0] ["number","field"])}{ER:#[#[3],TgD _ _ _]}{b35:((pm.map _).nodup_iff.mpr nd)}{Dy:(qo 2 ND<|de LB)}{b37:["message","mixed","carries"]}{b38:["net","plan","many","prime"]}{At:["names","ties"]}{b4a:(e,w0,l.getLast?.getD<|st w0)}{b4b:(ch.getD (ch.length - 1) 0<n)}{xT:(t.1,bN S t.2.1)}{vR:(Tm.R.getD c [])}{sS:(Mk.Oq p ê r.1)}{b4f:(GR<|show j<ns.length by lia)}{b4g:(Vo _ _ λh' tk vs hk hv=>?_)}{b4h:((if_neg c0).trans<|if_neg c)}{iS:(rB msgs L rd g)}{FD:#[KM::ps,[],(0)]}{iB:(.inl k)}{b4l:#[xs.length,by simp,HP _,h0]}{vi:#[_,e,1]}{uo:(.ref d)}{b4p:(wpAny_setField u1 u3 ė ?_)}{sQ:[.int n]}{kO:(·<=·)}{oO:(.ref b)}{b4s:(λb H'=>Y6 X Q oO H')}{oU:(MQ p t m)}{b4u:(Mx.Me p kU oU m u)}{Aw:(c,ways)}{b4w:(dG T.Ma<|fe (Đ 0) Lu hr.m)}{b4x:(qT Bx.K<|fe (Đ 0) Ly hr.m)}{nN:(Hh _ z)}{b4z:(HN (HD (I'.pin r UZ).1) hz)}{og:(HD e)}{uY:(neL b o e)}{b4C:(.BoolOp .Or (b::rest) pos)}{GF:(mH te lW)}{Kz:(pyNext Ix)}{lR:(compareOp .In)}{b4G:(upd H5 l (.lst (ys++[v])))}{w8:(.ref ea)}{b4I:(Heap.get?_push_at rfl rfl)}{b4J:(cleared p bk ř start a q)}{lY:(NJ p u rest _)}{qB:(Ne.symm c)}{iE:(rF R rs)}{we:(ao S.le)}{B2:(S.grow e1)}{Ba:(by kernel_rfl)}{sd:(Ni a o' F)}{An:(MP (ic [] ð))}{nQ:(.mk hl h1)}{Ea:[fD C p,.int n]}{Pl:(x.1=k)}{Au:(.f rd rfl)}{wQ:(red p t i)}{EV:(dG T.Ma<|Đ 1)}{qm:[aK c S,.str x]}{rZ:(t.2.1=x)}{nL:(lF nm)}{ZP:(gI ts x)}{b43:#[_,1,#[wg,1,ky],λ_=>rfl]}{oM:(T.P.getD e [])}{b45:(Oq p ê k)}{b46:((ç.take i).map<|c9 S N m)}{oS:(ar (top 16) 0)}{jE:(ar (top 15) 0)}{b49:#[1,_,LS.of UL]}{b5b:(∀ a,a<l->lt k Z9=false)}{b5c:(λi=>vs.getD i Value.none)}{b5d:[(kS,seqObj "list" kA e),_]}{b5e:(Nat.lt_of_lt_of_eq this z)}{b5f:(Hg (wpAny_evalAll_nil ?_))}{E8:[.non]}{b5h:(mj rfl rfl<|by kernel_rfl)}{Ai:(Sg<|f'.refl _)}{b5j:#[aj h hn,aj h p2,aj h tl0]}{wR:(λg=>?_)}{qJ:(vy S p ř msg)}{tV:["_law_script"]}{vA:(.ref CN)}{b5p:(λv H2=>v=.non/\Q qe H2)}{b5q:(dot r v - c * dot lead v)}{b5r:(λvs H Q E h=>(t.ok h).1)}{b5s:(.Compare a [.In] [b] pos)}{b5t:["ties","home","listener"]}{b5u:["used","came","listener"]}{b5v:["home","touching","used"]}{b5w:["field","values","steps"]}{b5x:(da (Đ 0)<|da (Đ 1) FH)}{b5y:[(Sum.inl S.next,.ref tp)]}{b5z:(HE (by rw[Hl];omega) htz)}{b5A:(seqItems? (.ref S) >>= _)}{b5B:#[_,Jv nk λ_=>[].toArray]}{b5C:(S.sub g1 λp hp=>Hk _ hp)}{b5D:#[_,Jv ho λ_=>[].toArray]}{Fy:(TP X ñ σ Q)}{Bu:(AP X ñ σ Q)}{b5G:(letOwnedTupleGo tg Ix u)}{mh:(by rw[hs,U5])}{b5I:#[#[xs,q,Hi _],hd σ H p]}{ik:(.type "bool")}{Cu:(λx=>not x.1)}{b5L:(k * x % p * y+dot EZ v)}{b5M:(z7 K is.length (gNs is))}{Fd:(L2.Ni a o' F)}{fR:(L2.Ni a o' H)}{mM:(xs.foldl g b)}{b5Q:(da (Đ 0)<|da (Đ 3) Ŕ)}{ve:(List.range m)}{b5S:(da (Đ 4)<|da (Đ 2) LB)}{b5T:(da (Đ 0)<|da (Đ 1) Ŕ)}{b5U:(da (Đ 1)<|da (Đ 2) LB)}{b5V:(da (Đ 0)<|da (Đ 3) LB)}{b5W:(hk▸rNs (if_pos rfl) p2)}{Ao:(Mk.Mi ê r.1)}{FK:(argBest bt j)}{b5Z:(K4 g2 rfl ?_)}{b50:(numAt xs i > numAt xs j)}{b51:(∀ v,o'.data≠.cell v)}{b52:[(D,seqObj "list" out c)]}{b53:(Lo ?_ (by rw[Ir];omega))}{b54:(pS 2 ND<|b2h TQ hr.m rfl)}{b55:#[Ln,_,1,h,fC λ_ _=>rfl]}{b56:(pI Ś d8<|cr i8 OL aG)}{tW:(List.range n)}{b58:(some [.int 1 t].toArray)}{b6a:(I.base.free b o e n hx)}{b6c:(∀ b∈fp,jL X ñ H b)}{b6d:(dE I hg hm hv ?_ hn OO)}{qf:(by grind)}{yQ:[.int i,x]}{b6g:(pJ X.K n)}{xh:(Xz false)}{b6i:(PySem.evalArgs_none ?_)}{b6j:(!.ref s.heap.objs.size)}{nu:(t.map rw)}{b6l:(pS i hN he hi hx hs hf)}{b6m:["field","row","number"]}{b6n:["rows","start","place"]}{jH:(rV 0)}{wS:(aD<|Đ 2)}{E6:(rV 1)}{b6s:#[1,#[_,1],by decide,hb]}{b6t:#[_,#[2],#[5],by simp,1]}{b6u:((.inr y:jr),D.bl true)}{b6v:(∀ x∈ns,x∈S.names)}{b6w:["field","row","length"]}{b6x:(cI p rs fo Ő many m.1)}{VH:[(h,none)]}{b6z:#[x,by simp,by simp[NK]]}{b6A:#[m,hm,#[2],(bK m).symm]}{b6B:["field","mixed","asks"]}{b6C:[.lst xs,.str z,.lst ys]}{oq:(OS K H k)}{b6E:(∀ v,o.data≠.cell v)}{b6F:(listItems_at nk rfl ?_)}{b6G:(listItems_at ho rfl ?_)}{b6H:(seqEpoch_at ho1 rfl ?_)}{b6I:(bZ h hN λz=>nomatch z)}{b6J:(bZ h ht λz=>nomatch z)}{b6K:[n,.int m,.int p,.int 0]}{qG:(fs.lookup f)}{b6M:(.Constant .none j pos)}{Cr:(2 ^ 62)}{b6O:(.ins C dx (lq f y fs))}{b6P:(call Ci us)}{GB:(upd H l nG)}{EO:[.int i]}{FW:(I.Sz BU hT)}{Dz:(.int ns.sum)}{b6U:(.type "BaseException")}{F9:(.dK [])}{b6W:#[CO,pl.isList.push _]}{Kj:#[o,ho,hx,R7]}{AA:(ε.set i !d)}{b6Z:(merged [] (ps.take i))}{rP:(MP ð)}{ip:(hd.ok I1.LJ)}{DE:#[e1,q1]}{Fr:(.type "zip")}{Gn:#[ε,.done,h]}{uX:(ps++N)}{GA:(V2 OH<|Đ 0)}{b68:(λq=>not (decide ly))}{b69:(aD<|fe (Đ 0) Mc hr.m)}{iD:(aq a2E)}{lB:#[_,_,3]}{b7c:#[#[2],#[ho,hn,hl,#[]]]}{sg:(Đ 10)}{b7e:(((x:Int) * v+s) % p=0)}{b7f:(by simp[hr.subset hx])}{W3:(st w,Lw m w)}{B6:(top 94)}{b7i:(dT gL eA (Đ 2)<|Đ 7)}{b7j:(bi p ř msg fo Bn [])}{b7k:((.inr b.1:jr),aY b.2)}{b7l:(grow F H G')}{b7m:(Int×Mk.Ask)}{b7n:(λa b RX hb=>by omega)}{b7o:((arrOf st).map (·.2))}{b7p:(seqEpoch_at XJ rfl ?_)}{b7q:(λp q1 q2=>#[1,q1,q2])}{b7r:(dT gL eA (Đ 8)<|Đ 9)}{b7s:((PL.take j).map V.str)}{b7t:(.Slice lo hi none p2)}{b7u:(M8 DJ λv s1 gR=>?_)}{b7v:(upd H d (.frz o Ax))}{b7w:("kept_posts",.ref dp)}{b7x:(if i=j then 1 else 0)}{b7y:#[c,q,by rw[if_neg c]]}{b7z:#[F,ε,f,S.N0 e1,h2,p]}{b7A:(merged []<|ps.take i)}{b7B:(λi=>bs.getD i false)}{b7C:[fD C p,.int a,.int b]}{b7D:#[h1,h3,by show⟨⟩]}{b7E:(λt ht=>(HB.mp ht).1)}{b7F:(λv x=>(o * v+x) % p)}{b7G:(List.range vs.length)}{b7H:(List.range xs.length)}{b7I:(Ti (i5 K) (cu jo) t1)}{b7J:(Ti (i5 K) (cu jo) t2)}{b7K:(("h":Str)::NT.take m)}{b7L:((cv cell 4).getD 2 0)}{b7M:(("h":Str)::PL.take j)}{b7N:(some [.none].toArray)}{b7O:(storeName X.env x u)}{yI:(cu i)}{qN:#[v,H,I,r,h]}{b7R:(.Constant z8 j pos)}{b7S:(M8 Ŏ λc s1 gR=>?_)}{b7T:(M8 Ŏ λv s1 gR=>?_)}{Cy:(.lst xs)}{b7V:((k==i) || decide vJ)}{b7W:(∃ xs,LS K H1 a xs)}{b7X:(intBits_le_64 h1 h2)}{yL:(I.tok _)}{b70:(∀ v,(x,v)∉binds)}{sy:(Vq x)}{b72:(.Call a4W sI [] MB)}{b73:(.Pass ⟨0,0,0,0⟩)}{yp:(kV k)}{b75:(Kq ?_<|by size_fits)}{b76:(λh=>hb<|by simp[h])}{b77:(hd.ok I.LJ)}{b78:(.Name "enumerate" p)}{b79:("kept_ties",.ref dt)}{b8a:(without p ņ lead k)}{vZ:(ř.map sj)}{jy:(m+t.length)}{CC:(col t j)}{gA:(NJ p u l v)}{b8g:(List.range' 0 (n+1))}{wJ:(h F0 H0)}{b8i:(getAttr? EH "keys")}{b8j:(.lst (U3.map V.int))}{mX:(.ins C n l)}{b8l:#[#[vs,da.dictOf],?_]}{On:(fin ε' h2)}{wc:#[ha,hb,L4]}{AE:(.t rd #[2])}{z6:(pN 2 ND)}{vj:(rV 3)}{DO:(red p ň m)}{b8s:#[2,by decide,⟨⟩]}{b8t:(.bl (decide (i<=j)))}{nC:(pv 8)}{b8v:#[2,by decide,#[#[]]]}{yX:(flip U t.1)}{EG:(s.1++[GG])}{qH:(z∈keys c)}{b8z:(gO Ũ N U (cL Ũ g))}{b8A:["tie","name","used"]}{Ey:(rV 4)}{Gy:(st w)}{b8D:(stN p m ç ê ord n)}{wX:(L++[(k,a)])}{b8F:#[#[#[2,uQ],1,.i],1]}{b8G:((B a).getD a.2.1 [])}{Gz:["value"]}{lK:(pN 4 ND)}{b8J:(.int<|Mx.LV p ŝ Ŵ)}{b8K:(LC.trans<|aM sF e2G)}{DH:(LA k)}{b8M:(upd G5 Tz<|.tup WF)}{F7:(g p<|n - 1)}{b8O:[.ref I,.none,.ref S]}{b8P:(Sum.inr.inj h2▸h1)}{b8Q:(∀ p∈own,p.1≠a)}{b8R:(λi j C hi hj q=>?_)}{b8S:(·.push (.int k t2))}{ja:(sv x js σ)}{b8U:(Hh _<|HG _ (hs q z))}{b8W:[y * XV % 2147483647]}{b8X:(Ti Bg (cu 3)<|cu 8)}{b8Y:(Ti Bg (cu 3)<|cu 9)}{ui:(.ref CE)}{b80:(h ñ s σ H _ I hw)}{b81:(hl ñ s σ H _ I h)}{b82:(false,eval a X.env)}{b83:(false,eval b X.env)}{b84:(.bl (decide (x=y)))}{b85:(I2.Xr.make C us [])}{b86:(.lst (n5 xs lo hi))}{b87:(.Call a4W [] [] MB)}{b88:#[oc,od,.func Ģ,Nv]}{b89:(by simpa using ew1)}{b9a:(ForInStep.yield ok)}{b9b:(upd H1 l (.lst []))}{b9c:[s.heap.objs.size,p]}{b9d:#[c,_,1,z,p2.mono e]}{b9e:(.bl (decide (j<i)))}{b9f:(.bl (decide (i<j)))}{b9g:(dT bn cF (Đ 4) dI)}{b9h:(ME hr (Đ 1)<|Đ 3)}{b9i:(List.replicate m 0)}{b9j:(ME hr (Đ 1)<|Đ 0)}{b9k:["number","carries"]}{b9l:(dT b8C b31 (Đ 4) SA)}{b9m:(ME hr (Đ 2)<|Đ 6)}{b9n:["chosen","numbers"]}{b9o:(λx hx=>nomatch hx)}{b9p:(λ_ _=>Sum.inr.inj)}{b9q:(l.map λ_=>(0:Int))}{b9r:(upd G Tz<|.tup rq)}{b9s:(upd G Tq<|.tup yo)}{b9t:(argBest bt (n - 1))}{b9u:(∀ p∈Vb,p∈own)}{b9v:(ksk_tree a f false)}{b9w:#[oc,od,.func Ę,Nv]}{xR:(upd H x o)}{b9y:(by simpa using hu)}{b9z:(.BinOp a op b pos)}{b9A:(ForInStep.yield r)}{b9B:(.inl<|by cbv)}{oK:(X.ZQ pn W)}{b9D:(X.more ñ)}{vY:(kr ry)}{uM:(upd H d v)}{b9G:((t+a * b % p) % p)}{b9I:(tP (rO Sub ra rb))}{P0:(ð.map pr)}{b9K:(iD2 X Itv (tP rd))}{As:[MP ð]}{b9M:(by simpa using hn)}{b9N:(cS 1 [] ["place"])}{AW:#[#[0]]}{WS:(ts.map bA)}{b9Q:(Pr (qy c NS.into))}{b9R:(b.1++zJ,b.2++zJ)}{xr:(ns.take i)}{pB:(Mi ê x.1)}{Ay:(cJ c C Rm)}{b9X:(XY (N.mono e1).dr)}{wK:(N.mono e1)}{XL:(a9 wI K')}{b90:(∀ x∈xs,x∈ys)}{b91:(t.1,t.2.1,t.2.2.1)}{b92:(λt ht=>(eI ht).1)}{mT:(ar Ae 17)}{gx:(Sum.inl k)}{b95:(upd G dx<|.own ea)}{tE:(g p n)}{b97:(λv _=>v=.bl true)}{xS:#[2,#[Gj]]}{b99:[(NT.getD i "",kd)]}{uh:((u:Int)<v)}{Br:(cv a5N 13)}{c0c:(ay Pt<|upd G d b3e)}{sR:(IL _)}{c0e:(e1.trans e2.symm)}{c0f:(.IfExp c a b pos)}{c0g:(.Return (!e) pos)}{xI:(ZJ K a)}{c0i:(call xy (v::us))}{c0j:(its.toArray.size)}{c0k:(compareOp .NotIn)}{c0l:(ns.map WData.int)}{c0m:(.Tuple es x1 pos)}{zm:#[?_,?_]}{tT:(λ_=>E)}{mL:(.ref e)}{tJ:(.ok ū)}{c0r:(storeTaker? attr)}{c0t:[s.heap.objs.size]}{AT:(.nx ε)}{jC:(.tup l)}{Pi:(.lst m)}{c0x:(call SL [.ref l])}{c0A:(Lh hz rfl rfl ?_)}{rW:(.int k)}{c0C:[.Return (!e) pos]}{c0D:#[1,.lst,1,#[1],1]}{c0E:(a18<|V2 LK (Đ 0))}{B7:(y∈ts)}{jd:(rV 2)}{c0H:(eZ rfl)}{c0I:["field","number"]}{c0J:#[2,.k (gS h1) kI]}{c0K:#[#[#[2],hp,hP,1]]}{c0L:(T.R.getD LY.1 [])}{c0M:(A.map<|xV CE R B)}{c0N:(UW _ _)}{c0O:(bb S.Ls<|some ks)}{EJ:(top 25)}{c0Q:(kf p.1,V.ref p.2)}{Sk:(pv 9)}{tR:(pv 7)}{c0T:(ag (pN 13 ND) aI)}{c0U:(look bs c.1=!c.2)}{c0V:[.str "alike",a,b]}{sr:(.ref D)}{c0X:#[_,S.get g1 Ha,1]}{oQ:(.ref c)}{c0Z:(.inr (a4 _ Ha).1)}{c00:(x / 1009+69621+k)}{c01:(pI Ś d8<|pv 11)}{c02:(Ti Bg (cu 4) t1)}{c03:(Ti Bg (cu 4) t2)}{c04:(pI (z4 K) EB aG)}{c05:(gs.zipIdx.take i)}{c06:((.inr x:jr),L x)}{c07:(.Tuple es k pos)}{c08:(.int sx s.toks)}{c09:(gw I q<|by simp)}{c1a:(λb u q=>GW _ q)}{c1b:(hb s us I.Oy hl)}{c1c:(hr.make C us [])}{YX:(!(k:Int))}{c1e:(λ_ _ _ _ _=>hc)}{oy:(numAt xs)}{c1g:(setAttr w8 f u)}{c1h:(.dK (eS ķ k v))}{c1i:(.Dict [] [] pos)}{c1j:#[1,λa03 Q1=>?_]}{om:(r.take m)}{mF:(joined t)}{Dc:(Option D)}{c1n:#[_,GR NI]}{c1o:(rMe C m R ra rs)}{c1p:(NP.or b64<|c1u hu)}{c1q:(ME hr (Đ 5) dI)}{c1r:(Pr (qy c NS.O1))}{c1s:["begins","told"]}{w6:#[1,yS.m]}{vg:(ar a6A 0)}{c1v:#[#[2],W.p1,hP,1]}{v8:(bG Ő ř)}{c1x:["number","rows"]}{c1y:(.inl k,.bl true)}{v3:#[#[4],so]}{c1A:(mixed.map (s a))}{jv:(st a.2.1)}{c1C:(T.P.getD a.1 [])}{UX:(x.2,ways)}{c1E:[.ref C1,.ref C2]}{c1G:(.xd ((f,y)::fs))}{c1H:(cS 1 [] ["tie"])}{gq:(ar Ae 5)}{Cz:(ar Ae 2)}{yW:(ar Ae 3)}{mD:(ar Ae 1)}{zA:(ar Ae 6)}{c1N:(LA t.2.1)}{c1O:(bx uO ho g N m)}{c1P:(nm.map λx=>b15)}{dA:(ar oN 0)}{uL:(ar oN 2)}{xO:(pN 12 ND)}{c1T:["key","default"]}{c1U:(λb u e=>GW _ e)}{zO:(bO td jc)}{c1W:(pI Ś d8<|pv 5)}{c1X:#[F,l,A,s,h1,z,q]}{c1Y:[.ref Ut,.ref W7]}{c1Z:(λq=>nomatch q)}{c10:(binaryOp .Mult)}{c11:(.inl<|by grind)}{c12:#[.ref C::us,[]]}{c13:[.str name tk,v]}{c14:(GQ (Li a b ?_))}{c15:(I1.LJ.fresh le)}{c16:(x.map (· * k))}{c17:#[r0,h1,h2.symm]}{c18:(R.sh.fit _ hmi)}{c19:(l.map some++cs)}{c2a:#[1,vs,LS.of p4]}{c2b:(.Name "dict" p)}{c2c:(bO (tC DX) jc)}{c2d:(.frz o<|.dK ķ)}{c2e:(Mx.e Zf q≠0)}{c2f:["ties","start"]}{c2g:(inc msg cs m.2)}{c2h:(c.map λq=>a9Z)}{c2i:["net","fallen"]}{c2j:(qo 4 ND<|de LB)}{c2k:(λk a=>zM % p)}{c2l:(mixed.map<|s b)}{c2m:(Vf p mixed A s)}{c2n:(qo 6 ND<|de LB)}{c2o:[(S.next,x,y,d)]}{c2p:(Sum.inl S.next)}{c2q:(tb (Mx.ones m))}{c2r:(pS 6 ND<|cP K')}{c2s:[.int w,.ref wy]}{c2t:[V.int<|Mk.st w]}{c2u:(grow ue H1 H2)}{c2v:(ord.getD i Bt)}{c2w:(hf.mono<|ao sF)}{c2x:(λt=>decide W1)}{c2y:(Sw _ _ _ _ _ _)}{c2z:(λ_ _ _=>False)}{c2A:#[h1,h2,λb=>?_]}{c2B:(dO b7 NR No dI)}{c2C:(λ_ _ _ _ q=>q)}(ZL:[h1,h2])(Ew:[?_,?_,?_,?_,?_,?_,?_,?_])(jY:[_,_,_,_])(BY:[_,_,_])(Az:[kV,doc,pm,an,Lz,ct,oc,od,Nv,tc,td,n,SR])(rH:[kV,doc,pm,an,Lz,ct])(pY:[none,none,none,none])(m8:[H1,I1,r1,q1])(lv:[s1.heap.objs.size,yB,_,_,H1,1,I1.kept λb o e=>GW _ e])(wW:[f0,f1,f2,f3,f4,f5])(c2N:[H',I',j,a1,a2,a3,a4])(nJ:[1,by decide])(ZG:[F,ε,f,S,h,p])(Pk:[o,es,ep])(wG:[_,_,1])(yk:[p1,p2,p3])(m9:[.int lo t,.int hi u,.int 1 v])(iC:[a,vs,1,p1,p2])(c2V:[λb o q n hb hx=>?_,λb o q n hb hx=>?_,λb o q n hx=>?_,λb o q hx=>?_,λb xs q=>?_,λb o u q=>?_,λb ps q=>?_])(vk:["one","other","delay"])(kx:[.ref s.heap.objs.size,_])(c2Y:[!v,!.int (m:Int),!.ref fa,!.ref rb,!.ref ls,!.ref d])(v7:[Pj,λb hb=>(hf b hb).1])(EA:[a1,a2,a3])(lC:[es,ep])(ju:[_,1,n,dx,_,1,h1,1,_,1,pr a61 b3n λ_ H1 e1 _=>?_])(kN:[_,1,ue,_,_,bH,XY (d:=.int m) rfl])(c24:[1,Walks.list (A:=X.A.in1) ļ _ p hpn its.toArray,b6W,λi v s' Q' E' hv hQ=>?_,λh' tk hk=>?_])(c25:[x,H1,I1])(YW:[H1,I1])(oh:[f1,f2,f3])(c28:[_,_,2,_,_,2,_,_])(EC:[_,1,n,dx,_,1,e1 _ _ h1,1])(zP:["net","many"])(mJ:[its,rv,p,hz])(c3c:[_,b Lz A outer s H E hr F H,F,_,C,jD N s1 hl,(t l C hR).2,λ_ od H' e=>q od H' e])(AU:[h3,h4])(mU:[?_,?_])(c3f:[I.ok.frames,I.ok.VE,I.ok.exf,I.ok.bs,I.ok.Ww,I.ok.UH,I.ok.Wu,I.ok.Qa,I.ok.XW])(gQ:[1,_,1])(c3h:[I.ok.mod,I.ok.kind,I.ok.glob,I.ok.blt,I.ok.above,I.ok.inj,I.ok.has,I.ok.cab])(c3i:[_,b Lz A outer s H E hr F H])(Dl:[a,vs,1])(gV:[F.binds hb,ok f fd F])(c3l:[B.P8,λx hx=>B.done x (by let:=B.ks;rw[HF]at this;rw[<- this];show hx)])(yi:[_,_,2,_])(c3n:[Oj.typeIs,F.args_dict_init_2 _ _,?_])(rj:[v,ws,1])(eV:[σ',H',Inv.U2 I.ok I'.Nj])(tj:[F,ε,d,S])(c3r:["_law_listeners","_law_late_here","_law_reads","_law_messages"])(vz:[#[dx,h1],#[kp,h2,p2],#[kt,h3,p3]])(D3:[_,_,2])(EL:[F,ε])(lX:[1,(by change 0<=sizeLine;decide)])(c3w:[I.os,I.bare,I.base,I.loc,I.cell,I.free,I.Nf,I.pin,I.LJ,I.len])(Ex:[its,rv])(zV:[dx,_,1])(c3z:[λi m σ H=>m=xs.length - i/\i<=xs.length/\Pv i σ H,b4l,?_])(Td:[o5,o6,o7,o8])(mK:[q1,q2,q3])(fT:[z,hd,vs,rel,dd])(c3D:[λx H1=>f' H H1/\DR _ _ x,tP.go S.z h1 λx H1 e1 _ q1=>DE])(Db:[z,its,n,r])(Zb:[by simp,1])(c3G:[List.range vs.length,List.Perm.refl _,?_,λa b RX hb=>?_])(j7:[H,I.tok _,#[_,1]])(iY:[aK c S,bc ř,.int many,.int p])(c3J:[λj c q=>?_,λj c q=>?_,λj k c e b n q1 q2 z1 z2=>?_])(ZE:[_,1,n,c.Mg,dx])(C8:[IB X G a,kp,λs us QR hl=>?_])(vS:[H2,I2,r2,q2])(wH:[q1,q2])(zC:["net","plan","many","prime"])(c3P:[_,H9,Inv.RT I.ok I9])(c3Q:[n,dp,dt,S,x,1,N,hx,hz,hm,q2])(Eo:[aK c S,bc ř])(vN:[H2,I2])(c3T:["_law_cell","_law_script"])(ie:[1,I2.kept λb o e=>GW _ e])(AS:[ZL,AU])(c3W:[oc,od,rH,Nv,1,lk,RM])(Lf:[ZL,h3])(uf:[Pk,ho,r])(c3Z:[rj,#[a,ķ,1,yk],1])(nZ:[z,lo,vs,r,ob,lC,ho,c1,c2,c3,c4,c5])(c31:[z,lo,vs,rel,Pk,ho,hx,R7,hk,hp,Zj])(c32:[H3,I3,j3,a1.trans sm.sb,a2.same sm,sm _ _ a3,a4])(c33:[_,1,.inl b49,_,1,ml,D3,UL,MN,put G2 v _ Pu ?_])(c34:[s.heap.objs.size,b9c,c0t,its.toArray.size,_,_])(BR:["field","chosen","found"])(c36:["found","rows_by_choice"])(Es:[!.ref a,!.ref n,!.ref Ln])(c38:["_law_order","_law_k","_law_name","_law_ties"])(zS:[dx,fs,ex])(c4a:[its,r,pl,hz])(c4b:[cls,a0,B,H',od,1,os,bare,u,LJ,VY,hsc,fl,old])(vW:[a,vs,ex,ha,hv])(c4d:[λi d q=>?_,λi d q=>?_])(E4:[OM,OK,Pe,Pb])(c4f:[j,EA,λq hq=>?_])(BS:[oD,esD,epD,hoD,hdD,hcD])(GK:[pl,hz])(ST:[by simp,HP _,#[none,1]])(c4j:[_,gQ,_,1,(by change 3<=sizeLine;decide)])(Bp:[k _ _ ĵ e,c])(jR:[#[0],#[0]])(B4:[λr hr=>?_,λr hr=>?_])(c4n:[EL,.bl c,S,h,λ_ H' e z=>#[c,z,q H' e]])(yR:[rj,#[iC],1])(pA:["number",vk])(mQ:[t,ht,1])(c4r:[c2Y,!.ref ba,!.ref rd,!.ref wa,!.ref ea])(iU:[_,1,n,Yz,_,1,Yp])(wP:[vs,r,da,hl])(c4u:[da.dictOf.typeIs,λa e2=>?_,JO rfl b6i])(c4v:[rawInt pos.line,rawInt pos.col,.ref c'])(c4w:[a,vs,q1,e _ _ q2 nofun,LO.nt e l vs q3])(sV:[g1,g2])(uC:[Value.ref C1,.ref C2])(t6:[t1,t2,t3,t4,t5])(BZ:[_,#[2]])(c4B:[ZL,#[u,v,h3],h4,h5])(vV:[q1,e _ _ q2])(fS:[EL,c,S,h,q])(l6:[a,ķ,ex,yk])(Qs:[ε',ZL])(c4G:[xs.length - (i+1),#[],1,NI,#[!x,1]])(Bi:[x,m8])(wv:[.bl _,H,I,1,q])(xP:[i1,i2])(ET:[i,hi,1])(oY:[lead,hl,d])(c4M:[kx,I.laid keep BU ?_,1,q.at Uf])(c4N:[b,vs,q1,c56 h k k' q2 λ_ _=>nofun])(Bz:[b1,b2,b3])(Ds:[o8,o9,he])(DD:[aK c S,.int m])(se:[wG,e1 _ _ h1,O.cn])(c4S:[o,vs,file,tf,flags,tg,inF,text,tt])(c4T:[f,fd,IB X G a,F.kp])(c4U:[λb o q=>?_,by simpa using S.len])(c4V:[⟨⟨rfl,rfl⟩,l1⟩,⟨#[]⟩])(c4W:[.int e.1,.int e.2.1,.int e.2.2.1])(VV:[e1,e2])(kE:[_,Hw _ rfl])(c4Z:[hv,tP.at s q (by rw[b8n hu];rfl)])(ur:[.next k1 k2 h1,h2])(c41:["mine","theirs","field","often"])(oR:[pre,post,e])(c43:[aZ Ě Vl,[],1,Ju,b1B,[],ai,.nil])(c44:[Tz,_,1,NC.of Xk,1,wG,_,[],2,?_])(c45:[F,S,ns,ř,m,p,msgs,L,J,cs,rd,hv])(c46:[λa v e=>?_,λb o e hb hB=>zm])(VG:[hp,g,d,tk,os])(c48:[_,1,?_])(c49:[Pp,r2,pl2,VR])(c5a:[(6),2,show (0:Int)<6 by decide])(Ck:[I.ok,I.os,I.bare])(uH:[H3,I3])(c5d:["self","field","way","number"])(u9:["field","mixing"])(jf:["number","mixed"])(c5g:[h3,tP.at s q (by rw[h4];rfl)])(xw:[o6,o7,he])(c5i:[Vl,e1,as,WD,han,has,vs,Ql,Xe])(c5j:["_law_late_here","_law_name"])(c5k:[.cons #[t,1] .nil,ok f _ tS])(qM:[n,ne,nf,d])(GD:[σ',H'])(vq:[o,e,c,d])(c5o:["_law_net_here","_law_ties"])(v5:[a,yk,vs,p4])(Qt:[ps,k1,k2,k3])(mE:[c28,2,_,_,3])(c5s:[O.fp,gQ,a,c.of p.2,dxa,wG])(rY:[ks,g,_,_,QW])(Fo:[ps,hP,_])(Z':[f,T,t,Az])(c5w:[ox,vs,a0,hx,hc,hd,h0,h1,Wn])(c5x:[a,vs,vV,LO.mono e l vs q3])(Er:[f,fd,cl,hm,b,F])(CJ:[_,gQ])(sJ:["mine","field"])(Y8:[jY,_])(C3:[dy,x,1,ai,1,?_])(c5D:[d,dx,l,a,e _ _ b,c.mono e])(sT:[YW,q1])(c5F:[x::xs,vN,.cons r1 r2,q2])(c5G:[its,r',GK])(yz:[ho,hc,n,hd])(kQ:[f,fd])(c5J:[ķ,k,e,1,l])(Bv:[EL,_,S,h1])(za:[1,#[3]])(c5M:[its,r1,GK])(c5N:[H',I''.MM λq hq=>?_,c4f])(c5O:[H',I1'.MM λq hq=>?_,c4f])(c5P:[vN,hJ H2 sb T2,sb,T2,UO])(Be:[g,d,t,os])(tL:[c25,rx,a])(c5S:[Db,hl,e])(Dt:[Ex,GK])(ZA:[oc,odi,oda,Nv])(c5V:[oc,od,dV,rH,Nv,1,lk,RM])(lx:[a,b,c])(c5X:[c4d,λi j c d a n q=>?_])(xt:["told","name"])(zq:[#[],#[]])(tH:[b,dxb,eb])(A0:[.ref n,.str x])(c52:[_,1,.int i,BY,1,.int i])(Fn:[j,hj,ej])(zp:[d,dx,l,hd,sV])(c55:["_law_one","_law_other"])(p8:[nJ,by decide])(VM:[l,c,kp,d])(c58:[I.free,I.Nf,λp hp=>?_])(c59:[#[o,e,ex.1],λa e2=>?_])(c6a:[_,h1,λv z=>by cases z])(c6b:[dd.typeIs,λb q=>?_,hd])(c6c:[Pk,ne1.keeps _ _ ho,r])(c6d:[Xc,λd H2 e2 h2 hd=>?_])(c6e:[HE I'.sz hz,λr hr=>?_])(c6f:[e,k z λ_ z=>nomatch z])(c6g:[vs,m8])(pZ:[σ7,H7,I7.Ph])(c6i:[u,1,rx])(c6j:[#[old,h1],h2])(gG:[ws,mK])(Q6:[Dl,ha,hv])(BG:[yk,p4])(c6n:[S,h1,λH1 e1=>q H1 e1])(c6o:[λb hb=>?_,q ob H2 fz])(c6p:[R,(0),.done,I.ld,I.MN])(QK:[VV,e3,e4])(uu:[ea,_,ws,1])(c6s:[#[p,p',vs,ws,2,Lf],q])(c6t:[a,vs,q1,q2.nt e nofun])(kJ:[_,2,NC.of hG])(c6v:[cl,m,λs us QR hl=>?_])(c6w:[c,_,1,.inl z,m.1,m.2])(c6x:[F,gs,nl,msgs,L,rb,hv])(Gh:[o,ho,hd])(c6z:[m,hn,hl])(qz:[es',ep'])(xo:[ZL,_])(lP:[z,TI,TO,xP])(c6D:[Pp,YQ,p2,VR])(c6E:[ZL,λ_ hp=>q.at hp])(AQ:[ķ,kv,hd,hx])(Om:[o',e',c',d'])(c6H:[zP,"prime","falls"])(c6I:[q3,LO.mono e l _ q4])(c6J:[F',_,f,S',h2,p.up u])(c6K:[S.a,h1,λH1 e1=>b7z])(c6L:[tj,h,q])(uZ:[fD C p,rw r])(yD:[2,by decide])(c6O:[_,.f rd rfl])(c6P:[.str "alike",rw b9i])(c6Q:[lx,λu hu z hz=>?_])(c6R:["ear","way","ahead"])(c6S:[c3T,"_law_net_here"])(c6T:[kQ,IB X G aC,m,gV])(c6U:[Ht X G RS,Ht X G WI])[c6V:∀(hg:∀ cells C s H fp,PG Ė tg b6g)(ht:∀ cells C s H fp,Q3 Ė ifs Ee)(he:∀ cells C s H fp,PE Ė elt vC)(hs),0][c6W:∀(hb:yU X.K fd ps ds)(hd:Fc dvs ds)(hx:b5Y CX X E),0][c6X:∀(ha:PE X a Kv)(hb:PE X b JS),0][c6Y:∀(vs:π)(H:Hp)(Q:VK),0][c6Z:∀{ts:List (T ν)},0][c60:∀(ha:PE X a ta)(hb:PE X b tb),0][c61:∀(hg:Gl X "sorted")(hm:X.mg "sorted"=none)(L:B3 X P)(S:b2V X scope x js N')(ha:PA X [e] ta)(he:∀ A ğ cl f cd s H,LL k (A.deeper a3U)->PE b27 body te)(Sw)(Xi)(RK:backTo pos xB=ĭ::backTo pos š:=ă),0][c62:∀(hi:X.N[i]?=!x:=ă)(hx:Wp X.env.scope x:=ć)(hs:swapsWith e b0J pos.line X.env=pure false:=ă)(hf),0][c63:∀(S:au N ps jp)(t:Gr N.length ps.length r R)(b:∀ (Lz:Value)(A:Ë)(outer:List Env)(s:Ê)(H:Hp)(E:XK),LL k ĕ->S9 (dH N5 P w K mg base N ğ jp f Lz A outer s H E).Uv yG r),0][c64:∀(N:η)(t)(b:∀ (Lz:Value)(A:Ë)(outer:List Env)(s:Ê)(H:Hp)(E:XK),LL k ĕ->(ps++N).Nodup->S9 (dH N5 P w K mg base uX ğ jp f Lz A outer s H E).Uv yG r)(S:au uX ps jp:=by exact Pa),0][c65:∀(mixed:Ξ)(A:List Ask)(s:Ask->Int->Int),0][c66:∀(CE:Addr)(H G0:Hp)(ks:Ξ)(LA:Û)(MD:υ)(m:Nat),0][c67:∀(I:c1S p m ç ê ord n T)(G:Tf p m ç ê ord),0][c68:∀(T:Ou Bx.K Bx.mg CE),0][c69:∀(k:∀ σ H Q,t' σ H Q->t σ H Q),0][c7a:∀{β:Type}(xs)(I:β->Ú)(g:β->α->β){b:β}(h0:I b ε)(hl)(k:∀ b x ε,x∈xs->I b ε->∃ ε1,q (u x) ε ε1/\∃ ε2,rb ε1 Ce/\I (g b x) ε2),0][c7b:∀(x:V)(y:V)(H:Hp)(Q:VK),0][c7c:∀(hg:Gl X x),0][c7d:∀(hs:starEach sI X.env=ĭ::starEach es X.env:=ă),0][c7e:∀{o value:Expr}{f:Str}{pos pos':Pos}{ta tv:TE}{C:Addr}(T:ng X.K C f)(ha:PE X o ta)(hv)(hs:swapsWith value b0g pos.line X.env=pure false),0][c7f:∀(F:OT K x ğ st f fd),0][c7g:∀(F:ExcBaseFacts B newId Xa bm)(T:OwnTail s.heap bm tl)(hC)(hN:s.heap.Ns N mN)(hI)(hf:s.heap.get? fI=!oI)(hfc)(hz:us.length<=sizeLine),0][c7h:∀(P)(w)(K)(mg)(base)(k:Nat),0][c7i:∀{rk:ν->Nat}(hr:∀ t∈ts,rk t.2.1<rk t.2.2.1),0][c7j:∀(C:Addr),0][c7k:∀(S:au N ps jp)(t:b4P N.length ps.length z R)(b:∀ (Lz:Value)(A:Ë)(outer:List Env)(s:Ê)(H:Hp)(E:XK),LL k ĕ->NE Ļ tT yG z),0][c7l:∀{oc tc:Value}{od an td:ψ}{Nv SR:ω}{n:Nat}{kV doc pm Lz ct:Value},0][c7m:∀(hs:starEach yN X.env=a2A:=ă)(U5),0][c7n:∀(ts:List M'),0][c7o:∀(hg)(ht)(he:∀ cells C s H fp,PE Ė elt te),0][c7p:∀(ht:PG X tg g)(hg:YE g q)(hb:S9 X ss rb)(hs),0][c7q:∀(pa)(slot)(Yh)(hm:MtR X id r)(ho:PE X o to),0][c7r:∀(S:Sd F σ H ε),0][c7s:∀(σ:St)(H:Hp),0][c7t:∀(σ:St)(G:Hp),0][c7u:∀(hg:Gl X "range")(hm:X.mg "range"=none),0][c7v:∀{xs:List α}{u h:α->D}(hi:ri ε yE)(hl:xs.length<=1000)(k:∀ x∈xs,∃ l,Ez n (u x) l/\re DS (h x)),0][c7w:∀(k:∀ m p,1<=m->m<=N->Pre p m N->V3 lt p m->Q (m,p) s),0][c7x:∀(OO)(he)(Oi),0][c7y:∀(k:∀ b u,h.get? b=!u->h'.get? b=!u),0][c7z:∀{P:É}{w:World}{K:Ψ},0][c7A:∀(ha:PA X sI iL),0][c7B:∀{st:Stmt}{k:Nat}(F:MO K x ğ st f fd)(S:au N ps jp),0][c7C:∀(hb:∀ (kV doc pm:Value)(an:ψ)(Lz ct:Value)(us:θ),us.length=ps.length->bindArgs Ģ wu=pure KB),0][c7D:∀(ha:ra ε Ge)(hb:rb ε uI),0][c7E:∀(c:Cl)(ord:NS->Æ),0][c7F:∀(h:LN S ord R),0][c7G:∀(h:Uw CE H G0 ks LA MD m es L MR G),0][c7H:∀(hn:(assignEach es X.env).length=n:=ă)(RK:(assignEach es X.env).findIdx? (·.1)=none:=ă),0][c7I:∀(hr:LL (k+1) X.A),0][c7J:∀{x ğ:Str}{st:Stmt},0][c7K:∀{K:Ψ}{C:Addr}{ğ:Str}{st:Stmt}{f:Addr}{oc:Value}{od an:ψ}{Nv:ω}{kV doc pm Lz ct:Value},0][c7L:∀{α:Type}{P:List α->Prop},0][c7M:∀(xs)(I:Ö)(h0:I 0 ε)(hl),0][c7N:∀(c7c)(hm:X.mg x=none),0][c7O:∀(n)(hc)(S:bD X scope zy js N'),0][c7P:∀(hl:nm.length<=1000)(ht:∀ x∈nm,∀ v H1 (Q:VK),DR H1 (u x) v->a2v->te b16 H1 Q),0][c7Q:∀(ε:En)(d:D),0][c7R:∀(T:c5Q Bx.mg),0][c7S:∀(v0 vx mv mx:V)(fa lc rb ad pd:Addr)(m:Nat)(Wh:ξ)(MD MR:υ)(ê:List Mk.Mt)(k:Int),0][c7T:∀(X:Bx.K.In h)(G),0][c7U:∀(hc:∀ cells C s H fp,Cc Ė)(S:bD X scope nT js N')(hi:mI Cc X tg iter wi)(c7o),0][c7V:∀(F:MO Bx.K "plan_for" "plan_for" B6 f fd),0][c7W:∀(hN)(hi:X.N[i]?=!x)(hx),0][c7X:∀{kindOf:Str->Option NameKind},0][c7Y:∀(ts:List (T ν))(U:Int->Bool),0][c7Z:∀(W:WN S "h" nl R),0][c70:∀{tb:TS}{D:Ends}(Pv)(h0)(hl:∀ i σ H,i<=xs.length->Pv i σ H->LS K H a xs),0][c71:∀(F:Flow ts U h g v),0][c72:∀(L:Str->Int),0][c73:∀(mu)(he:e=x\/H e=!.own x)(k:∀ b u,b≠e->h.get? b=!u->h'.get? b=!u)(heo),0][c74:∀(f:Str)(D:Ends)(σ:St)(y:V)(x:V)(H2:Hp),0][c75:∀(h:∀ (s':Ê) out c,s'.os=s.os->G [ō] s'->sX kz vs out.toList->P ś s'),0][c76:∀(X:K.In s.heap)(I:Vv s.heap x dx C mA),0][c77:∀{l:List α},0][c78:∀(hlen)(Sx)(h:∀ (s':Ê) out c,G [ō] s'->sX kz vs out.toList->P ś s'),0][c79:∀(Sx)(h:∀ (s':Ê) out c kk,G [ō] kk s'->lO lt vs out.toList->P ś s'),0][c8a:∀(Q:VK)(x:V)(H1:Hp),0][c8b:∀(x:RQ s.heap d es ep),0][c8c:∀{ps:List (κ×Value)},0][c8d:∀(I)(e:H a=!.ins C dx fs)(c:Pf X.K C),0][c8e:∀{K:Frag}(X:K.In s.heap)(hx:s.heap.get? x=!ox)(RW:ox.cls=.ref C)(R7),0][c8f:∀(c6Z){h:ν}{cs:Cm ν}(C:Og ts U h cs),0][c8g:∀(F:M9 X.prog X.w X.K X.mg X.base (QV X.prog X.w) k f fd ps sp)(hr),0][c8h:∀(hp:kF K C=true)(ht:takerIn K C name=!none)(hh:hasDictIn K C=true),0][c8i:∀{st:Stmt}{k:Nat}(c7f)(S:au N ps jp),0][c8j:∀(hg:Gl X "zip")(hm:X.mg "zip"=none),0][c8k:∀(h:F a=!o)(k:WH o ķ)(k'),0][c8l:∀(A){Q:Nat×Array Nat->Shared->Prop},0][c8m:∀(W:Walks prog w A.in1 I fp wr n P St)(bt)(cm)(S:Addr)(nS:S∉fp),0][c8n:∀(h:∀ (s':Ê) out c,G [ō] kk s'->lO lt vs out.toList->P ś s'),0][c8o:∀(he:PE X o ta)(D:Dm X.prog X.w X.K X.mg X.base k C m ps sp)(hr),0][c8p:∀(c6Y)(E:XK),0][c8q:∀(ok:∀ f fd,OT Bx.K "__init__" ğ st f fd->QH N5 k f fd ps sp),0][c8r:∀(R:It->Ù)(vs:π)(H1:Hp),0][c8s:∀(it d:Addr)(o){es:Ò}{ep:Nat}(ed),0][c8t:∀(p:ν->Bool),0][c8u:∀(ha:a<ř.length),0][c8v:∀(h:Heap),0][c8w:∀(he:PE X e te),0][c8x:∀(he:PE X e ta)(hb:attributeBase e f X.env Gs=eval e X.env),0][c8y:∀(k:W.keepIn K Ci=true),0][c8z:∀(hu:A.units+1<cLine)(I),0][c8A:∀(hu)(ho:PE X o td)(hi:PE X i ty),0][c8B:∀(hs:starEach [e] X.env=[ĭ]:=ă),0][c8C:∀(re:Rx)(ε:Ev),0][c8D:∀(e:∀ b o,F b=!o->b1F->F' b=!o),0][c8E:∀(hN)(U9:X.N[i]?=!x)(hx:X.env.scope.names.lookup x=!.local),0][c8F:∀(ok:∀ f fd,OT Bx.K x ğ st f fd->QH N5 k f fd ps sp)(hb),0][c8G:∀(r:KV ķ vs)(k:κ),0][c8H:∀(i)(hN:X.N[i]?=!x:=ă)(hv:pQ X.env.scope x:=by first|exact Or.inl rfl|exact Or.inr (Or.inl rfl)|exact Or.inr (Or.inr rfl))(hd)(RM),0][c8I:∀(ok:P9 P w H h),0][c8J:∀(len:∀ vs H Q E,sp vs H Q E->vs.length=ps.length:=by intro _ _ _ _ h;first|(cases h;subst_vars;rfl;done)|repeat first|(obtain⟨rfl,_⟩:=h;rfl;done)|obtain⟨_,h⟩:=h),0][c8K:∀(S:SK prog w A' f vs kz G)(g:G b3S s)(Vm)(hk)(hlen)(Sx),0][c8L:∀(he:PE X o ta)(c:Pf X.K C)(hm:zu X.K C m f)(F)(hr)(c6W),0][c8M:∀(c7z){elts:Ì}{x1:Nat}{Oh:Pos},0][c8N:∀(i:W.isFn K Ci=true),0][c8O:∀(hs:swapsWith e none pos.line X.env=pure false:=ă),0][c8P:∀(D:Dk X.prog X.w X.K X.mg X.base k x C ps sp)(c7I)(c7c),0][c8Q:∀(x:P9 P w H h),0][c8R:∀(hl:PE X l tl),0][c8S:∀(hc:Ms X xy r)(c7N)(hv:bootBuiltins x=!.builtin id),0][c8T:∀(hc)(S:bD X scope nT js N')(hi:PI X tg iter wi)(c7o),0][c8U:∀(hp:0<p),0][c8V:∀{f:α->jr}{g:α->D},0][c8W:∀(p:Int)(t:Θ)(m:Nat),0][c8X:∀(W:Qm ts x ws y),0][c8Y:∀(OO)(RK)(Oi:(backTo MB PP).any (·.1)=false:=ă),0][c8Z:∀(P:Pre p n N)(D:∀ a b,a<b->b<n->St lt yT Z9),0][c80:∀(Pq)(c7d)(O6:(backTo MB PP).any (·.1)=false:=ă),0][c81:∀(hg:Gl X "enumerate")(hm:X.mg "enumerate"=none),0][c82:∀(h:DR F d v),0][c83:∀{TI TO:Addr},0][c84:∀(L:List (Int×Ask)),0][c85:∀(hP)(S:Mx.Sh p m t),0][c86:∀(T:List M')(m)(p cell:Int),0][c87:∀(hc:Ms X jk r)(c7N)(hv:bootBuiltins x=!.type T),0][c88:∀(p:Int)(m:Nat)(ç:Θ)(ê:List Mt)(ord:List MZ),0][c89:∀(c:Cl)(H:Hp)(fi:Int)(a Ln n dp dt:Addr)(i:Nat),0][c9a:∀(K:Ψ)(mg:Ω),0][c9b:∀(I)(k:∀ b u,s.heap.get? b=!u->h'.get? b=!u),0][c9c:∀(W:St->XK),0][c9d:∀(S:NS)(ns:η),0][c9e:∀(ř)(msg)(fo),0][c9f:∀(C:Og ts U h c),0][c9g:∀(c7J){ps:η}{sp:Sp}{k:Nat},0][c9h:∀(a:Addr),0][c9i:∀(x:LU P w H h a o),0][c9j:∀(r:List V->Hp->VK->Prop),0][c9k:∀(r:V->Option Int->Option Int->Hp->VK->Prop),0][c9l:∀(hz:ys.length<=sizeLine),0][c9m:∀(hd:∀ σ H,Pv xs.length σ H->D.nx σ H),0][c9n:∀(c6Z){V:Int->Bool},0][c9o:∀(S:b2V X scope p js N')(I)(RW)(Sv)(hA)(hfr),0][c9p:∀(ha:PT X a tA),0][c9q:∀(I)(r:Fc vs us),0][c9r:∀(K)(x ğ:Str)(st),0][c9s:∀(I:s.heap.IsKeyIter it d i es.size ep)(c8b),0][c9t:∀(e:f' F F'),0][c9u:∀(e:f' H H1),0][c9v:∀(hu)(c6X)(hm:behindInMarks .In b=false:=Ą),0][c9w:∀(E)(hh:h∈nm),0][c9x:∀(h:∀ LY∈ê,LY.2.flatten.Nodup)(k:Int),0][c9y:∀(CE:Addr),0][c9z:∀(O:vm X)(g1:Gl X x1)(m1)(g2:Gl X x2)(m2),0][c9A:∀(hc:PT X c tc)(ha:Q2 X a t)(hb:Q2 X b u),0][c9B:∀(K:Ψ)(x ğ:Str)(st:Stmt)(f:Addr)(fd:È),0][c9C:∀(hr)(c7c)(ha)(c7x),0][c9D:∀(hp:O5 p=true)(h1:0<r)(h2:r≠1)(h3:r<p),0][c9E:∀(ř:List bC),0][c9F:∀(q:∀ x G',f' G G'->DR b7l d x->Q x G'),0][c9G:∀(prog:É)(w:World)(A:Ë)(f:Value)(vs:θ),0][c9H:∀(Cs:Addr->Prop)(m:Str),0][c9I:∀(R:List D->Addr->Prop),0][c9J:∀(hc)(hg:Gl X "max")(hm:X.mg "max"=none),0][c9K:∀(a:W.findIn K x6 "__init__"=!some Ci),0][c9L:∀(k:∀ σ H Q,tP re σ H Q->te σ H Q),0][c9M:∀{ws:List (T ν)},0][c9N:∀(K:Ψ)(x:V)(lo:Ô)(hi:Ô)(H:Hp)(Q:VK),0][c9O:∀(h:QS X st r),0][c9P:∀(F:MO K x ğ st f fd),0][c9Q:∀(U:Ξ)(k:Int),0][c9R:∀(ht:t∈S.Ls),0][c9S:∀(pz:S.Lv.length<=100),0][c9T:∀(q:∀ p,Pre p N N->V3 lt p N->Q p s),0][c9U:∀(ho)(c60)(hm:behindInMarks op b=false),0][c9V:∀(F:M9 P w K mg base CX k f fd ps sp),0][c9W:∀(hd:H d=!u)(h1:∀ b,u≠.own b)(h2),0][c9X:∀(uv:u<v)(hx:nl[u]?=!x)(hy:nl[v]?=!y),0][c9Y:∀(S:SX prog w A' f vs lt kd G)(g)(Vm),0][c9Z:∀(I)(h:LS X.K H a xs),0][c90:∀{id:String},0][c91:∀(l:List α),0][c92:∀{K:Ψ}{st:Stmt},0][c93:∀(e:H a=!.dK ķ),0][c94:∀(c7J){ps:η}{k:Nat}{r:Rs}{R:Ä}(N:η),0][c95:∀{p:ν->Bool}{t:T ν},0][c96:∀{s:Option (Int×ν)},0][c97:∀(h:k∈R.map (·.1)),0][c98:∀(found:List Δ),0][c99:∀(nd:xs.Nodup){i:Nat},0][d0a:∀(K)(P:Addr)(OF:Pos)(ğ)(js)(ta)(te),0][d0b:∀(L:b4K mg base fd Pt),0][d0c:∀(M)(F)(c7I)(c7c)(hm:X.mg x=!.ref C)(c6W),0][d0d:∀(k:∀ E σ H,t' E σ H->t E σ H),0][d0e:∀(r:Os x u),0][d0f:∀(r:Os v u),0][d0g:∀(a:W.findIn K x6 m=!some Ci)(c8N),0][d0h:∀(t:Θ)(v:Ξ),0][d0i:∀(k:TJ f r)(c6X),0][d0j:∀(r:Rx)(ε:En)(l:χ),0][d0k:∀(ha:ra ε z8)(hb:rb ε (.str y)),0][d0l:∀(c:Cm ν),0][d0m:∀{c:Cm ν},0][d0n:∀(c67)(hx:ord[n]?=!x),0][d0o:∀{nm:List α}{kf:α->jr}{u:α->D},0][d0p:∀{CE:Addr}{ê:List Mk.Mt}{T:Mk.Te},0][d0q:∀(lt:Nat->Nat->Bool),0][d0r:∀(T:c4H Bx.mg),0][d0s:∀(ps:List (Str×Kd)),0][d0t:∀(c76)(hg:W.plainGet K C name=true),0][d0u:∀(h:Inv p a r m)(hp:2<=p)(hr:0<r),0][d0v:∀(h:Ok p m P F),0][d0w:∀(m:Nat)(p:Int),0][d0x:∀(K)(hu:X.A.units+(k+1)<cLine)(h),0][d0y:∀{p:κ×V}{r:List (κ×V)}{k:κ},0][d0z:∀(c6Y)(x3:XK),0][d0A:∀(h:ķ.map (·.1)=ð.map (·.1)),0][d0B:∀(fo)(ms)(many:Nat),0][d0C:∀{t:T ν}{x z:ν}(h:Q7 t x U=!z),0][d0D:∀(R:Mk.Ask->Mk.Qn)(B:Mk.Ask->Θ),0][d0E:∀(lo hi:Ô),0][d0F:∀(e:f' H G),0][d0G:∀(A){Q:Array Nat->Shared->Prop},0][d0H:∀(msgs:Θ)(c72),0][d0I:∀(hs:Heap.SameBut a s.heap h'),0][d0J:∀{g:TG}{tb:TS}{D:Ends}(Pv)(h0),0][d0K:∀(P:É)(w:World)(c9a)(base:Heap),0][d0L:∀(l:K.lookup f=some b88)(c)(c8y),0][d0M:∀(cells:Ã)(C)(s:Ê)(H)(fp:υ),0][d0N:∀(hs:c6u b:=by exact λ_ _=>rfl),0][d0O:∀(O:Cl.Ok K c),0][d0P:∀(S:Sh p w ř),0][d0Q:∀(c7c)(c7A)(c7x),0][d0R:∀(q:Õ)(rb:Rs),0][d0S:∀(n:Bool)(x y d:D),0][d0T:∀{f:α->Int},0][d0U:∀(e:f' G G'),0][d0V:∀(p:Array Nat),0][d0W:∀(G:P4 m p Av ř),0][d0X:∀(p1:Rd F1 a Ax)(p2)(p3)(fz),0][d0Y:∀(h:(l.map f).Nodup){g:α->D},0][d0Z:∀(hr:LL (k+3) X.A)(hc)(c61)(O6),0][d00:∀(S:SX prog w A f vs lt kd G),0][d01:∀{M:Model}{A:Ë}{E:ρ}{s:Ê},0][d02:∀{x1:Nat}(c8j)(ha:PA X yN ta),0][d03:∀(O:vm X)(hc)(hw:b8T X W)(c7c),0][d04:∀(hd:H d=!.dK ķ),0][d05:∀(h:∀ i j,eX sx=true:=by intro _ _;rfl),0][d06:∀{ð:ι}(h:F a=!.frz ob Ax),0][d07:∀(I:Ú)(c:α->Bool)(h:α->D),0][d08:∀(T:List Int×Ξ),0][d09:∀(e:Nat)(ways:Θ),0][d1a:∀(W)(hs:∀ t∈ts,t∈S.Ls),0][d1b:∀(e1:List Mk.Mt)(L:List b7m),0][d1c:∀{xs:List α},0][d1d:∀(c:Cl)(H:Hp),0][d1e:∀(S:Sh p m t),0][d1f:∀(p)(t:Θ)(m),0][d1g:∀(ms:List MZ),0][d1h:∀(T:b3K Bx.mg),0][d1i:∀(h:DR H d v),0][d1j:∀(c7N)(hv:bootBuiltins x=!u),0][d1k:∀{tg:Expr},0][d1l:∀(ho:NP X (binaryOp op) r),0][d1m:∀(hh:W.hasDictIn K C=true),0][d1n:∀(outer)(P)(w)(H)(s:Ê)(Q),0][d1o:∀(sp)(dvs)(E:XK),0][d1p:∀{α:Type},0][d1q:∀{l:OpenLaw}(hn:l.most=!n),0][d1r:∀(nT)(js)(g:TG)(tt:TT)(te),0][d1s:∀(ķ)(k:κ),0][d1t:∀(p)(u:Nat),0][d1u:∀(ha:PT X a Ee),0][d1v:∀(ha:PE X a Kv),0][d1w:∀(he:PE X o Kv),0][d1x:∀(h:Q7 t x U=!y),0][d1y:∀(T:GI Bx.mg)(TI:a15 Bx.K),0][d1z:∀(ê:List Mk.Mt),0][d1A:∀(S:SK prog w A f vs kz G),0][d1B:∀(F:GL Bx.K C x ğ st)(cl),0][d1C:∀(c7h)(x)(ps),0][d1D:∀(h:lead.length=r.length),0][d1E:∀(rs:Á)(c7Q),0][d1F:∀(R:Result->Shared->Prop),0][d1G:∀(i:Nat)(rk re:Rx)(ε:Ev),0][d1H:∀(ε:Ev)(c7j),0][d1I:∀(h:¬ k∈cs.map (·.1)),0][d1J:∀(i:Nat)(c7t),0][d1K:∀(A){Q:Nat->Shared->Prop},0][d1L:∀(X)(ñ)(σ),0][d1M:∀(ha:PE X a ta),0][d1N:∀(r:LL (k+1) A),0][d1O:∀(K)(T:String)(r)(to:TE),0][d1P:∀(hx:b1t X W),0][d1Q:∀(g:Q4 H a y o),0][d1R:∀(I)(hd:H d=!.frz o Ax),0][d1S:∀(c8U)(h:NH p r),0][d1T:∀(p)(bk)(ř:Θ),0][d1U:∀(hp:1<p),0][d1V:∀(hP:O5 p=true),0][d1W:∀(ra rb:Rx)(c7Q),0][d1X:∀(h:PE X e vC),0][d1Y:∀(ð:ι)(y:jr),0][d1Z:∀(c6Z){h:ν}(d0m),0][d10:∀(ts)(h:Option ν)(g:ν),0][d11:∀(r:Paired F l₁ l₂),0][d12:∀(c7y)(hp:h.objs.size<=a),0][d13:∀(hd:∀ F,LO F dl dvs),0][d14:∀(p)(P:Θ)(w:Nat)(t:Ξ),0][d15:∀(ht:¬ p ∣ dot ŗ t),0][d16:∀(p:Int)(A:List Mk.Ask),0][d17:∀(c7V)(c7R)(LX)(Nq)(LZ)(Lu),0][d18:∀(h:SI CE G MD MR ê T),0][d19:∀(h:Pre p n N)(hn:n<=N),0][d2a:∀(F:zw Bx.K x ğ st)(c7T),0][d2b:by show callType_codes (Q₁:=λobj s₁=>obj=.ref s.heap.objs.size/\s₁={ s with heap:=s.heap.push { cls:=.type "dict",data:=.dict [].toArray } }) F.kt_called_dict a8B F.entry_dict_init a7V ?_;rintro obj s₁ ⟨rfl,rfl⟩;let Oj:(s.heap.push { cls:=.type "dict",data:=.dict [].toArray }).DictOf knd s.heap.objs.size []:=Heap.DictOf.new s.heap][d2c:by intro ñ s σ H Q I h][d2d:by let#[BG,p5]:=I'.pin (D,_)<|Hh _ Ha;let#[p,q1,eo,q2]:=ko;let xl:=VI.length;rw[<- xl]at q1;let I0:=I'.MM λq hq=>I'.pin q<|Hh _ (Hk _<|Hk _ hq);let fp:jL X ñ H' D:=⟨p2,p3,p4,.inr (a4 _ Ha).1,λy c e z=>by let#[v,o2,wH]:=I0.cell y c e;rw[z]at q1;let SU:=q1;rw[p1]at SU;cases SU;show p5 _ q2,λq hq=>(a4 _ Ha).2 q<|(Hx.mp hq).elim (λz=>HG _ z) λz=>Hh _<|Hk _ z⟩][d2e:by show GQ b06;show GQ b6H;show GQ a6k;show GQ (Lo ?_<|HP _);show Ip ?_;let g2:=S.kept (h':=(s.heap.update a _).push<|seqObj "tuple" vs.toArray 0) (tk:=s.toks) g1 λb u e=>GW _ e;let g3:=S.grow (h':=((s.heap.update a<|Obj.mapSeq λ_=>([].toArray:Ó)).push<|seqObj "tuple" vs.toArray 0).push<|seqObj "list" [].toArray 0) (tk:=s.toks) g2 (λb u e=>GW _ e) BU FE dD][d2f:by intro ñ s σ H x y v u Q I rx ry h][d2g:by show GQ FX;show GQ b4g;let S:=S vs hv;let hlen:=hlen vs hv;show GQ b53;let g1:=S.grow (tk:=tk) (o:=seqObj "list" vs.toArray 0) (s:={ s with heap:=h',toks:=tk }) (S.kept g hk) c1U BU FE dD;show GQ<|Ip (wpAny_call_entry_kw slot_list_sort c0X entry_list_sort ?body<|ksk_l1 _ _)][d2h:by show GQ (KI<|JB hTy F.slot_zip_next (K5 F.slot_zip_next hTy F.entry_zip_next ?_<|F.args_zip_next_1 _));change wpAny _ _ (field _ 2 >>= _) _ _ _;show GQ (Lh hz rfl rfl ?_);show GQ (Lh hz rfl rfl ?_);show GQ (K4 Vp rfl ?_);show GQ (vc hz hT λh₁ hz₁ hs₁=>?_);show GQ ?_][d2i:by intro X hP hw hK hc i ñ s σ H E I hf st hg;subst hP hw hK][d2j:by intro ñ s σ H xs us Q I r h][d2k:by subst ex;obtain rfl:u=Value.ref a:=rx][d2l:by intro ñ s σ H D I h][d2m:by show GQ<|KI a2l;show GQ<|Hg (GQ (GQ ?_));show GQ<|JH T (Hg<|GQ (wpAny_fieldsOf u1 u3 ?_));change wpAny _ _ (if (Value.ref d==Value.none)=true then _ else _) _ _ s;rw[if_neg λz=>nomatch z];show GQ<|Hg c14;rw[if_neg<|by simp]][d2n:by ext d2c;show Iy (dE I hg hm a7s ?_ į<|by decide);let Xj:=λy hy hf=>I.ok.has y.1<|S.cs.free y hy hf;let#[cl,RW,Ta,Sv]:=a2n Xj;show callWith_kw (M8 (ha pos ñ s σ H _ I h) λus s1 gR=>?_) RK O6 rfl rfl;let#[c6g]:=gR][d2o:by rw[Hu,Hu]at h;rw[Hu]at q1;injection h with h1 h2;injection q1 with q1 SU][d2p:by let#[c5M]:=I.list h1;let#[c49]:=I.list h2;let l1:=r1.length;let l2:=r2.length;let l3:=Paired.length h3][d2q:by show#[.ref D,upd H' D<|.lst (p.map λi=>xs.getD i .non),I0.Uy fp (a4 _ Ha).1 #[?_,out.toList,c,by rw[eo];show b0d VI λi hi=>Ig.mp<|q1.mem_iff.mp hi,?_],1,a1u H' D p j a1 a2 p2 q1 q2]][d2r:by let s1:=IQ s.heap kS<|Obj.mapSeq λ_=>([].toArray:Ó);obtain⟨c1,Yn⟩:∃ c1,(s.heap.update kS<|Obj.mapSeq λ_=>([].toArray:Ó)).get? kS=!seqObj "list" [].toArray c1:=b5B][d2s:by subst e;let#[vq]:=st;show#[o,e,λv z=>by rw[d]at z;cases z]][d2t:by let ho:=S.get g Ha;let s1:=IQ s.heap a<|Obj.mapSeq λ_=>[].toArray;obtain⟨e1,ho1⟩:∃ e1,(s.heap.update a _).get? a=!seqObj "list" [].toArray e1:=b5D][d2u:by show hZ _ _ xp][d2v:by let#[a,us,1]:=List.exists_cons_of_length_eq_add_one hl][d2w:by let Vi:=((My.LH p).mp hP).1][d2x:by let e:b=it:=by simpa using hb][d2y:by let#[Fo]:=tab;let:=S6.lo _ _ z;unfold grow at this;rw[if_neg (by rw[hP];show nofun)]at this;let:=sF _ _ this;rw[bF]at this;cases this][d2z:by let#[t,1]:=rx;let#[t',1]:=ry][d2A:by show Ip a9n;let O4:∀ b o,b≠d->h1.get? b=!o->h2.get? b=!o:=λb o hb e=>(sb2.2 b hb).trans e;show Hg #[JN _<|by decide +kernel,?_]][d2B:by show JQ F.entry_max_loop ?_;rw[Around.under_plainId b4U _];change wpAny _ A.in1 b5A _ _ s;show GQ b5Z;change wpAny _ A.in1 b17 _ _ s][d2C:by let hf:=I1.LJ.fresh<|Hi _;show⟨.ref s1.heap.objs.size,upd H1 s1.heap.objs.size _,I1.laid (λb u e=>GW _ e) BU ?_,rfl,q.at hf⟩][d2D:by ext d2c;show Iy zr;show Km (h₀:=X.base) I.ok.mod.Yd hk a2j he Oi][d2E:by let#[attr,ha,hr]:=Option.bind_eq_some_iff.mp ht;let hm:Looks ē s.heap (mroOf<|.ref C) cd.mro:=(looks_clsIn X hc).andThen .now][d2F:by let#[w1,e1,r1]:=rv.get hb;rw[hv]at e1;cases e1;obtain rfl:v=Value.bool bs[i]:=r1;dsimp only at hQ;rw[GU,GR hi]at hQ;show Jh hQ][d2G:by let#[u,1,ru]:=dJ r1;show wpAny_evalAll_cons<|GQ (wN L I1 T RW Xi λf c' Ug H2 s2 I2 sb T2 UO=>GQ<|JT b5f);let QE:=hr.in1.in1][d2H:by repeat (any_goals (first|assumption|wp_step))][d2I:by intro ñ s σ H R I h][d2J:by let#[j,AS,h5]:=MtM he;let#[w,ew,UE]:=r.get h2;let hl:=r.length;let hn:=p9;let fin:EP X ñ σ Q w s:=#[z,H,I,UE,q]][d2K:by let T:=I.typeIs;let#[u,u1,u2,u3]:=id I;let#[o,a,_,b]:=x;ext1 pyNext;ext d2m;show GQ<|Hg b3Z;rw[if_neg<|by simp]][d2L:by ext d2I;let#[Q,hq,h]:=h;show wpAny_Call_method0_late OG Pq b0q;let#[Bi]:=gR;let#[d,ķ,e,hd,q]:=h x H1 q1;subst e][d2M:by show a2f lk RM S len λA outer s H vs Q E hr UY=>?_;let#[t,h,q]:=O7 Lz A outer s H vs Q E hr UY;show#[t,h.Uv,q]][d2N:by let bl:(bv S).length=S.names.length:=GP _][d2O:by show absurd (show false=true from hs) Ia][d2P:by intro f fd F][d2Q:by rw[HJ]at he;subst he][d2R:by show#[c6e];let UZ:r∈X.pn++(own++_):=(Hx.mp hr).elim (λz=>HG _ z) λz=>Hh _<|Hh _ z;show HY b4z][d2S:by let S2:=S1.Ni p1 ĵ<|.inr #[o,1];let eF:Ni a _ F1 a=!(.frz o<|.dK ķ):=cE (by rw[p1];show nofun)][d2T:by show False.elim hq][d2U:by rw[osa_eq,refuse_eq];show GQ<|GQ b3z;rw[lg _ _ ho];show Hg<|GQ a5w;let#[cd2,UO,Q1]:=any_some hh][d2V:by intro value slice ñ s σ H x y v u Q I rx ry h hs][d2W:by rw[List.getElem?_set_ne<|Ne.symm hj]at e2;let#[u',r',q]:=hl j y v' e1 e2 e3;show#[u',r',?_]][d2X:by let#[v,1,q]:=h;show#[_,aq<|bo m4,q]][d2Y:by let neL:∀ b o,X.s₀.heap.get? b=!o->b≠X.env.locals:=λb o e=>HY<|HN (HD e) I.ok.above][d2Z:by intro F0 H0 ñ s σ H E I h;obtain⟨F,ε,f,S,@⟨l,@⟨ð,h1,hl⟩,h2⟩,p⟩:=h;subst hl][d20:by let g1:=S.put g (λp hp=>by rw[Hs.mp hp];show Vm.symm) s1 Yn dD;let XJ:=S.get g1<|Hk _ Ha][d21:by show call_function_entry_kw kind_sorted plain_sorted entry_sorted (ksk_s1 _ _) ?_;ext d2g][d22:by show#[c3z];rintro i m σ H ⟨rfl,hi,p⟩;let q:=hl i σ H hi p;by_cases NI:i<xs.length][d23:by let h2:=((My.LH p).mp hP).1][d24:by let hzs:(keys.zip vs.toArray).size=vs.length:=by rw[Array.size_zip,hsz,Ik,Nat.min_self]][d25:by show av λZ hZ=>?_;intro n dx hn XR nd;show b2Z hn XR λdp dt H2 p1 p2 e2 N2=>?_;ext d2u][d26:by let⟨t,rfl⟩:=rx][d27:by let⟨_,rfl⟩:=rx;let#[_,1]:=ry][d28:by rw[aa (λz=>by rw[z,e]at P5;cases P5),aa (λz=>by rw[z,dn]at P5;cases P5)];show P5][d29:by let#[BG,p5]:=I'.pin (a,o)<|Hh _ Ha;let I0:=I'.MM λq hq=>I'.pin q<|Hh _ (Hk _ hq)][d3a:by let e:b=s1.heap.objs.size:=by simpa using hb][d3b:by show#[c3n];show GQ ?_;show GQ b3h;show Hg ?_][d3c:by rw[e]at e';cases e';rw[d]at d';injection d' with d1 _;let:its=its':=by cbv][d3d:by show c1I rfl b3w rfl h1 h2][d3e:by show a2f lk RM S len λA outer s H vs Q E hr UY=>O7 Lz A outer s H vs Q E hr UY][d3f:by let hz:=q1.size;let RK:(arrOf Pj).size=vs.length:=by rw[har,Array.size_map,hz]][d3g:by let dN:∀ {G:Hp},G Ln=!(.lst<|nl.map V.str)->DR G (aY nl) (.ref Ln):=λh=>b55][d3h:by let⟨t,rfl⟩:=r;rfl][d3i:by cases h3;let qa:=λ{H':Hp} (s:f' (grow F H H1) H')=>LS.of (K:=X.K)<|s _ _ ha][d3j:by simp only[Hr,Ih,Kk]at hc][d3k:by rw[typeLookup_type,builtinLookup_eq_fast]][d3l:by let#[Dt]:=I2.list T5;let e1:=rv.length;show collect_list pl.isList a2N #[]][d3m:by rcases hA b (by rw[q];simp) with e'|e'|e'][d3n:by let#[z,z0,z1,z2]:=a9L hP hp a.toNat a 1 BU h0 h1<|SE hp hf;rw[Xy z0 z1 z2]][d3o:by let⟨σ',H',I,q⟩:=h;show#[GD,I.Nj,q]][d3p:by let#[σ3,uH,n3]:=q3;let#[m',hm,w3]:=hN σ3 H3 n3;show#[m',hm,σ3,uH,w3]][d3q:by show False.elim RV][d3r:by show#[.bl _,H,I.kept λb o e=>hk b o vD<|GW _ e,1,q];show absurd og ě][d3s:by let ih:=ih';unfold XM at ih ⊢;rw[Hu,Hu,KL,ih,Jc];change b7V=true ↔ _][d3t:by let#[v,o2,wH]:=I0.cell y c e;rw[z]at q1;let SU:=q1;rw[p1]at SU;cases SU][d3u:by let#[o,he]:=gR;subst he][d3v:by intro R W hn I h;rcases List.eq_nil_or_concat W with rfl|⟨W,nm,rfl⟩][d3w:by rw[b5F (by rw[h.len];show hi)];let#[a,b,na,hb,hd,hz]:=a5o hP h hw ht hi][d3x:by let#[Dl,ZL]:=hu;let#[b,ws,1,AU]:=hv][d3y:by grind [List.flatMap_append,List.zipIdx_append,List.take_append_drop]][d3z:by let#[Bi]:=gR][d3A:by let⟨t,e⟩:=r;cases e;rfl][d3B:by intro ñ s σ H x vs v us Q I rx rv h][d3C:by show#[Ij _<|by lia,HV _ hp]][d3D:by rw[if_neg c]][d3E:by let#[t',u',he]:=VT.there;show a6I;ext1 getattributeRaised;ext d2H][d3F:by let⟨σ9,H9,I9,q⟩:=q9;show#[c3P,q]][d3G:by show call_zip_2 p1.isList p2.isList λh' a1 a2 a3 a4 a5 a6 a7=>?_][d3H:by intro ñ s σ H y x iv u Q I ry rx h;let#[a,ov,ex,g,q]:=h;ext d2k][d3I:by intro ñ s σ H x y v u Q I rx ry hw][d3J:by rw[if_pos hg,hg];simp only[List.lookup,beq_self_eq_true];show ry][d3K:by let#[oY]:=dg ha hs i #[0]][d3L:by rw[Hl]at h1;let h2:sizeLine=2 ^ 24:=rfl;simp only[JR]at h1;omega][d3M:by let g1:=S.put g Dg s1 ho1 dD;let NI:=HD ho1;show GQ b6G;ext d2e][d3N:by rw[show its.toArray.any sy=its.any sy by simp,c3g r fs];show q][d3O:by by_cases c:i=j][d3P:by let#[dx,h1]:=id N.ins][d3Q:by let#[Fn]:=HX.mp z;rw[Hl]at hj;rw[Jx]at ej;let:=a6x nd b4f hx ej][d3R:by rw[GP];show HK _ _][d3S:by let I'':Inv X _ σ H' { s with heap:=h',toks:=tk }:=I'.kept hk][d3T:by simpa using this][d3U:by simp only[sliceBounds,HT.Tj,Option.getD_none];by_cases h:i<0][d3V:by let#[b,hb,e]:=HI.mp hr;show (looks_takesIn X hb).andThen ?_][d3W:by let#[c5J]:=g;let#[fT]:=sM I.LJ e][d3X:by intro wh ñ s σ H Q I h][d3Y:by rw[z]at e;cases e][d3Z:by ext d2f;let#[i,j,2,q]:=h;ext d2z][d30:by rw[show its.toArray.any _=its.any sy by simp,c3g r fs];show q][d31:by let Vi:2<=p:=((My.LH p).mp hP).1][d32:by let h2:=((My.LH p).mp h.prime).1][d33:by rw[hn b (λz=>by rw[z,hP]at e;cases e)<|ne1 _ _ e];show e][d34:by let#[tL,zS,ea,l,q]:=gR;ext d2k;show b0O I1 ea c hm l ?_][d35:by subst hK;ext d2j;let#[p,bs,1,hq,q]:=h;let#[u,1,r1]:=dJ r][d36:by rw[g2];rcases c6N nd g3 Gy with⟨_,z⟩|⟨l',r',z,_⟩][d37:by show hZ _ _ ?_][d38:by let#[c6i]:=dJ r][d39:by let#[c4B]:=st;let#[mJ]:=I.list hx;let#[c6D]:=I.list hy][d4a:by rw[aa λz=>by cbv]][d4b:by by_cases c:(MQ p ň m).length<m][d4c:by let#[ws,Yg,1]:=GX.mp hw][d4d:by let rd:=lt_int (ε:=a1D) (ra:=rV 2) (rb:=rV 7) rfl rfl][d4e:by rw[er];show Paired.Qr a6j #[t,1,by rw[aa tlc];show ht]][d4f:by show (J9 _ _ (λh:S=b=>nS (by rw[h];show bf))).trans e][d4g:by show JZ λt _=>?_;ext1 Wy.without;rw[Bool.and_comm]][d4h:by let#[kk,ZL]:=hb T t kV doc pm an Lz ct us ě;ext d3d][d4i:by show SeqAt.EqAt.same _][d4j:by let I1:Inv X ñ σ H { s with heap:=W2 }:=I.Qo hf kk][d4k:by rw[if_neg c]at q][d4l:by let nd:=HS.mp nd][d4m:by rcases b5X A with⟨rfl,_⟩|⟨XF,t',rfl,Tt,e',A'⟩][d4n:by rw[hn d (λz=>by rw[z,hP]at q;cases q)<|ne1 _ _ q];show q][d4o:by show#[ho,I'.LJ.fresh hz,IG<|HN I'.lt hz,I'.Wf hz,hd]][d4p:by let#[c5S]:=I.Wg hH][d4q:by cases r1;let#[Dt]:=I.list hq][d4r:by show hb F0 H0 ñ s σ H E I h][d4s:by show av λZ hZ=>?_][d4t:by rw[if_neg h,Il,if_neg (by rw[GZ h];show nofun)];rfl][d4u:by cases q;rw[hb];show#[_,Vj,λg=>?_];by_cases hg:g=f][d4v:by let#[kv',e4,1]:=e3 ķ<|s _ _ h;rw[y]at e4;cases e4][d4w:by let e1:(ones m).getD i []=Lw m i:=by simp[ones,hi]][d4x:by let#[H',I',_]:=g;show (I'.pin _<|Hh _ (HG _ hm)).1][d4y:by subst this][d4z:by let#[jY,o,_,_,e,ex,_]:=I.LJ p _ hk;show#[o,e,ex]][d4A:by intro X A ñ s σ H x y v u a b _ I rx ry ha hb _][d4B:by let hb:(bs.map V.bl)[i]?=!V.bl bs[i]:=by cbv][d4C:by let#[h2]:=z;let#[rj,p,1]:=hx;rcases h2 with h2|_][d4D:by by_cases z:b=a][d4E:by let#[u,gG]:=y';ext d2o;let#[xP]:=ih h2<|SU▸q3][d4F:by rintro⟨⟨⟩,Pj⟩ s' ⟨rfl,p,q1,q2,har,hf⟩][d4G:by show hx ñ σ H s e s' I hq][d4H:by rw[if_pos c]][d4I:by rw[old b qf (λz=>by rw[z,e]at q;cases q)];show q][d4J:by cases q;let#[ob,_,_,xo]:=dd;show#[ob,h1,h2.2.1]][d4K:by rw[if_pos h2,if_pos h2];show GQ FX;show GQ FX][d4L:by rcases hq with hq|hq][d4M:by cases this][d4N:by rw[if_neg<|by omega]][d4O:by let Yq:=S1.le _ _ p1][d4P:by let#[Yz,Yp]:=id NG.ins;let#[kp,Wm,_]:=id NG.Lv][d4Q:by subst e;show I1.Sz BU a6N][d4R:by let#[c25,r1,ty,q1]:=gR;let#[ZL]:=c5z I1 r1 ty][d4S:by ext1 cleared;simp only[]][d4T:by let#[vN,fz]:=I1.fz2 hd ho][d4U:by intro ñ s σ H x y v u Q I rx ry ⟨hs,q⟩][d4V:by show J1 W.kitx_dict I.Oy #[o,h1,h2.1] e İ h][d4W:by let#[q,hq,hr]:=Paired.at r hx;rw[<- hl]at st][d4X:by rcases psk i q hq with⟨c,hq⟩|⟨c,rfl⟩][d4Y:by let#[f1,f2]:=fz;rcases p1 with p1|⟨r,p1⟩][d4Z:by rintro _ _ @⟨S,x,hl,hx⟩;show .nx a6B a2r][d40:by let nk:=S.get g<|Ha;let na:=S.get g<|Hk _ Ha][d41:by show absurd (fx) Ia][d42:by let hlen:=r'.length][d43:by let#[sl',e2]:=slots b _ e1 hb;show#[sl',e2]][d44:by rw[old b (λz=>by rw[z,ed]at q;cases q)];show q][d45:by subst e;show I2.Sz BU b1V][d46:by intro _;show rfl][d47:by let LK:=O.fp'][d48:by ext d2Q;show#[2]][d49:by show HR.mpr b2R;rw[Hs.mp QT]at e;rw[e]at hb][d5a:by rw[if_pos rfl]][d5b:by let⟨σ7,H7,I7,n7⟩:=q7;show again I7 n7][d5c:by rw[if_pos h1]at h;let e:=Option.some.inj h][d5d:by rw[hfl];simp only[bne_self_eq_false,Iq,Jn]][d5e:by rcases l with⟨hk,hm⟩|⟨hk,c,hc,VZ⟩][d5f:by let⟨t,q⟩:=rx;cases q][d5g:by show J1 W.kitx_list I.Oy #[_,h1,1] e İ h][d5h:by let hT:=I.LJ.fresh<|Hi _][d5i:by let#[sl,e2]:=slots b o' e1 hb;show#[_,e2]][d5j:by rw[IU,h,JL,IP];simp[KY<|Ks ((GS.mp h).1)]][d5k:by rw[if_neg c]at h;cases h][d5l:by show hc _ _ _ a4R a4R ?_][d5m:by show JE (by simp[hsz]) λi c1 c2=>?_;simp][d5n:by let⟨_,_,_,_,o,_,_,e,_⟩:=x;show#[_,e]][d5o:by rw[hz]at e;cases e][d5p:by rw[merged_take_succ _ _ i p ep];show hd2][d5q:by let pm:=Nd (f:=λm:MZ=>m.1) (l:=LF S ns)][d5r:by let#[lx,e]:=b2p r s UZ C k hx;show#[c6Q]][d5s:by let#[w,_,e]:=GX.mp z;let:=G.pos x<|GY hx][d5t:by rw[Hu,HS]at nd;rcases Hr.mp h with rfl|h][d5u:by ext1 dR;rw[a55];intro ks Xg k hk;rw[ck]][d5v:by rw[er];show JE ė λi c1 c2=>?_;simp[c1]][d5w:by rw[c,h1]at z;cases z;rw[c];show tbl T1.2][d5x:by let#[e,qM]:=I.pin p hp][d5y:by let⟨σ',H',I',q⟩:=q][d5z:by subst ex;obtain rfl:ov=Value.ref ea:=rx][d5A:by rw[<- (rel.val k).Ts,<- l];show h _ yL][d5B:by constructor][d5C:by cases rx;let#[c31]:=b77][d5D:by rwa [GV]at this][d5E:by rcases Hx.mp h with h|h][d5F:by let#[H',I',r]:=g;show#[H',I'.kept hk,r]][d5G:by let#[c2N,a5]:=g][d5H:by simp only[IM,JJ,Bool.not_eq_true']at q][d5I:by have e':=e;injection e' with e';rw[e']][d5J:by let:=q1 vs<|qa s;rw[x1]at this;ext d4M][d5K:by let Ot:=λb o e=>ne1.keeps b o<|GW _ e][d5L:by let⟨σ,H,I,q⟩:=h;show False.elim q][d5M:by ext d2l;show c6l a1p hs][d5N:by subst RW R7 Wn;show GQ<|Hg a5y;rw[Q1]][d5O:by rw[c,h2]at z;cases z;rw[c];show tbl T2.2][d5P:by cases rx;let#[t,1]:=ry][d5Q:by rcases hc with rfl|rfl][d5R:by rw[z]at q;cases q][d5S:by obtain⟨p,ep⟩:∃ p,ps[i]?=!p:=c1n][d5T:by show Hg #[JN _<|by decide +kernel,?_]][d5U:by let hTy:s.TypeIs Ef "zip":=#[_,hz,1]][d5V:by let#[xw]:=gR;subst he][d5W:by ext1 ON;by_cases c:i=w\/LV p Ŗ t=0][d5X:by rcases h with⟨h1,h2⟩|⟨h1,h2⟩][d5Y:by rw[F.len _ _ _ _ hq]at e;show e.symm][d5Z:by ext d2j;let#[p,ys,1,hq,q]:=h;ext d38][d50:by intro F0 H0 F H σ ε l xs Q S h r q][d51:by let da:s1.heap.DictAt _ d vs ep:=a7b][d52:by show absurd (Hb rfl) (IX.mp hf r hr)][d53:by show (HR.mp nd).2.2 x.1 z x.1 ė rfl][d54:by unfold grow at h;by_cases c:H b=none][d55:by let#[od,J,hl]:=I.look][d56:by ext d2c;show W.methodCall_KW wM ht][d57:by ext d2V;let#[p,xs,i,z,2,hq,he,q]:=h][d58:by let#[c4a]:=I.tuple hq][d59:by let#[Ui,Ds,nd,ul,Fi,eW]:=gR;subst he][d6a:by ext d2j;let#[d,ķ,1,hd,q]:=h;ext d38][d6b:by rw[hd b λz=>by cbv];show this][d6c:by let e':¬ q.1=k:=λz=>e<|h1.trans z][d6d:by ext1 without][d6e:by let#[ZL]:=List.pairwise_cons.mp hp][d6f:by let hkl:=KV.length k1][d6g:by rw[if_neg h2,if_neg h2];rw[Ik]at h2][d6h:by let#[o',e1]:=I.base.there b o e hx][d6i:by let#[c6z]:=I.loc][d6j:by rw[ih' λw hw=>h w<|Hk _ hw];split][d6k:by ext d2f;let#[p,xs,1,hq,fx,fs,q]:=h][d6l:by rcases hc with rfl|rfl|rfl|rfl|rfl][d6m:by by_cases e:p.1=k][d6n:by let#[c6j]:=st;let#[mJ]:=I.list hx][d6o:by show#[c48]][d6p:by intro F H σ ε ε' l xs Q S h r q][d6q:by rintro _ _ @⟨p,m,t,hP,Wl,S,hm⟩][d6r:by show .nx #[1] ?_][d6s:by rw[show tb _=.lst xc from rfl,GV]][d6t:by cases hx;ext d2u][d6u:by ext d2I;show M8 b81 λv s1 gR=>?_][d6v:by show F.len _ _ _ _ h][d6w:by ext d38;obtain rfl:u=Value.ref p:=rx][d6x:by cases hx;let UL:=Pu _ _<|eT _ _ Zh][d6y:by let#[BY,q]:=hs;show False.elim q][d6z:by let#[c4a]:=I.list hq][d6A:by let#[q',RV,UZ]:=Paired.at rel ekv][d6B:by rw[List.range'_succ]][d6C:by rw[show _=[] from h]][d6D:by unfold grow at q ⊢][d6E:by let#[c3Q]:=h;ext d3P][d6F:by intro j s v0 e0 hk hj g0 g1 g2 g3][d6G:by let Zn:=k' S _ nW g2][d6H:by rcases hl with (h1|⟨o,h1⟩)|h1][d6I:by rcases I.ok.VE with e|⟨e,hf⟩][d6J:by show GZ #[0]][d6K:by rw[aa<|YK c hc];show (hf c hc).1][d6L:by rw[if_pos z]][d6M:by let p2:=((My.LH p).mp G.prime).1][d6N:by let#[y,ZL]:=GX.mp z;show xi b8P][d6O:by intro Q' E' hq;let#[l,1,hl]:=hcv][d6P:by rw[if_pos h,Il,if_pos<|Hb h];rfl][d6Q:by show#[_,e]][d6R:by let#[c6g]:=gR][d6S:by show Hg ?_][d6T:by let#[c3W]:=F.ex][d6U:by simp only[Hr,Ih,Kk,not_or]at hc][d6V:by show GQ ?_][d6W:by rw[d];show (wz i' lead d2 hl).1][d6X:by ext1 grow][d6Y:by let#[ZG]:=gR][d6Z:by show GQ<|GQ (Ip ?_)][d60:by let#[ZL]:=HB.mp ht][d61:by let#[r,hr,1]:=GX.mp h;ext1 lk][d62:by let#[od,es0,ep0,hod,a4q]:=id VX][d63:by rw[ix _ _ h1,ix _ _ h2];show uv][d64:by let l1:=OP.m (g:=D.str) (x:=nl)][d65:by let#[kQ,a,F]:=F;show#[c4T,gV]][d66:by show hb wh ñ s1 σ H1 Q I1 q1][d67:by rintro i m σ H ⟨rfl,hi,p⟩][d68:by intro i s hn hi hit hl hp hd h][d69:by let#[hb,o7,o8,he]:=gR;subst he][d7a:by let MN:=N.fits.MN;let tz:=N.tz][d7b:by rw[IY,GZ ne];show ih' nd.2 r h][d7c:by show Ky _ b3v List.nodup_range][d7d:by subst hj;rw[hi]at e1;cases e1][d7e:by intro ñ s σ H vs us Q I r h][d7f:by intro _ _;show rfl][d7g:by let#[c5G]:=I.tuple hq;ext d42][d7h:by cases rx;let#[u,1,ru]:=rv.one][d7i:by let#[xs,hx]:=hi.allInts.items][d7j:by rw[JR]at h1;rw[Ir]][d7k:by rw[GU,GR hi];show h _ (Ii hi)][d7l:by show (GZ λz=>nomatch z).symm][d7m:by rw[pL (by simp[pR]) h,GV];rfl][d7n:by subst f2;rw[Yq]at f1;cases f1][d7o:by subst he;let lt:=(GS.mp hk).1][d7p:by show Fl.rt.inj c0N][d7q:by subst h;ext d3I;let#[c6s]:=hw][d7r:by by_cases h2:vs.toArray.size<2][d7s:by rw[HL]at hb;rw[Ik]at h2;omega][d7t:by rw[IP,List.flatMap_singleton]][d7u:by let:=congrArg List.length h.1][d7v:by injection e with e1 _;rw[e1]][d7w:by cases (rx)][d7x:by let#[c5G]:=I.list hq;ext d42][d7y:by let:=hB1 b o2 q;rw[e]at this][d7z:by let SF:=PySem.F.store_object][d7A:by rw[hb];show bF][d7B:by generalize scaled p _ _=lead][d7C:by rwa [aw e1 e2,aw Ł e3]at q3][d7D:by cases e2;show#[ob,ho,c1.2.1]][d7E:by intro i s hn hi Z Rw T5 hd h][d7F:by by_cases c:j=w][d7G:by intro _ _ h;show (Ih h).elim][d7H:by let⟨t,q⟩:=ry;subst q;rfl][d7I:by rw[GV,GV];show HH λk hk=>?_][d7J:by let hz:=P.size][d7K:by show SeqAt.EqAt.of_refs e ?_][d7L:by show I'.pin q (Hh _<|Hh _ z)][d7M:by show hb ñ s1 σ H1 Q I1 q1][d7N:by intro ñ s σ H v u Q I r h][d7O:by let⟨_,rfl⟩:=rx;cases ry][d7P:by rcases q with q|q][d7Q:by let#[mA,O,r,BY]:=b6b I.LJ e][d7R:by let#[cd,hc,ho]:=any_some hp][d7S:by simp only[List.lookup,this]][d7T:by let#[ZL]:=h][d7U:by change (a==b)=_;rw[Jc];simp][d7V:by rw[if_neg z]][d7W:by ext d5R;let#[v,a,b]:=h.at z][d7X:by let MN:=S.MN;let nar:=S.nar][d7Y:by let MN:=W.fits.MN][d7Z:by show hZ _ _ (av λZ hZ=>?_)][d70:by show GQ (KN ?_);show GQ b7p][d71:by let#[c2N]:=g][d72:by show (a4 _ Ha).2 q (HG _ z)][d73:by rw[GV,GV];show HH λj hj=>?_][d74:by cases r;rfl][d75:by show False.elim h][d76:by let sFH:f' F H:=sF.trans LC][d77:by let#[kQ,m,F]:=F;show#[c6T]][d78:by intro e;subst e;rw[h]at h'][d79:by let#[m,#[uf],_]:=id I.loc][d8a:by let#[k,x]:=hd';let ih:=ih'][d8b:by cases e2;show#[o,e,ex.2.1]][d8c:by let#[w1,ew1,r1]:=rv.get ex][d8d:by let f1:=sub_AttributeError][d8e:by rw[c]at rd;show .t rd #[2]][d8f:by congr 1;show HH λt ht=>?_][d8g:by rcases Hx.mp hq with hq|hq][d8h:by rcases Hx.mp hz with hz|hz][d8i:by show a8d hc A h3 h2 P2 D2 k][d8j:by rw[b0Q λ_=>rfl];show#[wv]][d8k:by show (J _).pin p (Hh _ hp)][d8l:by cases e;show absurd rfl d1][d8m:by let#[v,Gh]:=I.cell x c e][d8n:by let#[sT]:=gR][d8o:by show (r).elim][d8p:by intro pos ñ s σ H Q I h][d8q:by ext1 cellsFrom][d8r:by cases (r);rfl][d8s:by cases e';show up b o e hd][d8t:by rw[GP]at this][d8u:by let#[ET]:=b5P hr][d8v:by intro k l q p cs hl hq hp][d8w:by rw[Jj]at q;rw[Jj];ext d3O][d8x:by show JQ a6D ?_][d8y:by let#[c6L]:=gR][d8z:by by_cases z:p.1=y][d8A:by funext b;ext d4D][d8B:by let#[c3Z]:=hx][d8C:by rw[c]at rd;show#[c6O,_,1]][d8D:by let#[_,_,he]:=gR][d8E:by let#[Td,he]:=gR][d8F:by rw[if_pos c]at h][d8G:by ext1 Mk.starts][d8H:by let#[xv,hx,rx]:=VI.at' hv][d8I:λΑ Β=>aq<|aE (Rj Bx.K Hv Hz Hy aH Α<|a9 Β K')][d8J:λΑ=>λ_ _ _ _ _=>kL<|da (Đ 0) Α][d8K:λΑ Β Ε Ζ=>upd (upd Α Β (.own Ε)) Ε (.ins Ζ Β [])][d8L:λΑ Β Ε=>aq<|aE (bd Α Β hr.m<|a9 Ε K')][d8M:λΑ=>Pr (Α C)][d8N:λΑ=>eval Α X.env][d8O:λΑ=>HT.Tj Α Α hi - HT.Tj Α 0 lo][d8P:λΑ Β Ε Ζ Η=>K6 (F.run X.A X.stack s H wu Α Β Q Ε hr I.Xr Ζ Η h) λr s' hq=>?_][d8Q:λΑ Β=>a9 Α<|a9 Β K'][d8R:λΑ Β Ε=>c2L (F0:=F) (H0:=H)<|Α Β ND Ε][d8S:λΑ Β=>bZ Α Β λz=>nomatch z][d8T:λΑ=>Pr (Α c ord)][d8U:λΑ Β=>upd H Α Β][d8V:λΑ Β=>λvs H Q E=>Pr Α vs H Q E\/V4 Β vs H Q E][d8W:λΑ=>grow F H Α][d8X:λΑ=>.builtin "dict.update.loop" #[[.ref d,.ref Α,rawInt i,.none],[]]][d8Y:λΑ=>Α (envOfC ğ scope s.heap.objs.size f cd).kindOf KB λ_=>none][d8Z:λΑ=>ae (top Α)][d80:λΑ=>ar Ae Α][d81:λΑ=>.nx (ε.set i (.ow Α))][d82:λΑ Β=>qs Α ND<|fe (Đ 0) Β hr.m][d83:λΑ Β=>Α #[a,b,vs,ws,2,Β<|s _ _ h1,Β<|s _ _ h3,kq ih h h2 h4]][d84:λΑ=>Α ñ s1 σ H1 _ I1 q1][d85:λΑ=>dG T.Ma<|Đ Α][d86:λΑ=>X.env.kindOf Α=some .cell \/ X.env.kindOf Α=!.free][d87:λΑ=>Pr (Α c)][d88:λΑ=>λ_ V9=>QV X.prog X.w X.outer X.H₀ X.s₀ E Α V9][d89:λΑ=>Α { cls:=.type "dict",data:=.dict [].toArray }][d9a:λΑ Β=>λx y H Q=>c0p K H Α x y/\Q Β H][d9b:λΑ=>dT bn cF Α dI][d9c:λΑ Β=>rI Α λi j=>.int Β][d9d:λΑ=>fI a9T λi j=>RH Α][d9e:λΑ Β=>qr<|RA (Đ 0) Lx hr.m (da (dO Α Β (Đ 1)<|Đ 2) LB)][d9f:λΑ Β=>Kw (p:=λx:Int×Int=>decide Pl) |>.mpr #[x,Α,Hb Β]][d9g:λΑ Β Ε Ζ Η=>λr s₃=>wpAny Α Β (letTemporaryGo value Ε r >>= λ_=>pure r) Ζ Η s₃][d9h:λΑ=>List.Sublist.append Α<|List.Sublist.refl _][d9i:λΑ=>.ref Α][d9j:λΑ=>.Constant Α j pos][d9k:λΑ=>tP (rC (RH Α))][d9l:λΑ Β=>Α ñ s σ H Β I h][d9m:λΑ Β=>W.fnOf Α ğ yt yG jp .none kV doc pm an Β ct][d9n:λΑ=>a9 Α K'][d9o:λΑ Β=>Α ñ s2 Β H2 _ I2 q2][d9p:λΑ=>(λx:jr×D=>x.1) ∘ λx=>(Α<|f x,g x)][d9q:λΑ=>A.under (.builtin "type.__call__" Α)][d9r:λΑ Β=>q1<|qs Α ND Β][d9s:λΑ=>.Call (.Attribute l Α apos) [] [] MB][d9t:λΑ=>cS 1 [1] Α][d9u:λΑ Β Ε Ζ=>Α Β ND<|RA (Đ 0) Ε hr.m Ζ][d9v:λΑ=>(cv cell 4).getD Α 0][d9w:λΑ Β=>Α pos ñ s1 σ H1 _ I1 Β][d9x:λΑ Β=>ME hr (V2 Α<|Đ 0)<|Đ Β][d9y:λΑ=>grow ue H Α][d9z:λΑ=>p.map λi=>Α i .non][d9A:λΑ=>ps.zip (us++Α)][d9B:λΑ Β=>Α λkv=>if kv.1=k then (kv.1,Β) else kv][d9C:λΑ=>c.of Α=c.house][d9D:λΑ=>Qk λε c=>rO Α ra rb ε (.bl c)][d9E:λΑ=>.Call Α [e] [] pos][d9F:λΑ=>qs Α ND (de<|da (de LB).p LB).p][d9G:λΑ Β Ε=>tBM Bx.K "list" iH (cu Α)<|bO (zF<|bO Β Ε) jc][d9H:λΑ=>upd H s.heap.objs.size<|.tup Α][d9I:λΑ=>Pr (Α c fK)][d9J:λΑ=>.BoolOp Α [a] pos][d9K:λΑ=>Α F H _ xs _ Q s (.mk h) hx q][d9L:λΑ=>Α % rs.length][d9M:λΑ=>qT Bx.K<|pv Α][d9N:λΑ=>λx=>decide Α][d9O:λΑ=>λb u n e=>(hb.2 b n).trans Α][d9P:λΑ Β Ε Ζ Η Ι=>c8<|a9 (Α Gk Β hr.m<|a9 Ε Ζ) (a9 Ε<|a9 Η Ι)][d9Q:λΑ=>λ_ _ _ _ _=>c8<|a9 Α (d9n (cP K'))][d9R:λΑ=>aq<|bo Α][d9S:λΑ Β=>bL (DV Α) rfl T.MV bT<|a9 EB (d9n Β)][d9T:λΑ=>d8J (da Α LB)][d9U:λΑ Β=>qs Α ND<|dO c6A Aa (de<|da dI LB).p Β][d9V:λ_ _ _ _=>0][d9W:λd9V _ _ _ hr ND=>0][d9X:Inv X ñ σ][d9Y:λLz A outer s H vs Q E hr=>0][d9Z:M9 P w K mg base][d90:wpAny Ē X.A][d91:congrArg List.length][d92:λσ H Q=>0][d93:Rj Bx.K Hv Hz Hy aH][d94:λd9V _=>0][d95:W.nsIn K][d96:dH N5 P w K mg base N ğ jp f][d97:λH1 e1 S1 q1=>0][d98:d9Z N5 (k+1) f fd ps][d99:λF H x y u v d Q s=>0][e0a:W.findIn K][e0b:Mk.LI p m ç Tm.R][e0c:λ_ _ _ h=>0][e0d:IT (M8 (ha pos ñ s σ H _ I h) λus s1 gR=>?_)][e0e:λF H l xs d Q s z hx=>0][e0f:da (Đ 1)][e0g:λE σ H gR=>0][e0h:fI.mk (C:=λ_ _=>True) (g:=λi j=>RH<|.bl (decide (i<=j)))][e0i:wpAny ē A][e0j:h ñ s σ H][e0k:Fc xs][e0l:Mk.LP p m ê][e0m:Ht X G][e0n:backTo pos][e0o:.seq its.toArray][e0p:without p r lead][e0q:λLz A outer s H E hr=>0][e0r:b3f Hq rfl][e0s:bB Hq rfl][e0t:bE (Sum.inr:Str->jr)][e0u:d96 Lz A outer s H][e0v:RB 0 rfl][e0w:λd99 z hu hv q=>0][e0x:rO (fI (λ_ j=>0<j) λi j=>RH<|.int (i % j))][e0y:cleared p bk ř start a][e0z:λb o e=>0][e0A:λñ s d92 I=>0][e0B:da (Đ 0)][e0C:bi p ř msg fo][e0D:newRow p m][e0E:λx H1 e1 _ q1=>0][e0F:dO b7 NR][e0G:dT bn cF][e0H:Zy c37 c0H rfl T.Ox boot_dict][e0I:cI p ř fo ms many][e0J:Inv X ñ σ' H'][e0K:da (Đ 3)][e0L:LP p m ê T][e0M:grow F H][e0N:Ss F0 H0][e0O:W.hasDictIn K][e0P:PE X e][e0Q:PS X st][e0R:Mk.stN p m ç ê ord][e0S:λouter s H args us vs Q E hr=>0][e0T:Df X.prog X.w X.K X.mg X.base k x ps][e0U:tP.at s q][e0V:a8S Hq rfl][e0W:LS K H a][e0X:List.replicate k][e0Y:F.run A outer s H args us vs Q E hr][e0Z:λx hx=>0][e00:λf fd F=>0][e01:upd (upd b95 ea<|.ins CE dx []) ea (.ins CE dx [("rows",.ref rd)])][e02:envOfC ğ scope s.heap.objs.size f][e05:λ_ _ _=>0][e06:I.turned Ŝ f0 f1 f3 f4][e07:PI X tg][e08:W.plainOver K][e09:sp vs H Q][e1a:scaled p][e1b:e2 _ _][e1c:d9Z N5 1 f fd][e1d:λd94 _ _=>0][e1e:LO F l][e1f:bB hp hc hi ht hbx hs ñ s σ H][e1g:SeqAt.EqAt A s][e1h:Mx.run p][e1i:LO.Ni h k k' l][e1j:congrArg D.lst][e1k:.mk (by simp) (λks h=>by rw[Hs.mp h];show#[O,W]) hp Vk hm][e1l:λñ s σ H=>0][e1m:W.plainGet K][e1n:backToKw pos][e1o:h'.DictOf knd s.heap.objs.size][e1p:cK (a:=a) (o:=.dK ķ)][e1q:nO (tb:=λE σ H=>∃ F0 H0,tQ F0 H0 rb E σ H) kR hg S1][e1r:da (Đ 5)][e1s:cO p m ç ê][e1t:c4q S I' Ta Sv QE.hd I'.ok.frames QE.depth rx (Hh _ Ha) a3][e1u:d9Z fQ (k+1) f fd ps][e1v:λH2 e2=>0][e1w:Mx.step p bk a7S][e1x:Ln2 c H nl cs a Ln n dp dt tl][e1y:λxs H Q=>0][e1z:λi h h' st k=>0][e1A:λe0z n hb hx=>0][e1B:min xs.length][e1C:LI p m ç T.R][e1D:λF H σ ε ε' d x Q S=>0][e1E:λd92 gR=>0][e1F:k b o (λz=>hc<|by simp[z])][e1H:wpAny M A][e1I:e1 _ _][e1J:S1.le _ _][e1K:dZ hc S hi hg ht he][e1L:RA (Đ 0)][e1M:da (Đ 2)][e1N:rO Sub][e1O:.k rfl kS][e1P:base.Ns mainGlobals][e1Q:λF0 H0=>0][e1R:λa1 a2 a3 a4 a5 a6 a7=>0][e1S:DR F d][e1T:dO cQ NR][e1U:look U x][e1V:sF _ _][e1W:c2D (K:=Bx.K)][e1X:wx (f:=λg:Str=>g)][e1Y:aJ X scope N' cells C s H][e1Z:lT q rb ε yE][e10:λi h st b hb=>0][e12:λh1 h2=>0][e13:λH1 e1=>0][e15:λb H3 vs e3 hb hv hd=>0][e17:λa b h2 h3=>0][e18:Os x][e19:wpAny Ē A][e2a:Heap.MadeExcOf s.heap h'][e2b:aW (i:=3) ND rfl rfl rfl][e2c:da (Đ 4)][e2d:aW (i:=5) ND rfl rfl rfl][e2e:Mk.R1 p mixed A s][e2f:W.ln.fits.ahead i][e2g:Mk.PZ es.length w][e2h:Ny.mk (fo:=none) (W.a3P<|by lia) hP p1 G a0V][e2i:s.heap.FunFrames X.base][e2j:LU X.prog X.w][e2k:uV P w K tg][e2l:I.turned a7U f0 f1 f3 f4][e2m:W.takerIn K][e2n:sb.extBut _ _][e2o:gB 1 js (c6 0) yj te σ][e2p:run p bk ř][e2q:Lw t.length][e2r:congrArg D.bl][e2s:zU ts U g c][e2t:Mk.lk R][e2u:Mk.Mi ê][e2v:cg (S.LW.take i) msgs L][e2w:W.CodeHd base][e2x:λi x ε hx gR=>0][e2y:Q .non][e2z:Df P w K mg base][e2A:plainId_quiet b4U][e2B:CodeHd s₁.heap][e2C:λd9Y h=>0][e2D:sliceBounds lo hi none][e2E:FR X.prog X.w X.K X.mg X.base k x ps dvs][e2F:b4N (p:=p) (ř:=ř) (msg:=msg) (fo:=fo) F][e2H:I.base.keep b o][e2I:jL X ñ][e2J:Looks ē s.heap][e2K:DiX X.prog X.w X.K X.mg X.base k x C ps][e2L:QS X st][e2M:qQ a7I r2 ε][e2N:us.foldl nL][e2O:bX Bx.K][e2P:Flow ts][e2Q:Uw CE H G0 ks LA MD m][e2R:QH SZ k f fd][e2S:d95 mainGlobals][e2T:dE I hg hm][e2U:Dm X.prog X.w X.K X.mg X.base k C m ps][e2V:q (u x) ε][e2W:gK h g N][e2X:c0F W.QR hO][e2Y:cg gs msgs][e2Z:λh' tk=>0][e20:λvs H Q E=>0][e21:λe05 H _ I h=>0][e22:wpAny_lookBehind hoD][e26:dB c4K (lM Bx.K rfl) rfl T.X0 boot_all][e27:cH S p ř none Av m][e28:λ_ _ gR=>0][e29:I.base.there b][e3a:xF LX hr.m rfl][e3b:λb hb=>0][e3c:λε gR=>0][e3d:I.base.slot b o e n][e3e:fr ((ord.take n).map (·.1)) (st w)][e3f:envX ğ scope s.heap.objs.size f cd][e3g:dc gs.zipIdx msgs L][e3h:bindArgs Ę][e3i:λσ H=>0][e3j:jP (tI ri) zy js xf Ee vC σ H][e3k:rO (fI Wz λi j=>RH<|.int (i * j))][e3l:a0q (p:=p) (m:=m) (ç:=ç) (ê:=ê)][e3m:wpAny Ē X.A.in1 (collect u) Q' E'][e3n:λb o _ _ hc e=>0][e3o:λb o hb=>0][e3p:λb o nb hb=>0][e3q:λQl al an has hp=>0][e3r:λσ G _ gR=>0][e3s:k _ _ ĵ][e3t:I.base.free b][e3u:k it ė o][e3v:b Lz A outer s H E][e3w:RA (Đ 2)][e3x:XH (n:=0)][e3y:bV fB][e3z:a3L A (ts:=bP bs k)][e3A:Mk.start m ç][e3B:c2L (F0:=F) (H0:=H)][e3C:e1h bk ř][e3D:λx H1=>0][e3E:absurd (show b∈([]:υ) from z)][e3F:XZ.m (f:=λm:MZ=>(.inl m.1:jr))][e3G:λy hy=>0][e3H:Un fs ex H][e3I:NO.go S][e3J:s.heap.DictOf knd][e3K:LO F Ţ][e3L:Mk.moved p][e3M:x8 (p:=p) (i:=n - (q+1)) (j:=n)][e3N:W.keepIn K][e3O:λσ' H' F' u S'=>0][e3P:LU P w][e3Q:Un (Rc X.stack) ch H H' s.heap][e3R:EP X ñ σ Q][e3S:ME hr (Đ 1)][e3T:QH N5 1 f fd][e3U:ME hr (Đ 0)][e3V:dq (ts.filter λt=>Ui t.1) g N][e3W:eK (cC rfl) rfl T.Ox boot_dict][e3X:AI c H nl b7s a Nn Ln n dp dt][e3Y:IB X G][e3Z:λd94 _ us hl=>0][e30:c1S p m ç ê ord][e31:h.Ns mainGlobals][e32:W i m σ][e33:PE X a0K][e35:I.frd hd][e36:S.le _ _][e37:IsPair h' s.heap.objs.size x][e38:dT b3b b1E][e39:dT gL eA][e4a:I.keys R][e4b:toΓ _ _][e4c:Ll1 c H fi a Nn Ln n dp dt j][e4d:e07 iter][e4e:λq hq=>0][e4f:λH i d s e=>0][e4g:λi j hi hj=>0][e4h:λa b RX hb=>0][e4i:λd94 st h=>0][e4j:λe1d us hl=>0][e4k:λe1v S2 q2=>0][e4l:.cons r][e4m:Os v][e4n:I.ok.bs b o][e4o:t σ H][e4p:D.nx σ][e4q:g x σ][e4r:Mq c H' n dp dt][e4s:c5C EB][e4t:without p][e4u:q _ H1 e1][e4v:s.heap.IsList l][e4w:.mk rfl rfl][e4x:rO EY ra rb ε][e4y:da (Đ 6)][e4z:fe (Đ 0)][e4A:.k rfl kI][e4B:Mg ts U][e4C:Bf ts U h][e4D:List.replicate mixed.length][e4E:I.ok a.1 LY][e4F:A.foldl b45][e4G:Tb _ _][e4H:N6 rfl][e4I:Mk.ON p B i][e4J:nwL ks LA H][e4K:toG I _ _][e4L:Mk.Ol es.length][e4M:Paired Ĵ][e4N:HE (Kt<|Array.size_push ..)][e4O:kZ P pos][e4P:I0.turned (d9O e) p2 p3 c0Z][e4Q:CodeHd base][e4R:asItWas s₁.heap s'.heap b][e4S:tQ F0 H0 r E σ][e4T:Mq c G' n dp dt][e4U:cv cell][e4V:es.getD i][e4W:d90 b6P Ĺ X.xe][e4X:e1h rD t][e4Y:Vy P w K mg base A outer s][e4Z:k _ _ _ _ u v _ _ S2.le h1][e40:upd H3 c1N (.lst<|ys++lS)][e41:hb T kV doc pm an Lz ct us][e42:λ_ _ q=>0][e43:λvs H1=>0][e44:λb o q=>0][e45:λr hr=>0][e46:λc G e z=>0][e47:λA e0S he hb hv hs=>0][e48:I.base.Qp b xs][e49:I.base.RF b ps][e5a:u.keep b o e n][e5b:isTrue e X.env][e5c:CX outer H s E][e5d:seqIndex_of h0][e5e:dR p ř msg fo][e5f:dF M3 hr.m rfl][e5g:eL p ř msg fo][e5h:Heap.FlyingW B l e cls a0][e5i:Mq c G n dp dt][e5j:a2c c H fi a Ln n dp dt i][e5k:λσ2 H2=>0][e5l:λxs e13 S1 hx=>0][e5m:HE I.ok.Ww][e5n:Os y][e5o:LS X.K][e5p:IntsAre us][e5q:IntsAre vs][e5r:ZipApart z TI TO i1 i2 a][e5s:.int 0][e5t:gB zy js xf Ee vC σ][e5u:grow F0 H0][e5v:Ni a o][e5w:rb ε1][e5x:ar a6A][e5y:aW (i:=2) ND rfl rfl rfl][e5z:b4j fB][e5A:WA fB][e5B:aW (i:=7) ND rfl rfl rfl][e5C:Qm Ħ h ws][e5D:dq L g][e5E:start m ç][e5F:Mk.ub p us][e5G:.cons (b:=q) ⟨e1,r1⟩][e5H:.cons (b:=c) ⟨e2,r2⟩][e5I:W.kitOne K][e5J:d9X H'][e5K:e0l Tm][e5L:e2O (n:=2)][e5M:λv' h2 tk2 gP' k2=>0][e5N:Fc ys][e5O:I.Nf x c][e5P:P9 X.prog X.w][e5Q:SP X ñ][e5R:PA X es][e5S:jO C m sp dvs][e5T:PE X a4B][e5U:Ms X c6M][e5V:I.LJ a v][e5W:absurd z][e5X:subscripted slice false][e5Y:au Þ Þ][e5Z:List.range' s][e50:tP.go S1][e51:YH F0 H0][e52:Heap.NewExcOf s.heap h'][e53:h1.DictOf knd][e54:tP.go S][e55:s.heap.IsListIter i2 l2][e56:S.chg (d:=.lst l) h1 p1][e58:lj ri q rb ε][e59:lH xs I h0 hl][e6a:Pf Bx.K][e6b:dO bQ NR][e6c:red p ň][e6d:Zy a8t (gC rfl) rfl T.Q9][e6e:dT b1z eA][e6f:List.replicate A.length][e6g:bE kf nm][e6h:Paired a2m vs][e6i:Mx.LV p][e6j:r6 CE dx][e6k:V3 lt p][e6l:W.frame _ _ _][e6m:M9 l.prog w mP mg base][e6n:d9Z CX k f fd][e6o:e0D KF R][e6p:e0N F σ][e6q:e4Z (q1.mono<|ao S1.le)][e6r:λt ht=>0][e6s:λe1v _ q2=>0][e6t:h1.extBut hs₁.extBut][e6u:Rw.extBut hs₁.extBut][e6v:W.fits.ahead i m ks hm][e6w:List.zipWith c2k mixed][e6x:bL (a33 Bx.K) rfl T.Ma][e6y:Inv X (own++a2k) σ H'][e6z:a1x F Ng LX PY Lu MA Ow][e6A:e1W (xs:=cs.map V.int)][e6B:λb u q=>0][e6C:λs1 gR=>0][e6D:λx y H Q=>0][e6E:λb o b1 b2=>0][e6F:λd94 _ hr ND=>0][e6G:λD e3i=>0][e6H:λs1 e3D I1=>0][e6I:P9 P w][e6J:Rd H a][e6K:u.there b][e6L:Heap.SameBut a s.heap][e6M:BindsTo s fd][e6N:cellsFrom ń][e6O:WB xs.length][e6P:upd H2][e6Q:QV X.prog X.w X.stack][e6R:mk.keeps b o][e6S:eS ķ p.1][e6T:.int es.size][e6U:bs.getD i][e6V:cleared p bk][e6W:wz i lead][e6X:S.ro i][e6Y:Ot _ _][e6Z:I2.kept (t':=s1.toks)][e60:jP yf zy js xf Ee][e61:rO (fE true) ra rb ε][e62:.mk ha hb][e63:QH N5 k f fd][e64:be DZ][e65:.t DL][e66:gH p t][e68:b2t (n:=true)][e69:da (Đ 9)][e7a:Q7 t x][e7b:Wy.without U][e7c:B.P8.names E][e7d:gO c n][e7e:G.ways LY][e7f:bx (bb S.Ls<|some ks)][e7g:a9 Gf][e7h:a9 Gk][e7i:bP Dq][e7j:MvI F H a f ml i k vo][e7k:a0x Bx.K rfl][e7l:a1i (K:=Bx.K)][e7m:k2 b o b1 b2][e7n:LO.nt e l][e7o:Inv (X.RE E) ñ σ H][e7p:NP X (compareOp .Eq)][e7q:CE outer P w H s Q u][e7r:aO Dd hr hg ha OO he][e7s:dZ rfl (cS 1 [] D7)][e7t:OS.items ih r1 r2 h3][e7u:Ny ⟨CN,CP,CH,CL⟩][e7v:SH ⟨CN,CP,CH,CL⟩][e7w:λb u e=>0][e7x:λA i s Q E st h=>0][e7y:λy dy ny ndy ne=>0][e7z:λlc H' as vs e'=>0][e7A:Value.int i][e7B:I.base.Rb b][e7C:PE X ų][e7D:Pv i σ][e7E:W.instObj C][e7F:eval Ğ][e7G:F.run _ X.stack _ _][e7H:PE X ę][e7I:Ms X Ņ][e7J:h pos ñ s σ H _ I][e7K:PE X (.List es pos)][e7L:sE e' c' d'][e7M:ar (top 29)][e7N:MK ř start][e7O:Inv p a][e7P:Sd F σ][e7Q:rL n js ri Bb re ε][e7R:Pr R vs H Q][e7S:a4v knd s.heap items][e7T:Ni a o'][e7U:hs₁.extBut _ _ c1][e7V:Tm (k+1) x ğ st ps][e7W:uw (f:=λm:MZ=>m.1)][e7X:List.append_inj' e'][e7Y:Int.dvd_mul_right p][e7Z:moved p][e70:Oq p ê][e71:b3B CE R][e72:nj Bx.K rfl][e73:Pre p n][e74:lZ S.Ls m p][e75:.mk hP p1 O][e76:d90 a7O Q E][e77:e0j Q I][e78:e1s ord][e79:λp hp=>0][e8a:λz hz=>0][e8b:λz ε hz gR=>0][e8c:λg ε hg gR=>0][e8d:I.LJ b][e8e:PT X e][e8f:PT X c][e8g:NC K H a][e8h:NP X b0L][e8i:eval ZU][e8j:wpAny Ů][e8k:LS K H p][e8l:wpAny_specialOf hT][e8m:I.LJ d _][e8n:Nk c H v][e8o:gf (v:=.int 8) rfl][e8p:au Ý Ý][e8q:Vu F H d][e8r:opI hb hv][e8s:bp (eS ķ q.1 q.2)][e8t:dL 2 rfl][e8u:dL 0 rfl][e8v:dT b8C b31][e8w:RB 4 rfl][e8x:Nat.le_add_right _][e8y:A.getD n][e8z:QB p mixed A s b2J][e8A:G.ech LY][e8B:So.Pre p vs.length][e8C:Nat.min_le_right i][e8D:d90 (f v u) Q X.xe][e8E:λ_ _ h=>0][e8F:λi H x H'=>0][e8G:λj hj=>0][e8H:λi d q=>0][e8I:λH3 e3=>0][e8J:λH i s z=>0][e8K:λo H2 fz=>0][e8L:λgR ε Yf=>0][e8M:λG d p jG sb tb hD pm so=>0][e8N:λe3i R=>0][e8O:I.cell x c][e8P:NC X.K H a][e8Q:b9E (vs:=Ty) F hr][e8R:.seq its'.toArray][e8S:fitsIndex_both h1][e8T:List.replicate nT][e8U:Int.fmod p][e8V:Int.fmod a][e8W:grow F1 H1][e8X:s.heap.IsTuple t'][e8Y:Fz X H1 H2][e8Z:Sr.sh.Q5 r][e80:dF MW hr.m][e81:dF LM hr.m][e82:congrArg Prod.fst][e83:Rea ts U h][e84:c1K _ _ _ _][e85:ub p (T.2.take n)][e86:shown p ê][e87:da (RY a90<|Đ 1)][e88:W.exmAny K][e89:dR p ř ŕ fo yn][e9a:Sd F (some v::σ)][e9b:Wx CE MD m][e9c:P4 m p Av][e9d:Inv X (own++_) σ][e9e:FR P w K mg base][e9f:bM L.Lv.RU][e9g:Q (.int d)][e9h:bi p r2 msg fo ms][e9i:OT Bx.K x ğ st f][e9j:d93 (pv 4)][e9k:e0G (Đ 2)][e9l:e1H t Q' E][e9m:λa ha=>0][e9n:λε' σ6 H6 F6 hI u6 S6=>0][e9o:List.replicate m][e9p:closureFor scope][e9q:bD X scope nT js][e9r:hs₃.extBut _ _][e9s:hs₂.extBut _ _][e9t:tQ F0 H0 rb E σ][e9u:a6t (c:=c) (S:=S)][e9v:ff ts (!h) g N m][e9w:eq_str (ε:=b1M)][e9x:List.zipWith b7F][e9y:NE X W (st::ss)][e9z:bL (DV Bx.K) rfl][e9A:Paired (OI G) vs][e9B:cG (S.Ls.take j)][e9C:Rj K Hv Hz Hy aH][e9D:Q (.int (u:Int))][e9E:Q (.int (v:Int))][e9F:PySem.W.exmAny K][e9G:d90 (d8N ų) Q E][e9H:λ_ _ x=>0][e9I:λσ' H' p'=>0][e9J:λLY he way hw=>0][e9K:λxs d97=>0][e9L:λe1D h r q=>0][e9M:.cons _][e9N:upd H a][e9O:pQ X.env.scope][e9P:PE X o][e9Q:I.pin p][e9R:NP X f][e9S:lq f v][e9T:swapsWith value][e9U:.cons rfl][e9V:au N ps][e9W:s.heap.update p][e9X:Ms X f][e9Y:backTo MB][e9Z:upd H T][e90:Itz K a][e91:a7N h C][e92:.str name][e93:Inv b9D Qy σ H][e94:X.Rh ea][e95:eS ķ k][e96:valueAt (q::qs)][e97:dot (x.map p7)][e98:R.sh.Q5 _][e99:DR F' d][f0a:q x H2][f0b:S.ro j][f0c:tP.go S.z][f0d:a1Q is l][f0e:h'.DictOf knd d][f0f:h h' tk][f0g:I.kept (t':=tk)][f0h:e3 _ _][f0i:c6k h' z TI TO T][f0j:a7 _ _][f0k:O4 _ _][f0l:Q2 X ss][f0m:RY (Đ 3)][f0n:iZ rfl][f0o:MQ p t][f0p:Mx.Lw m][f0q:bi p ř][f0r:UD (·.1)][f0s:bfs ts][f0t:Og ts U h][f0u:fh ts xz][f0v:NK p k vs][f0w:h.off w j hw hj][f0x:c6F rfl][f0y:ag (pC 0)][f0z:xV CE R][f0A:W.InstAt s.heap][f0B:ng Bx.K][f0C:QH SZ 7 f fd á][f0D:cG S.Ls][f0E:bE kf yg][f0F:bP (bv S)][f0G:eG _ _][f0H:Mk.Mh m][f0I:kas_rev p][f0J:Dn lt p][f0K:D.far a][f0L:k' b o b1][f0M:vs.getD i][f0N:a9u rfl rfl T.Z3][f0O:kz.getD i][f0P:kz.getD j][f0Q:p.toList.getD i][f0R:h s2 vs _ out c][f0S:Sb P H][f0T:lk _ _][f0U:S6.le _ _][f0V:Hd b o][f0W:xq L rb][f0X:Mo k x ps][f0Y:c4J F O TN TH MX][f0Z:e0r uD][f00:e0N F'][f01:e0Y he hb][f02:e1a ħ][f03:e1c Þ][f04:e3P H h][f05:e5o H p][f06:λk hk=>0][f07:k b u (hb b n)][f08:W.of_hideAll _][f09:u.slot b o e n][f1a:Inv X ñ wj H][f1b:Int.fmod_def p][f1c:gNs is xs σ H][f1d:lf rt rb n ε][f1e:dF NY hr.m rfl][f1f:dF MH hr.m rfl][f1g:congrArg V.str][f1h:dF Na hr.m rfl][f1i:dF LZ hr.m rfl][f1j:nums.foldl Zc][f1k:aZ (f'.refl _)][f1l:St lt (g p' b)][f1m:cB (ns.take i)][f1n:he _ _ _ _ _ _][f1o:Gp msgs.zipIdx][f1p:b9 _ _ b6I b6J][f1q:dF MY hr.m rfl][f1r:e2T boot_range][f1s:e3y Gk (Đ 3)][f1t:λs2 gR=>0][f1u:λa1 a2 a3 a4=>0][f1v:λw' s3 I3 UE=>0][f1w:λa H2 vs e2 ha hv hd=>0][f1x:λe0e q=>0][f1y:λa e1v h2 ha=>0][f1z:λe2Z hD keep=>0][ą:λ_ _ _ _=>0][Ĉ:λ_ _ _=>0][ĉ:λ_ _=>0][č:λċ Č=>Nc K ċ ċ Č][Ď:λċ=>d95 mainGlobals ċ=!none][ď:λċ Č ĥ=>d95 mainGlobals ċ=!some (.int Č ĥ)][Κ:λċ Č=>d95 mainGlobals ċ=!some Č][Μ:λċ=>e0a ċ "__setattr__"=!some ĝ]:by lia:=by
 refine Classical.byContradiction fun ĥ=>?_
 refine ĥ ?_
 try clear ĥ
 exact by first|assumption|(simp_all;done)|lia
open List renaming length_map->GP,getElem?_eq_getElem->GR,getElem?_eq_some_iff->GS,getD_eq_getElem?_getD->GU,map_map->GV,mem_map->GX,mem_of_getElem?->GY,mem_cons_self->Ha,map_append->He,getElem?_map->Hf,mem_append_right->Hh,mem_cons_of_mem->Hk,length_take->Hl,mem_map_of_mem->Hm,length_append->Ho,mem_cons->Hr,mem_singleton->Hs,map_cons->Hu,mem_append->Hx,mem_filter->HB,append_nil->HF,mem_append_left->HG,map_congr_left->HH,take_length->HJ,length_filter_le->HK,length_range->HL,length_cons->HM,getElem?_append_left->HQ,nodup_append->HR,nodup_cons->HS,getElem?_append_right->HU,mem_iff_getElem->HX,mem_of_find?_eq_some->HZ,append_assoc->Ib,length_singleton->Ie,mem_range->Ig,not_mem_nil->Ih,getElem_mem->Ii,size_toArray->Ik,filter_cons->Il,all_eq_true->Io,take_append_drop->Iz,getElem?_take_of_lt->ID,filter_append->IH,nil_append->II,mem_zipIdx_iff_getElem?->IJ,flatMap_append->IP,getElem?_eq_none->IS,take_add_one->IU,map_uncurry_zip_eq_zipWith->IW,find?_eq_none->IX,find?_cons->IY,take_of_length_le->IZ,map_nil->J0,find?_some->J2,length_zipIdx->J3,getElem?_zipIdx->J4,flatMap_cons->J7,length_zip->Jb,drop_eq_getElem_cons->Jd,map_take->Jf,eq_of_mem_replicate->Jg,pairwise_map->Ji,getElem?_set->Jj,of_mem_zip->Jl,foldl_cons->Jm,getElem_of_mem->Jo,filter_sublist->Jp,mem_flatMap->Jr,take_zero->Jt,nodup_nil->Ju,map_id'->Jw,getElem_take->Jx,all_map->Jy,getElem?_range->JA,length_eq_zero_iff->JD,ext_getElem->JE,zipIdx_append->JL,filter_eq_nil_iff->JM,length_nil->JR,mem_iff_getElem?->JV,getElem?_zipWith->JW,filter_congr->JZ,lookup_cons->K8,pairwise_iff_getElem->Kc,mem_take_iff_getElem->Ke,replicate_succ->Kh,filterMap_cons->Ki,getElem?_drop->Kn,take_sublist->Ku,forIn_nil->b8y,find?_isSome->Kw,find?_append->Kx,length_drop->KG,getElem_inj->KH,map_drop->KJ,any_cons->KL,take_append_of_le_length->KP,mem_of_mem_take->KQ,mem_erase_of_ne->KR,getElem_zipWith->KS,eq_nil_of_length_eq_zero->KU,zipIdx_map->KZ,range_succ->L1,forIn_cons->a4l,zip_cons_cons->Lb,forIn_toArray->Lc,filter_filter->Ld,getElem?_zip_eq_some->Lg,foldl_append->Lj,flatten_cons->Lk,ext_getElem?->Ll,all_cons->Lp,Sublist.map->K9,Pairwise.map->Ky
open PySem renaming wpAny_bind->GQ,wpAny_pure->Hg,wpAny_holding->Ip,sizeLine_eq->Ir,wpAny_Call_Name_kw->Iy,wpAny_mono->IC,mem_of_lookup->Ja,wpAny_truthy_bool->Jh,wpAny_callSpecial?_slot->JB,wpAny_typeNameOfWhole_keyiter->JH,wpAny_passesOwn->JP,codeAny_builtin->JQ,wpAny_standAt->JT,wpAny_tryCatch->K3,wpAny_seqItems->K4,wpAny_call_entry->K5,codeAny_mono->K6,wpAny_pyIter_list->Kp,wpAny_newObj_type->Kq,wpAny_loadPart_at->Kr,plainObj_wpAny_Assign_Attribute->c6l,wpAny_notOrdered_dict->KA,wpAny_call->KD,wpAny_attempt->KI,wpAny_letGo->KN,wpAny_execs_nil->KW,wpAny_typeOf->L7,call_meets->La,wpAny_field->Lh,wpAny_dictEntries->Li,wpAny_newList->Lo,PassesOwn.never->Hq,W.mg_none_of->Ht,W.mg_of->IB,W.kia_one->J1,W.callWith_K->Km,F.plainAttrs_list->Hv,F.type_list_append->Hy,F.slot_list_append->Hz,F.plain_max_loop->b4U,F.slot_dict_keyiterator_next->a2V,Heap.SameBut.update->IQ,Code.quiet_builtin->JN,Calls.callWith_builtin->JO,BindsTo.of_defaults->c1I,W.KasT.kasWp_bind->L5
open PySem.Heap renaming get?_push_of_some->GW,get?_push_size->Hw,lt_size->HD,get?_update_other->J9,size_push->JF,get?_update_self->JX,get?_update_ne->L6
open _root_ renaming decide_eq_false->GZ,decide_eq_true->Hb,of_decide_eq_true->HA,of_decide_eq_false->IF,if_false->Jn,decide_eq_decide->JC,beq_iff_eq->JJ,beq_eq_false_iff_ne->Kg,or_false->Kk,decide_eq_true_iff->L9
open Nat renaming le_refl->Hi,le_trans->HE,lt_of_lt_of_le->HN,zero_le->HP,ne_of_lt->HY,ne_of_gt->IG,lt_succ_self->IK,lt_irrefl->IL,lt_of_le_of_lt->JK,lt_succ_of_lt->JY,succ_mul->K7,not_lt_zero->Kl,le_of_lt->Ks,le_of_eq->Kt,mul_le_mul_right->KO,min_eq_left->KY
open Option renaming map_eq_some_iff->HI,isSome_iff_exists->Iv
open Int renaming emod_lt_of_pos->HV,emod_nonneg->Ij,fmod_eq_emod_of_nonneg->Im,dvd_mul_of_dvd_right->Iw,dvd_of_emod_eq_zero->IE,emod_eq_of_lt->IV,toNat_natCast->J8,emod_add_mul_ediv->Je,emod_eq_zero_of_dvd->Jk,dvd_add->Jq,dvd_sub->Jz,mul_le_mul_of_nonneg_left->JI,zero_add->Ka,emod_eq_emod_iff_emod_sub_eq_zero->Kb,dvd_mul_of_dvd_left->Ko,le_of_dvd->Lq
open Array renaming length_toList->HW,getD_eq_getD_getElem?->Iu,getElem?_eq_getElem->Kf,getElem?_toList->KC,forIn_toList->c29
open Bool renaming false_ne_true->Ia,false_eq_true->Iq,and_eq_true->IM,eq_iff_iff->Jc,false_and->Le,false_or->Lr
open True renaming intro->Js
open PyProof renaming Rows.callWith_type1->IT,Rows.get?_update_seq->Jv,Rows.listUpdate_at->JU
namespace L2
open PySem PySem.Spec PyProof.Rows
abbrev jr:=Sum Int Str
theorem sw:jr->Value->Bool
 | .inl k,v=>Value.isInt k v
 | .inr x,v=>Value.isStrOf x v
theorem a8v (w):jr->Int
 | .inl k=>hashInt k
 | .inr x=>hashStr w x
def bu:∀ {k:jr}{v:Value},sw k v=true->(∃ i t,k=Sum.inl i/\v=e7A t)\/(∃ x t,k=Sum.inr x/\v=Value.str x t)
 | .inl i,v,h=>by let#[t,e]:=Value.isInt_shape h;show .inl #[i,t,1,e]
 | .inr x,v,h=>by let#[t,e]:=Value.isStrOf_shape h;show .inr #[x,t,1,e]
def b0h (i:Int)(t:Tok):sw (.inl i) JG=true:=by simp[sw,Value.isInt]
def a5D (x)(t:Tok):sw pP (.str x t)=true:=by simp[sw,Value.isStrOf]
def a09 (a b:Int):decide ((Sum.inl a:jr)=Sum.inl b)=(a==b):=by grind
def a05 (a b:Str):decide ((Sum.inr a:jr)=Sum.inr b)=decide (a=b):=by grind
def a08 (a:Int)(b:Str):decide ((Sum.inl a:jr)=Sum.inr b)=false:=GZ c1Z
def a06 (a:Str)(b:Int):decide ((Sum.inr a:jr)=Sum.inl b)=false:=GZ c1Z
abbrev _root_.É:=Program
theorem aQ (prog:É)(w):PySem.KeyKind prog w jr where
 is:=sw
 hash:=a8v w
 inj:=λv a b ha hb=>by
  rcases bu ha with⟨i,t,rfl,rfl⟩|⟨x,t,rfl,rfl⟩
  ·rcases bu hb with⟨j,u,rfl,e⟩|⟨y,u,rfl,e⟩
   ·ext d7v
   ·show nomatch e
  ·rcases bu hb with⟨j,u,rfl,e⟩|⟨y,u,rfl,e⟩
   ·show nomatch e
   ·ext d7v
 byValue:=λk v h=>by
  rcases bu h with⟨i,t,rfl,rfl⟩|⟨x,t,rfl,rfl⟩ <;> rfl
 pyHash:=λhv h=>by
  rcases bu hv with⟨i,t,rfl,rfl⟩|⟨x,t,rfl,rfl⟩
  ·show wpAny_pyHash_int h
  ·show wpAny_pyHash_str h
 eqBool:=λhu hv h=>by
  rcases bu hu with⟨i,t,rfl,rfl⟩|⟨x,t,rfl,rfl⟩
  ·rcases bu hv with⟨j,u,rfl,rfl⟩|⟨y,u,rfl,rfl⟩
   ·rw[a09]at h;show wpAny_eqBool_int h
   ·rw[a08]at h;show SeqAt.EqAt.int_str i t y u ą h
  ·rcases bu hv with⟨j,u,rfl,rfl⟩|⟨y,u,rfl,rfl⟩
   ·rw[a06]at h;show SeqAt.EqAt.str_int x t j u ą h
   ·rw[a05]at h;show wpAny_eqBool_str h
 «strs»:=λk x t v h=>by
  rcases bu h with⟨i,u,rfl,e⟩|⟨y,u,rfl,e⟩
  ·show nomatch e
  ·injection e with e1 _
   subst e1
   cases v <;> rfl
def b71 (prog:É)(w)(i:Int)(t:Tok):(aQ prog w).is (.inl i) JG=true:=b0h i t
def c2R (prog:É)(w)(x)(t:Tok):(aQ prog w).is pP (.str x t)=true:=a5D x t
inductive V where
 |non|bl (b:Bool)|int (i:Int)|str (x:Str)|byt (b:Array UInt8)|flt (b:UInt64)|ref (a:Addr)|ty (n:String)
 deriving DecidableEq
theorem Os:V->Value->Prop
 | .non,u=>u=Value.none
 | .bl b,u=>u=Value.bool b
 | .int i,u=>∃ t,u=e7A t
 | .str x,u=>∃ t,u=Value.str x t
 | .byt b,u=>∃ t,u=Value.bytes b t
 | .flt b,u=>∃ t,u=Value.float b t
 | .ref a,u=>u=Value.ref a
 | .ty n,u=>u=Value.type n
abbrev Fc:List V->List Value->Prop:=Paired Os
def Fc.length (r:e0k us):xs.length=us.length:=Paired.length r
abbrev _root_.π:=List V
abbrev _root_.θ:=List Value
def Fc.get:∀ {xs:π}{us:θ}{i:Nat}{x:V},e0k us->xs[i]?=!x->∃ u,us[i]?=!u/\Os x u:=by
 intro xs us i x h
 induction h generalizing i with
 | nil=>intro e;simp at e
 | cons r t ih=>
  intro e
  cases i with
  | zero=>cbv
  | succ i=>show ih AF
def Fc.set (d0e):∀ {xs:π}{us:θ} (i:Nat),e0k us->Fc (xs.set i x) (us.set i u)
 | _,_,_,.nil=>.nil
 | _,_,0,e9M t=>e4l t
 | _,_,i+1,.cons q t=>.cons q (Fc.set r i t)
def Fc.append:∀ {xs ys:π}{us ws:θ},e0k us->e5N ws->Fc (xs++ys) (us++ws):=by
 intro xs ys us ws h s
 induction h with
 | nil=>show s
 | cons r _ ih=>show .cons r ih
def Fc.take:∀ {xs:π}{us:θ} (n:Nat),e0k us->Fc (xs.take n) (us.take n)
 | _,_,0,_=>.nil
 | _,_,_+1,.nil=>.nil
 | _,_,n+1,e4l t=>e4l (Fc.take n t)
def Fc.drop:∀ {xs:π}{us:θ} (n:Nat),e0k us->Fc (xs.drop n) (us.drop n)
 | _,_,0,r=>r
 | _,_,_+1,.nil=>.nil
 | _,_,n+1,e9M t=>Fc.drop n t
theorem Qb:Option V->Option Value->Prop
 | some v,some u=>e4m u
 | none,none=>True
 | _,_=>False
theorem KV {κ:Type}:List (κ×V)->List (κ×Value)->Prop:=Paired λ(p:κ×V) (q:κ×Value)=>p.1=q.1/\Os p.2 q.2
theorem kV:jr->V
 | .inl i=>.int i
 | .inr x=>.str x
abbrev _root_.Ó:=Array Value
abbrev _root_.Ï:=List (Str×V)
abbrev _root_.ξ:=List (jr×V)
inductive HO where
 |lst (xs:π)
 |tup (xs:π)
 |dK (ķ:ξ)|dT (ķ:List vB)
 |set (S:Int->Bool) (n:Nat)
 |ins (C dx:Addr) (fs:Ï)
 |own (x:Addr)
 |xd (fs:Ï)
 |met (f x:Addr)
 |rng (lo hi:Int)
 |frz (o:Obj) (u:HO)
 |tbl (ps:Ó)
 |ext (φ:Heap->Prop)
abbrev Hp:=Addr->Option HO
theorem upd (H)(c9h)(o:HO):Hp:=λb=>if b=a then some o else H b
def ai:e9N o a=!o:=by ext1 upd;ext d5a
def aa (h:b≠a):e9N o b=H b:=by ext1 upd;rw[if_neg h]
def bZ {H:Hp}(h:H a=!o)(h':H b=!u)(d:o≠u):a≠b:=by ext d78;show d (Option.some.inj h')
def aj {H:Hp}(h:H a=!o)(h':H b=none):a≠b:=by ext d78;cases h'
variable (P:É)(w:World)
theorem LU (H)(c8v)(c9h):HO->Prop
 | .lst xs=>xs.length<=sizeLine/\∃ (its:θ)(n:Nat),e0k its/\h.get? a=!{ cls:=.type "list",data:=e0o n }
 | .tup xs=>xs.length<=sizeLine/\∃ its:θ,e0k its/\IsTup h a its.toArray
 | .dK ķ=>ķ.length<=sizeLine/\(a==sysModules)=false/\∃ vs,KV ķ vs/\h.DictOf mY a vs
 | .dT ķ=>ķ.length<=sizeLine/\(a==sysModules)=false/\∃ xs:List DG,
   Paired (λ(p:List jr×V) (q:List jr×Addr×Value)=>p.1=q.1/\H q.2.1=!.tup (p.1.map kV)/\Os p.2 q.2.2) ķ xs/\
   ∃ o es ep,h.get? a=!o/\o.ExactDict/\o.data=.dict es ep/\es.toList=xs.map (entryOfKey (tupleKind mY))/\(xs.map (·.1)).Nodup
 | .set S n=>h.SetOf (intKind P w) a S n
 | .ins C dx fs=>H dx=!.own a/\fs.length<=1000/\dx≠a/\h.get? a=!W.instObj C dx/\
   ∃ mA,h.Ns1 dx mA/\(∀ f,Qb qG (mA f))/\PySem.Within mA (fs.map (·.1))
 | .own _=>∃ o,h.get? a=!o
 | .xd fs=>∃ mA,h.Ns1 a mA/\∀ f,Qb qG (mA f)
 | .rng lo hi=>∃ t u v,h.get? a=!{ cls:=.type "range",data:=.fields [m9].toArray }
 | .frz o u=>h.get? a=!o/\LU H h a u
 | .tbl ps=>h.get? a=!{ cls:=.none,data:=.fields ps }
 | .met f x=>h.get? a=!W.methodObj Ci qe
 | .ext φ=>φ h/\(∃ o,h.get? a=!o)/\∀ h1 h2:Heap,φ h1->(∀ o,h1.get? a=!o->h2.get? a=!o)->φ h2
theorem P9 (H)(c8v):Prop:=∀ a o,H a=!o->f04 a o
open e
def fA (c9i):∃ ob,h.get? a=!ob:=by
 cases o with
 | lst xs=>let⟨_,_,_,_,e⟩:=x;ext d6Q
 | tup xs=>let⟨_,_,_,ob,e,_⟩:=x;ext d6Q
 | dK ķ=>ext d5n
 | dT ķ=>ext d5n
 | set S n=>let⟨o,_,_,_,e,_⟩:=x;ext d6Q
 | ins C dx fs=>let⟨_,_,_,e,_⟩:=x;ext d6Q
 | own y=>let⟨_,e⟩:=x;ext d6Q
 | xd fs=>let⟨_,⟨_,_,_,e,_⟩,_⟩:=x;ext d6Q
 | rng lo hi=>let⟨_,_,_,e⟩:=x;ext d6Q
 | frz ob u=>let⟨e,_⟩:=x;ext d6Q
 | tbl ps=>show#[_,x]
 | met f y=>show#[_,x]
 | ext φ=>let⟨_,⟨_,e⟩,_⟩:=x;ext d6Q
def LU.lt (c9i):a<h.objs.size:=let ⟨_,e⟩:=fA x;HD e
def Paired.O3:∀ {l₁:List α}{l₂:List β},Paired F l₁ l₂->(∀ a b,F a b->G a b)->Paired G l₁ l₂:=by
 intro l m h f
 induction h with
 | nil=>show .nil
 | cons r _ ih=>show .cons (f ĉ r) ih
def Paired.imp' (f:∀ a b,F a b->G a b)(d11):Paired G l₁ l₂:=Paired.O3 r f
def LU.N0 (c9i)(k:∀ b u,(b=a\/H b=!.own a)->h.get? b=!u->h'.get? b=!u)(ho:∀ b,H b=!.own a->H' b=!.own a)(ht:∀ b xs,H b=!.tup xs->H' b=!.tup xs):e3P H' h' a o:=by
 induction o with
 | lst xs=>let⟨z,its,n,r,e⟩:=x;show#[Db,e3s e]
 | tup xs=>let⟨z,its,r,ob,e,c⟩:=x;show#[z,its,r,ob,Bp]
 | dK ķ=>let⟨z,y,vs,r,ob,es,ep,e,c⟩:=x;show#[z,y,vs,r,ob,lC,Bp]
 | dT ķ=>
  let#[z,y,xs,r,ob,lC,e,c]:=x;show#[z,y,xs,Paired.O3 r λp q z=>#[z.1,ht ĉ z.2.1,z.2.2],ob,lC,Bp]
 | set S n=>let⟨ob,es,ep,t,e,c⟩:=x;show#[ob,lC,t,Bp]
 | ins C dx fs=>
  let#[d,z,ne,e,mA,#[od,lC,e2,c],r]:=x;show#[ho _ d,z,ne,e3s e,mA,#[od,lC,k ĉ (.inr d) e2,c],r]
 | own y=>let⟨ob,e⟩:=x;show#[ob,e3s e]
 | xd fs=>let⟨mA,⟨od,es,ep,e,c⟩,r⟩:=x;show#[mA,#[od,lC,Bp],r]
 | rng lo hi=>let⟨t,u,v,e⟩:=x;show#[t,u,v,e3s e]
 | frz ob u ih=>let⟨e,q⟩:=x;show#[e3s e,ih q]
 | tbl ps=>
  let e:=x;show k a _ ĵ e
 | met f y=>
  let e:=x;show k a _ ĵ e
 | ext φ=>let⟨p,⟨o,e⟩,st⟩:=x;show#[st ĉ p λo q=>e3s q,#[o,e3s e],st]
def P9.lt (c8Q)(e:H a=!o):a<h.objs.size:=(x a o e).lt
def P9.fresh (c8Q)(e:h.objs.size<=a):H a=none:=by
 cases q:H a with
 | none=>rfl
 | some u=>show absurd (HN (x.lt q) e) sR
def P9.kept (c8Q)(c7y):e6I H h':=λa o e=>
 (x a o e).N0 (λb u _ q=>k b u q) EF λe42=>q
def P9.laid (c8Q)(d12)(new:e3P tY h' a o):e6I tY h':=λe7w=>by
 let hn:=x.fresh hp;by_cases hb:b=a
 ·grind [ai]
 ·rw[aa hb]at e;show (x b u e).N0 (λc v _ q=>k c v q) (λc q=>by rw[aa<|aj q hn];show q) λc xs q=>by rw[aa<|aj q hn];show q
theorem Rd (H)(c9h)(u:HO):Prop:=H a=!u\/∃ o,H a=!.frz o u
def Rd.ok (r:e6J u)(c8Q):f04 a u:=by
 rcases r with r|⟨o,r⟩
 ·show x a u r
 ·let#[_,q]:=x a _ r;show q
theorem xu:Option HO->Prop
 | some (.lst _)=>True
 | some (.dK _)=>True
 | some (.dT _)=>True
 | some (.set _ _)=>True
 | some (.ins _ _ _)=>True
 | some (.ext _)=>True
 | _=>False
def P9.write (c8I)(c73)(new:e3P (d8U x o') h' x o'):e6I (d8U x o') h':=λe6B=>by
 let a8l:∀ c y,H c=!.own y->c≠x:=λc y r z=>by subst z;rw[r]at mu;show mu
 let a8k:∀ c xs,H c=!.tup xs->c≠x:=λc xs r z=>by subst z;rw[r]at mu;show mu
 by_cases hb:b=x
 ·grind [ai]
 ·rw[aa hb]at q;by_cases Yo:b=e
  ·let q':H b=!.own x:=by
    cbv
   rw[q]at q';cases q';let#[v,hv]:=heo;show#[v,by rw[Yo];show hv]
  ·show (ok b u q).N0 (λc v hc r=>k c v ?_ r) (λc r=>by rw[aa<|a8l c b r];show r) λc xs r=>by rw[aa<|a8k c xs r];show r
   grind
abbrev _root_.υ:=List Addr
structure Un (fs ex:υ)(H H':Hp)(h h':Heap):Prop where
 keep:∀ b o,h.get? b=!o->H b=none->b∉fs->b∉ex->h'.get? b=!o
 slot:∀ b o,h.get? b=!o->H b=none->b∈fs->b∉ex->∃ sl,h'.get? b=!{ o with slots:=sl }
 free:∀ b o,h.get? b=!o->H b=none->b∉ex->H' b=none
 there:∀ b o,h.get? b=!o->b∉ex->∃ o',h'.get? b=!o'
 Qp:∀ b xs,H b=!.tup xs->H' b=!.tup xs
 Rb:∀ b o u,H b=!.frz o u->H' b=!.frz o u
 RF:∀ b ps,H b=!.tbl ps->∃ more,H' b=!.tbl (ps++more)
variable {fs ex:υ}{H:Hp}{h h':Heap}{a:Addr}{o:HO}
def Un.any (u:e3H H1 h h1)(q:h.get? b=!ob)(n:H b=none)(hx:b∉ex):∃ sl,h1.get? b=!{ ob with slots:=sl }:=by
 by_cases hb:b∈fs
 ·show u.slot b ob q n hb hx
 ·show#[ob.slots,u.keep b ob q n hb hx]
def Un.kept (c7y):e3H H h h':=
 #[λb ob q e05=>k b ob q,λb ob q e05=>#[ob.slots,k b ob q],λe05 n _=>n,λb ob q _=>#[ob,k b ob q],λe42=>q,λe05 q=>q,λ_ ps q=>#[[].toArray,by rw[q];simp]]
def Un.refl:e3H H h h:=Un.kept λe42=>q
def Un.laid (d12)(hn:H a=none):e3H tY h h' where
 keep:=λe6B e05=>k b u q
 slot:=λe6B e05=>#[u.slots,k b u q]
 free:=λe6B n _=>by rw[aa<|HY (HN (HD q) hp)];show n
 there:=λe6B _=>#[u,k b u q]
 Qp:=λb xs q=>by rw[aa<|aj q hn];show q
 Rb:=λb u xs q=>by rw[aa<|aj q hn];show q
 RF:=λb ps q=>#[[].toArray,by rw[aa<|aj q hn,q];simp]
def Un.write (c73):e3H xR h h':=by
 let hx:∀ b,H b=none->b≠x:=λb n z=>by subst z;rw[n]at mu;show mu
 let hb:∀ b,H b=none->b≠e:=λb n z=>by
  cbv
 let hm:∀ b u,H b=!u->¬ xu !u->b≠x:=λe6B nm z=>by cbv
 show#[λe6B n _ _=>f07 q,λe6B n _ _=>#[u.slots,f07 q],λe6B n _=>by rw[aa<|hx b n];show n,λe6B _=>?_,
  λb xs q=>by rw[aa<|hm b _ q λz=>z];show q,λb u xs q=>by rw[aa<|hm b _ q λz=>z];show q,λb ps q=>#[[].toArray,by rw[aa<|hm b _ q λz=>z,q];simp]]
 by_cases Yo:b=e
 ·subst Yo;show heo
 ·show#[u,k b u Yo q]
open e
theorem trk (c8v)(H):υ:=(List.range h.objs.size).filter λa=>(H a).isSome
theorem pH (c8v)(H):Heap:=W.hideAll h (trk h H)
def b59 (c8v)(H):(pH h H).objs.size=h.objs.size:=W.hideAll_size ĉ
def b6p (e:h.get? b=!o)(n:H b=none):(pH h H).get? b=!o:=
 W.hideAll_get _ e λhm=>by
  let q:=(HB.mp hm).2
  cbv
def b5R (e:(pH h H).get? b=!o):h.get? b=!o/\H b=none:=by
 let e':=f08 e;show#[e',?_]
 cases q:H b with
 | none=>rfl
 | some x=>
  let hm:b∈trk h H:=HB.mpr #[Ig.mpr<|HD e',by simp[q]];let z:(pH h H).get? b=none:=W.hideAll_none _ hm;ext d3Y
abbrev _root_.Î:=Option Value
abbrev _root_.Ω:=Str->Î
abbrev _root_.Ψ:=W.Frag
structure Mod (c9a)(base:Heap):Prop where
 Yd:K.In base
 glob:base.Ns mainGlobals mg
 blt:∃ mb,base.Ns builtinsNs mb/\∀ x:Str,x≠"__name__"->mb x=bootBuiltins x
 nolimit:base.NoLimit
abbrev _root_.Ë:=Around
abbrev _root_.Ê:=Shared
abbrev _root_.ρ:=Value->Shared->Prop
abbrev _root_.η:=List Str
abbrev _root_.ζ:=List (Addr×Obj)
set_option genInjectivity false
structure Cx where
 prog:É
 w:World
 K:Ψ
 mg:Ω
 base:Heap
 A:Ë
 N:η
 s₀:Ê
 H₀:Hp
 env:Env
 outer:List Env
 stack:List Env
 ex:υ
 fn:Str->Bool
 calm:Bool
 pn:ζ
 xe:ρ
set_option genInjectivity true
theorem Rc (l:List Env):υ:=l.filterMap (·.frame)
abbrev Cx.fs (X:Cx):υ:=Rc X.outer
theorem pQ (sc)(x):Prop:=sc.names.lookup x=!.local\/sc.names.lookup x=!.cell\/sc.names.lookup x=!.free
theorem Wp (sc)(x):Prop:=sc.names.lookup x=!.local\/sc.names.lookup x=!.cell
theorem a4t (env:Env)(c8v)(m:Ω)(x)(u):Prop:=
 (env.kindOf x=!.local/\m x=!u)\/((env.kindOf x=!.cell\/env.kindOf x=!.free)/\∃ c,env.cells.lookup x=!c/\h.IsCell c !u)
structure Cx.Ok (X:Cx):Prop where
 mod:Mod X.K X.mg X.base
 kind:X.env.scope.kind=.function
 glob:X.env.globals=mainGlobals
 blt:X.env.builtins=builtinsNs
 above:X.s₀.heap.objs.size<=X.env.locals
 inj:∀ x y c,X.env.cells.lookup x=!c->X.env.cells.lookup y=!c->x=y
 has:∀ x,(d86 x)->∃ c,X.env.cells.lookup x=!c
 cab:∀ x c,X.fn x=true->X.env.cells.lookup x=!c->X.s₀.heap.objs.size<=c
 hd:X.calm=true->X.A.handled=none
 frames:X.A.frames=!X.stack
 VE:X.stack=X.outer \/ (X.stack=X.env::X.outer/\X.env.frame=!X.env.locals)
 exf:∀ b∈X.ex,b≠X.env.locals/\∀ x c,X.env.cells.lookup x=!c->c≠b
 bs:∀ b o,X.base.get? b=!o->X.s₀.heap.get? b=!o/\X.H₀ b=none
 Ww:X.base.objs.size<=X.s₀.heap.objs.size
 UH:∀ b o,X.base.get? b=!o->b∉X.ex
 Wu:∀ b∈X.ex,b∉X.fs
 Qa:X.s₀.heap.FunFrames X.base X.outer
 XW:∀ b∈X.fs,X.H₀ b=none
abbrev _root_.Ç:=Option V
structure Inv (X:Cx)(ñ:ζ)(σ:List Ç)(H:Hp)(s:Ê):Prop where
 ok:X.Ok
 os:s.os=X.s₀.os
 bare:AllBare s.gens
 base:Un X.fs X.ex X.H₀ H X.s₀.heap s.heap
 loc:∃ m,s.heap.Ns X.env.locals m/\∀ (i:Nat)(x:Str)(v:V),X.N[i]?=!x->σ[i]?=!some v->pQ X.env.scope x->∃ u,Os v u/\a4t X.env s.heap m x u
 cell:∀ x c,X.env.cells.lookup x=!c->∃ v,s.heap.IsCell c v
 free:H X.env.locals=none
 Nf:∀ x c,X.env.cells.lookup x=!c->H c=none
 pin:∀ p∈X.pn++ñ,s.heap.get? p.1=!p.2/\H p.1=none/\p.1≠X.env.locals/\p.1∉X.fs/\∀ v,p.2.data≠.cell v
 LJ:P9 X.prog X.w H s.heap
 len:σ.length=X.N.length
def Cx.Ok.WY {X:Cx}(ok:X.Ok)(e:X.base.get? b=!o):b∉X.fs:=λhb=>by
 let:=(ok.Qa.mem hb).1
 grind
def Inv.bs (I):∀ b o,X.base.get? b=!o->s.heap.get? b=!o/\H b=none:=λe0z=>
 #[e2H (e4n e).1 (e4n e).2 (I.ok.WY e)<|I.ok.UH b o e,e3t o (e4n e).1 (e4n e).2<|I.ok.UH b o e]
def Inv.bk (I):∀ b o,X.base.get? b=!o->s.heap.get? b=!o:=λe0z=>(I.bs b o e).1
def Inv.mod (I):Mod X.K X.mg X.base:=I.ok.mod
def Inv.Oy (I):X.K.In s.heap:=I.ok.mod.Yd.keeps I.bk
def Inv.nolimit (I):s.heap.NoLimit:=I.ok.mod.nolimit.keeps I.bk
def Inv.lt (I):X.env.locals<s.heap.objs.size:=let ⟨_,hn,_⟩:=I.loc;hn.lt
def Inv.sz (I):X.s₀.heap.objs.size<=s.heap.objs.size:=HE I.ok.above (Ks I.lt)
def Inv.Wf (I)(h:s.heap.objs.size<=a):a∉X.fs:=λhb=>by let#[_,o,ho,_]:=I.ok.Qa.mem hb;show absurd (HN (HD ho)<|HE I.sz h) sR
def Inv.cne (I):∀ x c,X.env.cells.lookup x=!c->c≠X.env.locals:=λx c e z=>by
 ext d8m;let#[m,#[o',lC,U7,Q1,_],_]:=I.loc
 grind
def Inv.Qa (I):e2i X.outer:=by
 let all:∀ (l:List Env),(∀ b∈Rc l,b∈X.fs)->X.s₀.heap.FunFrames X.base l->e2i l:=by
  intro l
  induction l with
  | nil=>intro _ _;trivial
  | cons env r ih=>
   intro hs hl;let#[hk,#[L,o,hf,hn,ho,hd],hr]:=hl;let hL:=hs L (by ext1 Rc;rw[Ki,hf];show Ha);let#[sl,e]:=I.base.slot L o ho (I.ok.XW L hL) hL λz=>I.ok.Wu L z hL;show#[hk,#[L,_,hf,hn,e,hd],ih (λe3b=>hs b (by ext1 Rc;rw[Ki,hf];show Hk _ hb)) hr]
 show all X.outer (λ_ hb=>hb) I.ok.Qa
def Inv.stack (I):e2i X.stack:=by
 ext d6I
 ·rw[e];show I.Qa
 ·rw[e];let#[m,hn,_]:=I.loc;show .cons (by rw[I.ok.kind];decide) hf hn ?_ I.Qa;show Heap.get?_none_of_le (e5m I.ok.above)
def Inv.V7 (I):∀ b∈Rc X.stack,b∈X.env.locals::X.fs:=λe3b=>by
 ext d6I
 ·cbv
 ·rw[e]at hb;unfold Rc at hb;rw[Ki,hf]at hb;show hb
def Inv.PN (I):∀ b∈Rc X.stack,H b=none:=λe3b=>by
 rcases Hr.mp (I.V7 b hb) with e|hb
 ·rw[e];show I.free
 ·let#[_,o,ho,_]:=I.ok.Qa.mem hb;show I.base.free b o ho (I.ok.XW b hb) λz=>I.ok.Wu b z hb
def Inv.step {ch:υ}(I)(XT)(keep:∀ b o,b≠X.env.locals->b∉X.fs->b∉ch->s.heap.get? b=!o->H b=none->h'.get? b=!o)(slot:∀ b o,b≠X.env.locals->b∈X.fs->b∉ch->s.heap.get? b=!o->H b=none->∃ sl,h'.get? b=!{ o with slots:=sl })(free:∀ b o,b∉ch->s.heap.get? b=!o->H b=none->H' b=none)(there:∀ b o,b∉ch->s.heap.get? b=!o->∃ o',h'.get? b=!o')(Qp:∀ b xs,H b=!.tup xs->H' b=!.tup xs)(Rb:∀ b o u,H b=!.frz o u->H' b=!.frz o u)(RF:∀ b ps,H b=!.tbl ps->∃ more,H' b=!.tbl (ps++more))(ns:∀ m,s.heap.Ns X.env.locals m->h'.Ns X.env.locals m)(LJ)(hg:AllBare g'):
  Inv X ñ σ H' { s with heap:=h',gens:=g',drawn:=d',toks:=t' }:=by
 ext d2Y;let neC:∀ b o,X.s₀.heap.get? b=some o->b∉X.ex->b∉ch:=λe0z hx hb=>by
  rcases (XT b hb).1 with z|z
  ·show hx z
  ·show absurd (HN og z) sR
 let cellK:∀ x c,X.env.cells.lookup x=!c->∀ v,s.heap.IsCell c v->h'.IsCell c v:=λx c e v gR=>by
  let#[Gh]:=gR;let nch:=λz=>(XT c z).2.2.1 x c e rfl;by_cases hc:c∈X.fs
  ·let#[sl,q]:=slot c o (I.cne x c e) hc nch ho<|e5O e;show#[_,q,hd]
  ·show#[o,keep c o (I.cne x c e) hc nch ho<|e5O e,hd]
 show#[I.ok,I.os,hg,#[λe1A=>?_,λe1A=>?_,λe0z n hx=>?_,λe0z hx=>?_,λb xs e=>Qp b xs<|e48 e,λb o xs e=>Rb b o xs<|e7B o xs e,λb ps e=>?_],?_,λx c e=>?_,?_,λx c e=>?_,λe79=>?_,LJ,I.len]
 ·show keep b o uY hb yv (e2H e n hb hx) b6a
 ·let#[sl,e1]:=e3d hb hx;let#[sl',e2]:=slot b _ uY hb yv e1<|e3t o e n hx;show#[sl',e2]
 ·ext d6h;show free b o' yv e1 b6a
 ·ext d6h;show there b o' yv e1
 ·let#[m1,e1]:=e49 e;let#[m2,e2]:=RF b _ e1;show#[m1++m2,by cbv]
 ·ext d6i;show#[m,ns m hn,λi x v e1 e2 e3=>?_];let#[u,r,l]:=hl i x v e1 e2 e3;show#[u,r,?_];rcases l with l|⟨k,c,e,z⟩
  ·show .inl l
  ·show .inr #[k,c,e,cellK x c e _ z]
 ·let#[v,z]:=e8O e;show#[v,cellK x c e v z]
 ·let#[m,#[o,_,_,ho,_],_]:=I.loc;show free _ o (λz=>(XT _ z).2.1 rfl) ho I.free
 ·ext d8m;show free c o (λz=>(XT c z).2.2.1 x c e rfl) ho (e5O e)
 ·ext d5x;let nch:=λz=>(XT p.1 z).2.2.2 p hp rfl;show#[keep p.1 p.2 ne nf nch e n,free p.1 p.2 nch e n,ne,nf,d]
def Inv.un (I)(u:Un X.fs [] H H' s.heap h')(LJ):d9X H' { s with heap:=h',toks:=t' }:=by
 ext d79;let#[sl,hL]:=u.any ho I.free ė;show I.step (g':=s.gens) (d':=s.drawn) (ch:=[]) ĺ (λb o _ hb _ e n=>e5a hb<|by simp) (λb o _ hb _ e n=>f09 hb<|by simp) (λb o _ e n=>u.free b o e n<|by simp) (λb o _ e=>e6K o e<|by simp) u.Qp u.Rb u.RF (λm' hm=>by let#[o',qz,U7,r']:=hm;rw[ho]at U7;cases U7;show#[_,qz,hL,r']) LJ I.bare
def Inv.call (I)(u:e3Q h')(LJ)(hg:AllBare g')(XT):
  Inv X ñ σ H' { s with heap:=h',gens:=g',drawn:=d',toks:=t' }:=by
 ext d79;let#[sl,hL]:=u.any ho I.free λz=>(XT _ z).2.1 rfl;show I.step (ch:=ch) XT (λb o hL hb hc e n=>e5a (λz=>(Hr.mp<|I.V7 b z).elim hL hb) hc) (λe3n n=>u.any e n hc) (λb o hc e n=>u.free b o e n hc) (λb o hc e=>e6K o e hc) u.Qp u.Rb u.RF (λm' hm=>by let#[o',qz,U7,r']:=hm;rw[ho]at U7;cases U7;show#[_,qz,hL,r']) LJ hg
def Inv.turned (I)(k:∀ b o,b≠it->s.heap.get? b=!o->h'.get? b=!o)(hn:H it=none)(hL:it≠X.env.locals)(h1:it∈X.ex\/X.s₀.heap.objs.size<=it)(h2:∀ x c,X.env.cells.lookup x=!c->c≠it)(h3:∀ p∈X.pn++ñ,p.1≠it):d9X H { s with heap:=h',toks:=t' }:=by
 let nit:∀ b u,H b=!u->b≠it:=λe7w z=>by grind
 show I.step (g':=s.gens) (d':=s.drawn) (ch:=[it]) (λe3b=>?_) (λe3n _=>e1F e) (λe3n _=>#[o.slots,e1F e]) (λd9V n=>n)
  (λb o hc e=>#[o,e1F e]) (λ_ _ e=>e) (λe05 e=>e) b0x (λm hm=>?_) (λe7w=>?_) I.bare
 ·let e:b=it:=by simpa using hb
  subst e;show#[h1,hL,h2,h3]
 ·let#[uf]:=hm;show#[Pk,k _ o (Ne.symm hL) ho,r]
 ·show (e8d u e).N0 (λc v hc q=>k c v ?_ q) EF λe42=>q;rcases hc with z|z
  ·rw[z];show nit b u e
  ·show nit c _ z
def Inv.tok (I)(t:Nat):d9X H { s with toks:=t }:=I.un (h':=s.heap) (t':=t) Un.refl I.LJ
def Inv.kept (c9b):d9X H { s with heap:=h',toks:=t' }:=I.un (Un.kept k) (I.LJ.kept k)
def Inv.laid (c9b)(hp:s.heap.objs.size<=a)(new:e2j tY h' a o):
  Inv X ñ σ tY { s with heap:=h',toks:=t' }:=I.un (Un.laid k hp<|I.LJ.fresh hp) (I.LJ.laid k hp new)
def Inv.write (I)(mu)(he:e=x\/H e=!.own x)(k:∀ b u,b≠e->s.heap.get? b=!u->h'.get? b=!u)(heo)(new:e2j xR h' x o):d9X xR { s with heap:=h',toks:=t' }:=I.un (Un.write mu he k heo) (I.LJ.write mu he k heo new)
def Inv.MM (I)(h:∀ p∈Qy,s.heap.get? p.1=!p.2/\H p.1=none/\p.1≠X.env.locals/\p.1∉X.fs/\∀ v,p.2.data≠.cell v):Inv X Qy σ H s:=
 #[I.ok,I.os,I.bare,I.base,I.loc,I.cell,I.free,I.Nf,λe79=>(Hx.mp hp).elim (λz=>I.pin p<|HG _ z)<|h p,I.LJ,I.len]
def ww {N:η}(hN:N.Nodup){i:Nat}(a:N[i]?=!x)(b:N[j]?=!x):i=j:=by let#[h1,e1]:=GS.mp a;let#[h2,e2]:=GS.mp b;show (KH hN).mp c0e
def Inv.unS (I)(ha:∀ b o,X.s₀.heap.get? b=!o->b≠a)(d0I):Un X.fs X.ex X.H₀ H X.s₀.heap h':=
 #[λe1A=>(hs.2 b<|ha b o e).trans<|e2H e n hb hx,λe1A=>let ⟨sl,e1⟩:=e3d hb hx;#[sl,(hs.2 b<|ha b o e).trans e1],I.base.free,λe0z hx=>let ⟨o',e1⟩:=e29 o e hx;#[o',(hs.2 b<|ha b o e).trans e1],I.base.Qp,I.base.Rb,I.base.RF]
def a24 (I)(c7W)(d0f)(h:∀ s',f1a s'->(∃ a,e6L s'.heap/\(a=X.env.locals\/X.env.cells.lookup x=!a))->Q () s')(hf):e1H b7O Q E s:=by
 let#[c6z]:=id I.loc;let a9I:(X.env.scope.kind==.class || (X.env.scope.kind==.module&&X.env.locals != X.env.globals))=false:=by rw[I.ok.kind];rfl
 let hiσ:i<σ.length:=by rw[I.len];show (GS.mp hi).1
 let cne:=I.cne;let tracked:∀ {a:Addr}{h':Heap},(∃ o,s.heap.get? a=!o/\H a=none)->e6L h'->e5P H h':=λ{a h'} ha hs b ob e=>by
  let#[_,_,Xh]:=ha;show (e8d ob e).N0 (λc w' hc q=>(hs.2 c ?_).trans q) EF λe42=>q
  grind
 rcases hx with hk|hk
 ·show wpAny_storeName_local hk hn (λh' Vj hs=>?_) a9I;let#[oL,_,_,hoL,_]:=id hn;show h _ #[Ck,I.unS (λe0z=>HY<|HN (HD e) I.ok.above) hs,⟨_,Vj,λj y v' e1 e2 e3=>?_⟩,λy c e=>?_,c58,tracked #[oL,hoL,I.free] hs,by simpa using I.len] #[_,hs,.inl rfl]
  ·by_cases hj:j=i
   ·ext d7d;rw[List.getElem?_set_self hiσ]at e2
    cases e2;show#[u,r,.inl #[hk,by simp]]
   ·ext d2W;rcases q with⟨k,e⟩|⟨k,c,e,z⟩
    ·show .inl #[k,?_];let:y≠x:=λe=>hj<|ww hN e1 (e▸hi);simp[this,e]
    ·show .inr #[k,c,e,z.sameBut hs<|cne y c e]
  ·let#[w',z]:=I.cell y c e;show#[w',z.sameBut hs<|cne y c e]
  ·ext d5x;show#[(hs.2 p.1 ne).trans e,qM]
 ·let hfn:X.fn x=true:=by
   grind
  let#[c,hc]:=I.ok.has x<|.inl hk;let#[w',z]:=e8O hc;show wpAny_storeName_cell I.ok.kind hk hc z (λh' P5 hs=>?_);let#[oc,hoc,b5a]:=id z;show h { s with heap:=h' } #[Ck,I.unS (λe0z=>HY<|HN og (I.ok.cab x c hfn hc)) hs,#[m,hn.sameBut hs<|Ne.symm (cne x c hc),λj y v' e1 e2 e3=>?_],λy c' e=>?_,c58,tracked #[oc,hoc,e5O hc] hs,by simpa using I.len] #[c,hs,.inr hc]
  ·by_cases hj:j=i
   ·ext d7d;rw[List.getElem?_set_self hiσ]at e2
    cases e2;show#[u,r,.inr #[.inl hk,c,hc,P5]]
   ·ext d2W;rcases q with q|⟨k,c',e,z'⟩
    ·show .inl q
    ·show .inr #[k,c',e,z'.sameBut hs ?_];rintro rfl;show hj (ww hN e1<|I.ok.inj _ _ _ e hc▸hi)
  ·by_cases hcc:c'=c
   ·subst hcc;show#[_,P5]
   ·let#[w2,z2]:=I.cell y c' e;show#[w2,z2.sameBut hs hcc]
  ·ext d5x;show#[(hs.2 p.1 ?_).trans e,qM];intro q
   cbv
def nU (I)(c7W)(d0f)(h:∀ s',f1a s'->Q () s')(hf):e1H b7O Q E s:=
 a24 I hN hi hx r (λs' I' _=>h s' I') hf
def Inv.SD (I)(ho:s'.os=s.os)(u:e3Q s'.heap)(LJ:e5P H' s'.heap)(hg:AllBare s'.gens)(XT):e5J s':=by let#[h',g',d',t',o']:=s';let e:=ho;subst e;show I.call u LJ hg XT
abbrev _root_.Ù:=Hp->Prop
abbrev XK:=Value->Option Addr->Ù
abbrev St:=List Ç
abbrev VK:=V->Ù
abbrev TE:=St->Hp->VK->Prop
abbrev _root_.Ø:=Bool->Ù
abbrev TT:=St->Hp->Ø->Prop
abbrev TA:=St->Hp->(List V->Ù)->Prop
abbrev _root_.Υ:=St->Ù
set_option genInjectivity false
structure Ends where
 nx:Υ
 rt:VK
 bk:Υ:=λ_ _=>False
 ct:Υ:=λ_ _=>False
set_option genInjectivity true
abbrev TS:=Ends->Υ
theorem EP (d1L)(Q)(u)(s'):Prop:=∃ v H',e5J s'/\Os v u/\Q v H'
theorem TP (d1L)(Q:Ø)(b:Bool)(s'):Prop:=∃ H',e5J s'/\Q b H'
theorem AP (d1L)(Q:List V->Ù)(us)(s'):Prop:=∃ vs H',e5J s'/\Fc vs us/\Q vs H'
theorem SP (X)(ñ)(D:Ends)(f:Flow)(s'):Prop:=
 match f with
 | .next=>∃ σ' H',e0J s'/\D.nx σ' H'
 | .brk=>∃ σ' H',e0J s'/\D.bk σ' H'
 | .cont=>∃ σ' H',e0J s'/\D.ct σ' H'
 | .ret u=>∃ v σ' H',e0J s'/\Os v u/\D.rt v H'
theorem PE (X)(e:Expr)(t:TE):Prop:=
 ∀ (ñ:ζ)(s:Ê)(σ:St)(H:Hp)(Q:VK),d9X H s->e4o Q->d90 Gs Ĺ X.xe s
theorem PT (X)(e:Expr)(t:TT):Prop:=
 ∀ (ñ:ζ)(s:Ê)(σ:St)(H:Hp)(Q:Ø),d9X H s->e4o Q->d90 (e5b Gs) Fy X.xe s
theorem PW (X)(e:Expr)(t:TT):Prop:=
 ∀ (whole:Sem Value)(ñ:ζ)(s:Ê)(σ:St)(H:Hp)(Q:Ø),d9X H s->e4o Q->d90 (e5b whole) Fy X.xe s
def PW.pt (h:PW X e t):e8e t:=h _
abbrev _root_.Ì:=List Expr
theorem PA (X)(es:Ì)(t:TA):Prop:=
 ∀ (pos:Pos)(ñ:ζ)(s:Ê)(σ:St)(H:Hp)(Q:List V->Ù),d9X H s->e4o Q->d90 (spliced (e0n PP)) Bu X.xe s
theorem PS (X)(st)(t:TS):Prop:=
 ∀ (ñ:ζ)(s:Ê)(σ:St)(H:Hp)(D:Ends),d9X H s->t D σ H->d90 (exec st X.env) (e5Q D) X.xe s
abbrev _root_.Í:=List Stmt
theorem Q2 (X)(st:Í)(t:TS):Prop:=
 ∀ (ñ:ζ)(s:Ê)(σ:St)(H:Hp)(D:Ends),d9X H s->t D σ H->d90 (execs st X.env) (e5Q D) X.xe s
def M8 (h:e1H t Q E s)(hQ:∀ a s,Q a s->Q' a s):e9l s:=IC h hQ λe9H=>x
def thE {X:Cx}{ñ:ζ}{σ:St}{Q:VK}{t:Sem Value}{Q':ρ}(d01)(h:e1H t Ĺ E s)(k:∀ u s1 v H,d9X H s1->e4m u->Q v H->Q' u s1):e9l s:=wpAny_mono h b0b λe9H=>x
def thA {X:Cx}{ñ:ζ}{σ:St}{Q:List V->Ù}{t:Sem θ}{Q':List Value->Shared->Prop}(d01)(h:e1H t Bu E s)(k:∀ u s1 v H,d9X H s1->Fc v u->Q v H->Q' u s1):e9l s:=wpAny_mono h b0b λe9H=>x
variable {X:Cx}
inductive cu (i:Nat)(c7s)(Q:VK):∀ v,σ[i]?=!some v->Q v H
theorem tC (v):TE:=λ_ H Q=>Q v H
def a0A (hN:X.N[i]?=!x)(hv:e9O x)(hd)(RM):e7C yI:=by
 ext d2c;let#[v,e,h]:=h;ext d6i;let#[u,r,l]:=hl i x v hN e hv;let fin:e3R u s:=qN
 ext d5e
 ·show wpAny_Name (wpAny_loadName_local I.ok.kind hk hn hm fin) hd
 ·rcases hk with hk|hk
  ·show wpAny_Name (wpAny_loadName_cell I.ok.kind hk hc VZ fin) hd
  ·show wpAny_Name (wpAny_loadName_free I.ok.kind hk hc VZ fin RM) hd
def aG {i j pos}:PE X (d9j Ge) (tC Ge):=λe21=>wpAny_Constant_int #[.int i,j7,h]
def m4 {b j pos}:PE X (d9j (.bool b)) (tC oJ):=λe21=>Constant_bool #[.bl b,H,I,1,h]
def c2U {j pos}:PE X b6M (tC .non):=λe21=>Constant_none #[.non,H,I,1,h]
def ji {x j pos}:PE X b7R (tC z8):=λe21=>Calls.Constant_str #[.str x,j7,h]
theorem Gl (X)(x):Prop:=X.env.kindOf x=!.globalImplicit
def eB (I)(c7c)(hm:X.mg x=!u)(h:Q u s)(hd):e9G s:=
 Calls.Name_function_global I.ok.kind hg (Calls.loadGlobal_global (by rw[I.ok.glob];show I.mod.glob.keeps I.bk) hm h) hd
def dE (I)(d1j)(h:Q u s)(hn)(hd):e9G s:=by let#[mb,ZL]:=I.mod.blt;show Calls.Name_function_global I.ok.kind hg (Calls.loadGlobal_builtin (by rw[I.ok.glob];show I.mod.glob.keeps I.bk) hm (by rw[I.ok.blt];show h1.keeps I.bk) ((h2 x hn).trans hv) h) hd
def gf (c7c)(hm:X.mg x=!u)(d0f)(hd):e7C (tC v):=
 λe21=>eB I hg hm qN hd
def jV (d1j)(d0f)(hn)(hd):e7C (tC v):=
 λe21=>e2T hv qN hn hd
example{ta tb:TE}:=0
inductive kTB (Q:Ø)(x:V)(H1:Hp):∀ c,x=.bl c->Q c H1
theorem tB (t:TE):TT:=λd92=>t σ H λe3D=>kTB Q x H1
def cN (h:e0P t)(he:∀ whole,e5b whole=(do let v <- whole;standAt e.pos;holding [v] (truthy v)):=Ă):e8e (tB t):=by
 intro ñ s σ H Q I hw;show isTrue_plain (M8 b80 λv e6C=>?_)<|he _;ext d3z;let#[d,1,q]:=q1
 cases r1;show Jh #[YW,q]
theorem a7r (t u:TT):TT:=λd92=>t σ H λc H1=>if c=true then u σ H1 Q else Q false H1
theorem tOr (t u:TT):TT:=λd92=>t σ H λc H1=>if c=true then Q true H1 else u σ H1 Q
theorem a7n (t:TT):TT:=λd92=>t σ H λc H1=>Q (not c) H1
def fj (c9p):PW X (d9J .And) tA:=by
 ext d3X;show isTrue_and b1e
 cases c with
 | true=>show isTrue_and_nil e
 | false=>show e
def lm (c9p):PW X (d9J .Or) tA:=by
 ext d3X;show isTrue_or b1e
 cases c with
 | false=>show isTrue_or_nil e
 | true=>show e
def CW (c9p)(hb:PW X BH tB'):PW X P3 (a7r tA tB'):=by
 ext d3X;show isTrue_and b7S;ext d8n
 cases c with
 | true=>ext d66
 | false=>show#[sT]
def CV (c9p)(hb:PW X b4C tB'):PW X b3x (tOr tA tB'):=by
 ext d3X;show isTrue_or b7S;ext d8n
 cases c with
 | true=>show#[sT]
 | false=>ext d66
def oA (c9p):PT X C7 (a7n tA):=by ext d2c;show isTrue_not (d9l ha (λc H1=>Q (not c) H1))
inductive b7Q (tb:TE)(σ:St)(c8a):∀ c,x=.bl c->(if c=true then tb σ H1 Q else Q UF H1)
theorem a3i (ta tb:TE):TE:=λd92=>ta σ H λe3D=>b7Q tb σ Q x H1
inductive b9Y (c8a):∀ c,x=.bl c->Q (.bl (not c)) H1
theorem a3b (ta:TE):TE:=λd92=>ta σ H λe3D=>b9Y Q x H1
def oF {op}(h:PE X a t):PE X (d9J op) t:=λe0A hw=>BoolOp_one (e77 hw)
def yx (d1M)(hb:PE X BH tb):PE X P3 (a3i ta tb):=by
 ext d2c;show BoolOp_and b7T;ext d3z;let#[c,1,q1]:=q1
 cases r1;show Jh ?_
 cases c with
 | true=>ext d7M
 | false=>show#[.bl false,YW,1,q1]
def a0B (d1M):PE X C7 (a3b ta):=by
 ext d2c;show UnaryOp_ b7T;ext d3z;let#[c,1,q1]:=q1
 cases r1;show not_of (Jh #[.bl<|not c,H1,I1,1,q1])
theorem tIf (t:TT)(ta tb:TE):TE:=λd92=>t σ H λc H1=>if c=true then ta σ H1 Q else tb σ H1 Q
def D9 (hc:e8f tA)(c60):PE X c0f (tIf tA ta tb):=by
 ext d2c;show wpAny_IfExp b0C;ext d8n
 cases d with
 | true=>show ha ñ s1 σ H1 Q I1 q1
 | false=>ext d7M
open e
theorem LS (K)(H)(c9h)(xs:π):Prop:=
 Rd H a Cy \/
  ∃ (o:Obj)(its:Ó)(n:Nat),K.lookup a=!o/\o.cls=.type "list"/\o.dict=none/\o.data=.seq its n/\its.size<=sizeLine/\Fc xs its.toList
theorem NC (K)(H)(c9h)(xs:π):Prop:=
 Rd H a (.tup xs) \/
  ∃ (o:Obj)(its:Ó)(n:Nat),K.lookup a=!o/\o.cls=.type "tuple"/\o.data=.seq its n/\its.size<=sizeLine/\Fc xs its.toList
theorem b0A:Value->Ç
 | .none=>!.non
 | .bool b=>!.bl b
 | .int i _=>!.int i
 | .str x _=>!.str x
 | .bytes b _=>!.byt b
 | .float b _=>!.flt b
 | .ref a=>!.ref a
 | .type n=>!.ty n
 | _=>none
def Os.abs (d0e):b0A u=!x:=by
 cases x with
 | non=>ext d74
 | bl _=>ext d74
 | int _=>ext d3h
 | str _=>ext d3h
 | byt _=>ext d3h
 | flt _=>ext d3h
 | ref _=>ext d74
 | ty _=>ext d74
def Os.inj (d0e)(q:e5n u):x=y:=Option.some.inj (r.abs.symm.trans q.abs)
def Fc.inj:∀ {xs ys:π}{us:θ},e0k us->e5N us->xs=ys:=by
 intro xs ys us h
 induction h generalizing ys with
 | nil=>intro h;cases h;rfl
 | cons r t ih=>intro h;cases h with|cons r' t'=>rw[r'.inj r,ih t']
def LS.of {K:Ψ}(h:H a=!.lst xs):e0W xs:=.inl (.inl h)
def NC.of {K:Ψ}(h:H a=!.tup xs):e8g xs:=.inl (.inl h)
def Inv.list (c9Z):∃ its:θ,e0k its/\PlainL s.heap a its.toArray/\xs.length<=sizeLine:=by
 rcases h with h|⟨o,its,n,hk,hc,hd,hs,hz,r⟩
 ·let#[Db,e]:=h.ok I.LJ;show#[its,r,#[_,n,e,3],z]
 ·show#[its.toList,r,#[o,n,I.Oy a o hk,hc,hd,by simpa using hs],?_];let e:=r.length
  cbv
def Inv.tuple (I)(h:e8P xs):∃ its:θ,e0k its/\IsTup s.heap a its.toArray/\xs.length<=sizeLine:=by
 rcases h with h|⟨o,its,n,hk,hc,hs,hz,r⟩
 ·let#[z,its,r,p]:=h.ok I.LJ;show#[its,r,p,z]
 ·show#[its.toList,r,#[o,I.Oy a o hk,hc,n,by simpa using hs],?_];let e:=r.length
  cbv
def Inv.QC (c9Z)(h':e5o H a ys):xs=ys:=by
 let#[its,r,#[o,n,e,_,_,d],_]:=I.list h;let#[its',r',#[o',n',e',_,_,d'],_]:=I.list h';ext d3c
 ext d4y;show r.inj r'
def Inv.W8 (I)(h:e8P xs)(h':e8P ys):xs=ys:=by
 let#[its,r,#[o,e,_,n,d],_]:=I.tuple h;let#[its',r',#[o',e',_,n',d'],_]:=I.tuple h';ext d3c
 ext d4y;show r.inj r'
abbrev Cx.RE (X:Cx)(E:ρ):Cx:={ X with xe:=E }
abbrev Cx.Uv (X:Cx):Cx:=X.RE λ_ _=>False
def Cx.Ok.RE {X:Cx}(ok:X.Ok)(E:ρ):(X.RE E).Ok:=
 a10
def Cx.Ok.Nj {X:Cx}(ok:(X.RE E).Ok):X.Ok:=
 a10
def Inv.RE (I)(E:ρ):e7o s:=#[I.ok.RE E,c3w]
def Inv.Nj (I:e7o s):d9X H s:=#[I.ok.Nj,c3w]
def SP.Nj {D:Ends}(h:SP (X.RE E) ñ D f s'):e5Q D f s':=by
 cases f with
 | next=>ext d3o
 | brk=>ext d3o
 | cont=>ext d3o
 | ret u=>let⟨v,σ',H',I,r,q⟩:=h;show#[v,GD,I.Nj,r,q]
def Q2.Uv {st:Í}(h:Q2 X.Uv st t):Q2 X st t:=λe1l D I hw=>
 IC (e0j D (I.RE _) hw) (λe42=>q.Nj) λ_ _ z=>False.elim z
variable {st:Stmt}{t u:TS}{te:TE}
theorem a3c:TS:=λe6G=>e4p H
theorem a28 (t u:TS):TS:=λe6G=>t { D with nx:=u D } σ H
def ML:Q2 X [] a3c:=λ_ _ e3i _ I h=>KW #[σ,H,I,h]
def af (h1:e0Q t)(h2:Q2 X rest u):Q2 X (st::rest) (a28 t u):=by
 ext d2l;show wpAny_execs_cons (M8 (h1 ñ s σ H { D with nx:=u D } I h) λf s1 q=>?_)
 cases f with
 | next=>
  let#[GD,I',q]:=q;show h2 ñ s1 σ' H' D I' q
 | ret v=>show q
 | brk=>show q
 | cont=>show q
def aq (h1:e0Q t):Q2 X [st] t:=by
 ext d2l;show wpAny_execs_cons (M8 (d9l h1 D) λf s1 q=>?_)
 cases f with
 | next=>show KW q
 | ret v=>show q
 | brk=>show q
 | cont=>show q
def Inv.quiet (I):interactive X.env=false:=by simp[interactive,I.ok.kind]
theorem rG (te):TS:=λe6G=>te σ H λ_ H1=>e4p H1
def aE (c8w)(c8O):PS X (.Expr e pos) (rG te):=by ext d2l;show wpAny_Expr_any (M8 Ń λv e6C=>(by let#[Bi]:=gR;show#[σ,sT])) I.quiet hs
theorem a7l (te):TS:=λe6G=>te σ H D.rt
def bo (c8w):PS X c0g (a7l te):=by ext d2l;show wpAny_Return_some (M8 Ń λv e6C=>(by let#[Bi]:=gR;show#[x,σ,m8]))
theorem a7o (c:TT)(t u:TS):TS:=λe6G=>c σ H λb H1=>if b=true then t D σ H1 else u D σ H1
def fm (c9A):PS X zh (a7o tc t u):=by
 ext d2l;show wpAny_If b0C;ext d8n
 cases d with
 | true=>show ha ñ s1 σ H1 D I1 q1
 | false=>show hb ñ s1 σ H1 D I1 q1
theorem c4Y:TS:=λe05=>False
def a2E:e0Q c4Y:=λd94 _ h=>h.elim
def PQ:Q2 X sts c4Y:=λd94 _ h=>h.elim
open e
abbrev TG:=V->St->Hp->Υ->Prop
abbrev ZC:=List V->St->Hp->Υ->Prop
theorem PG (X)(target:Expr)(t:TG):Prop:=
 ∀ (ñ:ζ)(s:Ê)(σ:St)(H:Hp)(v:V)(u:Value)(Q:Υ),d9X H s->e4m u->t v σ H Q->
  wpAny Ē X.A (assign target X.env u) a69 X.xe s
theorem Fk (X)(ts:Ì)(t:ZC):Prop:=
 ∀ (ñ:ζ)(s:Ê)(σ:St)(H:Hp)(vs:π)(us:θ)(Q:Υ),d9X H s->Fc vs us->t vs σ H Q->
  wpAny Ē X.A (assignInOrder ((assignEach ts X.env).map (·.2)) us) a69 X.xe s
abbrev a17:=V->V->V->Hp->Ù->Prop
theorem a5P (X)(t:a17):Prop:=
 ∀ (ñ:ζ)(s:Ê)(σ:St)(H:Hp)(o i v:V)(ov iv u:Value)(Q:Ù),d9X H s->Os o ov->Os i iv->e4m u->t o i v H Q->
  wpAny Ē X.A (setItem ov iv u) (λ_ s'=>∃ H',e5J s'/\Q H') X.xe s
abbrev TIp:=V->V->Hp->VK->Prop
theorem PIp (X)(op:Operator)(t:TIp):Prop:=
 ∀ (ñ:ζ)(s:Ê)(σ:St)(H:Hp)(x y:V)(v u:Value)(Q:VK),d9X H s->e18 v->e5n u->t x y H Q->
  wpAny Ē X.A (inplaceOp op v u) Ĺ X.xe s
theorem c6 (i):TG:=λv d92=>Q wj H
def a5X (c7W)(hf):PG X ų lW:=by ext d7N;show wpAny_assign_Name (nU I hN hi hx r (λs' I'=>#[_,H,I',h]) hf)
theorem yb:ZC:=λvs d92=>vs=[]/\Q σ H
inductive xa (t:TG)(u:ZC)(vs:π)(c7s)(Q:Υ):∀ v r,vs=v::r->(t v σ H λσ' H'=>u r σ' H' Q)
def aI:Fk X [] yb:=by
 ext d7e;let#[e,h]:=h;subst e
 cases r;show assignInOrder_nil #[σ,H,I,h]
def ag (h1:PG X e t)(h2:Fk X es u)(hs:(assignEach sI X.env).map (·.2)=assign e X.env::(assignEach es X.env).map (·.2):=ă):Fk X sI (xa t u):=by
 ext d7e;let#[v,vr,e1,h]:=h;subst e1
 cases r with
 | cons r rr=>
  rw[hs];show assignInOrder_cons (M8 (h1 ñ s σ H Ĉ I r h) λ_ e6C=>?_);let#[σ1,sT]:=gR;show h2 ñ s1 σ1 H1 ĉ Q I1 rr q1
inductive z7 (K:Ψ)(n:Nat)(t:ZC)(v:V)(c7s)(Q:Υ):∀ a xs,v=.ref a->NC K H a xs->xs.length=n->t xs σ H Q
def a0y (hc)(h:Fk X es t)(c7H):PG X c07 (z7 X.K n t):=by
 intro ñ s σ H v u Q I r hw;let#[a,xs,e1,hq,hl,hw]:=hw;subst e1
 cases r;let#[Ex,ht,hz]:=I.tuple hq;show assign_Tuple_tuple ļ ht (by simp[hn,<- hl,rv.length]) RK λh' hx=>?_;let I1:d9X H { s with heap:=h' }:=I.kept λe0z=>hx b o Ac e;show h ñ _ σ H xs _ Q I1 (rv) hw
theorem a5d (to ti:TE)(t:a17):TG:=λv d92=>to σ H λo H1=>ti σ H1 λi H2=>t o i v H2 λH3=>Q σ H3
def a0z (ho:e9P to)(hi:PE X i ti)(hs:a5P X t)(ha:∀ v,assign rE X.env v=(do
   let ov <- holding [v] (d8N o);let iv <- holding [v,ov] (d8N i)
   standAt pos
   holding [v,ov,iv] (setItem ov iv v)
   release [v,ov,iv] []):=Ă):PG X rE (a5d to ti t):=by
 ext d7N;show GQ<|Ip (M8 (ho ñ s σ H _ I h) λov e6C=>?_);ext d3z;show GQ<|Ip (M8 (hi ñ s1 σ H1 _ I1 q1) λiv f1t=>?_);let#[y,vS]:=gR;show GQ<|JT (GQ<|Ip (M8 (hs ñ s2 σ H2 x y v ov iv u _ I2 r1 r2 r q2) λ_ s3 gR=>?_));let#[uH,q3]:=gR;show wpAny_release #[σ,uH,q3]
theorem mH (te)(g:TG):TS:=λe6G=>te σ H λe3D=>e4q H1 D.nx
def yr (c8w)(hg:PG X tg g)(hs:swapsWithSole [tg] e pos.line X.env=pure false:=ă)(hw:swappedStores [tg] e X.env=pure none:=ă)(h1:(assignEach [tg] X.env).map (·.2)=[assign tg X.env]:=ă):PS X (.Assign [tg] e pos) (mH te g):=by ext d2l;show wpAny_Assign_stores jX hs hw;ext d3z;rw[h1];show M8 (hg ñ s1 σ H1 x v _ I1 r1 q1) λ_ s2 q=>q
def a0u (c7W)(c8w)(hs:swapsWith e b0J pos.line X.env=pure false:=ă)(hf):
  PS X SB GF:=by
 ext d2l;show wpAny_Assign_Name jX hs;let#[y,m8]:=gR;show nU I1 hN hi hx r1 (λs2 I2=>#[_,H1,I2,q1]) hf
inductive a0f (i:Nat)(te:TE)(ti:TIp)(D:Ends)(c7s):∀ x,σ[i]?=some (some x)->(te σ H λy H1=>ti x y H1 λz H2=>D.nx (σ.set i !z) H2)
def yq (c7W)(c8w)(ho:PIp X op ti)(hf):
  PS X (.AugAssign (.Name x pos') op e pos) (a0f i te ti):=by
 ext d2l;let#[v,e1,h]:=h;ext d6i;let vis:e9O x:=by rcases hx with k|k;show .inl k;show .inr iB
 let#[u,r,l]:=hl i x v hi e1 vis;show wpAny_AugAssign_Name ?_;let go:d90 Gs (λw s₂=>d90 (inplaceOp op u w) (λr s₃=>d90 (storeName X.env x r) (λ_=>e5Q D .next) X.xe s₃) X.xe s₂) X.xe s:=by show M8 Ń λw e6C=>?_;let#[y,m8]:=gR;show M8 (ho ñ s1 σ H1 v y u w _ I1 r r1 q1) λz f1t=>?_;let#[zv,vS]:=gR;show nU I2 hN hi hx r2 (λs3 I3=>#[_,H2,I3,q2]) hf
 ext d5e
 ·show wpAny_loadName_local I.ok.kind hk hn hm go
 ·rcases hk with hk|hk
  ·show wpAny_loadName_cell I.ok.kind hk hc VZ go
  ·rcases hx with k|k
   ·let:X.env.scope.names.lookup x=!.free:=hk
    cbv
   ·let:X.env.scope.names.lookup x=!.free:=hk
    cbv
inductive ipI (f:Int->Int->Int)(c7b):∀ i j,x=.int i->y=.int j->Q (.int (f i j)) H
def c2M:PIp X .Add (ipI λi j=>i+j):=by intro ñ s σ H x y v u Q I r1 r2 h;let#[i,j,VV,q]:=h;subst e1;subst e2;let#[t,1]:=r1;let#[t',1]:=r2;show iadd_int Cg
theorem a0a (c:TT)(tb:TS):TS:=λe6G=>∃ W:Nat->Υ,(∃ m,W m σ H)/\∀ m σ H,W m σ H->
 c σ H λb H1=>if b=true then ∃ N:Υ,(∀ σ' H',N σ' H'->∃ m',m'<m/\W m' σ' H')/\tb { D with nx:=N,ct:=N,bk:=D.nx } σ H1 else D.nx σ H1
def CY {tb:TS}(hp)(hc:e8f tc)(hb:Q2 X body tb):PS X (.While c body [] pos) (a0a tc tb):=by
 ext d2l;let#[W,#[m0,w0],turn]:=h;show wpAny_While (codeAny_whileLoop (λn s'=>∃ σ' H',e0J s'/\W n σ' H') ?_ m0 #[σ,H,I,w0]);rintro n s1 ⟨σ1,H1,I1,w1⟩;show JP hp (M8 (hc ñ s1 σ1 H1 _ I1<|turn n σ1 H1 w1) λb f1t=>?_);let#[vN,q2]:=gR
 cases b with
 | true=>
  let#[N,hN,q2]:=q2;show JP hp (M8 (d9o hb σ1) λf s3 q3=>?_)
  cases f with
  | next=>
   ext d3p
  | cont=>
   ext d3p
  | brk=>show q3
  | ret v=>show q3
 | false=>
  show KW #[σ1,vN,q2]
set_option genInjectivity false
structure It where
 go:Nat->Ù
 XE:Nat->Hp->V->Ù
 stop:Nat->Ù
set_option genInjectivity true
theorem jL (X)(ñ)(H)(b:Addr):Prop:=
 H b=none/\b≠X.env.locals/\b∉X.fs/\(b∈X.ex\/X.s₀.heap.objs.size<=b)/\(∀ x c,X.env.cells.lookup x=!c->c≠b)/\∀ p∈X.pn++ñ,p.1≠b
def Inv.Sz (I)(hb:s.heap.objs.size<=b)(hn:H' b=none):e2I H' b:=by
 show#[hn,IG<|HN I.lt hb,I.Wf hb,.inr<|HE I.sz hb,λx c e z=>?_,λe79 z=>?_]
 ·let#[v,q]:=e8O e;show absurd (HN q.lt (by rw[z];show hb)) sR
 ·show absurd (HN (HD (e9Q hp).1) (by rw[z];show hb)) sR
structure EqK (Cc:Cx->Prop)(P:É)(w:World)(K:Ψ)(tg:Expr)(J:It)(fp:υ)(it:Addr)(tn:Nat->Heap->Prop):Prop where
 mem:it∈fp
 obj:∀ i h,tn i h->∀ b∈fp,∃ o,h.get? b=!o/\∀ v,o.data≠.cell v
 keep:∀ i h h',tn i h->(∀ b∈fp,∀ o,h.get? b=!o->h'.get? b=!o)->tn i h'
 item:∀ (X:Cx),X.prog=P->X.w=w->X.K=K->Cc X->∀ (i:Nat)(ñ:ζ)(s:Ê)(σ:St)(H:Hp)(E:ρ),Inv X ñ σ H s->b6c->tn i s.heap->J.go i H ->
  wpAny Ů X.A Kz (λr s1=>∃ u,r=some u /\
   wpAny Ů X.A b5G (λ_ s2=>∃ x H',Inv X ñ σ H' s2/\Os x u/\J.XE i H x H'/\tn (i+1) s2.heap/\∀ b∈fp,H' b=none) E s1) E s
 done:∀ (X:Cx),X.prog=P->X.w=w->X.K=K->Cc X->∀ (i:Nat)(ñ:ζ)(s:Ê)(σ:St)(H:Hp)(E:ρ),Inv X ñ σ H s->b6c->tn i s.heap->J.stop i H ->
  wpAny Ů X.A Kz (λr s1=>r=none/\Inv X ñ σ H s1) E s
 self:∀ (A:Ë)(i:Nat)(s:Ê)(Q:ρ)(E:ρ),tn i s.heap->Q Ix s->wpAny Ů A (pyIter Ix) Q E s
abbrev uV:=EqK λX=>X.calm=true
abbrev TI:=St->Hp->(It->Ù)->Prop
theorem a5Q (Cc:Cx->Prop)(d1L)(tg:Expr)(R:It->Ù)(itv:Value)(s2:Ê):Prop:=
 ∃ (it:Addr)(fp:υ)(tn:Nat->Heap->Prop)(J:It)(H':Hp),itv=.ref it/\Inv X ñ σ H' s2/\EqK Cc X.prog X.w X.K tg J fp it tn/\tn 0 s2.heap/\(∀ b∈fp,e2I H' b)/\R J H'
theorem mI (Cc:Cx->Prop)(X)(tg iter:Expr)(wi:TI):Prop:=
 ∀ (ñ:ζ)(s:Ê)(σ:St)(H:Hp)(R:It->Ù),d9X H s->wi σ H R->
  wpAny Ē X.A (d8N iter) (λv s1=>d90 (pyIter v) (a5Q Cc X ñ σ tg R) X.xe s1) X.xe s
abbrev PIE:=a5Q λX=>X.calm=true
abbrev PI:=mI λX=>X.calm=true
def sE (ho : s.heap.get? it = !o)(hc : o.cls = .type n)(hd : o.data = .fields vs)(hn : ["enumerate", "zip", "dict_itemiterator", "dict_reverseitemiterator", "odict_iterator", "itertools.zip_longest", "itertools.pairwise"].contains n = false)(hQ : Q () s): wpAny M A b5G Q E s := by
  cases tg <;> first
    | show Hg hQ
    | (cases u <;> first
        | show Hg hQ
        | (show GQ (wpAny_load ho ?_)
           rw [hc, hd];change wpAny M A (if _ = true then _ else _) Q E s;rw [if_neg (by intro h; rw [hn, Le] at h; cases h)];show Hg hQ))
theorem ZJ (K)(c9h):It:=
 ⟨λi H=>∃ xs x,e0W xs/\xs[i]?=!x,λe8F=>H'=H/\∀ xs,e0W xs->xs[i]?=!x,λi H=>∃ xs,e0W xs/\xs.length<=i⟩
theorem Itt (K)(c9h):It:=
 ⟨λi H=>∃ xs x,e8g xs/\xs[i]?=!x,λe8F=>H'=H/\∀ xs,e8g xs->xs[i]?=!x,λi H=>∃ xs,e8g xs/\xs.length<=i⟩
theorem ZI (lo:Int)(n):It:=⟨λi _=>i<n,λe8F=>H'=H/\x=.int (lo+i),λi _=>n<=i⟩
def c5h (c7z)(d1k)(a it:Addr):e2k xI [it] it (λi h=>h.IsListIter it a i) where
 mem:=by simp
 obj:=λe10=>by
  ext d2x
  ext d2s
 keep:=λe1z=>st.at λo e=>e3u e
 item:=by intro X hP hw hK hc i ñ s σ H E I hf st hg;subst hP hw hK;let#[xs,x,hq,hx]:=hg;let#[mJ]:=I.list hq;let#[u,hu,ru]:=rv.get hx;let#[wW]:=hf it ė;show wpAny_pyNext_list_item st p.isList b9y λh' Pj sb=>?_;let I1:d9X H { s with heap:=h' }:=e06 f5;let#[vq]:=id Pj;show#[u,1,sE e c d į #[x,H,I1,ru,#[1,λys hy=>by rw[I.QC hy hq];show hx],v7]]
 done:=by intro X hP hw hK hc i ñ s σ H E I hf st hg;subst hP hw hK;let#[xs,hq,hx]:=hg;let#[mJ]:=I.list hq;let#[wW]:=hf it ė;let hl:=rv.length;show wpAny_pyNext_list_end ļ st p.isList (by simp;omega) λh' eb=>E9
 self:=λe4i=>wpAny_pyIter_listiter st h
def a6G (c7z)(d1k)(a it:Addr):e2k (Itt K a) [it] it (λi h=>h.IsTupleIter it a i) where
 mem:=by simp
 obj:=λe10=>by
  ext d2x
  ext d2s
 keep:=λe1z=>st.at λo e=>e3u e
 item:=by intro X hP hw hK hc i ñ s σ H E I hf st hg;subst hP hw hK;let#[xs,x,hq,hx]:=hg;let#[mJ]:=I.tuple hq;let#[u,hu,ru]:=rv.get hx;let#[wW]:=hf it ė;show wpAny_pyNext_tuple_item st (p) b9y λh' Pj sb=>?_;let I1:d9X H { s with heap:=h' }:=e06 f5;let#[vq]:=id Pj;show#[u,1,sE e c d į #[x,H,I1,ru,#[1,λys hy=>by rw[I.W8 hy hq];show hx],v7]]
 done:=by intro X hP hw hK hc i ñ s σ H E I hf st hg;subst hP hw hK;let#[xs,hq,hx]:=hg;let#[mJ]:=I.tuple hq;let#[wW]:=hf it ė;let hl:=rv.length;show wpAny_pyNext_tuple_end ļ st (p) (by simp;omega) λh' eb=>E9
 self:=λe4i=>wpAny_pyIter_tupleiter st h
abbrev _root_.Φ:=PySem.W.Frag
def f1A {P:É}{w:World}{K:Φ}(d1k)(it:Addr)(lo:Int)(n):e2k (ZI lo n) [it] it (λi h=>IsRangeIter h it (lo+(i:Nat) * 1) ((n:Int) - (i:Nat)) 1) where
 mem:=by simp
 obj:=λe10=>by
  ext d2x
  subst e;show#[_,st,λv z=>by
   let z':=z
   cases z']
 keep:=λe1z=>k it ė _ st
 item:=by intro X hP hw hK hc i ñ s σ H E I hf st hg;subst hP hw hK;let#[wW]:=hf it ė;let W:=Walks.range (prog:=X.prog) (w:=X.w) ļ it lo 1 n;show W.item i s ĉ hg st λv e2Z hv Pj kk=>?_;let#[t,1]:=hv;let I1:d9X H { s with heap:=h',toks:=tk }:=e2l f5;show#[_,1,sE Pj rfl rfl į #[.int _,H,I1,#[t,?_],#[2],v7]];rw[Int.mul_one]
 done:=by intro X hP hw hK hc i ñ s σ H E I hf st hg;let#[wW]:=hf it ė;show wpAny_pyNext_range_end ļ st (by let:n<=i:=hg;lia) λh' eb=>E9
 self:=λe4i=>wpAny_pyIter_rangeiter st h
inductive c5R (K:Ψ)(R:It->Ù)(x:V)(H1:Hp):∀ a,x=.ref a->b7W->R xI H1
theorem Zg (K)(tl:TE):TI:=λe8N=>tl σ H λe3D=>c5R K R x H1
def zT (c8R):e07 l (Zg X.K tl):=by
 ext d6u;ext d3z;let#[a,e,#[xs,hq],q]:=q1;subst e
 cases r1;let#[mJ]:=I1.list hq;show Kp p.isList ?_;show#[lv,c5h a _,CO,λe3b=>?_,q];ext d3a
 ext d4Q
def vK {lo:Int}(I)(h1:-Cr<=lo)(h2:lo<2 ^ 62)(h3:-Cr<=hi)(h4:hi<2 ^ 62)(q:R (ZI lo (hi - lo).toNat) H):d90 (pyIter SC) (PIE X ñ σ tg R) E { s with heap:=s.heap.push { cls:=.type "range",data:=.fields [m9].toArray },toks:=tk }:=by
 show wpAny_pyIter_range (IsRange.new ..) (small_one h1 h2 h3 h4) ?_;let I1:d9X H { s with heap:=s.heap.push { cls:=.type "range",data:=.fields [m9].toArray },toks:=tk }:=I.kept λe0z=>GW _ e;show#[(s.heap.push { cls:=.type "range",data:=.fields [m9].toArray }).objs.size,[(s.heap.push { cls:=.type "range",data:=.fields [m9].toArray }).objs.size],_,_,H,1,
  I1.kept λe0z=>GW _ e,f1A _ lo (hi - lo).toNat,?_,λe3b=>?_,q]
 ·let e1:lo+((0:Nat)) * 1=lo:=by simp
  let e2:((hi - lo).toNat) - ((0:Nat))=Builtin.Range.rangeSize lo hi 1:=by rw[rangeSize_one];split <;> lia
  rw[e1,e2];show Hw _ rfl
 ·let e:b=(s.heap.push { cls:=.type "range",data:=.fields [m9].toArray }).objs.size:=by simpa using hb
  ext d4Q
inductive c54 (c8r):∀ j:Int,vs=[.int j]->-Cr<=j->j<2 ^ 62->R (ZI 0 j.toNat) H1
theorem a4f (ta):TI:=λe8N=>ta σ H λe43=>c54 R vs H1
inductive SlR (c8r):∀ i j:Int,vs=[.int i,.int j]->(-Cr<=i/\i<2 ^ 62/\-Cr<=j/\j<2 ^ 62)->R (ZI i (j - i).toNat) H1
theorem a4e (ta):TI:=λe8N=>ta σ H λe43=>SlR R vs H1
def fY (c7u)(ha:PA X [a] ta)(hs:starEach [a] X.env=[b82]:=ă):e07 (.Call tM [a] [] pos) (a4f ta):=by
 ext d2I;show Call_<|f1r (e0d hs rfl);ext d6R;let#[j,e,wH,q]:=q1;subst e
 cases r1 with
 | cons r rr=>
  cases rr;let#[t,1]:=r;show call_range_1 (vK I1 #[0] #[0] q1 q2<|by simpa using q)
def Bh (c7u)(ha:PA X [a,b] ta)(hs:starEach [a,b] X.env=[b82,b83]:=ă)(U5:starEach [b] X.env=[b83]:=ă):
  PI X tg (.Call tM [a,b] [] pos) (a4e ta):=by
 ext d2I;show Call_<|f1r (e0d mh (by rw[U5];rfl));ext d6R;let#[i,j,e,#[mK,q4],q]:=q1;subst e
 cases r1 with
 | cons r rr=>
  cases rr with
  | cons r' rr=>
   cases rr;let#[t,1]:=r;let#[t',1]:=r';show call_range_2 (vK I1 q1 q2 q3 q4 q)
theorem a7p (wi:TI)(g:TG)(tb:TS):TS:=λe6G=>wi σ H λJ H1=>∃ W:Nat->Nat->Υ,(∃ m,W 0 m σ H1)/\∀ i m σ H,e32 H->
 (J.stop i H/\D.nx σ H)\/(J.go i H/\∃ N:Υ,ġ/\∀ x H',J.XE i H x H'->e4q H' λe5k=>tb { D with nx:=N,ct:=N,bk:=D.nx } σ2 H2)
theorem oC (fp:υ)(c8v):ζ:=fp.filterMap λb=>(h.get? b).map λo=>(b,o)
def gp (hb:b∈fp)(e:h.get? b=!o):(b,o)∈oC fp h:=List.mem_filterMap.mpr #[b,hb,by rw[e];rfl]
def c5B (hp:p∈oC fp h):p.1∈fp/\h.get? p.1=!p.2:=by
 let#[b,hb,e]:=List.mem_filterMap.mp hp
 cases q:h.get? b with
 | none=>rw[q]at e;cases e
 | some o=>
  rw[q]at e;let e':=Option.some.inj e;subst e';show#[hb,q]
def Inv.pinned (I)(hf:∀ b∈fp,e2I H b)(ho:∀ b∈fp,∃ o,s.heap.get? b=!o/\∀ v,o.data≠.cell v):Inv X (ñ++oC fp s.heap) σ H s:=
 I.MM λe79=>(Hx.mp hp).elim (λz=>I.pin p<|Hh _ z) λz=>by
  let#[hb,e]:=c5B z;let#[f0,f1,f2,_]:=hf p.1 hb;let#[o,e',d]:=ho p.1 hb
  cbv
def Inv.Ph (I:Inv X (ñ++pl) σ H s):d9X H s:=I.MM λe79=>e9Q (Hh _<|HG _ hp)
def bB {tb:TS}(hp)(hc)(hi:e4d wi)(hg:PG X tg g)(hb:Q2 X body tb)(hs):PS X (.For tg iter body [] pos) (a7p wi g tb):=by
 ext d2l;show wpAny_For (M8 (d9l hi _) λv s1 h1=>M8 h1 λitv s2 h2=>?_) hs;let#[it,fp,tn,J,H2,e,I2,T,st2,f2,W,#[m0,w0],turn]:=h2;subst e;let stat:∀ {H':Hp},(∀ b∈fp,H' b=none)->∀ b∈fp,e2I H' b:=λhn e3b=>#[hn b hb,(f2 b hb).2]
 show codeAny_forLoop_any (λn s'=>∃ i σ' H',e0J s'/\tn i s'.heap/\(∀ b∈fp,H' b=none)/\W i n σ' H') ?_ m0 #[(0),σ,vN,st2,λe3b=>(f2 b hb).1,w0];rintro n s3 ⟨i,σ3,H3,I3,st3,fr3,w3⟩;rcases turn i n σ3 H3 w3 with⟨stop,qn⟩|⟨go,N,hN,step⟩
 ·show JP hp (M8 (T.done X rfl rfl rfl hc i ñ s3 σ3 H3 X.xe I3 (stat fr3) st3 stop) λr s4 gR=>?_);let#[hr,I4]:=gR;subst hr;show KW #[σ3,H3,I4,qn]
 ·show JP hp (M8 (T.item X rfl rfl rfl hc i ñ s3 σ3 H3 X.xe I3 (stat fr3) st3 go) λr s4 gR=>?_);let#[u,hr,h4]:=gR;subst hr;show JP hp (M8 h4 λ_ s5 gR=>?_);let#[x,H5,I5,r5,y5,st5,fr5]:=gR;show JP hp (M8 (hg _ s5 σ3 H5 x u _ (I5.pinned (stat fr5)<|T.obj _ _ st5) r5<|step x H5 y5) λ_ s6 gR=>?_);let#[σ6,H6,I6,q6]:=gR;show JP hp (M8 (hb _ s6 σ6 H6 _ I6 q6) λf s7 q7=>?_);let again:∀ {σ7:St}{H7:Hp},Inv X _ σ7 H7 s7->N σ7 H7->∃ m,m<n/\∃ i σ' H',e0J s7/\tn i s7.heap/\(∀ b∈fp,H' b=none)/\W i m σ' H':=λ{σ7 H7} I7 n7=>by let#[m',hm,w7]:=hN σ7 H7 n7;show#[m',hm,i+1,pZ,T.keep Ĉ st5 λe3b o e=>(I7.pin (b,o)<|Hh _ (Hh _<|gp hb e)).1,λe3b=>?_,w7];let#[o,e,d]:=T.obj ĉ st5 b hb;show (I7.pin (b,o)<|Hh _ (Hh _<|gp hb e)).2.1
  cases f with
  | next=>ext d5b
  | cont=>ext d5b
  | brk=>let⟨σ7,H7,I7,q7⟩:=q7;show#[pZ,q7]
  | ret v=>let⟨x7,σ7,H7,I7,r7,q7⟩:=q7;show#[x7,pZ,r7,q7]
def c2D {K:Φ}{g:TG}(c70)(hs:∀ i x σ H,xs[i]?=!x->e7D H->e4q H λe5k=>tb { D with nx:=Pv (i+1),ct:=Pv (i+1),bk:=D.nx } σ2 H2)(c9m):
  ∃ W:Nat->Nat->Υ,lQ/\∀ i m σ H,e32 H->
   ((ZJ K a).stop i H/\D.nx σ H)\/((ZJ K a).go i H/\∃ N:Υ,ġ/\∀ x H',(ZJ K a).XE i H x H'->e4q H' λe5k=>tb { D with nx:=N,ct:=N,bk:=D.nx } σ2 H2):=by
 ext d22
 ·show .inr #[v6,Pv<|i+1,λe9I=>b21,λx H' y=>?_];let#[e,y]:=y;subst e;show hs i x σ _ (y xs q) p
 ·let e:i=xs.length:=#[]
  subst e;show .inl b5I
def iP {lo:Int}(d0J)(hs:∀ i σ H,i<n->e7D H->g (.int (lo+i)) σ H λe5k=>tb { D with nx:=Pv (i+1),ct:=Pv (i+1),bk:=D.nx } σ2 H2)(hd:∀ σ H,Pv n σ H->e4p H):
  ∃ W:Nat->Nat->Υ,lQ/\∀ i m σ H,e32 H->
   ((ZI lo n).stop i H/\D.nx σ H)\/((ZI lo n).go i H/\∃ N:Υ,ġ/\∀ x H',(ZI lo n).XE i H x H'->e4q H' λe5k=>tb { D with nx:=N,ct:=N,bk:=D.nx } σ2 H2):=by
 show#[λi m e3i=>m=n - i/\i<=n/\Pv i σ H,#[n,by simp,HP _,h0],?_];ext d67;by_cases NI:i<n
 ·show .inr #[NI,Pv<|i+1,λe9I=>#[n - (i+1),#[],1,NI,p'],λx H' y=>?_];let#[e,y]:=y;subst e y;show hs i σ _ NI p
 ·let e:i=n:=#[]
  subst e;show .inl #[Hi _,hd σ H p]
abbrev R2:=V->V->Hp->VK->Prop
theorem NP (X)(f:Value->Value->Sem Value)(r:R2):Prop:=
 ∀ (ñ:ζ)(s:Ê)(σ:St)(H:Hp)(x y:V)(v u:Value)(Q:VK),d9X H s->e18 v->e5n u->r x y H Q->
  wpAny Ē X.A (f v u) Ĺ X.xe s
theorem sB (X)(f:Value->Sem Value)(r:V->Hp->VK->Prop):Prop:=
 ∀ (ñ:ζ)(s:Ê)(σ:St)(H:Hp)(x:V)(v:Value)(Q:VK),d9X H s->e18 v->r x H Q->
  wpAny Ē X.A (f v) Ĺ X.xe s
theorem Ms (X)(f:Value)(c9j):Prop:=
 ∀ (ñ:ζ)(s:Ê)(σ:St)(H:Hp)(xs:π)(us:θ)(Q:VK),d9X H s->e0k us->r xs H Q->
  wpAny Ē X.A (call f us) Ĺ X.xe s
theorem Ti (r:R2)(ta tb:TE):TE:=λd92=>ta σ H λe3D=>tb σ H1 λy H2=>r x y H2 Q
theorem tUn (r:V->Hp->VK->Prop)(ta:TE):TE:=λd92=>ta σ H λe3D=>r x H1 Q
inductive rI (C:Int->Int->Prop)(g:Int->Int->V)(c7b):∀ i j,x=.int i->y=.int j->C i j->Q sx H
inductive XG (g:Int->Int->V)(c7b):∀ i j,x=.int i->y=.int j->Q sx H
inductive rU (g:Int->V)(x:V)(H:Hp)(Q:VK):∀ i,x=.int i->Q (g i) H
variable {tb:TE}
def a1Y (c60){R:V->V->Ù}(I)(h:ta σ H λe3D=>tb σ H1 λy H2=>R x y H2){f:Value->Value->Sem Value}(hf:∀ v u s2 x y H2,d9X H2 s2->e18 v->e5n u->R x y H2->e8D s2):
  wpAny Ē X.A (d8N a) (λv s₁=>d90 (d8N b) (λu s₂=>e8D s₂) X.xe s₁) X.xe s:=by
 show M8 Ŏ λv e6C=>?_;ext d3z;show M8 FN λu f1t=>?_;let#[y,vS]:=gR;show hf v u s2 x y H2 I2 r1 r2 q2
def cr (d1l)(c60):PE X b9z u0:=by ext d2c;show wpAny_BinOp a23
def a3D (ho:sB X (unaryOp op) r)(d1M):PE X (.UnaryOp op a pos) (tUn r ta):=by ext d2c;show UnaryOp_ (M8 Ŏ λv e6C=>(by let#[Bi]:=gR;show ho ñ s1 σ H1 x v Q I1 r1 q1))
def jF {g:Int->Int->Int}(rule:∀ (i j:Int)(t u:Tok)(s:Ê)(Q:ρ)(E:ρ),C i j->Q c08 { s with toks:=s.toks+1 }->e76 s):
  NP X f (d9c C sx):=by
 ext d2f;let#[i,j,2,hc,q]:=h;ext d2z;show rule i j t t' s ĉ hc Cg
def a3F {g:Int->Int->Int}(rule:∀ (i j:Int)(t u:Tok)(s:Ê)(Q:ρ)(E:ρ),Q c08 { s with toks:=s.toks+1 }->e76 s):
  NP X f (XG λi j=>.int sx):=by
 ext d3Z;show rule i j t t' s ĉ Cg
def FG {g:Int->Int->Bool}(rule:∀ (i j:Int)(t u:Tok)(s:Ê)(Q:ρ)(E:ρ),Q (.bool sx) s->e76 s):
  NP X f (XG λi j=>.bl sx):=by
 ext d3Z;show rule i j t t' s ĉ #[wv]
theorem b0V (i j:Int):Prop:=0<j/\j<1073741824
theorem b0U (i j:Int):Prop:=0<=j/\j<=1000000/\i.natAbs<2 ^ 64
theorem Wz (i j:Int):Prop:=(-(2 ^ 64)<i/\i<2 ^ 64)\/(-(2 ^ 64)<j/\j<2 ^ 64)
def Wz.ok (h:Wz i j):IntMulOk i j:=by
 ext d5X
 ·show .of_left b7X
 ·show .of_right b7X
def i8:e8h (XG λi j=>.int (i+j)):=a3F λe1d q=>add_int q
def tU:NP X (binaryOp .Sub) (XG λi j=>.int (i - j)):=a3F λe1d q=>sub_int q
def cQ:NP X c10 (d9c Wz (i * j)):=jF λe1d hc q=>mul_int q hc.ok
def bQ:NP X (binaryOp .FloorDiv) (d9c b0V (i / j)):=jF λi j d94 hc q=>by let h1:=hc.1;let h2:=hc.2;show floordiv_int #[] (by rw[Int.fdiv_eq_ediv_of_nonneg i<|by lia];show q) (.inl<|PyProof.noPylong_small #[])
def b7:NP X (binaryOp .Mod) (d9c (λ_ j=>0<j) (i % j)):=jF λi j d94 hc q=>by show mod_int' #[] (by rw[Im i<|by lia];show q)
def a0N:NP X (binaryOp .Pow) (d9c b0U (i ^ j.toNat)):=jF λe1d hc q=>pow_int_small hc.1 hc.2.1 hc.2.2 q
def unI {g:Int->Int}(rule:∀ (i:Int)(t:Tok)(s:Ê)(Q:ρ)(E:ρ),Q (.int (g i) s.toks) { s with toks:=s.toks+1 }->d90 (f JG) Q E s):
  sB X f (rU λi=>.int (g i)):=by
 intro ñ s σ H x v Q I rx h;let#[i,1,q]:=h;let#[t,1]:=rx;show rule i t s ĉ #[.int<|g i,H,I.tok _,#[_,1],q]
def b2G:sB X (unaryOp .USub) (rU λi=>.int (-i)):=unI λd94 q=>neg_int q
open e
theorem Aj:V->V->Bool
 | .int _,.int _=>true
 | .str _,.str _=>true
 | .str _,.non=>true
 | _,_=>false
theorem rEq:R2:=λe6D=>Aj x y=true/\Q b84 H
theorem rNe:R2:=λe6D=>Aj x y=true/\Q (.bl (not (decide (x=y)))) H
def b4c:decide (V.int i=V.int j)=(i==j):=by rw[Jc];simp
def a0w:decide (V.str i=V.str j)=(i==j):=by rw[Jc];simp
variable {X:Cx}{ta tb tc:TE}
def gw (I)(q:Q (.bl k) H)(e:k=k'):e3R (.bool k') s:=by subst e;show#[.bl k,H,I,1,q]
def bn:e7p rEq:=by
 ext d4U
 cases x with
 | int i=>
  cases y with
  | int j=>ext d27;show eq_int (gw I q b4c)
  | _=>ext d2O
 | str i=>
  cases y with
  | str j=>ext d27;show eq_str (gw I q a0w)
  | non=>ext d7O;show PySem.EqNone.eq_str_none c09
  | _=>ext d2O
 | _=>cases y <;> show absurd (show false=true from hs) Ia
def b3b:NP X wD rNe:=by
 ext d4U
 cases x with
 | int i=>
  cases y with
  | int j=>ext d27;show ne_int (gw I q<|congrArg not b4c)
  | _=>ext d2O
 | str i=>
  cases y with
  | str j=>ext d27;show ne_str (gw I q<|congrArg not a0w)
  | non=>ext d7O;show PySem.EqNone.ne_str_none c09
  | _=>ext d2O
 | _=>cases y <;> show absurd (show false=true from hs) Ia
def gL:NP X (compareOp .Lt) (XG λi j=>.bl (decide (i<j))):=FG λe1d q=>lt_int q
def rX:NP X (compareOp .LtE) (XG λi j=>.bl (decide (i<=j))):=FG λe1d q=>le_int q
def b1z:NP X (compareOp .Gt) (XG λi j=>.bl (decide (j<i))):=FG λe1d q=>gt_int q
def Do:NP X (compareOp .GtE) (XG λi j=>.bl (decide (j<=i))):=FG λe1d q=>ge_int q
def c0y:NP X lR (λe6D=>∃ i j,x=.str i/\y=.str j/\Q (.bl (not (Builtin.Str.occurrences j i 0 j.length 1).isEmpty)) H):=by ext d3Z;show in_str (gw I q rfl)
def c4s:NP X (compareOp .Is) a7m:=by
 ext d2f;let#[1,q]:=h
 cases ry;show is_none_gen (gw I q ?_)
 cases x <;> first
  | (cases rx;rfl)
  | (let#[t,1]:=rx;rfl)
def b8C:NP X (compareOp .IsNot) a6m:=by
 ext d2f;let#[1,q]:=h
 cases ry;show isnot_none_gen (gw I q ?_)
 cases x <;> first
  | (cases rx;rfl)
  | (let#[t,1]:=rx;rfl)
def NP.or (h:e9R r)(h':e9R r'):e9R b2a:=by
 intro ñ s σ H x y v u Q I rx ry q;ext d7P
 ·show h ñ s σ H x y v u Q I rx ry q
 ·show h' ñ s σ H x y v u Q I rx ry q
def c39 (b:Expr)(h:op≠.In:=ö)(h2:op≠.NotIn:=ö):behindInMarks op b=false:=by
 let e1:(op==CmpOp.In)=false:=by grind
 let e2:(op==CmpOp.NotIn)=false:=by grind
 cases b <;> simp[behindInMarks,e1,e2]
def zW (c9U):PE X Ť u0:=by ext d2c;show wpAny_Compare1 a23 hm
theorem Ct (t:TE):TT:=λd92=>t σ H λx H'=>kTB Q x H'
def zQ (c9U):PT X Ť (Ct u0):=by
 ext d2c;show wpAny_isTrue_Compare1 (thE Ŏ λv e6H r1 q1=>thE FN λu s2 y H2 I2 r2 q2=>
  M8 b1f fun c s3 ⟨z,H3,I3,r3,k,e,q3⟩=>?_) hm
 subst e
 cases r3;show Jh #[uH,q3]
theorem Cw (r r':R2)(ta tb tc:TE):TE:=λd92=>ta σ H λe3D=>tb σ H1 λy H2=>r x y H2 λz H3=>∃ k,z=.bl k/\
 (if k=true then tc σ H3 λw' H4=>r' y w' H4 Q else Q UF H3)
def oG (ho)(U7:NP X (compareOp op') r')(c60)(hc:PE X c tc)(hm:lastMarks [op,op'] [b,c]=false:=Ą):PE X (.Compare a [op,op'] [b,c] pos) (Cw r r' ta tb tc):=by
 ext d2c;show Compare_chain (thE Ŏ λv e6H r1 q1=>chain_link (thE FN λu s2 y H2 I2 r2 q2=>
  M8 b1f fun d s3 ⟨z,H3,I3,r3,k,e,q3⟩=>?_)) hm
 subst e
 cases r3;show Jh ?_
 cases k with
 | false=>show ite_ff #[.bl false,uH,1,q3]
 | true=>show ite_tt (chain_last<|M8 (hc ñ s3 σ H3 _ I3 q3) λw' s4 gR=>(by let#[z',H4,I4,r4,q4]:=gR;show U7 ñ s4 σ H4 y z' u w' Q I4 r2 r4 q4))
def p9:(sizeLine:Nat)<2 ^ 63:=by rw[Ir];decide
def a6o:e8h (λe6D=>∃ i j,x=.str i/\y=.str j/\i.length+j.length<=sizeLine/\Q (.str (i++j)) H):=by ext d2f;let#[i,j,2,hz,q]:=h;ext d2z;show add_str (λt' tk=>#[.str _,j7,q]) hz
def dJ (r:Fc [x] us):∃ u,us=[u]/\Os x u:=by
 cases r with
 | cons r1 r2=>cases r2;show#[_,1,r1]
def Cj (r:Fc [x,y] us):∃ u w',us=[u,w']/\Os x u/\Os y w':=by
 cases r with
 | cons r1 r2=>
  cases r2 with
  | cons r3 r4=>cases r4;show#[wG,r1,r3]
open e
structure Vv (c8v)(x dx C:Addr)(mA:Ω):Prop where
 obj:h.get? x=!W.instObj C dx
 ns:h.Ns1 dx mA
 ne:dx≠x
instance BA {h:Heap}(n:h.Ns1 dx mA):∃ od,h.get? dx=!od/\∀ name,W.lookIn name od=!mA name:=by
 let#[o,es,ep,ho,hd,hk,_,hm]:=n;show#[o,ho,λname=>?_];let e:=hm name;unfold nsFind findBy at e;rw[<- Array.find?_toList]at e;ext1 W.lookIn;rw[hd];dsimp only;split
 ·cbv
 ·rename_i q;let a:es.toList.any (·.refKey)=false:=by rw[List.any_eq_false];intro y hy;let#[z,t,U8]:=hk y<|Array.mem_toList_iff.mp hy;simp[DictEntry.refKey,U8]
  grind
def Vv.look (I:Vv h x dx C mA):∃ od,W.InstAt h x (e7E dx) C !od/\∀ name,W.lookIn name od=!mA name:=
 let #[od,ho,hl]:=BA I.ns
 #[od,#[I.obj,2,ho],hl]
variable {K:Ψ}
def b3M (d0t)(d1m)(ha:e0a x6 name=!none)(hv:mA name=!v)(hv':W.handedIn v=true)(h:Q v { s with toks:=s.toks+1 }):
  wpAny ē A (getAttr qe name expr) Q E s:=by
 ext d55;show W.get_value X J (W.plainGet_of hg).1 (W.findObj_own hh ha rfl<|by rw[hl,hv]) hv' h
def b6e (d0t)(hf:e0a x6 name=!some Ci)(ht:W.isFn K Ci=true)(hv:mA name=none)(h:Q (.ref f,[.ref x]) s):
  wpAny ē A (getMethod qe name pl) Q E s:=by
 ext d55;show W.method_fn X J (W.plainGet_of hg).1 (W.plainGet_of hg).2 hf (JJ.mp ht) (by change (W.lookIn name od).map _=!false;rw[hl,hv];rfl) h
def a7L (c76)(hs:Μ x6)(hp:e08 C=true)(ht:e2m C name=!none)(d1m)(hw:PySem.Within mA ns)(hsz:ns.length<=sizeLine)(h:∀ h',Vv h' x dx C (λy=>if y=name then some v else mA y)->Heap.SameBut dx s.heap h'->Q () { s with heap:=h',toks:=s.toks+2 }):
  wpAny ē A (setAttr qe name v) Q E s:=by
 ext d55;show W.set_plain X J hs (W.osa_open X J hp ht λb=>?_);let#[cd,hc,Q1]:=W.any_some hh;let hx:=I.obj;show GQ<|Hg (GQ<|GQ (wpAny_loadPart hx<|GQ (W.Looks.here (W.looks_clsIn X hc) ?_)));rw[Q1];show Hg<|GQ (Hg (GQ ?_));show wpAny_nsSet1 I.ns λh' hn2 U5=>?_;let#[BS]:=hn2.count<|PySem.Within.cons name v hw;show GQ (e22 (by rw[hdD];show pastItsLine_dict<|HE hcD ě) ?_);show Hg (h _ #[(U5.2 _<|Ne.symm I.ne).trans I.obj,hn2,I.ne] U5)
def DB (X:K.In s.heap)(hm:W.makesIn K C=true)(hi:e0a x6 "__init__"=!some Ci)(hf:W.typeIn K Ci=!.type "function")(h:codeAny ē (d9q #[.ref C::vs,kw]) (.call Ci #[.ref ń::vs,kw]) (W.InitBack ń R)
   { s with heap:=(s.heap.push W.emptyDict).push b3y }):
  codeAny ē A (.call x6 #[vs,kw]) R s:=by
 let#[hh,Be]:=s;show W.make_core (W.makes_of X hm) (W.looks_findIn X hi) (λself=>W.bind_fn X self hf) ĵ h
open e
theorem lq (f)(v):List (Str×V)->Ï
 | []=>[(f,v)]
 | (g,x)::r=>if g=f then (g,v)::r else (g,x)::e9S r
def c4Q (f g:Str)(v):∀ fs:Ï,(e9S fs).lookup g=if g=f then some v else fs.lookup g:=by
 intro r'
 induction r' with
 | nil=>
  change List.lookup g [(f,v)]=_
  grind
 | cons hd' r ih'=>
  ext d8a
  grind [lq,List.lookup]
def lG (f)(v):∀ fs:Ï,f∈(e9S fs).map (·.1)/\∀ g,g∈fs.map (·.1)->g∈(e9S fs).map (·.1):=by
 intro r'
 induction r' with
 | nil=>
  show #[by simp[lq],λg h=>by simp at h]
 | cons hd' r ih'=>
  let#[k,x]:=hd';let#[xP]:=ih'
  grind [lq,List.map_cons,List.mem_cons_of_mem,List.mem_cons]
def b4Q (f)(v):∀ fs:Ï,(e9S fs).length<=fs.length+1:=by
 intro r'
 induction r' with
 | nil=>
  simp[lq]
 | cons hd' r ih'=>
  ext d8a
  grind [lq,List.length_cons]
def Qb.some_of (r:Qb (!v) o):∃ u,o=!u/\Os v u:=by
 cases o with
 | none=>ext d8o
 | some u=>show#[u,1,r]
def Qb.none_of (r:Qb none o):o=none:=by
 cases o with
 | none=>rfl
 | some u=>ext d8o
def BO (d0f):W.handedIn u=true:=by
 cases v with
 | non=>ext d8r
 | bl b=>ext d8r
 | int i=>ext d3A
 | str x=>ext d3A
 | byt b=>ext d3A
 | flt b=>ext d3A
 | ref a=>ext d8r
 | ty n=>ext d8r
def b6b (LJ:e6I H h)(e:H a=!.ins C dx fs):∃ mA,Vv h a dx C mA/\(∀ f,Qb qG (mA f))/\PySem.Within mA (fs.map (·.1))/\fs.length<=1000/\H dx=!.own a:=by
 let#[d,z,ne,ob,mA,n,r,q]:=(LJ a _ e)
 show#[mA,#[ob,n,ne],r,q,z,d]
structure Pf (K:Ψ)(c7j):Prop where
 pg:W.plainGet K C Str.empty=true
 hd:W.hasDictIn K C=true
 po:W.plainOver K C=true
 sa:W.findIn K x6 "__setattr__"=!some ĝ
def Pf.get {K:Ψ}(c:Pf K C)(f):e1m C f=true:=c.pg
theorem Mj (K)(C)(f):Prop:=e0a x6 f=!none
def Mj.a25 {K:Ψ}(n:Mj K C f):e2m C f=!none:=by ext1 W.takerIn;rw[n];rfl
structure zu (K:Ψ)(c7j)(m:Str)(f:Addr):Prop where
 at_:W.findIn K x6 m=!some Ci
 fn:W.isFn K Ci=true
 kp:W.keepIn K Ci=true
def f1H (c8d)(n:Mj X.K C f)(l:fs.lookup f=!v)(h:∀ u s',d9X H s'->e4m u->Q u s'):e19 (getAttr EH f b) Q E s:=by ext d7Q;let#[u,hu,ru]:=Qb.some_of (by rw[<- l];show r f);show b3M I.Oy O (c.get f) c.hd n hu (BO ru) (h u _ yL ru)
def b0O (c8d)(k:zu X.K C m g)(l:fs.lookup m=none)(h:Q (.ref g,Ty) s):e19 (getMethod EH m pl) Q E s:=by ext d7Q;let hn:=Qb.none_of (by rw[<- l];show r m);show b6e I.Oy O (c.get m) k.at_ k.fn hn h
def f1D (c8d)(n:Mj X.K C f)(hl:fs.length<1000)(ry)(h:∀ s',d9X (d8U a b6O) s'->Q () s'):e19 (setAttr EH f u) Q E s:=by
 let#[mA,O,r,wi,_,ho]:=b6b I.LJ e;let hz:(fs.map (·.1)).length<=sizeLine:=by rw[GP,Ir];lia
 show a7L I.Oy O c.sa c.po n.a25 c.hd wi hz λh' O' sb=>h _ ?_;let hd:∃ o,h'.get? dx=!o:=let ⟨o,_,_,e',_⟩:=O'.ns;#[o,e'];show I.write (by rw[e];show Js) (.inr ho) (λb q hb z=>(sb.2 b hb).trans z) hd ?_;show#[by rw[aa O.ne];show ho,?_,O.ne,O'.obj,_,O'.ns,λg=>?_,λg hg=>?_]
 ·let:=b4Q f y fs;lia
 ·rw[c4Q];by_cases q:g=f
  ·rw[if_pos q,if_pos q];show ry
  ·cbv
 ·by_cases q:g=f
  ·rw[q];show (lG f y fs).1
  ·show (lG f y fs).2 g (wi g λz=>hg ?_)
   cbv
def Inv.made (I):d9X (d8K H s.heap.objs.size ń C)
  { s with heap:=(s.heap.push W.emptyDict).push b3y }:=by
 let e1:(s.heap.push W.emptyDict).get? s.heap.objs.size=!W.emptyDict:=Hw s.heap rfl;let e2:((s.heap.push W.emptyDict).push<|e7E s.heap.objs.size).get? ń=!W.instObj C s.heap.objs.size:=by
  let:=Hw (s.heap.push W.emptyDict) (o:=e7E s.heap.objs.size) rfl
  cbv
 let e3:(s.heap.push W.emptyDict).Ns s.heap.objs.size (λ_=>none):=#[W.emptyDict,[].toArray,_,e1,1,λe he=>absurd he<|by simp,λ_=>rfl]
 show (I.laid (o:=.own _) (t':=s.toks) c1a BU #[_,e1]).laid c1a (Kt<|JF _ _) ?_;let ne:s.heap.objs.size≠s.heap.objs.size+1:=HY<|IK _;show⟨by rw[aa ne,ai],HP _,ne,e2,λ_=>none,(Heap.Ns1.of_empty e3).at λo q=>GW _ q,λ_=>Js,λe3G=>absurd rfl hy⟩
def b4T (hb:attributeBase e f env (eval e env)=eval e env)(h:e0i (eval e env) (λo s₁=>e0i (getAttr o f true) Q E s₁) E s):e0i (eval Za env) Q E s:=
 Attribute_any_ h (by rw[arm_eval_Attribute,hb])
inductive a5t (K:Ψ)(f:Str)(c8a):∀ a C dx fs v,x=.ref a->H1 a=!.ins C dx fs->Pf K C->Mj K C f->fs.lookup f=!v->Q v H1
theorem a3g (K)(ta:TE)(f):TE:=λd92=>ta σ H λe3D=>a5t K f Q x H1
inductive b96 (K:Ψ)(c74):∀ a C dx fs,x=.ref a->H2 a=!.ins C dx fs->Pf K C->Mj K C f->fs.length<1000->D.nx σ (upd H2 a b6O)
theorem a7F (K)(ta tv:TE)(f):TS:=λe6G=>tv σ H λy H1=>ta σ H1 λx H2=>b96 K f D σ y x H2
def Da (c8x):PE X Za (a3g X.K ta f):=by ext d2c;show b4T hb wM;let#[tL,C,dx,fs,v,ex,ea,c,n,l,q]:=gR;ext d2k;show f1H I1 ea c n l λu' s2 I2 ru=>#[v,H1,I2,ru,q]
def c5C (ha:e9P ta)(hv)(hs:e9T b0g pos.line X.env=pure false):PS X qV (a7F X.K ta tv f):=by ext d5M;let#[x,vN,rx,a,C,zS,ea,c,n,l,q2]:=gR;subst ex;obtain rfl:ov=Value.ref a:=rx;show f1D I2 ea c n l ry λs3 I3=>#[σ,_,I3,q2]
variable {H:Hp}
inductive kT (K:Ψ)(H:Hp):V->Value->Prop where
 |non:kT K H .non (.type "NoneType")
 |bl (x:Bool):kT K H (.bl x) ik
 |int (i:Int):kT K H Ge Gg
 |str (x:Str):kT K H z8 kB
 |flt (x:UInt64):kT K H (.flt x) (.type "float")
 |lst {a:Addr}{xs:π} (e:H a=!.lst xs):kT K H EH Ņ
 |frz {a:Addr}{o:Obj}{xs:π} (e:H a=!.frz o Cy):kT K H EH Ņ
 |tup {a:Addr}{xs:π} (e:H a=!.tup xs):kT K H EH (.type "tuple")
 |dK {a:Addr}{ķ:ξ} (e:H a=!.dK ķ):kT K H EH SL
 |dT {a:Addr}{ķ:List vB} (e:H a=!.dT ķ):kT K H EH SL
 |ins {a C dx:Addr}{fs:Ï} (e:H a=!.ins C dx fs) (cl:Pf K C) (ha:W.findIn K x6 "__class__"=!some wf)
   (hn:W.specialIn K wf "__get__"=!some (.builtin "getset_descriptor.__get__")) (htk:W.takesIn K wf=!true)
   (hm:W.mroIn K C (.type "object")=!true):kT K H EH x6
def a8L (I)(rx:e18 u)(ty:kT X.K H x t)(e:W.kitOne X.K t c=!b)(h:∀ tk,Q (.bool b) { s with toks:=tk }):
  wpAny Ē A (call Fh [u,c]) Q E s:=by
 cases ty with
 | non=>ext d7w;show J1 W.kitx_none I.Oy Js e İ h
 | bl y=>ext d7w;show J1 W.kitx_bool I.Oy Js e İ h
 | int i=>ext d5f;show J1 W.kitx_int I.Oy Js e İ h
 | str y=>ext d5f;show J1 W.kitx_str I.Oy Js e İ h
 | flt y=>ext d5f;show J1 W.kitx_float I.Oy Js e İ h
 | @lst a xs ea=>
  ext d7w;let#[_,_,n,_,h1]:=BP
  ext d5g
 | @frz a ob xs ea=>
  ext d7w;let#[BY,n,_,h1]:=BP
  ext d5g
 | @tup a xs ea=>
  ext d7w;let#[BY,p]:=BP
  let#[o,xo]:=p;show J1 W.kitx_tuple I.Oy #[o,ZL] e İ h
 | @dK a ķ ea=>
  ext d7w;let#[_,_,vs,_,p]:=BP
  let#[Pk,xo]:=p;ext d4V
 | @dT a ķ ea=>
  ext d7w;let#[_,_,xs,_,Pk,xo]:=BP
  ext d4V
 | @ins a C dx fs ea cl ha hn htk hm=>
  ext d7w;let#[mA,O,_]:=b6b I.LJ ea;let#[od,J,_]:=O.look;show J1 (W.kitx_own (cl.get _) cl.hd ha hn htk hm) I.Oy J e İ h
open e
structure LL (k:Nat)(A:Ë):Prop where
 hd:A.handled=none
 dp:A.depth+3 * k+5<recursionLimit
 un:A.units+16 * k+200<cLine
def LL.mono (r:LL k A)(h:j<=k):LL j A:=#[r.hd,by let:=r.dp;lia,by let:=r.un;lia]
def LL.deeper (d1N)(env:Env):LL k (A.deeper env):=
 #[r.hd,by let:=r.dp;change A.depth+1+3 * k+5<_;lia,by let:=r.un;change A.units+3+16 * k+200<_;lia]
def LL.in1 (d1N):LL k A.in1:=
 #[r.hd,by let:=r.dp;change A.depth+3 * k+5<_;lia,by let:=r.un;change A.units+1+16 * k+200<_;lia]
def c6q {A:Ë}:(A.under qt).depth=A.depth+1:=by first|rfl|simp
def b0y {A:Ë}:(A.under qt).units=A.units+1:=by first|rfl|simp
abbrev _root_.Ü:=List (Str×Value)
def LL.make (d1N)(C)(us)(kw:Ü):LL k (A.under qt):=
 #[r.hd,by let:=r.dp;rw[c6q];lia,by let:=r.un;rw[b0y];lia]
def LL.depth (r:LL k A):A.depth<recursionLimit:=by let:=r.dp;lia
def LL.units (r:LL k A):A.units+64<cLine:=by let:=r.un;lia
theorem jc:TA:=λ_ H Q=>Q [] H
theorem bO (ta:TE)(tr:TA):TA:=λd92=>ta σ H λe3D=>tr σ H1 λxs H2=>Q (x::xs) H2
def K':PA X [] jc:=λd9V H Q I h=>Calls.spliced_nil sW
def a9 (ha:e0P te)(hr:e5R t)(c7d):PA X sI (bO te t):=by ext d8p;rw[hs];show Calls.spliced_cons (M8 Ŏ λu e6C=>?_);ext d3z;show M8 (d9w hr q1) λus f1t=>by let#[xs,vS]:=gR;show#[c5F]
abbrev Sp:=List V->Hp->VK->XK->Prop
abbrev VC:=List Env->Hp->Shared->XK->ρ
structure Vy (d0K)(A:Ë)(outer:List Env)(s:Ê)(H:Hp):Prop where
 frames:A.frames=!outer
 mod:Mod K mg base
 bs:∀ b o,base.get? b=!o->s.heap.get? b=!o/\H b=none
 Ww:base.objs.size<=s.heap.objs.size
 Qa:s.heap.FunFrames base outer
 XW:∀ b∈Rc outer,H b=none
 LJ:P9 P w H s.heap
 bare:AllBare s.gens
theorem CE (d1n)(u)(s'):Prop:=
 ∃ v H',s'.os=s.os/\AllBare s'.gens/\Un (Rc outer) [] H H' s.heap s'.heap/\P9 P w H' s'.heap/\Os v u/\Q v H'
theorem CR (CX:VC)(d1n)(E:XK)(r:Result)(s'):Prop:=
 match r with
 | .ok (.ret u)=>e7q s'
 | .ok _=>False
 | .error e=>e5c e s'
abbrev _root_.È:=FuncData
structure M9 (d0K)(CX:VC)(k:Nat)(f:Addr)(fd:È)(ps:η)(sp:Sp):Prop where
 len:∀ vs H Q E,sp vs H Q E->vs.length=ps.length
 run:∀ (A:Ë)(outer:List Env)(s:Ê)(H:Hp)(args:Args)(us:θ)(vs:π)(Q:VK)(E:XK),LL k A->Vy P w K mg base A outer s H->BindsTo s fd args KB->Fc vs us->sp vs H Q E ->
  codeAny Ů A (.call Ci args) (CR CX outer P w H s Q E) s
def M9.imp {K:Ψ}(c9V)(h:∀ vs H Q E,sp' vs H Q E->e09 E):e6n ps sp':=
 #[λe20 q=>F.len vs H Q E<|h _ _ _ _ q,λe47=>f01 hv<|h _ _ _ _ hs]
def Vy.make {K:Ψ}(e:e4Y H)(C)(us)(kw:Ü):
  Vy P w K mg base (A.under qt) outer s H:=#[by first|show e.frames|(simpa [Around.under,Code.envs,Code.isFrame,pushEnvs] using e.frames),e.mod,e.bs,e.Ww,e.Qa,e.XW,e.LJ,e.bare]
def Inv.Xr (I):Vy X.prog X.w X.K X.mg X.base X.A X.stack s H:=
 #[I.ok.frames,I.ok.mod,I.bs,e5m I.sz,I.stack,I.PN,I.LJ,I.bare]
def Inv.after (I)(h:CE X.stack X.prog X.w H s Q u s'):e3R u s':=by let#[v,H',os,bare,un,LJ,r,q]:=h;let#[hh,g,d,t,os']:=s';obtain rfl:os'=s.os:=os;show#[v,H',I.call un LJ bare λb z=>absurd z<|by simp,r,q]
theorem zI (d1o)(t:TA):TE:=λd92=>t σ H λe43=>sp g7 H1 Q E
inductive a6F (c7j)(m:Str)(sp:Sp)(dvs:π)(E:XK)(t:TA)(σ:St)(c8a):∀ a dx fs,x=.ref a->H1 a=some (.ins C dx fs)->fs.lookup m=none->(t σ H1 λvs H2=>sp (x::g7) H2 Q E)
theorem jO (C)(m:Str)(d1o)(ta:TE)(t:TA):TE:=λd92=>ta σ H λe3D=>a6F C m sp dvs E t σ Q x H1
theorem zG (C)(d1o)(t:TA):TE:=λd92=>t σ H λe43=>∀ x dx,H1 x=none->H1 dx=none->dx≠x->
 sp (.ref x::g7) (d8K H1 dx x C) b5p E
theorem yU (K)(fd:È)(ps)(ds:θ):Prop:=
 ∀ (s:Ê)(us:θ),K.In s.heap->(us++ds).length=ps.length->e6M ⟨us,[]⟩ (d9A ds)
def yU.all {K:Ψ}(h:∀ us:θ,us.length=ps.length->bindArgs fd wu=pure KB):yU K fd ps []:=λs us _ hl=>by rw[HF]at hl ⊢;show .of_eq (h us hl)
theorem b5Y (CX:VC)(X)(E:XK):Prop:=∀ (ñ:ζ)(σ:St)(H:Hp)(s:Ê)(e:Value)(s':Ê),d9X H s->CX X.stack H s E e s'->X.xe e s'
variable {f C:Addr}
def b9E (F)(hr)(c6W)(c9q)(h:sp g7 H Q E):e4W s:=by
 let r2:=r.append hd;let hl:(us++ds).length=ps.length:=by rw[<- r2.length];ext d6v
 show KD (d8P ĉ E c1b r2)
 cases r with
 | error e=>ext d4G
 | ok fl=>
  cases fl with
  | ret u=>show I.after hq
  | next=>ext d2T
  | brk=>ext d2T
  | cont=>ext d2T
def b2s (F)(hr)(c7c)(hm:X.mg x=!.ref f)(hk:W.keepIn X.K Ci=true)(c6W)(ha)(c7x):
  PE X ę (zI sp dvs E t):=by
 ext d2D;show b9E F hr hb hd hx I1 r q
def b1c (c8L)(ha)(RK)(Oi)(ht:e8i X.env=(do
   let ov <- eval o X.env
   standAt apos.atName
   let (f,first) <- holding [ov] ő
   callWith pos f first (e0n Ň) Ĥ):=ă):
  PE X ZU (e5S E ta t):=by
 ext d2c;show W.methodCall_KW (pl:=pl) wM ht;ext d34;show Km (first:=Ty) (h₀:=X.base) I.ok.mod.Yd hm.kp (thA (d9w ha q) λus s2 vs H2 I2 r q2=>#[I2.Oy,?_]) RK Oi;show b9E (us:=.ref a::us) (vs:=.ref a::vs) F hr hb hd hx I2 (e9U r) q2
def a1n (c8L)(ht:e7F X.env=(do
   let ov <- eval o X.env
   standAt apos.atName
   let (f,first) <- holding [ov] ő
   callWith pos f first (e0n š) Ĥ):=ă):
  PE X Ğ (e5S E ta jc):=by
 ext d56;ext d34;show W.callWith_K0 I1.Oy hm.kp (e8Q hb hd hx I1 nv q)
structure Mk (K:Ψ)(C f:Addr):Prop where
 makes:W.makesIn K C=true
 init:W.findIn K x6 "__init__"=!some Ci
 fn:W.isFn K Ci=true
 kp:W.keepIn K x6=true
def vF (M)(F)(c7I)(c6W)(c9q)(h:∀ x dx,H x=none->H dx=none->dx≠x->sp (.ref x::g7) (d8K H dx x C) b5p E):
  wpAny Ē X.A (call x6 us) Ĺ X.xe s:=by
 let hq:=h _ s.heap.objs.size (I.LJ.fresh<|Nat.le_succ _) Uf<|HY (IK _);let I2:=Inv.made (C:=C) I;let r2:Fc (V.ref ń::_) _:=.cons rfl<|r.append hd;let hl:(Value.ref ń::us++ds).length=ps.length:=by let e:=r2.length;ext d5Y
 show KD (DB I.Oy M.makes M.init (JJ.mp M.fn) (K6 (e7G #[Value.ref _::us,[]] _ _ _ E c1c
  b85 (hb ĉ I2.Oy hl) r2 hq) λr s' RV=>?_))
 cases r with
 | error e=>show hx ñ σ ĉ e s' I2 RV
 | ok fl=>
  cases fl with
  | ret u=>
   let#[v,H',I3,rv,ev,q3]:=I2.after RV;subst ev;show#[rv,#[V.ref _,H',I3,1,q3]]
  | next=>ext d3q
  | brk=>ext d3q
  | cont=>ext d3q
def b04 (d0c)(ha)(c7x):
  PE X ę (zG C sp dvs E t):=by
 ext d2c;show Iy zr;show Km (h₀:=X.base) I.ok.mod.Yd M.kp a2j he Oi;show vF M F hr hb hd hx I1 r q
def a8V (d0c)(OO):PE X b3V (zG C sp dvs E jc):=by ext d2c;show Iy zr;show W.callWith_K0 I.Oy M.kp (vF M F hr hb hd hx I .nil h)
open e
theorem PK (X)(X7:List Keyword)(t:TA):Prop:=
 ∀ (pos:Pos)(ñ:ζ)(s:Ê)(σ:St)(H:Hp)(Q:List V->Ù),d9X H s->e4o Q->d90 (evalAll ((e1n uP).map (·.2))) Bu X.xe s
variable {X:Cx}{X8:Pos}{e:Expr}{X7:List Keyword}{te:TE}{t:TA}{nm:Option Str}
def c0v:PK X [] jc:=λd9V H Q I h=>wpAny_evalAll_nil sW
def c6h (ha:e0P te)(hr:PK X X7 t):PK X (#[nm,e,X8]::X7) (bO te t):=by ext d8p;change wpAny ĉ (evalAll<|(do let v <- eval e X.env;standAt pos;pure v)::(backToKw pos<|keywordEach X7 X.env).map (·.2)) ĉ s;show wpAny_evalAll_cons<|GQ (thE (ha ñ s σ H _ I h) λu e6H r1 q1=>GQ<|JT (Hg ?_));show M8 (hr pos ñ s1 σ H1 _ I1 q1) λus f1t=>by let#[xs,vS]:=gR;show#[c5F]
open e
structure au (N P:η)(sc:Scope):Prop where
 kind:sc.kind=.function
 co:sc.isCoroutine=false
 gen:sc.isGenerator=false
 nd:N.Nodup
 pre:N.take P.length=P
 par:∀ x∈P,sc.names.lookup x=some .local \/ sc.names.lookup x=!.cell
 a0M:∀ y∈sc.names,y.2≠.free
def b60 (c7X):∀ {binds:Ü}{m:Ω},b70->bindL kindOf binds m x=m x:=by
 intro r'
 induction r' with
 | nil=>
  ext d7f
 | cons hd' r ih'=>
  let#[n,v]:=hd';intro m h;ext1 bindL;ext d6j
  ·grind
  ·rfl
def a2D (c7X):∀ {binds:Ü}{m:Ω},b70->bindC kindOf binds m x=m x:=by
 intro r'
 induction r' with
 | nil=>
  ext d7f
 | cons hd' r ih'=>
  let#[n,v]:=hd';intro m h;ext1 bindC;ext d6j
  ·rfl
  ·grind
def b9W (c7X):∀ {P:η}{vs:θ}{i:Nat}{m:Ω},P.Nodup->P[i]?=!x->vs[i]?=!v->kindOf x=!.local->
  bindL kindOf (P.zip vs) m x=!v
 | [],_,_,_,_,h,_,_=>by simp at h
 | _::_,[],_,_,_,_,h,_=>by simp at h
 | p::P,w::vs,0,m,nd,h1,h2,hk=>by simp at h1 h2;subst h1;subst h2;change bindL kindOf DK m p=_;ext1 bindL;rw[b60 λv hv=>(HS.mp nd).1 (Jl hv).1,if_pos hk];simp
 | p::P,w::vs,i+1,m,nd,h1,h2,hk=>by change bindL kindOf DK m x=_;ext1 bindL;show b9W (i:=i) (HS.mp nd).2 Re lD hk
def b1L (c7X):∀ {P:η}{vs:θ}{i:Nat}{m:Ω},P.Nodup->P[i]?=!x->vs[i]?=!v->kindOf x≠!.local->
  bindC kindOf (P.zip vs) m x=!v
 | [],_,_,_,_,h,_,_=>by simp at h
 | _::_,[],_,_,_,_,h,_=>by simp at h
 | p::P,w::vs,0,m,nd,h1,h2,hk=>by simp at h1 h2;subst h1;subst h2;change bindC kindOf DK m p=_;ext1 bindC;rw[a2D λv hv=>(HS.mp nd).1 (Jl hv).1,if_neg hk];simp
 | p::P,w::vs,i+1,m,nd,h1,h2,hk=>by change bindC kindOf DK m x=_;ext1 bindC;show b1L (i:=i) (HS.mp nd).2 Re lD hk
theorem start (N:η)(vs:π):St:=vs.map some++List.replicate (N.length - vs.length) none
theorem dH (CX:VC)(P)(w)(K)(mg)(base)(N:η)(ğ)(scope)(f:Addr)(cd:Value)(A:Ë)(outer)(s:Ê)(H)(E:XK):Cx where
 prog:=P
 w:=w
 K:=K
 mg:=mg
 base:=base
 A:=A.deeper zi
 N:=N
 s₀:=s
 H₀:=H
 env:=e02 cd
 outer:=outer
 stack:=e02 cd::outer
 ex:=[]
 calm:=true
 fn:=λ_=>true
 pn:=[]
 xe:=λe s'=>e8j (A.deeper zi) (leaving zi e) (λ_ V9=>e5c e V9) (λe' V9=>e5c e' V9) s'
def b8V {sc:Scope}(h:sc.names.lookup x=!.cell):∃ c,(cellsFrom n sc.names []).lookup x=!c:=by show Iv.mp (W.cellsFrom_some sc.names n []<|.inl h)
def b8Z {K:Ψ}(S:e9V scope)(hd:A.handled=none)(e0:e4Y H)(hl:vs.length=ps.length)(r:Fc vs us)(x:InCallC s s.heap.objs.size (d8Y bindL) (e6N scope.names []) (d8Y bindC) s1):
  Inv a6Q [] Ų H s1:=by
 let Oi:ps.length<=N.length:=by let:=d91 S.pre;rw[Hl]at this;omega
 let#[h1,tk,1,hk]:=x.done;let XI:∀ b:Addr,b∉(dH CX P w K mg base N ğ scope f cd A outer s H E).ex:=λb z=>e3E ė;show#[#[e0.mod,S.kind,2,Hi _,λy z c e12=>?_,λe3G=>?_,λy c _ h=>?_,λ_=>hd,Around.frames_deeper e0.frames,.inr #[2],λb z=>absurd z<|XI b,e0.bs,e0.Ww,λb _ _=>XI b,λb z=>absurd z<|XI b,e0.Qa,e0.XW],1,e0.bare,Un.kept hk,#[_,x.toInCall.ns,λi y v e12 h3=>?_],λy c h=>#[_,x.cell y c h],e0.LJ.fresh<|Hi _,λy c h=>?_,λe79=>absurd (show p∈([]:ζ) from hp)<|by simp,e0.LJ.kept hk,?_]
 ·show name_of_addr x.apart (Ja h1) (Ja h2)
 ·let hy:scope.names.lookup y=!.cell\/scope.names.lookup y=!.free:=hy;rcases hy with hy|hy
  ·show b8V hy
  ·show absurd rfl (S.a0M _<|Ja hy)
 ·show Ks (x.above y c<|Ja h)
 ·let ha:vs[i]?=!v:=by unfold start at h2;grind
  let hi:i<vs.length:=(GS.mp ha).1;let#[u,hu,rv]:=r.get ha;let hp:ps[i]?=!y:=by rw[<- S.pre,ID<|by omega];show h1
  let ndP:ps.Nodup:=by rw[<- S.pre];show S.nd.sublist (Ku ĉ)
  show#[u,rv,?_];rcases S.par y (GY hp) with k|k
  ·show .inl #[k,b9W ndP hp hu k]
  ·let#[c,e]:=b8V (n:=s.heap.objs.size+1) k;show .inr #[.inl k,c,e,?_];let q:=x.cell y c e;rw[b1L ndP hp hu (by change scope.names.lookup y≠_;rw[k];decide)]at q;show q
 ·show e0.LJ.fresh (Ks<|x.above y c (Ja h))
 ·ext1 start;change _=N.length
  grind
def a2f {K:Ψ}{dV kV:Value}(lk:K.lookup f=some #[oc,od,.func a6c,Nv])(RM:W.codeIn K Lz ğ=true)(S:e9V scope)(len)(O7:∀ (A:Ë)(outer:List Env)(s:Ê)(H:Hp)(vs:π)(Q:VK)(E:XK),LL k (A.deeper (e02 Lz))->e09 E->
   ∃ t,Q2 ŵ body t/\t { nx:=λ_ H'=>e2y H',rt:=Q } Ų H):
  M9 P w K mg base CX (k+1) f a6c ps sp:=by
 show#[len,λA e0S e0 hb r UY=>?_];let KX:=e0.mod.Yd.keeps λe0z=>(e0.bs b o e).1;let lim:=e0.mod.nolimit.keeps λe0z=>(e0.bs b o e).1;let a4K:∀ y∈ps.zip us,scope.names.lookup y.1=!.local\/(scope.names.lookup y.1=!.cell/\((e6N scope.names []).lookup y.1).isSome=true):=λgR hy=>by
  let#[n,v]:=gR;rcases S.par n (Jl hy).1 with q|q
  ·show .inl q
  ·show .inr #[q,W.cellsFrom_some Ĉ<|.inl q]
 show codeAny_call_function hr.depth (KX ĉ lk) rfl S.co S.gen rfl (W.codeRec_of KX RM) (hb ą ?_);show wpAny_newFunctionEnv_cells S.kind a4K λenv he s1 x=>?_;subst he;show#[lim.keeps x.toInCall.keep,codeAny_func ?_];let#[t,ht,hq]:=O7 A outer s H vs Q E (hr.deeper _) UY;let I:Inv ŵ [] _ H s1:=b8Z S hr.hd e0 (len ą UY) r x;show IC (ht [] s1 _ H _ I hq) (λfl s' hs=>?_) λe s' hs=>hs;let fin:∀ {σ':St}{H':Hp}{v:V}{u:Value},Inv ŵ [] σ' H' s'->e4m u->Q v H'->e7q s':=
  λ{σ' H' v u} J rv q=>#[v,H',J.os,J.bare,J.base,J.LJ,rv,q]
 cases fl with
 | ret u=>
  let#[v,GD,J,rv,q]:=hs;show fin J rv q
 | next=>
  let#[GD,J,q]:=hs;show fin (v:=V.non) J rfl q
 | brk=>
  ext d6y
 | cont=>
  ext d6y
variable {t:TA}{r:List V->Hp->VK->Prop}
theorem tCB (c9j)(t:TA):TE:=λd92=>t σ H λe43=>r vs H1 Q
def bL (c90)(c8S)(ha)(hn)(c7x):e7H (tCB r t):=by ext d2c;show Iy b6d;show PyProof.Rows.callWith_builtin1 a2H he Oi
def eK (c87)(ha)(hn)(c7x):e7H (tCB r t):=by ext d2c;show Iy b6d;show IT a2H he Oi
open e
universe L2
namespace HT
open PySem PyProof.Rows
def Xq (A:Ë)(s:Ê)(a:Int)(t:Tok)(c:Int)(u:Tok):∃ e,e1g (.int a t) (.int c u) e/\(e=true ↔ a=c):=
 #[_,SeqAt.EqAt.int_int a t c u,by simp]
theorem Tj (n d:Nat):Option Int->Nat
 | none=>d
 | some v=>if v<0 then (v+(n:Int)).toNat else min v.toNat n
def Sm (n d:Nat):Tj n d none=d:=rfl
def Qu (n d k:Nat):Tj n d YX=min k n:=by change (if (k)<0 then ((k)+(n:Int)).toNat else min (k:Int).toNat n)=min k n;rw[if_neg<|by omega,J8]
universe HT
namespace L2
open PySem PySem.Spec PyProof.Rows
abbrev TO:=St->Hp->(Option Int->Ù)->Prop
theorem PO (X)(e:Option Expr)(t:TO):Prop:=
 ∀ (ñ:ζ)(s:Ê)(σ:St)(H:Hp)(Q:Option Int->Ù),d9X H s->e4o Q->
  wpAny Ē X.A (evalPart e X.env) (λu s'=>∃ o H',e5J s'/\IsPart u o/\Q o H') X.xe s
theorem b1s:TO:=λ_ H Q=>Q none H
inductive b8e (Q:Option Int->Ù)(x:V)(H1:Hp):∀ i,x=.int i->Q (!i) H1
theorem a29 (t:TE):TO:=λd92=>t σ H λe3D=>b8e Q x H1
def c5Z:∀ {us:θ},Fc Ķ us->e5p ns:=by
 induction ns with
 | nil=>intro us r;cases r;show .nil
 | cons n ns ih=>
  intro us r
  cases r with
  | cons r1 r2=>
   let#[t,e]:=r1;subst e;show .cons n t (ih r2)
variable {X:Cx}{te:TE}{lo hi:Option Expr}{tl th:TO}
def a9w:PO X none b1s:=by ext d2c;rw[evalPart_none];show Hg #[none,H,I,.none,h]
def iI (h:e0P te):PO X (!e) (a29 te):=by intro ñ s σ H Q I hw;show M8 b80 λu e6C=>?_;ext d3z;let#[i,1,q]:=q1;let#[t,1]:=r1;show#[!i,YW,.int i t,q]
abbrev _root_.Ô:=Option Int
theorem yH (X)(c9k):Prop:=
 ∀ (ñ:ζ)(s:Ê)(σ:St)(H:Hp)(x:V)(v vl vu:Value)(lo hi:Ô)(sl:Addr)(Q:VK),d9X H s->e18 v->s.heap.IsSliceOf sl vl vu .none->IsPart vl lo->IsPart vu hi->r x lo hi H Q->
  ∃ T id,typeLookup jk "__getitem__"=pure !.builtin id/\s.TypeIs v T/\wpAny Ē X.A (getItem v (d9i sl)) Ĺ X.xe s
theorem tSl (c9k)(te)(tl th:TO):TE:=λd92=>te σ H λe3D=>tl σ H1 λl H2=>th σ H2 λu H3=>r x l u H3 Q
def jU (hr:yH X r)(c8w)(hl:PO X lo tl)(hu:PO X hi th):PE X (.Subscript e b7t pos) (tSl r te tl th):=by ext d2c;show Subscript_ jX;ext d3z;show wpAny_Slice (M8 (d84 hl) fun vl s2 ⟨l,H2,I2,pl,q2⟩=>M8 (d9o hu σ) λvu s3 gR=>?_);let#[u,uH,pu,q3]:=gR;ext d6S;let I4:d9X H3 { s3 with heap:=s3.heap.push { cls:=.type "slice",data:=.fields [vl,vu,.none].toArray } }:=I3.kept λb ob q=>GW _ q;let#[T,id,hT,ht,hg]:=hr ñ { s3 with heap:=s3.heap.push { cls:=.type "slice",data:=.fields [vl,vu,.none].toArray } } σ H3 x v vl vu l u s3.heap.objs.size Q I4 r1 (Heap.IsSliceOf.new ..) pl pu q3;show tail_any ht hT hg (by with_unfolding_all rfl)
theorem n5 (xs:π)(d0E):π:=(xs.drop (HT.Tj xs.length 0 lo)).take (d8O xs.length)
def xK (xs:π)(d0E):(n5 xs lo hi).length<=xs.length:=by
 ext1 n5;rw[Hl,KG]
 lia
open e
theorem WB (n)(i:Int):Option Nat:=if 0<=i then (if i<n then some i.toNat else none) else if -(n:Int)<=i then some (i+n).toNat else none
theorem RC (d1p)(xs)(i:Int):Option α:=(e6O i).bind λj=>xs[j]?
def a97 (h:WB n i=!j):seqIndex? i n=!j/\j<n/\-(n:Int)<=i/\i<n:=by
 unfold WB at h;by_cases h0:0<=i
 ·rw[if_pos h0]at h;by_cases h1:i<n
  ·ext d5c;show#[by rw[e5d h1,e],jR,h1]
  ·cbv
 ·rw[if_neg h0]at h;by_cases h1:-(n)<=i
  ·ext d5c;show#[by rw[seqIndex_neg #[0] h1,e],#[0],h1,#[0]]
  ·cbv
def MtM (h:RC xs i=!v):∃ j,seqIndex? i xs.length=!j/\xs[j]?=!v/\j<xs.length/\-(xs.length:Int)<=i/\i<xs.length:=by
 unfold RC at h
 cases e:e6O i with
 | none=>rw[e]at h;cases h
 | some j=>
  rw[e]at h;let#[AS]:=a97 e;show#[j,h1,h,h2,AU]
def cT (d1c){j:Nat}{v:α}(h:xs[j]?=!v):RC xs (j:Int)=!v:=by
 let hj:=(GS.mp h).1;let e:e6O (j)=!j:=by
  ext1 WB
  cbv
 ext1 RC;rw[e];show h
theorem c6u (b:Expr):Prop:=∀ o i,subscripted b false o i=operate [o,i] (getItem o i)
theorem W5 (X)(r:R2):Prop:=
 ∀ (value slice:Expr)(ñ:ζ)(s:Ê)(σ:St)(H:Hp)(x y:V)(v u:Value)(Q:VK),d9X H s->e18 v->e5n u->r x y H Q->
  subscripted slice false v u=operate [v,u] (getItem v u)->d90 (subscriptTail value slice v u) Ĺ X.xe s
theorem MtR (X)(id:String)(r):Prop:=
 ∀ (ñ:ζ)(s:Ê)(σ:St)(H:Hp)(x:V)(xs:π)(v:Value)(us:θ)(Q:VK),d9X H s->e18 v->e0k us->r x xs H Q->
  wpAny Ē X.A c0i Ĺ X.xe s
variable {a b:Expr}
def W5.or (h:W5 X r)(h':W5 X r'):W5 X b2a:=by
 intro value slice ñ s σ H x y v u Q I rx ry q hs;ext d7P
 ·show h value slice ñ s σ H x y v u Q I rx ry q hs
 ·show h' value slice ñ s σ H x y v u Q I rx ry q hs
def YY {tb:TE}(hr:W5 X r)(c60)(hs:c6u b):e5T u0:=by ext d2c;show Subscript_ (a1Y ha hb I h λv u s2 x y H2 I2 rx ry q=>hr a b ñ s2 σ H2 x y v u Q I2 rx ry q<|hs _ _)
inductive i5 (K:Ψ)(c7b):∀ p xs i v,x=.ref p->y=.int i->LS K H p xs->RC xs i=!v->Q v H
inductive CQ (K:Ψ)(c7b):∀ p xs i v,x=.ref p->y=.int i->NC K H p xs->RC xs i=!v->Q v H
def c4m:W5 X (i5 X.K):=by
 ext d57
 ext d5P;ext d6z;ext d2J
 by_cases h0:0<=i
 ·let hj:i.toNat=j:=by
   rw[e5d h5]at h1
   cbv
  show item_listR pl.isList h0 #[0] (by rw[hj];simpa using ew) fin hs
 ·let hj:(i+c0j).toNat=j:=by
   rw[seqIndex_neg #[0] h4]at h1
   cbv
  show subscriptTail_builtinR pl.isList.typeIs slot_list_getitem.lookup
   (wpAny_getItem_list_neg pl.isList #[0] ě #[0] (by rw[hj];simpa using ew) #[1,fin]) hs
def b4F:W5 X (CQ X.K):=by
 ext d57
 ext d5P;ext d58;ext d2J
 show subscriptTail_builtinR pl.typeIs slot_tuple_getitem.lookup
  (getItem_tuple (j:=j) pl #[] #[] ě (by simpa using ew) #[1,fin]) hs
def yP (its:θ)(n j:Nat)(u):Obj.mapSeq (·.setIfInBounds j u) { cls:=.type "list",data:=e0o n }={ cls:=.type "list",data:=.seq (its.set j u).toArray n }:=by simp[Obj.mapSeq]
def Inv.lst (I)(h:H p=!.lst xs):
  ∃ (its:θ)(n:Nat),e0k its/\s.heap.get? p=!{ cls:=.type "list",data:=e0o n }/\xs.length<=sizeLine:=by
 let#[Db,e]:=I.LJ p _ h;show#[its,n,r,e,z]
def Inv.a0X {its:θ}(I)(h:H p=!.lst xs)(ho:s.heap.get? p=!{ cls:=.type "list",data:=e0o n })(hf:f { cls:=.type "list",data:=e0o n }={ cls:=.type "list",data:=e8R n' })(r:e5N its')(c9l)(t:Nat):
  Inv X ñ σ (d8U p nG) { s with heap:=e9W f,toks:=t }:=by
 let e:(e9W f).get? p=!{ cls:=.type "list",data:=e8R n' }:=by rw[JX f ho (by rw[hf] <;> rfl),hf]
 show I.write (by rw[h];trivial) ĵ (λb u hb q=>(J9 ĉ<|Ne.symm hb).trans q) #[_,e] ?_;show#[hz,its',n',r,e]
inductive CM (o:V)(i:V)(v:V)(H:Hp)(Q:Ù):∀ p xs k j,o=.ref p->i=.int k->H p=!.lst xs->WB xs.length k=!j->Q (d8U p (.lst (xs.set j v)))
def b9T:a5P X CM:=by
 intro ñ s σ H o i v ov iv u Q I ro ri rv h;let#[p,xs,k,j,2,hp,hj,q]:=h
 cases ro;let#[t,1]:=ri;let#[its,n,r,ho,hz]:=I.lst hp;let#[AS]:=a97 hj;let hl:=r.length;let hn:=p9;let I':=
  I.a0X hp ho (yP its n j u) (r.set rv j) ě s.toks
 by_cases h0:0<=k
 ·let hk:k.toNat=j:=by
   rw[e5d h4]at h1
   cbv
  show W.ki_setAt ho h0 #[0] ě (by rw[hk];show#[_,I',q])
 ·let hk:(k+c0j).toNat=j:=by
   rw[seqIndex_neg #[0] h3]at h1
   cbv
  show W.ki_setBack ho #[0] ě #[0] (by rw[hk];show#[_,I',q])
def a5i (d0E)(n):(e2D n).1=((HT.Tj n 0 lo:Nat):Int)/\(e2D n).2.1=((HT.Tj n n hi:Nat):Int)/\(e2D n).2.2=1:=by
 show#[mU,1]
 ·cases lo with
  | none=>simp[sliceBounds,HT.Tj]
  | some i=>
   ext d3U
   ·simp only[h] <;> lia
   ·simp only[h] <;> lia
 ·cases hi with
  | none=>simp[sliceBounds,HT.Tj]
  | some i=>
   ext d3U
   ·simp only[h,if_true] <;> lia
   ·simp only[h,Jn] <;> lia
def a8I (its:θ)(d0E):slicePick its.toArray lo hi none=((its.drop (HT.Tj its.length 0 lo)).take (d8O its.length)).toArray:=by let#[Lf]:=a5i lo hi its.toArray.size;ext1 slicePick;rw[h1,h2,h3];simp only[sliceRange_one,pick_run] <;> rfl
inductive a3v (c9N):∀ a xs,x=.ref a->LS K H a xs->(∀ p,H p=none->Q oW (d8U p b86))
def b8q:yH X (a3v X.K):=by
 intro ñ s σ H x v vl vu lo hi sl Q I rx hs pl pu h;let#[a,xs,1,hx,q]:=h
 cases rx;let#[its,r,ht,hz]:=I.list hx;let hlen:=r.length;show#["list",_,slot_list_getitem.lookup,ht.isList.typeIs,?_];show wpAny_getItem_list_slice ht.isList hs pl pu .none ė ?_ ě;rw[a8I,<- hlen];show#[.ref s.heap.objs.size,_,I.laid (λb ob q=>GW _ q) BU ?_,1,q _<|I.LJ.fresh BU];show#[HE (xK xs lo hi) hz,_,(0),(r.drop _).take _,Hw _ rfl]
theorem eX:V->Bool
 | .non=>true
 | .bl _=>true
 | .int _=>true
 | .str _=>true
 | _=>false
theorem Yu:V->V->Bool
 | .non,.non=>true
 | .bl a,.bl b=>a==b
 | .bl a,.int b=>(if a then 1 else 0)==b
 | .int a,.bl b=>a==(if b then 1 else 0)
 | .int a,.int b=>a==b
 | .str a,.str b=>a==b
 | _,_=>false
def b3I (ry)(rx:e18 v)(fy:eX y=true)(fx):e1g u v (Yu y x):=by
 cases y with
 | non=>
  cases ry
  cases x with
  | non=>cases rx;ext d4i
  | bl b=>cases rx;show SeqAt.EqAt.none_bool b
  | int b=>ext d26;show SeqAt.EqAt.none_int b t
  | str b=>ext d26;show SeqAt.EqAt.none_str b t
  | _=>ext d41
 | bl a=>
  cases ry
  cases x with
  | non=>cases rx;show SeqAt.EqAt.bool_none a
  | bl b=>cases rx;show SeqAt.EqAt.bool_bool a b
  | int b=>ext d26;show SeqAt.EqAt.bool_int a b t
  | str b=>ext d26;show SeqAt.EqAt.bool_str a b t
  | _=>ext d41
 | int a=>
  let#[t',1]:=ry
  cases x with
  | non=>cases rx;show SeqAt.EqAt.int_none a t'
  | bl b=>cases rx;show SeqAt.EqAt.int_bool a t' b
  | int b=>ext d26;show SeqAt.EqAt.int_int a t' b t
  | str b=>ext d26;show SeqAt.EqAt.int_str a t' b t
  | _=>ext d41
 | str a=>
  let#[t',1]:=ry
  cases x with
  | non=>cases rx;show SeqAt.EqAt.str_none a t'
  | bl b=>cases rx;show SeqAt.EqAt.str_bool a t' b
  | int b=>ext d26;show SeqAt.EqAt.str_int a t' b t
  | str b=>ext d26;show SeqAt.EqAt.str_str a t' b t
  | _=>ext d41
 | _=>show absurd (fy) Ia
theorem Vq (x:V)(u):Bool:=match u with
 | .none=>Yu .non x
 | .bool b=>Yu oJ x
 | .int i _=>Yu Ge x
 | .str z _=>Yu (.str z) x
 | _=>false
def c53 (r:e5n u)(f:eX y=true):Vq x u=Yu y x:=by
 cases y with
 | non=>ext d74
 | bl b=>ext d74
 | int i=>ext d3h
 | str z=>ext d3h
 | _=>show absurd (f) Ia
def c3g:∀ {xs:π}{us:θ},e0k us->xs.all eX=true->us.any sy=xs.any λy=>Yu y x
 | _,_,.nil,_=>rfl
 | y::xs,u::us,e4l t,f=>by rw[Lp,IM]at f;rw[KL,KL,c53 r f.1,c3g t f.2]
def b2o (rx:e18 v)(fx):∀ {xs:π}{us:θ},e0k us->xs.all eX=true->∀ u∈us,e1g u v (Vq x u)
 | _,_,.nil,_=>λu hu=>by cases hu
 | y::xs,u::us,e4l t,f=>λu' hu=>by
  rw[Lp,IM]at f;rcases Hr.mp hu with rfl|hu
  ·rw[c53 r f.1];show b3I r rx f.1 fx
  ·show b2o rx fx t f.2 u' hu
theorem XM (x:V)(xs:π):Bool:=xs.any λy=>Yu y x
inductive rIn (K:Ψ)(neg:Bool)(c7b):∀ p xs,y=.ref p->(LS K H p xs \/ NC K H p xs)->eX x=true->xs.all eX=true->(Q (.bl (if neg then not (XM x xs) else XM x xs)) H)
def b64:NP X lR (rIn X.K false):=by
 ext d6k
 cases ry;ext d4L
 ·ext d6z;show SeqAt.in_listAt _ pl.isList Ř Fe;ext d30
 ·ext d58;show SeqAt.in_tupleAt _ pl Ř Fe;ext d3N
def a3V:NP X c0k (rIn X.K true):=by
 ext d6k
 cases ry;ext d4L
 ·ext d6z;show SeqAt.notIn_listAt _ pl.isList Ř Fe;ext d30
 ·ext d58;show SeqAt.notIn_tupleAt _ pl Ř Fe;ext d3N
def b2P:e5U (λe1y=>∃ p ys,xs=lS/\(f05 ys\/NC X.K H p ys)/\Q uT H):=by
 ext d5Z
 cases rx;let hn:=p9;ext d4L
 ·ext d7x;show Calls.call_len_list pl.isList (by simp only[Ik] <;> lia) a6d
 ·ext d7g;show len_tuple pl (by simp only[Ik] <;> lia) a6d
def c2P:e5U (λe1y=>∃ z,xs=[.str z]/\z.length<=sizeLine/\Q (.int z.length) H):=by ext d2j;let#[z,1,hz,q]:=h;let#[u,1,t,1]:=dJ r;let hn:=p9;show len_str #[] #[.int z.length,j7,q]
def Ms.or (h:e9X r)(h':e9X r'):e9X (λe1y=>r xs H Q\/r' xs H Q):=by
 intro ñ s σ H xs us Q I rs q;ext d7P
 ·show h ñ s σ H xs us Q I rs q
 ·show h' ñ s σ H xs us Q I rs q
def c3Y:e7I (λe1y=>∃ p ys,xs=lS/\(f05 ys\/NC X.K H p ys)/\∀ l,H l=none->Q qE GB):=by
 ext d5Z
 cases rx;let fin:∀ (its:θ),e5N its->ys.length<=sizeLine->∀ (h':Heap)(c':Nat),_->
   h'.get? s.heap.objs.size=!{ cls:=.type "list",dict:=none,data:=e0o c',slots:=[].toArray }->e3R _ { s with heap:=h' }:=λits r' hz h' c' kp e=>
  #[.ref s.heap.objs.size,_,I.laid kp BU<|show LU X.prog X.w _ h' _ nG from #[hz,its,c',r',e],1,q _<|I.LJ.fresh BU]
 ext d4L
 ·ext d7x;let#[o,yz]:=pl.isList;show call_list_seq p ĵ ho hc hd b0k ě
 ·ext d7g;let#[o,yz]:=pl;show call_list_seq p (.inr rfl) ho hc hd b0k ě
theorem tyV (K)(T:String)(x:V)(H):Prop:=match x with
 | .str _=>T="str"
 | .int _=>T="int"
 | .ref p=>(T="list"/\∃ xs,e8k xs)\/(T="tuple"/\∃ o,K.lookup p=!o/\o.cls=.type "tuple"/\o.dict=none) \/
   (T="dict"/\((∃ ķ,H p=!.dK ķ)\/∃ ķ,H p=!.dT ķ))\/(T="set"/\∃ S n,H p=!.set S n)
 | _=>False
def c5z (I)(r:e18 v)(ty:tyV X.K T x H):
  s.TypeIs v T/\∀ a,v=.ref a->∃ ob,s.heap.get? a=!ob/\ob.dict=none:=by
 cases x with
 | str z=>
  let#[t,1]:=r
  cases (ty);show#[typeIs_str s z t,λ_ e=>nomatch e]
 | int i=>
  let#[t,1]:=r
  cases (ty);show#[typeIs_int s i t,λ_ e=>nomatch e]
 | ref p=>
  cases r;rcases ty with⟨rfl,xs,hq⟩|⟨rfl,o,hk,hc,hd⟩|⟨rfl,hk⟩|⟨rfl,S,n,hk⟩
  ·let#[its,_,pl,_]:=I.list hq;show#[pl.isList.typeIs,λa e=>?_]
   cases e;let#[o,n,e,c,hd,_]:=pl;show#[o,e,hd]
  ·show#[#[o,I.Oy p o hk,hc],λa e=>?_]
   cases e;show#[o,I.Oy _ o hk,hd]
  ·let z:∃ o,s.heap.get? p=!o/\o.ExactDict:=by
    rcases hk with⟨ķ,hk⟩|⟨ķ,hk⟩
    ·ext d4z
    ·ext d4z
   let#[o,e,ex]:=z;show#[c59]
   ext d8b
  ·let#[o,BY,e,ex,_]:=I.LJ p _ hk;show#[c59]
   ext d8b
 | _=>show False.elim ty
theorem a0d (d1O):TE:=λd92=>to σ H λe3D=>tyV K T x H1/\r x [] H1 Q
theorem tBM (d1O)(t:TA):TE:=λd92=>to σ H λe3D=>tyV K T x H1/\t σ H1 λxs H2=>r x xs H2 Q
example{id:String}:=0
def a0C (c7q)(OG)(Pq):PE X b87 (a0d X.K T r to):=by ext d2c;show wpAny_Call_method0_late OG Pq b7u;ext d4R;show#[T,id,pa,slot,Yh,h1,h2,JO rfl<|PySem.evalArgs_none (hm ñ s1 σ H1 x [] v [] Q I1 r1 .nil q1)]
def a3E (c7q)(ha)(OG)(a1t:((e9Y Ň).all Cu&&(backToKw MB Ī).all EI
   && decide b6S)=true:=ă)(c80):
  PE X b72 (tBM X.K T r to t):=by
 ext d2c;show wpAny_Call_method_late OG a1t Pq rfl b7u;ext d4R;show#[T,id,pa,slot,Yh,ZL,?_];let hA:=ha MB ñ s1 σ H1 _ I1 q1;rw[hs]at hA ⊢;show JO (by change (false || (e9Y _).any _)=false;rw[O6] <;> rfl) (Calls.evalArgs_plain ?_);show M8 hA λus f1t=>by let#[vs,vS]:=gR;show hm ñ s2 σ H2 x vs v us Q I2 r1 r2 q2
open e
theorem Zq (X)(id:String)(r):Prop:=
 ∀ (ñ:ζ)(s:Ê)(σ:St)(H:Hp)(x:V)(xs:π)(v:Value)(us:θ)(Q:VK),d9X H s->e18 v->e0k us->r x xs H Q->
  wpAny Ē X.A c0i Ĺ X.xe s
def Fc.one:∀ {x:V}{us:θ},Fc [x] us->∃ u,us=[u]/\Os x u:=by
 intro x us h
 cases h with|cons r t=>cases t;show#[_,1,r]
def Fc.zero:∀ {us:θ},Fc [] us->us=[]
 | _,.nil=>rfl
def Fc.dropLast (h:e0k us):Fc xs.dropLast us.dropLast:=by
 induction h with
 | nil=>show .nil
 | cons r t ih=>
  cases t with
  | nil=>show .nil
  | cons q t'=>show .cons r ih
def Fc.eraseIdx:∀ {xs:π}{us:θ} (i:Nat),e0k us->Fc (xs.eraseIdx i) (us.eraseIdx i)
 | _,_,_,.nil=>.nil
 | _,_,0,e9M t=>t
 | _,_,i+1,e4l t=>e4l (Fc.eraseIdx i t)
def Fc.rep (h:e0k us):∀ k:Nat,Fc (e0X xs).flatten (e0X us).flatten:=by
 intro r'
 induction r' with
 | zero=>
  show .nil
 | succ k ih'=>
  rw[Kh,Kh,Lk,Lk];show Fc.append h (ih')
def a1I (c91):l.eraseIdx (l.length - 1)=l.dropLast:=by grind
def sk:∀ (l:List α)(i:Nat),(l.eraseIdx i).length<=l.length
 | [],_=>Hi _
 | _::_,0=>Nat.le_succ _
 | _::r,i+1=>Nat.succ_le_succ (sk r i)
def b0Z (its:θ):∀ (k:Nat)(acc:θ),
  List.foldl u8 acc.toArray (e0X its.toArray)=(acc++(e0X its).flatten).toArray
 | 0,acc=>by simp
 | k+1,acc=>by simp[List.replicate,b0Z,Kh,Jm]
def Inv.a0Y {its:θ}(I)(hH:H l=!.lst xs)(e:s.heap.get? l=!{ cls:=.type "list",data:=e0o n })(hf:f its.toArray=its'.toArray)(hv:e5N its')(c9l):
  Inv X ñ σ GB { s with heap:=s.heap.update l (Obj.mapSeq f),toks:=t' }:=by
 let q:=PySem.IsL.update e f;rw[hf]at q;show I.write (by rw[hH];show trivial) ĵ (λb' u hb hu=>(J9 s.heap _<|Ne.symm hb).trans hu) #[_,q] ?_;show#[hz,its',_,hv,q]
def Inv.a0Z (I)(hv:e5N its)(c9l):
  Inv X ñ σ (d8U s.heap.objs.size nG) { s with heap:=s.heap.push { cls:=.type "list",data:=.seq its.toArray },toks:=t' }:=
 I.laid DU BU #[hz,its,(0),hv,Hw _ rfl]
def Inv.fresh (I):H s.heap.objs.size=none:=I.LJ.fresh BU
def Inv.Wg (I)(hH:H l=!.lst xs):xs.length<=sizeLine/\∃ (its:θ)(n:Nat),e0k its/\xs.length=its.length/\s.heap.get? l=!{ cls:=.type "list",data:=e0o n }:=by let#[Db,e]:=I.LJ l _ hH;show#[Db,r.length,e]
def a1E (h:n<=sizeLine):Builtin.List.listTooLong n=false:=by ext d6J
inductive iH (x:V)(c6Y):∀ l xs y,x=.ref l->vs=[y]->H l=!.lst xs->xs.length<sizeLine->Q .non (d8U l (.lst (xs++[y])))
def aH:Zq X "list.append" iH:=by
 ext d3B;let#[l,xs,y,2,hH,hz,q]:=h
 ext d7h;ext d4p;show La F.slot_list_append vi F.entry_list_append (F.args_list_append_2 ĉ) (PySem.list_append l its.toArray n u<|by cbv) #[e,?_];show#[.non,_,I.a0Y hH e ė (r.append<|.cons ru .nil) ?_,1,q];rw[Ho,Ie];omega
inductive yC (x:V)(c6Y):∀ l xs y,x=.ref l->vs=[]->H l=!.lst xs->xs[xs.length - 1]?=!y->Q y (d8U l (.lst xs.dropLast))
def a0R:Zq X "list.pop" yC:=by
 ext d3B;let#[l,xs,y,2,hH,hy,q]:=h
 cases rx;let hus:=rv.zero;subst hus;ext d4p;let#[u,hu,ru]:=r.get hy;let hy':its.toArray[its.toArray.size - 1]?=!u:=by
  cbv
 show La F.slot_list_pop vi F.entry_list_pop (F.args_list_pop_1 _) (MeetsSeq.list_pop_last l its.toArray n u hy'<|by cbv) #[e,?_];show#[y,_,I.a0Y hH e ?_ r.dropLast ?_,ru,q]
 ·cbv
 ·rw[List.length_dropLast]
  lia
inductive a8C (x:V)(c6Y):∀ l xs i k y,x=.ref l->vs=EO->H l=!.lst xs->-(2 ^ 63)<=i->i<2 ^ 63->seqIndex? i xs.length=!k->xs[k]?=!y->Q y (d8U l (.lst (xs.eraseIdx k)))
def c4p:Zq X "list.pop" a8C:=by
 ext d3B;let#[l,xs,i,k,y,2,hH,ZL,hk,hy,q]:=h
 ext d7h;let#[t,1]:=ru;ext d4p;let#[w,hw,UE]:=r.get hy;show La F.slot_list_pop vi F.entry_list_pop (F.args_list_pop_2 ĉ)
  (MeetsSeq.list_pop_at l its.toArray n i t k w (e8S h2) ě ě<|by cbv) #[e,?_]
 show#[y,_,I.a0Y hH e ?_ (r.eraseIdx k) ?_,UE,q]
 ·cbv
 ·let:=sk xs k
  lia
inductive a3y (c7b):∀ l b xs zs,x=.ref l->y=.ref b->H l=!.lst xs->H b=!.lst zs->xs.length+zs.length<=sizeLine->(∀ p,H p=none->Q oW (d8U p (.lst (xs++zs))))
def a0E:e8h a3y:=by
 ext d2f;let#[l,b,xs,zs,2,hH,hB,hz,q]:=h
 cases rx
 cases ry;ext d4p;let#[z2,Pp,n2,r2,T5,e2]:=I.Wg hB;show PySem.P.add_list e e2 ?_ qf;let ea:its.toArray++Pp.toArray=(its++Pp).toArray:=by simp
 rw[ea];show#[.ref _,_,I.a0Z (r.append r2)<|by cbv,1,q _ I.fresh]
inductive Dx (c7b):∀ l k xs,x=.ref l->y=.int k->H l=!.lst xs->-(2 ^ 63)<=k->k<2 ^ 63->xs.length * k.toNat<=sizeLine->(∀ p,H p=none->Q oW (d8U p (.lst (List.replicate k.toNat xs).flatten)))
def c3t (xs)(k:Nat):(e0X xs).flatten.length=k * xs.length:=by cbv
def c6A:NP X c10 Dx:=by
 ext d2f;let#[l,k,xs,2,hH,ZL,hz,q]:=h
 ext d5P;ext d4p;let hlen:its.toArray.size * k.toNat<=sizeLine:=by cbv
 let a9K:¬ its.toArray.size * k.toNat > (2 ^ 63 - 1) / 8:=by
  let:(sizeLine:Nat)<=(2 ^ 63 - 1) / 8:=by decide
  lia
 let a9v:¬ (not (Builtin.List.listFitsIndex k))=true:=by rw[e8S h2];show Ia
 let a4H:¬ Builtin.List.listTooLong (its.toArray.size * k.toNat)=true:=by
  rw[a1E hlen]
  cbv
 let Oj:List.foldl u8 [].toArray (List.replicate (if its.toArray.isEmpty=true then 0 else k.toNat) its.toArray)=(List.replicate k.toNat its).flatten.toArray:=by
  let f0:∀ m:Nat,List.foldl u8 [].toArray (e9o its.toArray)=(e9o its).flatten.toArray:=λm=>by simp[b0Z,II]
  rw[f0]
  cases its with
  | nil=>simp
  | cons a r'=>rw[if_neg<|by simp]
 show wpAny_binaryOp_repeat_ref į vi (λs'=>typeIs_int s' k t) noFill_list_mul F.fills_int_mul F.slot_int_rmul repeat_list F.slot_int_index.lookup
  (La F.slot_int_rmul (typeIs_int s k t) F.entry_int_rmul (F.args_int_rmul_2 ĉ) (int___rmul___int_list k t l its.toArray n)
   #[e,1,vi,La F.slot_list_mul vi F.entry_list_mul (F.args_list_mul_2 ĉ) (AutoListH.list___mul___list_int_3 l its.toArray n k t a9v a9K a4H) #[e,?_]])
 rw[Oj];show#[.ref _,_,I.a0Z (r.rep k.toNat) (by rw[c3t,Nat.mul_comm];show hz),1,q _ I.fresh]
universe L2
namespace Att
open PySem PySem.W PySem.Calls PyProof.Rows
abbrev _root_.Ξ:=List Int
def cDk:∀ (ns:Ξ)(vs:θ),WellAll P h vs c0l->e5q ns:=by
 intro ns
 induction ns with
 | nil=>
  intro vs w
  cases w;show .nil
 | cons n ns ih=>
  intro vs w
  cases w with
  | cons a b=>
   cases a;show .cons ĉ (ih _ b)
def c5L (d1q)(Yl:l.row.toRowW.claim.pre args=true)(hwl:WellAll P h vals args):
  ∃ a vs ns,vals=[Value.ref a]/\args=[WData.list c0l]/\h.get? a=!{ cls:=.type "list",data:=.seq vs.toArray }/\IntsAre vs ns/\ns.length<=n:=by
 let hsh:=(pre_splitW Yl).1;let hc:l.pre.holds [] { args:=args }=true:=(pre_splitW Yl).2;let#[d,r,1,ZL]:=hasAllW_cons hsh;obtain rfl:=hasAllW_nil h2;let#[xs,1,h3]:=hasW_list h1;let#[ns,1]:=items_int h3;let hlen:ns.length<=n:=by
  let h4:(WTm.not<|.lt (.lit<|.int (n)) (.len<|.arg 0)).holds [] { args:=[.list<|ns.map .int] }=true:=by let h4:=(holds_andW hc).1;rw[hn]at h4;show h4
  let h5:=condW_of h4 (w_not<|w_lt w_lit (w_len_list<|w_arg rfl))
  cbv
 cases hwl with
 | cons w1 w2=>
  cases w2
  cases w1 with
  | list ho Ua=>show#[_,_,ns,2,ho,cDk ns _ Ua,hlen]
def c6G (l:OpenLaw)(args:List WData):l.row.toRowW.claim.post args (.bool true) args=true:=
 postW_of
  (show WShape.has [] _ .bool=true by first|rfl|decide|simp)
  (w_eq_bool (w_res rfl) w_lit) rfl
def UR (d1q)(hdf)(call:∀ (w:World)(s₀ s₁:Ê)(mg mb:Ω)(fa:Addr)(o:Obj)(pm cd doc:Value)(a:Addr)(vs:θ)(ns:Ξ),
   Ground q loose [] XP w s₀ mg mb s₁.heap->YP w s₁.heap->
   s₁.heap.get? fa=!o->o.data=.func (docDef d.name d.params d.body d.scope pm cd doc)->s₁.heap.CodeRec cd d.name->mg d.name=!.ref fa->
   s₁.heap.get? a=!{ cls:=.type "list",data:=.seq vs.toArray }->e5q ns->ns.length<=n->s₁.gens=[].toArray->
   codeAny (model l.prog w) callerA DW c4l s₁):
  WalkO q loose XP YP l.row.toRowW d [] zB:=by
 intro w s₀ s₁ mg mb G Y fa o pm cd doc dV kV ho hd RM hD hmg hg args vals as Yl b5o Xd hwl hlo;obtain rfl:dV=.none:=Dflts.none hD hdf;obtain rfl:kV=.none:=Dflts.noKw hD;let#[a,vs,ns,2,a1m,hints,hlen]:=c5L hn Yl hwl;show enter_call (K6 (call w s₀ s₁ mg mb fa o pm cd doc a vs ns G Y ho (fd_plain hd) RM hmg a1m hints hlen hg) λr s' hq=>?_);let#[1,h2,AU]:=hq;show#[.inl #[.bool true,.bool true,[],1,λ_=>rfl,.bool true,c6G l _,λ_=>#[List.Pairwise.nil,λ_ hm=>nomatch hm]],h2,AU]
universe Att
namespace L2
open PySem PySem.Spec PyProof.Rows
def a2i:∀ {vs:θ}{ns:Ξ},e5q ns->Fc Ķ vs:=by
 intro vs ns h
 induction h with
 | nil=>show .nil
 | cons n t _ ih=>show .cons #[t,1] ih
theorem ar (s:Stmt)(j):Stmt:=match s with
 | .ClassDef _ _ _ body _ _ _ _ _ _ _=>body.getD j b73
 | _=>.Pass ⟨0,0,0,0⟩
theorem aT (s:Stmt):Arguments:=match s with
 | .FunctionDef _ a _ _ _ _ _ _ _ _=>a
 | _=>{ posonlyargs:=[],args:=[],vararg:=none,kwonlyargs:=[],kw_defaults:=[],kwarg:=none,defaults:=[] }
theorem aB (s:Stmt):Í:=match s with
 | .FunctionDef _ _ b _ _ _ _ _ _ _=>b
 | _=>[]
theorem ae (s:Stmt):Scope:=match s with
 | .FunctionDef _ _ _ _ _ _ sc _ _ _=>sc
 | _=>{ kind:=.function,names:=[],isGenerator:=false,isCoroutine:=false }
abbrev N5:VC:=λd94 _=>False
abbrev E0:XK:=λe05=>False
def m5:b5Y N5 X E0:=λe1d h=>h.elim
abbrev _root_.ω:=Array Î
abbrev _root_.ψ:=Option Addr
structure OT (c9B):Prop where
 ex:∃ (oc:Value)(od:ψ)(kV doc pm:Value)(an:ψ)(Lz ct:Value)(Nv:ω),
  fd=W.fnOf x ğ yt yG jp .none kV doc pm an Lz ct/\K.lookup f=some ⟨oc,od,.func fd,Nv⟩/\W.codeIn K Lz ğ=true
 kp:W.keepIn K Ci=true
variable {K:Ψ}
def OT.ok (c8i)(len)(O7:∀ (Lz:Value)(A:Ë)(outer:List Env)(s:Ê)(H:Hp)(vs:π)(Q:VK)(E:XK),LL k ĕ->e09 E->
   ∃ t,Q2 (e0u E).Uv yG t/\t { nx:=λ_ H'=>e2y H',rt:=Q } Ų H):d98 sp:=by
 ext d6T;ext d2M
def OT.binds {st:Stmt}(c7f)(h:∀ (kV doc pm:Value)(an:ψ)(Lz ct:Value)(us:θ),us.length=ps.length->bindArgs Ģ wu=pure KB):yU K fd ps []:=by ext d6T;show .all (h kV doc pm an Lz ct)
def pO {st:Stmt}{kV:Value}(d0L):OT K x ğ st f Ģ:=#[#[oc,od,rH,Nv,1,l,c],k]
open e
def aU (hr:LL k A):A.units+1<cLine:=JK (Nat.add_le_add_left (by decide:1<=64) _) hr.units
def pv (c8H):e7C yI:=a0A hN hv hd RM
def uE {A:Prop}(h:B):if false=true then A else B:=by rw[if_neg Ia];show h
def Gi {A:Prop}(h:A):if true=true then A else B:=by ext d5a;show h
def ku {A:Prop}[Decidable c](h1:c->A)(h2:¬ c->B):if c then A else B:=by cbv
def a4b {A:Prop}[Decidable c](hc:c)(h:B):if (not (decide c))=true then A else B:=by rw[Hb hc];show uE h
theorem f' (H H':Hp):Prop:=∀ b o,H b=!o->H' b=!o
def f'.refl (H):f' H H:=λe8E=>h
def f'.trans (a:f' H H1)(b:f' H1 H2):f' H H2:=λc o h=>b c o (a c o h)
def f'.free (e)(h:H' l=Option.none):H l=Option.none:=by
 cases q:H l with
 | none=>rfl
 | some o=>
  rw[e l o q]at h
  cases h
def f'.seq {K:Ψ}(e)(h:e0W xs):LS K H' a xs:=by
 rcases h with (h|⟨o,h⟩)|h
 ·show .inl (.inl<|e _ _ h)
 ·show .inl (.inr #[o,e ĉ h])
 ·show .inr h
theorem Itz (K)(a b:Addr):It:=
 ⟨λi H=>∃ xs ys x y,e0W xs/\LS K H b ys/\xs[i]?=!x/\ys[i]?=!y,
  λi H v H'=>∃ T,H T=none/\v=.ref T/\∃ x y,b3c/\(∀ ys,LS K H b ys->ys[i]?=!y)/\H'=e9Z (.tup [x,y]),
  λi H=>∃ xs ys,e0W xs/\LS K H b ys/\(xs.length<=i\/ys.length<=i)⟩
def Inv.Qo {ch:υ}(I)(hf:∀ b∈ch,e2I H b)(k:∀ b o,b∉ch->s.heap.get? b=!o->h'.get? b=!o):d9X H { s with heap:=h',toks:=t' }:=by
 show I.step (λe3b=>#[(hf b hb).2.2.2.1,(hf b hb).2.1,(hf b hb).2.2.2.2.1,(hf b hb).2.2.2.2.2]) (λe3n _=>k b o hc e) (λe3n _=>#[o.slots,k b o hc e]) (λd9V n=>n)
  (λb o hc e=>#[o,k b o hc e]) (λ_ _ e=>e) (λe05 e=>e) b0x (λm hm=>?_) (λe7w=>?_) I.bare
 ·let#[uf]:=hm;show#[Pk,k _ o (λz=>(hf _ z).2.1 rfl) ho,r]
 ·show (e8d u e).N0 (λc v hc q=>k c v vD q) EF λe42=>q;let n:=(hf c z).1
  grind
def Inv.Uy (I)(hf:e2I H T)(hs:X.s₀.heap.objs.size<=T)(new:e2j (d8U T o) s.heap T o):d9X (d8U T o) s:=by
 let hn:=hf.1;let:=I.step (H':=e9Z o) (d':=s.drawn) (t':=s.toks) (ch:=[T]) (λe3b=>by
   let e:b=T:=by simpa using hb
   subst e;show#[.inr hs,hf.2.1,hf.2.2.2.2.1,hf.2.2.2.2.2]) (λb o e05 e _=>e) (λb o e05 e _=>#[o.slots,e]) (λe3o _ n=>by rw[aa<|by simpa using hb];show n)
  (λb o _ e=>#[o,e]) (λb xs e=>by rw[aa<|aj e hn];show e) (λb ob xs e=>by rw[aa<|aj e hn];show e) (λb ps e=>#[[].toArray,by rw[aa<|aj e hn,e];simp]) (λm hm=>hm)
  (λe7w=>by
   by_cases hb:b=T
   ·grind [ai]
   ·rw[aa hb]at e;show (e8d u e).N0 (λc v _ q=>q) (λc q=>by rw[aa<|aj q hn];show q) λc xs q=>by rw[aa<|aj q hn];show q) I.bare
 show this
def dQ (c9Z)(hf:e2I H b):a≠b:=by
 rintro rfl;rcases h with (h|⟨o,h⟩)|⟨o,its,n,hk,_⟩
 ·rw[hf.1]at h;cases h
 ·rw[hf.1]at h;cases h
 ·let e:=I.ok.mod.Yd a o hk;rcases hf.2.2.2.1 with z|z
  ·show I.ok.UH a o e z
  ·show absurd (HN og<|e5m z) sR
theorem a22 (z TI TO i1 i2 a b:Addr)(i)(c8v):Prop:=IsZip h z TI TO .none/\IsPair h TI (d9i i1) (d9i i2)/\(∃ u v,IsPair h TO u v)/\h.IsListIter i1 a i/\h.IsListIter i2 b i
structure a5K (z TI TO i1 i2:Addr):Prop where
 TIz:TI≠z
 TOz:TO≠z
 i1z:i1≠z
 i2z:i2≠z
 TITO:TI≠TO
 TIi1:TI≠i1
 TIi2:TI≠i2
 TOi1:TO≠i1
 TOi2:TO≠i2
 i12:i1≠i2
def c3F (c8M)(a b z TI TO i1 i2:Addr)(D:a5K z TI TO i1 i2):
  uV P w K Œ (e90 b) [lP] z (a22 z TI TO i1 i2 a b) where
 mem:=by simp
 obj:=λi h st c hc=>by
  let#[ZL,#[u,v,h3],#[o4,e4,c4,d4],#[o5,e5,c5,d5]]:=st;ext d3j;ext d6l
  ·show#[c6a]
  ·show#[_,h2,λv z=>by cases z]
  ·show#[_,h3,λv z=>by cases z]
  ·show#[_,e4,λv z=>by rw[d4]at z;cases z]
  ·show#[_,e5,λv z=>by rw[d5]at z;cases z]
 keep:=λe1z=>by let#[c4B]:=st;show#[k z ė _ h1,k TI ė _ h2,#[u,v,k TO ė _ h3],h4.at λo e=>k i1 ė o e,h5.at λo e=>k i2 ė o e]
 item:=by
  ext d2i;let#[xs,ys,x,y,hx,hy,ex,ey]:=hg;ext d39;ext d8c;let#[w2,ew2,r2]:=YQ.get ey;let ap:e5r b:=#[D.TIz,D.TOz,D.i1z,D.i2z,D.TITO,D.TIi1,D.TIi2,D.TOi1,D.TOi2,D.i12,
   dQ I hx (hf z<|by simp),dQ I hx<|hf TO ė,dQ I hx<|hf i1 ė,dQ I hx<|hf i2 ė,dQ I hy<|hf z ė,dQ I hy<|hf TO ė,dQ I hy<|hf i1 ė,dQ I hy<|hf i2 ė]
  show wpAny_pyNext_zip_item ap h1 h2 h3 h4 h5 p.isList p2.isList b89 (by simpa using ew2) λh' e1R=>?_;show#[_,1,wpAny_letOwnedTupleGo_zip a1 λW2 b1 sb=>?_];ext d5h;let YK:∀ c∈[lP],c≠s.heap.objs.size:=λc hc e=>by
   let:∃ o,s.heap.get? c=!o:=by
    ext d3j;let#[o4,e4,_]:=h4;let#[o5,e5,_]:=h5;ext d6l
    ·show#[_,h1]
    ·show#[_,h2]
    ·show#[_,h3]
    ·show#[_,e4]
    ·show#[_,e5]
   let#[o,q]:=this;show absurd (HD q) (by rw[e];show IL _)
  let kk:∀ c o,c∉[lP]->s.heap.get? c=!o->W2.get? c=!o:=λc o hc e=>by simp only[Hr,Ih,Kk,not_or]at hc;show sb.extBut ĉ hc.1 (a7 c o hc.1 hc.2.2.1 hc.2.2.2.1 hc.2.2.2.2 e)
  ext d4j;let I2:d9X (upd H s.heap.objs.size<|.tup [x,y]) { s with heap:=W2 }:=by show I1.Uy FW I.sz #[by change 2<=sizeLine;decide,[w1,w2],.cons r1<|.cons r2 .nil,?_];show#[_,e2n (Ne.symm<|YK z ė) a5,gQ]
  show#[kx,I2,1,#[_,hT,1,x,y,λxs' VT=>by rw[I.QC VT hx];show ex,λys' hy'=>by rw[I.QC hy' hy];show ey,1],?_,λc hc=>?_]
  ·show#[b1,e2n D.TIz<|a7 TI _ D.TIz D.TITO D.TIi1 D.TIi2 h2,#[_,_,e2n D.TOz a2],a3.extBut sb.extBut D.i1z,a4.extBut sb.extBut D.i2z]
  ·ext d6K
 done:=by
  ext d2i;let#[xs,ys,hx,hy,hl]:=hg;ext d39;let l1:=rv.length;let l2:=YQ.length;let ap:e5r b:=#[D.TIz,D.TOz,D.i1z,D.i2z,D.TITO,D.TIi1,D.TIi2,D.TOi1,D.TOi2,D.i12,
   dQ I hx (hf z<|by simp),dQ I hx<|hf TO ė,dQ I hx<|hf i1 ė,dQ I hx<|hf i2 ė,dQ I hy<|hf z ė,dQ I hy<|hf TO ė,dQ I hy<|hf i1 ė,dQ I hy<|hf i2 ė]
  show wpAny_pyNext_zip_end ļ ap h1 h2 h3 h4 h5 p.isList p2.isList ?_ λh' kk=>#[1,I.Qo hf λc o hc e=>?_]
  ·rcases hl with q|q
   ·show .inl (by simp;omega)
   ·show .inr (by simp;omega)
  ·ext d6U;show kk c o hc.1 hc.2.2.1 hc.2.2.2.1 hc.2.2.2.2 e
 self:=λe4i=>wpAny_pyIter_zip st.1 h
def b7Z:bootBuiltins "zip"=!.type "zip":=by decide +kernel
inductive b8r (K:Ψ)(c8r):∀ a b,vs=[.ref a,.ref b]->b7W->(∃ ys,LS K H1 b ys)->R (Itz K a b) H1
theorem a4d (K)(ta):TI:=λe8N=>ta σ H λe43=>b8r K R vs H1
def D4 (d02)(c7m):
  PI X Œ qh (a4d X.K ta):=by
 ext d2I;show Call_<|e2T b7Z (e0d mh (by rw[U5];rfl));ext d6R;let#[a,b,e,#[xs,hx],#[ys,hy],q]:=q1;subst e
 cases r1 with
 | cons r rr=>
  cases rr with
  | cons r' rr=>
   cases rr
   cases r
   cases r';let#[Ex,p1,hz]:=I1.list hx;let#[c6D]:=I1.list hy;ext d3G;show wpAny_pyIter_zip a1 ?_;let I2:d9X H1 { s1 with heap:=h' }:=I1.kept a7;show#[_,[s1.heap.objs.size+4,s1.heap.objs.size+2,s1.heap.objs.size+3,s1.heap.objs.size,s1.heap.objs.size+1],_,_,H1,1,I2,c3F a b ą _ #[Ew,mU],#[a1,a2,#[_,_,a3],a4,a5],λc hc=>?_,q];all_goals try (intro z;let z':=z;lia)
   let le:@LE.le Nat _ s1.heap.objs.size c:=by simp only[Hr,Ih,Kk]at hc;rcases hc with rfl|rfl|rfl|rfl|rfl <;> lia
   let:=I1.Sz le<|I1.LJ.fresh le;show this
def a1i {K:Φ}(d0J)(hl:∀ i σ H,i<=e1B ys.length->e7D H->e0W xs/\LS K H b ys)(hs:∀ i x y T σ H,xs[i]?=!x->ys[i]?=!y->e7D H->H T=none->g sU σ M1 λe5k=>tb { D with nx:=Pv (i+1),ct:=Pv (i+1),bk:=D.nx } σ2 H2)(hd:∀ σ H,Pv (e1B ys.length) σ H->e4p H):
  ∃ W:Nat->Nat->Υ,lQ/\∀ i m σ H,e32 H->
   ((e90 b).stop i H/\D.nx σ H)\/((e90 b).go i H/\∃ N:Υ,ġ/\∀ x H',(e90 b).XE i H x H'->e4q H' λe5k=>tb { D with nx:=N,ct:=N,bk:=D.nx } σ2 H2):=by
 show#[λi m e3i=>m=e1B ys.length - i/\i<=e1B ys.length/\Pv i σ H,#[_,1,HP _,h0],?_];ext d67;let#[wH]:=hl i σ H hi p;by_cases NI:i<e1B ys.length
 ·show .inr #[#[xs,ys,xs[i],ys[i],wH,by simp,by simp],Pv<|i+1,λe9I=>#[_,?_,1,NI,p'],λx H' yl=>?_]
  ·lia
  ·let#[T,hT,1,x,y,ex,ey,1]:=yl;show hs i x y T σ H (ex xs q1) (ey ys q2) p hT
 ·let e:i=e1B ys.length:=#[]
  subst e;show .inl #[#[xs,ys,wH,#[]],hd σ H p]
abbrev Z0:ρ:=λ_ _=>False
def b3P (I:Nat->Shared->Prop)(turn:∀ n s,I n s->e0i (pyNext it) (λr s₁=>match r with
   | none=>R (.ok .next) s₁
   | some v=>e0i (letOwnedTupleGo target it v) (λ_ s₂=>e0i (assign target env v) (λ_ s₃=>
     wpAny ē A (forIn ifs true λc r=>if r=true then do let ok <- isTrue c env (eval c env);pure b9a else pure b9A) (λok s₄=>
      if ok=true then wpAny ē A (eval elt env) (λx s₅=>e0i (call (.builtin "list.append") [acc,x]) (λ_ s₆=>∃ m,m<n/\I m s₆) Z0 s₅) Z0 s₄
      else ∃ m,m<n/\I m s₄) Z0 s₃) Z0 s₂) Z0 s₁) Z0 s)(n)(h:I n s):codeAny ē A (.compLoop (.ListComp elt [#[target,iter,ifs,(0)]] scope pos) 0 it acc env) R s:=by
 show codeAny_loop rfl I (λn s hI=>?_) n h;show wpAny_noted ?_;show GQ (JT<|GQ (IC (turn n s hI) (λr s₁ h₁=>?_) λ_ _ h'=>h'.elim))
 cases r with
 | none=>show Hg h₁
 | some v=>
  show GQ (IC h₁ (λ_ s₂ h₂=>?_) λ_ _ h'=>h'.elim);show GQ (IC h₂ (λ_ s₃ h₃=>GQ<|IC h₃ (λok s₄ h₄=>?_) λ_ _ h'=>h'.elim) λ_ _ h'=>h'.elim)
  cases ok with
  | false=>show Hg #[1,h₄]
  | true=>
   show GQ (GQ<|IC h₄ (λx s₅ h₅=>GQ<|IC h₅ (λ_ s₆ h₆=>Hg<|Hg ⟨rfl,h₆⟩) λ_ _ h'=>h'.elim) λ_ _ h'=>h'.elim)
def c4o (h:Q (newEnv scope s.heap.objs.size globals (e6N scope.names cl) ğ none .none (!env) builtinsNs) { s with heap:=pushCells (d89 s.heap.push) scope.names }):
  wpAny M A (newFunctionEnv scope globals cl [] ğ none .none !env) Q E s:=by
 show GQ (wpAny_alloc ?_);show GQ (wpAny_layCells _ (λname kind cells=>by cbv) ą ?_);rw[JF ..];ext d6V;show Hg (Hg h)
abbrev _root_.Ã:=List (Str×Addr)
abbrev _root_.Â:=List (Str×NameKind)
def a5a (f:Str×NameKind->List (Str×Addr)->Sem (ForInStep Ã))(hf:∀ name kind cs,f (name,kind) cs=if kind==.free then (do let a <- cellOf env name;pure (.yield ((name,a)::cs))) else pure (.yield cs)):
  ∀ (names:Â)(cs:Ã),(∀ x∈names,x.2=.free->∃ c,env.cells.lookup x.1=!c)->
   ∃ cl,forIn names cs f=pure cl/\(∀ p∈cl,p∈cs\/env.cells.lookup p.1=!p.2)/\(∀ p∈cs,p∈cl)/\∀ x∈names,x.2=.free->∃ c,(x.1,c)∈cl:=by
 intro r'
 induction r' with
 | nil=>
  intro cs _;show #[cs,by rw[b8y],λ_ h=>.inl h,λ_ h=>h,λ_ h=>nomatch h]
 | cons hd' r ih'=>
  let#[name,kind]:=hd';intro cs hc;let hr:∀ x∈r,x.2=.free->∃ c,env.cells.lookup x.1=!c:=λe0Z=>hc x<|Hk _ hx;by_cases hk:kind=.free
  ·subst hk;let#[c,e]:=hc (name,.free) Ha rfl;let#[cl,AS]:=ih' ((name,c)::cs) hr;show#[cl,?_,λe79=>?_,λe79=>h3 p<|Hk _ hp,λe0Z hf'=>?_]
   ·rw[a4l,hf];change ((if (NameKind.free==NameKind.free)=true then _ else _) >>= _)=_;rw[if_pos<|by decide];ext1 cellOf;rw[e];show h1
   ·grind
   ·rcases Hr.mp hx with z|z
    ·subst z;show#[c,h3 _ Ha]
    ·show h4 x z hf'
  ·let#[cl,AS]:=ih' cs hr;show#[cl,?_,h2,h3,λe0Z hf'=>?_]
   ·rw[a4l,hf,if_neg<|by simpa using hk];show h1
   ·rcases Hr.mp hx with z|z
    ·cbv
    ·show h4 x z hf'
def a2n (hc:∀ x∈scope.names,x.2=.free->∃ c,env.cells.lookup x.1=!c):
  ∃ cl,e9p env=pure cl/\(∀ p∈cl,env.cells.lookup p.1=!p.2)/\∀ x∈scope.names,x.2=.free->∃ c,(x.1,c)∈cl:=by
 let#[cl,xo,h4]:=a5a (λx cs=>if x.2==.free then (do let a <- cellOf env x.1;pure<|.yield ((x.1,a)::cs)) else pure (.yield cs)) (λe05=>rfl) scope.names [] hc;show#[cl,?_,λe79=>(h2 p hp).elim İ id,h4];ext1 closureFor
 cbv
def cy:∀ {l:List (Str×α)}{x:Str}{c:α},(x,c)∈l->∃ d,l.lookup x=!d:=by
 intro l
 induction l with
 | nil=>intro x c h;cases h
 | cons p r ih=>
  intro x c h;let#[k,v]:=p;rw[K8]
  cases hb:x==k with
  | true=>show#[v,1]
  | false=>
   rcases Hr.mp h with e|h
   ·cases e;simp at hb
   ·show ih h
instance fP:∀ (names:Â)(n:Nat)(acc:Ã)(p:Str×Addr),p∈cellsFrom n names acc->p∈acc\/(n<=p.2/\(p.1,NameKind.cell)∈names):=by
 intro r'
 induction r' with
 | nil=>
  intro _ _ _ h;show .inl h
 | cons hd' r ih'=>
  let#[y,k]:=hd';intro n acc p h;unfold cellsFrom at h;split at h
  ·rename_i hk;let ek:k=.cell:=by simpa using hk
   rcases ih' (n+1) _ p h with z|⟨z1,z2⟩
   ·rcases Hr.mp z with z|z
    ·cbv
    ·show .inl z
   ·show .inr #[#[],Hk _ z2]
  ·rcases ih' n acc p h with z|⟨z1,z2⟩
   ·show .inl z
   ·cbv
def c5T:∀ (names:Â)(n:Nat)(acc:Ã),(∀ p∈acc,p.2<n)->(∀ x y c,(x,c)∈acc->(y,c)∈acc->x=y)->
  ∀ x y c,(x,c)∈cellsFrom n names acc->(y,c)∈cellsFrom n names acc->x=y:=by
 intro r'
 induction r' with
 | nil=>
  intro _ _ _ h;show h
 | cons hd' r ih'=>
  let#[z,k]:=hd';intro n acc NI h;ext d8q;split
  ·show ih' (n+1) _ (λe79=>?_) (λx y c e12=>?_)
   ·rcases Hr.mp hp with e|hp
    ·cbv
    ·show JY (NI p hp)
   ·grind
  ·show ih' n acc NI h
instance fO:∀ (names:Â)(n:Nat)(acc:Ã){x:Str},(∀ y∈names,y.2=.cell->y.1≠x)->(cellsFrom n names acc).lookup x=acc.lookup x:=by
 intro r'
 induction r' with
 | nil=>
  intro _ _ _ _;show rfl
 | cons hd' r ih'=>
  let#[z,k]:=hd';intro n acc x h;ext1 cellsFrom;let hr:∀ y∈r,y.2=.cell->y.1≠x:=λy hy=>h y<|Hk _ hy;split
  ·rename_i hk;rw[ih' (n+1) _ hr,K8];let:(x==z)=false:=by let:=h (z,k) Ha (by simpa using hk);simpa using Ne.symm this
   rw[this]
  ·show ih' n acc hr
def a3o:∀ (names:Â)(h:Heap)(acc:Ã),(∀ p∈acc,∃ v,h.IsCell p.2 v)->∀ p∈cellsFrom h.objs.size names acc,∃ v,(pushCells h names).IsCell p.2 v:=by
 intro r'
 induction r' with
 | nil=>
  intro _ _ hc;show hc
 | cons hd' r ih'=>
  let#[z,k]:=hd';intro h acc hc;ext1 cellsFrom pushCells;split
  ·let:=ih' (h.push { cls:=.type "cell",data:=.cell none }) ((z,h.objs.size)::acc) (λe79=>by
    rcases Hr.mp hp with e|hp
    ·subst e;show#[none,kE,1]
    ·let#[v,q]:=hc p hp;show#[v,q.keeps λe0z=>GW _ e])
   rwa [JF]at this
  ·show ih' h acc hc
theorem aJ (X)(scope)(N')(d0M):Cx where
 prog:=X.prog
 w:=X.w
 K:=X.K
 mg:=X.mg
 base:=X.base
 A:=X.A
 N:=N'
 s₀:=s
 H₀:=H
 env:=compEnvC scope cells C X.env
 outer:=X.stack
 stack:=X.stack
 ex:=fp
 fn:=λx=>decide (scope.names.lookup x=!.cell)
 calm:=X.calm
 pn:=[]
 xe:=λ_ _=>False
theorem c5t (scope)(x):Bool:=scope.names.any λy=>y.1==x&&y.2==.free
theorem wU (scope)(x):Bool:=scope.names.any λy=>y.1==x&&y.2==.cell
abbrev _root_.À:=List Nat
theorem iR (sc)(N:η)(scope)(nT)(js)(N'):Bool:=
 scope.kind==.function&&decide (N'.length=nT+js.length) &&
 scope.names.all (λx=>(x.2 != .local || scope.names.lookup x.1==!.local)&&(x.2 != .free || ((sc.names.lookup x.1==some .cell || sc.names.lookup x.1==!.free)&&scope.names.lookup x.1==!.free))) &&
 (js.zipIdx.all λ(j,i)=>match N'[nT+i]?,N[j]? with
  | some x,some y=>x==y&&c5t scope x&&not (wU scope x)
  | _,_=>false)
structure bD (X:Cx)(scope:Scope)(nT:Nat)(js:À)(N':η):Prop where
 kind:scope.kind=.function
 len:N'.length=nT+js.length
 loc:∀ x∈scope.names,x.2=.local->scope.names.lookup x.1=!.local
 free:∀ x∈scope.names,x.2=.free->(d86 x.1)
 frl:∀ x∈scope.names,x.2=.free->scope.names.lookup x.1=!.free
 cap:∀ (i j:Nat),js[i]?=!j->∃ x,N'[nT+i]?=!x/\X.N[j]?=!x/\(x,NameKind.free)∈scope.names/\∀ y∈scope.names,y.2=.cell->y.1≠x
def a4C (hsc)(hN:X.N=N)(h:iR sc N scope nT js N'=true):e9q N':=by
 unfold iR at h;simp only[IM,decide_eq_true_eq,Io,JJ]at h;let#[#[#[ZL],h3],h4]:=h;show#[ZL,λe0Z hl=>?_,λe0Z hf=>?_,λe0Z hf=>?_,λi j e=>?_]
 ·let:=(h3 x hx).1
  cbv
 ·let:=(h3 x hx).2;simp only[hf,bne_self_eq_false,Lr,Bool.or_eq_true,IM,JJ]at this;change X.env.scope.names.lookup x.1=_\/X.env.scope.names.lookup x.1=_;rw[hsc];show this.1
 ·let:=(h3 x hx).2
  cbv
 ·let m:(j,i)∈js.zipIdx:=by rw[IJ];show e
  let q:=h4 (j,i) m;rw[hN];revert q
  cases e1:N'[nT+i]? with
  | none=>intro q;cases q
  | some x=>
   cases e2:N[j]? with
   | none=>intro q;cases q
   | some y=>
    intro q;ext d5H;let#[#[wH],q3]:=q;subst q1;show#[x,2,?_,λe3G hc hxy=>?_]
    ·unfold c5t at q2
     cbv
    ·let:wU scope x=true:=List.any_eq_true.mpr #[y,hy,by simp[hxy,hc]];rw[q3]at this;ext d4M
theorem qi (nT)(js)(σ):St:=e8T none++js.map λj=>(σ[j]?).join
theorem Q3 (X)(ifs:Ì)(t:TT):Prop:=
 ∀ (ñ:ζ)(s:Ê)(σ:St)(H:Hp)(Q:Ø),d9X H s->e4o Q->
  wpAny Ē X.A (forIn ifs true λc r=>if r=true then do let ok <- isTrue c X.env (d8N c);pure b9a else pure b9A) Fy X.xe s
theorem yj:TT:=λ_ H Q=>Q true H
def b3p:Q3 X [] yj:=λe0A h=>by rw[b8y];show Hg #[H,I,h]
def bW (hc:e8f t):Q3 X [c] t:=λe0A h=>by show GQ (GQ (M8 (d9l hc Q) λb s1 q=>Hg ?_));show Hg q
theorem gB (d1r)(σ)(F:Addr->Ù):It->Ù:=λJ H1=>∀ l,H1 l=none->
 ∃ W:Nat->Nat->Υ,(∃ m,W 0 m (qi nT js σ) b9b)/\∀ i m σ' H',W i m σ' H'->
  (J.stop i H'/\F l H')\/(J.go i H'/\∀ x H2,J.XE i H' x H2->g x σ' H2 λσ3 H3=>∃ (N:Ù)(NV:V->Ù),
   (∀ H4,N H4->∃ m',m'<m/\W (i+1) m' σ3 H4)/\(∀ v H5,NV v H5->∃ ys,H5 l=!.lst ys/\ys.length<sizeLine/\∃ m',m'<m/\W (i+1) m' σ3 b4G)/\
   tt σ3 H3 λb H4=>if b=true then te σ3 H4 NV else N H4)
variable {X:Cx}{ñ:ζ}{H:Hp}{s:Ê}
theorem b0I (X)(ñ)(H)(C)(s:Ê):Prop:=e2I H C/\X.s₀.heap.objs.size<=C/\∃ m,s.heap.Ns C m
def c3A:∀ (names:Â)(n:Nat)(acc:Ã),p∈acc->p∈cellsFrom n names acc:=by
 intro r'
 induction r' with
 | nil=>
  intro _ _ h;show h
 | cons _ r ih'=>
  intro n acc h;ext d8q;split <;> show ih' ĉ (by simp[h])
def b9S:∀ (names:Â)(n:Nat)(acc:Ã),(x,NameKind.cell)∈names->∃ c,(x,c)∈cellsFrom n names acc:=by
 intro names
 induction names with
 | nil=>intro n acc h;cases h
 | cons p r ih=>
  intro n acc h;let#[y,k]:=p;ext d8q;rcases Hr.mp h with e|h
  ·grind [c3A,List.mem_cons_self]
  ·split <;> show ih ĉ h
def b8k:∀ (names:Â)(n:Nat)(acc:Ã),C<=n->(names.lookup x=!.cell\/∀ d,acc.lookup x=!d->C<=d)->∀ c,(cellsFrom n names acc).lookup x=!c->C<=c:=by
 intro r'
 induction r' with
 | nil=>
  intro n acc hn h c e;show h.elim (λh=>nomatch h) λh=>h c e
 | cons hd' r ih'=>
  let#[y,k]:=hd';intro n acc hn h c e;unfold cellsFrom at e;rw[K8]at h;split at e
  ·show ih' (n+1) _ #[] ?_ c e
   grind
  ·show ih' n acc hn ?_ c e
   grind
instance xN (hc:∀ cells C s H fp,Cc Ė)(S:bD X scope nT js N')(hi:mI Cc X tg iter wi)(hg)(ht)(he:∀ cells C s H fp,PE Ė elt te)(I)(h:wi σ H (gB nT js g tt te σ F))(fin:∀ (l C:Addr)(s':Ê)(H':Hp),Inv X ñ σ H' s'->b0I X ñ H' C s'->F l H'->compPost Ē X.A X.xe use Q (.ref l) C (.ok .next) s')(hs):
  wpAny Ē X.A (comprehension (.ListComp elt [#[tg,iter,ifs,(0)]] scope pos) scope X.env MB (newList []) false (eval iter X.env) use) Q X.xe s:=by
 let Xj:∀ x∈scope.names,x.2=.free->∃ c,X.env.cells.lookup x.1=!c:=λx hx hf=>I.ok.has x.1<|S.free x hx hf;let#[cl,RW,Ta,Sv]:=a2n (env:=X.env) Xj;show wpAny_comprehension_free rfl hs RW S.kind S.loc (M8 (hi ñ s σ H _ I h) λv s1 h1=>M8 h1 λitv s2 h2=>?_);let#[it,fp,tn,J,H2,e,I2,T,st2,f2,rd]:=h2;subst e;let I3:Inv X ñ σ (upd H2 s2.heap.objs.size<|.lst []) { s2 with heap:=s2.heap.push { cls:=.type "list",data:=.seq ([]:θ).toArray } }:=I2.a0Z (t':=s2.toks) (its:=[]) .nil<|HP _;show Kq ?_ (by change 0<=sizeLine;show HP _);let#[W,#[m0,w0],turn]:=rd s2.heap.objs.size<|I2.LJ.fresh (Hi _);let T5:H2 s2.heap.objs.size=none:=I2.LJ.fresh<|Hi _;generalize hl:s2.heap.objs.size=l at I3 w0 turn T5 ⊢;generalize hs3:({ s2 with heap:=s2.heap.push { cls:=.type "list",data:=.seq ([]:θ).toArray } }:Ê)=s3 at I3 ⊢;let z3:s3.heap.objs.size=l+1:=by rw[<- hs3,<- hl];show JF ..
 let k23:∀ b o,s2.heap.get? b=!o->s3.heap.get? b=!o:=λb o e=>by rw[<- hs3];show GW _ e
 show c4o ?_;generalize hC:s3.heap.objs.size=C;generalize R8:cellsFrom (C+1) scope.names cl=cells;let hz4:(s3.heap.push { cls:=.type "dict",data:=.dict [].toArray }).objs.size=C+1:=by rw[JF,hC]
 let Zd:∀ b o,s3.heap.get? b=!o->(pushCells ť scope.names).get? b=!o:=λb o e=>pushCells_keeps ĉ b o<|GW _ e;let nsC:(pushCells (s3.heap.push { cls:=.type "dict",data:=.dict [].toArray }) scope.names).Ns C (λ_=>none):=by let:=(Heap.Ns.new s3.heap<|.type "dict").keeps<|pushCells_keeps scope.names _;rwa [hC]at this
 generalize hh4:pushCells ť scope.names=h4 at Zd nsC;let memC:∀ x c,cells.lookup x=!c->(X.env.cells.lookup x=!c/\@LT.lt Nat _ c C)\/(@LE.le Nat _ (C+1) c/\(x,NameKind.cell)∈scope.names):=λx c e=>by
  let m:=mem_of_lookup e;rw[<- R8]at m;rcases fP _ _ _ _ m with z|z
  ·let q:=Ta _ z;let#[v,iz]:=I3.cell x c q;show .inl #[q,by let:=iz.lt;rw[hC]at this;show this]
  ·show .inr z
 let YB:∀ x c,cells.lookup x=!c->∃ v,h4.IsCell c v:=λx c e=>by
  let m:=mem_of_lookup e;let:=a3o scope.names ť cl (λp hp=>by let#[v,iz]:=I3.cell p.1 p.2<|Ta p hp;show⟨v,iz.keeps λb o e=>GW _ e⟩)
  rw[hz4,R8,hh4]at this;show this _ m
 change codeAny Ē X.A (.compStart _ 0 Ix (.ref l)<|compEnvC scope cells C X.env) (compPost (model X.prog X.w) X.A X.xe use Q (.ref l) C) { s3 with heap:=h4 };let Xo:∀ b∈fp,@LT.lt Nat _ b l:=λb hb=>by let#[o,e,_]:=T.obj ĉ st2 b hb;rw[<- hl];show HD e
 let Zo:∀ b∈fp,b∉Rc X.stack:=λb hb z=>(Hr.mp<|I2.V7 b z).elim (f2 b hb).2.1 (f2 b hb).2.2.1;let okC:(aJ X scope N' cells C s3 Į fp).Ok:=by
  show#[I3.ok.mod,S.kind,I3.ok.glob,I3.ok.blt,Kt hC,λx y c e1 e2=>?_,λx hx=>?_,λx c hf e=>?_,I3.ok.hd,I3.ok.frames,.inl rfl,λb hb=>#[?_,λx c e z=>?_],I3.bs,HE I3.ok.Ww I3.sz,λb o e hb=>?_,Zo,I3.stack,I3.PN]
  ·let XX:=mem_of_lookup<|show cells.lookup x=some c from e1;let Pu:=mem_of_lookup<|show cells.lookup y=some c from e2;rw[<- R8]at XX Pu;show c5T scope.names (C+1) cl (λp hp=>?_) (λx y c h1 h2=>I3.ok.inj x y c (Ta _ h1)<|Ta _ h2) x y c XX Pu;let#[v,iz]:=I3.cell p.1 p.2<|Ta p hp;let h1:@LT.lt Nat _ p.2 s3.heap.objs.size:=iz.lt;rw[hC]at h1;change @LT.lt Nat _ p.2 (C+1)
   lia
  ·let VT:(relabel scope X.env).names.lookup x=!.cell\/(relabel scope X.env).names.lookup x=!.free:=hx;let:∃ k,(x,k)∈scope.names/\(k=.cell\/k=.free):=by
    let m:∃ k,(x,k)∈(relabel scope X.env).names/\(k=.cell\/k=.free):=by
     rcases VT with z|z
     ·show#[_,mem_of_lookup z,.inl rfl]
     ·show#[_,mem_of_lookup z,.inr rfl]
    let#[k,m,hk]:=m;unfold relabel at m;let#[#[n,k'],m',e]:=GX.mp m;dsimp only at e;split at e
    ·rename_i Zm
     cases e;simp only[IM,JJ]at Zm;show⟨k',m',.inr Zm.1.1⟩
    ·cases e;show⟨k,m',hk⟩
   let#[k,m,hk]:=this;change ∃ c,cells.lookup x=some c;rw[<- R8];let key:∃ c,(x,c)∈cellsFrom (C+1) scope.names cl:=by
    rcases hk with rfl|rfl
    ·show b9S Ĉ m
    ·show let ⟨c,h⟩:=Sv _ m rfl;⟨c,c3A Ĉ h⟩
   let#[c,m]:=key;show cy m
  ·let h1:@LE.le Nat _ (C+1) c:=b8k scope.names (C+1) cl (Hi _) (.inl<|HA (show decide (scope.names.lookup x=some NameKind.cell)=true from hf)) c (by rw[R8];show e);change @LE.le Nat _ s3.heap.objs.size c
   lia
  ·let:=Xo b hb;change @Ne Nat b C
   lia
  ·subst z;rcases memC x c e with⟨q,_⟩|⟨q,_⟩
   ·show (f2 c hb).2.2.2.2.1 x c q rfl
   ·let:=Xo c hb
    lia
  ·rcases (f2 b hb).2.2.2.1 with z|z
   ·show I3.ok.UH b o e z
   ·show absurd (HN (HD e)<|HE I3.ok.Ww z) (IL _)
 let HC:∀ c:Addr,@LE.le Nat _ C c->upd H2 l (.lst []) c=none:=λc hcc=>I3.LJ.fresh (show @LE.le Nat _ s3.heap.objs.size c by lia);let I4:Inv Ĩ [] (qi nT js σ) Į { s3 with heap:=h4 }:=by
  show#[okC,1,I3.bare,Un.kept Zd,#[_,nsC,λi x v e1 e2 e3=>?_],YB,HC C<|Hi _,λx c e=>?_,(λp hp=>nomatch hp),I3.LJ.kept Zd,?_]
  ·
   unfold qi at e2;by_cases U9:i<nT
   ·rw[HQ<|by simpa using U9,List.getElem?_replicate]at e2;split at e2 <;> cases e2
   ·rw[HU<|by simpa using U9,List.length_replicate,Hf]at e2
    cases ej:js[i - nT]? with
    | none=>rw[ej]at e2;cases e2
    | some j=>
     rw[ej]at e2;let Pu:(σ[j]?).join=!v:=by simpa using e2
     let b0m:σ[j]?=!some v:=by
      cases eσ:σ[j]? with
      | none=>rw[eσ]at Pu;cases Pu
      | some o=>rw[eσ]at Pu;show congrArg some Pu
     let#[y,n1,n2,n3,n4]:=S.cap ĉ ej;let:nT+(i - nT)=i:=#[]
     rw[this]at n1;let exy:x=y:=by let XX:N'[i]?=!x:=e1;rw[n1]at XX;show (Option.some.inj XX).symm
     subst exy;let#[m,hn,hlk]:=I3.loc;let kinds:=S.free _ n3 rfl;let vis:pQ X.env.scope x:=by
      rcases kinds with k|k
      ·show .inr (.inl k)
      ·show .inr (.inr k)
     let#[u,r,lk]:=hlk j x v n2 b0m vis;show#[u,r,?_];rcases lk with⟨k,_⟩|⟨k,c,ec,iz⟩
     ·rcases kinds with k'|k'
      ·rw[k]at k';cases k'
      ·rw[k]at k';cases k'
     ·show .inr #[?_,c,?_,iz.keeps Zd]
      ·change (relabel scope X.env).names.lookup x=!.cell\/(relabel scope X.env).names.lookup x=!.free;let e3':pQ (relabel scope X.env) x:=e3;rcases e3' with z|z|z
       ·
        exfalso;let m:=mem_of_lookup z;unfold relabel at m;let#[#[n,k'],m',e]:=GX.mp m;dsimp only at e;split at e
        ·cases e
        ·cases e;let q:=S.loc _ m' rfl;rw[S.frl _ n3 rfl]at q
         cases q
       ·show .inl z
       ·show .inr z
      ·change cells.lookup x=!c;rw[<- R8,fO Ĉ n4];let#[d,hd]:=Sv _ n3 rfl;let#[d',Q1]:=cy hd;let:=Ta _<|mem_of_lookup Q1;rw[ec]at this;rw[Q1,Option.some.inj this]
  ·rcases memC x c e with⟨q,_⟩|⟨q,_⟩
   ·show I3.Nf x c q
   ·show HC c #[]
  ·ext1 qi;change _=N'.length;rw[S.len,Ho,List.length_replicate,GP]
 let stat:∀ {H':Hp},(∀ b∈fp,H' b=none)->∀ b∈fp,jL Ĩ [] H' b:=λhn b hb=>by
  show#[hn b hb,?_,Zo b hb,.inl hb,λx c e z=>?_,λp hp=>nomatch hp]
  ·let:=Xo b hb;change @Ne Nat b C
   lia
  ·subst z;rcases memC x c e with⟨q,_⟩|⟨q,_⟩
   ·show (f2 c hb).2.2.2.2.1 x c q rfl
   ·let:=Xo c hb
    lia
 let fr0:∀ b∈fp,upd H2 l (.lst []) b=none:=λb hb=>by rw[aa<|HY (Xo b hb)];show (f2 b hb).1
 let tn4:tn 0 h4:=T.keep Ĉ st2 λb _ o e=>Zd b o<|k23 b o e;let loop:codeAny Ē X.A (.compLoop (.ListComp elt [#[tg,iter,ifs,(0)]] scope pos) 0 Ix (.ref l)<|compEnvC scope cells C X.env) (compPost Ē X.A X.xe use Q (.ref l) C) { s3 with heap:=h4 }:=by
  show b3P (λn s'=>∃ i σ' H',Inv Ĩ [] σ' H' s'/\tn i s'.heap/\(∀ b∈fp,H' b=none)/\W i n σ' H') ?_ m0 #[(0),_,_,I4,tn4,fr0,w0];rintro n s5 ⟨i,σ5,H5,I5,st5,fr5,w5⟩;rcases turn i n σ5 H5 w5 with⟨stop,qn⟩|⟨go,step⟩
  ·show M8 (T.done Ĩ rfl rfl rfl (hc ą _) i [] s5 σ5 H5 Z0 I5 (stat fr5) st5 stop) λr s6 gR=>?_;let#[hr,I6]:=gR;subst hr;let un:Un (Rc X.stack) fp Į H5 s3.heap s6.heap:=I6.base;let J6:Inv X ñ σ H5 s6:=I3.SD (ch:=fp) I6.os un I6.LJ I6.bare λb hb=>#[(f2 b hb).2.2.2.1,(f2 b hb).2.1,(f2 b hb).2.2.2.2.1,(f2 b hb).2.2.2.2.2]
   let#[m6,n6,_]:=I6.loc;let hCX:@Ne Nat C X.env.locals:=by
    let h1:@LT.lt Nat _ X.env.locals s3.heap.objs.size:=I3.lt
    lia
   let hCs:@LE.le Nat _ X.s₀.heap.objs.size C:=by let:=I3.sz;lia
   show fin l C s6 H5 J6 #[#[I6.free,hCX,λz=>?_,.inr hCs,λx c e z=>?_,λp hp z=>?_],hCs,m6,n6] qn
   ·let:=I3.Wf (a:=C)<|Kt hC;show this z
   ·let#[v,iz]:=I3.cell x c e;let h1:@LT.lt Nat _ c s3.heap.objs.size:=iz.lt;let h2:@Eq Nat c C:=z
    lia
   ·let h1:@LT.lt Nat _ p.1 s3.heap.objs.size:=HD (I3.pin p hp).1;let h2:@Eq Nat p.1 C:=z
    lia
  ·show M8 (T.item Ĩ rfl rfl rfl (hc ą _) i [] s5 σ5 H5 Z0 I5 (stat fr5) st5 go) λr s6 gR=>?_;let#[u,hr,h6]:=gR;subst hr;show M8 h6 λ_ s7 gR=>?_;let#[x,H7,I7,r7,y7,st7,fr7]:=gR;show M8 (hg cells C s3 Į fp _ s7 σ5 H7 x u _ (I7.pinned (stat fr7)<|T.obj _ _ st7) r7<|step x H7 y7) λ_ s8 gR=>?_;let#[σ8,H8,I8,q8]:=gR;let again:∀ {H9:Hp}{s9:Ê},Inv Ĩ ([]++oC fp s7.heap) σ8 H9 s9->tn (i+1) s9.heap/\∀ b∈fp,H9 b=none:=λ{H9 s9} I9=>by show#[T.keep Ĉ st7 λb hb o e=>(I9.pin (b,o)<|Hh _ (Hh _<|gp hb e)).1,λb hb=>?_];let#[o,e,d]:=T.obj ĉ st7 b hb;show (I9.pin (b,o)<|Hh _ (Hh _<|gp hb e)).2.1
   let#[N,NV,hN,hNV,q8]:=q8;show M8 (ht cells C s3 Į fp _ s8 σ8 H8 _ I8 q8) λb s9 gR=>?_;let#[H9,I9,q9]:=gR
   cases b with
   | false=>
    rw[if_neg Ia]at q9 ⊢;let#[m',hm,w9]:=hN _ q9;show#[m',hm,i+1,σ8,H9,I9.Ph,(again I9).1,(again I9).2,w9]
   | true=>
    rw[if_pos rfl]at q9 ⊢;show M8 (he cells C s3 Į fp _ s9 σ8 H9 _ I9 q9) λy s10 gR=>?_;let#[v,H10,I10,r10,q10]:=gR;let#[ys,el,hz,m',hm,w10]:=hNV ĉ q10;show M8 (aH (X:=aJ X scope N' cells C s3 Į fp) _ s10 σ8 H10 (.ref l) [v] (.ref l) [y] (λz H11=>z=.non/\H11=upd H10 l (.lst<|ys++[v])) I10 rfl (.cons r10 .nil) ⟨l,ys,v,rfl,rfl,el,hz,rfl,rfl⟩) λ_ s11 gR=>?_;let#[_,H11,I11,_,_,e11]:=gR;subst e11;show#[m',hm,i+1,σ8,_,I11.Ph,(again I11).1,(again I11).2,w10]
 show codeAny_compStart_list loop (T.self _ 0 Ĉ tn4 loop)
open e
variable {wi:TI}{nT:Nat}{js:À}{g:TG}{tt:TT}{te:TE}
theorem jP (wi:TI)(d1r):TE:=λd92=>wi σ H (gB nT js g tt te σ λl H'=>Q qE H')
def b6r (c7U)(hs):e33 uW:=by ext d2c;show xN hc S hi hg ht he I h (λl C s' H' I' gR q=>?_) hs;let#[f,_,m,n]:=gR;show#[m,n,λh' sb=>#[.ref l,H',?_,1,q]];show I'.turned Ŝ f.1 f.2.1 f.2.2.2.1 f.2.2.2.2.1 f.2.2.2.2.2
def dZ (c8T)(hs):e33 uW:=b6r c1e S hi hg ht he hs
def b4d (c8E)(c7U)(hsw)(hs):PS X b3d (mH uW lW):=by
 ext d2l;rw[exec_Assign_Name_used ą hsw];show GQ<|JT (GQ ?_);show GQ<|IC (xN hc S hi hg ht he I h (λl C s' H' I' gR q=>?_) hs) (λ_ s' hq=>Hg<|Hg hq) λ_ _ e=>e;let#[f,sz,m,n]:=gR;show wpAny_assign_Name<|a24 I' hN U9 (.inl hx) (v:=.ref l) rfl (λV9 I'' gR=>?_) (.inr hx);let#[a,sb,ha]:=gR;let hCa:C≠a:=by
  rcases ha with rfl|ha
  ·show f.2.1
  ·show λz=>f.2.2.2.2.1 x a ha z.symm
 show#[m,n.sameBut sb hCa,λh' sb'=>#[_,H',?_,q]];show I''.turned (λe3o e=>(sb'.2 b hb).trans e) f.1 f.2.1 f.2.2.2.1 f.2.2.2.2.1 f.2.2.2.2.2
def aW (c8E)(c8T)(hsw)(hs):PS X b3d (mH uW lW):=b4d hN U9 hx c1e S hi hg ht he hsw hs
open e
def b2u {K:Ψ}(Pv:Addr->Nat->Ù)(h0:∀ l,H1 l=none->Pv l 0 b9b)(hl:∀ l i H,i<=xs.length->Pv l i H->e0W xs)(hs:∀ l i x H,xs[i]?=!x->Pv l i H->tt b1R H λb H4=>
   if b=true then te b1R H4 λv H5=>∃ ys,H5 l=!.lst ys/\ys.length<sizeLine/\Pv l (i+1) b4G else Pv l (i+1) H4)(hd:∀ l H,Pv l xs.length H->F l H):gB 1 js (c6 0) tt te σ F xI H1:=by
 intro l hl0;show#[λi m σ' H=>m=xs.length - i/\i<=xs.length/\(∃ o,σ'=o::js.map λj=>(σ[j]?).join)/\Pv l i H,#[xs.length,ST,h0 l hl0],?_];rintro i m σ' H ⟨rfl,hi,⟨o,rfl⟩,p⟩;let q:=hl l i H hi p;by_cases NI:i<xs.length
 ·show .inr #[v6,λx H2 y=>?_];let#[e,y]:=y;subst e;show#[Pv l<|i+1,λv H5=>∃ ys,H5 l=!.lst ys/\ys.length<sizeLine/\Pv l (i+1) _,λH4 p4=>#[c4G,p4],
   λv H5 gR=>(by let#[ys,VV,p5]:=gR;show#[ys,VV,c4G,p5]),hs l i x _ (y xs q) p]
 ·let e:i=xs.length:=#[]
  subst e;show .inl #[#[xs,q,Hi _],hd l H p]
variable {X:Cx}
def c5A:Ms X Fh (λe1y=>∃ x t T b,xs=[x,.ty T]/\kT X.K H x t/\W.kitOne X.K t jk=!b/\Q oJ H):=by
 ext d2j;let#[x,t,T,b,1,ty,e,q]:=h;let#[u,w',1,r1,r2]:=Cj r
 cases r2;show a8L I r1 ty e λtk=>#[.bl b,H,I.tok tk,1,q]
def bT:bootBuiltins "isinstance"=!.builtin "isinstance":=by decide +kernel
def c2J:bootBuiltins "sum"=!.builtin "sum":=by decide +kernel
def C4 (hc):Ms X (.builtin "sum") (λe1y=>∃ (p:Addr)(ns:Ξ),xs=lS/\LS X.K H p Ķ/\Q Dz H):=by
 ext d2j;let#[p,ns,1,hq,q]:=h;let#[u,1,r1]:=dJ r
 ext d4q;let hi:=c5Z rv;ext d7i;let hl':=hx▸pl.isList;show sum_intListG ļ hl' λe2Z t' hk=>?_;let e1:ns=xs.toList.map (·.1):=by rw[<- nums_intItems,<- hx];show (hi.numsOf).symm
 let e2:preSum oy xs.size=ns.sum:=by rw[preSum_eq,IZ<|by simp,e1]
 rw[e2];show#[.int ns.sum,H,I.kept hk,#[_,1],q]
structure BI (K:Ψ)(d1p)[DecidableEq α](R:Hp->V->α->Prop)(k:Nat):Prop where
 eq:∀ (X:Cx)(A:Ë)(ñ:ζ)(s:Ê)(σ:St)(H:Hp)(x y:V)(v u:Value)(a b:α),X.K=K->Inv X ñ σ H s->Os x v->Os y u->R H x a->R H y b->A.units+k<cLine->SeqAt.EqAt A s v u (decide (a=b))
 fn:∀ (X:Cx)(ñ:ζ)(s:Ê)(σ:St)(H:Hp)(x:V)(a b:α),X.K=K->Inv X ñ σ H s->R H x a->R H x b->a=b
theorem isI:Hp->V->Int->Prop:=λ_ x n=>x=.int n
def a8D {K:Ψ}:BI K isI 0 where
 eq:=by
  ext d4A
  cases ha
  cases hb;ext d2z;let#[e,ZL]:=HT.Xq A s a t b t';let:e=decide (a=b):=by rw[Jc,h2,L9]
  cbv
 fn:=by
  intro X ñ s σ H x a b _ I ha hb
  cases ha
  cases hb;rfl
def Paired.at:∀ {l₁:List α}{l₂:List β}{i:Nat}{a:α},Paired F l₁ l₂->l₁[i]?=!a->∃ b,l₂[i]?=!b/\F a b:=by
 intro l m i a h
 induction h generalizing i with
 | nil=>intro e;simp at e
 | cons r t ih=>
  intro e
  cases i with
  | zero=>cbv
  | succ i=>show ih AF
def Fc.at' {i:Nat}(r:e0k us)(h:us[i]?=!u):∃ x,xs[i]?=!x/\Os x u:=by
 let hl:=r.length;let hi:=(GS.mp h).1;let e:xs[i]?=some xs[i]:=by simp
 let#[u',ZL]:=r.get e
 cbv
open e
theorem Df (d1C)(sp):Prop:=
 ∃ f fd,mg x=!.ref f/\W.keepIn K Ci=true/\yU K fd ps []/\M9 P w K mg base N5 k f fd ps sp
theorem Dm (c7h)(C)(m:Str)(ps)(sp):Prop:=
 ∃ f fd,Pf K C/\zu K C m f/\yU K fd ps []/\M9 P w K mg base N5 k f fd ps sp
theorem Dk (c7h)(x)(C)(ps)(sp):Prop:=
 ∃ f fd,mg x=!.ref C/\Mk K C f/\yU K fd ps []/\M9 P w K mg base N5 k f fd ps sp
def aO (D:e0T sp)(c9C):
  PE X ę (zI sp [] E0 t):=by
 let#[kQ,hm,kp,b,F]:=D;show b2s F hr hg hm kp b .nil m5 ha OO he Oi
def bd (c8o)(ha)(RK)(Oi)(ht:e8i X.env=(do
   let ov <- eval o X.env
   standAt apos.atName
   let (f,first) <- holding [ov] ő
   callWith pos f first (e0n Ň) Ĥ):=ă):
  PE X ZU (jO C m sp [] E0 ta t):=by
 let#[Er]:=D;show b1c he cl hm F hr b .nil m5 ha RK Oi ht
def i7 (c8P)(ha)(c7x):
  PE X ę (zG C sp [] E0 t):=by
 let#[kQ,hm,M,b,F]:=D;show b04 M F hr hg hm b .nil m5 ha OO he Oi
theorem Nc (c9r):Prop:=∃ f fd,e2S x=!some Ci/\OT K x ğ st f fd
def b4D (c92){kV:Value}(a)(d0L):Nc K x ğ st:=#[f,_,a,pO l c k]
theorem QU (K)(C)(m ğ:Str)(st):Prop:=∃ f fd,zu K C m f/\OT K m ğ st f fd
def c4C (c92){kV:Value}(d0g)(l:K.lookup f=some #[oc,od,.func (d9m m Lz),Nv])(c)(c8y):QU K C m ğ st:=#[f,_,#[a,i,k],pO l c k]
def aZ (e:f' H H2)(h:H2 T=Option.none):f' H (e6P T o):=λb u hb=>by rw[aa<|aj (e b u hb) h];show e b u hb
def bg (e:f' H H2)(h:H T=Option.none):f' H (e6P T o):=λb u hb=>by rw[aa<|aj hb h];show e b u hb
def Paired.Qr (d11)(h:F a b):Paired F (l₁++[a]) (l₂++[b]):=Paired.snoc r h
def uy {xs:Ξ}{i:Nat}(h:(xs.map V.int)[i]?=!x):∃ a,xs[i]?=!a/\x=.int a:=by
 rw[Hf]at h
 cases e:xs[i]? with
 | none=>rw[e]at h;cases h
 | some z=>cbv
variable {js:À}{σ:St}
abbrev a5B (σ:St)(js:À):St:=js.map λj=>(σ[j]?).join
open e
variable (K:Ψ)
def gu (h):W5 X (i5 K):=h▸c4m
def z4 (h):W5 X (CQ K):=h▸b4F
def qT (c8R)(h):e07 l (Zg K tl):=h▸zT hl
def a0x (d02)(h)(c7m):
  PI X Œ qh (a4d K ta):=h▸D4 hg hm ha hs U5
def bX (hc)(hh:Fk X es t)(h)(c7H):PG X c07 (z7 K n t):=h▸a0y hc hh hn RK
def a33 (h):e5U b6q:=h▸b2P
def DV (h):Ms X Fh (λe1y=>∃ x t T b,xs=[x,.ty T]/\kT K H x t/\W.kitOne K t jk=!b/\Q oJ H):=h▸c5A
def xj (c8x)(h):PE X Za (a3g K ta f):=h▸Da he hb
def a32 (h):e7I (λe1y=>∃ p ys,xs=lS/\(e8k ys\/NC K H p ys)/\∀ l,H l=none->Q qE GB):=h▸c3Y
def b0z (c90)(c7q)(h)(OG)(Pq):PE X b87 (a0d K T r to):=h▸a0C pa slot Yh hm ho OG Pq
def Rj (c90)(c7q)(ha)(h)(OG)(a1t:((e9Y Ň).all Cu&&(backToKw MB Ī).all EI
   && decide b6S)=true:=ă)(c80):
  PE X b72 (tBM K T r to t):=h▸a3E pa slot Yh hm ho ha OG a1t Pq hs O6
open e
inductive a3f (c:TT)(t u:TS)(D:Ends)(c7s):∀ J:Υ,(∀ σ' H',J σ' H'->D.nx σ' H')->(c σ H λb H1=>if b=true then t { D with nx:=J } σ H1 else u { D with nx:=J } σ H1)
def jg (c9A):PS X zh (a3f tc t u):=by
 ext d2l;let#[J,hJ,h]:=h;show M8 (fm hc ha hb ñ s σ H { D with nx:=J } I h) λf s1 q=>?_
 cases f with
 | next=>ext d5y;show#[GD,I',hJ ĉ q]
 | brk=>show q
 | cont=>show q
 | ret v=>show q
variable {t:TA}
theorem NX (H)(o:HO)(Q):Prop:=∀ p H2,f' H H2->H p=none->H2 p=!o->Q oW H2
def NX.at (h:NX H o Q)(hp:H p=none):Q oW (d8U p o):=h p _ (aZ Ě hp) hp ai
theorem zF (t:TA):TE:=λd92=>t σ H λxs H1=>xs.length<=sizeLine/\NX H1 (.tup xs) Q
theorem a3e (t:TA):TE:=λd92=>t σ H λxs H1=>xs.length<=sizeLine/\NX H1 Cy Q
def c8 {x1}(h:e5R t):PE X c0m (zF t):=by intro ñ s σ H Q I hq;show wpAny_Tuple_spliced<|M8 (e7J hq) fun us s1 ⟨xs,H1,I1,r,z,q⟩=>#[by rw[<- r.length];show z,?_];ext d2C;show#[z,us,r,#[kE,gQ]]
def cP (h:e5R t):e7K (a3e t):=by intro ñ s σ H Q I hq;show wpAny_List_spliced<|M8 (e7J hq) fun us s1 ⟨xs,H1,I1,r,z,q⟩=>#[by rw[<- r.length];show z,?_];ext d2C;show#[z,us,(0),r,Hw _ rfl]
def NP.imp (h:e9R r)(k:∀ x y H Q,r' x y H Q->r x y H Q):e9R r':=λe1l x y v u Q I rx ry q=>e0j x y v u Q I rx ry (k ą q)
def yH.imp (h:yH X r)(k:∀ x l u H Q,r' x l u H Q->r x l u H Q):yH X r':=λe1l x v vl vu lo hi sl Q I rx hs pl pu q=>e0j x v vl vu lo hi sl Q I rx hs pl pu (k ą _ q)
def Ms.imp (h:e9X r)(k:∀ xs H Q,r' xs H Q->r xs H Q):e9X r':=λe1l xs us Q I rx q=>e0j xs us Q I rx UV
inductive CS (c7b):∀ l b xs zs,x=.ref l->y=.ref b->H l=!.lst xs->H b=!.lst zs->xs.length+zs.length<=sizeLine->NX H (.lst (xs++zs)) Q
def b30:e8h CS:=a0E.imp λd9V gR=>by let#[l,b,xs,zs,AS,h5,q]:=gR;show#[l,b,xs,zs,AS,h5,λ_ hp=>q.at hp]
inductive YS (c9N):∀ a xs,x=.ref a->LS K H a xs->NX H b86 Q
def Fb (K)(h):yH X (YS K):=by subst h;show b8q.imp λd94 gR=>by let#[a,xs,ZL,q]:=gR;show#[a,xs,c6E]
def listS (K)(h):e7I a8T:=
 (a32 K h).imp λe05 gR=>by let#[p,ys,ZL,q]:=gR;show#[p,ys,c6E]
open e
def E3 (hr:LL k A)(h:n<=64:=ö):A.units+n<cLine:=JK (Nat.add_le_add_left h _) hr.units
theorem ay (l:Addr)(H):Hp:=λb=>if b=l then none else H b
def aA (h:b≠l):ay l H b=H b:=if_neg h
def LC:f' (ay l H) H:=λb o h=>by
 grind [ay,aA]
def aR (e):f' (ay l H) (ay l H'):=λb o h=>by
 by_cases q:b=l
 ·grind [ay]
 ·rw[aA q]at h ⊢;show e ĉ h
def du:ay l (d8U l o)=ay l H:=by
 funext b;by_cases q:b=l
 ·rw[ay,ay,if_pos q,if_pos q]
 ·rw[aA q,aA q,aa q]
def rM (e)(h:H l=none):f' H (ay l H'):=λe3o=>by rw[aA<|aj hb h];show e ĉ hb
theorem QV (P)(w):VC:=λouter H s E e s'=>∃ (ea:Addr)(cls a0:Value)(B:Heap)(H':Hp)(od:ψ),e=.ref ea/\s'.os=s.os/\AllBare s'.gens/\Un (Rc outer) [] H H' s.heap s'.heap/\P9 P w H' s'.heap/\H' ea=none/\s.heap.get? ea=none/\
 Heap.FlyingW B outer ea cls a0 s'.heap/\(∀ b o,s'.heap.get? b=!o->b∉Rc outer->B.get? b=none->s.heap.get? b=none/\H' b=none)/\E cls od H'
def P9.gone (c8Q)(n:h.get? a=none):H a=none:=by
 cases q:H a with
 | none=>rfl
 | some v=>
  let#[o,e]:=fA<|x a v q;rw[n]at e;cases e
def Inv.was (I)(nx:b∉X.ex)(n:s.heap.get? b=none):X.s₀.heap.get? b=none:=by
 cases q:X.s₀.heap.get? b with
 | none=>rfl
 | some o=>
  let#[o',e]:=e29 o q nx;rw[n]at e;cases e
def a9b {B:Heap}(u:Un fs [] H H' h h1)(LJ:e6I H' h1)(hB1:B.StaysIn h1)(hB2)(up:h1.UpToSlots h2)(hfr:∀ b∈fs,∃ o,h1.get? b=!o/\∀ vs,o.data≠.fields vs)(XW:∀ b∈fs,H' b=none)(old:∀ b o,h1.get? b=!o->b∉fs->B.get? b=none->h.get? b=none/\H' b=none):
  Un fs [] H H' h h2/\P9 P w H' h2/\∀ b o,h2.get? b=!o->b∉fs->B.get? b=none->h.get? b=none/\H' b=none:=by
 let in1:∀ b o,h1.get? b=!o->b∉fs->(h.get? b≠none\/H' b≠none)->h2.get? b=!o:=λe0z hb hn=>by
  cases q:B.get? b with
  | none=>
   cbv
  | some o2=>
   ext d7y
   ext d4M;show hB2 b _ q
 let slots:∀ b o,h1.get? b=!o->b∈fs->∃ sl,h2.get? b=!{ o with slots:=sl }:=λe0z hb=>by
  let#[o',e',hd]:=hfr b hb;rw[e]at e'
  ext d8s
 show#[#[λe1A=>?_,λe1A=>?_,u.free,λe0z hx=>?_,u.Qp,u.Rb,u.RF],c46]
 ·show in1 b o (e5a hb hx) hb b9B
 ·let#[sl,e1]:=f09 hb hx;ext d43
 ·let#[o',e1]:=e6K o e hx;by_cases hb:b∈fs
  ·ext d5i
  ·show#[o',in1 b o' e1 hb c11]
 ·show (LJ a v e).N0 b0N EF λe42=>q
  ·grind
  ·grind
 ·cases q:h.get? b with
  | none=>rfl
  | some o'=>
   let#[o2,e2]:=e6K o' q ė
   cbv
 ·cases q:H' b with
  | none=>rfl
  | some v=>
   let#[o2,e2]:=fA (LJ b v q)
   cbv
structure vm (X:Cx):Prop where
 VE:X.stack=X.env::X.outer
 frm:X.env.frame=!X.env.locals
 exs:X.ex=[]
def vm.Rc (O:vm X):L2.Rc X.stack=X.env.locals::X.fs:=by rw[O.VE];ext1 L2.Rc;rw[Ki,O.frm];rfl
def c4F {B:Heap}(O:vm X)(I)(hB1:B.StaysIn s.heap)(hB2)(up:s.heap.UpToSlots h2)(old:∀ b o,s.heap.get? b=!o->b∉Rc X.stack->B.get? b=none->X.s₀.heap.get? b=none/\H b=none):
  Un X.fs [] X.H₀ H X.s₀.heap h2/\P9 X.prog X.w H h2/\∀ b o,h2.get? b=!o->b∉X.fs->B.get? b=none->X.s₀.heap.get? b=none/\H b=none:=by
 ext d2Y;let WY:∀ b,b≠X.env.locals->b∉X.fs->b∉Rc X.stack:=λb e12 z=>by
  rw[O.Rc]at z
  cbv
 let in1:∀ b o,s.heap.get? b=!o->b∉Rc X.stack->(X.s₀.heap.get? b≠none\/H b≠none)->h2.get? b=!o:=λe0z hb hn=>by
  cases q:B.get? b with
  | none=>
   cbv
  | some o2=>
   ext d7y
   ext d4M;show hB2 b _ q
 let slots:∀ b o,s.heap.get? b=!o->b∈X.fs->∃ sl,h2.get? b=!{ o with slots:=sl }:=λe0z hb=>by
  let#[_,o',e',hd]:=I.Qa.mem hb;rw[e]at e'
  ext d8s
 let nx:∀ b,b∉X.ex:=λb=>by rw[O.exs];simp
 show#[#[λe1A=>?_,λe1A=>?_,λe0z n hx=>e3t o e n<|nx b,λe0z hx=>?_,I.base.Qp,I.base.Rb,I.base.RF],c46]
 ·show in1 b o (e2H e n hb<|nx b) (WY b uY hb) b9B
 ·let#[sl,e1]:=e3d hb<|nx b;ext d43
 ·let#[o',e1]:=e29 o e<|nx b;by_cases hb:b∈X.fs
  ·ext d5i
  ·show#[o',in1 b o' e1 (WY b uY hb) c11]
 ·show (e5V e).N0 b0N EF λe42=>q
  ·let:=I.PN c z
   grind
  ·grind
 ·cases q:X.s₀.heap.get? b with
  | none=>rfl
  | some o'=>
   let#[o2,e2]:=e29 o' q (nx b)
   grind
 ·cases q:H b with
  | none=>rfl
  | some v=>
   let#[o2,e2]:=fA<|e8d v q;let nf:b∉Rc X.stack:=λz=>by rw[I.PN b z]at q;cases q
   cbv
def b8c (O:vm X)(I)(he:s.heap.get? ea=!oe)(hd:oe.data=.fields vs)(h0:vs[0]?=!a0)(h1:vs[1]?=!.none)(hH:H ea=none)(hs0:X.s₀.heap.get? ea=none)(h:E oe.cls oe.dict H):
  wpAny Ē X.A (leaving X.env w8) (d88 w8) E2 s:=by
 let hl:s.heap.FunFrames (W.hideAll s.heap<|ea::Rc X.stack) X.stack:=W.funFrames_hide I.stack λenv he e3b=>Hk _<|List.mem_filterMap.mpr #[env,he,hb];let hB1:(W.hideAll s.heap<|ea::Rc X.stack).StaysIn s.heap:=λe44=>f08 q;let hB:(W.hideAll s.heap<|ea::Rc X.stack).get? ea=none:=W.hideAll_none _<|Ha ..;show wpAny_leaving_firstW (by rw[I.ok.frames,O.VE]) (by rw[O.VE]at hl ⊢;show hl) O.frm he hB1 hB hd h1 h0 λW2 gR=>?_;let#[k1,#[_,_,k2],k3,k4]:=gR;let#[u,LJ,old]:=c4F O I hB1 k1 k4 (λe0z hb hBb=>by
  by_cases Yo:b=ea
  ·rw[Yo];show#[hs0,hH]
  ·rw[W.hideAll_get _ e λz=>(Hr.mp z).elim Yo hb]at hBb;cases hBb)
 show#[ea,_,a0,_,H,_,1,I.os,I.bare,u,LJ,hH,hs0,#[k1,hB,k2,k3],old,h]
def a4U (O:vm X)(I:d9X Hc s)(h:e6Q Hc s E e s'):
  wpAny Ē X.A (leaving X.env e) (d88 e) E2 s':=by
 let#[ea,c4b,hE]:=h;let I1:=I.SD os u LJ bare λb z=>e5W ė;let none_of:∀ b,s.heap.get? b=none->X.s₀.heap.get? b=none:=λb=>I.was (by rw[O.exs];simp);show wpAny_leaves_onW (by rw[I.ok.frames,O.VE]) O.frm (O.VE▸fl) λW2 fl2 up=>?_;let#[u2,a9a,a8e]:=c4F O I1 fl.1 fl2.1 up (λe0z hb hB=>let ⟨z1,z2⟩:=old b o e hb hB;#[none_of b z1,z2]);show#[ea,cls,a0,B,H',od,1,I1.os,I1.bare,u2,a9a,VY,none_of ea hsc,fl2,a8e,hE]
theorem b1t (X)(c9c):Prop:=∀ (ñ:ζ)(σ:St)(H:Hp)(s:Ê)(e:Value)(s':Ê),d9X H s->e6Q H s (W σ) e s'->X.xe e s'
theorem b8T (X)(c9c):Prop:=∀ (ñ:ζ)(σ:St)(H:Hp)(s:Ê)(ea:Addr)(oe:Obj)(vs:Ó)(a0:Value),d9X H s->s.heap.get? ea=!oe->oe.data=.fields vs->vs[0]?=!a0->vs[1]?=!.none->H ea=none->X.s₀.heap.get? ea=none->W σ oe.cls oe.dict H->X.xe w8 s
variable {K:Ψ}
def nq:vm a6Q:=#[3]
def a0G:b1t a57 tT:=λñ σ Hc sc e s' I h=>a4U nq I h
def b65:b8T a57 tT:=λñ σ Hc sc ea oe vs a0 I he hd h0 h1 hH hs h=>b8c nq I he hd h0 h1 hH hs h
def OT.okX (c8i)(len)(O7:∀ (Lz:Value)(A:Ë)(outer:List Env)(s:Ê)(H:Hp)(vs:π)(Q:VK)(E:XK),LL k ĕ->e09 E->
   ∃ t,Q2 Ļ yG t/\t { nx:=λ_ H'=>e2y H',rt:=Q } Ų H):e1u sp:=by
 ext d6T;ext d3e
open e
theorem DfX (d1C)(sp):Prop:=
 ∃ f fd,mg x=!.ref f/\W.keepIn K Ci=true/\yU K fd ps []/\M9 P w K mg base fQ k f fd ps sp
variable {sp:Sp}{t:TA}{W:St->XK}
theorem Se (sp)(c9c)(t:TA):TE:=λd92=>t σ H λe43=>sp vs H1 Q (W σ)
def a6C (c8g)(hb:yU X.K fd ps [])(d1P)(c9q)(h:e09 (W σ)):e4W s:=by
 let hl:(us++[]).length=ps.length:=by rw[HF,<- r.length];ext d6v
 let QT:=hb s us I.Oy hl;rw[HF]at QT;show KD (d8P us vs _ QT r)
 cases r with
 | error e=>ext d4G
 | ok fl=>
  cases fl with
  | ret u=>show I.after hq
  | next=>ext d2T
  | brk=>ext d2T
  | cont=>ext d2T
def a5e (d1P)(D:DfX X.prog X.w X.K X.mg X.base k x ps sp)(c9C):
  PE X ę (Se sp W t):=by
 let#[kQ,hm,hk,hb,F]:=D;ext d2D;show a6C F hr hb hx I1 r q
open e
abbrev wF:θ:=[.type "ValueError",.type "Exception",.type "BaseException",.type "object"]
theorem a2Z (us):Obj:={ cls:=.type "tuple",data:=.seq us.toArray }
theorem Gq (C t:Addr):Obj:={ cls:=.ref C,data:=.fields [.ref t,.none,.none,.none,.bool false,.none].toArray }
theorem a7N (c8v)(C)(us):Heap:=(h.push (a2Z us)).push (Gq C h.objs.size)
def fZ:∀ b o,h.get? b=!o->(e91 us).get? b=!o:=λ_ _ e=>GW _ (GW _ e)
def QXs:(e91 us).get? (h.objs.size+1)=!Gq C h.objs.size:=by
 ext1 a7N Gq a2Z
 heap_get
def b6f:Heap.MadeExcOf h (e91 us) (h.objs.size+1) x6 us:=
 #[fZ,Heap.get?_none_of_le<|Nat.le_succ _,h.objs.size,QXs,Heap.get?_none_of_le<|Hi _,GW _ b4I]
variable {fI:Addr}
def qF (c7g)(k:∀ h' e,e2a e x6 us->e8j A b3X (λr s'=>r=.none/\Q (.done (.ret mL)) s') E { s with heap:=h' }):
  wpAny Ů A (Builtin.«type.__call__» c12) Q E s:=by
 let#[h,Be]:=s;repeat (first|with_reducible show wpAny_madeBy_exc hC ?_|with_reducible show Kr hC ?_|wp_step)
 show codeAny_call_builtin_code (JN _ F.quiet) (wpAny_check_new_subT F T hC (codeAny_exc_new_subT F T hC ?_ hz));change wpAny ą _ #[e91 us,Be];let hC':=fZ (C:=C) (us:=us) C _ hC;let hme:(Value.ref C::tl).contains x6=true:=by simp
 let hN':(e91 us).Ns N mN:=by let#[Pk,e,r]:=hN;show#[Pk,fZ ĉ e,r]
 let hx:=QXs (h:=h) (C:=C) (us:=us);unfold Gq at hx;repeat (first|(with_reducible show wpAny_isSubtype_exc hC' ?_;rw[hme])|with_reducible show Kr hx ?_|wp_step)
 show wpAny_typeLookup_tail hC' hN' (T.keeps fZ) F.mroIs F.init.lookup ?_;rw[hI];show Ip (GQ ?_);show GQ (L7 #[_,fZ ĉ hf,hfc] ?_);show Hg<|GQ (IC (k _ _ b6f) (λr s' hr=>?_) λe9H=>x);let#[1,hQ]:=hr
 wp_walk
 show hQ
def Ll2 (c7g)(k:∀ h' e,e2a e x6 us->e8j (d9q c12) b3X (λr s'=>r=.none/\Q mL s') E { s with heap:=h' }):
  wpAny Ů A (call x6 us) Q E s:=by
 let f1:=tc_lookup;let f2:=tc_bind<|.ref C;let#[h,Be]:=s;show KD (codeAny_of_tree ?_);repeat (any_goals (first|with_reducible show Kr hC ?_|assumption|wp_step))
 show#[1,codeAny_call_builtin_at (JN _<|by decide +kernel) entry_typeCall<|wpAny_check_type_call_sub hC (qF F T hC hN hI hf hfc hz λh' e mk=>k h' e mk)]
open e
open PySem.Calls PySem.W
open PySem.Builtin PySem.Builtin.ObjectAttr
theorem tZ:List Value->Bool
 | []=>false
 | .ref _::r=>tZ r
 | v::r=>(v::r)==wF
def b6R (h:(l==wF)=true):l=wF:=JJ.mp h
instance lg (self:Value):∀ (l:θ),tZ l=true->refuseLoop self "__setattr__" l=pure ():=by
 intro r'
 induction r' with
 | nil=>
  intro e
  cases e
 | cons v r ih'=>
  intro e
  cases v
  case ref c=>rw[refuseLoop_ref];show ih' e
  all_goals
   let e':=b6R e;rw[e'];show F.store_ValueError.passes self
instance yc:∀ (l:θ),tZ l=true->l.contains (.type "object")=true:=by
 intro r'
 induction r' with
 | nil=>
  intro e
  cases e
 | cons v r ih'=>
  intro e
  cases v
  case ref c=>rw[List.contains_cons,ih' e,Bool.or_true]
  all_goals
   let e':=b6R e;rw[e'];decide
theorem kF (K:Frag)(C):Bool:=(clsIn K C).any λcd=>tZ cd.mro
def FF (c8e)(Wn:ox.dict=none)(c8h)(h:∀ h' WM,h'.get? x=!{ ox with dict:=some s.heap.objs.size }->h'.Ns1 s.heap.objs.size (λy=>if y=name then some v else none)->(∀ b o,b≠x->s.heap.get? b=!o->h'.get? b=!o)->R tJ { s with heap:=h',toks:=WM }):
  codeAny ē A b0l R s:=by
 ext d7z;let I:InstAt s.heap x ox C none:=#[hx,RW,by ext1 notCls;rw[R7],by rw[Wn];trivial]
 ext d7R;let ne:cd.mro.isEmpty=false:=by cases q:cd.mro with|nil=>rw[q]at ho;cases ho|cons _ _=>rfl
 let sub:e2J (isInstance qe<|.type "object") true:=I.type.andThen<|looks_mroIn X (by ext1 mroIn;rw[hc,Option.bind_some,if_neg (by rw[ne];decide),yc _ ho]);show codeAny_call_builtin SF.slot.plain SF.entry (@check_slot ē ĉ s "object.__setattr__" "object" "__setattr__" qe c13 [] _ SF.kind SF.split sub (SF.args qe (e92 tk) v) ?_);ext d2E;let L3:e2J c0r none:=by
  cases attr with
  | none=>show .now
  | some a=>
   ext d3V
   cases b with
   | true=>cases e
   | false=>show .now
 ext d2U;let#[U6,Be]:=s;let#[ZA]:=ox;dsimp only at RW R7 Wn;ext d5N;let hx₁:(U6.push { cls:=.type "dict",data:=.dict [].toArray }).get? x=!{ cls:=.ref C,data:=.fields vs,slots:=Nv }:=GW _ hx;let hxs:x≠U6.objs.size:=HY<|HD hx;show GQ (wpAny_alloc' ?_);show GQ (wpAny_update' hx₁ ?_);ext d6S;let hgd:((U6.push { cls:=.type "dict",data:=.dict [].toArray }).update x λo=>{ cls:=o.cls,dict:=!U6.objs.size,data:=o.data,slots:=o.slots }).get? U6.objs.size
   = !{ cls:=.type "dict",data:=.dict [].toArray }:=
  (L6 ą hxs.symm).trans b4I
 let Zj:((U6.push { cls:=.type "dict",data:=.dict [].toArray }).update x λo=>{ cls:=o.cls,dict:=!U6.objs.size,data:=o.data,slots:=o.slots }).Ns U6.objs.size (λ_=>none):=
  #[_,[].toArray,_,hgd,1,λe he=>absurd he<|by simp,λ_=>rfl]
 change wpAny ĉ (storeInDict U6.objs.size (e92 tk) name v) Ĉ;ext1 storeInDict newKeyGuard;show GQ<|Hg (GQ (wpAny_nsSet1 (Heap.Ns1.of_empty Zj) λh' Vj hs=>?_));let#[BS]:=Vj.count<|Within.cons name v Within.nil;show GQ (e22 (by rw[hdD];show pastItsLine_dict<|HE hcD (by cbv)) ?_);show Hg (h h' _ ?_ Vj λb ob hbx hb=>?_)
 ·show (hs.2 x hxs).trans (JX _ hx₁ rfl)
 ·show (hs.2 b<|HY (HD hb)).trans ((L6 _ _ _ _ hbx).trans<|GW _ hb)
theorem pU (ea C:Addr)(od:ψ)(c8v):Prop:=∃ o vs a0,h.get? ea=!o/\o.cls=.ref C/\o.data=.fields vs/\vs[0]?=!a0/\vs[1]?=!.none/\o.dict=od
theorem BT (ea C:Addr):HO:=.ext (pU ea C none)
theorem xk (ea C dx:Addr):HO:=.ext (pU ea C !dx)
def a5U (x:pU ea C od h):f04 ea (.ext (pU ea C od)):=by let#[o,vs,a0,ho,r]:=id x;show#[x,#[o,ho],λe12 gR k=>(by let#[o1,vs1,a1,wH]:=gR;show#[o1,vs1,a1,k o1 q1,q2])]
def bF:ay l H l=none:=if_pos rfl
structure ng (K:Frag)(c7j)(f:Str):Prop where
 sa:findIn K x6 "__setattr__"=!some ĝ
 ov:kF K C=true
 tk:takerIn K C f=!none
 hd:hasDictIn K C=true
variable {X:Cx}{σ:St}{H:Hp}
def cLi (I)(e:H ea=!BT ea C)(T:ng X.K C f)(ry)(h:∀ dx s',H dx=none->dx≠ea->d9X (upd (d8U dx (.xd [(f,y)])) ea (xk ea C dx)) s'->Q () s'):e19 c1g Q E s:=by
 let#[c5w]:=id<|(I.LJ ea _ e).1;let IA:InstAt s.heap ea ox C none:=#[hx,hc,by ext1 notCls;rw[hd],by rw[Wn];trivial]
 show set_plain I.Oy IA T.sa (FF I.Oy hx hc hd Wn T.ov T.tk T.hd λh' WM VT Vj hk=>?_);let dn:=I.LJ.fresh<|Hi _;let ne:=IG<|HD hx;show h s.heap.objs.size _ dn ne (I.SD (ch:=[]) rfl ?_ ?_ I.bare λb z=>absurd z<|by simp)
 ·let old:∀ b,H b≠none->b≠ea->upd (upd H s.heap.objs.size<|.xd [(f,y)]) ea (xk ea C s.heap.objs.size) b=H b:=λe3b Yo=>by rw[aa Yo,aa λz=>hb (by rw[z];show dn)]
  show#[c2V]
  ·show hk b o (λz=>by rw[z,e]at n;cases n) q
  ·show#[o.slots,hk b o (λz=>by rw[z,e]at n;cases n) q]
  ·rw[aa (λz=>by rw[z,e]at n;cases n),aa<|HY (HD q)];show n
  ·by_cases hb:b=ea
   ·rw[hb];show#[_,VT]
   ·show#[o,hk b o hb q]
  ·ext d4I
  ·ext d4I
  ·show#[[].toArray,by rw[old b qf (λz=>by rw[z,e]at q;cases q)];simpa using q]
 ·intro a v q;by_cases ha:a=ea
  ·rw[ha,ai]at q
   cases q;rw[ha];show a5U #[_,vs,a0,VT,hc,hd,h0,h1,1]
  ·rw[aa ha]at q;by_cases hb:a=s.heap.objs.size
   ·rw[hb,ai]at q
    ext d4u
    ·ext d3J
    ·rw[if_neg hg];let:(g==f)=false:=by simpa using hg
     ext d7S;show Js
   ·rw[aa hb]at q;show (e5V q).N0 b1S (λc P5=>?_) λc xs P5=>?_
    ·rcases P5 with P5|P5
     ·show ha (P5▸z2)
     ·rw[z2,e]at P5;cases P5
    ·ext d28
    ·ext d28
inductive b2v (c7j)(c74):∀ ea,x=.ref ea->H2 ea=!BT ea C->(∀ dx,H2 dx=none->dx≠ea->D.nx σ (upd (upd H2 dx (.xd [(f,y)])) ea (xk ea C dx)))
theorem a3p (C)(ta tv:TE)(f):TS:=λe6G=>tv σ H λy H1=>ta σ H1 λx H2=>b2v C f D σ y x H2
def zR (c7e):PS X qV (a3p C ta tv f):=by ext d5M;let#[x,vN,rx,ea,ex,he,q2]:=gR;ext d5z;show cLi I2 he T ry λdx s3 e12 I3=>#[σ,_,I3,q2 dx h1 h2]
def Inv.Y2 (I)(e:H ea=!.ext φ):d9X (ay ea H) s:=by
 let hd:∀ b,b≠ea->ay ea H b=H b:=λe3b=>aA hb;show#[Ck,#[I.base.keep,I.base.slot,λe44 n hx=>?_,I.base.there,λb xs q=>?_,λb o u q=>?_,λb ps q=>?_],I.loc,I.cell,?_,λx c q=>?_,λe79=>?_,λa v q=>?_,I.len]
 ·by_cases hb:b=ea
  ·ext d7A
  ·rw[hd b hb];show I.base.free b o q n hx
 ·let:=e48 q;ext d6b
 ·let:=e7B o u q;ext d6b
 ·let#[more,this]:=e49 q;show#[more,by rw[hd b λz=>by cbv];show this]
 ·by_cases hb:X.env.locals=ea
  ·ext d7A
  ·rw[hd _ hb];show I.free
 ·by_cases hb:c=ea
  ·ext d7A
  ·rw[hd _ hb];show I.Nf x c q
 ·let#[mK]:=e9Q hp;show#[q1,?_,q3];by_cases hb:p.1=ea
  ·ext d7A
  ·rw[hd _ hb];show q2
 ·let ha:a≠ea:=λz=>by rw[z,bF]at q;cases q
  rw[hd a ha]at q;show (e5V q).N0 (λc v' _ z=>z) (λc hc=>?_) λc xs hc=>?_
  ·rw[hd c λz=>by cbv];show hc
  ·rw[hd c λz=>by grind];show hc
open e
theorem zZ (K:Frag)(C f:Addr):Bool:=match K.lookup C with
 | some o=>(match o.data with
  | .cls cd=>o.cls==.type "type"&&cd.mro.head?==some x6&&o.slots.size==6&&o.slots[4]?==some (!.builtin "ValueError.__new__")&&not cd.hasDel&&tailIn K wF cd.mro.tail&&nsOkIn K cd.ns&&nsIn K cd.ns "__init__"==!some Ci
  | _=>false)
 | none=>false
instance yK {K:Frag}(X:K.In h)(G:h.Ns N mg)(e:nsIn K N n=!some v):mg n=!v:=by
 let#[o,es,ep,ho,hd,_,hf]:=G;unfold nsIn at e;split at e
 ·rename_i q;let:=X ĉ q;rw[this]at ho
  cases ho
  cases hd;split at e
  ·rename_i he
   cases e;rw[<- hf];ext1 nsFind findBy
   cbv
  ·cbv
 ·cases e
def b2D {K:Frag}(X:K.In h)(q:zZ K C f=true):
  ∃ bm N nm q bs hdct sn sub ab col dd k0 k1 k2 k3 k5 mN,K.lookup C=!excClassObj nm q C N bs bm hdct sn sub ab col dd k0 k1 k2 k3 k5 "ValueError.__new__"/\h.Ns N mN/\mN "__init__"=!.ref f/\OwnTail h wF bm:=by
 unfold zZ at q
 cases ho:K.lookup C with
 | none=>rw[ho]at q;cases q
 | some o=>
  rw[ho]at q;let#[oc,dd,da,sl]:=o
  cases da with
  | cls cd=>
   ext d5H;let#[#[#[#[#[#[#[1,hm],hz],hs],a4S],ht],LJ],hni]:=q;let#[nm,bs,mro,ns,qn,hd,sn,sub,ab,col,del]:=cd;dsimp only at hm a4S LJ hni ht;subst a4S;obtain⟨bm,rfl⟩:∃ bm,mro=.ref C::bm:=by
    cases mro with
    | nil=>cases hm
    | cons x bm=>cases hm;show#[bm,1]
   let#[l]:=sl;let hz:l.length=6:=hz;let hs:l[4]?=!(some<|.builtin "ValueError.__new__"):=by simpa using hs
   let e:l=[l[0]'#[],l[1]'#[],l[2]'#[],l[3]'#[],l[4]'#[],l[5]'#[]]:=List.ext_getElem hz λi e12=>by
    let:i<6:=by simpa using h2
    rcases i with _|_|_|_|_|_|i<;>first|rfl|lia
   rw[GR<|by lia]at hs;rw[Option.some.inj hs]at e;show#[bm,ns,nm,qn,bs,hd,sn,sub,ab,col,dd,_,_,_,_,_,_,by rw[e],.of_isNs<|isNs_of_in X LJ,yK X (.of_isNs<|isNs_of_in X LJ) hni,tail_of_in X ht]
  | _=>cases q
structure a5V (K:Frag)(C f:Addr):Prop where
 own:zZ K C f=true
 fn:isFn K Ci=true
 kp:keepIn K x6=true
theorem DiX (P)(w)(K:Frag)(mg)(base)(k:Nat)(x)(C)(ps)(sp):Prop:=
 ∃ f fd,mg x=!.ref C/\a5V K C f/\yU K fd ps []/\M9 P w K mg base N5 k f fd ps sp
def a9S {sub:θ}(OG:bm.contains b6U=true)(hh)(h:e1H x (λv s₁=>∃ e oe vs,v=.ref e/\s₁.heap.get? C=!excClassObj nm q C N bs bm hdct sn sub ab col dd k0 k1 k2 k3 k5 newId/\s₁.heap.get? e=!oe/\oe.cls=.ref C/\oe.data=.fields vs/\vs[1]?=!.none/\E mL s₁) E s):
  wpAny M A (raiseStmt env (!x) none) Q E s:=by
 let hcB:(Value.ref C::bm).contains b6U=true:=by rw[List.contains_cons,OG,Bool.or_true]
 show GQ (IC h (λv s₁ h₁=>?_) λe9H=>x);let#[e,oe,vs,1,hC,he,hc,hd,h1,hE]:=h₁;let#[VG]:=s₁;let#[ZA]:=oe;subst hc hd;repeat (first|with_reducible show Kr he ?_|with_reducible show Kr hC ?_|(with_reducible show wpAny_isSubtype_exc hC ?_;rw[hcB])|wp_step)
 rw[h1];ext d6S;show Hg (wpAny_raiseNew_none hh hE)
variable {C:Addr}{sp:Sp}{t:TA}{W:St->XK}
def Inv.a3Z (I)(mk:e2a ea x6 us):d9X (d8U ea (BT ea C)) { s with heap:=h' }:=by
 let hH:=I.LJ.gone mk.new;let#[t,he,htn,ht]:=mk.there;let up:∀ b o,H b=!o->upd H ea (BT ea C) b=!o:=λe44=>by rw[aa<|aj q hH];show q
 show I.SD (s':={ s with heap:=h' }) (ch:=[]) rfl #[λe44 n hb hx=>e6R q,λe44 n hb hx=>#[o.slots,e6R q],λe44 n hx=>?_,λe44 hx=>#[o,e6R q],λb xs q=>up b _ q,λb o u q=>up b _ q,λb ps q=>#[[].toArray,by rw[up b _ q];simp]] (λa v q=>?_) I.bare λb z=>e5W ė
 ·rw[aa (λz=>by rw[z,mk.new]at q;cases q)];show n
 ·by_cases ha:a=ea
  ·rw[ha,ai]at q
   cases q;rw[ha];show a5U #[BY,he,5]
  ·rw[aa ha]at q;show (e5V q).N0 (λc w' _ z=>mk.keeps c w' z) (λc hc=>up c _ hc) λc xs hc=>up c _ hc
theorem EW (c9c)(C)(sp)(t:TA):TS:=λ_ e3i=>t σ H λe43=>vs.length<=sizeLine/\∀ ea,H1 ea=none->
 sp (.ref ea::vs) (upd H1 ea (BT ea C)) (λv H2=>v=.non/\∃ dx,H2 ea=!xk ea C dx/\W σ x6 (!dx) (ay ea H2)) E0
def Bc (d03)(D:e2K sp)(c7I)(ha)(c8Y):
  PS X a83 (EW W C sp t):=by
 let#[kQ,hm,M,hb,F]:=D;intro ñ s σ H D' I h;let#[tl,N,nm,qn,bs,hdct,sn,sub,ab,col,dd,k0,k1,k2,k3,k5,mN,hC,hN,hni,T]:=b2D I.Oy M.own;let a4V:d90 (d8N (.Call (.Name x np) sI [] MB)) (λv s₃=>∃ e oe vs,v=.ref e/\s₃.heap.get? C=!excClassObj nm qn C N bs tl hdct sn sub ab col dd k0 k1 k2 k3 k5 "ValueError.__new__"/\s₃.heap.get? e=!oe/\oe.cls=.ref C/\oe.data=.fields vs/\vs[1]?=!.none/\X.xe mL s₃) X.xe s:=by
  show Iy zr;show callWith_K (h₀:=X.base) I.ok.mod.Yd M.kp (M8 (ha MB ñ s σ H _ I h) fun us s1 ⟨vs,H1,I1,r,hz,q⟩=>#[I1.Oy,?_]) RK Oi;let#[tl1,N1,nm1,qn1,bs1,b2j,sn1,b3Y,ab1,b8d,dd1,l0,l1,l2,l3,l5,mN1,hC1,hN1,a9g,T1]:=b2D I1.Oy M.own;let#[of,hof,a9c]:=HI.mp<|show typeIn X.K (.ref f)=some (.type "function") from JJ.mp M.fn;show Ll2 PySem.F.excBase_ValueError T1 (I1.Oy ĉ hC1) hN1 a9g (I1.Oy ĉ hof) a9c (by change us.length<=sizeLine;rw[<- r.length];show hz) λh' ea mk=>?_;let VY:=I1.LJ.gone mk.new;let hs0:=I1.was (by rw[O.exs];simp) mk.new;let I2:=I1.a3Z mk;let hq:=q ea VY;let r2:Fc (V.ref ea::vs) qg:=e9U r;let hl:(qg++[]).length=ps.length:=by rw[HF];let e:=r2.length;ext d5Y
  let QT:=hb _ qg I2.Oy hl;rw[HF]at QT;show KD (K6 (e7G #[Value.ref ea::us,[]] qg ĉ E0 c1c b85 QT r2 hq) λr s' RV=>?_)
  cases r with
  | error e=>ext d3q
  | ok fl=>
   cases fl with
   | ret u=>
    let#[v,H',I3,rv,ev,dx,hM,hW]:=I2.after RV;subst ev;show#[rv,?_];let#[oe,ws,a0,he,RW,hda,h0,h1,hdi]:=id<|show pU ea C (!dx) s'.heap from (I3.LJ ea _ hM).1;show#[ea,oe,ws,1,I3.Oy ĉ hC,he,RW,hda,h1,hw ñ σ _ s' ea oe ws a0 (I3.Y2 hM) he hda h0 h1 bF hs0 ?_];rw[RW,hdi];show hW
   | next=>ext d3q
   | brk=>ext d3q
   | cont=>ext d3q
 rw[arm_exec_Raise];show GQ (JT<|a9S (C:=C) (nm:=nm) (q:=qn) (N:=N) (bs:=bs) (bm:=tl) (hdct:=hdct) (sn:=sn) (sub:=sub) (ab:=ab) (col:=col) (dd:=dd) (k0:=k0) (k1:=k1) (k2:=k2) (k3:=k3) (k5:=k5) (T.hasType PySem.F.excBase_ValueError.hasBase) ļ (GQ<|IC a4V (λv s₃ h₃=>GQ<|JT (Hg h₃)) λe9H=>x))
open e
abbrev Cx.more (X:Cx)(pn:ζ):Cx:={ X with pn:=X.pn++pn }
theorem Cx.ZQ (X)(pn:ζ)(c9c):Cx:=(X.more pn).RE λe s'=>∃ ñ σ Hc sc,Inv (X.more pn) ñ σ Hc sc/\QV X.prog X.w X.stack Hc sc (W σ) e s'
theorem Cx.Rh (X)(ea:Addr)(pn:ζ):Cx:={ X with A:=X.A.mark !.ref ea,calm:=false,pn:=X.pn++pn,xe:=λ_ _=>False }
def a0F {X:Cx}:b1t oK W:=λñ e3i s e s' I h=>#[ñ,σ,H,s,I.Nj,h]
def Inv.ZT (I):Inv b9D [] σ H s:=
 #[#[c3h,I.ok.hd,c3f],I.os,I.bare,I.base,I.loc,I.cell,I.free,I.Nf,λe79=>I.pin p<|by simpa using hp,I.LJ,I.len]
def Inv.U2 (ok:X.Ok)(I:e93 s):d9X H s:=
 a2I
def Inv.TY {X:Cx}(I:e93 s):Inv (e94 ñ) [] σ H s:=
 #[#[c3h,İ,c3f],I.os,I.bare,I.base,I.loc,I.cell,I.free,I.Nf,
  λe79=>I.pin p<|HG _ (by simpa using (show p∈(X.pn++ñ)++[] from hp)),I.LJ,I.len]
def Inv.RT (ok:X.Ok)(I:Inv (e94 ñ) [] σ H s):d9X H s:=
 a2I
variable {κ:Type}[DecidableEq κ]
theorem cW (d1s):Ç:=(ķ.find? λkv=>decide jh).map (·.2)
theorem eS (d1s)(v):List (κ×V):=
 if FM=true then ķ.map (λkv=>if kv.1=k then Si else kv) else ķ++[(k,v)]
theorem mB (d1s):List (κ×V):=ķ.filter λkv=>decide (kv.1≠k)
def b03 (d0y)(e:p.1=k):cW (p::r) k=!p.2:=by simp[cW,IY,e]
def b09 (d0y)(e:¬ p.1=k):cW (p::r) k=cW r k:=by simp[cW,IY,e]
def b9O (k:κ):∀ ķ:List (κ×V),FM=(cW ķ k).isSome
 | []=>rfl
 | p::r=>by
  rw[KL];ext d6m
  ·simp_all [b03,Bool.true_or,Option.isSome_some]
  ·simp_all [b09,Lr,b9O]
def a8N (d1s)(v):(e95 v).length<=ķ.length+1:=by
 ext1 eS;split
 ·cbv
 ·cbv
def i6 {ķ:List (κ×V)}{k:κ}(v)(h:cW ķ k=none):e95 v=ķ++[(k,v)]:=by
 ext1 eS;rw[b9O,h]
 cbv
def Qb.Ts (r:Qb o u):o.isSome=u.isSome:=by
 cases o with
 | none=>cases u with
  | none=>rfl
  | some _=>ext d8o
 | some _=>cases u with
  | none=>ext d8o
  | some _=>rfl
def KV.val (c8G):Qb (cW ķ k) (valueAt vs k):=by
 induction r with
 | nil=>show Js
 | @cons p q ps qs h t ih=>
  ext d7T;ext d6m
  ·let e':=h1.symm.trans e;let b:e96 k=!q.2:=by simp[valueAt,e']
   rw[b03 e,b];show h2
  ·ext d6c;let b:e96 k=valueAt qs k:=by simp[valueAt,IY,e']
   rw[b09 e,b];show ih
def KV.any (c8G):FM=vs.any λkv=>decide jh:=by
 induction r with
 | nil=>rfl
 | cons h t ih=>cbv
def KV.a7H (c8G)(ry):
  KV (d9B ķ.map y) (d9B vs.map u):=by
 induction r with
 | nil=>show .nil
 | @cons p q ps qs h t ih=>
  show .cons ?_ ih;ext d7T;ext d6m
  ·cbv
  ·cbv
def KV.put (c8G)(ry):KV (e95 y) (stored vs k u):=by
 ext1 eS stored;rw[r.any k];by_cases e:(vs.any λkv=>decide jh)=true
 ·rw[if_pos e,if_pos e];show r.a7H k ry
 ·rw[if_neg e,if_neg e];show Paired.snoc r #[1,ry]
def KV.drop (c8G):KV (mB ķ k) (without vs k):=by
 ext1 mB without
 induction r with
 | nil=>show .nil
 | @cons p q ps qs h t ih=>
  ext d7T;rw[Il,Il];ext d6m
  ·cbv
  ·ext d6c;let a:decide (p.1≠k)=true:=by simp[e]
   let b:decide (q.1≠k)=true:=by simp[e']
   rw[if_pos a,if_pos b];show .cons #[ZL] ih
def KV.length (r:KV ķ vs):ķ.length=vs.length:=Paired.length r
def Eh (d1s):(mB ķ k).length<=ķ.length:=HK ĉ
open e
def kr (r:Os yp u):(aQ P w).is k u=true:=by
 cases k with
 | inl i=>let⟨t,e⟩:=r;subst e;show b71 P w i t
 | inr x=>let⟨t,e⟩:=r;subst e;show c2R P w x t
def a1a (e:kV a=kV b):a=b:=by
 cases a with
 | inl i=>cases b with
  | inl j=>ext d5I
  | inr y=>show nomatch (e)
 | inr x=>cases b with
  | inl j=>show nomatch (e)
  | inr y=>ext d5I
def a2J:∀ {ks:List jr}{us:θ},Fc (ks.map kV) us->ItemsAre mY ks us:=by
 intro r'
 induction r' with
 | nil=>
  intro _ r;rw[J0]at r;cases r;show .nil
 | cons k ks ih'=>
  intro _ r;rw[Hu]at r
  cases r with
  | cons h t=>show .cons (kr h) (ih' t)
abbrev KT (H:Hp):List vB->List DG->Prop:=Paired λp q=>p.1=q.1/\H q.2.1=!.tup (p.1.map kV)/\Os p.2 q.2.2
def YR (c8I)(e:e6J u):f04 a u:=e.ok ok
def sM (c8I)(e:e6J Ax):ķ.length<=sizeLine/\(a==sysModules)=false/\∃ vs,KV ķ vs/\h.DictOf mY a vs:=
 YR ok e
def Ei (c8I)(c93):ķ.length<=sizeLine/\(a==sysModules)=false/\∃ vs,KV ķ vs/\h.DictOf mY a vs:=sM ok (.inl e)
def a07 (c8I)(e:H a=!.tup (ks.map kV)):(tupleKind mY).is h ks a:=by
 let#[_,its,r,o,ZL,n,h3]:=(ok a _ e)
 show#[o,its.toArray,n,Lf,by simpa using a2J r]
def a5x (c8I)(e:e6J (.dT ķ)):ķ.length<=sizeLine/\(a==sysModules)=false/\
  ∃ xs,KT H ķ xs/\h.DictOfH (tupleKind mY) a xs:=by
 let#[z,y,xs,r,Pk,AS,h5]:=(YR ok e)
 show#[z,y,xs,r,Pk,AS,λe0Z=>?_,h5];let all:∀ {l:List vB}{m:List DG},KT H l m->∀ x∈m,(tupleKind<|aQ P w).is h x.1 x.2.1:=by
  intro l m q
  induction q with
  | nil=>cbv
  | @cons p q ps qs hq t ih=>
   intro x hx;rcases Hr.mp hx with e|hx
   ·show a07 ok ě
   ·show ih x hx
 show all r x hx
theorem Q4 (H)(c9h)(y:V)(r:Ç):Prop:=∃ ķ k,e6J Ax/\y=kV k/\r=cW ķ k
theorem Us (H)(c9h)(y v:V)(H':Hp):Prop:=∃ ķ k,H a=!.dK ķ/\y=kV k/\ķ.length<sizeLine/\H'=e9N c1h
def Q4.k {k:jr}(c93):Q4 H a yp (cW ķ k):=#[ķ,k,.inl e,2]
def Us.k {k:jr}(c93)(hl:ķ.length<sizeLine):Us H a yp v (d8U a c1h):=#[ķ,k,e,1,hl,1]
def Inv.big (I):sysModules<s.heap.objs.size:=by let h:=(I.mod.glob.keeps I.bk).lt;show Nat.lt_trans į h
def sN (c8z)(g:Q4 H a y !v)(ry)(h:∀ w' s',d9X H s'->e4m w'->Q w' s'):
  wpAny Ē A (getItem EH u) Q E s:=by
 ext d3W;let#[w',hw,UE]:=Qb.some_of (by rw[l];show rel.val k);show wpAny_getItem_of vY dd.mapOf hw (h w' _ yL UE)
def b0s (c8z)(d1Q)(ry)(h:∀ s',d9X H s'->Q (.bool o.isSome) s'):
  wpAny Ē A (compareOp .In u EH) Q E s:=by
 ext d3W;show wpAny_in_of vY hd dd.mapOf ?_;ext d5A
def a2x (c8z)(d1Q)(ry)(h:∀ s',d9X H s'->Q (.bool (not o.isSome)) s'):
  wpAny Ē A (compareOp .NotIn u EH) Q E s:=by
 ext d3W;show wpAny_notIn_of vY hd dd.mapOf ?_;ext d5A
def a7u (I)(mu:xu (H a))(d0I)(he:∃ q,h'.get? a=!q)(new:e2j (d8U a ob) h' a ob):
  Inv X ñ σ (d8U a ob) { s with heap:=h',toks:=t' }:=
 I.write mu ĵ (λb q hb z=>(hs.2 b hb).trans z) he new
def zd (z:ķ.length<=sizeLine)(hd:(a==sysModules)=false)(rel:KV ķ vs)(dd:h'.DictOf mY a vs):
  LU P w H' h' a Ax:=#[fT]
def c5K (c8z)(g:Us H a y v H')(ry)(rv:e4m r)(h:∀ s',e5J s'->Q () s'):
  wpAny Ē A (setItem EH u r) Q E s:=by
 let#[c5J,1]:=g;let#[fT]:=Ei I.LJ e;let hl:(e95 v).length<=sizeLine:=by grind [a8N]
 show wpAny_setItem_pairs (hsz:=by rw[<- rel.length];show z) vY dd λh' Zu hs=>h _ ?_;let he:∃ q,h'.get? a=!q:=let ⟨q,_,_,hq,_⟩:=Zu;#[q,hq];show a7u I (by rw[e];show Js) hs he (zd hl hd (rel.put k rv) Zu)
def a5z (I)(c93)(ry:Os yp u)(l:cW ķ k=!v)(hm:more=[]\/∃ x,more=[x])(h:∀ w' s',d9X (d8U a (.dK (mB ķ k))) s'->e4m w'->Q w' s'):e19 (call (.builtin "dict.pop") (.ref a::u::more)) Q E s:=by
 let#[fT]:=Ei I.LJ e;let#[w',hw,UE]:=Qb.some_of (by rw[<- l];show rel.val k);let hp:(keyPart u).isSome=true:=by
  cases k with
  | inl i=>ext d7H
  | inr x=>ext d7H
 let ha:argsOk "dict.pop" #[.ref a::u::more,[]]:=by
  rcases hm with q|⟨x,q⟩
  ·subst q;show PySem.F.args_dict_pop_2 ĉ
  ·subst q;show PySem.F.args_dict_pop_3 Ĉ
 show call_meetsIn PySem.F.slot_dict_pop dd.typeIs PySem.F.entry_dict_pop ha (meets_dict_pop_there _ a vY more hm hp)
  #[vs,w',dd,by rw[<- rel.length];show z,hw,λh' Zu hs=>h w' _ ?_ UE]
 let he:∃ q,h'.get? a=!q:=let ⟨q,_,_,hq,_⟩:=Zu;#[q,hq];show a7u I (by rw[e];show Js) hs he (zd (HE (Eh ķ k) z) hd (rel.drop k) Zu)
theorem py (i:Expr):Prop:=∀ ov iv,subscripted i false ov iv=operate [ov,iv] (getItem ov iv)
def b6o (c90)(hl:typeLookup jk "__getitem__"=pure !.builtin id)(hs:py slice)(h:e0i (eval value env) (λo s₁=>e0i (eval slice env) (λi s₂=>s₂.TypeIs o T/\wpAny ē A (getItem o i) Q E s₂) E s₁) E s):
  wpAny ē A (eval (.Subscript value slice pos) env) Q E s:=by
 show Subscript_ (IC h (λo s₁ h₁=>IC h₁ (λi s₂ h₂=>?_) λe9H=>x) λe9H=>x);let#[hT,h₂]:=h₂;ext d6V;show GQ (e8l hl ?_);let fin:e0i (e5X o i) (d9g ē A o Q E) E s₂:=by rw[hs o i];show wpAny_operating (IC h₂ (λr s₃ h₃=>GQ<|wpAny_letTemporaryGo (Hg h₃)) λe9H=>x)
 first
  | show Hg (GQ fin)
  | show GQ _
  | show GQ fin
def emp (I)(d1Q):s.TypeIs EH "dict":=by let#[ķ,k,e,_,_]:=g;let#[_,_,vs,_,dd]:=sM I.LJ e;show dd.typeIs
inductive c47 (Q:VK)(x:V)(y:V)(H2:Hp):∀ a v,x=.ref a->Q4 H2 a y !v->Q v H2
theorem YN (td ty:TE):TE:=λd92=>td σ H λe3D=>ty σ H1 λy H2=>c47 Q x y H2
inductive c1k (D:Ends)(σ:St)(v:V)(x:V)(y:V)(H3:Hp):∀ a H4,x=.ref a->Us H3 a y v H4->D.nx σ H4
theorem YO (td ty tv:TE):TS:=λe6G=>tv σ H λv H1=>td σ H1 λx H2=>ty σ H2 λy H3=>c1k D σ v x y H3
def a8O (c8A)(hs:py i):PE X rE (YN td ty):=by ext d2c;show b6o PySem.F.slot_dict_getitem.lookup hs (thE DJ λu e6H rx q1=>M8 (d84 hi) λiv f1t=>?_);let#[y,vN,ry,a,v,ex,g,q2]:=gR;ext d2k;show#[emp I2 g,sN hu I2 g ry λf1v=>#[v,H2,I3,UE,q2]]
def bV (c8A)(hv)(hs:e9T (!.Subscript o i pos') pos.line X.env=pure false):
  PS X (.Assign [.Subscript o i pos'] value pos) (YO td ty tv):=by
 ext d2l;show wpAny_Assign_Subscript (thE a6n λr s1 v H1 I1 rv q1=>thE (d84 ho) λu s2 x H2 I2 rx q2=>M8 (d9o hi σ) λiv s3 gR=>?_) hs;let#[y,uH,ry,a,H4,ex,g,q3]:=gR;ext d2k;show c5K hu I3 g ry rv λs4 I4=>#[σ,H4,I4,q3]
def b1K (c8v)(hb:sysModules<h.objs.size):e3P H (d89 h.push) h.objs.size F9:=
 #[HP _,Kg.mpr<|Ne.symm (HY hb),[],.nil,Heap.DictOf.new h]
theorem a0c:TE:=λ_ H Q=>∀ p,H p=none->Q oW (d8U p F9)
def Qz:PE X c1i a0c:=λe0A h=>
 wpAny_Dict_empty #[.ref s.heap.objs.size,_,I.laid DU BU<|b1K s.heap I.big,1,h _<|I.LJ.fresh BU]
theorem a8G:List (TE×TE)->St->Hp->(List (V×V)->Ù)->Prop
 | [],_,H,Q=>Q [] H
 | (tk,tv)::r,σ,H,Q=>tk σ H λe3D=>tv σ H1 λy H2=>a8G r σ H2 λps H3=>Q ((x,y)::ps) H3
abbrev b4H:List (V×V)->List (Value×Value)->Prop:=Paired λp q=>Os p.1 q.1/\Os p.2 q.2
theorem DN (X)(pos:Pos)(keys:List (Option Expr))(values:Ì)(Y3):Prop:=
 ∀ (ñ:ζ)(s:Ê)(σ:St)(H:Hp)(Q:List (V×V)->Ù),d9X H s->a8G Y3 σ H Q->
  wpAny Ē X.A (evalPairs (pairTrees keys values X.env pos)) (λvs s'=>∃ ps H',e5J s'/\b4H ps vs/\Q ps H') X.xe s
def b9Z:DN X pos [] [] []:=λe0A h=>pairTrees_nil_walk sW
def CZ (hk:PE X k tk)(hv:PE X v tv)(hr:DN X pos ks vs Y3):
  DN X pos (some k::ks) (v::vs) ((tk,tv)::Y3):=λe0A h=>
 pairTrees_cons_walk (thE (d9l hk _) λu e6H rx q1=>thE (d84 hv) λw2 s2 y H2 I2 ry q2=>
  M8 (d9o hr σ) λws s3 gR=>(by let#[ps,uH,rel,q3]:=gR;show#[(x,y)::ps,uH,.cons #[rx,ry] rel,q3]))
theorem bp (ķ more:ξ):ξ:=more.foldl (λacc kv=>eS acc kv.1 kv.2) ķ
def KV.merge:∀ {more:ξ}{rs:List (jr×Value)}{ķ:ξ}{vs:List (jr×Value)},KV more rs->KV ķ vs->KV (bp ķ more) (merged vs rs):=by
 intro more rs ķ vs r;unfold KV at r
 induction r generalizing ķ vs with
 | nil=>intro q;show q
 | @cons p q ps qs h t ih=>
  intro r0;let e:KV (e6S p.2) (stored vs q.1 q.2):=by
   let:=r0.put p.1 h.2
   cbv
  show ih e
def cA:∀ (more ķ:ξ),(bp ķ more).length<=ķ.length+more.length:=by
 intro r'
 induction r' with
 | nil=>
  intro ķ;change ķ.length<=ķ.length+0;lia
 | cons p r ih'=>
  intro ķ;let h1:=ih'<|e6S p.2;let h2:=a8N ķ p.1 p.2;change (bp (e6S p.2) r).length<=_
  grind
def a2F:∀ {ķ:ξ}{ws:List (Value×Value)},b4H (ķ.map λkv=>(kV kv.1,kv.2)) ws->∃ rs,Carries mY ws rs/\KV ķ rs:=by
 intro ķ
 induction ķ with
 | nil=>intro ws r;rw[J0]at r;cases r;show#[[],Js,.nil]
 | cons p ķ ih=>
  intro ws r;rw[Hu]at r
  cases r with
  | @cons a b as bs h t=>
   let#[rs,c,q]:=ih t;let#[b1,b2]:=b;show#[(p.1,b2)::rs,#[kr h.1,1,c],.cons #[1,h.2] q]
theorem a3h (Y3):TE:=λd92=>∀ p,H p=none->a8G Y3 σ (d8U p F9) λps H2=>H2 p=!.dK []/\∃ ķ:ξ,ps=ķ.map (λkv=>(kV kv.1,kv.2))/\ķ.length<=15/\Q oW (e6P p ŧ)
def FC (h:DN X pos keys values Y3)(Ua:keys.all (·.isSome)=true)(hl:keys.length=values.length)(h0:keys≠[])(h15:keys.length<=15):PE X (.Dict keys values pos) (a3h Y3):=by
 intro ñ s σ H Q I q;show wpAny_Dict_walk (knd:=aQ X.prog X.w) Ua hl h0 h15 (M8 (h ñ _ σ ĉ (I.laid (a:=s.heap.objs.size) (o:=.dK []) (h':=s.heap.push { cls:=.type "dict",data:=.dict [].toArray }) (t':=s.toks) DU BU<|b1K s.heap I.big)<|q _ (I.LJ.fresh<|Hi s.heap.objs.size)) λws s2 J=>?_);let#[ps,vN,rel,e,ķ,ep,lk,q2]:=J;subst ep;let#[rs,c,rk]:=a2F (P:=X.prog) (w:=X.w) rel;let#[z,hd,vs0,r0,dd]:=Ei I2.LJ e
 cases r0;show#[rs,c,dd,λh' Zu hs=>#[kx,?_,1,q2]];let hz:(bp [] ķ).length<=sizeLine:=by let h1:=cA ķ [];ext d7j;lia
 let he:∃ q,h'.get? s.heap.objs.size=!q:=let ⟨q,_,_,hq,_⟩:=Zu;#[q,hq];show a7u I2 (by rw[e];show Js) hs he (zd hz hd (rk.merge .nil) Zu)
structure c3M (X:Cx)(o:Expr)(m:Str)(apos:Pos)(e:Expr)(MB:Pos):Prop where
 base:attributeBase o m X.env (d8N o)=eval o X.env
 MN:((backTo MB xB).all Cu&&(backToKw MB Ī).all EI
  && decide (([e]:Ì).length+([]:List Keyword).length+(if ([]:List Keyword).isEmpty then 0 else 1)<30))=true
 line:(apos.endLine==MB.line)=true
 trees:backTo MB xB=[ĭ]
theorem IsD (H)(c9h):Prop:=(∃ ķ,e6J Ax)\/∃ ķ,e6J (.dT ķ)
def a1b (I)(d:IsD H a):
  s.TypeIs EH "dict"/\(∀ b,Value.ref a=.ref b->∃ ob,s.heap.get? b=!ob/\ob.dict=none)/\(a==sysModules)=false:=by
 rcases d with⟨ķ,e⟩|⟨ķ,e⟩
 ·let#[_,hd,vs,_,dd]:=sM I.LJ e;show#[c6b]
  ext d4J
 ·let#[_,hd,xs,_,dd]:=a5x I.LJ e;show#[c6b]
  ext d4J
inductive b3u (ty:TE)(σ:St)(c8a):∀ a,x=.ref a->IsD H1 a->(ty σ H1 λy H2=>∃ ķ k v,H2 a=!.dK ķ/\y=kV k/\cW ķ k=!v/\Q v (upd H2 a (.dK (mB ķ k))))
theorem Cv (td ty:TE):TE:=λd92=>td σ H λe3D=>b3u ty σ Q x H1
def a6z (ho:e9P td)(he:e0P ty)(m:c3M X o "pop" apos e MB):PE X (.Call (.Attribute o "pop" apos) [e] [] MB) (Cv td ty):=by ext d2c;show wpAny_Call_method m.base m.MN m.line PySem.F.plainAttrs_dict PySem.F.slot_dict_pop PySem.F.type_dict_pop (M8 DJ λu e6C=>?_);let#[tL,ex,d,q1]:=gR;ext d2k;let#[t1,t2,_]:=a1b I1 d;show#[t1,t2,?_];rw[m.trees];show JO rfl<|Calls.evalArgs_plain (Calls.spliced_cons (M8 (he ñ s1 σ H1 _ I1 q1) λiv s2 J=>Calls.spliced_nil ?_));let#[y,vN,ry,ķ,k,v,ea,ey,l,q2]:=J;subst ey;show a5z I2 ea ry l ĵ λf1v=>#[v,_,I3,UE,q2]
abbrev _root_.Ò:=Array DictEntry
theorem RQ (c8v)(d)(es:Ò)(ep:Nat):Prop:=∃ o,h.get? d=!o/\o.ExactDict/\o.data=.dict es ep
def RQ.to (x:RQ h d es ep)(k:∀ o,h.get? d=!o->h'.get? d=!o):RQ h' d es ep:=let ⟨o,a,r⟩:=x;#[o,k o a,r]
variable {prog:É}{w:World}{A:Ë}{d:Addr}{es:Ò}{i ep:Nat}
def RQ.ty {s:Ê}(c8b):s.TypeIs uo "dict":=let ⟨o,a,c,_⟩:=x;#[o,a,c.1]
def a6p (hd:(d==sysModules)=false)(c8b)(hQ:Q SC { s with heap:=s.heap.push { cls:=.type "dict_keyiterator",data:=.fields [.ref d,e5s 0,e6T 0,.int ep 0].toArray } }):
  wpAny ē A (pyIter uo) Q E s:=by
 let T:=x.ty;let#[o,a,_,b]:=x;show wpAny_pyIter_slot T F.slot_dict_iter (K5 F.slot_dict_iter T F.entry_dict_iter ?_<|F.args_dict_iter_1 _);unfold Builtin.«dict.__iter__» Builtin.Dict.dictSlotNone Builtin.Dict.showsAll;show GQ<|GQ (KA T FX);show GQ FX;rw[if_neg<|by cbv];show GQ<|Hg (GQ<|Li a b (GQ<|wpAny_dictEpoch a b (GQ<|Kq (Hg #[_,1,"dict_keyiterator",_,#[kE,1],F.slot_dict_keyiterator_next.lookup,?_]))));show hQ
def Txt (c9s)(hi:i<es.size)(hQ:∀ h',h'.IsKeyIter it d (i+1) es.size ep->Heap.SameBut it s.heap h'->Q (some es[i].key) { s with heap:=h' }):e0i Kz Q E s:=by
 ext d2K;ext d6S;simp only[show ¬ ((i:Int)<0) by lia,Jn,J8,Kf hi];show GQ<|GQ (JH T<|Hg (GQ (wpAny_isOneOf_keyiter T ?_)));change wpAny ĉ (setField Ix 1 b1T >>= _) ĉ s;show GQ b4p;let J:(s.heap.update it<|Obj.mapFields b0n).IsKeyIter it d (i+1) es.size ep:=#[_,JX _ u1<|Obj.isFreed_of_fields (Obj.data_mapFields u3 _),(Obj.cls_mapFields ..).trans u2,by rw[Obj.data_mapFields u3];simp[rawInt]]
 show GQ (Ip<|GQ (wpAny_isOneOf_keyiter (s:={ s with heap:=s.heap.update it (Obj.mapFields b0n) }) J.typeIs ?_));change wpAny ĉ (pure es[i].key) Ĉ;show Hg (Hg #[_,1,Hg<|hQ _ J (IQ ..)])
def a62 (hh)(c9s)(hi:es.size<=i)(hQ:∀ h',Heap.ExtBut it s.heap h'->Q none { s with heap:=h' }):e0i Kz Q E s:=by ext d2K;ext d6S;simp only[show ¬ ((i:Int)<0) by lia,Jn,J8,Array.getElem?_eq_none hi];show GQ<|GQ (JH T FX);change wpAny ĉ (setField Ix 0 .none >>= _) ĉ s;show GQ b4p;change wpAny ĉ (newExc (.type "StopIteration") [] >>= _) Ĉ;ext d6V;simp only[newExc,newTuple];show GQ b75;show GQ (m:=firstArgMember ĉ)<|wpAny_of_eq (a:=Value.none) (by first|rfl|(simp only[firstArgMember];rfl)) b75;ext1 raiseNew;show GQ (wpAny_handled ?_);rw[show A.in1.handled=none from hh];show GQ<|Hg (wpAny_throw ?_);show GQ<|wpAny_isInstance (T:="StopIteration") (b:=true) #[kE,1] isSubtype_stop FX;show hQ _ (((IQ ..).extBut.push _).push _)
def c6C (hh)(I:Addr)(XQ:d≠I):Walks prog w A I [I,d] [I] es.size b2n (λi h=>h.IsKeyIter I d i es.size ep/\RQ h d es ep) where
 sub:=λe3b=>by simp at hb;simp[hb]
 frame:=λe05 st hk=>#[st.1.at λo e=>hk I ė o e,st.2.to λo e=>hk d ė o e]
 item:=λi s Q E hi st hQ=>Txt st.1 st.2 hi λh' J hs=>hQ _ h' s.toks ě #[J,st.2.to λo e=>hs.extBut d o XQ e] λe3o e=>hs.extBut b o b76 e
 done:=λs Q E st hQ=>a62 hh st.1 st.2 BU λh' he=>hQ h' s.toks λe3o e=>he b o b76 e
 self:=λd9V st hQ=>wpAny_pyIter_keyiter st.1 hQ
def zN (lo):W.KdlSrc prog w "dict" d d es.size b2n (λh=>RQ h d es ep) where
 type:=λ_ x=>x.ty
 there:=λ_ gR=>by let#[_,a,_]:=gR;show#[HD a,HD a]
 keep:=λe9H hk=>x.to λo e=>hk d ĵ o e
 notList:=by decide
 notTuple:=by decide
 hint:=λd9V x hq=>W.kdl_hint_dict x.ty hq
 iter:=λ_ s hh x=>#[_,_,λ_ _ hq=>a6p lo x hq,c6C hh _ (let #[_,a,_]:=x;HY<|HD a),⟨⟨_,Hw _ rfl,rfl,rfl⟩,x.to λ_ e=>GW _ e⟩]
open e
def qK (lo):MeetsIn prog w (Builtin.«dict.__len__» #[nM,[]]) (λ_ R s=>∃ es ep,RQ s.heap d es ep/\R (.ok (.ret (e6T s.toks))) { s with toks:=s.toks+1 }):=
 .of_wp λA R s gR=>by
  let#[lC,#[o,a,_,b],h]:=gR;change wpAny ĉ (dictSize d >>= _) ĉ s;show GQ<|GQ (Li a b FX);show GQ (wpAny_pendingCount_other lo (wpAny_ret_mkInt ?_))
  cbv
def a0t (lo)(c8b)(fit:(es.size:Int)<2 ^ 63)(h:Q (e6T (s.toks+1)) { s with toks:=s.toks+1+1 }):e0i (call c6M nM) Q E s:=by show Calls.call_function_entry kind_len plain_len entry_len (args_len1 _) ?_;show GQ FX;show GQ<|JB x.ty F.slot_dict_len (call_meetsIn F.slot_dict_len x.ty F.entry_dict_len (F.args_dict_len_1 _) (qK lo) #[lC,x,?_]);show GQ<|Ip (Hg<|GQ (KN ?_));change wpAny ĉ (if _ ≥ 2 ^ 63 then _ else _) Ĉ;ext d4N;show GQ (wpAny_mkInt<|Hg #[_,1,h])
variable {X:Cx}{ñ:ζ}{σ:St}{H:Hp}{s:Ê}{d:Addr}{o:Obj}
theorem NF (X)(d):Prop:=∀ o u,X.H₀ d≠!.frz o u
def Inv.nf (I)(d04):NF X d:=λo u z=>by let:=I.base.Rb d o u z;rw[hd]at this;cases this
def nV {o:HO}{H:Hp}(c9i)(c9W):e3P uM h a o:=
 x.N0 (λe05 q=>q) (λb q=>by rw[aa λz=>by cbv];show q) λb xs q=>by rw[aa λz=>by cbv];show q
def Inv.VJ {u v:HO}(I)(c9W)(h3:∀ ps,u≠.tbl ps)(h4:∀ o' u',X.H₀ d=!.frz o' u'->False)(new:e2j uM s.heap d v):d9X uM s where
 ok:=I.ok
 os:=I.os
 bare:=I.bare
 base:=#[I.base.keep,I.base.slot,λb ob q n hx=>by rw[aa (λz=>by let:=e3t ob q n hx;rw[z,hd]at this;cases this)];show I.base.free b ob q n hx,I.base.there,
  λb xs q=>by let:=e48 q;rw[aa λz=>by cbv];show this,
  λb ob w q=>(aa (λz:b=d=>h4 ob w (show X.H₀ d=some (.frz ob w) by rw[<- z];show q))).trans<|e7B ob w q,
  λb ps q=>by let#[m,e]:=e49 q;show#[m,by rw[aa λz=>by cbv];show e]]
 loc:=I.loc
 cell:=I.cell
 free:=by rw[aa (λz=>by let:=I.free;rw[z,hd]at this;cases this)];show I.free
 Nf:=λx c e=>by rw[aa (λz=>by let:=e5O e;rw[z,hd]at this;cases this)];show I.Nf x c e
 pin:=λe79=>by let#[EA]:=e9Q hp;show#[a1,by rw[aa λz=>by cbv];show a2,a3]
 LJ:=λa ob e=>by
  by_cases ha:a=d
  ·grind [ai]
  ·rw[aa ha]at e;show nV (I.LJ a ob e) hd h1 h2
 len:=I.len
def Inv.freeze (I)(d04)(ho:s.heap.get? d=!o):d9X b7v s:=
 I.VJ hd ĺ ĺ ĺ (λo u z=>I.nf hd o u z) #[ho,nV (e8m hd) hd ĺ λ_ z=>nomatch z]
def Inv.ZW (d1R)(nf:NF X d):d9X (d8U d Ax) s:=
 I.VJ hd ĺ ĺ ĺ (λo u z=>nf o u z) (nV (e8m hd).2 hd ĺ λ_ z=>nomatch z)
open e
theorem Itk (o)(d):It:=
 ⟨λi H=>∃ ķ kv,H d=!.frz o Ax/\ķ[i]?=!kv,λe8F=>H'=H/\∀ ķ,H d=!.frz o Ax->∃ kv,ķ[i]?=!kv/\x=kV kv.1,λi H=>∃ ķ,H d=!.frz o Ax/\ķ.length<=i⟩
theorem Itv (o)(d):It:=
 ⟨λi H=>∃ ķ kv,H d=!.frz o Ax/\ķ[i]?=!kv,λe8F=>H'=H/\∀ ķ,H d=!.frz o Ax->∃ kv,ķ[i]?=!kv/\x=kv.2,λi H=>∃ ķ,H d=!.frz o Ax/\ķ.length<=i⟩
def nA (h:(aQ P w).is k u=true):Os yp u:=by
 rcases bu h with⟨i,t,rfl,rfl⟩|⟨x,t,rfl,rfl⟩
 ·show#[t,1]
 ·show#[t,1]
variable {d:Addr}{o:Obj}{es:Ò}{ep:Nat}
def Inv.frd (d1R)(ed):∃ vs,KV ķ vs/\s.heap.DictAt (aQ X.prog X.w) d vs ep/\vs.length=es.size:=by let#[ho,z,lo,vs,r,ob,qz,e1,c1,c2,c3,c4,c5]:=e8m hd;rw[ho]at e1;cases e1;rw[ed]at c2;cases c2;show#[vs,r,#[o,es,ho,c1,ed,c3,c4,c5],?_];let:=c4.length;rw[<- this];simp
def c5m (d1k)(c7z)(c8s):e2k (Itk o d) [it] it (λi h=>h.IsKeyIter it d i es.size ep) where
 mem:=by simp
 obj:=λe10=>by
  ext d2x
  ext d2s
 keep:=λe1z=>st.at λo e=>e3u e
 item:=by
  ext d2i;let#[AQ]:=hg;let#[wP]:=e35 ed;let#[wW]:=hf it ė;ext d4W;show wpAny_pyNext_dict_item st da hq λkey h' U8 Pj sb=>?_;let I1:d9X H { s with heap:=h' }:=e06 f5;let#[Om]:=id Pj;rw[hl]at Pj;show#[key,1,e7L į #[kV kv.1,H,I1,?_,c1j,v7]]
  ·rw[hr.1];show nA U8
  ·rw[hd]at Q1;cases Q1;show#[kv,hx,1]
 done:=by intro X hP hw hK hc i ñ s σ H E I hf st hg;subst hP hw hK;let#[ķ,hd,hx]:=hg;let#[wP]:=e35 ed;let#[wW]:=hf it ė;rw[<- hl]at st;let:=KV.length r;show wpAny_pyNext_dict_end ļ st da (IS<|by omega) λh' eb=>E9
 self:=λe4i=>wpAny_pyIter_keyiter st h
def b3T (d1k)(c7z)(c8s):e2k (Itv o d) [it] it (λi h=>h.IsValIter it d i es.size ep) where
 mem:=by simp
 obj:=λe10=>by
  ext d2x
  ext d2s
 keep:=λe1z=>st.at λo e=>e3u e
 item:=by intro X hP hw hK hc i ñ s σ H E I hf st hg;subst hP hw hK;let#[AQ]:=hg;let#[wP]:=e35 ed;let#[wW]:=hf it ė;let#[q,hq,hr]:=Paired.at r hx;rw[<- hl]at st;show wpAny_pyNext_values_item st da hq λh' Pj sb=>?_;let I1:d9X H { s with heap:=h' }:=e06 f5;let#[Om]:=id Pj;rw[hl]at Pj;show#[q.2,1,e7L į #[kv.2,H,I1,hr.2,c1j,v7]];rw[hd]at Q1;cases Q1;show#[kv,hx,1]
 done:=by intro X hP hw hK hc i ñ s σ H E I hf st hg;subst hP hw hK;let#[ķ,hd,hx]:=hg;let#[wP]:=e35 ed;let#[wW]:=hf it ė;rw[<- hl]at st;let:=KV.length r;show wpAny_pyNext_values_end ļ st da (IS<|by omega) λh' eb=>E9
 self:=λe4i=>wpAny_pyIter_valiter st h
open e
def a1q:∀ {us:θ},xs.length=us.length->(∀ (j:Nat)(x:V)(u:Value),xs[j]?=!x->us[j]?=!u->e18 u)->e0k us:=by
 induction xs with
 | nil=>intro us hl h;cases us with
  | nil=>show .nil
  | cons u us=>cases hl
 | cons x xs ih=>intro us hl h;cases us with
  | nil=>cases hl
  | cons u us=>show .cons (h 0 x u rfl rfl) (ih Ŋ λj y v hy hv=>h (j+1) y v (hy)<|hv)
theorem sgn (x)(i):Str:=⟨[x.cps.getD i 0].toArray⟩
theorem Its (x):It:=⟨λi _=>i<x.cps.size,λi H v H'=>H'=H/\v=.str (sgn x i),λi _=>i=x.cps.size⟩
def b1g (d1k){P:É}{w:World}{K:Φ}(it:Addr)(x)(t:Tok)(ty:String)(Yh:["enumerate","zip","dict_itemiterator","dict_reverseitemiterator","odict_iterator","itertools.zip_longest","itertools.pairwise"].contains ty=false)
  (W:∀ A:Ë,A.handled=none->Walks P w A it [it] [it] x.cps.size (SignAt x) b22)
  (a4p:∀ (A:Ë)(i:Nat)(s:Ê)(Q:ρ)(E:ρ),s.heap.IsStrIter it ty x t i->Q Ix s->e8j A (pyIter Ix) Q E s):e2k (Its x) [it] it b22 where
 mem:=by simp
 obj:=λe10=>by
  ext d2x
  let#[vq]:=st
  cbv
 keep:=λe1z=>by let#[o,e,r]:=st;show#[o,e3u e,r]
 item:=by
  intro X hP hw hK hc i ñ s σ H E I hf st hg;let#[wW]:=hf it ė;show (W X.A<|I.ok.hd hc).item i s _ _ hg st λv e2Z hv Pj kk=>?_;let#[c,u,hcx,1]:=hv;let I1:d9X H { s with heap:=h',toks:=tk }:=e2l f5;let#[Om]:=id Pj;show#[_,1,e7L Yh #[.str _,H,I1,#[u,?_],#[2],v7]];ext1 sgn
  cbv
 done:=by intro X hP hw hK hc i ñ s σ H E I hf st hg;let#[wW]:=hf it ė;let hi:=hg;subst hi;show (W X.A<|I.ok.hd hc).done s _ _ st λe2Z kk=>#[1,e2l f5]
 self:=λe7x=>a4p A i s Q E st h
section
inductive a9V (R:It->Ù)(v:V)(H1:Hp):∀ x,v=.str x->R (Its x) H1
theorem a8E (tl:TE):TI:=λe8N=>tl σ H λv H1=>a9V R v H1
def D5 (c8R):e07 l (a8E tl):=by
 ext d6u;let#[z,m8]:=gR;let#[x,1,q]:=q1;let#[t,1]:=r1;let fp:∀ (b:Addr),b∈yB->e2I H1 b:=λe3b=>by
  ext d3a
  ext d4Q
 cases ha:x.cps.all _
 ·show wpAny_pyIter_wide ha ?_;show#[lv,b1g _ x t "str_iterator" į (λA' hA=>Walks.strWide hA _ x t) λe7x=>wpAny_pyIter_striter_wide st h,CO,fp,q]
 ·show wpAny_pyIter_ascii ha ?_;show#[lv,b1g _ x t "str_ascii_iterator" į (λA' hA=>Walks.strAscii hA _ x t) λe7x=>wpAny_pyIter_striter_ascii st h,CO,fp,q]
abbrev _root_.Ñ:=List Bool
def a12 {bs:Ñ}:(List.range bs.length).all (λi=>e6U true)=bs.all id:=by
 rw[Jc];simp only[Io,Ig];ext d5B
 ·intro h b hb;let#[ET]:=Jo hb
  cbv
 ·intro h i hi;ext d7k
def lM (K)(hc)(hK):Ms X (.builtin "all") b0E:=by
 ext d35
 ext d4q;let hlen:its.length=bs.length:=by let:=rv.length;ext d8t;omega
 let hpn:p≠s.heap.objs.size:=by let#[_,_,e,_]:=pl;show HY og
 show call_all_walk ?_;show Kp pl.isList ?_;show#[c34,λi=>e6U true,c24]
 ·let hv:its[i]?=!v:=by simpa using hv
  let hi:i<bs.length:=by rw[<- hlen];show (GS.mp hv).1
  ext d4B
  ext d2F
 ·let e:its.toArray.size=bs.length:=by simp[hlen]
  rw[e,a12];ext d3r
def r9 (hc):e7I (λe1y=>∃ d ķ,xs=nM/\Rd H d Ax/\NX H (.lst Ş) Q):=by
 ext d6a
 ext d5C
 let hl:es.size=vs.length:=by rw[<- hp.length];simp
 let hkl:=KV.length rel;show W.kdl_call (zN lo) ļ Kj ě λe2Z acc c keep Oj Wo=>?_;let a1d:Fc Ş acc.toList:=by
  show a1q (by let h1:=Wo.1;rw[<- HW]at h1;rw[GP,h1,hl,hkl]) λj x u' hx hu=>?_;rw[Hf]at hx;let#[kv,ekv,1]:=HI.mp hx;ext d6A;let hj:j<es.size:=by rw[hl];show (GS.mp RV).1
  let h1:(es[j]?).map _=!u':=Wo.2 j u' ě;rw[Kf hj]at h1;let:=Option.some.inj h1;rw[<- this,UZ.1];show nA ((Pairs.get? hp ě RV).1)
 show#[.ref s.heap.objs.size,_,I.laid keep BU<|show LU X.prog X.w _ h' _ (.lst _) from #[by cbv,acc.toList,c,a1d,?_],1,q.at Uf];simpa using Oj
def b4L:e5U (λe1y=>∃ d ķ,xs=nM/\Rd H d Ax/\Q ke H):=by
 ext d6a
 ext d5C
 let hl:es.size=ķ.length:=by rw[KV.length rel,<- hp.length];simp
 show a0t lo Kj (by let:ķ.length<=2 ^ 24:=z;lia) ?_;rw[hl];show#[.int ķ.length,j7,q]
def c1t:e5U (λe1y=>∃ d ķ,xs=nM/\H d=!.dK ķ/\Q ke H):=b4L.imp λe05 gR=>by let#[d,ķ,e,h,q]:=gR;show#[d,ķ,e,.inl h,q]
example{C:Addr}{sp:Sp}{x m:Str}{ta:TE}:=0
def rR (c8o)(ht:e7F X.env=(do
   let ov <- eval o X.env
   standAt apos.atName
   let (f,first) <- holding [ov] ő
   callWith pos f first (e0n š) Ĥ):=ă):
  PE X Ğ (jO C m sp [] E0 ta jc):=by
 let#[Er]:=D;show a1n he cl hm F hr b .nil m5 ht
def b2h (c8P)(OO):
  PE X b3V (zG C sp [] E0 jc):=by
 let#[kQ,hm,M,b,F]:=D;show a8V M F hr hg hm b .nil m5 OO
inductive a4M (c9H)(sp:Addr->Sp)(c8a):∀ a C dx fs,x=.ref a->Cs C->H1 a=!.ins C dx fs->fs.lookup m=none->sp C [x] H1 Q E0
theorem a0b (c9H)(sp:Addr->Sp)(ta:TE):TE:=λd92=>ta σ H λe3D=>a4M Cs m sp Q x H1
def rS {sp:Addr->Sp}(he:e9P ta)(D:∀ C,Cs C->e2U (sp C))(hr)(ht:e7F X.env=(do
   let ov <- eval o X.env
   standAt apos.atName
   let (f,first) <- holding [ov] ő
   callWith pos f first (e0n š) Ĥ):=ă):
  PE X Ğ (a0b Cs m sp ta):=by
 ext d56;let#[tL,C,zS,hC,ea,l,q]:=gR;ext d2k;let#[Er]:=D C hC;show b0O I1 ea cl hm l ?_;show W.callWith_K0 I1.Oy hm.kp (e8Q b .nil m5 I1 nv q)
open e
def B5 (d04)(e:f' b7v H'):f' H (upd H' d Ax):=λb u hb=>by
 by_cases z:b=d
 ·grind [ai]
 ·rw[aa z];show e b u (by rw[aa z];show hb)
structure MO (c9B):Prop where
 ex:∃ (oc:Value)(od:ψ)(dV kV doc pm:Value)(an:ψ)(Lz ct:Value)(Nv:ω),
  fd=W.fnOf x ğ yt yG jp dV kV doc pm an Lz ct/\K.lookup f=some ⟨oc,od,.func fd,Nv⟩/\W.codeIn K Lz ğ=true
 kp:W.keepIn K Ci=true
def MO.okX {K:Ψ}(c7B)(len)(O7:∀ (Lz:Value)(A:Ë)(outer:List Env)(s:Ê)(H:Hp)(vs:π)(Q:VK)(E:XK),LL k ĕ->e09 E->
   ∃ t,Q2 Ļ yG t/\t { nx:=λ_ H'=>e2y H',rt:=Q } Ų H):e1u sp:=by
 let#[c5V]:=F.ex;ext d3e
theorem Ite (K)(c9h):It:=
 ⟨λi H=>∃ xs x,e0W xs/\xs[i]?=!x,λi H v H'=>∃ T,H T=none/\v=.ref T/\∃ x,b3c/\H'=e9Z (.tup yQ),λi H=>∃ xs,e0W xs/\xs.length<=i⟩
theorem a7h (e it a:Addr)(i)(c8v):Prop:=(∃ old,IsEnum h e it i old)/\h.IsListIter it a i
def c3L (c8M)(a e it:Addr)(ne:e≠it):uV P w K Œ (Ite K a) [e,it] e (a7h e it a) where
 mem:=by simp
 obj:=λi h st c hc=>by
  let#[#[old,h1],#[o2,e2,c2,d2]]:=st;ext d3j;ext d5Q
  ·show#[c6a]
  ·show#[_,e2,λv z=>by rw[d2]at z;cases z]
 keep:=λe1z=>by let#[c6j]:=st;show#[#[old,k e ė _ h1],h2.at λo z=>e3u z]
 item:=by
  ext d2i;let#[xs,x,hx,ex]:=hg;ext d6n;ext d8c;show wpAny_pyNext_enum_item h1 h2 p.isList b89 ne λh' f1u a5=>?_;show#[_,1,wpAny_letOwnedTupleGo_enum a1 λW2 b1 sb=>?_];ext d5h;let YK:∀ c∈[e,it],c≠s.heap.objs.size:=λc hc z=>by
   let:∃ o,s.heap.get? c=!o:=by
    ext d3j;let#[o2,e2,_]:=h2;ext d5Q
    ·show#[_,h1]
    ·show#[_,e2]
   let#[o,q]:=this;show absurd (HD q) (by rw[z];show IL _)
  let kk:∀ c o,c∉[e,it]->s.heap.get? c=!o->W2.get? c=!o:=λc o hc z=>by simp only[Hr,Ih,Kk,not_or]at hc;show sb.extBut ĉ hc.1 (a5 c o hc.1 hc.2 z)
  let I1:d9X H { s with heap:=W2,toks:=s.toks+1 }:=I.Qo hf kk;let I2:d9X (d9H yQ) { s with heap:=W2,toks:=s.toks+1 }:=by show I1.Uy FW I.sz #[by change 2<=sizeLine;decide,[.int i s.toks,w1],.cons #[_,1]<|.cons r1 .nil,?_];show#[_,e2n (Ne.symm<|YK e ė) a3,gQ]
  show#[kx,I2,1,#[_,hT,1,x,λxs' VT=>by rw[I.QC VT hx];show ex,1],#[#[w1,?_],?_],λc hc=>?_]
  ·simpa using b1
  ·show a2.extBut sb.extBut (Ne.symm ne)
  ·ext d6K
 done:=by
  ext d2i;let#[xs,hx,hl]:=hg;ext d6n;let l1:=rv.length;show wpAny_pyNext_enum_end ļ h1 h2 p.isList (by simp;omega) λh' kk=>#[1,I.Qo hf λc o hc z=>?_]
  ext d6U;show kk c o hc.2 z
 self:=λe4i=>wpAny_pyIter_enum st.1.choose_spec h
def LET:bootBuiltins "enumerate"=!.type "enumerate":=by decide +kernel
inductive a5R (K:Ψ)(c8r):∀ a xs,vs=Ty->H1 a=!.lst xs->R (Ite K a) H1
theorem a4g (K)(ta):TI:=λe8N=>ta σ H λe43=>a5R K R vs H1
def nj (K){x1:Nat}(c81)(ha:PA X [e1] ta)(hK)(hs:starEach [e1] X.env=[Ž]:=ă):PI X Œ (.Call b78 [e1] [] pos) (a4g K ta):=by
 subst hK;ext d2I;show Call_<|e2T LET (e0d hs rfl);ext d6R;let#[a,xs,1,hx,q]:=q1;let#[u,1,ru]:=dJ r1
 cases ru;let#[its,n,rv,ho,hz]:=I1.lst hx;show call_enumerate_1 ho λh' f1u=>wpAny_pyIter_enum a1 ?_;let I2:d9X H1 { s1 with heap:=h' }:=I1.kept a4;show#[_,[s1.heap.objs.size+1,s1.heap.objs.size],_,_,H1,1,I2,c3L a ĉ<|IG (IK _),⟨⟨_,a1⟩,a2⟩,λc hc=>?_,q];let le:@LE.le Nat _ s1.heap.objs.size c:=by
  ext d3j;ext d5Q
  ·show Nat.le_succ _
  ·show Hi _
 show I1.Sz le c15
def b5n {K:Φ}(c70)(hs:∀ (i:Nat)(x:V)(T:Addr) σ H,xs[i]?=!x->e7D H->H T=none->tb { D with nx:=Pv (i+1),ct:=Pv (i+1),bk:=D.nx } ((σ.set i1 !.int i).set i2 !x) (d8U T (.tup yQ)))(c9m):
  ∃ W:Nat->Nat->Υ,lQ/\∀ i m σ H,e32 H->
   ((Ite K a).stop i H/\D.nx σ H)\/((Ite K a).go i H/\∃ N:Υ,ġ/\∀ x H',(Ite K a).XE i H x H'->z7 K 2 (xa (c6 i1) (xa (c6 i2) yb)) x σ H' λe5k=>tb { D with nx:=N,ct:=N,bk:=D.nx } σ2 H2):=by
 ext d22
 ·show .inr #[v6,Pv<|i+1,λe9I=>b21,λv H' y=>?_];let#[T,hT,1,x,ex,1]:=y;show#[T,yQ,1,NC.of ai,1,_,[x],1,_,[],2,hs i x T σ H (ex xs q) p hT]
 ·let e:i=xs.length:=#[]
  subst e;show .inl b5I
theorem isA:Hp->V->jr->Prop:=λ_ x k=>x=kV k
def Ar (k:jr):eX yp=true:=by cases k <;> rfl
def a1J (a b:jr):Yu (kV a) (kV b)=decide (a=b):=by
 cases a with
 | inl a=>cases b with
  | inl b=>ext d7U
  | inr b=>ext d7l
 | inr a=>cases b with
  | inl b=>ext d7l
  | inr b=>ext d7U
def b8N {K:Ψ}:BI K isA 0 where
 eq:=by
  ext d4A
  cases ha
  cases hb;rw[<- a1J];show b3I rx ry (Ar a) (Ar b)
 fn:=by intro X ñ s σ H x a b _ I ha hb;rw[ha]at hb;show a1a hb
theorem Dmd (c7h)(C)(m:Str)(ps)(dvs)(sp):Prop:=
 ∃ f fd ds,Pf K C/\zu K C m f/\yU K fd ps ds/\Fc dvs ds/\M9 P w K mg base N5 k f fd ps sp
theorem FR (d1C)(dvs)(sp):Prop:=
 ∃ f fd ds,mg x=!.ref f/\W.keepIn K Ci=true/\yU K fd ps ds/\Fc dvs ds/\M9 P w K mg base N5 k f fd ps sp
def MO.ok {K:Ψ}(c7B)(len)(O7:∀ (Lz:Value)(A:Ë)(outer:List Env)(s:Ê)(H:Hp)(vs:π)(Q:VK)(E:XK),LL k ĕ->e09 E->
   ∃ t,Q2 (e0u E).Uv yG t/\t { nx:=λ_ H'=>e2y H',rt:=Q } Ų H):d98 sp:=by
 let#[c5V]:=F.ex;ext d2M
def De (D:e2E sp)(c9C):
  PE X ę (zI sp dvs E0 t):=by
 let#[kQ,ds,hm,kp,b,hd,F]:=D;show b2s F hr hg hm kp b hd m5 ha OO he Oi
def a2y {k:Nat}(he:e9P ta)(D:Dmd X.prog X.w X.K X.mg X.base k C m ps dvs sp)(hr)(ha)(RK)(Oi)(ht:e8i X.env=(do
   let ov <- eval o X.env
   standAt apos.atName
   let (f,first) <- holding [ov] ő
   callWith pos f first (e0n Ň) Ĥ):=ă):
  PE X ZU (e5S E0 ta t):=by
 let#[kQ,ds,cl,hm,b,hd,F]:=D;show b1c he cl hm F hr b hd m5 ha RK Oi ht
def Pa (a:sc.kind=.function:=ă)(b:sc.isCoroutine=false:=ă)(c:sc.isGenerator=false:=ă)(d:N.Nodup:=Ć)(e:N.take P.length=P:=ă)(f:∀ x∈P,sc.names.lookup x=!.local\/sc.names.lookup x=!.cell:=Ć)(g:∀ y∈sc.names,y.2≠.free:=Ć):au N P sc:=#[lx,d,e,f,g]
def LL.m (r:LL k A)(h:j<=k:=ö):LL j A:=r.mono h
section
def pS (i)(hN)(c8w)(c62):
  PS X SB GF:=a0u hN hi hx he hs hf
def pN (i)(hN)(hi:X.N[i]?=!x:=ă)(hx:Wp X.env.scope x:=ć)(hf):PG X ų lW:=a5X hN hi hx hf
def pC (i)(hN:N'.Nodup:=Ć)(hi:N'[i]?=!x:=ă)(hx:Wp (e1Y fp).env.scope x:=ć)(hf:(e1Y fp).fn x=true\/(e1Y fp).env.scope.names.lookup x=!.local:=ß):PG Ė ų lW:=a5X hN hi hx hf
def cS (nT)(js)(N')(h:iR X.env.scope X.N scope nT js N'=true:=by kernel_rfl):e9q N':=a4C rfl rfl h
example{tb:TE}:=0
def pI (hr:W5 X r)(c60)(d0N):e5T u0:=YY hr ha hb hs
def pD (c8A)(hs:py i:=by exact λ_ _=>rfl):PE X rE (YN td ty):=a8O hu ho hi hs
def pM (ho)(c60)(hm):PE X Ť u0:=zW ho ha hb hm
def pT (ho)(c60)(hm):PT X Ť (Ct u0):=zQ ho ha hb hm
open e
variable {K:Ψ}
def OT.k (c8i)(O7:∀ (Lz:Value)(A:Ë)(outer:List Env)(s:Ê)(H:Hp)(vs:π)(Q:VK)(E:XK),LL k ĕ->e09 E->
   ∃ t,Q2 (e0u E).Uv yG t/\t { nx:=λ_ H'=>e2y H',rt:=Q } Ų H)(c8J):d98 sp:=F.ok S len O7
def MO.k (c7B)(O7:∀ (Lz:Value)(A:Ë)(outer:List Env)(s:Ê)(H:Hp)(vs:π)(Q:VK)(E:XK),LL k ĕ->e09 E->
   ∃ t,Q2 (e0u E).Uv yG t/\t { nx:=λ_ H'=>e2y H',rt:=Q } Ų H)(c8J):d98 sp:=MO.ok F S len O7
open e
universe L2
namespace K72
open PySem L2
open PyProof.Rows (boot_all boot_bool boot_dict boot_int boot_list boot_str boot_tuple)
abbrev _root_.Ý:List Str:=["self","name"]
abbrev _root_.Þ:List Str:=["self"]
abbrev _root_.à:List Str:=[zC,"fallen"]
abbrev _root_.á:List Str:=[c6H]
abbrev _root_.â:List Str:=[c3r]
abbrev _root_.ã:List Str:=["field","table","many"]
abbrev _root_.ä:List Str:=["self",vk]
abbrev _root_.å:List Str:=["self","one","other"]
abbrev _root_.æ:List Str:=[c5d]
abbrev _root_.è:List Str:=["self","fallen","name","numbers"]
abbrev _root_.é:List Str:=["self","number"]
abbrev _root_.ë:List Str:=["net","plan","message","prime","fallen"]
abbrev _root_.ì:List Str:=[zC,"messages"]
abbrev _root_.í:List Str:=[c3T]
abbrev _root_.î:List Str:=["self","prime"]
abbrev _root_.ï:List Str:=[zP,"chosen"]
abbrev _root_.ò:List Str:=[c5o,"_law_many","_law_prime","_law_cell"]
abbrev _root_.ó:List Str:=["net","listener","many","fallen"]
abbrev _root_.ô:List Str:=[u9,"plan","message","fallen"]
abbrev _root_.õ:List Str:=[zP,BR]
abbrev _root_.ø:List Str:=[zP,c36]
abbrev _root_.ù:List Str:=["_law_cell","_law_many"]
abbrev _root_.ú:List Str:=["_law_script","_law_k"]
abbrev _root_.û:List Str:=["field","one","other"]
abbrev _root_.ü:List Str:=["self","rows","many"]
abbrev _root_.ý:List Str:=["net","falls"]
abbrev _root_.þ:List Str:=["self","post"]
abbrev _root_.ÿ:List Str:=["number"]
abbrev _root_.Ā:List Str:=["self","needed"]
abbrev _root_.ā:List Str:=["many","own"]
theorem top (i):Stmt:=PySem.Challenge.pw_mixposts_k81_rounds_read.main.body.getD i b73
inductive Kd where
 |house|listener|post
deriving DecidableEq
set_option genInjectivity false
structure Cl where
 Mg:Addr
 post:Addr
 house:Addr
 Q0:Addr
set_option genInjectivity true
theorem Cl.of (c:Cl):Kd->Addr
 | .house=>c.house
 | .listener=>c.Q0
 | .post=>c.post
structure Cl.Ok (K:Ψ)(c:Cl):Prop where
 cn:Pf K c.Mg
 cp:Pf K c.post
 ch:Pf K c.house
 cl:Pf K c.Q0
 fp:Mj K c.Mg "kept_posts"
 ft:Mj K c.Mg "kept_ties"
 fn:Mj K c.Mg "next_number"
 np:Mj K c.post "name"
 nh:Mj K c.house "name"
 nl:Mj K c.Q0 "name"
 ph:c.post≠c.house
 pl:c.post≠c.Q0
 hl:c.house≠c.Q0
theorem jK (c:Cl)(C):Prop:=∃ k,C=c.of k
def Cl.Ok.cls (o:Cl.Ok K c):∀ k,Pf K jW
 | .house=>o.ch
 | .listener=>o.cl
 | .post=>o.cp
def Cl.Ok.nam (o:Cl.Ok K c):∀ k,Mj K jW "name"
 | .house=>o.nh
 | .listener=>o.nl
 | .post=>o.np
abbrev M':=Int×Str×Str×Int
set_option genInjectivity false
structure NS where
 Lv:List (Str×Kd)
 Ls:List M'
 next:Int
set_option genInjectivity true
theorem Nk (c:Cl)(H)(v)(p:Str×Kd):Prop:=∃ a dx,v=.ref a/\H a=!.ins (c.of p.2) dx [("name",.str p.1)]
theorem OI (H)(v)(t:M'):Prop:=∃ a,v=.ref a/\H a=!.tup a7Q
structure Mq (d1d)(n dp dt:Addr)(S:NS):Prop where
 ins:∃ dx,H n=!.ins c.Mg dx [b7w,b79,("next_number",.int S.next)]
 Lv:∃ ķ,H dp=!.dK ķ/\Paired a67 ķ S.Lv
 Ls:∃ ķ,H dt=!.dK ķ/\Paired (λ(kv:jr×V) (t:M')=>kv.1=Sum.inl t.1/\OI H kv.2 t) ķ S.Ls
 ne:dp≠dt
def Nk.mono (e)(h:e8n p):Nk c H' v p:=let ⟨a,dx,q1,q2⟩:=h;#[a,dx,vV]
def OI.mono (e)(h:OI H v t):OI H' v t:=let ⟨a,q1,q2⟩:=h;#[a,vV]
def Mq.mono (e)(h:Mq c H n dp dt S):e4r S:=by let#[vz,h4]:=h;show#[#[dx,e ĉ h1],#[kp,e ĉ h2,Paired.O3 p2 λe28=>(by let#[a,b]:=gR;show#[a,b.mono e])],#[kt,e ĉ h3,Paired.O3 p3 λe28=>(by let#[a,b]:=gR;show#[a,b.mono e])],h4]
theorem B8:Str:="abcdefghijklmnopqrstuvwxyz"
theorem Af (x):Bool:=not (Builtin.Str.occurrences B8 x 0 B8.length 1).isEmpty
theorem gv (x):Bool:=decide (1<=x.length)&&decide (x.length<=8)&&(List.range x.cps.size).all λi=>Af (sgn x i)
structure c5Q (mg:Ω):Prop where
 Ma:mg "len"=none
 MV:mg "isinstance"=none
 a3W:mg "str"=none
 X0:mg "all"=none
 Q9:mg "list"=none
structure GJ (mg:Ω):Prop where
 let_:∃ t,mg "LETTERS"=!.str B8 t
 lon:∃ t,mg "LONGEST_NAME"=!.int 8 t
 mop:∃ t,mg "MOST_POSTS"=!.int 20 t
 mol:∃ t,mg "MOST_LISTENERS"=!.int 8 t
structure CD (K:Ψ):Prop where
 ss:W.kitOne K kB kB=!true
def c3V (g:Nat->V)(hz:x.cps.size<=1000)(hs:∀ i H2,i<x.cps.size->f' H H2->te (some (.str (sgn x i))::a5B σ js) H2 λv H5=>v=g i/\f' H2 H5)(hd:∀ l H',H l=none->f' H H'->H' l=!.lst ((List.range x.cps.size).map g)->F l H'):e2o F (Its x) H:=by
 intro l hl0;show#[λi m σ' H2=>m=x.cps.size - i/\i<=x.cps.size/\(∃ o,σ'=o::a5B σ js)/\f' H H2/\H2 l=!(.lst<|(List.range i).map g),#[x.cps.size,ST,aZ Ě hl0,ai],?_];rintro i m σ' H2 ⟨rfl,hi,⟨o,rfl⟩,e,hl⟩;by_cases NI:i<x.cps.size
 ·show .inr #[NI,λv H3 y=>?_];let#[2]:=y;show#[λ_=>False,λv H5=>v=g i/\f' H3 H5,λH4 p4=>p4.elim,λv H5 gR=>?_,hs i H3 NI e];let#[ev,e5]:=gR;subst ev;show#[_,e5 ĉ hl,by simp only[GP,HL];show HN NI<|HE hz į,_,?_,1,NI,#[_,1],bg (e.trans e5) hl0,?_]
  ·lia
  ·rw[ai,L1,He];rfl
 ·let ei:i=x.cps.size:=#[]
  subst ei;show .inl #[1,hd l H2 hl0 e hl]
inductive c1B (c8p):∀(x:Str),vs=[.str x]->x.length<=1000->(∀ H',f' H H'->Q (.bl (gv x)) H')
abbrev iG:Stmt:=top 24
def a2a:au D7 D7 (ae iG):=Pa
def yF (F:OT K "is_name" "is_name" iG f fd)(T:c5Q mg)(TG:GJ mg)(TK:CD K):e1c D7 c1B:=by
 let#[tl,Vn]:=TG.let_;let#[tn,RL]:=TG.lon;show F.k a2a λe2C=>?_
 ·let#[x,1,hx,q]:=h;show#[_,(af (fm (oA<|cN (d9S K (jV (v:=.ty "str") rfl T.a3W boot_str rfl)))
  (d9R m4)
  ML)
 (aq (bo (yx (oG rX rX aG (bL c2P rfl T.Ma boot_len<|a9 EB K')<|e8o RL #[_,1]) (oF (bL (lM K rfl) rfl T.X0 boot_all (a9 (dZ rfl (cS 1 [] ["sign"]) (D5<|pv 0)
  Ĕ
  uq
  (λd94=>pM c0y EB (gf (v:=.str B8) rfl Vn #[_,1])<|by with_unfolding_all rfl)) K'))))))),?_]
  let hxs:x.cps.size=x.length:=rfl;show#[_,1,.str x,BY,1,.str x,TK.ss,_,1,uE ?_];let qb:gv x=(decide (1<=x.length)&&decide (x.length<=8)&&((List.range x.cps.size).map λi=>Af<|sgn x i).all id):=by rw[Jy];rfl
  show#[_,1,x,1,HE hx<|by decide,?_];show⟨_,_,rfl,rfl,_,rfl,ku (λh1=>?_) (λh1=>?_)⟩
  ·let h1:1<=x.length:=by let:=HA h1;omega
   show#[yi,1,ku (λh2=>?_) (λh2=>?_)]
   ·let h2:x.length<=8:=by let:=HA h2;omega
    show#[_,1,x,1,c3V (λi=>.bl<|Af (sgn x i)) #[0] (λi H2 hi e=>#[_,1,_,B8,3,f'.refl _]) (λl H' hl0 e hl=>?_)];show#[l,(List.range x.cps.size).map λi=>Af<|sgn x i,1,LS.of (by rw[GV];show hl),?_];let:=q H' e;rw[qb,Hb h1,Hb h2]at this;show this
   ·let h2:¬ x.length<=8:=λz=>h2<|Hb #[0];let:=q H Ě
    cbv
  ·let h1:¬ 1<=x.length:=λz=>h1<|Hb #[0];let:=q H<|f'.refl _;rw[qb,GZ h1,Le,Le]at this;show#[_,1,uE this]
inductive fW (b:V)(d0z):∀ v,vs=[v]->Q b H
abbrev dW:Stmt:=e7M 3
def b2q:e5Y (ae dW):=Pa
def j5 (F:OT K "reads" "Post.reads" dW f fd):f03 (fW UF):=by
 show F.k b2q λe2C=>?_
 ·ext d2X
abbrev d3:Stmt:=ar (top 31) 1
def a9x:e5Y (ae d3):=Pa
def jZ (F:OT K "reads" "Listener.reads" d3 f fd):f03 (fW ű):=by
 show F.k a9x λe2C=>?_
 ·ext d2X
abbrev dY:Stmt:=e7M 4
def b36:e5Y (ae dY):=Pa
def j6 (F:OT K "hears" "Post.hears" dY f fd):f03 (fW ű):=by
 show F.k b36 λe2C=>?_
 ·ext d2X
abbrev fJ:Stmt:=ar (top 30) 1
def c6m:e5Y (ae fJ):=Pa
def oV (F:OT K "hears" "House.hears" fJ f fd):f03 (fW UF):=by
 show F.k c6m λe2C=>?_
 ·ext d2X
theorem VL:Kd->Bool
 | .listener=>true
 | _=>false
theorem SY:Kd->Bool
 | .house=>false
 | _=>true
def i4 (d0O):∀ k,decide (c.of k=c.Q0)=VL k
 | .listener=>Hb rfl
 | .house=>GZ O.hl
 | .post=>GZ O.pl
def ig (d0O):∀ k,(not (decide (d9C k)))=SY k
 | .house=>by rw[show decide (d9C .house)=true from Hb rfl];rfl
 | .listener=>by rw[show decide (d9C .listener)=false from GZ O.hl.symm];rfl
 | .post=>by rw[show decide (d9C .post)=false from GZ O.ph];rfl
inductive gX (c:Cl)  (vs:π) (H:Hp) (Q:VK) (E:XK):∀(x:Addr) (k:Kd) (dx:Addr) (n:Str),vs=[.ref x,.str n]->H x=!.ins jW dx []->Q .non (d8U x (.ins jW dx [("name",.str n)]))
abbrev bS:Stmt:=e7M 0
def b4o:e8p (ae bS):=Pa
def b4B (F:OT K "__init__" "Post.__init__" bS f fd)(d0O):e1c Ý (gX c):=by
 show F.k b4o λe2C=>?_
 ·let#[x,k,dx,n,1,hx,q]:=h;show#[_,aq<|e4s Gf rfl,?_];show#[CJ,x,c.of k,zV,hx,O.cls k,O.nam k,by decide,q]
inductive gY (c:Cl)  (vs:π) (H:Hp) (Q:VK) (E:XK):Prop
 |mk (x dx:Addr):vs=[.ref x]->H x=!.ins c.Mg dx []->(∀ d1 d2 H',H d1=none->H d2=none->d1≠d2->(∀ a o,a≠x->H a=!o->H' a=!o) ->
 H' x=!.ins c.Mg dx [("kept_posts",.ref d1),("kept_ties",.ref d2),("next_number",.int 0)]->H' d1=!.dK []->H' d2=!.dK []->Q .non H')->gY c vs H Q E
abbrev eQ:Stmt:=ar Ae 0
def b1J:e5Y (ae eQ):=Pa
def c1z (F:OT K "__init__" "Net.__init__" eQ f fd)(d0O):f03 (gY c):=by
 show F.k b1J λe2C=>?_
 ·let#[x,dx,1,hx,q]:=h;show#[_,(af (e4s Qz rfl)
 (af (e4s Qz rfl)
 (aq<|e4s aG rfl))),?_]
  intro d1 h1;let n1:=aj hx h1;show#[_,1,x,c.Mg,dx,_,1,by rw[aa n1];show hx,O.cn,O.fp,by decide,?_];intro d2 h2;let n2:=aj ai h2;let n3:=aj (by rw[aa n1.symm];show ai) h2;show#[_,1,x,c.Mg,dx,_,1,by rw[aa n2];show ai,O.cn,O.ft,(by change 1<1000;decide),?_];show#[_,1,x,c.Mg,zV,ai,O.cn,O.fn,(by change 2<1000;decide),?_];let V1:H d2=none:=by rw[aa n2.symm,aa n3.symm]at h2;show h2
  show q d1 d2 _ h1 V1 n3 (λa o na ha=>?_) ai ?_ ?_
  ·rw[aa na,aa na,aa<|aj ha V1,aa na,aa<|aj ha h1];show ha
  ·rw[aa n1.symm,aa n1.symm,aa n3,aa n1.symm];show ai
  ·rw[aa n2.symm,aa n2.symm];show ai
universe K72
namespace Mx
theorem dot:List Int->List Int->Int
 | a::x,b::y=>a * b+dot x y
 | _,_=>0
theorem fX (p):Int->List (Int×Int)->Int
 | t,[]=>t
 | t,(a,b)::r=>fX p b9G r
theorem LV (p)(x y:Ξ):Int:=fX p 0 (x.zip y)
def a9W (p):∀ (x y:Ξ)(t:Int),t % p=t->fX p t (x.zip y)=(t+dot x y) % p
 | [],_,t,h=>by simp[fX,dot,h]
 | _::_,[],t,h=>by simp[fX,dot,h]
 | a::x,b::y,t,_=>by change fX p b9G (x.zip y)=_;rw[a9W p x y _<|Int.emod_emod_of_dvd _ (Int.dvd_refl _)];simp[dot,Int.emod_add_emod,Int.add_assoc,Int.add_comm]
def Mn (p)(x y:Ξ):LV p x y=dot x y % p:=by ext1 LV;rw[a9W p x y 0<|by simp,Ka]
def N4:∀ (x y:Ξ),dot x y=dot y x
 | [],[]=>rfl
 | [],_::_=>rfl
 | _::_,[]=>rfl
 | a::x,b::y=>by change a * b+dot x y=b * a+dot y x;rw[Int.mul_comm,N4 x y]
def NB (p):∀ (x y:Ξ),e97 y % p=dot x y % p
 | [],_=>by simp[dot]
 | _::_,[]=>by simp[dot]
 | a::x,b::y=>by change (a % p * b+e97 y) % p=(a * b+dot x y) % p;rw[Int.add_emod,NB p x y,Int.mul_emod,Int.emod_emod_of_dvd _<|Int.dvd_refl _,<- Int.mul_emod,<- Int.add_emod]
def Nx (p)(x y:Ξ):dot x (y.map p7) % p=dot x y % p:=by rw[N4,NB,N4]
theorem C9 (x y:Ξ):Ξ:=List.zipWith (·+·) x y
def b4R:∀ (x y v:Ξ),x.length=y.length->dot (C9 x y) v=dot x v+dot y v
 | [],[],v,_=>by simp[C9,dot]
 | a::x,b::y,[],_=>by simp[C9,dot]
 | a::x,b::y,c::v,h=>by
  let:=b4R x y v Ŷ;change (a+b) * c+dot (C9 x y) v=(a * c+dot x v)+(b * c+dot y v)
  rw[this,Int.add_mul]
  lia
def b0H (k:Int):∀ (x v:Ξ),dot c16 v=k * dot x v
 | [],v=>by simp[dot]
 | a::x,[]=>by simp[dot]
 | a::x,c::v=>by
  change a * k * c+dot c16 v=k * (a * c+dot x v)
  rw[b0H k x v,Int.mul_add,Int.mul_comm a k,Int.mul_assoc]
abbrev _root_.Θ:=List Ξ
theorem col (t:Θ)(j):Ξ:=t.map λr=>r.getD j 0
theorem cols (t:Θ)(w:Nat):Θ:=(List.range w).map (col t)
theorem Q8 (t:Θ)(w:Nat)(r:Ξ):Ξ:=(cols t w).map λc=>dot c r
theorem R0 (d0h):Ξ:=t.map λr=>dot r v
def c3K (t:Θ)(w:Nat)(r:Ξ):(Q8 t w r).length=w:=by simp[Q8,cols]
def O2:∀ (b:Ξ)(w:Nat),b.length=w->(List.range w).map (λj=>b.getD j 0)=b:=by
 intro b w h;subst h;apply JE
 ·simp
 ·intro i h1 h2
  cbv
def QI:∀ (t:Θ)(w:Nat)(r v:Ξ),(∀ b∈t,b.length=w)->v.length=w->r.length=t.length->dot (Q8 t w r) v=dot r (R0 t v)
 | [],w,r,v,_,_,hr=>by
  let:r=[]:=JD.mp (by simpa using hr);ext d4y;let e:Q8 [] w []=(List.range w).map λ_=>0:=by simp[Q8,cols,col,dot]
  rw[e];let z:∀ (n:À)(v:Ξ),dot (n.map λ_=>(0:Int)) v=0:=by
   intro n
   induction n with
   | nil=>intro v;simp[dot]
   | cons a n ih=>
    intro v
    cases v with
    | nil=>simp[dot]
    | cons c v=>change 0 * c+dot _ v=0;rw[ih v];omega
  rw[z];simp[dot]
 | b::t,w,[],v,_,_,hr=>by simp at hr
 | b::t,w,a::r,v,hb,hv,hr=>by
  let ih:=QI t w r v (λc hc=>hb c<|Hk _ hc) hv (by simpa using hr);let e:Q8 (b::t) w (a::r)=C9 (b.map (· * a)) (Q8 t w r):=by ext1 Q8 cols col C9;rw[GV,GV];let QT:b=(List.range w).map (λj=>b.getD j 0):=(O2 b w<|hb b Ha).symm;rw[show b.map (· * a)=((List.range w).map λj=>b.getD j 0).map (· * a) by rw[<- QT]];rw[GV,List.zipWith_map];simp[List.zipWith_self,HH,dot]
  rw[e,b4R Ĉ (by rw[GP,c3K];show hb b Ha),b0H,ih];change a * dot b v+dot r (R0 t v)=a * dot b v+dot r (R0 t v);rfl
theorem Mp (p)(d0h):Ξ:=t.map λr=>LV p r v
def Uz (p)(d0h):Mp p t v=(R0 t v).map p7:=by ext1 Mp R0;rw[GV];apply HH;intro r _;simp[Mn]
def f1F (p)(b:Θ)(w:Nat)(r:Ξ):Mp p (cols b w) r=(Q8 b w r).map p7:=by ext1 Mp Q8;rw[GV];apply HH;intro c _;simp[Mn]
theorem Lw (n i:Nat):Ξ:=(List.range n).map λj=>if j=i then 1 else 0
theorem ones (n):Θ:=(List.range n).map (Lw n)
def b4y:∀ (n i s:Nat)(r:Ξ),r.length=n->dot ((e5Z n).map λj=>if j=s+i then (1:Int) else 0) r=r.getD i 0
 | 0,i,s,r,h=>by
  simp_all [JD,dot]
 | n+1,i,s,[],h=>by simp at h
 | n+1,0,s,a::r,h=>by
  ext d6B;change (if s=s+0 then (1:Int) else 0) * a+dot _ r=a;rw[if_pos<|by omega];let z:∀ (m t:Nat)(v:Ξ),s<t->dot ((List.range' t m).map λj=>if j=s+0 then (1:Int) else 0) v=0:=by
   intro m
   induction m with
   | zero=>intro t v _;simp[dot]
   | succ m ih=>
    intro t v ht;ext d6B
    cases v with
    | nil=>simp[dot]
    | cons c v=>
     change (if t=s+0 then (1:Int) else 0) * c+dot _ v=0;rw[if_neg<|by omega,ih (t+1) v<|by omega];omega
  cbv
 | n+1,i+1,s,a::r,h=>by rw[List.range'_succ];change (if s=s+(i+1) then (1:Int) else 0) * a+dot _ r=_;rw[if_neg<|by omega];let:=b4y n i (s+1) r (by simpa using h);rw[show (λj=>if j=s+(i+1) then (1:Int) else 0)=λj=>if j=s+1+i then (1:Int) else 0 by funext j;rw[show s+(i+1)=s+1+i by omega]];rw[this];simp
def MS (n i:Nat)(r:Ξ)(h:r.length=n):dot (Lw n i) r=r.getD i 0:=by let:=b4y n i 0 r h;ext1 Lw;rw[List.range_eq_range'];ext d3T
def UI {r:Ξ}(h:∀ x∈r,0<=x/\x<p):r.map p7=r:=by
 let:=HH λe0Z=>IV (h x hx).1 (h x hx).2
 cbv
abbrev e (r:Ξ)(j:Nat):Int:=r.getD j 0
theorem NH (p)(r:Ξ):Prop:=∀ x∈r,0<=x/\x<p
def NH.at (d1S)(j):0<=e r j/\e r j<p:=by
 ext1 e;rw[GU]
 cases hj:r[j]? with
 | none=>show#[Int.le_refl _,hp]
 | some x=>show h x (GY hj)
theorem scaled (p)(r:Ξ)(k:Int):Ξ:=r.map λx=>k * x % p
theorem without (p)(r lead:Ξ)(q:Nat):Ξ:=if e r q=0 then r else List.zipWith (λm t=>(m - e r q * t % p) % p) r lead
theorem MK (ř:Θ)(start q:Nat):Option Nat:=(List.range' start (ř.length - start)).find? λa=>decide (e ħ q≠0)
theorem cleared (d1T)(start a q:Nat):Θ:=
 let lead:=f02 jA
 let others:=(ř.take a++ř.drop (a+1)).map λr=>e0p q
 others.take start++[lead]++others.drop start
theorem step (p)(bk)(st:List (Ξ)×Nat)(q:Nat):List (Ξ)×Nat:=
 match MK st.1 st.2 q with
 | none=>st
 | some a=>(e6V st.1 st.2 a q,st.2+1)
theorem run (d1T)(k:Nat):List (Ξ)×Nat:=(List.range k).foldl (step p bk) (ř,0)
def Qv (d1T)(k:Nat):e2p (k+1)=step p bk (e2p k) k:=by ext1 run;rw[L1,Lj];rfl
def b7U (j):e EZ j=k * e r j % p:=by
 ext1 e scaled;rw[GU,GU,Hf]
 cases r[j]? with
 | none=>simp
 | some x=>simp
def b5i (c8U)(hr:NH p r)(hl:lead.length=r.length)(j):e wC j=(e r j - e r q * e lead j) % p:=by
 ext d6d;by_cases h:e r q=0
 ·rw[if_pos h,h,Int.zero_mul,Int.sub_zero];let:=hr.at hp j;show (IV this.1 this.2).symm
 ·by_cases hj:j<r.length
  ·cbv
  ·cbv
def b4n (p x:Int):p ∣ x % p - x:=by
 show#[-(x / p),?_];rw[Int.emod_def,Int.mul_neg]
 lia
def c3d (p k:Int):∀ (r v:Ξ),p ∣ dot EZ v - k * dot r v
 | [],v=>by simp[scaled,dot]
 | x::r,[]=>by simp[scaled,dot]
 | x::r,y::v=>by
  let ih:=c3d p k r v;let h:=b4n p<|k * x;change p ∣ b5L - k * (x * y+dot r v)
  let:b5L - k * (x * y+dot r v)=(k * x % p - k * x) * y+(dot EZ v - k * dot r v):=by
   grind
  rw[this];show Jq (Ko h) ih
def kH (p c:Int):∀ (r lead v:Ξ),lead.length=r.length->p ∣ dot ŷ v - b5q
 | [],[],v,_=>by simp[dot]
 | x::r,y::lead,[],_=>by simp[dot]
 | x::r,y::lead,z::v,h=>by
  let ih:=kH p c r lead v Ŷ;let h1:p ∣ wY % p - (x - c * y):=by rw[Int.sub_emod_emod];show b4n p _
  change p ∣ (wY % p * z+dot _ v) - b0o
  let:(wY % p * z+dot ŷ v) - b0o=(wY % p - (x - c * y)) * z+(dot ŷ v - b5q):=by
   grind
  rw[this];show Jq (Ko h1) ih
def mC (p)(r lead v:Ξ)(q:Nat)(d1D):p ∣ dot wC v - (dot r v - e r q * dot lead v):=by
 ext d6d;by_cases h0:e r q=0
 ·cbv
 ·rw[if_neg h0];show kH p _ r lead v h
theorem Y1 (p)(v:Ξ)(ř:Θ):Prop:=∀ r∈ř,p ∣ dot r v
structure Sh (p:Int)(w:Nat)(ř:Θ):Prop where
 Q5:∀ r∈ř,r.length=w
 fit:∀ r∈ř,NH p r
theorem Bk (p)(bk):Prop:=∀ a,0<a->a<p->p ∣ a * bk a - 1
def Nz:
  r∈cleared p bk ř start a q ↔ r=f02 jA\/∃ r0∈ř.take a++ř.drop (a+1),r=e4t r0 (f02 jA) q:=by
 ext d4S;generalize hl:e1a ĉ=lead;generalize hm:(ř.take a++ř.drop (a+1)).map (λr=>e0p q)=others;let:r∈others.take start++[lead]++others.drop start ↔ r=lead\/r∈others:=by
  ext d5B
  ·intro h;rcases Hx.mp h with h|h
   ·rcases Hx.mp h with h|h
    ·show .inr (KQ h)
    ·show .inl Ŷ
   ·show .inr (List.mem_of_mem_drop h)
  ·intro h;rcases h with h|h
   ·subst h;simp
   ·let:r∈others.take start++others.drop start:=by cbv
    grind
 rw[this,<- hm];ext d5B
 ·rintro (h|h)
  ·show .inl h
  ·let#[r0,ZL]:=GX.mp h;show .inr c17
 ·rintro (h|⟨r0,h1,h2⟩)
  ·show .inl h
  ·show .inr (GX.mpr c17)
def iJ {ř:Θ}(c8u)(h:r∈ř):r=ř.getD a []\/r∈ř.take a++ř.drop (a+1):=by
 let#[ET]:=Jo h;rcases Nat.lt_trichotomy i a with c|c|c
 ·right;show HG _ ?_;rw[Ke];show#[i,#[],1]
 ·left;subst c;simp[hi]
 ·right;show Hh _ ?_;rw[List.mem_drop_iff_getElem];show#[i - (a+1),#[],by congr 1;lia]
def a56 {ř:Θ}(h:r∈ř.take a++ř.drop (a+1)):r∈ř:=by grind
def getD_mem {ř:Θ}(c8u):ř.getD a []∈ř:=by cbv
def f1E (c8U):NH p EZ:=by intro x hx;let#[y,_,1]:=GX.mp hx;ext d3C
def b4V (d1S):NH p wC:=by
 ext d6d;split
 ·show h
 ·intro x hx;let#[ET]:=Jo hx;rw[KS];ext d3C
def b2g (d1D):(e0p q).length=r.length:=by
 ext d6d;split
 ·rfl
 ·cbv
def Sh.cleared {p:Int}{bk:Int->Int}{w:Nat}{ř:Θ}{start a q:Nat}(c8U)(d0P)(c8u):Sh p w b4J:=by
 let hl:(e1a ħ<|bk (e ħ q)).length=w:=by ext1 scaled;rw[GP];show S.Q5 _ (getD_mem ha)
 show#[B4]
 ·rcases Nz.mp hr with rfl|⟨r0,h0,rfl⟩
  ·show hl
  ·let:=S.Q5 r0<|a56 h0;rw[b2g<|by omega (config:={})];show this
 ·rcases Nz.mp hr with rfl|⟨r0,h0,rfl⟩
  ·show f1E hp
  ·show b4V hp (S.fit r0<|a56 h0)
def a4u (c8U)(hb:Bk p bk)(d0P)(c8u)(h0:e ħ q≠0):
  Y1 p v b4J ↔ Y1 p v ř:=by
 let hm:=getD_mem ha;let hf:=(S.fit _ hm).at hp q;generalize hx:e _ q=x at *
 let hl:=λr (hr:r∈ř)=>show (e1a _<|bk x).length=r.length by ext1 scaled;rw[GP,S.Q5 _ hm,S.Q5 _ hr]
 let d1:=c3d p (bk x) ħ v;ext d5B
 ·intro K r hr;let k1:=K _<|Nz.mpr (.inl<|by rw[hx]);rcases iJ ha hr with rfl|h
  ·
   let a1:p ∣ bk x * dot ħ v:=by
    let:=Jz k1 d1
    grind
   let a2:p ∣ _ * dot ħ v:=Ko<|hb x #[] hf.2;let a3:p ∣ x * _:=Iw a1;let:=Jz a3 a2
   grind
  ·let k2:=K _<|Nz.mpr (.inr #[r,h,by rw[hx]]);let a1:=Jz k2<|mC p r _ v q (hl r hr);let a2:p ∣ e r q * dot _ v:=Iw k1;let:=Jq a1 a2
   grind
 ·intro K r hr;let k1:p ∣ dot (e1a ħ<|bk x) v:=by
   let a1:p ∣ bk x * dot _ v:=Iw<|K _ hm;let:=Jq d1 a1
   grind
  rcases Nz.mp hr with rfl|⟨r0,h0,rfl⟩
  ·rw[hx];show k1
  ·let hr0:=a56 h0;let a2:p ∣ dot r0 v - e r0 q * dot _ v:=Jz (K r0 hr0)<|Iw k1;let:=Jq (mC p r0 _ v q<|hl r0 hr0) a2
   grind
structure RR (p:Int)(w k:Nat)(ř:Θ)(ps:À):Prop where
 sh:Sh p w ř
 len:ps.length<=ř.length
 lt:∀ q∈ps,q<k
 inc:ps.Pairwise (·<·)
 one:∀ (i q:Nat),ps[i]?=!q->e ņ q=1
 zer:∀ (i j q:Nat),ps[j]?=!q->i≠j->e ņ q=0
 lead:∀ (i q q':Nat),ps[i]?=!q->q'<q->e ņ q'=0
 rest:∀ (i q:Nat),ps.length<=i->q<k->e ņ q=0
def b66 (q:Nat):e [] q=0:=by simp[e]
def RR.start (d0P):RR p w 0 ř []:=
 #[S,HP _,(λ_ h=>nomatch h),List.Pairwise.nil,λi q h=>by simp at h,λi j q h=>by simp at h,λi q q' h=>by simp at h,λi q _ h=>absurd h<|Kl _]
def tO (h:e7N q=none):∀ i,start<=i->e ņ q=0:=by
 intro i hi;by_cases hl:i<ř.length
 ·unfold MK at h
  grind
 ·grind
def Qw (h:e7N q=!a):start<=a/\a<ř.length/\e ħ q≠0:=by
 unfold MK at h
 grind
def c3I (c8u)(hs:start<=a):(e0y q).length=ř.length:=by
 ext1 cleared;simp only[Ho,Hl,KG,GP,HM,JR]
 lia
def dg (c8u)(hs:start<=a)(i)(hi:i<ř.length):
  ∃ lead,lead=f02 jA/\
   ((i<start/\(e0y q).getD i []=e4t ņ lead q)\/(i=start/\(e0y q).getD i []=lead) \/
    (start<i/\∃ i',start<=i'/\i'<ř.length/\i'≠a/\(e0y q).getD i []=e4t (ř.getD i' []) lead q)):=by
 ext d6o;ext d4S;ext d7B;let hol:((ř.take a++ř.drop (a+1)).map λr=>e0p q).length=ř.length - 1:=by simp only[GP,Ho,Hl,KG];omega
 let hoa:∀ j,j<ř.length - 1->((ř.take a++ř.drop (a+1)).map λr=>e0p q)[j]?=!without p (ř.getD (if j<a then j else j+1) []) lead q:=by
  intro j hj;rw[Hf];by_cases c:j<a
  ·rw[HQ (by rw[Hl];omega),ID c,if_pos c,GR<|by omega,GU,GR<|by omega];rfl
  ·rw[HU (by rw[Hl];omega),Hl,Kn,if_neg c];let:a+1+(j - min a ř.length)=j+1:=#[0]
   rw[this,GR<|by omega,GU,GR<|by omega];rfl
 generalize ((ř.take a++ř.drop (a+1)).map λr=>e0p q)=others at hol hoa;rw[GU];rcases Nat.lt_trichotomy i start with c|c|c
 ·left;show#[c,?_];rw[Ib,HQ (by rw[Hl];omega),ID c,hoa i<|by omega,if_pos<|by omega];rfl
 ·right;left;show#[c,?_];subst c;rw[Ib,HU (by rw[Hl];omega),Hl];let:i - min i others.length=0:=#[0]
  rw[this];rfl
 ·right;right;show#[c,if i - 1<a then i - 1 else i - 1+1,mU,mU]
  ·split <;> omega
  ·split <;> omega
  ·split <;> omega
  ·rw[HU (by rw[Ho,Hl,Ie];omega),Ho,Hl,Ie,Kn];let:start+(i - (min start others.length+1))=i - 1:=#[0]
   rw[this,hoa _<|by omega];rfl
def RR.step (d1U)(hb:Bk p bk)(R:RR p w k ř ps):
  ∃ Y',e1w k=((e1w k).1,Y'.length)/\RR p w (k+1) (e1w k).1 Y'/\(e1w k).1.length=ř.length/\∀ v,Y1 p v (e1w k).1 ↔ Y1 p v ř:=by
 ext1 Mx.step
 cases h:MK ř ps.length k with
 | none=>
  show#[ps,1,#[R.sh,R.len,λe4e=>JY<|R.lt q hq,R.inc,R.one,R.zer,R.lead,λi q hi hq=>?_],1,λv=>Iff.rfl];rcases Nat.lt_succ_iff_lt_or_eq.mp hq with c|c
  ·show R.rest i q hi c
  ·subst c;show (tO h) i hi
 | some a=>
  let#[hs,ha,h0]:=Qw h;let U6:0<p:=#[0]
  let hm:=getD_mem ha;let hf:=(R.sh.fit _ hm).at U6 k;show#[ps++[k],by simp,?_,c3I ha hs,λv=>a4u U6 hb R.sh ha h0];let hlen:=c3I (p:=p) (bk:=bk) (q:=k) ha hs;let l1:e (e1a ħ<|bk (e ħ k)) k=1:=by rw[b7U,Int.mul_comm];let:=(Kb).mpr<|Jk (hb (e ħ k) #[0] hf.2);rw[this];show IV #[0] hp
  let l0:∀ q,q<k->e (e1a ħ<|bk (e (ř.getD a []) k)) q=0:=λe4e=>by rw[b7U,R.rest a q hs hq,Int.mul_zero,Int.zero_emod]
  let wz:∀ (i:Nat)(lead:Ξ),i<ř.length->lead=f02 (bk<|e ħ k)->
    e b8a k=0/\∀ q,q<k->e b8a q=e ņ q:=by
   intro i lead hi hl;let hmi:=getD_mem hi;let hll:lead.length=(ř.getD i []).length:=by rw[hl];ext1 scaled;rw[GP,e98 hm,e98 hmi]
   show#[?_,λe4e=>?_]
   ·rw[b5i U6 c18 hll,hl,l1,Int.mul_one,Int.sub_self,Int.zero_emod]
   ·rw[b5i U6 c18 hll,hl,l0 q hq,Int.mul_zero,Int.sub_zero];let:=(R.sh.fit _ hmi).at U6 q;show IV this.1 this.2
  let out:∀ i,¬ i<ř.length->(e6V ř ps.length a k).getD i []=[]:=λi hi=>by rw[GU,IS<|by omega];rfl
  let psk:∀ (i q:Nat),(ps++[k])[i]?=!q->(i<ps.length/\ps[i]?=!q)\/(i=ps.length/\q=k):=λi e4e=>by
   by_cases c:i<ps.length
   ·rw[HQ c]at hq;show .inl #[c,hq]
   ·rw[HU<|by omega]at hq;by_cases c2:i - ps.length=0
    ·rw[c2]at hq;simp at hq;show .inr #[#[0],hq.symm]
    ·rw[IS (by simp;omega)]at hq;cases hq
  let plt:∀ (i q:Nat),ps[i]?=!q->q<k:=λi e4e=>R.lt q<|GY hq;show⟨R.sh.cleared U6 ha,by rw[hlen,Ho,Ie];omega,λe4e=>?_,?_,λi e4e=>?_,λi j e4e hij=>?_,λi q q' hq RV=>?_,λi q hi hq=>?_⟩
  ·rcases Hx.mp hq with c|c
   ·show JY (R.lt q c)
   ·let:q=k:=by simpa using c
    omega
  ·rw[List.pairwise_append];show#[R.inc,List.pairwise_singleton ĉ,λe0Z e3G=>?_];let:y=k:=by simpa using hy
   rw[this];show R.lt x hx
  ·
   ext d4X
   ·ext d3K;rcases d with⟨_,d⟩|⟨d,_⟩|⟨d,_⟩
    ·rw[d,(e6W #[0] hl).2 q<|plt i q hq];show R.one i q hq
    ·omega
    ·omega
   ·ext d3K;rcases d with⟨d,_⟩|⟨_,d⟩|⟨d,_⟩
    ·omega
    ·rw[d,hl];show l1
    ·omega
  ·
   by_cases hi:i<ř.length
   ·let#[oY]:=dg ha hs i hi;rcases psk j q hq with⟨c,hq⟩|⟨c,rfl⟩
    ·let hk:=plt j q hq;rcases d with⟨_,d⟩|⟨d1,d⟩|⟨_,i',d1,d2,_,d⟩
     ·rw[d,(e6W hi hl).2 q hk];show R.zer i j q hq hij
     ·rw[d,hl];show l0 q hk
     ·rw[d,(wz i' lead d2 hl).2 q hk];show R.rest i' q d1 hk
    ·rcases d with⟨_,d⟩|⟨d1,d⟩|⟨_,i',d1,d2,_,d⟩
     ·rw[d];show (e6W hi hl).1
     ·omega
     ·ext d6W
   ·rw[out i hi];show b66 q
  ·
   ext d4X
   ·let hk:=plt i q hq;ext d3K;rcases d with⟨_,d⟩|⟨d,_⟩|⟨d,_⟩
    ·rw[d,(e6W #[0] hl).2 q'<|by omega];show R.lead i q q' hq RV
    ·omega
    ·omega
   ·ext d3K;rcases d with⟨d,_⟩|⟨_,d⟩|⟨d,_⟩
    ·omega
    ·rw[d,hl];show l0 q' RV
    ·omega
  ·
   rw[Ho,Ie]at hi;by_cases Zk:i<ř.length
   ·let#[oY]:=dg ha hs i Zk;rcases d with⟨d,_⟩|⟨d,_⟩|⟨_,i',d1,d2,_,d⟩
    ·omega
    ·omega
    ·rcases Nat.lt_succ_iff_lt_or_eq.mp hq with c|c
     ·rw[d,(wz i' lead d2 hl).2 q c];show R.rest i' q d1 c
     ·subst c;ext d6W
   ·rw[out i Zk];show b66 q
def RR.run (d1U)(hb:Bk p bk)(d0P):∀ k,∃ ps,(e3C k).2=ps.length/\RR p w k (e3C k).1 ps/\(e3C k).1.length=ř.length/\∀ v,Y1 p v (e3C k).1 ↔ Y1 p v ř:=by
 intro k
 induction k with
 | zero=>show#[[],1,RR.start S,1,λv=>Iff.rfl]
 | succ k ih=>
  let#[ps,AS]:=ih;rw[Qv];let e1:e3C k=((e3C k).1,ps.length):=by rw[<- h1]
  rw[e1];let#[Y',sV,g3,g4]:=h2.step hp hb;show#[Y',by rw[g1],g2,g3.trans h3,λv=>(g4 v).trans<|h4 v]
theorem Mf (r:Ξ)(m):Option Nat:=(List.range m).find? λq=>decide (e r q≠0)
theorem Mv (ř:Θ)(m):À:=(ř.map λr=>Mf r m).filterMap id
def cSo (hq:q<m)(h1:e r q≠0)(h0:∀ q',q'<q->e r q'=0):Mf r m=!q:=by
 ext1 Mf
 cbv
def b9F (h0:∀ q,q<m->e r q=0):Mf r m=none:=by
 ext1 Mf
 cbv
def N3 (R):Mv ř m=ps:=by
 let:ř.map (λr=>Mf r m)=ps.map some++List.replicate (ř.length - ps.length) none:=by
  apply Ll;intro i;let hl:=R.len;by_cases hi:i<ř.length
  ·by_cases c:i<ps.length
   ·let hq:=GR c;let:=cSo (R.lt _<|Ii c) (by rw[R.one i _ hq];decide) (λq' RV=>R.lead i _ q' hq RV)
    cbv
   ·let:=b9F (λe4e=>R.rest i q #[0] hq)
    cbv
  ·cbv
 ext1 Mv
 cbv
def iM:∀ (ps:À)(s m:Nat),ps.Pairwise (·<·)->(∀ q∈ps,s<=q/\q<s+m)->ps.length<=m/\(ps.length=m->ps=e5Z m)
 | [],s,m,_,_=>by
  cbv
 | a::ps,s,0,_,h=>by let:=h a Ha;lia
 | a::ps,s,m+1,hp,h=>by
  ext d6e;let ha:=h a Ha;let ih:=iM ps (s+1) m h2 λe4e=>#[by let:=h1 q hq;lia,by let:=(h q<|Hk _ hq).2;lia];show⟨by simp;show ih.1,λhl=>?_⟩;let e1:=ih.2 Ŋ;ext d6B;let:a=s:=by
   rcases Nat.lt_or_ge s a with c|c
   ·exfalso;let ih2:=iM ps (s+2) (m - 1) h2 (λe4e=>#[by let:=h1 q hq;lia,by let:=(h q<|Hk _ hq).2;let:=h1 q hq;lia])
    grind
   ·lia
  rw[this,e1]
def RR.all (R)(h:ps.length=m):ps=List.range m:=by let:=(iM ps 0 m R.inc λe4e=>#[HP _,by let:=R.lt q hq;omega]).2 h;rw[this,List.range_eq_range']
def RR.MN (R):ps.length<=m:=
 (iM ps 0 m R.inc λe4e=>#[HP _,by let:=R.lt q hq;omega]).1
def uJ (h:q<m):e om q=e r q:=by cbv
def b05 {ř:Θ}:(ř.map sj).getD a []=(ř.getD a []).take m:=by
 rw[GU,GU,Hf]
 cases ř[a]? with
 | none=>simp
 | some x=>rfl
def a6J (h:q<m):MK vZ start q=e7N q:=by ext1 MK;rw[GP];congr 1;funext a;rw[b05,uJ h]
def a0O (h:q<m):e4t om (lead.take m) q=(e0p q).take m:=by
 ext d6d;rw[uJ h];split
 ·rfl
 ·rw[List.take_zipWith]
def a88:e1a om k=(e1a r k).take m:=by ext1 scaled;rw[Jf]
def c3s (h:q<m):e6V vZ start a q=(e0y q).map sj:=by
 ext d4S;rw[b05,uJ h,a88];ext d7B;let:((ř.map<|List.take m).take a++(ř.map<|List.take m).drop (a+1)).map (λr=>e4t r (lead.take m) q)=((ř.take a++ř.drop (a+1)).map λr=>e0p q).map sj:=by rw[<- Jf,<- KJ,<- He,GV,GV];apply HH;intro r _;show a0O h
 rw[this];simp only[He,Jf,KJ,Hu,J0]
def UG:∀ k,k<=m->run p bk vZ k=((e2p k).1.map sj,(e2p k).2):=by
 intro r'
 induction r' with
 | zero=>
  ext d46
 | succ k ih'=>
  intro h;rw[Qv,Qv,ih'<|by lia];ext1 step;simp only[];rw[a6J<|by lia]
  cases MK (e2p k).1 (e2p k).2 k with
  | none=>rfl
  | some a=>simp only[];rw[c3s<|by lia]
def c1Q:∀ (x a y b:Ξ),x.length=a.length->dot (x++y) (a++b)=dot x a+dot y b
 | [],[],y,b,_=>by simp[dot]
 | u::x,v::a,y,b,h=>by
  change u * v+dot (x++y) (a++b)=u * v+dot x a+dot y b;rw[c1Q x a y b<|by simpa using h]
  lia
def PsN:∀ (x v:Ξ),dot x (v.map λt=>-t)=- dot x v
 | [],v=>by simp[dot]
 | a::x,[]=>by simp[dot]
 | a::x,b::v=>by
  change a * -b+dot x (v.map λt=>-t)=-(a * b+dot x v)
  rw[PsN x v,Int.mul_neg]
  lia
theorem joined (t:Θ):Θ:=List.zipWith (λr o=>r++o) t (ones t.length)
def LR (n i:Nat):(Lw n i).length=n:=by simp[Lw]
def fu (d1U)(n i:Nat):NH p (Lw n i):=by intro x hx;let#[j,_,1]:=GX.mp hx;split <;> omega
def c57 (t:Θ)(i)(hi:i<t.length):(joined t)[i]?=!t[i]++e2q i:=by
 ext1 joined ones
 cbv
def Nw (t:Θ):(joined t).length=t.length:=by simp[joined,ones]
def b5P (h:r∈joined t):∃ i,∃ (hi:i<t.length),r=t[i]++e2q i:=by
 let#[ET]:=Jo h;let U9:i<t.length:=by rw[Nw]at hi;show hi
 show#[i,U9,?_];let:=c57 t i U9
 cbv
def R3 (d1U)(d1e):Sh p jy mF:=by
 show#[B4]
 ·ext d8u;rw[Ho,LR,S.Q5 _<|Ii hi]
 ·ext d8u;intro x hx;rcases Hx.mp hx with h|h
  ·show S.fit _ (Ii hi) x h
  ·show fu hp ĉ x h
def UK (d1e):(joined t).map sj=t:=by
 apply Ll;intro i;rw[Hf];by_cases hi:i<t.length
 ·rw[c57 t i hi,GR hi];change some ((t[i]++e2q i).take m)=some t[i];rw[KP (by rw[S.Q5 _<|Ii hi];show Hi _),IZ (by rw[S.Q5 _<|Ii hi];show Hi _)]
 ·rw[IS (by rw[Nw];omega),IS<|by omega];rfl
theorem UU (t:Θ)(m j:Nat):Ξ:=(Lw m j).map (λx=>-x)++col t j
def c22 (hr:r.length=m+n):dot r (UU t m j)=dot (r.drop m) CC - e r j % 1 * 0 - (if j<m then e r j else 0):=by
 let:=(Iz m r).symm;ext1 UU
 conv=>lhs;rw[this]
 rw[c1Q ą (by rw[GP,LR,Hl];lia),PsN,N4,MS m j _ (by rw[Hl];lia)];by_cases c:j<m
 ·let:(r.take m).getD j 0=e r j:=uJ c
  lia
 ·grind
def yZ (d1e)(j)(hj:j<m):Y1 p (UU t m j) mF:=by
 intro r hr;ext d8u;let hw:=S.Q5 _<|Ii hi;rw[c22<|by rw[Ho,LR,hw],if_pos hj];let e1:(t[i]++e2q i).drop m=e2q i:=by
  grind
 let e2:e (t[i]++e2q i) j=e t[i] j:=by
  grind
 rw[e1,e2,MS Ĉ<|by simp[col]];let e3:(col t j).getD i 0=e t[i] j:=by ext1 col;simp[hi]
 cbv
def Wa (d1U)(d1e)(R:RR p jy m ř ps)(R4:ps=List.range m)(hl:ř.length=t.length)(hk:∀ v,Y1 p v ř ↔ Y1 p v mF)(i j:Nat)(hi:i<m)(hj:j<m):dot uN CC % p=if i=j then 1 else 0:=by
 let Oi:ps.length=m:=by rw[R4];simp
 let hir:i<ř.length:=by let:=R.len;omega
 let hm:=getD_mem hir;let k:=(hk _).mpr (yZ S j hj) _ hm;rw[c22<|e98 hm,if_pos hj]at k;let pj:ps[j]?=!j:=by rw[R4];show JA hj
 let er:e ņ j=if i=j then 1 else 0:=by
  ext d3O
  ·subst c;ext d5a;show R.one i i pj
  ·ext d3D;show R.zer i j j pj c
 rw[er]at k;let k':p ∣ dot uN CC - b7x:=by rwa [show dot ĉ - _ % 1 * 0 - _=dot uN CC - b7x by omega]at k
 let:=Kb.mpr<|Jk k';rw[this];show IV (by split <;> omega) (by split <;> omega)
theorem NJ (d1t):List (List Int×Nat)->List Int->Ξ
 | [],v=>v
 | (r,q)::rest,v=>NJ p u rest (v.set q ((0 - e r u) % p))
abbrev _root_.Ð:=List (List Int×Nat)
def a6i (d1t):∀ (l:Ð)(v:Ξ),(NJ p u l v).length=v.length:=by
 intro r'
 induction r' with
 | nil=>
  intro v;show rfl
 | cons hd' rest ih'=>
  let#[r,q]:=hd';intro v;change (NJ p u rest _).length=_;rw[ih',List.length_set]
def StX (d1t):∀ (l:Ð)(v:Ξ)(j:Nat),(∀ x∈l,x.2≠j)->e gA j=e v j:=by
 intro r'
 induction r' with
 | nil=>
  intro v j _;show rfl
 | cons hd' rest ih'=>
  let#[r,q]:=hd';intro v j h;change e lY j=_;rw[ih' _ j λe0Z=>h x<|Hk _ hx]
  cbv
def c0a (d1t):∀ (l:Ð)(v:Ξ)(r:Ξ)(q:Nat),(r,q)∈l->(l.map (·.2)).Pairwise (·<·)->q<v.length->e gA q=(0 - e r u) % p
 | (r',q')::rest,v,r,q,h,hp,hq=>by
  change e lY q=_;ext d6e;rcases Hr.mp h with c|c
  ·let#[c1,c2]:=Prod.mk.inj c;rw[<- c2,<- c1];rw[<- c2]at h1;rw[StX p u rest _ q (λe0Z=>by let:q<x.2:=h1 x.2<|GX.mpr #[x,hx,1];lia)]
   cbv
  ·show c0a p u rest _ r q c h2 (by rw[List.length_set];show hq)
def b40 (c8U)(u:Nat):∀ (l:Ð)(v:Ξ),NH p v->NH p gA:=by
 intro r'
 induction r' with
 | nil=>
  intro v h;show h
 | cons hd' rest ih'=>
  let#[r,q]:=hd';intro v h;change NH p lY;show ih' _ λe0Z=>?_;rcases List.mem_or_eq_of_mem_set hx with c|c
  ·show h x c
  ·subst c;ext d3C
theorem fg (f:Nat->Int):Nat->Int
 | 0=>0
 | n+1=>fg f n+f n
def b3m (f:Nat->Int):∀ n,fg f (n+1)=f 0+fg (λj=>f (j+1)) n:=by
 intro r'
 induction r' with
 | zero=>
  simp[fg]
 | succ n ih'=>
  rw[fg,ih',fg]
  lia
def b57:∀ (x v:Ξ),x.length=v.length->dot x v=fg (λj=>e x j * e v j) x.length
 | [],[],_=>rfl
 | a::x,b::v,h=>by change a * b+dot x v=_;rw[b57 x v<|by simpa using h,HM,b3m];rfl
def a6O:∀ n,(∀ j,j<n->f j=0)->fg f n=0:=by
 intro r'
 induction r' with
 | zero=>
  ext d46
 | succ n ih'=>
  intro h;rw[fg,ih' λe8G=>h j<|by lia,h n<|by lia];rfl
def c0w:∀ n,a<n->(∀ j,j<n->j≠a->f j=0)->fg f n=f a
 | n+1,ha,h=>by
  rw[fg];by_cases c:a=n
  ·subst c;rw[a6O a λe8G=>h j #[0]<|by omega];omega
  ·rw[c0w n #[0] λe8G hja=>h j #[0] hja,h n #[0]<|Ne.symm c];omega
def c1m:∀ n,a<n->b<n->a≠b->(∀ j,j<n->j≠a->j≠b->f j=0)->fg f n=f a+f b
 | n+1,ha,hb,RX,h=>by
  rw[fg];by_cases c:a=n
  ·subst c;rw[c0w a (a:=b) #[0] λe8G hjb=>h j #[0] #[0] hjb];omega
  ·by_cases d:b=n
   ·subst d;rw[c0w b (a:=a) #[0] λe8G hja=>h j #[0] hja<|by omega]
   ·rw[c1m n #[0] #[0] RX λe8G hja hjb=>h j #[0] hja hjb,h n #[0] qB<|Ne.symm d];omega
theorem Me (p)(ř:Θ)(ps:À)(m u:Nat):Ξ:=NJ p u (ř.zip ps) (Lw m u)
def a7f (m u j:Nat):e (Lw m u) j=if j<m/\j=u then 1 else 0:=by
 ext1 e Lw;rw[GU,Hf];by_cases c:j<m
 ·cbv
 ·rw[IS<|by simpa using c];simp[c]
def We (d1U)(R:RR p m m ř ps)(hu:u<m)(hup:u∉ps):
  Y1 p F8 ř/\e F8 u=1/\(Me p ř ps m u).length=m/\NH p F8:=by
 let VR:((ř.zip ps).map (·.2))=ps:=by rw[List.map_snd_zip];let:=R.len;omega
 let hlen:(Me p ř ps m u).length=m:=by ext1 Me;rw[a6i,LR]
 let a8q:∀ x∈ř.zip ps,x.2∈ps:=λe0Z=>(Jl hx).2;let out:∀ j,j∉ps->e F8 j=if j<m/\j=u then 1 else 0:=λe8G=>by ext1 Me;rw[StX p u ĉ j λe0Z z=>hj<|z▸a8q x hx,a7f]
 let inn:∀ (i q:Nat),ps[i]?=!q->e F8 q=(0 - e ņ u) % p:=λi e4e=>by
  let hi:=(GS.mp hq).1;let hir:i<ř.length:=by let:=R.len;omega
  show c0a p u Ĉ q ?_ (by rw[VR];show R.inc) (by rw[LR];show R.lt q<|GY hq);rw[JV];show#[i,?_];rw[Lg];show#[?_,hq];rw[GU,GR hir];rfl
 show#[λe45=>?_,by rw[out u hup,if_pos #[hu,1]],hlen,?_]
 ·let#[ET]:=Jo hr;let eg:ř[i]=ř.getD i []:=by rw[GU,GR hi];rfl
  rw[eg];let hw:=R.sh.Q5 _<|getD_mem hi;rw[b57 ĉ<|by rw[hw,hlen],hw];by_cases c:i<ps.length
  ·let hq:=GR c;let XQ:ps[i]≠u:=λz=>hup<|z▸Ii c;rw[c1m m (R.lt _<|Ii c) hu XQ (λe8G hja hjb=>?_)]
   ·rw[R.one i _ hq,inn i _ hq,out u hup,if_pos #[hu,1],Int.one_mul,Int.mul_one];let:=b4n p<|0 - e ņ u;rwa [show _ % p - _=(0 - e ņ u) % p+e ņ u by omega]at this
   ·by_cases hj':j∈ps
    ·let#[i',U9,e']:=Jo hj';let RV:ps[i']?=!j:=by rw[GR U9,e']
     let:i≠i':=λz=>by subst z;show hja e'.symm
     rw[R.zer i i' j RV this,Int.zero_mul]
    ·rw[out j hj',if_neg λz=>hjb z.2,Int.mul_zero]
  ·rw[a6O m λe8G=>by rw[R.rest i j #[0] hj,Int.zero_mul]];show Int.dvd_zero p
 ·show b40 #[0] u ĉ (fu hp m u)
universe Mx
namespace My
theorem O5 (n:Int):Bool:=@decide (2<=n/\∀ e:Int,2<=e->e * e<=n->Int.fmod n e≠0) (Classical.propDecidable _)
def LH (n:Int):O5 n=true ↔ (2<=n/\∀ e:Int,2<=e->e * e<=n->Int.fmod n e≠0):=by simp[O5]
def b4i (hp:O5 p=true)(h2:2<=r)(hr:r<p):e8U r≠0:=by
 intro h0;let#[_,h]:=(LH p).mp hp;let hq:p=r * Int.fdiv p r:=by let:=f1b r;omega (config:={})
 generalize Int.fdiv p r=q at hq;let hq2:2<=q:=by
  rcases Int.lt_or_le q 2 with c|c
  ·exfalso;let:r * q<=r * 1:=JI #[] #[]
   lia
  ·show c
 rcases Int.le_total r q with c|c
 ·let:r * r<=r * q:=JI c #[];show h r h2 #[] h0
 ·let:q * q<=r * q:=Int.mul_le_mul_of_nonneg_right c #[];show h q hq2 #[] ?_
  cbv
theorem chk (p:Nat):Bool:=decide (2<=p)&&(List.range 1000).all λe=>decide (e<2) || decide (p<e * e) || decide (p % e≠0)
def Ye (h:chk p=true)(hp:p<1000000):O5 (p:Int)=true:=by
 unfold chk at h;rw[IM]at h;ext d7T;rw[LH];show#[#[],λe he hee h0=>?_];obtain⟨k,rfl⟩:∃ k:Nat,e=(k):=#[e.toNat,#[]]
 let hk:k<1000:=by
  rcases Nat.lt_or_ge k 1000 with c|c
  ·show c
  ·let:=Nat.mul_le_mul c c
   lia
 let:=(Io.mp h2) k (Ig.mpr hk)
 grind
structure Inv (p a rest made:Int):Prop where
 eq:(made * a - rest) % p=0
 lo:0<=made
 hi:made<p
def SE (hp:2<=p)(hr:e8V p=r):e7O r 1:=by
 show#[?_,jR];rw[Int.one_mul,<- hr,Im _<|by omega]
 cbv
def AD (d0u):e7O (e8U r) (Int.fmod (m * (0 - Int.fdiv p r)) p):=by
 let e1:=f1b r;generalize Int.fdiv p r=q at *
 rw[e1];rw[Im _<|by lia];show#[?_,Ij _<|by lia,HV _<|by lia];let#[k,hk]:=IE h.eq;let e2:m * _ % p=m * (0 - q) - p * _:=Int.emod_def ..;rw[e2];generalize m * _ / p=z;apply Jk;show#[- z * a - q * k - 1,?_]
 grind
def a5f (c9D):0<e8U r/\Int.fmod p r<r:=by
 let:=b4i hp #[] h3;let a:=Int.fmod_nonneg_of_pos p h1;let b:=Int.fmod_lt_of_pos p h1
 lia
open Classical in
theorem bk (p a:Int):Int:=if h:∃ z:Int,0<=z/\z<p/\p ∣ a * z - 1 then Classical.choose h else 0
def Xy (h0:0<=z)(h1:z<p)(h:p ∣ a * z - 1):bk p a=z:=by
 let hx:∃ z:Int,0<=z/\z<p/\p ∣ a * z - 1:=#[z,h0,h1,h]
 ext1 bk;rw[dif_pos hx];let#[y0,y1,y2]:=Classical.choose_spec hx;generalize Classical.choose hx=y at *
 let d:p ∣ y - z:=by
  let#[k,hk]:=h;let#[j,hj]:=y2;show#[z * j - y * k,?_]
  grind
 let e:=Kb.mpr<|Jk d;rwa [IV y0 y1,IV h0 h1]at e
def VQ (h:e7O 1 m):p ∣ a * m - 1:=by let:=IE h.eq;rwa [Int.mul_comm m a]at this
def a9L (d1V)(hp:2<=p):∀ (n:Nat)(r m:Int),r.toNat<=n->0<r->r<p->e7O r m->∃ z:Int,0<=z/\z<p/\p ∣ a * z - 1:=by
 intro r'
 induction r' with
 | zero=>
  intro r m h h0 _ _
  lia
 | succ n ih'=>
  intro r m h h0 h1 I;by_cases c:r=1
  ·subst c;show#[m,I.lo,I.hi,VQ I]
  ·let l:=a5f hP h0 c h1;show ih' ĉ #[] l.1 #[] (AD I hp h0)
def TB (d1V):Mx.Bk p (bk p):=by
 intro a h0 h1;let hp:=((LH p).mp hP).1;let hf:e8V p=a:=by rw[Im _<|by lia];show IV #[] h1
 ext d3n;show z2
def Xw (d0u):e7O (p % r) (m * (0 - p / r) % p):=by let:=AD h hp hr;rwa [Im _<|by lia,Im _<|by lia,Int.fdiv_eq_ediv_of_nonneg _<|by lia]at this
def Xx (c9D):0<p % r/\p % r<r:=by let:=a5f hp h1 h2 h3;rwa [Im _<|by lia]at this
def a5H (d1V)(h0:0<a)(h1:a<p):0<=bk p a/\bk p a<p:=by
 let hp:=((LH p).mp hP).1;let hf:e8V p=a:=by rw[Im _<|by lia];show IV #[] h1
 ext d3n;show#[z0,z1]
universe My
namespace L2
open PySem PySem.Spec PyProof.Rows
inductive D where
 |non|bl (b:Bool)|int (i:Int)|str (x:Str)|lst (l:List D)|scr (l:List D)|tup (l:List D)|dct (k:List jr) (l:List D)|ins (C:Addr) (n:η) (l:List D)
mutual
theorem DR (F:Hp):D->V->Prop
 | .non,v=>v=.non
 | .bl b,v=>v=.bl b
 | .int i,v=>v=.int i
 | .str x,v=>v=.str x
 | .lst l,v=>∃ a vs,v=.ref a/\F a=!.lst vs/\LO F l vs
 | .scr l,v=>∃ a vs,v=.ref a/\Rd F a (.lst vs)/\LO F l vs
 | .tup l,v=>∃ a vs,v=.ref a/\F a=!.tup vs/\LO F l vs
 | .dct k l,v=>∃ a ķ,v=.ref a/\Rd F a Ax/\ķ.map (·.1)=k/\LO F l ĸ
 | .ins C n l,v=>∃ a dx fs,v=.ref a/\F a=!.ins C dx fs/\fs.map (·.1)=n/\LO F l (fs.map (·.2))
theorem LO (F:Hp):List D->List V->Prop
 | [],vs=>vs=[]
 | d::l,vs=>∃ v ws,vs=v::ws/\DR F d v/\LO F l ws
end
def Rd.mono (c9t)(h:Rd F a o):Rd F' a o:=h.imp (e a o) λgR=>by let#[r,q]:=gR;show#[r,e a _ q]
mutual
def DR.mono {F F':Hp}(c9t):∀ (d:D)(v:V),e1S v->e99 v
 | .non,_,h=>h
 | .bl _,_,h=>h
 | .int _,_,h=>h
 | .str _,_,h=>h
 | .lst l,_,h=>let ⟨a,vs,q1,q2,q3⟩:=h;#[c5x]
 | .scr l,_,h=>let ⟨a,vs,q1,q2,q3⟩:=h;#[a,vs,q1,q2.mono e,LO.mono e l vs q3]
 | .tup l,_,h=>let ⟨a,vs,q1,q2,q3⟩:=h;#[c5x]
 | .dct _ l,_,h=>let ⟨a,vs,q1,q2,q3,q4⟩:=h;#[a,vs,q1,q2.mono e,c6I]
 | .ins _ _ l,_,h=>let ⟨a,dx,vs,q1,q2,q3,q4⟩:=h;#[a,dx,vs,vV,c6I]
def LO.mono {F F':Hp}(c9t):∀ (l:List D)(vs:List V),e1e vs->LO F' l vs
 | [],_,h=>h
 | d::l,_,h=>let ⟨v,ws,q1,q2,q3⟩:=h;#[v,ws,q1,DR.mono e d v q2,LO.mono e l ws q3]
end
theorem RH:V->D
 | .bl b=>.bl b
 | .int i=>.int i
 | .str x=>.str x
 | _=>.non
def Du:∀ {v:V},eX v=true->DR F (RH v) v:=by
 intro v h
 cases v<;>first|rfl|cases h
abbrev _root_.χ:=List D
def LO.length:∀ {l:χ}{vs:π},e1e vs->vs.length=l.length:=by
 intro r'
 induction r' with
 | nil=>
  intro _ h;ext d6C;rfl
 | cons _ _ ih'=>
  intro _ y1';let#[_,_,q1,_,q3]:=y1';rw[q1,HM,HM,ih' q3]
def LO.at:∀ {l:χ}{vs:π}{i:Nat}{d:D},e1e vs->l[i]?=!d->∃ v,vs[i]?=!v/\DR F d v:=by
 intro l
 induction l with
 | nil=>intro vs i d _ e;cases e
 | cons x l ih=>
  intro vs i d h e;let#[v,_,mK]:=h
  cases i with
  | zero=>show#[v,by rw[q1];rfl,Option.some.inj e▸q2]
  | succ i=>let⟨v,q,r⟩:=ih (i:=i) q3 e;show#[v,by rw[q1];show q,r]
def LO.at':∀ {l:χ}{vs:π}{i:Nat}{v:V},e1e vs->vs[i]?=!v->∃ d,l[i]?=!d/\DR F d v:=λ{l vs i v} h e=>by
 let:=h.length;let hi:i<l.length:=by rw[<- this];show (GS.mp e).1
 let#[u,q,r]:=h.at (GR hi)
 cbv
def LO.app:∀ {l m:χ}{vs ws:π},e1e vs->LO F m ws->LO F (l++m) (vs++ws):=by
 intro r'
 induction r' with
 | nil=>
  intro _ _ _ h k;ext d6C;show k
 | cons _ _ ih'=>
  intro _ _ _ y3' k;let#[v,gG]:=y3';show #[v,_,by rw[q1];rfl,q2,ih' q3 k]
def LO.one (c82):LO F [d] [v]:=#[v,[],1,h,1]
theorem grow (F H H':Hp):Hp:=λa=>if H a=none then H' a else F a
def ao (l:f' F H):f' F nH:=λa o e=>by ext1 grow;rw[if_neg (by rw[l a o e];show nofun)];show e
def aM (l:f' F H)(c9u):f' nH H1:=λa o q=>by
 unfold grow at q;by_cases h:H a=none
 ·rwa [if_pos h]at q
 ·rw[if_neg h]at q;show e ĉ (l ĉ q)
def aw (e1:f' H H1)(e2:f' H1 H2):grow nH H1 H2=e0M H2:=by
 funext a;ext d6X;by_cases h:H a=none
 ·rw[if_pos h,if_pos h]
  cases h1:H1 a with
  | none=>ext d5a
  | some o=>rw[if_neg nofun,e1b h1]
 ·rw[if_neg h,if_neg h,if_neg];intro z
  cases q:H a with
  | none=>show h q
  | some o=>rw[e1I q]at z;cases z
def aF (h:H a=none):e0M H1 a=H1 a:=if_pos h
abbrev En:=List Dc
abbrev Rx:=En->D->Prop
structure Sd (F:Hp)(c7s)(ε:En):Prop where
 le:f' F H
 len:ε.length<=σ.length
 rd:∀ (i:Nat)(d:D),ε[i]?=!some d->∃ v,σ[i]?=!some v/\DR F d v
def Sd.step (c7r)(c9u):Sd nH σ H1 ε:=
 #[aM S.le e,S.len,λe8H=>let ⟨v,a,b⟩:=S.rd i d q;#[v,a,b.mono<|ao S.le]]
def Sd.set (c7r)(c82)(i):Sd F wj H AA:=
 #[S.le,by simpa using S.len,λj e q=>by
  rw[Jj]at q ⊢;let:=S.len;ext d3O
  ·grind
  ·rw[if_neg c]at q ⊢;show S.rd j e q]
inductive tP (r:Rx)(c7s)(Q:VK):∀ F ε d,Sd F σ H ε->r ε d->b1u
abbrev _root_.Á:=En->List D->Prop
inductive NO (r:Á)(c7s)(Q:List V->Ù):∀ F ε d,Sd F σ H ε->r ε d->(∀ x H',f' H H'->LO ŏ d x->Q x H')
abbrev _root_.Å:=En->Bool->Prop
inductive Qk (r:Å)(c7s)(Q:Ø):∀ F ε b,Sd F σ H ε->r ε b->(∀ H',f' H H'->Q b H')
def PE.imp (h:e0P t)(c69):e0P t':=λe0A q=>e77 UV
def PT.imp (h:e8e t)(c69):e8e t':=λe0A q=>e77 UV
def PA.imp (h:PA X e t)(c69):PA X e t':=λp e0A q=>h p ñ s σ H Q I UV
def tP.go (c7r)(h:r ε d)(k:∀ x H',f' H H'->Sd ŏ σ H' ε->DR ŏ d x->Q x H'):tP r σ H Q:=a7T
def NO.go (c7r)(h:r ε d)(k:∀ x H',f' H H'->Sd ŏ σ H' ε->LO ŏ d x->Q x H'):NO r σ H Q:=a7T
variable {X:Cx}{a b:Expr}{ra rb:Rx}{rs:Á}{pos:Pos}
theorem rV (i):Rx:=λε d=>ε[i]?=!some d
theorem rC (c:D):Rx:=λ_ d=>d=c
def tP.at {Q:VK}(l:f' F H)(q)(c82):Q v H:=q v H Ě (h.mono<|ao l)
def dv (h:e0P yI):e0P (tP (rV i)):=h.imp λd92 ⟨F,ε,d,S,r,q⟩=>let ⟨v,h1,h2⟩:=S.rd i d r;#[v,h1,tP.at S.le q h2]
def Đ (c8H):e7C (tP<|rV i):=dv (pv i hN hv hd RM)
def dC (h:e0P (tC v))(hf:eX v=true:=ă):e0P (d9k v):=h.imp λe1E=>by let#[tj,r,q]:=gR;show tP.at S.le q (r▸Du hf)
inductive rO (f:D->D->D->Prop)(d1W):∀{x y:D},ra ε x->rb ε y->f x y d
theorem TJ (f:D->D->D->Prop)(r:R2):Prop:=∀ (F H:Hp) x y u v d (Q:VK),f' F H->f x y d->DR F x u->DR F y v->b1v->r u v H Q
def tP.op (k:TJ f r)(h:tP (rO f ra rb) σ H Q):Ti r Kv JS σ H Q:=by obtain⟨F,ε,d,S,@⟨x,y,hx,hy,hf⟩,q⟩:=h;show tP.go S hx λu d97=>e50 hy λv e4k=>k ĉ x y u v d Q S2.le hf (q1.mono<|ao S1.le) q2 λz e8I q3=>q z H3 ů ?_;ext d7C
def dO (d1l)(d0i):PE X b9z rT:=(cr ho ha hb).imp λe0c=>tP.op k h
def dX (ho:W5 X r)(d0i)(d0N):e5T rT:=(YY ho ha hb hs).imp λe0c=>tP.op k h
def dM (ho)(d0i)(hm):PE X Ť rT:=(zW ho ha hb hm).imp λe0c=>tP.op k h
def dT {op:CmpOp}{f:D->D->D->Prop}{r:R2}(ho)(d0i)(hm):PT X Ť (Qk λε b=>rO f ra rb ε oJ):=
 (zQ ho ha hb hm).imp λe1E=>by let#[fS]:=gR;show tP.op k #[c4n]
theorem Uu:Á:=λ_ l=>l=[]
def LB:PA X [] (NO Uu):=K'.imp λe1E=>by let#[tj,r,q]:=gR;show q [] H Ě (by rw[r];rfl)
inductive rA (ra:Rx)(rs:Á)(ε:En):List D->Prop
 |mk {d:D}{m:χ}:ra ε d->rs ε m->rA ra rs ε (d::m)
def da (ha:e0P Kv)(hr:e5R iL)(c7d):PA X sI (NO (rA ra rs)):=(a9 ha hr hs).imp λe1E=>by let#[EL,l,S,h,q]:=gR;let#[ZL]:=h;show tP.go S h1 λx d97=>NO.go S1 h2 λxs e4k=>q _ H2 Ł ?_;let q3:=q1.mono<|ao (H1:=H2) S1.le;rw[aw e1 e2]at q2 q3;show#[x,xs,1,q3,q2]
abbrev _root_.Ä:=List D->D->Prop
inductive Pr (R:Ä)(d0z):∀ F l d,f' F H->LO F l vs->R l d->b1u
inductive rF (R:Ä)(d1E):∀{l:χ},rs ε l->R l d
def NO.call {dl:χ}(d13)(h:tP (rF zo rs) σ H Q):zI uR dvs E iL σ H Q:=by
 let#[tj,#[ZL],q]:=h;show NO.go S h1 λe9K=>#[_,_,d,S1.le,q1.app<|hd _,h2,λx e1v q2=>f0a Ł ?_]
 rwa [aw e1 e2]at q2
def dF (Dd:e0T uR)(hr)(d0Q):
  PE X ę (tP iE):=(e7r Oi).imp λe1E=>by let#[tj,#[ZL],q]:=gR;show NO.call (dl:=[]) (λ_=>rfl) #[tj,#[h1,by rwa [HF]],q]
open e
structure W6 (F:Hp)(J:It)(l:χ):Prop where
 go:∀ H (i:Nat) d,f' F H->l[i]?=!d->J.go i H/\∀ x H',J.XE i H x H'->f' H H'/\DR ŏ d x
 stop:∀ H (i:Nat),f' F H->l.length<=i->J.stop i H
def W6.mono (c9t)(h:W6 F J l):W6 F' J l:=
 #[λH i d s q=>let ⟨a,b⟩:=h.go H i d (e.trans s) q;#[a,λx H' y=>let ⟨c,z⟩:=b x H' y;#[c,z.mono λa o q=>by
  ext d6D;by_cases n:H a=none
  ·rwa [if_pos n]at q ⊢
  ·rw[if_neg n]at q ⊢;show e ĉ q]],λH i s q=>h.stop H i (e.trans s) q]
theorem xx (g:TG)(r:D->En->En->Prop):Prop:=∀ (F H:Hp) σ ε ε' d x (Q:Υ),e7P H ε->e1S x->r d ε ε'->a6h->e4q H Q
theorem rN (i):D->En->En->Prop:=λd ε ε'=>ε'=ε.set i !d
def a4i (i):xx lW (rN i):=λe9L=>q _ ė (by rw[r];show S.set h i)
theorem wE:List Nat->List D->En->En->Prop
 | [],l,ε,ε'=>l=[]/\ε'=ε
 | i::is,l,ε,ε'=>∃ d m,l=d::m/\wE is m AA ε'
theorem gNs:List Nat->ZC
 | []=>yb
 | i::is=>xa lW (gNs is)
def c4O:∀ (is:À)(F H:Hp) σ ε ε' l xs (Q:Υ),e7P H ε->e1e xs->wE is l ε ε'->a6h->f1c Q:=by
 intro r'
 induction r' with
 | nil=>
  ext d6p;let#[2]:=r;show#[h,q σ rfl S]
 | cons i is ih'=>
  ext d6p;let#[d,m,1,r]:=r;let#[rj,ZL]:=h;show#[rj,ih' F H ĉ ε' m ws Q (S.set h1 i) h2 r λσ' e s=>q σ' (by rw[e];simp) s]
theorem a3t (is:À):D->En->En->Prop:=λd ε ε'=>∃ l,d=.tup l/\l.length=is.length/\wE is l ε ε'
def a2h (K)(is:À):xx b5M (a3t is):=λe9L=>by let#[l,1,hl,r]:=r;let#[Q6]:=h;show#[a,vs,1,NC.of<|e36 ha,by rw[hv.length,hl],c4O is F H σ ε ε' l vs Q S hv r q]
def a5C (c7r)(nT)(js):Sd F (qi nT js σ) H (e8T none++js.map λj=>(ε[j]?).join):=by
 show#[S.le,by simp[qi],λe8H=>?_];ext1 qi;by_cases c:i<nT
 ·rw[HQ<|by simpa using c,List.getElem?_replicate,if_pos c]at q
  cases q
 ·rw[HU<|by simpa using c,List.length_replicate,Hf]at q ⊢
  cases hj:js[i - nT]? with
  | none=>rw[hj]at q;cases q
  | some j=>
   rw[hj]at q;let q':(ε[j]?).join=!d:=Option.some.inj q
   cases hε:ε[j]? with
   | none=>rw[hε]at q';cases q'
   | some o=>
    let#[v,a,b]:=S.rd j d ě
    cbv
instance Ep (os:List (Option D))(hg:xx g r)(S:Sd F1 σ H1 ε)(hJ)(hl:l.length<=1000)(hcs:cs=js.map λj=>(ε[j]?).join)(ho:os.length=l.length)(ht:∀ p:En,p.length=nT->∀ (i:Nat) d o,l[i]?=!d->os[i]?=!o->∃ p':En,p'.length=nT/\r d (p++cs) (p'++cs)/\∃ b,rt (p'++cs) b/\match o with
   | none=>b=false
   | some v=>b=true/\re (p'++cs) v)(hG:∀ a H' vs,f' H1 H'->H1 a=none->H' a=!.lst vs->LO (grow F1 H1 (ay a H')) (os.filterMap id) vs->G a H'):gB nT js g (Qk rt) (tP re) σ G J H1:=by
 intro a ha;show#[λi m σ' H'=>m=l.length - i/\i<=l.length/\f' H1 (ay a H')/\(∃ p,p.length=nT/\Sd (grow F1 H1<|ay a H') σ' H' (p++cs))/\∃ vs,H' a=!.lst vs/\vs.length<=i/\LO (grow F1 H1<|ay a H') ((os.take i).filterMap id) vs,#[l.length,1,HP _,?_,#[List.replicate nT none,by simp,?_],[],ai,Hi _,1],?_]
 ·rw[du];show rM Ě ha
 ·let S0:=a5C S nT js;rw[<- hcs]at S0;show#[λb o q=>?_,S0.len,λi d q=>?_]
  ·rw[du]at q;show aZ Ě ha b o (LC ĉ<|aM S.le (rM Ě ha) b o q)
  ·let#[v,p1,p2]:=S0.rd i d q;show#[v,p1,p2.mono<|ao S.le]
 ·rintro i m σ' H' ⟨rfl,hi,e1,⟨p,n0,S0⟩,vs,hv,hn,hD⟩;let hFi:f' F1 (grow F1 H1<|ay a H'):=ao S.le;by_cases c:i<l.length
  ·let#[go,yl]:=(hJ.mono hFi).go H' i l[i] S0.le<|GR c;show .inr ⟨go,λx H2 y=>?_⟩;let#[e2,hx]:=yl x H2 y;let S2:=S0.step e2;let c':i<os.length:=#[0]
   let#[p',t3,t1,b,t4,t5]:=ht p n0 i l[i] os[i] (GR c)<|GR c';show hg _ H2 σ' ĉ l[i] x _ S2 hx t1 λσ3 n3 S3=>?_;let hH2:=e2 ĉ hv;let key:∀ H5,f' H2 H5->grow (grow (grow F1 H1<|ay a H') H' H2) H2 H5=grow F1 H1 (ay a H5)/\f' H1 (ay a H5):=λH5 e5=>by
    constructor
    ·rw[aw e2 e5];funext b;ext1 grow ay;by_cases q1:H' b=none
     ·rw[if_pos q1];by_cases q2:H1 b=none
      ·rw[if_pos q2,if_neg];intro z;rw[z,hv]at q1;cases q1
      ·cases q3:H1 b with
       | none=>show absurd q3 q2
       | some o=>
        let:=LC ĉ<|e1 b o q3;rw[q1]at this;cases this
     ·rw[if_neg q1];by_cases q2:H1 b=none
      ·by_cases z:b=a
       ·rw[if_pos z,if_pos z]
       ·cases q3:H' b with
        | none=>show absurd q3 q1
        | some o=>rw[e5 ĉ<|e2 _ _ q3]
      ·rw[if_neg q2,if_neg q2]
    ·show λb o q=>by
      let z:=e1 b o q;unfold ay at z ⊢;by_cases zz:b=a
      ·rw[if_pos zz]at z;cases z
      ·rw[if_neg zz]at z ⊢;show e5 ĉ (e2 ĉ z)
   let next:∀ H4,f' H2 H4->∃ p,p.length=nT/\Sd (grow F1 H1<|ay a H4) σ3 H4 (p++cs):=λH4 e4=>#[p',t3,(key H4 e4).1▸S3.step e4]
   let old:∀ H4,f' H2 H4->LO (grow F1 H1<|ay a H4) ((os.take i).filterMap id) vs:=λH4 e4=>by rw[<- (key H4 e4).1];show (hD.mono<|ao S0.le).mono (ao S2.le)
   let htk:(os.take<|i+1).filterMap id=(os.take i).filterMap id++os[i].toList:=by
    rw[IU,GR c',List.filterMap_append]
    cases q:os[i] <;> simp
   show#[λH4=>f' H2 H4/\os[i]=none,λv H5=>f' H2 H5/\∃ d,os[i]=!d/\DR (grow F1 H1<|ay a H5) d v,fun H4 ⟨e4,h4⟩=>#[l.length - (i+1),#[0],1,c,(key H4 e4).2,next H4 e4,vs,e4 ĉ hH2,#[0],?g1],fun v H5 ⟨e5,d,h5,q5⟩=>#[vs,e5 ĉ hH2,JK (HE hn<|HE hi hl)<|by decide +kernel,l.length - (i+1),#[0],1,c,?g2,?g3,vs++[v],ai,by simp;omega,?g4],_,_,b,S3,t4,λH4 e4=>?g5]
   case g1=>rw[htk,h4];simpa using old H4 e4
   case g2=>rw[du];show (key H5 e5).2
   case g3=>
    let#[p5,q2,S5]:=next H5 e5
    show#[p5,q2,λb o q=>?_,S5.len,λj d q=>?_]
    ·rw[du]at q;by_cases z:b=a
     ·rw[z,aF ha]at q;unfold ay at q;rw[if_pos rfl]at q;cases q
     ·rw[aa z];show S5.le b o q
    ·rw[du];show S5.rd j d q
   case g4=>
    rw[du,htk,h5];show (old H5 e5).app (.one q5)
   case g5=>
    change if b=true then _ else _
    cases hf:os[i] with
    | none=>
     cbv
    | some d=>
     rw[hf]at t5;rw[if_pos t5.1];show tP.go (S3.step e4) t5.2 λv H5 e5 S5 q5=>#[e4.trans e5,d,1,by rw[aw e4 e5,(key H5<|e4.trans e5).1]at q5;show q5]
  ·show .inl #[(hJ.mono hFi).stop H' i S0.le<|by omega,hG a H' vs (e1.trans LC) ha hv<|by rwa [IZ<|by omega]at hD]
def opI (ha:H1 a=none)(hv:H' a=!.lst vs)(h:LO (e8W (ay a H')) l vs):DR (e8W H') Ch EH:=
 #[a,vs,1,by simp_all [grow],h.mono λe44=>by
  ext d6D;by_cases n:H1 b=none
  ·simp_all [ay]
  ·rwa [if_neg n]at q ⊢]
abbrev Ri:=En->List D->Prop
inductive tI (ri:Ri)(c7s)(R:It->Ù):∀ F ε l,Sd F σ H ε->ri ε l->(∀ J H',f' H H'->W6 ŏ J l->R J H')
def PI.imp (h:e07 e t)(k:∀ σ H R,t' σ H R->e4o R):e07 e t':=λe1l R I q=>e0j R I UV
section
def Al {K:Ψ}(h:Rd F a (.lst vs))(q:e1e vs):W6 F xI l:=
 #[λe4f=>let ⟨v,e1,e2⟩:=q.at e;#[#[vs,v,.inl<|h.mono s,e1],λx H' ⟨z,y⟩=>#[z▸f'.refl _,by let:=y vs<|.inl (h.mono s);rw[e1]at this;cases this;show e2.mono<|ao s]],λe8J=>#[vs,.inl<|h.mono s,by rw[q.length];show z]]
def b1G (h:e0P (tP r)):e07 e (tI λε l=>r ε Ch):=(zT h).imp λe8N ⟨F,ε,l,S,h,q⟩=>
 tP.go S h λx e13 S1 gR=>by let#[vW]:=gR;show#[a,ex,#[vs,.inl<|.inl (e1J ha)],q _ H1 e1<|Al (.inl ha) hv]
theorem t9 (lo:Int)(n):χ:=(List.range n).map λ(i:Nat)=>.int (lo+(i:Int))
def a3M {lo:Int}:W6 F (ZI lo n) (t9 lo n):=
 #[λe4f=>(by
  unfold t9 at e;rw[Hf]at e;by_cases c:i<n
  ·rw[JA c]at e;cases e;show#[c,λx H' gR=>(by let#[z,y]:=gR;show#[z▸f'.refl _,y])]
  ·rw[IS<|by simpa using c]at e;cases e),λe8J=>show n<=i by unfold t9 at z;simpa using z]
def WC (c7u)(ha:PA X [e] iL)(c8B):e07 (d9E tM) (tI λε l=>∃ n:Nat,n<=1000/\rs ε sQ/\l=t9 0 n):=
 (fY hg hm ha hs).imp λe8N ⟨F,ε,l,S,⟨n,hn,h,hl⟩,q⟩=>e3I h λe5l=>by
  let#[rj,ZL]:=hx
  cases h1;cases h2;show#[n,1,jR,e4u (by rw[hl,J8];show a3M)]
def iR2 (c7u)(ha:PA X yN iL)(c7m):
  PI X tg (.Call tM yN [] pos) (tI λε l=>∃ m n:Nat,m<=1000/\n<=1000/\rs ε [.int m,.int n]/\l=t9 m (n - m)):=
 (Bh hg hm ha hs U5).imp λe8N ⟨F,ε,l,S,⟨m,n,hm,hn,h,hl⟩,q⟩=>e3I h λe5l=>by
  let#[rj,h1,u,ws,1,h2,h3]:=hx
  cases h1;cases h2;cases h3;show#[m,n,1,#[0],e4u (by rw[hl,show ((n) - (m:Int)).toNat=n - m by omega];show a3M)]
def b9V (s)(hT:H T=none)(hx:DR F c x)(hy:e1S y):f' H M1/\DR (d8W M1) (.tup [c,d]) sU:=
 let g:=ao s
 #[aZ Ě hT,T,_,1,by rw[aF hT,ai],x,_,1,hx.mono g,.one<|hy.mono g]
example{x1:Nat}:=0
def iZ (c8j)(ha:PA X yN iL)(c7m):
  PI X Œ qh (tI λε l=>∃ m n,rs ε [.lst m,.lst n]/\l=(m.zip n).map λz=>.tup [z.1,z.2]):=
 (D4 hg hm ha hs U5).imp fun σ H R ⟨F,ε,l,S,⟨m,n,h,hl⟩,q⟩=>e3I h λe5l=>by
  let#[rj,#[Q6],u,ws,1,#[b,us,1,hb,hu],h3]:=hx
  ext d3i;let qb:=λ{H':Hp} (s:f' (e0M H1) H')=>LS.of (K:=X.K)<|s _ _ hb;show⟨a,b,rfl,⟨vs,qa S1.le⟩,⟨us,qb S1.le⟩,e4u ⟨λH2 i d s e=>?_,λH2 i s z=>#[vs,us,qa s,qb s,?_]⟩⟩
  ·rw[hl,Hf]at e
   cases hz:(m.zip n)[i]? with
   | none=>ext d5o
   | some z=>
    ext d5o;let#[z1,z2]:=Lg.mp hz;let#[x,x1,x2]:=hv.at z1;let#[y,y1,y2]:=hu.at z2;show#[#[vs,us,x,y,qa s,qb s,x1,y1],λw H3 gR=>?_];let#[T,hT,ew,x',y',wH,e3]:=gR;ext d5J;let:=q2 us<|qb s;rw[y1]at this;ext d4M;subst e3 ew;show b9V s hT x2 y2
  ·let:=hv.length;let:=hu.length
   grind
def c6F (c81)(ha:PA X [e] iL)(c8B):
  PI X Œ (d9E b78) (tI λε l=>∃ m,rs ε [.lst m]/\l=m.zipIdx.map λz=>.tup [.int z.2,z.1]):=
 (nj X.K hg hm ha rfl hs).imp fun σ H R ⟨F,ε,l,S,⟨m,h,hl⟩,q⟩=>e3I h λe5l=>by
  let#[rj,#[Q6],h3]:=hx
  ext d3i;show⟨a,vs,rfl,e1J ha,e4u ⟨λH2 i d s e=>?_,λH2 i s z=>#[vs,qa s,?_]⟩⟩
  ·rw[hl,Hf,J4]at e
   cases hz:m[i]? with
   | none=>ext d5o
   | some z=>
    ext d5o;let#[x,x1,x2]:=hv.at hz;show#[#[vs,x,qa s,x1],λw H3 gR=>?_];let#[T,hT,ew,x',q1,e3]:=gR;ext d5J;subst e3 ew;show b9V s hT (congrArg (λn:Nat=>V.int n) (Nat.zero_add i).symm) x2
  ·let:=hv.length
   cbv
open e
theorem Ez:Nat->D->List D->Prop
 | 0,d,l=>l=[d]
 | n+1,d,l=>d=.tup l/\l.length=n+1
inductive Tn (n:Nat)(cs:En)(rt:Å)(re:Rx)(x:D):Option D->Prop
 |no {xs:χ}:Ez n x xs->rt EX false->Tn n cs rt re x none
 |yes {xs:χ}{v:D}:Ez n x xs->rt EX true->re EX v->Tn n cs rt re x !v
inductive rL (n:Nat)(js:À)(ri:Ri)(rt:Å)(re:Rx)(c7Q):∀{l:χ}{os:List (Option D)},ri ε l->l.length<=1000->Paired (Tn n (js.map λj=>(ε[j]?).join) rt re) l os->d=.lst BC
def b3i:∀ (n:Nat)(k:Nat)(l:χ)(q p cs:En),l.length=n->q.length=k->p.length=n->wE (List.range' k n) l (q++(p++cs)) (q++c19):=by
 intro r'
 induction r' with
 | zero=>
  ext d8v
  cases KU hl;cases KU hp;show#[2]
 | succ n ih'=>
  ext d8v
  match l,p,hl,hp with
  | d::m,o::p,hl,hp=>
   show#[d,m,1,?_];let:=ih' (k+1) m (q++[!d]) p cs Ŋ (by simp[hq]) (by simpa using hp)
   cbv
theorem pJ (K):Nat->TG
 | 0=>c6 0
 | n+1=>z7 K (n+1) (gNs b8g)
theorem a3u:Nat->D->En->En->Prop
 | 0=>rN 0
 | n+1=>a3t b8g
def ZY (K):∀ n,xx xf (a3u n):=by
 intro r'
 induction r' with
 | zero=>
  show a4i 0
 | succ n ih'=>
  let:=a2h K<|List.range' 0 (n+1);rwa [List.length_range']at this
theorem mW:Nat->Nat
 | 0=>1
 | n+1=>n+1
def b2C:∀ {n:Nat}{d:D}{l:χ}{p cs:En},Ez n d l->p.length=mW n->a3u n d (p++cs) c19/\(l.map some).length=mW n:=by
 intro r'
 induction r' with
 | zero=>
  intro d l p cs h hp
  match p,hp with
  | [o],_=>rw[show l=[d] from h];show#[2]
 | succ n ih'=>
  intro d l p cs y4' hp;let#[ZL]:=y4';show #[#[l,h1,by cbv,b3i (n+1) 0 l [] p cs h2 rfl hp],by rw[GP];show h2]
variable {K:Ψ}
def rQ {os:List Dc}(c7r)(hJ:W6 F J l)(hl:l.length<=1000)(ht:Paired b0p l os)(hG:∀ a H' vs,f' H H'->H a=none->H' a=!.lst vs->LO (d8W (ay a H')) BC vs->G a H'):e5t G J H:=
 Ep os (ZY K n) S hJ hl rfl (Paired.length ht).symm (λe79 i d o e12=>by
  let#[o',AU]:=Paired.at ht h1;rw[h2]at h3;cases h3
  cases h4 with
  | no h4 h5=>
   let#[sV]:=b2C h4 hp;show#[_,g2,g1,_,h5,1]
  | yes h4 h5 h6=>
   let#[sV]:=b2C h4 hp;show#[_,g2,g1,_,h5,1,h6]) hG
def oz (h:tP DP σ H Q):e3j Q:=
 have ⟨F,ε,d,S,.mk (l:=l) h1 h2 h3 h4,q⟩:=h
 #[EL,l,S,h1,λJ e13 hJ=>rQ rK hJ h2 h3 λf1w=>q _ H2 Ł (by let:=opI ha hv hd;rw[aw e1 e2]at this;rw[h4];show this)]
def dL (c7O)(hi)(c6V):e33 (tP DP):=(e1K hs).imp λe05=>oz
def Q3.imp (h:Q3 X ifs t)(c69):Q3 X ifs t':=λe0A q=>e77 UV
theorem Bb:Å:=λ_ b=>b=true
def df0:Q3 X [] (Qk Bb):=b3p.imp λe1E=>by let#[EL,b,S,h,q]:=gR;subst h;show q H Ě
open e
variable {α:Type}
def jj:∀ {xs:List α},(∀ x∈xs,P (f x) (g x))->Paired P (xs.map f) (xs.map g):=by
 intro r'
 induction r' with
 | nil=>
  intro _;show .nil
 | cons x xs ih'=>
  intro h;show .cons (h x Ha) (ih' λe3G=>h y<|Hk _ hy)
def be (c7v):e7Q (.lst (xs.map h)):=
 .mk hi Ŋ (jj λe0Z=>let ⟨l,a,b⟩:=k x hx;.yes a rfl b) ě
def bh (d1c){u h:α->D}(c:α->Bool)(hi:ri ε yE)(hl:xs.length<=1000)(k:∀ x∈xs,∃ l,Ez n (u x) l/\rt DS (c x)/\(c x=true->re DS (h x))):rL n js ri rt re ε (.lst ((xs.filter c).map h)):=
 .mk (os:=xs.map λx=>if c x=true then some (h x) else none) hi Ŋ (jj λe0Z=>by
  let#[l,a,b,d]:=k x hx;by_cases z:c x=true
  ·ext d6L;show .yes a (z▸b) (d z)
  ·ext d7V;show .no a<|Bool.eq_false_iff.mpr z▸b) (by
  congr 1;rw[List.filterMap_map];clear hi hl k
  induction xs with
  | nil=>rfl
  | cons x xs ih=>
   rw[Il,Ki];by_cases z:c x=true
   ·cbv
   ·simp only[Function.comp_apply,if_neg z];show ih)
open e
inductive Sl where
 |un|fz (d:D)|ow (d:D)
abbrev Ev:=List Sl
theorem Sl.z:Sl->Option D
 | .fz d=>!d
 | _=>none
theorem Sl.a:Sl->Option D
 | .un=>none
 | .fz d=>!d
 | .ow d=>!d
theorem Vu (F H:Hp):D->Addr->Prop
 | .lst l,a=>∃ vs,H a=!.lst vs/\LO F l vs
 | .dct k l,a=>∃ ķ,H a=!.dK ķ/\ķ.map (·.1)=k/\LO F l ĸ
 | _,_=>False
def Vu.some:∀ {d:D}{a:Addr},e8q a->H a≠none:=by
 intro d a h z
 cases d<;>first|(let#[_,h,_]:=h;rw[h]at z;cases z)|cases h
def Vu.mono (c9t):∀ {d:D}{a:Addr},(∀ o,H a=Option.some o->H' a=Option.some o)->e8q a->Vu F' H' d a
 | .lst _,_,s,⟨vs,h,q⟩=>#[vs,s _ h,q.mono e]
 | .dct _ _,_,s,⟨vs,h,k,q⟩=>#[vs,s _ h,k,q.mono e]
def Vu.dr (e:f' F G):∀ {d:D}{a:Addr},(∀ o,H a=Option.some o->G a=Option.some o)->e8q a->DR G d EH
 | .lst _,a,s,⟨vs,h,q⟩=>#[Dl,s _ h,q.mono e]
 | .dct _ _,a,s,⟨vs,h,k,q⟩=>#[a,vs,1,.inl<|s _ h,k,q.mono e]
structure Ss (F0 H0 F:Hp)(c7s)(ε:Ev):Prop where
 b0:f' H0 H
 f0:f' F0 H0
 up:f' F0 F
 lo:f' F Ah
 len:ε.length<=σ.length
 rz:∀ (i:Nat) d,ε[i]?=!.fz d->∃ v,σ[i]?=!some v/\DR F d v
 ro:∀ (i:Nat) d,ε[i]?=!.ow d->∃ a,σ[i]?=!some EH/\F a=none/\H0 a=none/\Vu F H d a
 ap:∀ (i j:Nat) c d a,i≠j->ε[i]?=!.ow c->ε[j]?=!.ow d->σ[i]?=!some EH->σ[j]?≠!some EH
variable {F0 H0 F F' H H1:Hp}{σ:St}{ε:Ev}
def Ss.le (S):f' F H:=λa o q=>aM S.f0 S.b0 a o (S.lo a o q)
def b8 (s:f' H H1):f' Ah (e5u H1):=λa o q=>by
 ext d6D;by_cases n:H0 a=none
 ·rw[if_pos n]at q ⊢;show s ĉ q
 ·rwa [if_neg n]at q ⊢
def Ss.step (S)(c9u)(u:f' F F')(l:f' F' (e5u H1))(n:∀ a,F a=none->H a≠none->F' a=none):f00 σ H1 ε where
 b0:=S.b0.trans e
 f0:=S.f0
 up:=S.up.trans u
 lo:=l
 len:=S.len
 rz:=λe8H=>let ⟨v,a,b⟩:=S.rz i d q;#[v,a,b.mono u]
 ro:=λe8H=>let ⟨a,p1,p2,p3,p4⟩:=e6X d q;#[a,p1,n a p2 p4.some,p3,p4.mono u<|e a]
 ap:=S.ap
def Ss.N0 (S)(c9u):e6p H1 ε:=S.step e Ě (S.lo.trans<|b8 e) λ_ h _=>h
def Ss.grow (S)(c9u):e0N nH σ H1 ε:=S.step e we (λa o q=>by
 unfold L2.grow at q;by_cases n:H a=none
 ·rw[if_pos n]at q;rw[aF (by cases z:H0 a with
   | none=>rfl
   | some u=>rw[S.b0 ĉ z]at n;cases n)]
  show q
 ·rw[if_neg n]at q;show b8 e ĉ<|S.lo _ _ q) λa h k=>by ext1 L2.grow;rw[if_neg k];show h
def Ss.z (S):e7P H Em:=#[S.le,by simpa using S.len,λe8H=>by
 rw[Hf]at q
 cases h:ε[i]? with
 | none=>rw[h]at q;cases q
 | some s=>
  rw[h]at q
  cases s with
  | fz c=>cases q;show S.rz i _ h
  | _=>cases q]
def Ss.a (S):Sd (L2.grow F0 H0 H) σ H ī:=#[aM S.f0 S.b0,by simpa using S.len,λe8H=>by
 rw[Hf]at q
 cases h:ε[i]? with
 | none=>rw[h]at q;cases q
 | some s=>
  rw[h]at q
  cases s with
  | un=>cases q
  | fz c=>cases q;let#[v,a,b]:=S.rz i _ h;show#[v,a,b.mono S.lo]
  | ow c=>cases q;let#[a,BG]:=e6X _ h;show#[_,p1,p4.dr S.lo λo z=>by rw[aF p3];show z]]
def Ss.V8 (S)(c82)(i):e0N F wj H px:=by
 let len:=S.len;let old:∀ {j:Nat}{s:Sl},(ε.set i<|.fz d)[j]?=!s->(i=j/\s=.fz d/\_[j]?=!some v)\/(i≠j/\ε[j]?=!s/\(σ.set i<|some v)[j]?=σ[j]?):=λ{j s} q=>by
  ext d8w
  ·lia
  ·ext d4k;show .inr b7y
 show#[S.b0,S.f0,S.up,S.lo,by simpa using len,λj c q=>?_,λj c q=>?_,λj k c e a n q1 q2 z1 z2=>?_]
 ·rcases old q with⟨_,q2,q3⟩|⟨_,q2,q3⟩
  ·cases q2;show#[v,q3,h]
  ·rw[q3];show S.rz j c q2
 ·rcases old q with⟨_,q2,_⟩|⟨_,q2,q3⟩
  ·cases q2
  ·rw[q3];show S.ro j c q2
 ·rcases old q1 with⟨_,y,_⟩|⟨_,y1,y2⟩
  ·cases y
  ·rcases old q2 with⟨_,y,_⟩|⟨_,y3,y4⟩
   ·cases y
   ·rw[y2]at z1;rw[y4]at z2;show S.ap j k c e a n y1 y3 z1 z2
def Ss.frz (S)(h:ε[i]?=!.ow d):∃ F',f' F F'/\Ss F0 H0 F' σ H px:=by
 let#[a,BG]:=e6X d h;show let F':=λb=>if b=a then H a else F b;?_
 let u:f' F F':=λe44=>by
  lia
 let old:∀ {j:Nat}{s:Sl},(ε.set i<|.fz d)[j]?=some s->(i=j/\s=.fz d)\/(i≠j/\ε[j]?=some s):=λ{j s} q=>by
  rw[Jj]at q;ext d3O
  ·cbv
  ·ext d4k;show .inr #[c,q]
 show#[F',u,S.b0,S.f0,S.up.trans u,c4U,c3J]
 ·by_cases z:b=a
  ·rw[show F' b=H a from if_pos z]at q;rw[z,aF p3];show q
  ·rw[show F' b=F b from if_neg z]at q;show S.lo ĉ q
 ·rcases old q with⟨y1,y⟩|⟨_,y⟩
  ·cases y;subst y1;show#[_,p1,p4.dr u λo z=>(if_pos rfl).trans z]
  ·let#[v,x1,x2]:=S.rz j c y;show#[v,x1,x2.mono u]
 ·rcases old q with⟨_,y⟩|⟨y1,y⟩
  ·cases y
  ·let#[b,x1,x2,x3,x4]:=f0b c y;show#[b,x1,(if_neg λz:b=a=>S.ap i j d c a y1 h y p1<|z▸x1).trans x2,x3,x4.mono u λ_ z=>z]
 ·rcases old q1 with⟨_,y⟩|⟨_,y1⟩
  ·cases y
  ·rcases old q2 with⟨_,y⟩|⟨_,y2⟩
   ·cases y
   ·show S.ap j k c e b n y1 y2 z1 z2
def Ss.a7v {a:Addr}(S)(i)(ha:H a=none)(c9u)(h:Vu (ay a (L2.grow F H H1)) H1 d a):∃ F',f' F F'/\Ss F0 H0 F' (σ.set i !.ref a) H1 iA:=by
 let len:=S.len;let u:f' F (ay a<|L2.grow F H H1):=λe44=>by rw[aA (λz=>by rw[z]at q;rw[e36 q]at ha;cases ha)];show ao S.le ĉ q
 let ha0:H0 a=none:=by cases z:H0 a with
  | none=>rfl
  | some o=>rw[S.b0 ĉ z]at ha;cases ha
 let S2:=S.step e u (LC.trans (S.grow e).lo) λb p q=>by
  ext1 ay L2.grow
  cbv
 let old:∀ {j:Nat}{s:Sl},(ε.set i<|.ow d)[j]?=!s->(i=j/\s=.ow d/\(σ.set i<|some EH)[j]?=!(some<|.ref a))\/(i≠j/\ε[j]?=some s/\_[j]?=σ[j]?):=λ{j s} q=>by
  ext d8w
  ·lia
  ·ext d4k;show .inr b7y
 let far:∀ {j:Nat}{c:D},ε[j]?=!_->σ[j]?≠!(some<|.ref a):=λ{j c} q z=>by let#[b,x1,_,_,x4]:=f0b c q;rw[x1]at z;cases z;show x4.some ha
 show#[_,u,S2.b0,S2.f0,S2.up,S2.lo,by simpa using len,c3J]
 ·rcases old q with⟨_,y,_⟩|⟨_,y,y3⟩
  ·cases y
  ·rw[y3];show S2.rz j c y
 ·rcases old q with⟨_,y,y3⟩|⟨_,y,y3⟩
  ·cases y;show#[a,y3,if_pos rfl,ha0,h]
  ·rw[y3];show S2.ro j c y
 ·rcases old q1 with⟨y1,y2,y3⟩|⟨y1,y2,y3⟩
  ·cbv
  ·rcases old q2 with⟨_,_,w3⟩|⟨_,w2,w3⟩
   ·cbv
   ·rw[y3]at z1;rw[w3]at z2;show S.ap j k c e b n y2 w2 z1 z2
def Ss.chg {a:Addr}(S)(h:ε[i]?=!.ow c)(ha:σ[i]?=!some EH)(hn:Vu F tY d a):e6p tY iA:=by
 let#[b,BG]:=e6X c h;let old:∀ {j:Nat}{s:Sl},(ε.set i<|.ow d)[j]?=some s->(i=j/\s=.ow d)\/(i≠j/\ε[j]?=some s):=λ{j s} q=>by
  rw[Jj]at q;ext d3O
  ·cbv
  ·ext d4k;show .inr #[c,q]
 show#[λe44=>?_,S.f0,S.up,c4U,λj c q=>?_,λj c' q=>?_,λj k c' e b n q1 q2 z1 z2=>?_]
 ·ext d4a;show S.b0 ĉ q
 ·let q':=S.lo ĉ q;unfold L2.grow at q' ⊢;ext d4a;show q'
 ·rcases old q with⟨_,y⟩|⟨_,y⟩
  ·cases y
  ·show S.rz j c y
 ·rcases old q with⟨y1,y⟩|⟨y1,y⟩
  ·cbv
  ·let#[b,x1,x2,x3,x4]:=f0b c' y;show#[b,x1,x2,x3,x4.mono Ě λo z=>by rw[aa (λzz:b=a=>S.ap i j c c' a y1 h y ha<|zz▸x1)];show z]
 ·rcases old q1 with⟨y1,y⟩|⟨y1,y⟩
  ·cases y;rcases old q2 with⟨w1,_⟩|⟨_,w⟩
   ·show n (y1.symm.trans w1)
   ·subst y1;show S.ap i k c e b n h w z1 z2
  ·rcases old q2 with⟨w1,w⟩|⟨_,w⟩
   ·cases w;subst w1;show S.ap j i c' c b n y h z1 z2
   ·show S.ap j k c' e b n y w z1 z2
open e
inductive Fl where
 |nx (ε:Ev)|rt (d:D)
abbrev Rs:=Ev->Fl->Prop
theorem YH (F0 H0 F:Hp)(E:Ends):Fl->Prop
 | .nx ε=>∀ σ H F',f' F F'->f00 σ H ε->E.nx σ H
 | .rt d=>∀ x H,f' H0 H->f' F H->DR Ah d x->E.rt x H
def YH.up (c9t):∀ {f:Fl},e51 F E f->e51 F' E f
 | .nx _,h=>λe3i F2 u S=>h σ H F2 (e.trans u) S
 | .rt _,h=>λx H a b=>h x H a (e.trans b)
inductive tQ (F0 H0:Hp)(r:Rs)(E:Ends)(c7s):∀ F ε f,Ss F0 H0 F σ H ε->r ε f->YH F0 H0 F E f
theorem QS (X)(st)(r:Rs):Prop:=∀ F0 H0,e0Q jB
theorem S9 (X)(st:Í)(r:Rs):Prop:=∀ F0 H0,Q2 X st jB
def PS.imp (h:PS X e t)(d0d):PS X e t':=λe1l D I q=>e0j D I UV
def Q2.imp (h:Q2 X e t)(d0d):Q2 X e t':=λe1l D I q=>e0j D I UV
variable {st:Stmt}{r r2:Rs}{re:Rx}{rt:Å}
def q0:S9 X [] λε f=>f=.nx ε:=λe1Q=>ML.imp λe0g=>by let#[ZG]:=gR;subst h;show p σ H F Ě S
inductive qQ (r r2:Rs)(ε:Ev):Fl->Prop
 |nx {ε1:Ev}{f:Fl}:r ε (.nx ε1)->r2 ε1 f->qQ r r2 ε f
 |rt {d:D}:r ε vX->qQ r r2 ε vX
def qC (c9O)(k:S9 X ss r2):S9 X (st::ss) (qQ r r2):=λe1Q=>(af wJ<|k F0 H0).imp λe0g=>by
 ext d6Y
 cases h with
 | nx h1 h2=>show#[Bv,λe3O=>#[c6J]]
 | rt h1=>show#[Bv,p]
def q1 (c9O):S9 X [st] r:=λe1Q=>aq wJ
def b4A:QS X st λ_ _=>False:=λe1Q=>a2E.imp λe0g=>by let#[ZG]:=gR;show h.elim
def qZ (i)(h:S9 X ss r):S9 X ss λε f=>∃ d,ε[i]?=!.ow d/\r px f:=λe1Q=>(h F0 H0).imp λe0g=>by let#[EL,f,S,#[d,ZL],p]:=gR;let#[F',u,S']:=S.frz h1;show#[c6J]
inductive Fq (i:Nat)(c8C):Fl->Prop
 |mk {d:D}:re Em d->Fq i re ε (.nx px)
def qS (h:e0Q GF)(c9L):e2L (Fq i re):=λe1Q=>h.imp λe0g=>by let#[ZG]:=gR;let#[h1]:=h;show k Ĉ (f0c h1 λe0E=>p _ H1 _ we<|(S.grow e1).V8 q1 i)
theorem pR:D->Bool
 | .non|.bl _|.int _|.str _=>true
 | _=>false
def Go:∀ {d:D}{v:V},pR d=true->e1S v->DR G d v:=by
 intro d v h i
 cases d<;>first|show i|cases h
inductive tN (re:Rx)(c7s)(Q:VK):∀ F ε d,Sd F σ H ε->re ε d->a8W
def tN.p (h:tP re σ H Q):tN re σ H Q:=let ⟨F,ε,d,S,h1,q⟩:=h;#[tj,h1,λa H' e n w=>q _ H' e (w.dr LC λo z=>by rw[aF n];show z)]
inductive CK (i:Nat)(c8C):Fl->Prop
 |mk {d:D}:re Em d->CK i re ε (.nx iA)
def qO (h:e0Q GF)(k:∀ σ H Q,tN re σ H Q->te σ H Q):e2L (CK i re):=λe1Q=>h.imp λe0g=>by let#[ZG]:=gR;obtain @⟨d,h1⟩:=h;show k Ĉ #[F,_,d,S.z,h1,λa e13 n w=>?_];let#[F',u,S']:=S.a7v i n e1 w;show p _ H1 F' u S'
inductive a0p (c8C)(f:Fl):∀{d:D},re ī d->f=.rt d
def qR (d1X):QS X c0g (a0p re):=λe1Q=>(bo h).imp λe0g=>by let#[EL,f,S,#[ZL],p]:=gR;subst h2;show tP.go S.a h1 λe0E=>p x H1 (S.b0.trans e1) (S.le.trans e1) (by rw[aw S.b0 e1]at q1;show q1)
inductive rIf (rt:Å)(rx ry:Rs)(ε:Ev)(f:Fl):Prop
 |t:rt ī true->rx ε f->rIf rt rx ry ε f
 |f:rt ī false->ry ε f->rIf rt rx ry ε f
def qI (h:e8f Ee)(ha:S9 X a rx)(hb:S9 X b ry):QS X zh (rIf rt rx ry):=λe1Q=>(fm h (ha F0 H0)<|hb F0 H0).imp λe0g=>by
 ext d6Y
 cases h with
 | t h1 h2=>show#[_,_,true,c6K]
 | f h1 h2=>show#[_,_,false,c6K]
inductive lf (rt:Å)(rb:Rs):Nat->Ev->Fl->Prop
 |done {n:Nat}{ε:Ev}:rt ī false->lf rt rb n ε AT
 |next {n:Nat}{ε ε2:Ev}{f:Fl}:rt ī true->rb ε Ce->lf rt rb n ε2 f->lf rt rb (n+1) ε f
 |ret {n:Nat}{ε:Ev}{d:D}:rt ī true->rb ε vX->lf rt rb n ε vX
theorem rWh (rt:Å)(rb:Rs):Rs:=λε f=>∃ n,f1d f
instance qW (hp)(hc:PT X c (Qk rt))(hb:S9 X ss rb):QS X (.While c ss [] pos) (rWh rt rb):=λF0 H0=>(CY hp hc<|hb F0 H0).imp λE σ H gR=>by
 let#[F,ε,f,S,#[n,h],p]:=gR;show#[λm σ H=>∃ F' ε',f' F F'/\Ss F0 H0 F' σ H ε'/\lf rt rb m ε' f,#[n,F,ε,f'.refl _,S,h],fun m σ H ⟨F',ε',u,S',w⟩=>?_]
 cases w with
 | done t=>show#[_,_,false,S'.a,t,λH1 e1=>p σ H1 F' u<|S'.N0 e1]
 | next t b w=>show#[_,_,true,S'.a,t,λH1 e1=>#[λσ' H'=>∃ F2,f' F F2/\Ss F0 H0 F2 σ' H' _,λσ2 H2 gR=>(by let#[F2,u2,S2]:=gR;show#[_,IK _,F2,_,u2,S2,w]),F',ε',_,S'.N0 e1,b,λσ2 H2 F2 u2 S2=>#[F2,u.trans u2,S2]]]
 | ret t b=>show#[_,_,true,S'.a,t,λH1 e1=>#[λ_ _=>False,λ_ _ z=>z.elim,F',ε',_,S'.N0 e1,b,p.up u]]
abbrev _root_.Ú:=Ev->Prop
abbrev _root_.Õ:=D->Ev->Ú
theorem YE (g:TG)(q:Õ):Prop:=∀ (F0 H0 F H:Hp) σ ε ε' d x (Q:Υ),e6p H ε->e1S x->q d ε ε'->(∀ σ',e0N F σ' H ε'->Q σ' H)->e4q H Q
def aN (i):YE lW λd ε ε'=>ε'=ε.set i (.fz d):=λe1Q e9L=>q _ (by subst r;show S.V8 h i)
theorem a1Q:List Nat->List D->Ev->Ev
 | i::is,d::l,ε=>f0d px
 | _,_,ε=>ε
def a2d:∀ (is:À)(F0 H0 F H:Hp) σ ε l xs (Q:Υ),e6p H ε->e1e xs->l.length=is.length->(∀ σ',e0N F σ' H (f0d ε)->Q σ' H)->f1c Q:=by
 intro r'
 induction r' with
 | nil=>
  ext d50
  cases KU r;show#[h,q σ S]
 | cons i is ih'=>
  ext d50
  match l,r with
  | d::m,r=>
   let#[rj,ZL]:=h;show#[rj,ih' F0 H0 F H ĉ m ws Q (S.V8 h1 i) h2 (by simpa using r) q]
def dU (K)(is:À):YE b5M λd ε ε'=>∃ l,d=.tup l/\l.length=is.length/\ε'=f0d ε:=λe1Q e9L=>by let#[l,1,hl,1]:=r;let#[Q6]:=h;show#[a,vs,1,NC.of<|e36 ha,by rw[hv.length,hl],a2d is F0 H0 F H σ ε l vs Q S hv hl q]
inductive lT (d0R):Ev->List D->Fl->Prop
 |done {ε:Ev}:lT q rb ε [] AT
 |next {ε ε1 ε2:Ev}{d:D}{l:χ}{f:Fl}:q d ε ε1->rb ε1 Ce->lT q rb ε2 l f->lT q rb ε (d::l) f
 |ret {ε ε1:Ev}{d v:D}{l:χ}:q d ε ε1->rb ε1 (.rt v)->lT q rb ε (d::l) (.rt v)
instance nO {tb:TS}(XO:∀ E σ H,tQ F0 H0 rb E σ H->tb E σ H)(hg:YE g q)(S:Ss F0 H0 F1 σ H1 ε)(hJ)(h:lT q rb ε l f)(p:YH F0 H0 F1 E f):
  ∃ W:Nat->Nat->Υ,(∃ m,W 0 m σ H1)/\∀ i m σ H,W i m σ H->
   (J.stop i H/\E.nx σ H)\/(J.go i H/\∃ N:Υ,ġ/\∀ x H',J.XE i H x H'->g x σ H' λσ2 H2=>tb { E with nx:=N,ct:=N,bk:=E.nx } σ2 H2):=by
 show#[λi m σ H=>m=l.length - i/\i<=l.length/\∃ F' ε',f' F1 F'/\Ss F0 H0 F' σ H ε'/\lT q rb ε' (l.drop i) f,#[_,1,HP _,F1,ε,f'.refl _,S,h],?_];rintro i m σ H ⟨rfl,hi,F',ε',u,S',w⟩;by_cases c:i<l.length
 ·rw[Jd c]at w;let#[go,yl]:=(hJ.mono u).go H i l[i] S'.le<|GR c;show .inr #[go,?_]
  cases w with
  | next t b w=>
   show#[λσ' H'=>∃ F2,f' F1 F2/\Ss F0 H0 F2 σ' H' _,λσ2 H2 gR=>(by let#[F2,u2,S2]:=gR;show#[_,#[0],1,c,F2,_,u2,S2,w]),λx H2 y=>?_];let#[e2,hx]:=yl x H2 y;show hg ą ą x _ (S'.grow e2) hx t λσ3 S3=>XO Ĉ #[_,_,_,S3,b,λσ4 H4 F4 u4 S4=>#[F4,u.trans<|(ao S'.le).trans u4,S4]]
  | ret t b=>
   show#[λ_ _=>False,λ_ _ z=>z.elim,λx H2 y=>?_];let#[e2,hx]:=yl x H2 y;show hg ą ą x _ (S'.grow e2) hx t λσ3 S3=>XO Ĉ #[_,_,_,S3,b,p.up<|u.trans (ao S'.le)]
 ·rw[List.drop_of_length_le<|by omega]at w
  cases w;show .inl #[(hJ.mono u).stop H i S'.le<|by omega,p σ H F' u S']
inductive lj (ri:Ri)(d0R)(ε:Ev)(f:Fl):∀{l:χ},ri Em l->lT q rb ε l f
def a8S (hp)(hc)(hi)(c7p):
  QS X Op a7I:=λe1Q=>(bB hp hc hi ht (hb F0 H0) hs).imp fun E σ H ⟨F,ε,f,S,.mk (l:=l) h1 h2,p⟩=>
 #[F,_,l,S.z,h1,λJ e13 hJ=>nO (λe0c=>h) hg B2 hJ h2<|p.up we]
inductive V' (c8C)(d:D):Prop
 |z:re Em d->V' re ε d
 |a:re ī d->pR d=true->V' re ε d
def V'.go (S)(h:V' re ε d)(k:∀ x H1 F',f' H H1->f' F F'->f00 σ H1 ε->e99 x->Q x H1):tP re σ H Q:=by
 cases h with
 | z h=>show tP.go S.z h λe0E=>k x H1 _ e1 we B2 q1
 | a h hf=>show tP.go S.a h λe0E=>k x H1 _ e1 Ě (S.N0 e1) (Go hf q1)
inductive YV (i:Nat)(c8C):Fl->Prop
 |mk {l:χ}{d:D}:ε[i]?=!.ow Ch->l.length<=1000->V' re ε d->YV i re ε (d81 (.lst (l++[d])))
def qA {K:Ψ}(h:e0Q (rG (tBM K "list" iH yI (bO te jc))))(c9L):e2L (YV i re):=λe1Q=>h.imp λe0g=>by let#[ZG]:=gR;let#[Lf]:=h;let#[v5,p5]:=e6X _ h1;show#[_,p1,.inl c2a,k Ĉ<|h3.go S λe3D F' e1 u S1 q1=>#[a,vs,x,2,e1I p4,JK (by rw[p5.length];show h2)<|by decide +kernel,p σ _ F' u<|S1.chg h1 p1 #[_,ai,(p5.mono u).app<|.one q1]]]
open e
variable {K:Ψ}{st:Stmt}{k:Nat}
theorem ent (n)(l:χ):Ev:=l.map .fz++List.replicate (n - l.length) .un
def jD (N:η)(s)(h:e1e vs):Ss F H F Ų H (ent N.length l):=by
 let hl:=h.length;show#[f'.refl _,s,f'.refl _,ao s,by simp[ent,start,hl],c5X]
 ·unfold ent at q;by_cases c:i<l.length
  ·rw[HQ<|by simpa using c,Hf]at q
   cases z:l[i]? with
   | none=>ext d5R
   | some e=>
    ext d7W;show#[v,by ext1 start;rw[HQ<|by simp[hl,c],Hf,a];rfl,b]
  ·rw[HU<|by simpa using c]at q
   cases (Jg<|GY q)
 all_goals
  rcases Hx.mp (GY q) with z|z
  ·cbv
  ·cbv
theorem Gr (n m:Nat)(r:Rs)(R:Ä):Prop:=∀ l d,R l d->l.length=m/\(r (ent n l) vX\/d=.non/\∃ ε,r (ent n l) AT)
def Gr.ok {ps:η}(t:Gr N.length ps.length r R)(h:e7R E):vs.length=ps.length/\∃ F,tQ F H r { nx:=λ_ H'=>e2y H',rt:=Q } Ų H:=by
 let#[F,l,d,s,hl,hR,q]:=h;let#[hn,t]:=t l d hR;show#[by rw[hl.length,hn],F,?_];rcases t with t|⟨rfl,ε,t⟩
 ·show#[F,_,_,jD N s hl,t,λx H' e _ z=>q x H' e z]
 ·show#[F,_,_,jD N s hl,t,λσ H' F' u S'=>q _ H' S'.b0 rfl]
def OT.dv (c7f)(c63):d98 uR:=
 F.ok S b5r λe2C=>let ⟨_,F,z⟩:=t.ok h;#[c3i,z]
def MO.dv (c9P)(c63):d98 uR:=
 MO.ok F S b5r λe2C=>let ⟨_,F,z⟩:=t.ok h;#[c3i,z]
open e
variable {K:Ψ}{b c e:Expr}{rs:Á}{F H:Hp}
inductive fI (C:Int->Int->Prop)(g:Int->Int->D):D->D->D->Prop
 |mk {i j:Int}:C i j->fI C g Ge uI sx
def NR (d05):TJ (fI C λi j=>RH sx) (rI C g):=λe0w=>by obtain @⟨i,j,hc⟩:=z;show#[i,j,hu,hv,hc,e0U (Du<|h i j)]
def eA (d05):TJ (d9d sx) (XG g):=λe0w=>by obtain @⟨i,j,_⟩:=z;show#[i,j,hu,hv,e0U (Du<|h i j)]
theorem fv:D->V
 | .bl b=>.bl b
 | .int i=>.int i
 | .str x=>.str x
 | _=>.non
def kC:∀ {d:D}{v:V},pR d=true->e1S v->v=fv d:=λ{d _} f h=>by cases d<;>first|show h|cases f
def pL:∀ {l:χ}{vs:π},l.all pR=true->e1e vs->vs=l.map fv
 | [],_,_,h=>h
 | d::l,_,hf,⟨v,ws,q1,q2,q3⟩=>by rw[Lp,IM]at hf;rw[q1,kC hf.1 q2,pL hf.2 q3];rfl
def b8B:∀ {d:D},pR d=true->eX (fv d)=true
 | .non,_=>rfl
 | .bl _,_=>rfl
 | .int _,_=>rfl
 | .str _,_=>rfl
inductive fE (d0S):pR x=true->pR y=true->Aj (fv x) (fv y)=true->d=.bl (if n=true then not (decide (fv x=fv y)) else decide (fv x=fv y))
def cF:TJ EY rEq:=λd99 gR hu hv q=>by let#[AS]:=gR;rw[kC h1 hu,kC h2 hv];show#[c5g]
def b1E:TJ (fE true) rNe:=λd99 gR hu hv q=>by let#[AS]:=gR;rw[kC h1 hu,kC h2 hv];show#[c5g]
theorem isN:D->Bool
 | .non=>true
 | _=>false
def b8n:∀ {d:D}{v:V},e1S v->decide (v=.non)=isN d:=by
 intro d v h
 cases d<;>first|(rw[h];rfl)|(let#[_,_,h,_]:=h;rw[h];rfl)|(let#[BY,h,_]:=h;rw[h];rfl)
inductive fN (n:Bool)(x:D):D->D->Prop
 |mk:fN n x .non (.bl (if n=true then not (isN x) else isN x))
def b0X:TJ (fN false) a7m:=λe0w=>by cases z;show#[c4Z]
def b31:TJ (fN true) a6m:=λe0w=>by cases z;show#[c4Z]
inductive Sq:D->List D->Prop
 |lst {l:χ}:Sq Ch l
 |scr {l:χ}:Sq (.scr l) l
def Sq.at (q:Sq d l)(c82):∃ a vs,v=.ref a/\Rd F a (.lst vs)/\LO F l vs:=by
 cases q with
 | lst=>let⟨a,vs,h1,h2,h3⟩:=h;show#[a,vs,h1,.inl h2,h3]
 | scr=>show h
def LO.RC {l:χ}{vs:π}{i:Int}{d:D}(h:e1e vs)(e:RC l i=!d):∃ v,L2.RC vs i=!v/\DR F d v:=by
 unfold L2.RC at e ⊢;rw[h.length]
 cases z:WB l.length i with
 | none=>ext d3Y
 | some j=>rw[z]at e;show h.at e
def a8h (s)(h1:Sq x l)(h3:L2.RC l i=!d)(hu:DR F x u)(hv:DR F Ge v)(q):i5 K u v H Q:=by let#[iC]:=h1.at hu;let#[w,p3,p4]:=p2.RC h3;show#[a,vs,i,w,1,hv,.inl<|p1.mono s,p3,e0U p4]
def a8g (s)(h3:L2.RC l i=!d)(hu:DR F jC u)(hv:DR F Ge v)(q):CQ K u v H Q:=by let#[iC]:=hu;let#[w,p3,p4]:=p2.RC h3;show#[a,vs,i,w,1,hv,NC.of<|s _ _ p1,p3,e0U p4]
inductive qU:D->List D->Prop
 |sq {x:D}{l:χ}:Sq x l->qU x l
 |tup {l:χ}:qU jC l
inductive fIn (d0S):∀{l:χ},qU y l->pR x=true->l.all pR=true->d=.bl (if n=true then not (XM (fv x) (l.map fv)) else XM (fv x) (l.map fv))
def a8i:TJ (fIn n) (rIn K n):=λe0w=>by
 obtain @⟨l,h1,h2,h3,h4⟩:=z;let hf:(l.map fv).all eX=true:=by rw[Jy,Io];show λe8a=>b8B (Io.mp h3 z hz)
 rcases h1 with h1|_
 ·let#[iC]:=h1.at hv;show#[a,l.map fv,1,.inl<|pL h3 p2▸.inl (p1.mono s),by rw[kC h2 hu];show b8B h2,hf,e0U (by rw[h4,kC h2 hu];rfl)]
 ·let#[iC]:=hv;show#[a,l.map fv,1,.inr<|pL h3 p2▸NC.of (s _ _ p1),by rw[kC h2 hu];show b8B h2,hf,e0U (by rw[h4,kC h2 hu];rfl)]
def kh (s)(q)(h:∀ a G,f' F G->G a=!o->DR G d EH):NX H o Q:=λp H2 e n z=>q _ H2 e (h p _ (ao s) (by rw[aF n];show z))
inductive a5l:D->D->D->Prop
 |mk {l m:χ}:l.length+m.length<=10000->a5l Ch Pi (.lst (l++m))
def a3K:TJ a5l CS:=λe0w=>by obtain @⟨l,m,h3⟩:=z;let#[iC]:=hu;let#[b,us,1,p3,p4]:=hv;show#[a,b,vs,us,2,s ĉ p1,s ĉ p3,HE (by rw[p2.length,p4.length];show h3)<|by decide +kernel,kh s q λe46=>#[c,_,1,z,(p2.mono e).app<|p4.mono e]]
theorem Cb (R:Ä)(c9j):Prop:=∀ (F H:Hp) l xs d (Q:VK),f' F H->R l d->e1e xs->b1v->r xs H Q
def tP.cb (k:Cb R r)(h:tP iE σ H Q):tCB r iL σ H Q:=by obtain⟨F,ε,d,S,@⟨l,h1,h2⟩,q⟩:=h;show NO.go S h1 λe9K=>k _ H1 l xs d Q S1.le h2 q1 λz e1v q2=>q z H2 Ł (by rwa [aw e1 e2]at q2)
inductive a5G:Ä
 |mk {x:D}{m:χ}:qU x m->a5G [x] (.int m.length)
def a1W:Cb a5G b6q:=λf1x=>by
 ext d4C
 ·let#[iC]:=h2.at p;show#[a,vs,1,.inl<|.inl (p1.mono s),by rw[p2.length];show tP.at s q rfl]
 ·let#[iC]:=p;show#[a,vs,1,.inr<|NC.of (s _ _ p1),by rw[p2.length];show tP.at s q rfl]
def jx {ns:Ξ}(h:LO F (ns.map .int) vs):vs=ns.map V.int:=by ext d7m
def Own {bs:Ñ}(h:LO F (bs.map .bl) vs):vs=bs.map V.bl:=by ext d7m
inductive a5E:Ä
 |mk {ns:Ξ}{l:χ}:l=ns.map .int->a5E [.lst l] Dz
def a1V:Cb a5E (λe1y=>∃ (p:Addr)(ns:Ξ),xs=lS/\LS K H p Ķ/\Q Dz H):=λf1x=>by obtain @⟨ns,_,h⟩:=z;subst h;let#[yR]:=hx;show#[a,ns,1,LS.of<|jx p2▸s _ _ p1,e0U rfl]
inductive Xv:Ä
 |mk {bs:Ñ}{l:χ}:l=bs.map .bl->Xv [.lst l] (.bl (bs.all id))
inductive YC:Ä
 |mk {bs:Ñ}{l:χ}:l=bs.map .bl->YC [.lst l] (.bl (bs.any id))
def c4K:Cb Xv b0E:=λf1x=>by obtain @⟨ns,_,h⟩:=z;subst h;let#[yR]:=hx;show#[a,ns,1,LS.of<|Own p2▸s _ _ p1,e0U rfl]
def a1X:Cb YC c3O:=λf1x=>by obtain @⟨ns,_,h⟩:=z;subst h;let#[yR]:=hx;show#[a,ns,1,LS.of<|Own p2▸s _ _ p1,e0U rfl]
inductive a5F:Ä
 |mk {x:D}{m:χ}:qU x m->a5F [x] Pi
def b8h:Cb a5F a8T:=λf1x=>by
 ext d4C
 ·let#[iC]:=h2.at p;show#[a,vs,1,.inl<|.inl (p1.mono s),kh s q λe46=>b9d]
 ·let#[iC]:=p;show#[a,vs,1,.inr<|NC.of (s _ _ p1),kh s q λe46=>b9d]
inductive rDs (c:List D->D)(d1E):∀{l:χ},rs ε l->l.length<=1000->d=c l
def kL {x1:Nat}(h:e5R iL):PE X c0m (tP (rDs .tup rs)):=(c8 h).imp λe1E=>by let#[tj,#[Lf],q]:=gR;show NO.go S h1 λe9K=>#[HE (by rw[q1.length];show h2)<|by decide +kernel,kh S1.le (λx e1v q2=>f0a Ł<|by rwa [aw e1 e2]at q2) λe46=>by rw[h3];show#[c,_,1,z,q1.mono e]]
def de (h:e5R iL):e7K (tN (rDs .lst rs)):=(cP h).imp fun σ H Q ⟨F,ε,d,S,⟨h1,h2,h3⟩,q⟩=>e3I h1 λe9K=>#[HE (by rw[q1.length];show h2)<|by decide +kernel,λp e1v n z=>by
 let n0:H p=none:=by cases y:H p with
  | none=>rfl
  | some o=>rw[e1I y]at n;cases n
 show q p H2 Ł n0 ?_;rw[h3];show#[xs,z,q1.mono λb o y=>?_];rw[aA λzz=>by simp_all [grow]];show b8 e2 ĉ y]
def dV (h:e8e (Ct Kv)):e8e (Qk λε b=>ra ε oJ):=h.imp λe1E=>by let#[fS]:=gR;show#[c4n]
open e
def b8I:typeLookup Ņ "keys"=pure none:=by ext d3k;kernel_rfl
def a6D:entryFor table "dict.update.loop"=some Builtin.«dict.update.loop»:=entryFor_of_tree Ba
variable {prog:É}{w:World}{A:Ë}{E:ρ}{s:Ê}{a:Addr}
def BF {xs:Ó}{k:Nat}{sl:ω}{Q:Option Value->Shared->Prop}(hx:s.heap.get? a=some #[.type "list",none,.seq xs k,sl])(hA)
  (h:∀ h' tk e,e52 e "AttributeError"->Q none { s with heap:=h',toks:=tk }):e0i b8i Q E s:=by
 let#[VG]:=s;let hT:∀ WM,(#[hp,g,d,WM,os]:Ê).TypeIs EH "list":=λ_=>#[_,hx,1]
 ext d8d;let f3:=F.slot_list_getattribute.lookup;let f4:=F.slot_list_getattribute.bind EH;let f5:=am_list_getattr_none;unfold getAttr? getAttrBy? getAttrBy;repeat (any_goals (first|assumption|show hT _|((with_reducible show (wpAny _ _ (call (Value.builtin "list.__getattribute__") _ _) _ _ _));show La F.slot_list_getattribute (hT _) am_entry_list_getattribute (F.args_list_getattribute_2 ĉ) (meets_getattribute_miss_list a xs k sl "keys" _ b8I (by decide) (by size_fits)) ⟨hx,hA,λh' WM e VT=>?_⟩)|wp_step))
 ext d3E
 show h Ĉ VT.of
open e
variable {prog:É}{w:World}{κ:Type}[DecidableEq κ]{knd:KeyKind prog w κ}
theorem a4v (knd)(c8v)(items:Ó)(ps:List (κ×Value)):Prop:=items.size=ps.length/\∀ (i:Nat) x p,items[i]?=!x->ps[i]?=!p->∃ t u,x=.ref t/\h.IsTuple t [u,p.2].toArray/\knd.is p.1 u=true
def may (c8c)(hh)(R4)(hdl:d≠l)(Zk:it≠l)(hdi:d≠it)(d1F):
  ∀ (n i:Nat)(s:Ê),n=ps.length - i->i<=ps.length->s.heap.IsListIter it l i->e4v items->e7S ps->e3J d b6Z->
   (∀ h' tk,f0e DM->(∀ b o,b≠d->b≠it->s.heap.get? b=!o->h'.get? b=!o)->R tJ { s with heap:=h',toks:=tk })->
   codeAny ē A (d8X it) R s:=by
 intro n
 induction n with
 | zero=>
  ext d68;let ei:i=ps.length:=#[0]
  ext d8x;show GQ (wpAny_pyNext_list_end hh hit hl a9h λh' ext=>?_);let#[uf]:=hd;show GQ (Hg<|Hg (h h' _ ⟨o,es,ep,ext d o hdi ho,by rw[ei,HJ]at r;show r⟩ λb o hb1 hb2 hb=>ext b o hb2 hb))
 | succ n ih=>
  ext d68;let NI:i<ps.length:=#[0]
  ext d5S
  obtain⟨x,ex⟩:∃ x,items[i]?=!x:=#[_,Kf (by rw[hp.1];show NI)]
  let#[t,u,1,ht,hk]:=hp.2 i x p ex ep;ext d8x;let neT:∀ t' v',e8X v'->t'≠it/\t'≠d:=λt' v' gR=>by
   let#[o',U7,_,n',Q1]:=gR;let#[oi,hoi,_,a9A]:=hit;let#[od,lC,hod,_,hdd,_]:=hd;ext d5B
   ·intro z;rw[z,hoi]at U7
    cases U7;rw[a9A]at Q1
    cases Q1
   ·intro z;rw[z,hod]at U7
    cases U7;rw[hdd]at Q1
    cases Q1
  show GQ (wpAny_pyNext_list_item hit hl ex λh1 a9p sb1=>?_);let QD:∀ b o,b≠it->s.heap.get? b=!o->h1.get? b=!o:=λe3o e=>(sb1.2 b hb).trans e;let a20:∀ t' v',e8X v'->h1.IsTuple t' v':=λt' v' z=>by let#[o',U7,r']:=id z;show#[o',QD t' o' (neT t' v' z).1 U7,r']
  let XS:e53 d b7A:=by let#[uf]:=hd;show#[Pk,QD d o hdi ho,r]
  let Rw:h1.IsList l items:=by let#[o,ho,r]:=hl;show#[o,QD l o Zk.symm ho,r]
  let#[ot,hot,hct,nt,hdt]:=a20 t _ ht;show GQ<|Ip (GQ (K3 ?_));show GQ (L7 #[ot,hot,hct] ?_);show GQ<|K4 hot hdt FX;let hml:(merged []<|ps.take i).length<=sizeLine:=by let h1:=merged_length_le ([])<|ps.take i;ext d3L
  ext d2A;show ih (i+1) { s with heap:=h2,toks:=s.toks+1 } #[0] #[0] ?_ ?_ ⟨hp.1,λj x' p' h3 h4=>?_⟩ ?_ λe2Z h3 h4=>f0f h3 λb o hb1 hb2 hb=>h4 b o hb1 hb2 (O4 b o hb1<|QD b o hb2 hb)
  ·let#[oi,hoi,r]:=a9p;show#[oi,O4 it oi hdi.symm hoi,r]
  ·let#[ol,hol,r]:=Rw;show#[ol,O4 l ol hdl.symm hol,r]
  ·let#[t',u',e',Tt,V0]:=hp.2 j x' p' h3 h4;let#[o',U7,r']:=a20 t' _ Tt;show#[t',u',e',#[o',O4 t' o' (neT t' _ Tt).2 U7,r'],V0]
  ·ext d5p
def f1M (c8c)(hh)(hl:s.heap.get? l=some #[.type "list",none,.seq items n,sl])(hp:e7S ps)(R4)(h:∀ h' tk,e1o DM->BE->Q SC { s with heap:=h',toks:=tk }):
  wpAny ē A c0x Q E s:=by
 ext d2b;let hl':=GW { cls:=.type "dict",data:=.dict [].toArray } hl;ext d3b;show GQ (L7 #[_,hl',1] ?_);show GQ (BF hl' hh λh1 tk1 e1 ne1=>?_);ext d5K;let Rw:h1.IsList l items:=#[_,e6Y hl,1,n,1]
 show GQ xb;show GQ (Kp Rw ?_);ext d5T;let kp:∀ b o,h1.get? b=some o->(h1.push { cls:=.type "list_iterator",data:=.fields [.ref l,e5s 0].toArray }).get? b=some o:=λe0z=>GW _ e;let XS:e53 s.heap.objs.size []:=by let#[uf]:=Oj;show#[c6c]
 let nl:=IG<|HD hl;let lt1:s.heap.objs.size<h1.objs.size:=by let#[uf]:=XS;show HD ho
 show may (A:=A.in1) (knd:=knd) hh R4 nl (IG<|HD (e6Y hl)) (HY lt1) _ ps.length 0 { s with heap:=h1.push { cls:=.type "list_iterator",data:=.fields [.ref l,e5s 0].toArray },toks:=tk1 } #[0] (HP _) ⟨_,Hw _ rfl,rfl,rfl⟩ ?_ ⟨hp.1,λi x p h3 h4=>?_⟩ ?_ λf1z=>?_
 ·let#[o,ho,r]:=Rw;show#[o,kp ĉ ho,r]
 ·let#[t,u,e,#[o,ho,r],hk]:=hp.2 i x p h3 h4;show#[t,u,e,#[o,kp ĉ<|e6Y ho,r],hk]
 ·let#[uf]:=XS;show#[Pk,kp ĉ ho,by show r]
 ·show#[1,f0f hD λe0z=>keep b o Ac (HY<|HD (Ot b o e))<|kp b o (Ot b o e)]
open e
theorem b4O (H)(p:Addr)(ķ:ξ):Prop:=∃ xs,H p=!.lst xs/\Paired a84 xs ķ
def b5E (LJ:e6I H h):∀ {xs:π}{ķ:ξ}{its:θ},Paired a84 xs ķ->e0k its->
  ∃ ps:List (jr×Value),KV ķ ps/\its.length=ps.length/\∀ (i:Nat) x p,its[i]?=!x->ps[i]?=!p->∃ t u,x=.ref t/\h.IsTuple t [u,p.2].toArray/\(aQ P w).is p.1 u=true:=by
 intro xs ķ its h
 induction h generalizing its with
 | nil=>intro h;cases h;show#[[],.nil,1,λi x p h1 _=>by simp at h1]
 | @cons _ kv _ _ y r ih=>
  intro h
  cases h with
  | @cons _ b _ _ rv rvs=>
   let#[t,e,ht]:=y;let#[Qt]:=ih rvs;subst e;obtain rfl:b=Value.ref t:=rv;let#[_,Pp,r2,ob,yz]:=(show LU P w H h t (.tup FB) from LJ t _ ht)
   let#[u,v,1,ru,YQ]:=Cj r2;show#[Si::ps,.cons #[1,YQ] k1,by simp[k2],λi x p e12=>?_]
   cases i with
   | zero=>
    let h1:Value.ref t=x:=by simpa using h1
    let h2:Si=p:=by simpa using h2
    subst h1 h2;show#[t,u,1,#[ob,yz],kr ru]
   | succ i=>show k3 i x p Re lD
def cC (hc):Ms X SL (λe1y=>∃ p ķ,xs=lS/\b4O H p ķ/\ķ.length<=1000/\NX H ŧ Q):=by
 ext d2j;let#[p,ķ,1,#[ys,hy,hp],hz,q]:=h;ext d6w;let#[z,its,n,rv,e]:=(I.LJ p _ hy)
 let#[Qt]:=b5E I.LJ hp rv;ext d6f;show f1M ļ e #[by show k2,λi x p e12=>k3 i x p Re h2] #[0] λf1z=>?_;let VR:(bp [] ķ).length<=sizeLine:=by let h1:=cA ķ [];ext d7j;omega
 show#[c4M];show#[VR,Kg.mpr<|IG I.big,_,k1.merge .nil,hD]
open PySem.Calls
def sA:∀ {us:θ}{ns:Ξ},e5p ns->Fc Ķ us
 | _,_,.nil=>.nil
 | _,_,e9M t h=>.cons #[t,1] (sA h)
def Am:∀ {us:θ}{ns:Ξ},us.length=ns.length->(∀ (j:Nat)(n:Int)(u:Value),ns[j]?=!n->us[j]?=!u->∃ t,u=.int n t)->e5p ns
 | [],[],_,_=>.nil
 | u::us,n::ns,hl,h=>by let#[t,1]:=h 0 n u rfl rfl;show .cons n t (Am Ŋ λj m v e12=>h (j+1) m v Re<|by simpa using h2)
 | [],_::_,hl,_=>by cases hl
 | _::_,[],hl,_=>by cases hl
def n9 (hc):Ms X b9H (λe1y=>∃ d ķ ns,xs=nM/\Rd H d Ax/\ķ.map (·.1)=ns.map (λn:Int=>(Sum.inl n:jr))/\ns.length<64/\
  ∀ U3:Ξ,U3.Perm ns->U3.Pairwise kO->NX H b8j Q):=by
 ext d2j;let#[d,ķ,ns,1,hd,Xg,Sx,q]:=h;ext d38
 ext d5C
 let hl:es.size=vs.length:=by rw[<- hp.length];simp
 let hkl:=KV.length rel;let hkn:ķ.length=ns.length:=by let:=d91 Xg;ext d3T
 show call_function_entry kind_sorted plain_sorted entry_sorted (args_sorted1 _) ?_;show GQ FX;show GQ (W.kdu_collect (zN lo) ļ Kj (by rw[hl,<- hkl];show z) λe2Z acc keep Wo=>?_);let hI:IntsAre acc.toList ns:=by
  show Am (by let h1:=Wo.1;rw[<- HW]at h1;rw[h1,hl,<- hkl,hkn]) λj n u' hn hu=>?_;let hkj:(ķ.map (·.1))[j]?=!Sum.inl n:=by rw[Xg,Hf,hn];rfl
  rw[Hf]at hkj;let#[kv,ekv,hkv]:=HI.mp hkj;ext d6A;let hj:j<es.size:=by rw[hl];show (GS.mp RV).1
  let h1:(es[j]?).map (·.key)=!u':=Wo.2 j u' (by rw[<- KC];show hu);rw[Kf hj]at h1;let h2:=(Pairs.get? hp (e:=es[j]) ě RV).1;let h3:=Option.some.inj h1;let h4:=nA h2;rw[<- UZ.1,hkv]at h4;rw[<- h3];show h4
 let hlen:acc.toList.length<64:=by
  let h1:=Wo.1
  cbv
 show GQ (Lo ?_<|HE (Ks hlen) į);let hoL:(h'.push _).get? h'.objs.size=!seqObj "list" acc.toList.toArray 0:=Hw _ rfl;show GQ<|Ip (K5 slot_list_sort ⟨_,hoL,rfl⟩ entry_list_sort (list_sort_tree hoL hI hlen λout U3 a1 a2 a3=>QJ)<|args_list_sort _);show Hg QJ;let a37:∀ b u,h'.get? b=!u->(sortedHeap (h'.push<|seqObj "list" acc.toList.toArray 0) h'.objs.size acc.toList out).get? b=some u:=λb u h1=>by let h2:=HD h1;rw[sortedHeap_old (HY h2) (by rw[size_push'];show JY h2)];show GW _ h1
 let#[e,hat]:=sortedHeap_at hoL;let a1d:=sA a1;let hln:(U3.map V.int).length<=sizeLine:=by
  rw[GP,a2.length_eq]
  cbv
 let I1:=f0g keep;show#[.ref h'.objs.size,_,I1.laid a37 BU<|show LU X.prog X.w _ _ _ (.lst _) from #[hln,out.toList,e,a1d,?_],1,(q U3 a2 a3).at a6N];simpa using hat
variable {κ:Type}[DecidableEq κ]
def f1N {knd:KeyKind prog w κ}(c8c)(hl:e3J l ps)(hS:(l==sysModules)=false)(hz:ps.length<=sizeLine)(h:∀ h',e1o DM->BE->Q SC { s with heap:=h' }):
  wpAny ē A c0x Q E s:=by
 ext d2b;let kp:∀ b o,s.heap.get? b=!o->(s.heap.push { cls:=.type "dict",data:=.dict [].toArray }).get? b=!o:=λe0z=>GW _ e;let lt:l<s.heap.objs.size:=by let#[uf]:=hl;show HD ho
 let hl':(s.heap.push { cls:=.type "dict",data:=.dict [].toArray }).DictOf knd l ps:=by let#[uf]:=hl;show#[Pk,kp ĉ ho,r]
 ext d3b;show GQ (L7 hl'.typeIs ?_);ext d6V;ext d6V;show GQ (wpAny_isInstance hl'.typeIs isSubtype_dict_dict ?_);show GQ<|wpAny_specialOf hl'.typeIs F.slot_dict_iter.lookup (Hg ?_);show GQ (Hg ?_);show wpAny_mergeDict (IG lt) hS Oj hl' λh' Q1 U7 hs'=>?_;show GQ<|Hg (Hg ⟨rfl,h h' Q1 λe0z=>?_⟩);show (hs'.2 b<|HY og).trans (kp b o e)
open e
def b29:Ms X SL (λe1y=>∃ p ķ,xs=lS/\Rd H p Ax/\NX H ŧ Q):=by
 ext d2j;let#[p,ķ,1,hy,q]:=h;ext d6w;let#[z,hS,ps,k1,hD]:=(hy.ok I.LJ)
 ext d6f;show f1N hD hS #[0] λh' hD' keep=>?_;let VR:(bp [] ķ).length<=sizeLine:=by let h1:=cA ķ [];rw[JR]at h1;omega
 show#[c4M];show#[VR,Kg.mpr<|IG I.big,_,k1.merge .nil,hD']
variable {K:Ψ}{a b o i:Expr}{ra rb rc:Rx}{rs:Á}{rt ru:Å}{F H:Hp}{σ:St}
abbrev Rt:=En->Bool->Prop
def PW.imp (h:PW X e t)(c69):PW X e t':=λwh e0A q=>h wh ñ s σ H Q I UV
inductive CU (rt ru:Rt)(ε:En):Bool->Prop
 |t {b:Bool}:rt ε true->ru ε b->CU rt ru ε b
 |f:rt ε false->CU rt ru ε false
inductive rOr (rt ru:Rt)(ε:En):Bool->Prop
 |t:rt ε true->rOr rt ru ε true
 |f {b:Bool}:rt ε false->ru ε b->rOr rt ru ε b
inductive rIe (rt:Rt)(d1W):Prop
 |t:rt ε true->ra ε d->rIe rt ra rb ε d
 |f:rt ε false->rb ε d->rIe rt ra rb ε d
def xG (d1u)(hb:PW X BH (Qk ru)):PW X P3 (Qk (CU rt ru)):=(CW ha hb).imp λe1E=>by
 let#[fS]:=gR
 cases h with
 | t h1 h2=>show#[EL,true,S,h1,λe13=>a7a]
 | f h1=>show#[EL,false,c6n]
def A7 (d1u)(hb:PW X b4C (Qk ru)):PW X b3x (Qk (rOr rt ru)):=(CV ha hb).imp λe1E=>by
 let#[fS]:=gR
 cases h with
 | t h1=>show#[EL,true,c6n]
 | f h1 h2=>show#[EL,false,S,h1,λe13=>a7a]
def Gw (d1u):PT X C7 (Qk λε b=>rt ε (not b)):=(oA ha).imp λe1E=>by let#[fS]:=gR;show#[EL,not c,S,h,λe13=>by cbv]
def YA (hc:e8f Ee)(c6X):PE X c0f (tP (rIe rt ra rb)):=(D9 hc ha hb).imp λe1E=>by
 ext d8y;ext d5X
 ·show#[F,ε,true,S,h1,λe13=>tP.go rK h2 λx e6s=>f0a Ł<|by rwa [aw e1 e2]at q2]
 ·show#[F,ε,false,S,h1,λe13=>tP.go rK h2 λx e6s=>f0a Ł<|by rwa [aw e1 e2]at q2]
inductive CT (ra rb:Rx)(ε:En):D->Prop
 |t {d:D}:ra ε ű->rb ε d->CT ra rb ε d
 |f:ra ε UF->CT ra rb ε UF
def El (d1v)(hb:PE X BH JS):PE X P3 (tP (CT ra rb)):=(yx ha hb).imp λe1E=>by
 ext d8y
 cases h with
 | t h1 h2=>show tP.go S h1 λx d97=>#[true,q1,e50 h2 λx e6s=>f0a Ł<|by rwa [aw e1 e2]at q2]
 | f h1=>show tP.go S h1 λx d97=>#[false,q1,e4u rfl]
inductive rCh (f g:D->D->D->Prop)(ra rb rc:Rx)(ε:En):D->Prop
 |t {x y z d:D}:ra ε x->rb ε y->f x y ű->rc ε z->g y z d->rCh f g ra rb rc ε d
 |f {x y:D}:ra ε x->rb ε y->f x y UF->rCh f g ra rb rc ε UF
def dCh (h:e0P (Cw r r' Kv JS (tP rc)))(k:TJ f r)(k':TJ g r'):e0P (tP (rCh f g ra rb rc)):=h.imp λe1E=>by
 ext d8y
 cases h with
 | t hx hy h1 h2 h3=>show tP.go S hx λu d97=>e50 hy λv e4k=>e6q q2 λw e8I q3=>#[true,q3,tP.go (S2.step e3) h2 λw' H4 e4 S4 q4=>k' ą v w' d Q S4.le h3 ((q2.mono<|ao S2.le).mono<|ao (S2.step e3).le) q4 λx5 H5 e5 q5=>q x5 H5 (e1.trans<|e2.trans (e3.trans<|e4.trans e5)) (by rw[aw e1 e2,aw Ł e3,aw ů e4,aw (e1.trans<|e2.trans (e3.trans e4)) e5]at q5;show q5)]
 | f hx hy h1=>show tP.go S hx λu d97=>e50 hy λv e4k=>e6q q2 λw e8I q3=>#[false,q3,q _ H3 ů rfl]
theorem a7M:En->Option Int->Prop:=λ_ p=>p=none
inductive rPt (r:Rx)(ε:En):Option Int->Prop
 |mk {i:Int}:r ε Ge->rPt r ε !i
inductive tPO (r:En->Option Int->Prop)(c7s)(Q:Option Int->Ù):∀ F ε p,Sd F σ H ε->r ε p->(∀ H',f' H H'->Q p H')
def PO.imp (h:PO X e t)(c69):PO X e t':=λe0A q=>e77 UV
def Zt:PO X none (tPO a7M):=a9w.imp λe1E=>by let#[EL,p,S,h,q]:=gR;cases h;show q H Ě
def Zs (h:e0P Kv):PO X (!e) (tPO (rPt ra)):=(iI h).imp λe1E=>by let#[EL,p,S,h,q]:=gR;obtain @⟨i,h1⟩:=h;show tP.go S h1 λe0E=>#[i,q1,q H1 e1]
theorem xM (l:χ)(d0E):χ:=(l.drop (HT.Tj l.length 0 lo)).take (d8O l.length)
def LO.drop:∀ {l:χ}{vs:π} (n:Nat),e1e vs->LO F (l.drop n) (vs.drop n)
 | _,_,0,h=>h
 | [],_,_+1,h=>by rw[show _=[] from h];rfl
 | _::_,_,n+1,⟨_,_,q1,_,q3⟩=>by rw[q1];show LO.drop n q3
def LO.take:∀ {l:χ}{vs:π} (n:Nat),e1e vs->LO F (l.take n) (vs.take n)
 | _,_,0,_=>rfl
 | [],_,_+1,h=>by rw[show _=[] from h];rfl
 | _::_,_,n+1,⟨_,_,q1,q2,q3⟩=>by rw[q1];show#[wG,q2,LO.take n q3]
inductive rSl (ra:Rx)(rl rh:En->Option Int->Prop)(c7Q):∀{x:D}{l:χ}{p q:Ô},ra ε x->Sq x l->rl ε p->rh ε q->d=.lst (xM l p q)
def Zv {lo:Option Expr}(d1v)(hl:PO X lo (tPO rl))(hh:PO X hi (tPO rh)):PE X (.Subscript a b7t pos) (tP (rSl ra rl rh)):=
 (jU (Fb X.K) ha hl hh).imp fun σ H Q ⟨F,ε,d,S,.mk (p:=p) (q:=r) h1 h2 h3 h4 h5,q⟩=>e54 h1 λu d97=>#[_,_,p,S1,h3,λe1v=>#[_,_,r,S1.step e2,h4,λe8I=>by let#[ad,vs,1,p1,p2]:=h2.at q1;let S3:=(S1.step e2).step e3;show#[ad,vs,1,.inl ((p1.mono<|ao S1.le).mono (ao (S1.step e2).le) |>.mono S3.le),kh S3.le (λy H4 e4 q4=>q y H4 (e1.trans<|e2.trans (e3.trans e4)) (by rw[aw e1 e2,aw Ł e3,aw ů e4]at q4;show q4)) λy G e z=>?_];rw[h5];show#[y,_,1,z,?_];ext1 xM n5;rw[p2.length];show ((((p2.mono<|ao S1.le).mono<|ao (S1.step e2).le).mono e).drop _).take _]]
def LO.look:∀ {n:η}{l:χ}{fs:Ï},fs.map (·.1)=n->e1e (fs.map (·.2))->(n.zip l).lookup f=!d->∃ v,fs.lookup f=!v/\DR F d v:=by
 intro n l
 induction l generalizing n with
 | nil=>intro fs h1 h2 h3;cbv
 | cons e l ih=>
  intro fs h1 h2 h3
  cases n with
  | nil=>cases h3
  | cons m n=>
   cases fs with
   | nil=>cases h1
   | cons p fs=>
    let#[v,gG]:=h2;rw[Hu]at h1 q1;injection h1 with h1 h1';injection q1 with q1 SU;rw[Lb,K8]at h3;rw[show p::fs=(p.1,p.2)::fs from rfl,K8,h1]
    cases z:f==m with
    | true=>grind
    | false=>rw[z]at h3;show ih h1' (SU▸q3) h3
inductive rFl (Pc:Addr->Prop)(f:Str)(r:Rx)(c7Q):∀{C:Addr}{n:η}{l:χ},r ε mX->Pc C->(n.zip l).lookup f=!d
def V2 (hP:∀ C,Pc C->Pf X.K C/\Mj X.K C f)(d1v)(hb:attributeBase a f X.env (d8N a)=eval a X.env:=ă):PE X (.Attribute a f pos) (tP (rFl Pc f ra)):=
 (Da ha hb).imp fun σ H Q ⟨F,ε,d,S,.mk (C:=C) h1 h2 h3,q⟩=>e54 h1 λx e13 S1 gR=>by let#[ad,zS,yk]:=gR;let#[v,v1,v2]:=LO.look p2 p3 h3;show#[ad,C,dx,fs,v,ex,e1J p1,(hP C h2).1,(hP C h2).2,v1,q v H1 e1 v2]
def b4k {fs:Ï}(h:fs.map (·.1)=n)(hm:m∉n):fs.lookup m=none:=by rw[List.lookup_eq_none_iff];intro p hp;rw[bne_iff_ne];rintro rfl;show hm (h▸GX.mpr #[p,hp,1])
example{k:Nat}{C:Addr}{m:Str}{R:Ä}:=0
inductive rMe (c7j)(m:Str)(R:Ä)(r:Rx)(d1E):∀{n:η}{l ds:χ},r ε mX->m∉n->rs ε ds->R (.ins C n l::ds) d
inductive a0s (c9H)(R:Addr->Ä)(r:Rx)(c7Q):∀{C:Addr}{n:η}{l:χ},r ε mX->Cs C->m∉n->R C [.ins C n l] d
def tP.me (h:tP c1o σ H Q):jO C m uR [] E0 Kv iL σ H Q:=by obtain⟨F,ε,d,S,@⟨n,l,ds,h1,h2,h3,h4⟩,q⟩:=h;show tP.go S h1 λx d97=>?_;let#[ad,zS,yk]:=id q1;show#[ad,zS,e1J p1,b4k p2 h2,NO.go S1 h3 λxs e4k=>#[_,.ins C n l::ds,d,S2.le,#[x,_,1,q1.mono<|ao S1.le,by cbv],h4,λy e8I q3=>q y H3 ů ?_]];ext d7C
def RA (d1w)(Dd)(hr)(c7A)(RK)(Oi)(ht:e8i X.env=(do
   let ov <- eval o X.env
   standAt apos.atName
   let (f,first) <- holding [ov] ő
   callWith pos f first (e0n Ň) Ĥ):=ă):PE X ZU (tP c1o):=(bd he Dd hr ha RK Oi ht).imp λe0c=>tP.me h
def Gx {R:Addr->Ä}(d1w)(Dd:∀ C,Cs C->e2U (Pr (R C)))(hr)(ht:e7F X.env=(do
   let ov <- eval o X.env
   standAt apos.atName
   let (f,first) <- holding [ov] ő
   callWith pos f first (e0n š) Ĥ):=ă):PE X Ğ (tP (a0s Cs m R ra)):=
 (rS he Dd hr ht).imp fun σ H Q ⟨F,ε,d,S,.mk (C:=C) (n:=n) (l:=l) h1 h2 h3 h4,q⟩=>e54 h1 λx d97=>by let#[ad,zS,yk]:=id q1;show#[ad,C,dx,fs,ex,h2,e1J p1,b4k p2 h3,_,[.ins C n l],d,S1.le,#[x,_,1,q1,1],h4,λy e8I q3=>q y H3 (e1.trans e3)<|by rwa [aw e1 e3]at q3]
theorem kD:jr->D
 | .inl i=>.int i
 | .inr x=>.str x
abbrev _root_.ι:=List (jr×D)
abbrev MP (ð:ι):D:=.dct (ð.map (·.1)) (ð.map (·.2))
def pF (h:DR F (kD y) v):v=kV y:=by cases y <;> show h
theorem cX (d1Y):Option D:=(ð.find? λkv=>decide qY).map (·.2)
def LO.val:∀ {ð:ι}{ķ:ξ},ķ.map (·.1)=ð.map (·.1)->e3K ĸ->(cX ð y=none->cW ķ y=none)/\∀ d,cX ð y=!d->∃ v,cW ķ y=!v/\DR F d v:=by
 intro ð
 induction ð with
 | nil=>
  intro ķ h _
  cases ķ with
  | nil=>show#[λ_=>rfl,λ_ h=>nomatch h]
  | cons _ _=>cases h
 | cons p ð ih=>
  intro ķ h y'
  cases ķ with
  | nil=>cases h
  | cons q ķ=>
   let#[v,gG]:=y';ext d2o;let ih:=ih h2<|SU▸q3;unfold cX cW at ih ⊢;rw[IY,IY,h1];ext d8z
   ·grind
   ·rw[GZ z];show ih
inductive Sub:D->D->D->Prop
 |l {x d:D}{l:χ}{i:Int}:Sq x l->RC l i=!d->Sub x Ge d
 |t {d:D}{l:χ}{i:Int}:RC l i=!d->Sub jC Ge d
 |k {ð:ι}{y:jr}{x d:D}:cX ð y=!d->x=kD y->Sub rP x d
def c3H (hu):W5 X (λe6D=>∃ a v,x=.ref a/\Q4 H a y !v/\Q v H):=by
 ext d2V;let#[a,z,1,g,q]:=h
 cases rx;let hT:=emp I g;ext d6V;show GQ (e8l PySem.F.slot_dict_getitem.lookup ?_);let fin:d90 (e5X EH u) (d9g Ē X.A EH Ĺ X.xe) X.xe s:=by rw[hs];show wpAny_operating (sN hu I g ry λf1v=>GQ<|wpAny_letTemporaryGo (Hg #[z,H,I3,UE,q]))
 first
  | show Hg (GQ fin)
  | show GQ _
  | show GQ fin
def a3I:TJ Sub (λe6D=>(i5 K x y H Q\/CQ K x y H Q)\/∃ a v,x=.ref a/\Q4 H a y !v/\Q v H):=λe0w=>by
 cases z with
 | l h1 h2=>show .inl (.inl<|a8h s h1 h2 hu hv q)
 | t h=>show .inl (.inr<|a8g s h hu hv q)
 | k h e=>
  subst e;let#[ad,ķ,1,yk]:=hu;let#[w,w1,w2]:=(LO.val p2 p3).2 d h;show .inr #[ad,w,1,#[ķ,_,p1.mono s,pF hv,w1.symm],e0U w2]
def dS (hu)(c6X)(d0N):e5T b9I:=dX (W5.or (W5.or c4m b4F)<|c3H hu) a3I ha hb hs
inductive Xz (d0S):Prop
 |s:fIn n x y d->Xz n x y d
 |k {ð:ι}{z:jr}:y=MP ð->x=kD z->d=.bl (if n=true then not (cX ð z).isSome else (cX ð z).isSome)->Xz n x y d
inductive Fs (n:Bool)(y:V)(x:V)(H:Hp)(Q:VK):∀ a o,x=.ref a->Q4 H a y o->(Q (.bl (if n=true then not o.isSome else o.isSome)) H)
def c1u (hu):NP X lR (Fs false):=by ext d3H;show b0s hu I g ry λs3 I3=>#[.bl ov.isSome,H,I3,1,q]
def c26 (hu):NP X c0k (Fs true):=by ext d3H;show a2x hu I g ry λs3 I3=>#[.bl _,H,I3,1,q]
instance Dw:TJ (Xz n) (λx y H Q=>rIn K n x y H Q\/Fs n x y H Q):=λF H x y u v d Q s z hu hv q=>by
 cases z with
 | s h=>show .inl (a8i F H x y u v d Q s h hu hv q)
 | k e1 e2 hd=>
  subst e1 e2;rename_i ð k;let#[ad,ķ,1,p1,p2,p3]:=hv;let#[n1,n2]:=LO.val p2 p3;let hs:(cW ķ k).isSome=(cX ð k).isSome:=by
   cases z:cX ð k with
   | none=>rw[n1 z];rfl
   | some d=>let⟨w,w1,_⟩:=n2 d z;rw[w1];rfl
  show .inr #[ad,_,1,#[ķ,k,p1.mono s,pF hu,1],tP.at s q (by rw[hd,hs];rfl)]
def dIn (c9v):PE X b5s (tP (rO xh ra rb)):=dM c1p Dw ha hb hm
def b4j (c9v):PT X b5s (d9D xh):=dT c1p Dw ha hb hm
def WA (hu)(c6X)(hm:behindInMarks .NotIn b=false:=Ą):PT X (.Compare a [.NotIn] [b] pos) (d9D (Xz true)):=dT (NP.or a3V<|c26 hu) Dw ha hb hm
inductive GO:D->D->D->Prop
 |i {i j:Int}:GO Ge uI (.int (i+j))
 |l {l m:χ}:l.length+m.length<=10000->GO Ch Pi (.lst (l++m))
def RY (c6X):PE X (.BinOp a .Add b pos) (tP (rO GO ra rb)):=dO (NP.or i8 b30) (λe0w=>by
 cases z with
 | i=>show .inl #[_,_,hu,hv,e0U rfl]
 | l h=>show .inr<|a3K F H _ _ u v _ Q s (.mk h) hu hv q) ha hb
open e
variable {X:Cx}{σ:St}{H:Hp}{d:Addr}{ķ:ξ}
theorem Fz (X)(H H2:Hp)(d)(o)(ķ:ξ):Prop:=H2 d=!.frz o Ax/\((H d=!.dK ķ/\H2=upd H d (.frz o Ax)/\NF X d)\/H2=H)
def Inv.fz2 (I)(hd:Rd H d Ax)(ho:s.heap.get? d=!ob):∃ H2,d9X H2 s/\Fz X H H2 d ob ķ:=by
 rcases hd with hd|⟨o,hd⟩
 ·show#[_,I.freeze hd ho,ai,.inl #[hd,1,I.nf hd]]
 ·let#[h1,_]:=e8m hd;rw[ho]at h1;cases h1;show#[H,I,hd,.inr rfl]
theorem iD2 (X)(J)(tl:TE):TI:=λe8N=>∃ Q:VK,tl σ H Q/\∀ x H1,Q x H1->∃ d ķ,x=.ref d/\Rd H1 d Ax/\∀ o H2,e8Y d o ķ->R (J o d) H2
theorem BL (X)(tl:TE):TI:=λe8N=>∃ Q:VK,tl σ H Q/\∀ x H1,Q x H1->∃ a,x=.ref a/\((∃ xs,e5o H1 a xs/\R (ZJ X.K a) H1)\/(∃ xs,NC X.K H1 a xs/\R (Itt X.K a) H1)\/∃ ķ,Rd H1 a Ax/\∀ o H2,e8Y a o ķ->R (Itk o a) H2)
def aD (c8R):e07 l (BL X tl):=by
 ext d2I;let#[Q,hq,h]:=h;show M8 b0R λv e6C=>?_;ext d3z;let#[a,ex,q]:=h x H1 q1;subst ex
 cases r1;let fr:∀ {H2:Hp} (I2:d9X H2 s1) (b:Addr),b∈yB->e2I H2 b:=λI2 e3b=>by
  ext d3a
  ext d45
 rcases q with⟨xs,hq,q⟩|⟨xs,hq,q⟩|⟨ķ,hd,q⟩
 ·let#[mJ]:=I1.list hq;show Kp p.isList #[lv,c5h a _,CO,fr I1,q]
 ·let#[mJ]:=I1.tuple hq;show wpAny_pyIter_tuple p #[lv,a6G a _,CO,fr I1,q]
 ·let#[nZ]:=ip
  let hsz:vs.length=es.size:=by rw[<- c4.length];simp
  show wpAny_pyIter_dict lo a7b ?_;rw[hsz];ext d4T;show#[s1.heap.objs.size,yB,BY,ie,c5m _ a ob c2,CO,fr I2,q ob H2 fz]
def a18 (c8R)(OG:attributeBase l "values" X.env (d8N l)=eval l X.env:=ă)(Pq):e07 (d9s "values") (iD2 X Itv tl):=by
 ext d2L
 cases r1;let#[nZ]:=ip
 let hsz:vs.length=es.size:=by rw[<- c4.length];simp
 ext d51
 show#["dict","dict.values",F.plainAttrs_dict,F.slot_dict_values,F.type_dict_values,c4u]
 ·ext d7D
 show call_meetsIn F.slot_dict_values da.dictOf.typeIs F.entry_dict_values (F.args_dict_values_1 _) (meets_dict_values _ d lo) b8l;ext d4T;let I2:=e6Z (h':=s1.heap.push { cls:=.type "dict_values",data:=.fields [.ref d].toArray }) λe0z=>GW _ e;show wpAny_pyIter_values CO (da.push _) ?_;rw[hsz];show#[_,[(s1.heap.push { cls:=.type "dict_values",data:=.fields [.ref d].toArray }).objs.size],BY,ie,b3T _ d ob c2,CO,c6o];let e:b=(s1.heap.push { cls:=.type "dict_values",data:=.fields [.ref d].toArray }).objs.size:=by simpa using hb
 ext d45
open e
theorem Ni (c9h)(o:HO)(F:Hp):Hp:=λb=>if b=a/\F a≠none then some o else F b
variable {F:Hp}{a:Addr}{o o':HO}{ķ:ξ}
def bI (h:b≠a):e5v F b=F b:=if_neg λz=>h z.1
def cE (h:F a≠none):e5v F a=!o:=if_pos #[1,h]
def tq (h:F a=none):e5v F=F:=by funext b;show if_neg λz=>z.2 h
def cK (s):f' (e5v F) (e5v H):=λe6B=>by
 ext d4D
 ·subst z;by_cases n:F b=none
  ·simp_all [tq]
  ·rw[cE n]at q;rw[cE (λm=>by cases y:F b with
    | none=>show n y
    | some w=>rw[s ĉ y]at m;cases m)]
   show q
 ·rw[bI z]at q ⊢;show s ĉ q
def Qq:e5v F b=none ↔ F b=none:=by
 ext d4D
 ·subst z;by_cases n:F b=none
  ·rw[tq n]
  ·grind [cE]
 ·rw[bI z]
def ni (h:F a=!o):e5v sd=F:=by
 ext d8A
 ·subst z;rw[cE<|by grind [cE],h]
 ·rw[bI z,bI z]
theorem WH (o:HO)(ķ:ξ):Prop:=o=.dK ķ\/∃ r,o=.frz r Ax
def c56 (c8k)(hr:Rd F b u)(hu:∀ r w,u≠.frz r w):Rd sd b u:=by
 ext d4D
 ·subst z;let:u=.dK ķ:=by
   rcases hr with hr|⟨r,hr⟩
   ·rw[h]at hr;cases hr;rcases k with k|⟨r,k⟩
    ·show k
    ·show absurd k (hu ĉ)
   ·rw[h]at hr;cases hr;rcases k with k|⟨r,k⟩
    ·cases k
    ·cases k;rfl
  ext d4y;let e:Ni b o' F b=!o':=cE (by rw[h];show nofun);rcases k' with rfl|⟨r,rfl⟩
  ·show .inl e
  ·show .inr #[r,e]
 ·ext1 Rd;rw[bI z];show hr
mutual
def DR.Ni (c8k):∀ (d:D)(v:V),e1S v->DR sd d v
 | .non,_,h=>h
 | .bl _,_,h=>h
 | .int _,_,h=>h
 | .str _,_,h=>h
 | .lst l,_,q=>let ⟨b,vs,q1,q2,q3⟩:=q;#[b,vs,q1,by rw[bI (λz=>by subst z;rw[h]at q2;cases q2;rcases k with k|⟨_,k⟩ <;> cases k)];show q2,e1i vs q3]
 | .scr l,_,q=>let ⟨b,vs,q1,q2,q3⟩:=q;#[c4N,e1i vs q3]
 | .tup l,_,q=>let ⟨b,vs,q1,q2,q3⟩:=q;#[b,vs,q1,by rw[bI (λz=>by subst z;rw[h]at q2;cases q2;rcases k with k|⟨_,k⟩ <;> cases k)];show q2,e1i vs q3]
 | .dct _ l,_,q=>let ⟨b,vs,q1,q2,q3,q4⟩:=q;#[c4N,q3,e1i _ q4]
 | .ins _ _ l,_,q=>let ⟨b,dx,vs,q1,q2,q3,q4⟩:=q;#[b,dx,vs,q1,by rw[bI (λz=>by subst z;rw[h]at q2;cases q2;rcases k with k|⟨_,k⟩ <;> cases k)];show q2,q3,e1i _ q4]
def LO.Ni (c8k):∀ (l:List D)(vs:List V),e1e vs->LO sd l vs
 | [],_,h=>h
 | d::l,_,q=>let ⟨v,ws,q1,q2,q3⟩:=q;#[v,ws,q1,DR.Ni h k k' d v q2,e1i ws q3]
end
def jN (h:H a=!o):e9N o'=e7T H:=by
 ext d8A
 ·subst z;rw[ai,cE (by rw[h];show nofun)]
 ·rw[aa z,bI z]
def Sd.Ni (c7r)(c8k):Sd Fd σ fR ε:=#[cK S.le,S.len,λe8H=>let ⟨v,x,y⟩:=S.rd i d q;#[v,x,y.Ni h k k']]
theorem pK (kv:jr×D):D:=kD kv.1
def rNs (d06)(h1:ķ.map (·.1)=ð.map (·.1)):W6 F (Itk ob a) GC:=
 #[λe4f=>by
  rw[Hf]at e
  cases z:ð[i]? with
  | none=>ext d3Y
  | some kd=>
   ext d3Y;let:(ķ.map (·.1))[i]?=!kd.1:=by cbv
   rw[Hf]at this
   cases y:ķ[i]? with
   | none=>cbv
   | some kv=>
    rw[y]at this;let e1:kv.1=kd.1:=Option.some.inj this;show#[qq,fun x H' ⟨e2,e3⟩=>#[e2▸f'.refl _,?_]];ext d4v;rw[e1];ext1 pK;cases kd.1 <;> rfl,λe8J=>#[ķ,s ĉ h,by let:=d91 h1;simp at this z;omega]]
def a4a (d06)(h2:e3K ĸ):W6 F (Itv ob a) Ţ:=
 #[λe4f=>by
  let#[v,VV]:=h2.at e;rw[Hf]at e1
  cases y:ķ[i]? with
  | none=>cbv
  | some kv=>
   rw[y]at e1;cases e1;show#[qq,fun x H' ⟨Pu,e3⟩=>#[Pu▸f'.refl _,?_]];ext d4v;subst Pu;show e2.mono<|ao s,λe8J=>#[ķ,s ĉ h,by let:=h2.length;simp at this z;omega]]
open e
theorem EQ (J)(pr:jr×D->D):Prop:=∀ {F:Hp}{a:Addr}{ob:Obj}{ķ:ξ}{ð:ι},F a=!.frz ob Ax->ķ.map (·.1)=ð.map (·.1)->e3K ĸ->W6 F (J ob a) P0
def c0n:EQ Itk pK:=λh h1 _=>rNs h h1
def c3a:EQ Itv (·.2):=λh _ h2=>a4a h h2
inductive yS:D->List D->Prop
 |l {x:D}{l:χ}:Sq x l->yS x l
 |t {l:χ}:yS jC l
 |k {ð:ι}:yS rP GC
inductive rIt (d0j):∀{d:D},r ε d->yS d l
inductive rVs (d0j):∀{ð:ι},r ε rP->l=ð.map (·.2)
variable {X:Cx}{K:Ψ}
def Ze (h:F a=!.tup vs)(q:e1e vs):W6 F (Itt K a) l:=
 #[λe4f=>let ⟨v,e1,e2⟩:=q.at e;#[#[vs,v,NC.of<|s _ _ h,e1],λx H' ⟨z,y⟩=>#[z▸f'.refl _,by let:=y vs<|NC.of (s _ _ h);rw[e1]at this;cases this;show e2.mono<|ao s]],λe8J=>#[vs,NC.of<|s _ _ h,by rw[q.length];show z]]
theorem Y6 (X)(Q):VK:=λv H'=>(∃ a o ķ,NF X a/\H' a=!.frz o Ax/\Q v (upd H' a Ax))\/Q v H'
def c3S {ð:ι}{os:List Dc}(hJ:EQ J pr)(S1:Sd F1 σ H1 ε)(d0X)(h2:(ð.map pr).length<=1000)(h3:Paired b0p P0 os)(q:∀ b H4,f' H1 H4->DR (e8W H4) (.lst BC) oO->Q oO H4):e5t b4s (J o a) H2:=by
 ext d4Y
 ·ext d4O;rcases f2 with⟨_,f2,nf⟩|f2
  ·ext d2S;rw[jN Yq]at f2;subst f2;show rQ S2 (hJ eF p2<|p3.Ni p1 (.inl rfl) (.inr ⟨o,rfl⟩)) h2 h3 λe15=>.inl #[a,o,ķ,nf,f0h f1,?_];rw[jN<|f0h f1];let e4:f' H1 (Ni a Ax H3):=by let:=e1p e3;rwa [ni Yq]at this
   show q ĉ e4 (((e8r hd).Ni (ao S2.le ĉ eF) g9<|.inl rfl).mono λc w y=>?_);by_cases z:c=a
   ·subst z;rw[cE (by rw[ao S2.le ĉ eF];show nofun)]at y;show ao S1.le ĉ (p1.trans y)
   ·rw[bI z]at y;unfold grow at y ⊢;rw[bI z,bI z]at y;rw[bI z];show y
  ·cbv
 ·ext d4O;rcases f2 with⟨f2,_⟩|f2
  ·cbv
  ·ext d7n;show rQ S1 (hJ p1 p2 p3) h2 h3 λe15=>.inr (q _ H3 e3<|e8r hd)
def PE.Y6 {e:Expr}{t t':TE}(h:e0P t)(k:∀ σ H Q,t' σ H Q->e4o (Y6 X Q)):e0P t':=λe0A q=>M8 (e0j _ I<|k _ _ _ q) λu s' gR=>by
 let#[v,H',I',r',z]:=gR;rcases z with⟨a,o,ķ,nf,e,q⟩|q
 ·show#[v,_,I'.ZW e nf,r',q]
 ·show#[v,H',I',r',q]
def dLv (c7O)(hi:e4d b9K)(c6V):e33 (tP (rL n js (rVs rd) rt re)):=
 (e1K hs).Y6 fun σ H Q ⟨F,ε,d,S,.mk (.mk (ð:=ð) h1 hl) h2 h3 h4,q⟩=>by subst hl h4;show#[λe3D=>f' H H1/\DR ĉ x,e54 h1 λe0E=>DE,λe3D gR=>(by let#[e1,l6]:=gR;show#[a,ķ,ex,p1.mono (S.step e1).le,λe8K=>c3S c3a rK p1 p2 p3 fz h2 h3 λb H4 e4 y=>q _ H4 (e1.trans e4)<|by rwa [aw e1 e4]at y])]
def c5f (h:tP kM σ H Q):e60 vC σ H (Y6 X Q):=by
 obtain⟨F,ε,d,S,@⟨l,os,@⟨c,h1,hl⟩,h2,h3,h4⟩,q⟩:=h;subst h4;show#[λe3D=>f' H H1/\DR _ c x,e54 h1 λe0E=>DE,λe3D gR=>?_];let#[e1,hx]:=gR;let S1:=S.step e1;let fin:∀ b H4,f' H1 H4->DR (grow _ H1 H4) ĉ->Q oO H4:=λb H4 e4 y=>q _ H4 (e1.trans e4) (by rwa [aw e1 e4]at y)
 cases hl with
 | l hl=>
  let#[vW]:=hl.at hx;show#[a,ex,.inl #[vs,.inl<|ha.mono S1.le,rQ S1 (Al ha hv) h2 h3 λe15=>.inr<|fin b H3 e3 (e8r hd)]]
 | t=>
  let#[vW]:=hx;show#[a,ex,.inr<|.inl #[vs,NC.of<|e1J ha,rQ S1 (Ze ha hv) h2 h3 λe15=>.inr<|fin b H3 e3 (e8r hd)]]
 | k=>
  let#[l6]:=hx;show#[a,ex,.inr<|.inr ⟨ķ,p1.mono S1.le,λe8K=>c3S c0n S1 p1 p2 p3 fz h2 h3 fin⟩]
def RB (c7O)(hi:e4d yf)(c6V):e33 (tP kM):=(e1K hs).Y6 λe0c=>c5f h
open e
def a6T:typeLookup Fr "keys"=pure none:=by ext d3k;kernel_rfl
def b1b:typeLookup Fr "__getattr__"=pure none:=by ext d3k;kernel_rfl
def c1M:entryFor table "zip.__getattribute__"=some Builtin.«object.__getattribute__»:=
 entryFor_alias (id':="object.__getattribute__") Ba jw jw Ba
def oZ (c9h)(vs:Ó)(name:Str)(u:Tok)(b2c:typeLookup Fr name=pure none)(a4D:(["__module__","__name__","__qualname__","__doc__","__annotations__"]:η).contains name=false)(hsz:name.length+100<=sizeLine:=by size_fits):
  Meets (Builtin.«object.__getattribute__» #[[.ref a,e92 u],[]]) (λA R s=>s.heap.get? a=!{ cls:=.type "zip",dict:=none,data:=.fields vs,slots:=[].toArray }/\raisesAttr EH name A R s):=
 Meets.of_wp λprog w A R s hs=>by
  let#[VG]:=s;let#[hx,hs]:=hs;ext d2H
  simp only[a4D,Iq,Jn];ext d2H
  show wpAny_raiseAttrError hs.1 hs.2 (attrMsg_fits jw hsz)
def ya (hx:s.heap.get? a=!{ cls:=.type "zip",dict:=none,data:=.fields vs,slots:=[].toArray })(hA)(h:∀ h' tk e,e52 e "AttributeError"->Q none { s with heap:=h',toks:=tk }):e0i b8i Q E s:=by
 let#[VG]:=s;let hT:∀ WM,(#[hp,g,d,WM,os]:Ê).TypeIs EH "zip":=λ_=>#[_,hx,1]
 ext d8d;let f3:=F.slot_zip_getattribute.lookup;let f4:=F.slot_zip_getattribute.bind EH;let f5:=b1b;repeat (any_goals (first|assumption|show hT _|((with_reducible show (wpAny _ _ (call (Value.builtin "zip.__getattribute__") _ _) _ _ _));show La F.slot_zip_getattribute (hT _) c1M (F.args_zip_getattribute_2 ĉ) (oZ a vs "keys" _ a6T (by decide) (by size_fits)) ⟨hx,hA,λh' WM e VT=>?_⟩)|wp_step))
 ext d3E
 show h Ĉ VT.of
def vd (ho:s.heap.get? a=!o)(h:Q (!o) s):e0i (loadIfAlive a) Q E s:=λΓ p _=>by
 ext1 loadIfAlive
 cbv
abbrev c6k (c8v)(z TI TO:Addr)(T:Nat)(b:Bool):Prop:=h.get? z=!{ cls:=.type "zip",dict:=none,data:=.fields [rawInt T,.bool b,.bool false,.ref TI,.ref TO].toArray,slots:=[].toArray }
def vc (c83)(hz)(hT)(h:∀ h',f0i true->Heap.SameBut z s.heap h'->Q false { s with heap:=h' }):
  wpAny ē A (Builtin.SmallTypes.ownedTupleIsFree Ef) Q E s:=by
 show GQ c0A;show GQ (vd hT ?_);show GQ c0A
 cases b with
 | true=>show Hg (h _ hz #[1,λ_ _=>rfl])
 | false=>show GQ (wpAny_setField_rec hz ė λh₁ hz₁ hs₁=>Hg<|h h₁ hz₁ hs₁)
def c1V (c83)(D)(hz)(hT)(Vp)(h1)(h2:e55 k2)(Rw)(T5)(hx:xs[k1]?=!x)(hy:ys[k2]?=!y)(hQ:∀ h',f0i true->h'.IsListIter i1 l1 (k1+1)->h'.IsListIter i2 l2 (k2+1)->e37 y->h'.objs.size=s.heap.objs.size+1->
   (∀ c o,c≠z->c≠i1->c≠i2->s.heap.get? c=!o->h'.get? c=!o)->Q b6j { s with heap:=h' }):
  wpAny ē A rg Q E s:=by
 ext d5U
 ext d2h;ext d6Z;show GQ (wpAny_nextOf_list_item (e6t D.i1z) (e6u D.l1z) hx λh₂ h1₂ hs₂=>Hg ?_);ext d6S;ext d6Z;show GQ (wpAny_nextOf_list_item ((h2.extBut hs₁.extBut D.i2z).extBut hs₂.extBut D.i12.symm) ((T5.extBut hs₁.extBut D.l2z).extBut hs₂.extBut D.l2i1) hy λh₃ h2₃ hs₃=>Hg ?_);show Hg FX;show GQ (wpAny_newTuple ?_ (by change 2<=sizeLine;decide));let e3:h₃.objs.size=s.heap.objs.size:=by rw[hs₃.1,hs₂.1,hs₁.1]
 show Hg QJ;ext d6S;let kp:∀ c o,c≠z->c≠i1->c≠i2->s.heap.get? c=!o->(h₃.push { cls:=.type "tuple",data:=.seq [x,y].toArray }).get? c=!o:=λc o c1 c2 c3 e=>GW _<|e9r c3 (e9s c2<|e7U e);let up:∀ c o,h₃.get? c=some o->(h₃.push { cls:=.type "tuple",data:=.seq [x,y].toArray }).get? c=some o:=λc o e=>GW _ e;let hn:(h₃.push { cls:=.type "tuple",data:=.seq [x,y].toArray }).get? h₃.objs.size=!{ cls:=.type "tuple",data:=.seq [x,y].toArray }:=Hw _ rfl;rw[e3]at hn ⊢;show hQ _ (up ĉ<|e9r D.i2z.symm (e9s D.i1z.symm hz₁)) ((h1₂.extBut hs₃.extBut D.i12).at λo e=>up _ o e) (h2₃.at λo e=>up _ o e) hn (by rw[JF,e3]) kp
def a4Q (c83)(hh)(D)(hz)(hT)(Vp)(h1)(Rw)(hx:xs[k1]?=none)(hQ:∀ h',(∀ c o,c≠z->c≠i1->s.heap.get? c=!o->h'.get? c=!o)->Q none { s with heap:=h' }):
  wpAny ē A rg Q E s:=by
 ext d5U
 ext d2h;simp only[Lc];ext d6Z;show GQ (wpAny_nextOf_list_end hh (e6t D.i1z) (e6u D.l1z) hx λh₂ e hs₂ he=>?_);let#[o,ho,hc]:=he;show GQ (wpAny_isInstance #[o,ho,hc] isSubtype_stop ?_);show Hg (hQ _ λc o c1 c2 e=>hs₂ ĉ c2<|e7U e)
structure ZS (c8v)(z TI TO i1 i2 l1 l2 d:Addr)(k:Nat):Prop where
 zok:(IsZip h z TI TO .none/\∃ a b,IsPair h TO a b) \/ ∃ T b o,c6k h z TI TO T b/\h.get? T=!o/\T≠z/\T≠TO/\T≠i1/\T≠i2/\T≠d
 Vp:IsPair h TI (d9i i1) (d9i i2)
 h1:h.IsListIter i1 l1 k
 h2:h.IsListIter i2 l2 k
def y9 (c83)(D)(Z)(hd:d<s.heap.objs.size)(Rw)(T5)(hx:xs[k]?=!x)(hy:ys[k]?=!y)(hQ:∀ h',ZS h' z TI TO i1 i2 l1 l2 d (k+1)->e37 y->a4G->Q b6j { s with heap:=h' }):
  wpAny ē A rg Q E s:=by
 let#[hz,Vp,ZL]:=Z;let zl:∀ {c:Addr}{o:Obj},s.heap.get? c=!o->s.heap.objs.size≠c:=λe=>IG<|HD e;let#[o1,e1,_]:=id h1;let#[o2,e2,_]:=id h2;rcases hz with⟨hz,a,b,hTO⟩|⟨T,b,o,hz,hT,t1,t2,t3,t4,t5⟩
 ·show wpAny_pyNext_zip_item D hz Vp hTO h1 h2 Rw T5 hx hy λh' e1R=>hQ h' #[.inr #[_,false,_,a1,a5,zl hz,zl hTO,zl e1,zl e2,IG hd],f0j D.TIz D.TITO D.TIi1 D.TIi2 Vp,a3,a4] a5 a7
 ·show c1V D hz hT Vp h1 h2 Rw T5 hx hy λh' a1 a3 a4 a5 a6 a7=>hQ h' #[.inr #[T,true,o,a1,f0j t1 t3 t4 hT,t6],f0j D.TIz D.TIi1 D.TIi2 Vp,a3,a4] a5 λc o c1 _ c3 c4 e=>a7 c o c1 c3 c4 e
def AL (c83)(hh)(D)(Z)(Rw)(T5)(hx:xs[k]?=none)(hQ:∀ h',a4G->Q none { s with heap:=h' }):
  wpAny ē A rg Q E s:=by
 let#[hz,Vp,ZL]:=Z;rcases hz with⟨hz,a,b,hTO⟩|⟨T,b,o,hz,hT,_⟩
 ·show wpAny_pyNext_zip_end hh D hz Vp hTO h1 h2 Rw T5 (.inl hx) hQ
 ·show a4Q hh D hz hT Vp h1 Rw hx λh' kk=>hQ h' λc o c1 _ c3 _ e=>kk c o c1 c3 e
variable {prog:É}{w:World}{κ:Type}[DecidableEq κ]{knd:KeyKind prog w κ}
theorem c4c (knd)(xs ys:Ó)(ps:List (κ×Value)):Prop:=xs.size=ps.length/\∀ (i:Nat) p,ps[i]?=!p->∃ u,xs[i]?=!u/\ys[i]?=!p.2/\knd.is p.1 u=true
def a2O (c83)(c8c)(hh)(R4)(D)(hp:c4c knd xs ys ps)(nd:d≠z/\d≠TI/\d≠TO/\d≠i1/\d≠i2/\d≠l1/\d≠l2)(d1F):
  ∀ (n i:Nat)(s:Ê),n=ps.length - i->i<=ps.length->ZS s.heap z TI TO i1 i2 l1 l2 d i->s.heap.IsList l1 xs->s.heap.IsList l2 ys->e3J d b6Z->
   (∀ h' tk,f0e DM->(∀ b o,b≠d->b≠z->b≠TO->b≠i1->b≠i2->s.heap.get? b=!o->h'.get? b=!o)->R tJ { s with heap:=h',toks:=tk })->
   codeAny ē A (d8X z) R s:=by
 let#[dz,dTI,dTO,di1,di2,dl1,dl2]:=nd;let lk:∀ {h h':Heap}{l:Addr}{vs:Ó},h.IsList l vs->(∀ o,h.get? l=!o->h'.get? l=!o)->h'.IsList l vs:=λgR k=>by let#[o,ho,r]:=gR;show#[o,k o ho,r]
 intro n
 induction n with
 | zero=>
  ext d7E;let ei:i=ps.length:=#[0]
  ext d8x;show GQ (AL hh D Z Rw T5 a9h λh' ext=>?_);let#[uf]:=hd;show GQ (Hg<|Hg (h h' _ ⟨o,es,ep,ext d o dz dTO di1 di2 ho,by rw[ei,HJ]at r;show r⟩ λb o _ b1 b2 b3 b4 hb=>ext b o b1 b2 b3 b4 hb))
 | succ n ih=>
  ext d7E;let NI:i<ps.length:=#[0]
  ext d5S
  let#[u,ex,ey,hk]:=hp.2 i p ep;ext d8x;let hdl:d<s.heap.objs.size:=by let#[o,_,_,ho,_]:=hd;show HD ho
  show GQ (y9 D Z hdl Rw T5 ex ey λh1 Z1 ht QD=>?_);let XS:e53 d b7A:=by let#[uf]:=hd;show#[Pk,QD d o dz dTO di1 di2 ho,r]
  show GQ (Ip<|GQ (K3 ?_));show GQ (L7 #[_,ht,1] ?_);show GQ<|K4 ht rfl FX;let hml:(merged []<|ps.take i).length<=sizeLine:=by let h1:=merged_length_le ([])<|ps.take i;ext d3L
  ext d2A;show ih (i+1) { s with heap:=h2,toks:=s.toks+1 } #[0] #[0] ?_ (lk Rw λo e=>O4 _ o dl1.symm<|QD _ o D.l1z D.l1TO D.l1i1 D.l1i2 e) (lk T5 λo e=>O4 _ o dl2.symm<|QD _ o D.l2z D.l2TO D.l2i1 D.l2i2 e) ?_ λe2Z h3 h4=>f0f h3 λb o b0 b1 b2 b3 b4 hb=>h4 b o b0 b1 b2 b3 b4 (O4 b o b0<|QD b o b1 b2 b3 b4 hb)
  ·let#[zk,mK]:=Z1;show#[?_,f0k dTI.symm q1,q2.at λo e=>O4 _ o di1.symm e,q3.at λo e=>O4 _ o di2.symm e];rcases zk with⟨a1,a,b,a2⟩|⟨T,b,o,a1,a2,t1,t2,t3,t4,t5⟩
   ·show .inl #[f0k dz.symm a1,a,b,f0k dTO.symm a2]
   ·show .inr #[T,b,o,f0k dz.symm a1,f0k t5 a2,t6]
  ·ext d5p
def a6Y (c83)(c8c)(hh)(D)(hz:IsZip s.heap z TI TO .none)(Vp)(hTO:IsPair s.heap TO .none .none)(h1:s.heap.IsListIter i1 l1 0)(h2:e55 0)(Rw)(T5)(hp:c4c knd xs ys ps)(R4)(h:∀ h' tk,e1o DM->(∀ b o,b≠z->b≠TO->b≠i1->b≠i2->s.heap.get? b=!o->h'.get? b=!o)->Q SC { s with heap:=h',toks:=tk }):
  wpAny ē A (call SL [.ref z]) Q E s:=by
 let ls:∀ {c:Addr}{o:Obj},s.heap.get? c=!o->s.heap.objs.size≠c:=λe=>IG<|HD e;ext d2b;let hz':=GW { cls:=.type "dict",data:=.dict [].toArray } hz;ext d3b;show GQ (L7 #[_,hz',1] ?_);show GQ (ya hz' hh λg1 tk1 e1 ne1=>?_);ext d5K;show GQ xb;show GQ (wpAny_pyIter_zip (e6Y hz) ?_);ext d5T;let XS:g1.DictOf knd s.heap.objs.size []:=by let#[uf]:=Oj;show#[c6c]
 let lk:∀ {l:Addr}{vs:Ó},e4v vs->g1.IsList l vs:=λgR=>by let#[o,ho,r]:=gR;show#[o,Ot _ o ho,r]
 let#[p1,q1,_]:=id h1;let#[p2,q2,_]:=id h2;let#[p3,q3,_]:=id Rw;let#[p4,q4,_]:=id T5;show a2O (A:=A.in1) hh R4 D hp #[ls hz,ls Vp,ls hTO,ls q1,ls q2,ls q3,ls q4] _ ps.length 0 { s with heap:=g1,toks:=tk1 } #[0] (HP _) #[.inl #[e6Y hz,_,_,e6Y hTO],e6Y Vp,h1.at λo e=>Ot _ o e,h2.at λo e=>Ot _ o e] (lk Rw) (lk T5) (by show XS) λf1z=>?_;show#[1,f0f hD λe6E b3 b4 e=>keep b o (ls e).symm b1 b2 b3 b4<|Ot b o e]
open e
inductive a38 (K:Ψ)(Q:VK)(vs:π)(H1:Hp):∀ a b ķ,vs=[.ref a,.ref b]->(LS K H1 a (ķ.map λkv=>kV kv.1))->LS K H1 b ĸ->ķ.length<=1000->NX H1 ŧ Q
theorem tDZ (K)(ta):TE:=λd92=>ta σ H λe43=>a38 K Q vs H1
def a2W:∀ {ķ:ξ}{us vs:θ},Fc Ş us->Fc ĸ vs->∃ ps:List (jr×Value),KV ķ ps/\us.length=ps.length/\∀ (i:Nat) p,ps[i]?=!p->∃ u,us[i]?=!u/\vs[i]?=!p.2/\(aQ P w).is p.1 u=true:=by
 intro ķ
 induction ķ with
 | nil=>intro us vs h h';cases h;cases h';show#[[],.nil,1,λi p h=>by simp at h]
 | cons kv ķ ih=>
  intro us vs h h'
  cases h with
  | @cons _ u _ _ ru r=>
   cases h' with
   | @cons _ v _ _ rv r'=>
    let#[Qt]:=ih r r';show#[Si::ps,.cons #[1,rv] k1,by simp[k2],λi p h=>?_]
    cases i with
    | zero=>
     let h:Si=p:=by simpa using h
     subst h;show#[u,2,kr ru]
    | succ i=>show k3 i p Ŷ
def f1G (K)(hc)(hgD:Gl X "dict")(hmD:X.mg "dict"=none)(hgZ:Gl X "zip")(hmZ:X.mg "zip"=none)(ha:PA X yN ta)(hK)(c7m):
  PE X (.Call c2b [.Call (.Name "zip" p2) yN [] p3] [] pos) (tDZ K ta):=by
 subst hK;ext d2c;show Iy (dE I hgD hmD PyProof.Rows.boot_dict ?_);show IT ?_;show Calls.spliced_cons ?_;show Iy<|dE I hgZ hmZ b7Z (IT (M8 (ha p3 ñ s σ H _ I h) λus e6C=>?_) mh (by rw[U5];rfl));ext d6R;let#[a,b,ķ,e,hx,hy,hz,q]:=q1;subst e;let#[u1,u2,1,r,r']:=Cj r1
 cases r
 cases r';let#[Ex,p1,_]:=I1.list hx;let#[Pp,YQ,p2,_]:=I1.list hy;let#[Qt]:=a2W rv YQ;ext d6f;ext d3G;ext d6S;let lt:∀ {c:Addr}{o:Obj},s1.heap.get? c=!o->@LT.lt Nat _ c s1.heap.objs.size:=λe=>HD e;let#[oa,ea,ra]:=id p1.isList;let#[ob,eb,rb]:=id p2.isList;let la:=lt ea;let lb:=lt eb;show a6Y ļ #[Ew,Ew,mU] a1 a2 a3 a4 a5 #[oa,f0j ea,ra] #[ob,f0j eb,rb] #[by show k2,λi p h1=>by simpa using k3 i p h1] #[] λW2 tk hD keep=>?_;all_goals try (intro z;let z':@Eq Nat ĉ:=z;lia)
 let VR:(bp [] ķ).length<=sizeLine:=by let h1:=cA ķ [];ext d7j;lia
 let le:@LE.le Nat _ s1.heap.objs.size h'.objs.size:=by rw[a6];lia
 show#[.ref h'.objs.size,_,I1.laid (λc o e=>?_) le ?_,1,q.at c15]
 ·let:=lt e;show keep c o ?_ ?_ ?_ ?_<|a7 c o e;all_goals (intro z;let z':@Eq Nat ĉ:=z;lia)
 ·show#[VR,Kg.mpr<|IG (HN I1.big le),_,k1.merge .nil,hD]
def a5u (c8g)(hb:yU X.K fd ps ds)(hd:Fc dvs ds)(d1P)(c9q)(h:sp g7 H Q (W σ)):e4W s:=by
 let r2:=r.append hd;let hl:(us++ds).length=ps.length:=by rw[<- r2.length];ext d6v
 show KD (d8P Ĉ c1b r2)
 cases r with
 | error e=>ext d4G
 | ok fl=>
  cases fl with
  | ret u=>show I.after hq
  | next=>ext d2T
  | brk=>ext d2T
  | cont=>ext d2T
def b0Y (bs:Ñ):(List.range bs.length).any b7B=bs.any id:=by
 let e:(List.range bs.length).map b7B=bs:=by show JE ė λi e12=>?_;simp[h2]
 let:=List.any_map (f:=λi=>e6U false) (l:=List.range bs.length) (p:=id);rw[e]at this;show this.symm
def C5 (K)(hc)(hK):Ms X (.builtin "any") c3O:=by
 ext d35
 ext d4q;let hlen:its.length=bs.length:=by let:=rv.length;ext d8t;omega
 let hpn:p≠s.heap.objs.size:=by let#[_,_,e,_]:=pl;show HY og
 show call_any_walk ?_;show Kp pl.isList ?_;show#[c34,λi=>e6U false,c24]
 ·let hv:its[i]?=!v:=by simpa using hv
  let hi:i<bs.length:=by rw[<- hlen];show (GS.mp hv).1
  ext d4B
  ext d2F
 ·let e:its.toArray.size=bs.length:=by simp[hlen]
  rw[e,b0Y];ext d3r
theorem a5Z (d1C)(dvs)(sp):Prop:=
 ∃ f fd ds,mg x=!.ref f/\W.keepIn K Ci=true/\yU K fd ps ds/\Fc dvs ds/\M9 P w K mg base fQ k f fd ps sp
theorem zH (sp)(dvs)(c9c)(t:TA):TE:=λd92=>t σ H λe43=>sp g7 H1 Q (W σ)
def a0r (d1P)(D:a5Z X.prog X.w X.K X.mg X.base k x ps dvs sp)(c9C):
  PE X ę (zH sp dvs W t):=by
 let#[kQ,ds,hm,hk,hb,hd,F]:=D;ext d2D;show a5u F hr hb hd hx I1 r q
variable {x:Str}{p:Pos}{K:Ψ}
def dB (c90)(k:Cb R r)(c8S)(c7A)(hn)(c7x):e7H (tP iE):=(bL hc hg hm hv ha hn OO he Oi).imp λe0c=>tP.cb k h
def Zy (k:Cb R r)(c87)(c7A)(hn)(c7x):e7H (tP iE):=(eK hc hg hm hv ha hn OO he Oi).imp λe0c=>tP.cb k h
def LO.put (hd:e1S v):∀ {ð:ι}{ķ:ξ},ķ.map (·.1)=ð.map (·.1)->e3K ĸ->
  (ķ.map λkv=>if kv.1=y then Si else kv).map (·.1)=(ð.map λkv=>if kv.1=y then (kv.1,d) else kv).map (·.1)/\LO F ((ð.map λkv=>if kv.1=y then (kv.1,d) else kv).map (·.2)) ((ķ.map λkv=>if kv.1=y then Si else kv).map (·.2)):=by
 intro ð
 induction ð with
 | nil=>
  intro ķ h _
  cases ķ with
  | nil=>show#[2]
  | cons _ _=>cases h
 | cons p ð ih=>
  intro ķ h y'
  cases ķ with
  | nil=>cases h
  | cons q ķ=>
   ext d4E;simp only[Hu,h1];ext d8z
   ·rw[if_pos z,if_pos z];show#[by rw[i1],v,_,1,hd,i2]
   ·rw[if_neg z,if_neg z];show#[by rw[h1,i1],wG,by cbv,i2]
theorem vM (d1Y)(d:D):ι:=if b3C=true then ð.map (λkv=>if kv.1=y then (kv.1,d) else kv) else ð++[(y,d)]
theorem sL (d1Y):ι:=ð.filter λkv=>decide (kv.1≠y)
theorem ic (ð more:ι):ι:=more.foldl (λacc kv=>vM acc kv.1 kv.2) ð
def c2K {α β:Type}{l:List (jr×α)}{m:List (jr×β)}(h:l.map (·.1)=m.map (·.1)):(l.any λkv=>decide qY)=m.any λkv=>decide qY:=by
 let:∀ {γ:Type} (l:List (jr×γ)),(l.any λkv=>decide _)=(l.map (·.1)).any λk=>decide (k=y):=λl=>by rw[List.any_map];rfl
 rw[this,this,h]
def c1D (d0A)(k:e3K ĸ)(hd:e1S v):(eS ķ y v).map (·.1)=(vM ð y d).map (·.1)/\LO F ((vM ð y d).map (·.2)) ((eS ķ y v).map (·.2)):=by
 ext1 eS vM;rw[c2K h];by_cases z:b3C=true
 ·rw[if_pos z,if_pos z];show LO.put hd h k
 ·rw[if_neg z,if_neg z];simp only[He,Hu,J0,h,true_and];show k.app (.one hd)
def b3g:∀ {md:ι}{mv:ξ}{ð:ι}{ķ:ξ},mv.map (·.1)=md.map (·.1)->LO F (md.map (·.2)) (mv.map (·.2))->ķ.map (·.1)=ð.map (·.1)->e3K ĸ->
  (bp ķ mv).map (·.1)=(ic ð md).map (·.1)/\LO F ((ic ð md).map (·.2)) ((bp ķ mv).map (·.2)):=by
 intro md
 induction md with
 | nil=>
  intro mv ð ķ h _ h' k
  cases mv with
  | nil=>show#[h',k]
  | cons _ _=>cases h
 | cons p md ih=>
  intro mv ð ķ h y' h' k
  cases mv with
  | nil=>cases h
  | cons q mv=>
   let#[u,gG]:=y';ext d2o;let#[xP]:=c1D (y:=p.1) h' k q2;let:=ih (ð:=vM ð p.1 p.2) (ķ:=e6S u) h2 (SU▸q3) i1 i2;change (e8s mv).map (·.1)=_/\LO F _ ((e8s mv).map (·.2));rw[h1,show q.2=u from q1];show this
def b10:∀ {ð:ι}{ķ:ξ},ķ.map (·.1)=ð.map (·.1)->e3K ĸ->(mB ķ y).map (·.1)=(sL ð y).map (·.1)/\LO F ((sL ð y).map (·.2)) ((mB ķ y).map (·.2)):=by
 intro ð
 induction ð with
 | nil=>
  intro ķ h _
  cases ķ with
  | nil=>show#[2]
  | cons _ _=>cases h
 | cons p ð ih=>
  intro ķ h y'
  cases ķ with
  | nil=>cases h
  | cons q ķ=>
   ext d4E;unfold mB sL at i1 i2 ⊢;rw[Il,Il,h1];ext d8z
   ·rw[if_neg<|by simp[z],if_neg<|by simp[z]];show#[xP]
   ·rw[if_pos<|by simp[z],if_pos<|by simp[z]];simp only[Hu,i1,h1,true_and];show#[wG,by cbv,i2]
def a04 {ð:ι}{ķ:ξ}(d0A):LO F GC Ş:=by
 let:∀ l:List jr,LO F (l.map kD) (l.map kV):=λl=>by
  induction l with
  | nil=>rfl
  | cons y l ih=>show#[_,_,1,by cases y <;> rfl,ih]
 let e1:ð.map pK=(ð.map (·.1)).map kD:=by rw[GV];rfl
 let e2:Ş=(ķ.map (·.1)).map kV:=by rw[GV];rfl
 rw[e1,e2,h];show this _
def wV:∀ ms:Ξ,LO F (ms.map .int) (ms.map V.int):=by
 intro r'
 induction r' with
 | nil=>
  show rfl
 | cons _ ms ih'=>
  show #[D3,ih']
theorem prs (ð:ι):χ:=ð.map λkv=>.tup [kD kv.1,kv.2]
def b4e:∀ {ð:ι}{vs:π},LO F (prs ð) vs->∃ ķ:ξ,ķ.map (·.1)=ð.map (·.1)/\LO F Ţ ĸ/\Paired (λv (kv:jr×V)=>∃ t,v=.ref t/\F t=!.tup FB) vs ķ:=by
 intro ð
 induction ð with
 | nil=>intro vs h;ext d6C;show#[[],2,.nil]
 | cons p ð ih=>
  intro vs h;let#[v,ws,q1,#[a,us,q0,q2,u1,u2,q3,q4,u3,u4,q5,q6,q7],q8]:=h;let#[ķ,xP,i3]:=ih q8;subst q0 q1 q5 q3
  cases q7;rw[pF q4]at q2;show#[(p.1,u3)::ķ,by cbv,#[wG,q6,i2],.cons #[a,1,q2] i3]
inductive OP:Ä
 |s {x:D}{m:χ}:qU x m->OP [x] (.int m.length)
 |k {ð:ι}:OP As (.int ð.length)
def a3n:e5U (λe1y=>(∃ p ys,xs=lS/\(f05 ys\/NC X.K H p ys)/\Q uT H)\/∃ d ķ,xs=nM/\Rd H d Ax/\Q ke H):=b2P.or b4L
def a6R:Cb OP (λe1y=>(∃ p ys,xs=lS/\(e8k ys\/NC K H p ys)/\Q uT H)\/∃ d ķ,xs=nM/\Rd H d Ax/\Q ke H):=λf1x=>by
 cases z with
 | s h=>show .inl (d9K a1W)
 | k=>
  ext d8B;let:=d91 p2;simp at this;show .inr #[a,ķ,1,p1.mono s,by rw[this];show tP.at s q rfl]
inductive lV:Ä
 |s {x:D}{m:χ}:qU x m->lV [x] Pi
 |k {ð:ι}:lV As (.lst GC)
def gC (hc):e7I (λe1y=>(∃ p ys,xs=lS/\(f05 ys\/NC X.K H p ys)/\NX H nG Q)\/∃ d ķ,xs=nM/\Rd H d Ax/\NX H (.lst Ş) Q):=(listS X.K).or (r9 hc)
def a8t:Cb lV (λe1y=>(∃ p ys,xs=lS/\(e8k ys\/NC K H p ys)/\NX H nG Q)\/∃ d ķ,xs=nM/\Rd H d Ax/\NX H (.lst Ş) Q):=λf1x=>by
 cases z with
 | s h=>show .inl (d9K b8h)
 | k=>
  ext d8B;show .inr #[a,ķ,1,p1.mono s,kh s q λe46=>#[c,_,1,z,a04 p2]]
inductive XZ:Ä
 |k {ð:ι}:XZ As An
 |p {ð:ι}:ð.length<=1000->XZ [.lst (prs ð)] An
def eZ (hc):Ms X SL Ō:=b29.or (cC hc)
def c37:Cb XZ Ō:=λf1x=>by
 cases z with
 | k=>
  ext d8B;show .inl #[a,ķ,1,p1.mono s,kh s q λe46=>let m:=b3g p2 (p3.mono e) (ð:=[]) (ķ:=[]) rfl rfl;#[c6w]]
 | p h3=>
  let#[yR]:=hx;let#[ķ,xP,i3]:=b4e p2;let:=d91 i1;simp at this;show .inr #[a,ķ,1,#[vs,s ĉ p1,Paired.O3 i3 λe28=>(by let#[t,z1,z2]:=gR;show#[t,z1,s ĉ z2])],#[0],kh s q λe46=>let m:=b3g i1 (i2.mono e) (ð:=[]) (ķ:=[]) rfl rfl;#[c6w]]
inductive vQ:Ä
 |k {ð:ι}{ns ms:Ξ}:ð.map (·.1)=ns.map (λn:Int=>(Sum.inl n:jr))->ns.length<64->(∀ U3:Ξ,U3.Perm ns->U3.Pairwise kO->U3=ms)->vQ As (.lst (ms.map .int))
def f1K:Cb vQ (λe1y=>∃ d ķ ns,xs=nM/\Rd H d Ax/\ķ.map (·.1)=ns.map (λn:Int=>(Sum.inl n:jr))/\ns.length<64/\
  ∀ U3:Ξ,U3.Perm ns->U3.Pairwise kO->NX H b8j Q):=λf1x=>by
 let#[AU,h5]:=z;ext d8B;show#[a,ķ,_,1,p1.mono s,p2.trans h3,h4,λU3 a1 a2=>?_];rw[h5 U3 a1 a2];show kh s q λe46=>#[c,_,1,z,wV _]
def b3r:∀ {ð:ι}{vs us:π},LO F GC vs->e3K us->∃ ķ:ξ,vs=ķ.map (λkv=>kV kv.1)/\us=ķ.map (·.2)/\ķ.map (·.1)=ð.map (·.1):=by
 intro r'
 induction r' with
 | nil=>
  intro _ _ h h';show #[[],h,h',1]
 | cons p ð ih'=>
  intro _ _ y2' y3';let#[v,gG]:=y2';let#[u,us,q4,q5,q6]:=y3';let#[ķ,xP,i3]:=ih' q3 q6;show#[(p.1,u)::ķ,by rw[q1,i1,pF q2];rfl,by rw[q4,i2];rfl,by cbv]
open e
def PE.p (h:e0P (tN re)):e0P vC:=h.imp λe05=>tN.p
def b74 {K:Ψ}(h:tN DP σ H Q):e3j Q:=by
 obtain⟨F,ε,d,S,@⟨l,os,h1,h2,h3,h4⟩,q⟩:=h;show#[EL,l,S,h1,λJ e13 hJ=>rQ rK hJ h2 h3 λf1w=>?_];let n0:H a=none:=by cases y:H a with
  | none=>rfl
  | some o=>rw[e1I y]at ha;cases ha
 subst h4;show q a H2 Ł n0 #[vs,hv,hd.mono λb o y=>?_];unfold grow ay at y;ext d4D
 ·grind
 ·rw[aA z];ext d6X;by_cases w:H b=none
  ·rw[if_pos w]at y ⊢;by_cases w1:H1 b=none
   ·cbv
   ·rw[if_neg w1]at y;show e2 ĉ y
  ·rw[if_neg w]at y ⊢;by_cases w1:H1 b=none
   ·cases y3:H b with
    | none=>show absurd y3 w
    | some o=>rw[e1I y3]at w1;cases w1
   ·rwa [if_neg w1]at y
variable {st:Stmt}{re rk:Rx}{K:Ψ}{i j:Nat}
def Zx:PE X c1i (tN λ_ d=>d=MP []):=Qz.imp λe1E e79=>by let#[c6L]:=gR;subst h;show q p _ (aZ Ě hp) hp #[[],ai,2]
inductive rD1 (d1W):∀{k:jr}{x v:D},ra ε x->x=kD k->rb ε v->d=MP [(k,v)]
def dD1 (c6X):PE X (.Dict [!a] [b] pos) (tN (rD1 ra rb)):=
 (FC (CZ ha hb b9Z) rfl rfl İ<|Nat.le_of_ble_eq_true rfl).imp fun σ H Q ⟨F,ε,d,S,.mk (k:=k) h1 hk h2 h3,q⟩ p hp=>by
  subst hk;let S0:e7P (upd H p<|.dK []) ε:=⟨λb o y=>by rw[aa (λz=>by rw[z]at y;rw[e36 y]at hp;cases hp)];show S.le ĉ y,S.len,S.rd⟩
  show tP.go S0 h1 λx d97=>e50 h2 λy e4k=>#[e2 ĉ<|e1I ai,[(k,y)],by rw[pF q1];rfl,Nat.le_of_ble_eq_true rfl,?_]
  let e3:f' H (e6P p<|.dK (bp [] [(k,y)])):=bg ((aZ Ě hp).trans<|e1.trans e2) hp;subst h3;show q p _ e3 hp ⟨[(k,y)],by rw[ai];rfl,rfl,_,_,rfl,q2.mono λb o w=>?_,rfl⟩;rw[aw e1 e2]at w;unfold grow at w;by_cases z:b=p
  ·subst z;rw[if_neg<|by grind [ai]]at w;rw[e36 w]at hp;cases hp
  ·rw[aA z];ext d6X;rw[aa z]at w ⊢;show w
inductive Y9 (d1G):Fl->Prop
 |mk {ð:ι}{k:jr}{x d:D}:ε[i]?=!.ow rP->ð.length<=1000->V' re ε d->rk ī x->x=kD k->Y9 i rk re ε (d81 (MP (vM ð k d)))
def qP (h:e0Q (YO yI (tP rk) te))(kt):e2L (Y9 i rk re):=λe1Q=>h.imp λe0g=>by let#[ZG]:=gR;obtain @⟨ð,k,x,d,h1,h2,h3,h4,hk⟩:=h;subst hk;show kt Ĉ b1X;let#[a,yk,ķ,p4,p5,p6]:=S1.ro i _ h1;show#[_,p1,tP.go S1.a h4 λy e6s=>#[a,_,1,pF q2▸Us.k (e1b p4) (JK (by let:=d91 p5;simp at this;rw[this];show h2)<|by decide +kernel),p σ _ F1 u1 ((S1.N0 e2).chg h1 p1 ?_)]];let#[xP]:=c1D p5 p6 q1;show#[_,ai,xP]
inductive YT (i j:Nat)(ε:Ev):Fl->Prop
 |mk {l:χ}{d:D}:ε[j]?=!.ow (.lst (l++[d]))->YT i j ε b0e
inductive YU (i j:Nat)(ε:Ev):Fl->Prop
 |mk {l:χ}{d:D}:ε[j]?=!.ow (.lst (d::l))->YU i j ε b0e
def a7R (h:e0Q (mH (a0d K "list" yC (cu j)) lW)):e2L (YT i j):=λe1Q=>h.imp λe0g=>by
 ext d6Y;obtain @⟨l,d,h1⟩:=h;let#[v5,p5]:=f0b _ h1;let hl:=p5.length;rw[Ho,Ie]at hl;let#[v,v1,v2]:=p5.at (i:=l.length) (d:=d) ė
 show#[_,p1,.inl c2a,a,vs,v,2,p4,by rw[hl];show v1,p ĉ F Ě<|(e56 #[_,ai,?_]).V8 v2 i];let:=p5.take l.length
 simp_all [List.take_left',List.dropLast_eq_take]
def a3B (h:e0Q (mH (tBM K "list" a8C (cu j) c2c) lW)):e2L (YU i j):=λe1Q=>h.imp λe0g=>by let#[ZG]:=gR;obtain @⟨l,d,h1⟩:=h;let#[v5,rj,p5,p6]:=f0b _ h1;show#[_,p1,.inl #[1,_,LS.of p4],a,_,(0),(0),v,2,p4,by decide,by decide,by simp[seqIndex?],1,p ĉ F Ě<|(e56 #[_,ai,by simpa using p6]).V8 p5 i]
inductive WU (i:Nat)(rk:Rx)(ε:Ev):Fl->Prop
 |mk {ð:ι}{k:jr}{x v:D}:ε[i]?=!.ow rP->rk ī x->x=kD k->cX ð k=!v->WU i rk ε (d81 (MP (sL ð k)))
def a3C (h:e0Q (rG (Cv yI (tP rk)))):e2L (WU i rk):=λe1Q=>h.imp λe0g=>by let#[ZG]:=gR;obtain @⟨ð,k,x,v,h1,h2,hk,h3⟩:=h;subst hk;let#[a,yk,ķ,p4,p5,p6]:=e6X _ h1;let#[w,w1,_]:=(LO.val p5 p6).2 v h3;let#[xP]:=b10 p5 p6;show#[_,p1,a,1,.inl #[ķ,.inl p4],tP.go S.a h2 λy e6s=>#[ķ,k,w,e1b p4,pF q2,w1,p σ _ F Ě<|(S.N0 e2).chg h1 p1 #[_,ai,xP]]]
inductive rSI (d1G):Fl->Prop
 |mk {l:χ}{m:Nat}{k:Int}{d:D}:ε[i]?=!.ow Ch->V' re ε d->rk ī rW->WB l.length k=!m->rSI i rk re ε (d81 (.lst (l.set m d)))
def qSI (h:e0Q (mH te (a5d yI (tP rk) CM)))(kt):e2L (rSI i rk re):=λe1Q=>h.imp λe0g=>by
 ext d6Y;obtain @⟨l,m,k,d,h1,h3,h4,h5⟩:=h;show kt Ĉ b1X;let#[v5,p5]:=S1.ro i _ h1;show#[_,p1,tP.go S1.a h4 λy e6s=>#[a,vs,k,m,1,q2,e1b p4,by rw[p5.length];show h5,p σ _ F1 u1<|(S1.N0 e2).chg h1 p1 #[_,ai,?_]]];let:∀ {l:χ}{vs:π} (m:Nat),LO F1 l vs->LO F1 (l.set m d) (vs.set m x):=by
  intro l
  induction l with
  | nil=>intro vs m h;rw[h];rfl
  | cons e l ih=>
   intro vs m h;let#[rj,ZL]:=h
   cases m with
   | zero=>show#[wG,q1,h2]
   | succ m=>show#[wG,h1,ih m h2]
 show this m p5
inductive a3z (i:Nat)(g:Int->Int->Int)(c8C):Fl->Prop
 |mk {x y:Int}:ε[i]?=!.fz (.int x)->re ī (.int y)->a3z i g re ε (.nx (ε.set i (.fz (.int (g x y)))))
def xW (h:e0Q (a0f i vC (ipI g))):e2L (a3z i g re):=λe1Q=>h.imp λe0g=>by let#[ZG]:=gR;obtain @⟨x,y,h1,h2⟩:=h;let#[v,v1,v2]:=S.rz i _ h1;show#[v,v1,tP.go S.a h2 λu e13 _ q1=>#[x,y,v2,q1,p ĉ F Ě<|(S.N0 e1).V8 (d:=.int _) rfl i]]
inductive rEx (c8C):Fl->Prop
 |mk {d:D}:re ī d->rEx re ε AT
def b8f (d1X)(c8O):QS X (.Expr e pos) (rEx re):=λe1Q=>(aE h hs).imp λe0g=>by let#[ZG]:=gR;let#[h1]:=h;show tP.go S.a h1 λe0E=>p σ H1 F Ě (S.N0 e1)
open e
def b9L (h0:H0 a≠none->F0 a=!o)(hH:H a=!o):e7T Ah=grow (e7T F0) (e7T H0) (e7T H):=by
 ext d8A
 ·subst z;by_cases n:H0 b=none
  ·let e1:e5u H b≠none:=by rw[aF n,hH];show nofun
   rw[cE e1,aF<|Qq.mpr n,cE (by rw[hH];show nofun)]
  ·let e0:=h0 n;let e1:e5u H b≠none:=by ext1 grow;rw[if_neg n,e0];show nofun
   rw[cE e1];ext d6X;rw[if_neg λm=>n<|Qq.mp m,cE (by rw[e0];show nofun)]
 ·rw[bI z];ext d6X;rw[bI z,bI z,bI z]
def gW (h:F a=none\/F a=!o):e5v (Ni a u F)=F:=by
 rcases h with h|h
 ·rw[tq h,tq h]
 ·show ni h
def Vu.Ni (hF:F a=Option.some o)(k:WH o ķ)(k')(hb:b≠a):e8q b->Vu Fd fR d b:=by
 cases d with
 | lst l=>rintro⟨vs,h,q⟩;show#[vs,by rw[bI hb];show h,q.Ni hF k k']
 | dct ks l=>rintro⟨vs,h,h2,q⟩;show#[vs,by rw[bI hb];show h,h2,q.Ni hF k k']
 | _=>show λz=>z.elim
def Ss.Ni {a:Addr}(S)(hF:F a=!o)(k:WH o ķ)(k'):Ss (L2.Ni a o' F0) (L2.Ni a o' H0) Fd σ fR ε:=by
 let h0:=λn=>by let:=S.lo ĉ hF;unfold L2.grow at this;rwa [if_neg n]at this
 show#[cK S.b0,cK S.f0,cK S.up,?_,S.len,c4d,S.ap]
 ·rw[<- b9L h0 (e36 hF)];show cK S.lo
 ·let#[v,v1,v2]:=S.rz i d q;show#[v,v1,v2.Ni hF k k']
 ·let#[b,Bz,b4]:=e6X d q;let hb:b≠a:=λz=>by grind
  show#[b,b1,by rw[bI hb];show b2,by rw[bI hb];show b3,b4.Ni hF k k' hb]
variable {X:Cx}
theorem NA (X)(E:Ends):Ends where
 nx:=λe3i=>(∃ a o ķ,NF X a/\H a=!.frz o Ax/\E.nx σ (d8U a Ax))\/E.nx σ H
 rt:=λv H=>(∃ a o ķ,NF X a/\H a=!.frz o Ax/\E.rt v (d8U a Ax))\/E.rt v H
def YH.NA {F0 H0 F:Hp}{E:Ends}:∀ {f:Fl},e51 F E f->e51 F (NA X E) f
 | .nx _,h=>λe3i F' u S=>.inr (h σ H F' u S)
 | .rt _,h=>λx H a b c=>.inr (h x H a b c)
def SP.VD (h:e5Q (NA X E) f s):e5Q E f s:=by
 cases f with
 | next=>
  obtain⟨σ,H,I,⟨a,o,ķ,nf,e,q⟩|q⟩:=h
  ·show#[σ,_,I.ZW e nf,q]
  ·show#[σ,H,I,q]
 | ret v=>
  obtain⟨x,σ,H,I,r,⟨a,o,ķ,nf,e,q⟩|q⟩:=h
  ·show#[x,σ,_,I.ZW e nf,r,q]
  ·show#[x,σ,H,I,r,q]
 | brk=>ext d5L
 | cont=>ext d5L
def c0z {ð:ι}(hJ:EQ J pr)(hg:YE g q)(S1:e0N F1 σ H1 ε)(d0X)(h2:lT q rb ε P0 f)(pu:e51 F1 E f):
  ∃ W:Nat->Nat->Υ,(∃ m,W 0 m σ H2)/\∀ i m σ H,e32 H->((J o a).stop i H/\(NA X E).nx σ H)\/((J o a).go i H/\∃ N:Υ,ġ/\∀ x H',(J o a).XE i H x H'->e4q H' λe5k=>Ŧ { NA X E with nx:=N,ct:=N,bk:=(NA X E).nx } σ2 H2):=by
 ext d4Y
 ·ext d4O;rcases f2 with⟨_,f2,nf⟩|f2
  ·ext d2S;let h0:F0 a=none\/F0 a=!.dK ķ:=by
    cases y:F0 a with
    | none=>show .inl rfl
    | some w=>have:=S1.up ĉ y;rw[p1]at this;show .inr this.symm
   let h0':H0 a=none\/H0 a=!.dK ķ:=by
    cases y:H0 a with
    | none=>show .inl rfl
    | some w=>have:=S1.b0 ĉ y;rw[Yq]at this;show .inr this.symm
   rw[jN Yq]at f2;subst f2;show nO (tb:=λE e3i=>∃ F0 H0,e9t H) kR hg S2 (hJ eF p2<|p3.Ni p1 ĵ g9) h2 ?_
   cases f with
   | nx ε'=>show λe3O=>.inl #[a,o,ķ,nf,S'.le ĉ<|u _ _ eF,by let S3:=S'.Ni (u _ _ eF) g9<|.inl rfl;rw[gW h0,gW h0']at S3;rw[jN<|S'.le _ _ (u _ _ eF)];show pu σ' ĉ ?_ S3;let:=e1p u;rwa [ni p1]at this]
   | rt d=>show λx H' b1 b2 z=>.inl #[a,o,ķ,nf,b2 ĉ eF,by
     let hH':=b2 ĉ eF;rw[jN hH'];let b3:=e1p b1;rw[gW h0']at b3;let b4:=e1p b2;rw[ni p1]at b4;show pu x _ b3 b4 ?_;let hz:grow (Ni a c2d F0) (Ni a c2d H0) H' a=!(.frz o<|.dK ķ):=by
      by_cases n:H0 a=none
      ·rw[aF<|Qq.mpr n];show hH'
      ·ext d6X;rw[if_neg λm=>n<|Qq.mp m,cE];intro m;let:=S1.lo ĉ p1
       grind [grow]
     let z2:=z.Ni hz g9<|.inl rfl;rw[b9L (λn=>by unfold grow at hz;rwa [if_neg n]at hz) hH',gW h0,gW h0']at z2
     show z2]
  ·cbv
 ·ext d4O;rcases f2 with⟨f2,_⟩|f2
  ·cbv
  ·ext d7n;show nO (tb:=λE e3i=>∃ F0 H0,e9t H) kR hg S1 (hJ p1 p2 p3) h2 (.NA pu)
def b3f (hp)(hc)(hi:e4d yf)(c7p):QS X Op (lj (rIt rd) q rb):=by
 intro F0 H0 ñ s σ H E I h;obtain⟨F,ε,f,S,@⟨l,@⟨c,h1,hl⟩,h2⟩,p⟩:=h;let hbx:f0l Ŧ:=λe1l E I gR=>by let#[F0,H0,h]:=gR;ext d4r
 show M8 (e1f _ I #[λe3D=>f' H H1/\DR _ c x,f0c h1 λe0E=>DE,λe3D gR=>?_]) λf s' q=>SP.VD q;let#[e1,hx]:=gR;let S1:=S.grow e1;let pu:=p.up (ao (H1:=H1) S.le)
 cases hl with
 | l hl=>
  let#[vW]:=hl.at hx;show#[a,ex,.inl #[vs,.inl<|ha.mono S1.le,e1q (Al ha hv) h2<|.NA pu]]
 | t=>
  let#[vW]:=hx;show#[a,ex,.inr<|.inl #[vs,NC.of<|e1J ha,e1q (Ze ha hv) h2<|.NA pu]]
 | k=>
  let#[l6]:=hx;show#[a,ex,.inr<|.inr ⟨ķ,p1.mono S1.le,λe8K=>c0z c0n hg S1 p1 p2 p3 fz h2 pu⟩]
def qLv (hp)(hc)(hi:e4d b9K)(c7p):QS X Op (lj (rVs rd) q rb):=by
 ext d2Z;let hbx:f0l Ŧ:=λe1l E I gR=>by let#[F0,H0,h]:=gR;ext d4r
 show M8 (e1f _ I #[c3D,λe3D gR=>(by let#[e1,l6]:=gR;show#[a,ķ,ex,p1.mono (S.grow e1).le,λe8K=>c0z c3a hg B2 p1 p2 p3 fz h2<|p.up (ao S.le)])]) λf s' q=>SP.VD q
def XH (c92)(h:e0Q (mH (e60 vC) lW))(hK:K=X.K):e2L (Fq i kM):=by intro F0 H0 ñ s σ H E I z;let#[EL,f,S,z,p]:=z;let#[z]:=z;show M8 (e0j (NA X E) I<|c5f (f0c z λe0E=>p _ H1 _ we<|(S.grow e1).V8 q1 i)) λf s' q=>SP.VD q
open e
variable {q:Õ}{rb:Rs}{α:Type}{u:α->D}
def b2k (I:β->Ú)(g:β->α->β):∀ (xs:List α) {b:β}{ε:Ev},(∀ b x ε,x∈xs->I b ε->∃ ε1,e2V ε1/\∃ ε2,e5w Ce/\I (g b x) ε2)->I b ε->∃ ε',e1Z sK/\I mM ε':=by
 intro r'
 induction r' with
 | nil=>
  intro _ ε _ h;show Gn
 | cons x xs ih'=>
  intro b ε k h;let#[ε1,k1,ε2,k2,k3]:=k b x ε Ha h;let#[Qs]:=ih' (λb y ε hy=>k b y ε<|Hk _ hy) k3;show#[ε',ur]
def b5K (d07):∀ (xs:List α){ε:Ev},(∀ x ε,x∈xs->I ε->∃ ε1,e2V ε1/\if c x=true then rb ε1 (.rt (h x)) else ∃ ε2,e5w Ce/\I ε2)->I ε->match xs.find? c with
   | some x=>e1Z (.rt<|h x)
   | none=>∃ ε',e1Z sK/\I ε'
 | [],ε,_,h=>Gn
 | x::xs,ε,k,hI=>by
  let#[ε1,k1,k2]:=k x ε Ha hI;rw[IY]
  cases z:c x with
  | true=>rw[z,if_pos rfl]at k2;show .ret k1 k2
  | false=>
   rw[z,if_neg nofun]at k2;let#[ε2,k3,k4]:=k2;let:=b5K I c h xs (λy ε hy=>k y ε<|Hk _ hy) k4
   cases y:xs.find? c with
   | some w=>rw[y]at this;show .next k1 k3 this
   | none=>rw[y]at this;let#[Qs]:=this;show#[ε',.next k1 k3 h1,h2]
def fH (I:β->Ú)(μ:β->Nat)(h0:I b ε)(k:∀ b ε,I b ε->rt ī false/\r2 ε f\/rt ī true/\∃ b' ε',rb ε sK/\I b' ε'/\μ b'<μ b):qQ (rWh rt rb) r2 ε f:=by
 let go:∀ (n:Nat) {b:β}{ε:Ev},μ b<n->I b ε->∃ ε',f1d sK/\r2 ε' f:=λn=>by
  induction n with
  | zero=>cbv
  | succ n ih=>
   intro b ε h hI;rcases k b ε hI with⟨t,h1⟩|⟨t,b',ε',k1,k2,k3⟩
   ·show#[ε,.done t,h1]
   ·let#[ε2,ZL]:=ih #[] k2;show#[ε2,.next t k1 h1,h2]
 let#[Qs]:=go _ (IK _) h0;show .nx #[_,h1] h2
def Vis (c7a)(fin:∀ ε,I mM ε->r2 ε f):e2M f:=
 let #[Qs]:=b2k I g xs k h0
 .nx nQ On
def hX (xs)(d07)(h0:I ε)(hl)(k:∀ x ε,x∈xs->I ε->∃ ε1,e2V ε1/\if c x=true then rb ε1 (.rt (h x)) else ∃ ε2,e5w Ce/\I ε2)(hs:∀ x,xs.find? c=!x->f=.rt (h x))(fin:xs.find? c=none->∀ ε,I ε->r2 ε f):e2M f:=by
 let:=b5K I c h xs k h0
 cases z:xs.find? c with
 | some x=>rw[z]at this;rw[hs x z];show .rt (.mk hl this)
 | none=>rw[z]at this;let#[Qs]:=this;show .nx nQ (fin z ε' h2)
open e
def bK (n):t9 0 n=(List.range n).map λi=>.int (i:Int):=by ext1 t9;show HH λi _=>by rw[Ka]
def AR (s n:Nat):t9 s n=(e5Z n).map λi=>.int (i:Int):=by ext1 t9;simp[List.range'_eq_map_range]
abbrev rw (r:Ξ):D:=.lst (r.map .int)
abbrev tb (t:Θ):D:=.lst nu
def UW (g:α->Int)(c91):Fl.rt (rw yA)=.rt (.lst (l.map λx=>.int (g x))):=by cbv
def tbm (g:α->Ξ)(c91):Fl.rt (tb yA)=.rt (.lst AX):=by cbv
def Led {g:α->β}(c77){i:Nat}{x:α}(h:l[i]?=!x):RC yA (i:Int)=!g x:=cT ě
def di {l:Ξ}(h:i<l.length):RC (l.map D.int) (i:Int)=!.int (l.getD i 0):=Led ě
def a6y {t:Θ}(h:i<t.length):RC nu (i:Int)=!rw (t.getD i []):=Led ě
def iK {t:List α}{z:α}(h:i<t.length):t.getD i z∈t:=by cbv
def ne_int (c7D):e61 (.bl (decide (i≠j))):=e62 (e4w rfl (e2r (by
 ext d3O
 ·subst c;simp
 ·rw[Hb c,GZ λz=>c<|by injection z];rfl)))
def eq_int (c7D):e4x (.bl (decide (i=j))):=e62 (e4w rfl (e2r (by
 rw[if_neg nofun];ext d3O
 ·subst c;simp
 ·rw[GZ c,GZ λz=>c<|by injection z])))
theorem Dj:Option Nat->D
 | none=>.non
 | some a=>.int (a:Int)
def df (k:Nat):xM l none YX=l.take k:=by ext1 xM;rw[HT.Sm,HT.Qu,List.drop_zero,Nat.sub_zero,List.take_eq_take_iff];omega
def iQ (k:Nat):xM l YX none=l.drop k:=by
 ext1 xM;rw[HT.Sm,HT.Qu,IZ<|by cbv]
 cbv
variable {α:Type}{u:α->D}
abbrev _root_.Ö:=Nat->Ú
def c3U {ok:D->Prop}:∀ (xs:List α)(I:Ö){ε:Ev},I 0 ε->(∀ i x ε,xs[i]?=!x->I i ε->∃ ε1,e2V ε1/\((∃ d,e5w vX/\ok d)\/∃ ε2,e5w Ce/\I (i+1) ε2))->(∃ d,e1Z vX/\ok d)\/∃ ε',e1Z sK/\I xs.length ε':=by
 intro xs
 induction xs with
 | nil=>intro I ε h _;show .inr Gn
 | cons x xs ih=>
  intro I ε h k;obtain⟨ε1,k1,⟨d,k2,k3⟩|⟨ε2,k2,k3⟩⟩:=k 0 x ε rfl h
  ·show .inl #[d,.ret k1 k2,k3]
  ·rcases ih (λi=>I<|i+1) k3 (λi y ε hy=>k (i+1) y ε<|by simpa using hy) with⟨d,h1,h2⟩|⟨ε',h1,h2⟩
   ·show .inl #[d,ur]
   ·show .inr #[ε',ur]
def lH (c7M)(k):∃ ε',e58 sK/\I xs.length ε':=by
 rcases c3U (ok:=λ_=>False) xs I h0 (λi x ε h h'=>let ⟨ε1,a,b⟩:=k i x ε h h';#[ε1,a,.inr b]) with⟨_,_,z⟩|⟨ε',h1,h2⟩
 ·show z.elim
 ·show#[ε',.mk hl h1,h2]
def cZ (c7M)(k)(fin):e2M f:=
 let #[Qs]:=e59 k
 .nx h1 On
def b6y (c7M)(k:∀ i x ε,xs[i]?=!x->I i ε->∃ ε1,e2V ε1/\((∃ d,e5w vX/\f=.rt d)\/∃ ε2,e5w Ce/\I (i+1) ε2))(fin):e2M f:=by
 rcases c3U xs I h0 k with⟨d,h1,rfl⟩|⟨ε',h1,h2⟩
 ·show .rt nQ
 ·show .nx nQ On
open e
variable {α:Type}{u:α->D}{ε:Ev}{J:Ú}
def pV (h1:r1 ε (.nx ε1))(h2:∃ ε',r2 ε1 sK/\J ε'):∃ ε',qQ r1 r2 ε sK/\J ε':=let ⟨ε',a,b⟩:=h2;#[ε',.nx h1 a,b]
def f1P {rt:Å}{rx ry:Rs}{ε:Ev}{J:Ú}(h:rt ī true)(k:∃ ε2,rx ε Ce/\J ε2):∃ ε2,rIf rt rx ry ε Ce/\J ε2:=let ⟨ε2,a,b⟩:=k;#[ε2,.t h a,b]
def f1O {r A B:Ú}(h:∀ ε,A ε->B ε)(k:∃ ε,r ε/\A ε):∃ ε,r ε/\B ε:=let ⟨ε,a,b⟩:=k;#[ε,a,h ε b]
def a5n (c7a)(fin:∀ ε',I mM ε'->J ε'):∃ ε',e58 sK/\J ε':=
 let #[Qs]:=b2k I g xs k h0
 #[ε',.mk hl h1,fin ε' h2]
def Gp (c7M)(k)(fin:∀ ε',I xs.length ε'->J ε'):∃ ε',e58 sK/\J ε':=
 let #[Qs]:=e59 k
 #[ε',h1,fin ε' h2]
open e
def aP (c77){x:α}(h:l[i]?=!x):l.take (i+1)=l.take i++[x]:=by rw[IU,h];rfl
def gt_int (c7D):rO (d9d b9e) ra rb ε b9e:=wc
def lt_int (c7D):rO (d9d b9f) ra rb ε b9f:=wc
def jT (h:(List.range n)[i]?=!x):i=x/\i<n:=by
 let#[ZL]:=GS.mp h;rw[HL]at h1
 cbv
def gT (c77)(c8V):cX Gv k=(l.find? λx=>decide (f x=k)).map g:=by ext1 cX;rw[List.find?_map,Option.map_map];rfl
def kS:D.str x=kD pP:=rfl
def kI:D.int i=kD (.inl i):=rfl
def a4Y:(cX ð k).isSome=true ↔ k∈ð.map (·.1):=by grind [cX,Option.isSome_map,List.find?_isSome,List.mem_map]
def O0 (c77){f:α->Str}{g:α->D}:(cX (l.map λx=>(.inr (f x),g x)) (.inr y)).isSome=decide (y∈l.map f):=by
 rw[Jc,a4Y,GV,L9,GX,GX]
 grind
def lE (c77)(d0T){g:α->D}:(cX (l.map λx=>mi) (.inl y)).isSome=decide (y∈l.map f):=by
 rw[Jc,a4Y,GV,L9,GX,GX]
 grind
def cw (h:k∉ð.map (·.1)):vM ð k d=ð++[(k,d)]:=if_neg λz=>h (let #[p,a,b]:=List.any_eq_true.mp z;GX.mpr #[p,a,HA b])
inductive a5j:D->D->D->Prop
 |mk {x:D}{k:Nat}:k<=1000->a5j (.lst [x]) rW (.lst (List.replicate k x))
def Aa:TJ a5j Dx:=λe0w=>by
 obtain @⟨x,k,hk⟩:=z;let#[Dl,p1,w,ws,1,p2,1]:=hu;show#[a,k,[w],1,hv,s ĉ p1,jR,?_,λp n=>q ĉ (aZ Ě n) #[p,_,1,by rw[aF n,ai],LO.mono (ao s) ĉ ?_]]
 ·show HE (by simpa using hk) (by decide +kernel:1000<=sizeLine)
 ·clear hk q hv
  induction k with
  | zero=>rfl
  | succ k ih=>show#[w,_,1,p2,ih]
def c7 (d1p)(c7v)(e:d=.lst (xs.map h)):e7Q d:=e▸be hi hl k
def OP.m {g:α->D}{x:List α}:OP [.lst (x.map g)] (.int x.length):=by rw[<- GP (f:=g)];show .s (.sq .lst)
def b44 (i:Int):∀ (ks:Ξ),XM Ge ((ks.map D.int).map fv)=decide vJ:=by
 intro r'
 induction r' with
 | nil=>
  show rfl
 | cons k ks ih'=>
  ext d3s
  grind
def ky:Xz n Ge (rw ks) a41:=.s #[.sq .lst,1,by rw[Jy,Io];show λ_ _=>rfl,by rw[show XM (fv<|.int i) _=decide _ from b44 i ks]]
def b39 (i:Str):∀ (ks:η),XM (.str i) ((ks.map D.str).map fv)=decide vJ:=by
 intro r'
 induction r' with
 | nil=>
  show rfl
 | cons k ks ih'=>
  ext d3s
  grind
def b2t {ks:η}:Xz n (.str i) (.lst (ks.map .str)) a41:=.s #[.sq .lst,1,by rw[Jy,Io];show λ_ _=>rfl,by rw[show XM (fv<|.str i) _=decide _ from b39 i ks]]
def yS.m (c77)(c8V):yS (MP Gv) (l.map λx=>kD (f x)):=by let:=yS.k (ð:=l.map λx=>Zw);rw[GV]at this;show this
def bY (nd:(ð.map (·.1)).Nodup)(h:(k,d)∈ð):cX ð k=!d:=by
 ext1 cX
 induction ð with
 | nil=>cases h
 | cons kv l ih=>
  ext d4l;rcases Hr.mp h with z|z
  ·rw[<- z,List.find?_cons_of_pos<|by simp];rfl
  ·rw[List.find?_cons_of_neg (by simp only[decide_eq_true_eq];show λy=>nd.1<|GX.mpr #[_,z,y.symm])];show ih nd.2 z
def a4F:∀ {more ð:ι},((ð++more).map (·.1)).Nodup->ic ð more=ð++more
 | [],ð,_=>(HF _).symm
 | kv::more,ð,nd=>by
  ext1 ic;rw[Jm,cw λz=>by rw[He,Hu,HR]at nd;show nd.2.2 _ z _ Ha rfl]
  let:=a4F (more:=more) (ð:=ð++[kv]) (by rwa [Ib]);rwa [Ib]at this
def XZ.m (c77)(c8V)(h:l.length<=1000)(nd:(l.map f).Nodup):XZ [.lst (l.map λx=>.tup [kD (f x),g x])] (MP Gv):=by let:=XZ.p (ð:=l.map λx=>Zw) Ŷ;rw[a4F (by rw[II,GV];show nd),II]at this;unfold prs at this;rw[GV]at this;show this
def a6f (h:q<n):WB n (q:Int)=!q:=by ext1 WB;rw[if_pos<|Int.natCast_nonneg q];simp[h]
inductive Y0 (R:Ä)(d0z):∀ F l d,f' F H->LO F l vs->R l d->a8W
def Y0.p (h:e7R E):Y0 R vs H Q E:=let ⟨F,l,d,s,a,b,q⟩:=h
 #[F,l,d,s,a,b,λa H' e n w=>q _ H' e (w.dr LC λo z=>by rw[aF n];show z)]
def fe (d1w)(Dd)(hr)(ht:e7F X.env=(do
   let ov <- eval o X.env
   standAt apos.atName
   let (f,first) <- holding [ov] ő
   callWith pos f first (e0n š) Ĥ):=ă):PE X Ğ (tP (a0s (·=C) m (λ_=>R) ra)):=Gx he (λC' h=>by cases h;show Dd) hr ht
def dFN (Dd:e0T (Y0 R))(hr)(d0Q):
  PE X ę (tN iE):=(e7r Oi).imp fun σ H Q ⟨F,ε,d,S,⟨h1,h2⟩,q⟩=>e3I h1 λe9K=>by
 rw[HF];show#[_,_,d,S1.le,q1,h2,λa e1v n w=>q a H2 Ł ?_ ?_]
 ·cases y:H a with
  | none=>rfl
  | some o=>rw[e1I y]at n;cases n
 ·rwa [aw e1 e2]at w
def dLN (c7O)(hi)(c6V):e33 (tN DP):=(e1K hs).imp λe05=>b74
variable {K:Ψ}
def OT.dvN {k:Nat}{st:Stmt}(c7f)(S:e9V jp)(hb:aB st=c0C)(t:∀ l d,R l d->l.length=ps.length/\re ((ent N.length l).map Sl.a) d)(b:∀ (Lz:Value)(A:Ë)(outer:List Env)(s:Ê)(H:Hp)(E:XK),LL k ĕ->PE (e0u E).Uv e (tN re)):d98 (Y0 R):=
 F.ok S (λe20 gR=>(by let#[_,l,d,_,hl,hR,_]:=gR;rw[hl.length,(t l d hR).1])) λd9Y gR=>by let#[F,l,d,sm,hl,hR,q]:=gR;show#[_,hb▸aq (bo<|e3v hr),_,_,d,(jD N sm hl).a,(t l d hR).2,λa H' e n w=>q a H' e n<|by rwa [aw Ě e]at w]
def Df.p (h:e2z k x ps (Y0 R)):e2z k x ps uR:=let ⟨f,fd,a,b,c,d⟩:=h;#[kQ,lx,d.imp λd9V=>Y0.p]
open e
inductive qX:Ä
 |mk {ð:ι}:qX As An
def b0v (hc)(hg:Gl X "dict")(hm:X.mg "dict"=none)(c7A)(hn:("dict":Str)≠"__name__":=ö)(OO:(("dict":Str)==("__debug__":Str))=false:=ö)(he)(Oi):PE X (.Call c2b sI [] pos) (tN (rF qX rs)):=(eK (eZ hc) hg hm boot_dict ha hn OO he Oi).imp fun σ H Q ⟨F,ε,d,S,⟨h1,h2⟩,q⟩=>e3I h1 λe9K=>by
 cases h2;let#[c3Z]:=q1;show .inl #[a,ķ,1,p1.mono S1.le,λp e1v n z=>?_];let n0:=e1.free n;let m:=b3g (F:=ay p<|e0M H2) (ð:=[]) (ķ:=[]) p2 (p3.mono λb o y=>?_) rfl rfl
 ·show q p H2 Ł n0 #[_,z,m.1,m.2]
 ·by_cases c:b=p
  ·subst c;rw[aF n0,n]at y;cases y
  ·rw[aA c];unfold grow at y ⊢;by_cases w:H b=none
   ·rw[if_pos w]at y ⊢;show e2 ĉ y
   ·cbv
def dI:PE X (d9j (.int n)) (d9k (.int n)):=dC aG
def iV:PE X b7R (d9k z8):=dC ji
def WT:PE X (d9j (.bool c)) (d9k (.bl c)):=dC m4
def SA:PE X b6M (d9k .non):=dC c2U
def qr (d1X):S9 X c0C (a0p re):=q1 (qR h)
def ME (hr)(c6X)(d0N):e5T b9I:=dS fB ha hb hs
def dG (hm:X.mg "len"=none)(ha:e0P vC)(hg:Gl X "len":=ă)(he:starEach [e] X.env=ĭ::starEach [] X.env:=ă):PE X (d9E (.Name "len" p)) (tP (rF OP (rA re Uu))):=dB a6R a3n hg hm boot_len (da ha LB he) (he:=he)
def qs (i)(hN)(he:e0P vC)(c62):
  QS X SB (Fq i re):=qS b6l λe0c=>h
def qo (i)(hN)(he:e0P (tN re))(c62):
  QS X SB (CK i re):=qO b6l λe0c=>h
def P6 (d0M):Q3 Ė [] (Qk Bb):=df0
variable {K:Ψ}{x:Str}{st:Stmt}{k:Nat}
def OT.dw (c7f)(c64):d98 uR:=
 F.dv S t λe0q=>e3v hr S.nd
def MO.dw (c9P)(c64):d98 uR:=
 MO.dv F S t λe0q=>e3v hr S.nd
abbrev Fu (K:Ψ)(x:Str)(st:Stmt):=OT K x x st
open e
class Bd where
  P : Program
  w : World
  K : PySem.W.Frag
  mg : Str -> Option Value
  base : Heap
variable [B:Bd]
abbrev Mo:=Df B.P B.w B.K B.mg B.base
abbrev MG:=Dm B.P B.w B.K B.mg B.base
abbrev W4:=Dk B.P B.w B.K B.mg B.base
abbrev Gu:=FR B.P B.w B.K B.mg B.base
abbrev ZR:=Dmd B.P B.w B.K B.mg B.base
abbrev Et:=DfX B.P B.w B.K B.mg B.base
abbrev Ek:=a5Z B.P B.w B.K B.mg B.base
abbrev Ej:=DiX B.P B.w B.K B.mg B.base
abbrev QH:=M9 B.P B.w B.K B.mg B.base
abbrev Tm (k:Nat)(x ğ:Str)(st:Stmt)(ps:η)(sp:Sp):Prop:=∀ f fd,OT B.K x ğ st f fd->e63 ps sp
abbrev Tk (k:Nat)(x:Str):=Tm k x x
def dw (c94)(t)
  (b) (S:au uX ps jp:=by exact Pa):e7V uR:=
 λf _ F=>F.dw N t (b f) S
def Nh (c94)(t:∀ l d,R l d->r (ent (ps++N).length l) vX)
  (b) (S:au uX ps jp:=by exact Pa) (hl:∀ l d,R l d->l.length=ps.length:=by intro _ _ h;cases h <;> rfl):e7V uR:=
 dw N (λl d h=>#[hl l d h,.inl<|t l d h]) b S
open e
universe L2
namespace K72
open PySem L2
open PyProof.Rows (boot_all boot_bool boot_dict boot_int boot_list boot_sorted boot_str boot_tuple)
structure uA (c9a)(c7j):Prop where
 cl:Pf K C
 nP:Mj K C "prime"
 Mb:mg "range"=none
 Oo:mg "zip"=none
 Z2:mg "sum"=none
 Ma:mg "len"=none
abbrev fD (c7j)(p:Int):D:=.ins C ["prime"] [.int p]
variable {C:Addr}
def uA.fl [Bx:Bd](T):∀ C',C'=C->e6a C'/\Mj Bx.K C' "prime":=λC' h=>h▸#[T.cl,T.nP]
inductive RO (c7j):Ä
 |mk {p n:Int}:0<p->RO C Ea (.int (n % p))
def a0J [Bx:Bd](T):Tm 1 "fit" "Field.fit" (e5x 1) é (d8M RO):=by
 let OH:=T.fl;show Nh [] ?_ λd9W=>(qr<|e0F (Đ 1) GA)
 rintro _ _ ⟨hp⟩;show#[#[za,#[hp]],1]
inductive iu (c7j):Ä
 |mk {p:Int}{xs ys:Ξ}:0<p->p<=1000000->xs.length<=1000->(∀ x∈xs,0<=x/\x<p)->iu C [fD C p,rw xs,rw ys] (.int (Mx.LV p xs ys))
def jM (f:α->γ)(g:β->δ):∀ (xs:List α)(ys:List β),(xs.map f).zip (ys.map g)=(xs.zip ys).map λz=>(f z.1,g z.2)
 | [],_=>rfl
 | _::_,[]=>rfl
 | _::xs,_::ys=>by simp_all [Hu,Lb,jM]
def iF (xs ys:Ξ):((xs.zip ys).map λz=>D.tup CA)=((xs.map D.int).zip (ys.map D.int)).map λz=>.tup [z.1,z.2]:=by rw[jM,GV];rfl
def kH:∀ (xs ys:Ξ),((xs.zip ys).map λz=>z.1 * z.2).sum=Mx.dot xs ys
 | [],_=>by simp[Mx.dot]
 | _::_,[]=>by simp[Mx.dot]
 | x::xs,y::ys=>by rw[Lb,Hu,List.sum_cons,kH xs ys];rfl
def b08 [Bx:Bd](T)(Lx):Tk 3 "row_sum" (top 38) û (d8M iu):=by
 show Nh [] ?_ λd9W=>(qr (e1L Lx hr.m (da (dB a1V (C4 rfl) rfl T.Z2 c2J (da (e8t (cS 2 [] ["mine","theirs"]) ES
  Ĝ
  P6
  (λd94=>e1T (Đ 0)<|Đ 1)) LB)) LB)))
 rintro _ _ @⟨p,xs,ys,hp,Vi,hl,hx⟩;show#[#[nJ,#[#[#[be #[_,_,#[3],iF xs ys] (by rw[Jb];lia) λe8a=>#[BZ,2,#[?_]],1],.mk (by rw[GV];rfl)],1],#[hp]],?_]
 ·let:=hx z.1 (Jl hz).1;show .inl vL
 ·rw[kH,<- Mx.Mn]
abbrev Cs:=List (Int×Int)
abbrev Uh (cs:Cs):D:=MP (cs.map λx=>(.inl x.1,.int x.2))
theorem bq (cs:Cs)(k:Int):Ô:=(cs.find? λx=>decide Pl).map (·.2)
def ye (h:bq cs k=!n):cX (cs.map λx=>lA) iB=!.int n:=by simp_all [bq,HI,gT]
inductive kX:Ä
 |l {t:Θ}{k:Nat}:t.length<=1000->(∀ r∈t,k<r.length)->kX [tb t,.int k] (rw (Mx.col t k))
 |d {α:Type}{l:List α}{g:α->Cs}{h:α->Int}{k:Int}:l.length<=1000->(∀ x∈l,bq (g x) k=some (h x))->kX [.lst (l.map λx=>Uh (g x)),.int k] (rw (l.map h))
def a7j [Bx:Bd]:Tk 1 "column" (top 39) ["table","place"] (Pr kX):=by
 show Nh [] ?_ λd9W=>(qr (e0v (d9t ["row","place"]) uD
  Ĕ
  P6
  (λd94=>ME hr (Đ 0)<|Đ 1)))
 intro _ _ h
 cases h with
 | @l t k hl hk=>show#[e64 hl λe45=>#[_,3,.l .lst<|di (hk r hr)],UW _ _]
 | @d α l g h k hl hk=>show#[e64 hl λe0Z=>#[_,3,.k (ye<|hk x hx) kI],UW _ _]
inductive a7J:Ä
 |mk {n i:Nat}:n<=1000->a7J [.int n,.int i] (rw (Mx.Lw n i))
def a6r:au ā ā (d8Z 41):=Pa
def c2Q [Bx:Bd](T):Tk 1 "ones_row" (top 41) ā (Y0 a7J):=by
 ext d2P;show F.dvN a6r rfl ?_ λe0q=>(dLN 0 rfl (d9t ["place","own"]) CI
  Ĕ
  P6
  (λd94=>YA (e0G (Đ 0)<|Đ 1) dI dI))
 rintro _ _ @⟨n,i,hn⟩;show#[1,?_];rw[show rw _=.lst ((List.range n).map λj=>.int<|if j=i then 1 else 0) from D.lst.inj (Fl.rt.inj<|UW _ _)▸rfl];show be ⟨n,hn,⟨rfl,rfl⟩,(bK n).symm⟩ (by simpa using hn) λj _=>QJ
 let rd:=eq_int (ε:=[some<|.int j,some<|.int i]) (ra:=rV 0) (rb:=rV 1) rfl rfl;by_cases c:j=i
 ·rw[Hb<|by rw[c]]at rd;show .t rd (by rw[if_pos c];rfl)
 ·rw[GZ<|by lia]at rd;show .f rd (by rw[if_neg c];rfl)
inductive Dfd:Ä
 |mk {n:Nat}:n<=1000->Dfd sQ (tb (Mx.ones n))
def b8w [Bx:Bd](T)(MT):Tk 2 "ones" (top 42) ["many"] (Pr Dfd):=by
 let MT:=MT.p;show Nh [] ?_ λd9W=>(qr (e8u (cS 1 [0] ["own","many"]) CI
  Ĕ
  P6
  (λd94=>dF MT hr.m rfl<|e0f ş)))
 rintro _ _ @⟨n,hn⟩;show#[be #[n,hn,#[2],(bK n).symm] b9M λj _=>#[_,za,#[hn]],tbm ĉ]
inductive qu (c7j):Ä
 |mk {p a b:Int}:0<p->Wz a b->qu C b7C (.int (a * b % p))
def c5p [Bx:Bd](Lx):Tm 2 "times" "Field.times" (e5x 4) å (d8M qu):=by
 show Nh [] ?_ λd9W=>(d9e cQ NR)
 rintro _ _ ⟨hp,hc⟩;show#[#[nJ,#[#[2,#[hc]],1],#[hp]],1]
inductive v4 (c7j):Ä
 |mk {p a b:Int}:0<p->v4 C b7C (.int ((a - b) % p))
def c3j [Bx:Bd](Lx):Tm 2 "minus" "Field.minus" (e5x 3) å (d8M v4):=by
 show Nh [] ?_ λd9W=>(d9e tU eA)
 rintro _ _ ⟨hp⟩;show#[#[nJ,#[#[2,L4],1],#[hp]],1]
inductive Ov (c7j):Ä
 |mk {p:Int}{r:Ξ}:0<p->r.length<=1000->Ov C [uZ] (rw (r.map p7))
def a2o [Bx:Bd](Lx):Tk 2 "fitted_row" (top 43) ["field","row"] (d8M Ov):=by
 show Nh [] ?_ λd9W=>(qr (e0v b33 Ÿ
  Ĕ
  P6
  (λd94=>RA (Đ 1) Lx hr.m<|e0B LB)))
 rintro _ _ @⟨p,r,hp,hl⟩;show#[e64 hl λx _=>#[_,yD,#[2],#[hp]],UW ĉ]
inductive c21 (c7j):Ä
 |mk {p k:Int}{r:Ξ}:0<p->0<=k->k<=1000000->r.length<=1000->c21 C [uZ,.int k] (rw (Mx.scaled p r k))
def Xi0 [Bx:Bd](Md):Tk 3 "scaled" (top 45) b6m (d8M c21):=by
 show Nh [] ?_ λd9W=>(qr (e0v (cS 1 [0,2] [sJ,"number"]) Ÿ
  Ĕ
  P6
  (λd94=>RA (Đ 1) Md hr.m<|e1M ş)))
 rintro _ _ @⟨p,k,r,hp,h0,h1,hl⟩;show#[e64 hl λx _=>#[_,yD,#[3],#[hp,.inl vL]],UW ĉ]
inductive PU:Ä
 |mk {t:Θ}{st q:Nat}:t.length<=1000->st<=t.length->q<=1000->(∀ r∈t,q<r.length)->PU [tb t,.int st,.int q] (Dj (Mx.MK t st q))
def c3q [Bx:Bd](T):Tk 1 "row_with" (top 44) b6n (Pr PU):=by
 show Nh ["at"] ?_ λd9W=>(qC (e0V (iR2 rfl T.Mb<|e0f (da (d85 0) LB)) YZ (aN 3)
  (q1 (qI (e38 (ME hr (ME hr (Đ 0)<|Đ 3)<|Đ 2) dI)
  BK
  q0)))
 FI)
 rintro _ _ @⟨t,st,q,hl,hs,hq,hw⟩;show ?_;show hX _ (λε=>∃ o,ε=[.fz<|tb t,.fz<|.int st,.fz<|.int q,o]) (λa=>decide c2e) (λa=>.int (a:Int)) #[_,1] #[st,t.length,#[0],hl,#[1,#[#[2],by rw[<- GP];show .s<|.sq .lst],1],(AR _ _).symm] (λa ε ha gR=>?_) (λa h=>by ext1 Mx.MK;rw[h];rfl) λh ε _=>#[1,by ext1 Mx.MK;rw[h];rfl]
 ext d3u;let ha:=List.mem_range'_1.mp ha;ext d6o;let rd:=ne_int (ε:=([Sl.fz<|tb t,.fz<|.int st,.fz<|.int q,o].set 3<|.fz (.int a)).map Sl.a) (ra:=e1N (e1N jH<|rV 3)<|rV 2) (rb:=rC<|.int 0) #[#[2,.l .lst<|a6y #[0]],1,.l .lst<|di (hw _<|iK (by omega:a<t.length))] rfl
 cases c:decide c2e with
 | false=>ext d8C
 | true=>ext d8e
inductive b1I (c7j):Ä
 |mk {p:Int}{r ld:Ξ}{q:Nat}:0<p->p<=1000000->r.length<=1000->q<r.length->Mx.NH p r->b1I C [uZ,rw ld,.int q] (rw (Mx.without p r ld q))
def c5b [Bx:Bd](T)(Md)(MI):Tk 3 "without" (top 46) b3D (d8M b1I):=by
 show Nh ["often"] ?_ λd9W=>(qC (qs 4 ND<|e3S (Đ 3))
 (qC (qI b9g
  (qr<|Đ 1)
  q0)
 (qr (e8t (cS 2 [0,4] [c41]) ES
  Ĝ
  P6
  (λd94=>e3w MI hr.m<|e0B (da (e3w Md hr.m<|e0K Ź) LB))))))
 rintro _ _ @⟨p,r,ld,q,hp,Vi,hl,hq,hf⟩;show .nx #[2,.l .lst<|di hq] ?_;ext1 Mx.without;let rd:=eq_int (ε:=[some<|fD C p,some<|rw r,some<|rw ld,some<|.int q,some<|.int (r.getD q 0)]) (ra:=rV 4) (rb:=rC<|.int 0) rfl rfl;by_cases c:r.getD q 0=0
 ·rw[Hb c]at rd;ext d4H;show .rt AE
 ·rw[GZ c]at rd;ext d3D;show .nx Au #[be (xs:=r.zip ld) FO (by rw[Jb];lia) λe8a=>#[BZ,nJ,#[1,#[nJ,#[3],#[hp,?_]],1],#[hp]],?_]
  ·let:=Mx.NH.at hp hf q;show .inl vL
  ·rw[<- IW];show UW ĉ
inductive EK (c7j):Ä
 |mk {p n:Int}:My.O5 p=true->p<=1000000->0<n->n<p->EK C Ea (.int (My.bk p n))
def b4v [Bx:Bd](T)(Lx)(Md):Tm 3 "back" "Field.back" (e5x 5) é (d8M EK):=by
 let OH:=T.fl;show Nh ["rest","made"] ?_ λd9W=>(qC (d9u qs 2 Lx Ź)
 (qC (qI (e9k dI)
  D8
  q0)
 (qC (qs 3 ND dI)
 (qC (qW Hq (e38 (Đ 2) dI)
  (qC (d9u qs 3 Md (da (Đ 3)<|da (dO tU eA dI<|e6b GA (Đ 2)) LB))
 (d9r 2 (e0F GA<|Đ 2))))
 BK))))
 rintro _ _ @⟨p,n,hP,Wl,h0,h1⟩;ext d2w;let hp:0<p:=#[]
 let en:=IV #[] h1;let r0:=eq_int (ε:=[some<|fD C p,some<|.int n,some<|.int n,none]) (ra:=rV 2) (rb:=rC<|.int 0) rfl rfl;rw[GZ<|by lia]at r0;show .nx #[nJ,#[2],(by let:=RO.mk (C:=C) (n:=n) hp;rwa [en]at this)]<|.nx (.f r0 rfl) (.nx ⟨rfl⟩ ?_);show fH (b:=(n,1)) (λb ε=>ε=[.fz<|fD C p,.fz<|.int n,.fz<|.int b.1,.fz<|.int b.2]/\0<b.1/\b.1<p/\My.Inv p n b.1 b.2) (λb=>b.1.toNat) #[1,h0,h1,My.SE Vi (by rw[Im _<|by lia];show en)] λb e3c=>?_;let#[he,r0,r1,I]:=gR;subst he;let rd:=ne_int (ε:=[some<|fD C p,some<|.int n,some<|.int b.1,some<|.int b.2]) (ra:=rV 2) (rb:=rC<|.int 1) rfl rfl;by_cases c:b.1=1
 ·rw[GZ λz=>z c]at rd;rw[c]at I;show .inl #[rd,1,by rw[My.Xy I.lo I.hi<|My.VQ I]]
 ·rw[Hb c]at rd;let l:=My.Xx hP r0 c r1;let m0:=I.lo;let m1:=I.hi;show .inr #[rd,(p % b.1,b.2 * (0 - p / b.1) % p),_,.nx #[nJ,#[1,#[1,#[#[3],1,#[r0,#[]]],L4],1],#[hp,.inl vL]] #[#[3],1,#[r0]],#[1,l.1,#[],My.Xw I Vi r0],by change (p % b.1).toNat<b.1.toNat;lia]
inductive b3U:Ä
 |mk {r:Ξ}{m:Nat}:m<=r.length->r.length<=1000->b3U [rw r,.int m] (Dj (Mx.Mf r m))
def c2G [Bx:Bd](T):Tk 1 "first_place" (top 49) AJ (Pr b3U):=by
 show Nh ["place"] ?_ λd9W=>(qC (e0V DQ z6 (aN 2)
  (q1 (qI (e38 (ME hr (Đ 0)<|Đ 2) dI)
  sG
  q0)))
 FI)
 rintro _ _ @⟨r,m,hm,hl⟩;show ?_;show hX _ b23 (λa=>decide (Mx.e r a≠0)) (λa=>.int<|a) ⟨_,rfl⟩ ⟨m,#[],⟨rfl,rfl⟩,(bK _).symm⟩ (λa ε ha gR=>?_) (λa h=>by ext1 Mx.Mf;rw[h];rfl) λh ε _=>#[1,by ext1 Mx.Mf;rw[h];rfl]
 ext d3u;let ha:=Ig.mp ha;ext d6o;let rd:=ne_int (ε:=([Sl.fz<|rw r,.fz<|.int m,o].set 2<|.fz (.int a)).map Sl.a) (ra:=e1N jH<|rV 2) (rb:=rC<|.int 0) #[2,.l .lst<|di #[]] rfl
 cases c:decide (Mx.e r a≠0) with
 | false=>ext d8C
 | true=>ext d8e
abbrev Bw (l:À):D:=.lst (l.map λ(a:Nat)=>.int (a:Int))
inductive cU:Ä
 |mk {t:Θ}{m:Nat}:t.length<=1000->(∀ r∈t,m<=r.length/\r.length<=1000)->cU [tb t,.int m] (Bw (Mx.Mv t m))
def b7d [Bx:Bd](OC:Mo 1 "first_place" AJ (Pr b3U)):Tk 2 "lead_places" (top 50) ["rows","many"] (Pr cU):=by
 show Nh ["places"] ?_ λd9W=>(qC (e3x (e5y (d9t AJ) uD
  Ĕ
  P6
  (λd94=>dF OC hr.m rfl<|e0B Ź)) rfl)
 (qr (e0v b9N wS
  Ĕ
  (λd94=>bW<|e8v (Đ 0) SA)
  Ľ)))
 rintro _ _ @⟨t,m,hl,hw⟩;show .nx #[e64 hl λe45=>#[_,za,#[(hw r hr).1,(hw r hr).2]]] #[bh (h:=Dj) Option.isSome #[1,by rw[GV];show .l .lst] Ŋ λo _=>#[_,1,#[2,by cases o <;> show⟨⟩],λ_=>rfl],?_];ext1 Mx.Mv;congr 2;clear hl hw
 induction t with
 | nil=>rfl
 | cons r t ih=>
  rw[Hu]
  cases c:Mx.Mf r m with
  | none=>cbv
  | some a=>
   injection ih with ih;rw[List.filter_cons_of_pos rfl,Hu,<- ih];rfl
structure YF (p:Int)(w:Nat)(t:Θ):Prop where
 sh:Mx.Sh p w t
 MN:t.length<=100
 nar:w<=200
inductive b2m (c7j):Ä
 |mk {p:Int}{t:Θ}{st a q wd:Nat}:My.O5 p=true->p<=1000000->YF p wd t->q<wd->st<=a->a<t.length->Mx.e Zf q≠0->b2m C [fD C p,tb t,.int st,.int a,.int q] (tb (Mx.cleared p rD t st a q))
def PPs [Bx:Bd](T)(SJ:Mo 3 "scaled" b6m (d8M c21))(Rk:Mo 3 "without" b3D (d8M b1I))(OZ:MG 3 C "back" é (d8M EK)):Tk 4 "cleared" (top 47) b1w (d8M b2m):=by
 show Nh ["lead","others"] ?_ λd9W=>(qC (qs 5 ND<|dF SJ hr.m rfl (da (Đ 0)<|da b9h (da (e1L OZ hr.m<|da (ME hr b9h<|Đ 4) LB) LB)))
 (qC (e3x (aW (i:=6) ND rfl rfl rfl (cS 1 [0,4,5] ["row","field","place","lead"]) (aD<|RY (Zv (Đ 1) Zt<|Zs (Đ 3)) (Zv (Đ 1) (Zs<|f0m dI) Zt))
  Ĕ
  P6
  (λd94=>dF Rk hr.m rfl<|e0f b5Q)) rfl)
 (qr<|RY (RY (Zv (Đ 6) Zt<|Zs (Đ 2)) (de<|e1r LB).p) (Zv (Đ 6) (Zs<|Đ 2) Zt))))
 rintro _ _ @⟨p,t,st,a,q,wd,hP,Wl,S,hq,hs,ha,XQ⟩;ext d2w;ext d7X;let ma:=iK (z:=[]) ha;let wa:=S.sh.Q5 _ ma;let fa:=Mx.NH.at #[0] (S.sh.fit _ ma) q;let f0:0<Mx.e Zf q:=#[0]
 let hb:=My.a5H hP f0 fa.2;let mt:∀ {r},r∈t.take a++t.drop (a+1)->r∈t:=λh=>(Hx.mp h).elim KQ List.mem_of_mem_drop;let ra:e1N E6 vj [some<|fD C p,some<|tb t,some<|.int st,some<|.int a,some<|.int q,none,none] (rw Zf):=#[2,.l .lst<|a6y ha]
 let cd:xM nu none (!(a:Int))++xM nu (some<|(a:Int)+1) none=(t.take a++t.drop (a+1)).map rw:=by rw[df,show ((a:Int)+1)=((a+1:Nat):Int) from rfl,iQ,He,Jf,KJ]
 show .nx #[#[1,ra,#[nJ,#[#[ra,1,.l .lst<|di #[0]],1],⟨hP,Wl,f0,fa.2⟩],1],⟨#[0],hb.1,Int.le_trans (Int.le_of_lt hb.2) Wl,#[0]⟩] (.nx ⟨be ⟨⟨⟨rfl,.lst,rfl,⟨rfl⟩,rfl⟩,⟨rfl,.lst,⟨⟨rfl,rfl,.i⟩⟩,rfl,rfl⟩,.l ?_⟩,by rw[cd];show .l .lst⟩ ?_ λe45=>#[_,1,#[5],#[#[0],Wl,mU,?_]]⟩ #[#[#[c0D,yY,.l ?_],#[1,.lst,#[1],2],.l ?_],?_])
 ·rw[<- Ho,cd];simp;omega
 ·simp;omega
 ·rw[S.sh.Q5 r<|mt hr];omega
 ·rw[S.sh.Q5 r<|mt hr];show hq
 ·show S.sh.fit r (mt hr)
 ·rw[df];simp;omega
 ·rw[df,iQ];simp;omega
 ·rw[df,iQ];ext1 Mx.cleared;change Fl.rt (.lst<|List.map rw (_++[_]++_))=_;rw[He,He,Jf,KJ,GV];rfl
open e
variable {C:Addr}
abbrev red (c8W):Θ:=(e4X m).1
inductive kW (c7j):Ä
 |mk {p:Int}{m wd:Nat}{t:Θ}:My.O5 p=true->p<=1000000->YF p wd t->m<=wd->kW C mR (tb kU)
def a1G (hP)(S:YF p wd t)(i):∃ ps,(e4X i).2=ps.length/\Mx.RR p wd i wQ ps/\(red p t i).length=t.length/\YF p wd wQ:=by ext d2w;let#[ps,Lf,_]:=Mx.RR.run #[0] Ap S.sh i;show#[ps,h1,h2,h3,h2.sh,by rw[h3];show S.MN,S.nar]
def c3b [Bx:Bd](T)(OW:Mo 2 "fitted_row" ["field","row"] (d8M Ov))(Qe:Mo 1 "row_with" b6n (Pr PU))(Rr:Mo 4 "cleared" b1w (d8M b2m)):Tk 5 "reduced" (top 48) ã (d8M kW):=by
 show Nh ["rows","start","place","at"] ?_ λd9W=>(qC (e3x (e2b (cS 1 [0] ["row","field"]) Ÿ
  Ĕ
  P6
  (λd94=>dF OW hr.m rfl<|e0f ş)) rfl)
 (qC (qs 4 ND dI)
 (qC (e0V Cq Fw (aN 5)
  (qC (qs 6 ND<|dF Qe hr.m rfl (da (Đ 3)<|e2c FH))
 (q1 (qI (e8v (Đ 6) SA)
  (qC (qs 3 ND<|dF Rr hr.m rfl (da (Đ 0)<|e0K (da (Đ 4)<|e4y FH)))
 (q1<|xW (yq (i:=4) ND rfl EU dI c2M)))
  q0))))
 BK)))
 rintro _ _ @⟨p,m,wd,t,hP,Wl,S,hm⟩;ext d31;ext d7X;show .nx #[be (h:=rw) DZ #[] λe45=>#[_,za,?_]] Bj
 ·let:=Ov.mk (C:=C) (p:=p) #[] (by rw[S.sh.Q5 r hr];lia);rwa [Mx.UI<|S.sh.fit r hr]at this
 show cZ ve (λi ε=>∃ o5 o6,ε=[.fz<|fD C p,.fz<|tb t,.fz<|.int m,.fz<|tb wQ,.fz<|.int ((e1h (My.bk p) t i).2:Nat),o5,o6]) ⟨_,_,rfl⟩ ⟨m,#[],⟨rfl,rfl⟩,(bK _).symm⟩ (λe2x=>?_) λe3c=>?_
 ·let#[o5,o6,he]:=gR;let#[1,hi]:=jT hx;subst he;let#[ps,Lf,Sr]:=a1G hP S i;let RK:(e4X i).2<=(red p t i).length:=by rw[h1];show h2.len
  let UM:=Mx.Qv p rD t i;unfold Mx.step at UM;let hf:=Sr.MN;ext d6o;let c1:=PU.mk (st:=(e4X i).2) (q:=i) #[] RK #[] λe45=>by rw[e8Z hr];lia
  cases hrw:Mx.MK wQ (e4X i).2 i with
  | none=>
   rw[hrw]at c1 UM;show#[_,.nx FV<|.f DL rfl,_,_,by ext1 red;rw[UM];rfl]
  | some a=>
   let#[sV,g3]:=Mx.Qw hrw;rw[hrw]at c1 UM;show#[_,.nx FV<|e65 (.nx #[#[6],#[hP,Wl,Sr,#[],sV,g3]] #[2]),_,_,by ext1 red;rw[UM];rfl]
 ·let#[o5,o6,he]:=gR;subst he;rw[HL];show#[2]
abbrev MQ (c8W):À:=Mx.Mv kU m
theorem vI (d1f):D:=if (MQ p ň m).length<m then .non else tb (((e6c m).take m).map (List.drop m))
inductive S7 (c7j):Ä
 |mk {p:Int}{m:Nat}{t:Θ}:My.O5 p=true->p<=1000000->YF p m t->m<=100->S7 C mR (vI p t m)
def a0l (r o:Ξ):rw (r++o)=.lst (r.map .int++o.map .int):=e1j He
def c4e [Bx:Bd](T)(NM)(MH)(NY):Tk 6 "reader" (top 51) ã (d8M S7):=by
 show Nh ["joined","rows"] ?_ λd9W=>(qC (qS (e2b (cS 2 [] ["row","own"]) (f0n T.Oo<|e0f (da (dF NM hr.m rfl<|da EV LB) LB))
  Ĝ
  P6
  (λd94=>RY (Đ 0)<|Đ 1)) λe05=>oz (n:=2))
 (qC (qs 4 ND<|f1e b5Q)
 (qC (qI (e39 (dG T.Ma<|f1f b5S)<|Đ 2)
  FI
  q0)
 (qr (e0v (cS 1 [2] AJ) (aD<|Zv (Đ 4) Zt (Zs<|Đ 2))
  Ĕ
  P6
  (λd94=>Zv (Đ 0) (Zs<|Đ 1) Zt))))))
 ext d6q;ext d31;let MN:=S.MN;let Sj:YF p jy ň:=#[Mx.R3 #[0] S.sh,by rw[Mx.Nw];show MN,#[0]]
 let#[ps,Lf,Sr]:=a1G hP Sj m;let hf:=Sr.MN;show .nx #[c7 (xs:=t.zip<|Mx.ones t.length) (u:=λz=>.tup [rw z.1,rw z.2]) (h:=λz=>rw (z.1++z.2)) #[_,_,#[1,#[#[Dr,1],AW],1],by rw[jM,GV];rfl] (by rw[Jb];omega) (λe8a=>#[BZ,2,?_]) ?_] (.nx #[#[4],#[hP,Wl,Sj,#[0]]] ?_)
 ·let h1:=S.sh.Q5 _ (Jl hz).1;let#[j,_,h2]:=GX.mp (Jl hz).2;let h2:z.2.length=t.length:=by rw[<- h2];simp[Mx.Lw]
  rw[a0l];show .l (by rw[GP,GP];omega)
 ·ext1 Mx.joined;rw[<- IW,show tb _=.lst xc from rfl,GV];rfl
 let rd:=lt_int (ε:=[some<|fD C p,some<|tb t,some<|.int m,some<|tb ň,some<|tb DO]) (ra:=rF OP<|rA (rF cU<|rA (rV 4) (rA (rV 2) Uu)) Uu) (rb:=rV 2) ⟨⟨⟨⟨rfl,rfl,rfl⟩,⟨#[0],λe45=>by rw[e8Z hr];omega⟩⟩,rfl⟩,OP.m⟩ rfl;ext1 vI;ext d4b
 ·ext d4H;rw[Hb<|Int.ofNat_lt.mpr c]at rd;show .rt AE
 ·ext d3D;rw[GZ λz=>c<|Int.ofNat_lt.mp z]at rd;show .nx (.f rd rfl) ⟨be (u:=rw) ⟨⟨rfl,.lst,rfl,⟨rfl⟩,rfl⟩,by rw[df,Jf];show .l .lst⟩ (by rw[Hl];omega) λr _=>#[_,2,.lst,#[1],1,by rw[iQ,<- KJ]],tbm ĉ⟩
theorem gH (d1f):À:=(List.range m).filter λq=>not (decide ly)
theorem nr (d1f):D:=match gH p t m with
 | []=>.non
 | u::_=>rw b4u
def a6M (d1t):∀ (l:Ð)(v:Ξ),Mx.NJ p u l v=l.foldl (λb z=>b.set z.2 ((0 - Mx.e z.1 u) % p)) v:=by
 intro r'
 induction r' with
 | nil=>
  ext d46
 | cons _ l ih'=>
  intro _;show ih' _
def c2W (l:À):Bw l=rw (l.map λ(a:Nat)=>(a:Int)):=by rw[show rw _=.lst (List.map D.int _) from rfl,GV];rfl
inductive b6X (c7j):Ä
 |mk {p:Int}{m:Nat}{t:Θ}:My.O5 p=true->p<=1000000->YF p m t->b6X C mR (nr p t m)
def c1F [Bx:Bd](T)(MH)(NY)(MT)(MI):Tk 6 "nought" (top 52) ã (d8M b6X):=by
 show Nh ["rows","places","unled","told","row","place"] ?_ λd9W=>(qC (qs 3 ND<|f1e b5T)
 (qC (qs 4 ND<|f1f (da (Đ 3)<|e1M LB))
 (qC (qS (e2d (cS 1 [4] ["place","places"]) Cq
  Ĕ
  b00
  Ľ) λe05=>oz (K:=Bx.K) (n:=0))
 (qC (qI (e0G (d85 5) dI)
  FI
  q0)
 (qC (qo 6 ND<|dFN MT hr.m rfl (da (Đ 2)<|da c1q LB))
 (qC (e0V (f0n T.Oo<|e0K zc) b2z (dU Bx.K [7,8])
  (q1<|qSI (yr (e1L MI hr.m<|da dI (da (ME hr (Đ 7)<|ME hr (Đ 5) dI) LB))<|a0z (pv 6) (Đ 8) b9T) (λe0c=>h)))
 (qr<|Đ 6)))))))
 rintro _ _ @⟨p,m,t,hP,Wl,S⟩;ext d31;let nar:=S.nar;let#[ps,Lf,Sr]:=a1G hP S m;let hf:=Sr.MN;let eps:f0o m=ps:=Mx.N3 h2;show .nx #[#[4],#[hP,Wl,S,Hi _]] (.nx #[#[3],#[#[0],λe45=>by rw[e8Z hr];omega]] (.nx #[bh (xs:=List.range m) b68 #[m,#[0],#[2],(bK _).symm] (by rw[HL];omega) λq _=>#[_,1,#[2,?_],λ_=>rfl]] ?_))
 ·let:=ky (n:=true) (i:=q) (ks:=(f0o m).map λ(a:Nat)=>(a:Int));rw[<- c2W,if_pos rfl]at this;rwa [show decide ((q:Int)∈(f0o m).map λ(a:Nat)=>(a:Int))=decide ly from JC.mpr #[λh=>let ⟨a,h1,h2⟩:=GX.mp h;Int.ofNat.inj h2▸h1,Hm]]at this
 rw[show (List.range m).filter b68=e66 m from rfl];let rd:=eq_int (ε:=[some<|fD C p,some<|tb t,some<|.int m,some<|tb kU,some<|Bw oU,some<|Bw (e66 m),none,none,none]) (ra:=rF OP<|rA (rV 5) Uu) (rb:=rC<|.int 0) Dr rfl;ext1 nr
 cases hu:e66 m with
 | nil=>rw[hu]at rd;show .rt AE
 | cons u us=>
  rw[hu]at rd;rw[GZ (by simp;omega)]at rd;let um:u<m:=Ig.mp (HB.mp (by rw[show (List.range m).filter _=e66 m from rfl,hu];show Ha:u∈(List.range m).filter λq=>not (decide ly))).1;show .nx Au (.nx #[#[1,b2b,1],AW] ?_);show Vis ((red p t m).zip<|f0o m) (u:=λz=>.tup [rw z.1,.int (z.2:Int)]) (λb ε=>b.length=m/\∃ o7 o8,ε=[.fz<|fD C p,.fz<|tb t,.fz<|.int m,.fz<|tb kU,.fz<|Bw oU,.fz<|Bw (u::us),.ow<|rw b,o7,o8]) (λb z=>b.set z.2<|(0 - Mx.e z.1 u) % p) (b:=f0p u) ⟨Mx.LR _ _,_,_,rfl⟩ ⟨_,_,⟨rfl,rfl,rfl⟩,by rw[jM,GV];rfl⟩ (λb e8b=>?_) λe3c=>?_
  ·ext d69;let hq:z.2<m:=h2.lt _<|eps▸(Jl hz).2;let hw:=Sr.sh.Q5 _ (Jl hz).1;show#[_,#[_,3],_,#[1,.z #[nJ,#[1,#[1,b2b,.l .lst<|di #[0]],1],AW],1,a6f<|by simpa [hb] using hq],by simpa using hb,.fz<|rw z.1,.fz<|.int (z.2:Int),?_];rw[show rw (b.set ĉ)=.lst (List.map D.int<|b.set _ _) from rfl,List.map_set];rfl
  ·ext d69;show#[1,by change Fl.rt (rw (Mx.NJ p u ĉ))=_;rw[a6M]]
theorem d6 (d1f):D:=match vI p t m with
 | .non=>.tup [c6P,nr p t m]
 | d=>.tup [.str "reads",d]
inductive b3A (c7j):Ä
 |mk {p:Int}{m:Nat}{t:Θ}:My.O5 p=true->p<=1000000->YF p m t->m<=100->b3A C mR (d6 p t m)
def a35 [Bx:Bd](SM:Mo 6 "reader" ã (d8M S7))(SN:Mo 6 "nought" ã (d8M b6X)):Tk 7 "judgement" (top 65) ã (d8M b3A):=by
 show Nh ["read"] ?_ λd9W=>(qC (qs 3 ND<|dF SM hr.m rfl b5T)
 (qC (qI (e8v (Đ 3) SA)
  (qr<|kL (da iV<|e0K LB))
  q0)
 (qr<|kL (da iV<|da (dO c6A Aa (de<|da dI LB).p<|Đ 2) (da (dF SN hr.m rfl<|e0B b5U) LB)))))
 ext d6q;let c1:=S7.mk (C:=C) hP Wl S hm;ext1 d6;unfold vI at c1 ⊢;ext d4b
 ·rw[if_pos c]at c1 ⊢;show .nx FV (.nx DA #[#[#[1,#[yY,1,#[#[]]],#[#[4],#[hP,Wl,S]],1],Zb],by rw[show rw _=.lst _ from rfl,List.map_replicate];rfl])
 ·rw[if_neg c]at c1 ⊢;show .nx FV (.rt<|e65 #[Bs,1])
open e
abbrev gJ (c:Cl)(p:Str×Kd):D:=.ins (c.of p.2) D7 [.str p.1]
abbrev bA (t:M'):D:=.tup a7Q
abbrev D0 (c:Cl)(S:NS):D:=MP oP
abbrev a36 (S:NS):D:=MP (S.Ls.map λt=>(.inl t.1,bA t))
abbrev aK (c:Cl)(S:NS):D:=.ins c.Mg ["kept_posts","kept_ties","next_number"] [D0 c S,a36 S,.int S.next]
abbrev aY (l:η):D:=.lst (l.map .str)
abbrev aV (c7n):D:=.lst WS
theorem NS.names (S:NS):η:=S.Lv.map (·.1)
theorem NS.LW (S:NS):η:=(S.Lv.filter λp=>VL p.2).map (·.1)
theorem NS.Mu (S:NS):Option (Str×Kd):=S.Lv.find? λp=>not (SY p.2)
theorem sC:Option (Str×Kd)->D
 | none=>.non
 | some p=>.str p.1
def a6t {S:NS}:(cX oP pP).isSome=decide (x∈S.names):=O0
variable {c:Cl}
def Cl.Ok.fp' [Bx:Bd](O):∀ C,C=c.Mg->e6a C/\Mj Bx.K C "kept_posts":=λ_ h=>h▸#[O.cn,O.fp]
def Cl.Ok.ft' [Bx:Bd](O):∀ C,C=c.Mg->e6a C/\Mj Bx.K C "kept_ties":=λ_ h=>h▸#[O.cn,O.ft]
def Cl.Ok.nm' [Bx:Bd](O):∀ C,jK c C->e6a C/\Mj Bx.K C "name":=λ_ gR=>by let#[k,h]:=gR;show h▸#[O.cls k,O.nam k]
inductive iW (b:Bool):Ä
 |mk {d:D}:iW b [d] oJ
def eM [Bx:Bd](F:e3T Þ (fW oJ)):e3T Þ (Pr (iW b)):=F.imp fun vs H Q E ⟨_,_,_,s,h,⟨⟩,q⟩=>let ⟨v,ws,e,_,e2⟩:=h;#[v,by rw[e,e2],q _ H Ě rfl]
inductive bU (c:Cl):Ä
 |mk {S:NS}{x:Str}:x.length<=1000->gv x=true->x∉S.names->bU c qm .non
inductive QP:Ä
 |mk {x:Str}:x.length<=1000->QP [.str x] (.bl (gv x))
def b3o [Bx:Bd](O)(Rq:Mo 1 "is_name" D7 (Pr QP)):Tm 2 "check_new_name" "Net.check_new_name" (d80 4) Ý (d87 bU):=by
 ext d47;show dw [] ?_ λd9W=>(qC (qI (Gw<|dV (cN<|dF Rq hr.m rfl Ź))
  D8
  q0)
 (q1 (qI (e5z (Đ 1)<|V2 LK (Đ 0))
  D8
  q0)))
 rintro _ _ @⟨S,x,hx,h1,h2⟩;let d1:=QP.mk hx;rw[h1]at d1;show#[1,.inr #[1,_,.nx (.f #[#[2],d1] rfl)<|.f #[za,.k rfl rfl (by rw[a6t,GZ h2];rfl)] rfl]]
inductive c20 (c:Cl):Ä
 |mk {S:NS}:c20 c kP (aY S.names)
def b6T [Bx:Bd](O)(c7R):Tm 1 "names" "Net.names" (d80 11) Þ (d87 c20):=by
 ext d47;show Nh [] ?_ λd9W=>(qr<|e6d boot_list (da (V2 LK<|Đ 0) LB))
 rintro _ _ @⟨S⟩;show#[#[#[#[3],1],.k],by rw[GV];change Fl.rt b2A=_;rw[GV];rfl]
inductive bJ (c:Cl):Ä
 |mk {S:NS}:S.Lv.length<=1000->bJ c kP (aY S.LW)
def TgD (c91)(f:α->jr)(g:α->D):l.map g=(l.map λx=>Zw).map (·.2):=by rw[GV];rfl
def b1W [Bx:Bd](O)(PV):Tm 2 "listeners" "Net.listeners" (d80 12) Þ (d87 bJ):=by
 ext d47;let Uc:=O.nm';show Nh [] ?_ λd9W=>(qr (dLv 0 rfl (cS 1 [] ["post"]) c0E
  Ĕ
  (λd94=>bW<|dV (cN<|Gx (Đ 0) PV hr.m))
  (λd94=>V2 Uc<|Đ 0)))
 rintro _ _ @⟨S,hl⟩;show#[bh (λp=>VL p.2) ER hl λp _=>#[_,1,#[1,#[_,1],by decide,by rw[<- i4 O];show⟨⟩],λ_=>#[1,#[_,1],1]],by change Fl.rt b2A=_;rw[GV];rfl]
inductive xY (c:Cl):Ä
 |mk {S:NS}:xY c kP (sC S.Mu)
def b0f [Bx:Bd](O)(PX):Tm 2 "home" "Net.home" (d80 13) Þ (d87 xY):=by
 ext d47;let Uc:=O.nm';show Nh ["post"] ?_ λd9W=>(qC (qLv Hq rfl c0E (pN 1 ND) (aN 1)
  (q1 (qI (Gw<|dV (cN<|Gx (Đ 1) PX hr.m))
  (qr<|V2 Uc (Đ 1))
  q0)))
 FI)
 rintro _ _ @⟨S⟩;show ?_;show hX S.Lv (λε=>∃ o,ε=[.fz _,o]) (λp=>not (SY p.2)) (λp=>.str p.1) #[_,1] ER (λp ε _ gR=>?_) (λp h=>by ext1 NS.Mu;rw[h];rfl) λh ε _=>#[1,by ext1 NS.Mu;rw[h];rfl]
 ext d3u;let hb:iW b2B [gJ c p] (.bl<|SY p.2):=by rw[<- ig O];show⟨⟩
 ext d6o
 cases z:SY p.2 with
 | true=>rw[z]at hb;show#[_,.f b6s rfl,_,1]
 | false=>rw[z]at hb;show .t b6s #[#[1,#[_,1],1],1]
inductive j8 (c:Cl):Ä
 |mk {S:NS}:S.Ls.length<=1000->j8 c kP (aV S.Ls)
def c0B [Bx:Bd](O):Tm 1 "ties" "Net.ties" (d80 14) Þ (d87 j8):=by
 let Ud:=O.ft';show Nh [] ?_ λd9W=>(qr (dLv 4 rfl (cS 4 [] [pA]) (a18<|V2 Ud (Đ 0))
  ģ
  P6
  (d8J w4)))
 rintro _ _ @⟨S,hl⟩;show#[be ER hl λt _=>b6t,1]
inductive cV (c:Cl):Ä
 |mk {S:NS}{x:Str}:x∈S.names->cV c qm .non
def a8f [Bx:Bd](O):Tm 1 "check_there" "Net.check_there" (d80 8) Ý (d87 cV):=by
 ext d47;show dw [] ?_ λd9W=>(q1 (qI (e5A (Đ 1)<|V2 LK (Đ 0))
  D8
  q0))
 rintro _ _ @⟨S,x,h⟩;show#[1,.inr #[1,_,.f #[za,.k rfl rfl (by rw[a6t,Hb h];rfl)] rfl]]
theorem NS.into (S:NS)(x):Ξ:=(S.Ls.filter λt=>decide W1).map (·.1)
theorem NS.O1 (S:NS)(x):Ξ:=(S.Ls.filter λt=>decide rZ).map (·.1)
inductive qy (c:Cl)(g:NS->Str->Ξ):Ä
 |mk {S:NS}{x:Str}:S.Ls.length<=1000->x∈S.names->qy c g qm (rw (g S x))
def eq_str (d0k):e4x b84:=e62 (e4w rfl<|e2r (by show JC.mpr #[congrArg V.str,V.str.inj]))
def a11 [Bx:Bd](LG)(Ly):Tm 2 "into" "Net.into" (d80 15) Ý b9Q:=by
 show Nh [] ?_ λd9W=>(qC z5
 (qr (e8w a68 BD
  ģ
  (λd94=>bW<|e9k (Đ 4))
  Ľ)))
 ext d4Z
def c0G [Bx:Bd](LG)(Ly):Tm 2 "out_of" "Net.out_of" (d80 16) Ý c1r:=by
 show Nh [] ?_ λd9W=>(qC z5
 (qr (e8w a68 BD
  ģ
  (λd94=>bW<|e0G (Đ 1) (Đ 4))
  Ľ)))
 ext d4Z
open e
inductive j9 (c7n)(x:Str):Str->Prop
 |refl:j9 ts x x
 |step {t:M'}:t∈ts->j9 ts x t.2.1->j9 ts x t.2.2.1
abbrev pE (R:η):D:=MP (R.map λy=>(.inr y,.bl true))
def c5c {R:η}:(cX (R.map λy=>b6u) (.inr y)).isSome=decide (y∈R):=by simp[O0,Jw]
abbrev lF (nm:Str)(b:List Str×η)(t:M'):List Str×η:=if t.2.1=nm/\t.2.2.1∉b.1 then b9R else b
inductive AM (c7n)(R':η):Nat->List Str×List Str->Prop
 |done:AM ts R' 0 (R',[])
 |step {n:Nat}{R W:η}{nm:Str}:AM ts R' n (ts.foldl nL (R,W))->AM ts R' (n+1) (R,W++[nm])
theorem oH (c7n)(R:η):Nat:=ts.countP λt=>decide (t.2.2.1∉R)
def a30 (ht:t∈ts)(h:t.2.2.1∉R):oH ts (R++zJ)<oH ts R:=by
 let#[a,b,1]:=List.append_of_mem ht;ext1 oH;let k:∀ l:List M',l.countP (λu=>decide (u.2.2.1∉R++zJ))<=l.countP λu=>decide _:=λl=>List.countP_mono_left λu _ z=>Hb λy=>HA z<|HG _ y;let:=k a;let:=k b;rw[List.countP_append,List.countP_append,List.countP_cons_of_neg<|by simp,List.countP_cons_of_pos<|by simpa using h]
 lia
structure GM (c7n)(x:Str)(b:List Str×η):Prop where
 ld:∀ y∈b.1,j9 ts x y
 MN:b.1.length+oH ts b.1<=1+ts.length
def c4X (hn:j9 ts x nm):∀ (us:List M')(b:List Str×η),(∀ t∈us,t∈ts)->GM ts x b->(∀ y∈b.2,y∈b.1)->GM ts x (e2N b)/\(∀ y∈(e2N b).2,y∈(e2N b).1)/\2 * oH ts (e2N b).1+(e2N b).2.length<=2 * oH ts b.1+b.2.length:=by
 intro r'
 induction r' with
 | nil=>
  intro b _ I h;show #[I,h,Hi _]
 | cons t us ih'=>
  intro b ht I h;rw[Jm];let Tt:=λu hu=>ht u<|Hk _ hu;by_cases c:t.2.1=nm/\t.2.2.1∉b.1
  ·let ol:=a30 (ht t Ha) c.2;rw[show lF nm b t=_ from if_pos c];let#[Lf]:=ih' b9R Tt #[λe3G=>(Hx.mp hy).elim (I.ld y) λz=>by rw[Hs.mp z];show .step (ht t Ha)<|c.1▸hn,by let:=I.MN;simp;lia] λe3G=>(Hx.mp hy).elim (λz=>HG _<|h y z)<|Hh _;show#[h1,h2,by simp at h3 ol ⊢;lia]
  ·rw[show lF nm b t=_ from if_neg c];show ih' b Tt I h
def b7P:∀ (n:Nat)(R W:η),2 * oH ts R+W.length<=n->GM ts x (R,W)->(∀ y∈W,y∈R)->∃ R' k,AM ts R' k (R,W)/\GM ts x (R',[]):=by
 intro n
 induction n with
 | zero=>
  ext d3v
  ·show#[c6p]
  ·simp at hn
 | succ n ih=>
  ext d3v
  ·show#[c6p]
  ·rw[List.concat_eq_append]at hn h I ⊢;let#[Lf]:=c4X (I.ld nm<|h nm (by simp)) ts (R,W) (λ_ z=>z) #[I.ld,I.MN] λe3G=>h y wB;let#[R',k,a,b]:=ih ĉ (by simp at hn h3;lia) h1 h2;show#[R',k+1,.step a,b]
def a02 (c7n)(x):∃ R n,AM ts R n ([x],[x])/\(∀ y∈R,j9 ts x y)/\R.length<=1+ts.length:=by let#[R,n,Lf]:=b7P (ts:=ts) _ [x] [x] BU #[λe3G=>by rw[Hs.mp hy];show .refl,by simp[oH,List.countP_le_length]] λ_ z=>z;show#[R,n,ZL,by grind]
inductive c5Y:Ä
 |mk {ts:List M'}{x:Str}{R:η}{n:Nat}:ts.length<=900->AM ts R n ([x],[x])->c5Y [aV ts,.str x] (pE R)
def c5y [Bx:Bd](c7R):Tk 1 "led_to" (top 27) c2f (Pr c5Y):=by
 show Nh ["reached","waiting","name",pA] ?_ λd9W=>(qC (qo 2 ND<|dD1 (Đ 1) WT)
 (qC (qo 3 ND<|de Ź)
 (qC (qW Hq (e6e Yt dI)
  (qC (a7R<|pS 4 ND (b0z Bx.K Hv PySem.F.slot_list_pop PySem.F.type_list_pop a0R<|pv 3))
 (q1 (f0Z (e2O rfl<|ag Fw (ag lJ<|ag CB Fx)) (dU Bx.K [5,6,7,8])
  (q1 (qI (PW.pt<|xG (e0G (Đ 6)<|Đ 4) (fj<|e5A (Đ 7) (Đ 2)))
  (qC (qP (e3y Gk (Đ 7) WT rfl) λe0c=>h)
 (q1<|qA (aE<|d93 (pv 3) (a9 (Đ 7) K')) (λe0c=>h)))
  q0))))))
 sG)))
 rintro _ _ @⟨ts,x,R,n,hl,L⟩;show .nx #[#[1,kS,2]] (.nx #[yY] ?_);let o0:oH ts [x]<=ts.length:=List.countP_le_length;show fH (b:=(n,[x],[x])) (λb ε=>AM ts R b.1 b.2/\b.2.2.length<=b.2.1.length/\b.2.1.length+oH ts b.2.1<=1+ts.length/\∃ o4 o5 o6 o7 o8,ε=[.fz<|aV ts,.fz<|.str x,.ow<|pE b.2.1,.ow<|aY b.2.2,o4,o5,o6,o7,o8]) (·.1) ⟨L,Hi _,Nat.add_le_add_left o0 _,_,_,_,_,_,rfl⟩ λe8L=>?_;let#[n,b]:=gR;let#[L,hw,hf,o4,Td,he]:=Yf;dsimp only at L hw hf he;subst he;let rd:=gt_int (ε:=[some<|aV ts,some<|.str x,some<|pE b.1,some<|aY b.2,o4.a,o5.a,o6.a,o7.a,o8.a]) (ra:=rF OP<|rA vj Uu) (rb:=rC<|.int 0) Dr rfl
 cases L with
 | done=>show .inl #[rd,2]
 | @step n R' W nm L=>
  rw[Hb<|by simp]at rd;let hw:W.length+1<=R'.length:=by simpa using hw
  show .inr #[rd,(n,ts.foldl nL (R',W)),pV (ε1:=[.fz<|aV ts,.fz<|.str x,.ow<|pE R',.ow<|aY W,.fz<|.str nm,o5,o6,o7,o8]) (by rw[show aY (W++[nm])=.lst (W.map .str++[.str nm]) from congrArg D.lst He];show⟨rfl⟩) ?_];show a5n (u:=bA) ts (λb ε=>b.2.length<=b.1.length/\b.1.length+oH ts b.1<=1+ts.length/\∃ o5 o6 o7 o8,ε=[.fz<|aV ts,.fz<|.str x,.ow<|pE b.1,.ow<|aY b.2,.fz<|.str nm,o5,o6,o7,o8]) (lF nm) (b:=(R',W)) ⟨by change W.length<=R'.length;lia,hf,_,_,_,_,rfl⟩ ⟨rfl,.l .lst⟩ (λb t ε ht gR=>?_) λε' gR=>by let#[hb,hf,Td,he]:=gR;show#[#[L,hb,hf,Y8,he],IK _]
  let#[hb,hf,Td,he]:=gR;subst he;let r1:=eq_str (ε:=[some<|aV ts,some<|.str x,some<|pE b.1,some<|aY b.2,some<|.str nm,some<|.int t.1,some<|.str t.2.1,some<|.str t.2.2.1,some<|.int t.2.2.2]) (ra:=rV 6) (rb:=rV 4) rfl rfl;by_cases c1:t.2.1=nm
  ·rw[Hb c1]at r1;by_cases c2:t.2.2.1∈b.1
   ·show#[_,#[_,3],_,.f (.t r1 #[2,e1O (by rw[c5c,Hb c2];rfl)]) rfl,by rw[show lF nm b t=b from if_neg λz=>z.2 c2];show#[hb,hf,jY,1]]
   ·let ol:=a30 ht c2;show#[_,#[_,3],_,.t (.t r1 #[2,e1O (by rw[c5c,GZ c2];rfl)])<|.nx #[1,by rw[GP];lia,.z rfl,1,kS] #[1,by rw[GP];lia,.z rfl],?_];rw[show lF nm b t=_ from if_pos #[c1,c2]];show#[by simpa using hb,by simp;lia,.fz<|.int t.1,.fz<|.str t.2.1,.fz<|.str t.2.2.1,.fz<|.int t.2.2.2,?_];rw[cw λz=>c2<|by simpa using z];dsimp only;rw[show pE (b.1++[t.2.2.1])=MP (b.1.map (λy=>b6u)++[(.inr t.2.2.1,.bl true)]) from congrArg MP He,show aY (b.2++zJ)=.lst (b.2.map .str++[.str t.2.2.1]) from congrArg D.lst He];rfl
  ·rw[GZ c1]at r1;show#[_,#[_,3],_,.f (.f r1) rfl,by rw[show lF nm b t=b from if_neg λz=>c1 z.1];show#[hb,hf,jY,1]]
universe K72
namespace Mw
def Tu [DecidableEq β](g:α->β):∀ (xs:List β)(ts:List α),xs.Nodup->(∀ t∈ts,g t∈xs)->(xs.flatMap λx=>ts.filter λt=>decide (g t=x)).Perm ts
 | [],ts,_,h=>by
  cases ts with
  | nil=>show .nil
  | cons t _=>show absurd (h t<|by simp) ė
 | x::xs,ts,nd,h=>by
  ext d4l;rw[J7];let e:(xs.flatMap λy=>ts.filter λt=>decide (g t=y))=xs.flatMap λy=>(ts.filter λt=>not (decide (g t=x))).filter λt=>decide (g t=y):=by
   rw[List.flatMap_def,List.flatMap_def];congr 1;show HH λe3G=>?_;rw[Ld];show JZ λt _=>?_;by_cases c:g t=y
   ·let:¬ g t=x:=λz=>nd.1 (by rw[<- z,c];show hy);simp[c,this];intro z;show this (c.trans z)
   ·simp[c]
  rw[e];let ih:=Tu g xs (ts.filter λt=>not (decide (g t=x))) nd.2 λe6r=>by
   ext d60;let h3:=h t h1;rcases Hr.mp h3 with z|z
   ·simp[z]at h2
   ·show z
  show (List.Perm.append_left _ ih).trans (List.filter_append_perm ĉ)
def Sf [DecidableEq β]:∀ (l1 l2:List β),l1.Nodup->(∀ x∈l1,x∈l2)->l2.length<=l1.length->∀ x∈l2,x∈l1:=by
 intro r'
 induction r' with
 | nil=>
  intro l2 _ _ hl x hx
  cbv
 | cons a l1 ih'=>
  intro l2 nd sub hl x hx;ext d4l;let ha:=sub a ė;by_cases c:x=a
  ·rw[c];simp
  ·show Hk _ (ih' (l2.erase a) nd.2 (λe3G=>?_) ?_ x ?_)
   ·grind
   ·grind
   ·cbv
def W' {l1:Ξ}(p:l1.Perm l2)(h1:l1.Pairwise kO)(h2:l2.Pairwise kO):l1=l2:=
 List.Perm.eq_of_pairwise (λa b _ _ h3 h4=>Int.le_antisymm h3 h4) h1 h2 p
universe Mw
namespace K72
open PySem L2
open PyProof.Rows (boot_all boot_bool boot_dict boot_int boot_list boot_sorted boot_str boot_tuple)
structure GH (mg:Ω):Prop where
 Ox:mg "dict"=none
 QA:mg "sorted"=none
variable {c:Cl}{f:Addr}
def c5l {S:NS}(h:x∈S.names):∃ p∈S.Lv,p.1=x/\cX oP pP=!gJ c p:=by let:=e9u (x:=x);rw[Hb h,gT,Option.isSome_map,Iv]at this;let#[p,hp]:=this;show#[p,HZ hp,Sum.inr.inj<|HA (J2 (p:=λp:Str×Kd=>decide (oB=.inr x)) hp),by rw[gT,hp];rfl]
inductive a3a (c:Cl):Ä
 |mk {S:NS}{x y:Str}:x∈S.names->y∈S.names->S.Ls.length<=900->b2E->¬ j9 S.Ls y x->a3a c [aK c S,.str x,.str y] .non
def a8J [Bx:Bd](O)(PX)(LG)(Ly)(SO:Mo 1 "led_to" c2f (Pr c5Y)):Tm 2 "check_ends" "Net.check_ends" (d80 7) å (d87 a3a):=by
 ext d47;show dw [] ?_ λd9W=>(qC z5
 (qC (b8f<|e1L LG hr.m Ŕ)
 (qC (qI (Gw<|dV (cN<|Gx (d9x LK 2) PX hr.m))
  D8
  q0)
 (q1 (qI (e5z (Đ 1)<|dF SO hr.m rfl (da (e4z Ly hr.m)<|e1M LB))
  D8
  q0)))))
 rintro _ _ @⟨S,x,y,hx,hy,hl,hk,hn⟩;let#[p,hp,ep,hv]:=c5l hy;let hb:iW b2B [gJ c p] ű:=by rw[ig O,hk p hp ep];show⟨⟩
 let#[R,n,xo]:=a02 S.Ls y;show#[1,.inr #[1,_,.nx a6B<|.nx #[#[nJ,#[2],#[hy]]] (.nx (.f #[#[#[3],1,.k hv kS],#[_,1],by decide,hb] rfl)<|.f ⟨rfl,⟨⟨⟨rfl,rfl,by decide,⟨#[]⟩⟩,rfl,rfl⟩,⟨hl,h1⟩⟩,e1O (by rw[c5c,GZ λz=>hn<|h2 x z];rfl)⟩ rfl)]]
theorem i0 (ts:η)(b:Str×η):Bool:=not (decide (b.1∈ts))&&b.2.all λy=>decide B7
theorem bR (bs)(ts:η):Option Str:=(bs.find? (i0 ts)).map (·.1)
theorem a0n:Option Str->D
 | none=>.non
 | some x=>.str x
abbrev uS (bs:List (Str×η)):D:=MP (bs.map λb=>(.inr b.1,aY b.2))
inductive NW:Ä
 |mk {bs:List (Str×η)}{ts:η}:(bs.map (·.1)).Nodup->(∀ b∈bs,b.2.length<=1000)->NW [uS bs,aY ts] (a0n (bR bs ts))
def wx (c77){f:α->Str}(d0Y):((l.map λx=>((.inr (f x):jr),g x)).map (·.1)).Nodup:=by
 rw[GV];let:(l.map f).map (Sum.inr)=l.map (d9p .inr):=by rw[GV];rfl
 rw[<- this];show Ky _ (λe8E z=>h<|Sum.inr.inj z) h
def uw (c77)(d0T)(d0Y):((l.map λx=>((.inl (f x):jr),g x)).map (·.1)).Nodup:=by
 rw[GV];let:(l.map f).map (Sum.inl)=l.map (d9p .inl):=by rw[GV];rfl
 rw[<- this];show Ky _ (λe8E z=>h<|Sum.inl.inj z) h
def c3N [Bx:Bd](c7R):Tk 1 "first_ready" (top 28) c1s (Pr NW):=by
 show Nh D7 ?_ λd9W=>(qC (f0Z z6 (aN 2)
  (q1 (qI (PW.pt (xG (e5A (Đ 2)<|Đ 1) (fj (dV (cN (e26 (da (e0v (d9t ["one","told"]) (aD<|e3U (Đ 2))
  Ĕ
  P6
  (λd94=>dIn fB (Đ 0)<|Đ 1)) LB)))))))
  sG
  q0)))
 FI)
 rintro _ _ @⟨bs,ts,nd,hl⟩;show ?_;show hX bs (λε=>∃ o,ε=[.fz<|uS bs,.fz<|aY ts,o]) (i0 ts) (λb=>.str b.1) #[_,1] w6 (λb ε hb gR=>?_) (λb h=>by ext1 bR;rw[h];rfl) λh ε _=>#[1,by ext1 bR;rw[h];rfl]
 ext d3u;ext d6o;ext1 i0;by_cases c:b.1∈ts
 ·rw[Hb c];show#[_,.f (.f #[2,by let:=e68 (i:=b.1) (ks:=ts);rwa [Hb c]at this]) rfl,_,1]
 ·rw[GZ c];let r1:rO (Xz true) jd E6 b0r ű:=#[2,by let:=e68 (i:=b.1) (ks:=ts);rwa [GZ c]at this]
  let r2:rF Xv (rA (rL 0 [1] (rIt<|e1N jH jd) Bb<|rO xh jH E6) Uu) b0r (.bl<|b.2.all λy=>decide B7):=#[#[be #[#[2,.k (bY (wx nd)<|Hm hb) kS],.l .lst] (hl b hb) λy _=>#[_,3,b2t],1],by let:=Xv.mk (by rw[GV];rfl:b.2.map (λy=>D.bl<|decide B7)=_);rwa [Jy]at this]
  cases z:b.2.all λy=>decide B7 with
  | true=>rw[z]at r2;show .t (.t r1 r2) #[2]
  | false=>rw[z]at r2;show#[_,.f (.t r1 r2) rfl,_,1]
theorem UD (d1p)(f:α->Int)(c91):List α:=l.mergeSort λa b=>decide (f a<=f b)
def Nd (d0T):(UD f l).Perm l:=List.mergeSort_perm ĉ
def a0h (d0T):((UD f l).map f).Pairwise kO:=by rw[Ji];show (List.pairwise_mergeSort (le:=λa b=>decide (f a<=f b)) (λa b c e12=>Hb<|Int.le_trans (HA h1) (HA h2)) (λa b=>by simp[Int.le_total]) l).imp HA
inductive dh:Ä
 |mk {α:Type}{l:List α}{f:α->Int}{g:α->D}:l.length<64->(l.map f).Nodup->dh [MP (l.map λx=>mi)] (MP ((UD f l).map λx=>mi))
def a40 [Bx:Bd](T:GH Bx.mg):Tk 1 "by_number" (top 55) ["told"] (Pr dh):=by
 show Nh [] ?_ λd9W=>(qr (e0H (da (e0v (cS 1 [0] ["number","told"]) (aD<|dB f1K (n9 rfl) rfl T.QA boot_sorted ş)
  Ĕ
  P6
  (d9T b9j)) LB)))
 rintro _ _ @⟨α,l,f,g,hl,nd⟩;let pm:=Nd (f:=f) (l:=l);let so:=a0h (f:=f) (l:=l);generalize UD f l=m at pm so;show#[#[#[be #[#[#[2],?_],.l .lst] (by rw[pm.length_eq];lia) λe0Z=>#[_,1,#[#[1,#[2,.k (bY (uw nd)<|Hm (pm.mem_iff.mp hx)) kI],1],Zb]],1],XZ.m (f:=λx=>.inl<|f x) (by rw[pm.length_eq];lia) ?_],1]
 ·let:=vQ.k (ð:=l.map λx=>(_,g x)) (by rw[GV,GV];rfl) Ŋ λU3 e12=>Mw.W' (h1.trans (pm.map _).symm) h2 so;ext d5D
 ·let:=uw b35 (g:=g);ext d5D
open e
abbrev _root_.Λ:=Option Ξ
abbrev MZ:=Int×Λ
theorem SW:Option Ξ->D
 | none=>.non
 | some ks=>rw ks
abbrev By (m:MZ):D:=.tup [.int m.1,SW m.2]
abbrev ia (d1g):D:=.lst (ms.map By)
theorem bN (S:NS)(x):Λ:=if S.Mu.map (·.1)=some x then none else !S.into x
theorem LF (c9d):List MZ:=ns.flatMap λx=>(S.O1 x).map λk=>sY
def b1U (c9d)(x):LF S (ns++[x])=LF S ns++(S.O1 x).map λk=>sY:=by simp[LF,IP]
def a6w (c9d)(i):(LF S xr).length<=(LF S ns).length:=by
 ext1 LF
 conv=>rhs;rw[<- Iz i ns,IP,Ho]
 omega
variable {c:Cl}
abbrev _root_.Æ:=List Str->Prop
inductive iw (c7E):Ä
 |mk {S:NS}{ns:η}:ord S ns->iw c ord kP (aY ns)
inductive iT (c7E):Ä
 |mk {S:NS}{ns:η}:ord S ns->b6v->S.Ls.length<=1000->(LF S ns).length<=1000->iT c ord kP (ia Ő)
def a65 (ha:ra ε z8)(hb:rb ε (sC h)):e4x (.bl (decide (h.map (·.1)=!x))):=by
 show .mk ha hb ?_
 cases h with
 | none=>show .mk rfl rfl rfl (e2r rfl)
 | some p=>show .mk rfl rfl rfl (congrArg D.bl<|by show JC.mpr ⟨λz=>f1g (Option.some.inj z).symm,λz=>congrArg some (V.str.inj z).symm⟩)
def c2F [Bx:Bd](MF)(Mc)(MA)(OY:MG 2 c.Mg "out_of" Ý c1r):Tk 3 "mixing_ties" (top 54) ["net"] (d8T iT):=by
 show Nh ["home",xt,"mixed","number"] ?_ λd9W=>(qC (d82 1 MF)
 (qC Dy
 (qC (e0r b69 YZ (aN 3)
  (qC (qs 4 ND<|YA (e0G (Đ 3)<|Đ 1) SA (e1L MA hr.m<|e0K LB))
 (q1 (e0r (aD<|e1L OY hr.m ź) Fw (aN 5)
  (q1<|qA (aE<|d93 Gk (a9 (kL<|e1r (e2c LB)) K')) (λe0c=>h))))))
 sG)))
 rintro _ _ @⟨S,ns,ho,hn,hl,hm⟩;show .nx b8s (.nx oE ?_);show cZ ns (λi ε=>∃ o3 o4 o5,ε=[.fz<|aK c S,.fz<|sC S.Mu,.ow<|ia (LF S<|ns.take i),o3,o4,o5]) ⟨_,_,_,rfl⟩ ⟨⟨rfl,rfl,by decide,⟨ho⟩⟩,.l .lst⟩ (λe2x=>?_) λe3c=>?_
 ·let#[o3,o4,o5,he]:=gR;subst he;let xn:=hn x<|GY hx;let tl:=a6w S ns<|i+1;rw[aP hx,b1U,Ho,GP]at tl;rw[aP hx,b1U];show#[_,1,pV (ε1:=[.fz<|aK c S,.fz<|sC S.Mu,.ow<|ia (LF S<|ns.take i),.fz<|.str x,.fz<|SW (bN S x),o5]) ?_ ?_]
  ·let r:=a65 (ε:=[some<|aK c S,some<|sC S.Mu,none,some<|.str x,o4.z,o5.z]) (ra:=rV 3) (rb:=rV 1) rfl rfl;ext1 bN;by_cases z:S.Mu.map (·.1)=!x
   ·rw[Hb z]at r;ext d6L;show#[.t r rfl]
   ·rw[GZ z]at r;ext d7V;show#[.f r #[nJ,#[2],#[hl,xn]]]
  ·show Gp (S.O1 x) (λj ε=>∃ o5,ε=[.fz<|aK c S,.fz<|sC S.Mu,.ow<|ia (LF S (ns.take i)++((S.O1 x).take j).map λk=>sY),.fz<|.str x,.fz<|SW (bN S x),o5]) ⟨_,by rw[Jt,J0,HF]⟩ ⟨⟨rfl,by decide,⟨rfl,rfl⟩,⟨hl,xn⟩⟩,.l .lst⟩ (λj k ε hk gR=>?_) λε' ⟨o5,he⟩=>#[_,_,_,by rw[HJ]at he;show he]
   let#[o5,he]:=gR;ext d7o;let e:ia (LF S xr++((S.O1 x).take<|j+1).map λk=>sY)=.lst ((LF S xr++((S.O1 x).take j).map λk=>sY).map By++[By sY]):=by rw[aP hk,He,<- Ib];show congrArg D.lst He
   show#[_,1,_,#[1,by simp;lia,.z Bs],.fz<|.int k,by rw[e];rfl]
 ·let#[BY,he]:=gR;rw[he,HJ];show#[2]
open e
variable {C:Addr}
inductive c0o:Ä
 |mk {n:Int}:My.O5 n=true->n<=1000000->c0o sQ ű
def le_int (c7D):rO (d9d b8t) ra rb ε b8t:=wc
def b8u [Bx:Bd]:Tk 1 "is_prime" (top 35) ÿ (Pr c0o):=by
 show Nh ["divisor"] ?_ λd9W=>(qC (qI (e39 (Đ 0) dI)
  (qr WT)
  q0)
 (qC (qs 1 ND dI)
 (qC (qW Hq (dT rX eA (e1T (Đ 1)<|Đ 1)<|Đ 0)
  (qC (qI (d9b (e0F (Đ 0)<|Đ 1))
  (qr WT)
  q0)
 (q1<|xW (yq (i:=1) ND rfl EU dI c2M))))
 (qr WT))))
 rintro _ _ @⟨n,hP,hn⟩;let h2:=(My.LH n).mp hP;let r0:=lt_int (ε:=[some<|.int n,none]) (ra:=rV 0) (rb:=rC<|.int 2) rfl rfl;rw[GZ<|by omega]at r0;show .nx (.f r0 rfl) (.nx ⟨rfl⟩ ?_);show fH (λd ε=>ε=[.fz<|.int n,.fz<|.int d]/\2<=d/\d<=n) (λd=>(n+1 - d).toNat) #[1,jR] λd e3c=>?_;let#[he,d2,dn]:=gR;subst he;let rd:=le_int (ε:=[some<|.int n,some<|.int d]) (ra:=e3k E6<|rV 1) (rb:=rV 0) #[2,D6] rfl;by_cases z:d * d<=n
 ·rw[Hb z]at rd;let a:2 * d<=d * d:=Int.mul_le_mul_of_nonneg_right d2 #[0];let r1:=eq_int (ε:=[some<|.int n,some<|.int d]) (ra:=e0x jH<|rV 1) (rb:=rC<|.int 0) #[2,AW] rfl;rw[GZ (by rw[<- Im _ #[0]];show h2.2 d d2 z)]at r1;show .inr #[rd,d+1,_,.nx (.f r1 rfl) #[2],#[1,jR],#[0]]
 ·rw[GZ z]at rd;show .inl #[rd,2]
inductive c3R:Ä
 |mk {n:Int}:c3R sQ ű
inductive b1k (c7j):Ä
 |mk {p n:Int}:0<=n->n<p->b1k C Ea ű
def b02 [Bx:Bd](T)(Np):Tk 2 "is_number_of" (top 57) c0I (d8M b1k):=by
 let OH:=T.fl;show Nh [] ?_ λd9W=>(qr<|El (dF Np hr.m rfl<|e0f LB) (oF<|dCh (oG rX gL dI (Đ 1)<|V2 OH (Đ 0)) eA eA))
 rintro _ _ @⟨p,n,h0,h1⟩;show#[.t #[#[2],⟨⟩]<|.t rfl rfl (by let:=e0h (i:=0) (j:=n) trivial;rwa [Hb h0]at this) ⟨rfl,rfl,rfl⟩ (by let:=fI.mk (C:=λ_ _=>True) (g:=λi j=>RH<|.bl (decide (i<j))) (i:=n) (j:=p) trivial;rwa [Hb h1]at this),1]
inductive OR (c7j):Ä
 |mk {p:Int}{ns:Ξ}:ns.length<=1000->(∀ n∈ns,0<=n/\n<p)->OR C [fD C p,rw ns,.int ns.length] ű
def b3l [Bx:Bd](c7R)(Oe:Mo 2 "is_number_of" c0I (d8M b1k)):Tk 3 "is_row_of" (top 58) b6w (d8M OR):=by
 show Nh [] ?_ λd9W=>(qr (El (dM bn cF EV<|Đ 2) (oF (e26 (da (e0v b33 Ÿ
  Ĕ
  P6
  (λd94=>dF Oe hr.m rfl<|e0f ş)) LB)))))
 rintro _ _ @⟨p,ns,hl,hn⟩;let r1:=eq_int (ε:=[some<|fD C p,some<|rw ns,some<|.int ns.length]) (ra:=rF OP<|rA (rV 1) Uu) (rb:=rV 2) ⟨⟨rfl,rfl⟩,OP.m⟩ rfl;rw[Hb rfl]at r1;show⟨.t r1 ⟨⟨be ⟨rfl,.l .lst⟩ hl λn hm=>#[_,za,#[(hn n hm).1,(hn n hm).2]],rfl⟩,Xv.mk (by rw[GV];rfl)⟩,by simp⟩
abbrev bC:=Int×Ξ
abbrev bc (c9E):D:=MP (ř.map λr=>(.inl r.1,rw r.2))
theorem inc (msg)(cs:Cs):Option Ξ->Ξ
 | none=>msg
 | some ks=>ks.map λk=>(bq cs k).getD 0
inductive fc:Ä
 |n {msg:Ξ}{d:D}:fc [rw msg,.non,d] (rw msg)
 |s {msg ks:Ξ}{cs:Cs}:ks.length<=1000->(∀ k∈ks,∃ n,bq cs k=!n)->fc [rw msg,rw ks,Uh cs] (rw (inc msg cs !ks))
def b5O [Bx:Bd]:Tk 1 "coming_in" (top 60) b37 (Pr fc):=by
 show Nh [] ?_ λd9W=>(qC (qI zj
  (qr<|Đ 0)
  q0)
 (qr (e0v (cS 1 [2] b9k) Ÿ
  Ĕ
  P6
  ž)))
 intro l d h
 cases h with
 | n=>show .rt (e65 #[2])
 | @s msg ks cs hl hk=>show .nx DA #[e64 hl λk hm=>#[_,3,by let#[n,hn]:=hk k hm;rw[hn];show .k (ye hn) kI],UW ĉ]
open e
theorem z9 (fo)(k:Int):Bool:=match fo with
 | none=>false
 | some ks=>decide (k∈ks)
theorem j4 (ř)(n:Int):Option bC:=ř.find? λr=>decide (r.1=n)
theorem dm (ř)(k:Int):Ξ:=((j4 ř k).map (·.2)).getD []
def gS (h:j4 ř k=!r):cX (ř.map λr=>u7) iB=!rw r.2:=by rw[gT,funext λx=>JC.mpr #[Sum.inl.inj,congrArg _],show ř.find? _=some r from h];rfl
theorem dR (p)(c9e)(cs:Cs)(m:MZ):Int:=if z9 fo m.1 then 0 else Mx.LV p Bo c2g
theorem bi (p)(c9e):List MZ->Cs->Cs
 | [],cs=>cs
 | m::ms,cs=>e0C ms (cs++[(m.1,e5e cs m)])
def a0P (p)(c9e)(m:MZ):∀ (ms:List MZ)(cs:Cs),e0C (ms++[m]) cs=e0C ms cs++[(m.1,e5e (e0C ms cs) m)]:=by
 intro r'
 induction r' with
 | nil=>
  ext d46
 | cons _ ms ih'=>
  intro _;show ih' _
def eL (p)(c9e):∀ (ms:List MZ)(cs:Cs),(e0C ms cs).map (·.1)=cs.map (·.1)++ms.map (·.1)
 | [],_=>by simp[bi]
 | m::ms,cs=>by
  simp_all [bi,eL]
def a6K {cs:Cs}{k:Int}(h:k∈cs.map (·.1)):∃ n,bq cs k=!n:=by
 let#[x,ZL]:=GX.mp h;let#[y,hy]:=Iv.mp (d9f h1 h2)
 simp_all [bq]
structure zx (d1g):Prop where
 nd:(ms.map (·.1)).Nodup
 MN:ms.length<64
 ahead:∀ (i:Nat) m ks,ms[i]?=!m->m.2=!ks->ks.length<=1000/\∀ k∈ks,k∈(ms.take i).map (·.1)
theorem Vw (p)(l:Ξ):Prop:=∀ z∈l,0<=z/\z<p
structure y8 (p:Int)(d1g)(c9E)(fo:Λ):Prop where
 p0:0<p
 p1:p<=1000000
 fits:zx ms
 has:∀ m∈ms,z9 fo m.1=false->∃ r,j4 ř m.1=!r/\Vw p r.2/\r.2.length<=1000
variable {C:Addr}
inductive AH (c7j):Ä
 |mk {p:Int}{ms:List MZ}{ř:List bC}{msg:Ξ}{fo:Λ}:y8 p ms ř fo->AH C [fD C p,ia ms,bc ř,rw msg,SW fo] (Uh (UD (·.1) WP))
def b01 (h1:ra ε (SW fo))(h2:rb ε rW)(h3:rc ε .non):CU (λε b=>rO (fN true) ra rc ε oJ) (λε b=>rO xh rb ra ε oJ) ε (z9 fo k):=by
 cases fo with
 | none=>show .f b7D
 | some ks=>show .t b7D #[h2,h1,ky]
def a6W [Bx:Bd](MW)(PH:Mo 1 "coming_in" b37 (Pr fc))(M3):Tk 4 "flow" (top 61) ô (d8M AH):=by
 show Nh ["carries",jf] ?_ λd9W=>(qC (qo 5 ND Zx)
 (qC (e0r Ÿ b2F (dU Bx.K [6,7])
  (q1 (qI (PW.pt<|xG b9l (fj<|e5z (Đ 6) (Đ 4)))
  (q1<|qP (bV (aU hr) (pv 5) (Đ 6) dI rfl) (λe0c=>h))
  (q1<|qP (e3y OL (Đ 6) (e80 rfl<|e0B (da b9m<|da (dF PH hr.m rfl<|e0K (da (Đ 7)<|e1r LB)) LB)) rfl) (λe0c=>h)))))
 (qr<|e5f FH)))
 rintro _ _ @⟨p,ms,ř,msg,fo,W⟩;ext d7Y;ext d6r;show cZ ms (λi ε=>∃ o6 o7,ε=[.fz<|fD C p,.fz<|ia ms,.fz<|bc ř,.fz<|rw msg,.fz<|SW fo,.ow<|Uh (e0C (ms.take i) []),o6,o7]) ⟨_,_,rfl⟩ ⟨rfl,.l .lst⟩ (λi m ε hm gR=>?_) λe3c=>?_
 ·ext d5V;let lt:=(GS.mp hm).1;let nd:=W.fits.nd;let hk:=e5g Bn [];rw[aP hm,a0P];generalize bi p ř msg fo Bn []=cs at hk;let hl:cs.length<=1000:=by let:=d91 hk;simp at this;omega
  let nw:(.inl m.1:jr)∉(cs.map λx=>lA).map (·.1):=λz=>by let#[x,ZL]:=GX.mp z;let#[y,h3,1]:=GX.mp h1;let:=GX.mpr #[y,h3,Sum.inl.inj h2];rw[hk,J0,II]at this;let nd:=(Iz i ms)▸nd;rw[He,HR]at nd;show nd.2.2 _ this _ (GX.mpr #[m,GY (i:=0) (by rw[Kn];show hm),1]) rfl
  let tt:=b01 (ε:=[some<|fD C p,some<|ia ms,some<|bc ř,some<|rw msg,some<|SW fo,some<|Uh cs,some<|.int m.1,some<|SW m.2]) (ra:=rV 4) (rb:=rV 6) (rc:=rC .non) rfl rfl rfl;let e:∀ z:Int,Uh (cs++[(m.1,z)])=MP (vM (cs.map λx=>lA) (.inl m.1)<|.int z):=λz=>by rw[cw nw];show congrArg MP He
  show#[_,#[_,3],?_];ext1 dR
  cases hf:z9 fo m.1 with
  | true=>rw[hf]at tt;show#[_,.t tt #[1,by rw[GP];show hl,.z rfl,1,kI],.fz<|.int m.1,.fz<|SW m.2,by rw[if_pos rfl,e];rfl]
  | false=>
   rw[hf]at tt;let#[r,Lf]:=W.has m (GY hm) hf;let er:dm ř m.1=r.2:=by ext1 dm;rw[h1];rfl
   rw[er];let ci:fc [rw msg,SW m.2,Uh cs] (rw c2g):=by
    cases hx:m.2 with
    | none=>show .n
    | some ks=>show .s (e6v hx).1 λk V0=>a6K (by rw[hk];show (e6v hx).2 k V0)
   show#[_,.f tt #[1,by rw[GP];show hl,.a #[#[1,c0J,#[#[4],ci],1],#[W.p0,W.p1,h3,h2]] rfl,1,kI],.fz<|.int m.1,.fz<|SW m.2,by rw[if_neg nofun,e];rfl]
 ·ext d8D;ext d2Q;let hk:=e5g ms [];show#[#[#[2],.mk (by let:=d91 hk;simp at this;omega) (by rw[hk];show W.fits.nd)],1]
open e
structure a5M (c9a)(c7j):Prop where
 cl:Pf K C
 nP:Mj K C "prime"
 g_G:∃ t,mg "GREATEST_PRIME"=!.int 1000000 t
variable {c:Cl}{C:Addr}
def b4r:au î î (ae vg):=Pa
inductive cM (c7j)(c8p):∀(x dx:Addr) (p:Int),vs=[.ref x,.int p]->H x=!.ins C dx []->p<=1000000->My.O5 p=true->(∀ H',f' H H'->Q .non (upd H' x (.ins C dx [("prime",.int p)])))
def b5J [Bx:Bd](T:a5M Bx.K Bx.mg C)(Qf:Mo 1 "is_prime" ÿ (Pr c0o)):Tm 2 "__init__" "Field.__init__" vg î (cM C):=by
 ext d2P;let#[tk,hgG]:=T.g_G;show F.k b4r λe2C=>?_
 ·let#[x,dx,p,1,hx,hp,hP,q]:=h;show#[_,(af (fm (PW.pt<|CV (pT b1z Gf<|gf (v:=.int 1000000) rfl hgG #[_,1]) (lm<|oA (cN<|aO Qf hr.m rfl Eu)))
  iD
  ML)
 (aq<|e4s Gf rfl)),?_]
  show#[_,1,yi,1,ku (λhc=>absurd (HA hc)<|by lia) λhc=>?_];show#[_,1,H,[.int p],.bl true,f'.refl _,lB,#[hP,hp],λv H' e hv=>#[true,hv,uE ?_]];show#[CJ,x,C,dx,[],1,e ĉ hx,T.cl,T.nP,by decide,q H' e]
inductive a3w (c7j)(d1E):∀{p:Int},rs ε [.int p]->p<=1000000->My.O5 p=true->d=fD C p
def xF (Dd:Dk X.prog X.w X.K X.mg X.base k x C ps (cM C))(c7I)(d0Q):
  PE X ę (tP (a3w C rs)):=(i7 Dd hr hg ha OO he Oi).imp fun σ H Q ⟨F,ε,d,S,⟨h1,h2,h3,h4⟩,q⟩=>e3I h1 λvs e13 S1 gR x dx nx nd ne=>by
 let#[v,ws,ev,hv,hw]:=gR;subst ev h4
 cases hv
 cases hw;show .mk x dx _ rfl ai h2 h3 λH' e'=>#[1,q ĉ (λa o z=>?_) #[x,zV,by rw[aF<|e1.free nx,ai],1,_,_,3]]
 let z1:=e1I z;let n1:=aj z1 nx;rw[aa n1];show e' ĉ (by rw[aa n1,aa<|aj z1 nd];show z1)
def b4Z:∀ {l:List α},(l.map f).Nodup->∀ {x y},x∈l->y∈l->f x=f y->x=y:=by
 intro l
 induction l with
 | nil=>intro _ x y hx;cases hx
 | cons a l ih=>
  intro nd x y hx hy e;ext d4l;rcases Hr.mp hx with h1|h1 <;> rcases Hr.mp hy with h2|h2
  ·rw[h1,h2]
  ·show absurd (GX.mpr #[y,h2,by rw[<- e,h1]]) nd.1
  ·cbv
  ·show ih nd.2 h1 h2 e
def b0P (pm:cs.Perm l)(nd:(l.map (·.1)).Nodup)(h:bq l k=!n):bq cs k=!n:=by
 unfold bq at h ⊢;let#[x,ZL]:=HI.mp h;let hm:=pm.mem_iff.mpr<|HZ h1;let hx:=HA<|J2 (p:=λx:Int×Int=>decide _) h1;let#[y,hy]:=Iv.mp (d9f hm hx);let hy2:=HA<|J2 (p:=λx:Int×Int=>decide Pl) hy;let:=b4Z b35 (HZ hy) hm (hy2.trans hx.symm)
 cbv
theorem cI (p)(ř)(d0B)(k:Int):Ξ:=(List.range many).map λj=>(bq yn k).getD 0
inductive kY (c7E):Ä
 |mk {S:NS}{ns:η}{p:Int}{ř:List bC}{many:Nat}{fo:Λ}:ord S ns->(∀ x∈ns,x∈S.names)->S.Ls.length<=1000->My.O5 p=true->y8 p (LF S ns) ř fo->many<=1000->kY c ord [iY,SW fo] (MP ((UD (·.1) (LF S ns)).map λm=>(.inl m.1,rw (cI p ř fo Ő many m.1))))
def b2L [Bx:Bd](F:MO Bx.K "carried" "carried" (top 63) f fd)(T:GH Bx.mg)(LX)(LM)(Qg)(NM)(OJ)(M3):QH N5 5 f fd à (d8T kY):=by
 show MO.dw F [u9,"flows"] ?_ λe6F=>(qC (qs 5 ND<|e3a ź)
 (qC (qs 6 ND<|e81 rfl ş)
 (qC (qs 7 ND (e0v (cS 1 [1,4,5,6] ["message","plan","fallen",u9]) (aD<|dF NM hr.m rfl Ŕ)
  Ĕ
  P6
  (λd94=>dF Qg hr.m rfl<|e0K (da (Đ 4)<|e0f vG))))
 (qr (e5f (da (e0H (da (RB 2 rfl (cS 2 [7] [jf,"flows"]) (aD<|Đ 6)
  Ĝ
  P6
  (d9T (dF OJ hr.m rfl<|e1M ş))) LB)) LB))))))
 rintro _ _ @⟨S,ns,p,ř,many,fo,ho,hn,hl,hP,W,hm⟩;ext d7Y;let nd:=W.fits.nd;show#[1,.inl<|.nx #[c1v] (.nx b7c<|.nx ⟨be (h:=λj=>Uh<|f0r (f0q (Mx.Lw many j) fo (LF S ns) [])) ⟨⟨⟨rfl,rfl⟩,⟨hm⟩⟩,?_⟩ (by simpa using hm) λj _=>#[_,1,#[6],#[W]]⟩ #[#[#[#[#[be (u:=By) DZ #[] λm hm'=>#[BZ,#[1,#[#[3],.d ZO λj _=>?_],1],Zb],1],e3F #[] ?_],1],.mk MN nd],1])]
 ·ext1 Mx.ones;ext d6s;show .l .lst
 ·let hk:=eL p ř ŕ fo Ő [];let#[n,hn]:=a6K (cs:=f0q ŕ fo Ő []) (k:=m.1) (by rw[hk];show Hm hm');rw[hn];show b0P Nd (by rw[hk];show nd) hn
 ·let:=e7W nd (g:=λ_=>.non);ext d5D
open e
structure b3K (mg:Ω):Prop where
 Ox:mg "dict"=none
 Ma:mg "len"=none
 Q9:mg "list"=none
 b1H:mg "min"=none
theorem AN (many:Int):Option Ξ->Int
 | none=>many
 | some ks=>ks.length
theorem bG (ms)(ř):List bC:=(f0r ms).map λm=>(m.1,dm ř m.1)
structure P4 (many p:Int)(d1g)(c9E):Prop where
 row:∀ m∈ms,∃ r,j4 ř m.1=!r/\(r.2.length:Int)=AN many m.2/\Vw p r.2/\r.2.length<=1000
 odd:∀ r∈ř,r.1∈ms.map (·.1)
 MN:ř.length<=1000
def a3x (nd:(ms.map (·.1)).Nodup)(h:m∈ms):j4 (bG ms ř) m.1=!(m.1,dm ř m.1):=by ext1 bG j4;let#[y,hy]:=Iv.mp (Kw (p:=λr:bC=>decide (r.1=m.1)) |>.mpr ⟨_,Hm (f:=λm:MZ=>(m.1,dm ř m.1))<|(Nd).mem_iff.mpr h,Hb rfl⟩);rw[hy];let#[z,hz,e]:=GX.mp<|HZ hy;let h2:=HA<|J2 (p:=λr:bC=>decide (r.1=m.1)) hy;rw[<- e,(e82 e).trans h2]
variable {c:Cl}{ord:NS->Æ}
structure EN (ord:NS->Æ)(c9d):Prop where
 ord:ord S ns
 nam:∀ x∈ns,x∈S.names
 tz:S.Ls.length<=60
 fits:zx Ő
inductive c4y (c7E):Ä
 |mk {S:NS}{ns:η}{many:Int}:EN ord S ns->c4y c ord [aK c S,.int many] (MP ((UD (·.1) (LF S ns)).map λm=>(.inl m.1,.int (AN many m.2))))
def c4x [Bx:Bd](d1h)(LM)(M3):Tk 4 "wanted_lengths" (top 56) [zP] (d8T c4y):=by
 show Nh [] ?_ λd9W=>(qr (e5f (da (e0H (da (RB 2 rfl (cS 2 [1] [jf,"many"]) (aD<|e81 rfl ş)
  Ĝ
  P6
  (d9T (YA zj (Đ 2)<|dG T.Ma (Đ 1)))) LB)) LB)))
 rintro _ _ @⟨S,ns,many,N⟩;ext d7a;show#[#[#[#[#[be #[#[#[2],#[N.ord,N.nam,zq]],.l .lst] #[] λm _=>#[BZ,#[1,?_,1],Zb],1],XZ.m (f:=λm:MZ=>.inl m.1) #[] ?_],1],.mk MN N.fits.nd],1]
 ·cases hx:m.2 with
  | none=>show .t DL rfl
  | some ks=>show .f DL Dr
 ·let:=uw N.fits.nd (g:=λ_=>.non);ext d5D
inductive b6Y (c7E):Ä
 |mk {S:NS}{ns:η}{many p:Int}{ř:List bC}:EN ord S ns->My.O5 p=true->p<=1000000->P4 many p Ő ř->b6Y c ord [iY] (bc v8)
def c50 [Bx:Bd](d1h)(LX)(Nl:Mo 4 "wanted_lengths" [zP] (d8T c4y))(PF:Mo 3 "is_row_of" b6w (d8M OR)):Tk 5 "checked_plan" (top 59) b38 (d8T b6Y):=by
 show Nh ["field","lengths","number","strange"] ?_ λd9W=>(qC (qs 4 ND<|e3a ź)
 (qC (qs 5 ND<|dF Nl hr.m rfl vG)
 (qC (e0r zY lJ (aN 6)
  (q1 (qI (PW.pt<|A7 (e5A (Đ 6)<|Đ 1) (lm<|Gw (dV<|cN (dF PF hr.m rfl<|e2c (da (ME hr (Đ 1)<|Đ 6)<|da (ME hr (Đ 5)<|Đ 6) LB)))))
  D8
  q0)))
 (qC (e3x (e5B (cS 1 [5] ["number","lengths"]) Ÿ
  Ĕ
  b00
  Ľ) rfl)
 (qC (qI (e6e (d85 7) dI)
  D8
  q0)
 (qr (e0H (da (e0v (d9t ["number","plan"]) zY
  Ĕ
  P6
  (d9T (e6d boot_list<|da b9j LB))) LB))))))))
 rintro _ _ @⟨S,ns,many,p,ř,N,hP,hp,G⟩;let MN:=N.fits.MN;ext d5q;show .nx c0K (.nx #[#[3],#[N]] ?_);ext1 bG;generalize hg:UD (λm:MZ=>m.1) Ő=gs at pm;let gl:=pm.length_eq;let gd:(gs.map (·.1)).Nodup:=(pm.map _).nodup_iff.mpr N.fits.nd;show cZ gs (u:=λm=>.int m.1) (λ_ ε=>∃ o6 o7,ε=[.fz<|aK c S,.fz<|bc ř,.fz<|.int many,.fz<|.int p,.fz<|fD C p,.fz<|MP (gs.map λm=>(.inl m.1,.int<|AN many m.2)),o6,o7]) ⟨_,_,rfl⟩ ⟨rfl,yS.m⟩ (λi m ε hm gR=>?_) λe3c=>?_
 ·ext d5V;let hm:=GY hm;let#[r,AS]:=G.row m<|pm.mem_iff.mp hm;let rr:=OR.mk (C:=C) h4 h3;rw[h2]at rr;show#[_,1,_,.f (.f #[2,e4A (by rw[gS h1];rfl)] #[#[1,c0J,#[2,.k (bY (uw gd)<|Hm hm) kI],1],rr]) rfl,wG]
 ·ext d5V;let es:ř.filter b0i=[]:=JM.mpr λe45=>by rw[Hb<|(pm.map _).mem_iff.mpr (G.odd r hr)];show nofun
  show .nx #[bh (xs:=ř) (u:=λr=>.int r.1) (h:=λr=>.int r.1) b0i w6 G.MN λe45=>#[_,1,#[2,e4A (by rw[lE (f:=λm:MZ=>m.1)];rfl)],λ_=>rfl]] ?_;rw[es];show .nx (.f (gt_int (i:=0) (j:=0) #[#[2],.s<|.sq .lst] rfl) rfl) ⟨⟨⟨be (xs:=gs) (u:=λm=>.int m.1) (h:=λm=>.tup [.int m.1,rw Bo]) w6 #[] λm hm=>#[_,1,#[#[1,#[#[#[2,?_],1],.s<|.sq .lst],1],Zb]],rfl⟩,e3F #[] ?_⟩,?_⟩
  ·let#[r,h1,_]:=G.row m<|pm.mem_iff.mp hm;let er:dm ř m.1=r.2:=by ext1 dm;rw[h1];rfl
   rw[er];show .k (gS h1) kI
  ·let:=e7W gd (g:=λ_=>.non);ext d5D
  ·rw[show bc (gs.map _)=MP (List.map _<|List.map _ gs) from rfl,GV];rfl
open e
def a6U (c8U)(c9e)(cs:Cs)(m:MZ):0<=e5e cs m/\dR p ř msg fo cs m<p:=by
 ext1 dR;by_cases c:z9 fo m.1=true
 ·omega
 ·rw[if_neg c,Mx.Mn];show#[Ij _<|by omega,HV _ hp]
def c51 (c8U)(c9e):∀ (ms:List MZ)(cs:Cs),(∀ x∈cs,0<=x.2/\x.2<p)->∀ x∈bi p ř msg fo ms cs,0<=x.2/\x.2<p:=by
 intro r'
 induction r' with
 | nil=>
  intro _ h;show h
 | cons m ms ih'=>
  intro cs h;show ih' _ λe0Z=>by
   rcases Hx.mp hx with z|z
   ·show h x z
   ·rw[Hs.mp z];show a6U hp ř msg fo cs m
def a4o (c8U)(ř)(d0B)(k:Int):Vw p (e0I k):=λe8a=>by
 let#[j,_,1]:=GX.mp hz
 cases hl:bq _ k with
 | none=>show#[Int.le_refl _,hp]
 | some n=>
  let#[x,hx,e]:=HI.mp hl;let:=c51 hp ř _ fo ms [] (λ_ h=>(Ih h).elim) x<|HZ hx;rw[<- e];show this
theorem cH (S:NS)(p)(rs:List bC)(d0B)(g:Str):Θ:=(S.into g).map λk=>cI p rs fo ms many k
def zE (c8U)(h1:(S.into g).length<=100)(h2:many<=100):YF p many (cH S p rs fo ms many g):=by
 show#[#[B4],by ext1 cH;rw[GP];show h1,#[]]
 ·let#[k,_,1]:=GX.mp hr;ext1 cI;rw[GP,HL]
 ·let#[k,_,1]:=GX.mp hr;show a4o hp rs fo ms many k
variable {c:Cl}{ord:NS->Æ}
def P4.a5g (N:EN ord S ns)(hP)(hp:p<=1000000)(G:P4 many p Ő ř):y8 p Ő v8 fo:=by ext d23;show#[#[],hp,N.fits,λm hm _=>#[_,a3x N.fits.nd hm,?_]];let#[r,h1,_,AU]:=G.row m hm;rw[show dm ř m.1=r.2 by ext1 dm;rw[h1];rfl];show#[AU]
inductive Ny (c7E):Ä
 |mk {S:NS}{ns:η}{many:Nat}{p:Int}{ř:List bC}{fo:Λ}:EN ord S ns->My.O5 p=true->p<=1000000->P4 many p (LF S ns) ř->many<=100->S.Lv.length<=100->S.names.Nodup->(∀ t∈S.Ls,t.1∈(LF S ns).map (·.1))->Ny c ord [iY,SW fo] (MP (S.LW.map λg=>(.inr g,d6 p (cH S p v8 fo Ő many g) many)))
def a1x [Bx:Bd](F:MO Bx.K "judged" "judged" (top 66) f fd)(Ng:Mo 5 "checked_plan" b38 (d8T b6Y))(LX)(PY:Mo 5 "carried" à (d8T kY))(Lu)(MA)(Ow:Mo 7 "judgement" ã (d8M b3A)):QH N5 8 f fd à (d8T Ny):=by
 show MO.dw F ["looked_over","field","rows","told","listener","table"] ?_ λe6F=>(qC (qs 5 ND<|dF Ng hr.m rfl (da (Đ 0)<|e0f (da (Đ 2)<|e0K LB)))
 (qC (qs 6 ND<|e3a ź)
 (qC (qs 7 ND<|dF PY hr.m rfl (da (Đ 0)<|e1r (da (Đ 2)<|e0K zc)))
 (qC (qo 8 ND Zx)
 (qC (e0r (aD<|e4z Lu hr.m) (pN 9 ND) (aN 9)
  (qC (XH (K:=Bx.K) (n:=0) (aW (i:=10) ND rfl rfl rfl (cS 1 [7] c1x) (aD<|e1L MA hr.m (e69 LB))
  Ĕ
  P6
  ž) rfl)
 (q1<|qP (e3y nC (Đ 9) (dF Ow hr.m rfl<|e4y (da sg<|e1M LB)) rfl) (λe0c=>h))))
 (qr<|Đ 8))))))
 rintro _ _ @⟨S,ns,many,p,ř,fo,N,hP,hp,G,hm,hz,nd,hk⟩;ext d23;ext d7a;ext d5q;let li:∀ g∈S.LW,g∈S.names:=λg hg=>by let#[q,ZL]:=GX.mp hg;show GX.mpr #[q,(HB.mp h1).1,h2]
 let ln:S.LW.Nodup:=List.Nodup.sublist (K9 _ Jp) nd;let lz:S.LW.length<=100:=by ext1 NS.LW;rw[GP];show HE wT hz
 let iz:∀ g,(S.into g).length<=S.Ls.length:=λg=>by ext1 NS.into;ext d3R
 show#[1,.inl<|.nx #[#[5],#[N,hP,hp,G]] (.nx c0K<|.nx ⟨⟨rfl,rfl,rfl,rfl,rfl,rfl⟩,⟨N.ord,N.nam,#[],hP,G.a5g N hP hp,#[]⟩⟩ (.nx ⟨rfl⟩ ?_))];generalize bG (LF S ns) ř=rs;show cZ S.LW (u:=.str) (λi ε=>∃ o9 OM,ε=[.fz<|aK c S,.fz<|bc ř,.fz<|.int many,.fz<|.int p,.fz<|SW fo,.fz<|bc rs,.fz<|fD C p,.fz<|MP ((UD (·.1)<|LF S ns).map λm=>(.inl m.1,rw b6x)),.ow<|MP ((S.LW.take i).map λg=>(.inr g,d6 p Ec many)),o9,OM]) #[wG] #[b8v,.l .lst] (λi e8c=>?_) λe3c=>?_
 ·let#[o9,OM,he]:=gR;subst he;let gm:=GY hg;let lt:=(GS.mp hg).1;let gz:(S.into g).length<=100:=by let:=iz g;lia
  let nw:(.inr g:jr)∉((S.LW.take i).map λg=>((.inr g:jr),d6 p Ec many)).map (·.1):=λz=>by rw[GV]at z;let#[x,ZL]:=GX.mp z;let h1:=Sum.inr.inj h2▸h1;let nd:=(Iz i S.LW)▸ln;rw[HR]at nd;show nd.2.2 _ h1 _ (GY (i:=0) (by rw[Kn];show hg)) rfl
  show#[_,1,_,.nx #[c7 (xs:=S.into g) (u:=.int) (h:=λk=>rw (cI p rs fo Ő many k)) (d:=tb<|cH S p rs fo (LF S ns) many g) ⟨⟨rfl,by decide,⟨rfl,rfl⟩,⟨#[],li g gm⟩⟩,.l .lst⟩ #[] (λk V0=>#[_,3,.k ?_ kI]) (by ext1 cH;rw[show tb _=.lst xc from rfl,GV];rfl)] #[1,by simp;lia,.z #[#[4],#[hP,hp,zE #[] gz hm,hm]],1,kS],.fz<|.str g,.fz<|tb Ec,?_]
  ·let#[t,h1,1]:=GX.mp V0;let#[m,AU]:=GX.mp<|hk t (HB.mp h1).1;rw[<- h4];show bY (uw<|(pm.map _).nodup_iff.mpr N.fits.nd) (Hm (f:=λm:MZ=>((.inl m.1:jr),rw b6x))<|pm.mem_iff.mpr h3)
  ·rw[cw nw,aP hg,He];rfl
 ·ext d8D;ext d48
open e
universe K72
namespace L2.Wy
example{ν:Type}[DecidableEq ν]:=0
abbrev T (ν:Type):=Int×ν×ν×Int
theorem b2 (b:Bool):Int:=if b then 1 else 0
theorem jb (U)(c8t)(t:T ν):Int:=if U t.1 then b2 (p t.2.1) - b2 (p t.2.2.1) else 0
theorem Mg (ts)(U)(c8t):Int:=(ts.map (jb U p)).sum
theorem Q7 (t:T ν)(x:ν)(U):Option ν:=if U t.1 then (if t.2.2.1=x then some t.2.1 else none) else (if t.2.1=x then some t.2.2.1 else none)
theorem flip (U)(k:Int):Int->Bool:=λj=>if j=k then not (U j) else U j
def a1o (U)(k:Int):flip U k k=not (U k):=if_pos rfl
def nF (U)(h:j≠k):flip U k j=U j:=if_neg h
def ki (t:T ν)(ts)(U)(c8t):Mg (t::ts) U p=jb U p t+e4B p:=by
 ext1 Mg
 cbv
def b7a (c9n)(c8t)(h:∀ t∈ts,U t.1=V t.1):e4B p=Mg ts V p:=by ext1 Mg;ext d8f;ext1 jb;rw[h t ht]
theorem uj (ts):Prop:=(ts.map (·.1)).Nodup
def uj.tail (h:uj (t::ts)):uj ts:=(HS.mp h).2
def uj.ne (h:uj (t::ts))(hu:u∈ts):u.1≠t.1:=λe=>(HS.mp h).1 (by change t.1∈ts.map _;rw[<- e];show Hm hu)
def uj.inj (h:uj ts){u:T ν}(ht:t∈ts)(hu:u∈ts)(e:t.1=u.1):t=u:=by
 induction ts with
 | nil=>cases ht
 | cons a ts ih=>
  rcases Hr.mp ht with rfl|ht1
  ·rcases Hr.mp hu with rfl|hu
   ·rfl
   ·show absurd e.symm (h.ne hu)
  ·rcases Hr.mp hu with rfl|hu
   ·show absurd e (h.ne<|by assumption)
   ·show ih h.tail (by assumption) hu
def b2y (c95){x y:ν}(d1x):jb yX p t=jb U p t+b2 (p x) - b2 (p y):=by
 unfold Q7 at h;ext1 jb;rw[a1o]
 cases hU:U t.1 with
 | true=>
  cbv
 | false=>
  cbv
def b67 (c6Z)(c95){x y:ν}(nd)(ht:t∈ts)(d1x):Mg ts yX p=e4B p+b2 (p x) - b2 (p y):=by
 induction ts with
 | nil=>cases ht
 | cons a ts ih=>
  rw[ki,ki];rcases Hr.mp ht with rfl|ht
  ·rw[b2y h,b7a p λu hu=>nF U<|nd.ne hu]
   lia
  ·rw[ih nd.tail ht];let:jb yX p a=jb U p a:=by ext1 jb;rw[nF U λe=>nd.ne ht e.symm]
   lia
theorem Flow (ts)(U)(h g:ν)(v:Int):Prop:=∀ p:ν->Bool,e4B p=v * (b2 (p h) - b2 (p g))
def Flow.none (ts)(h g:ν):e2P (λ_=>false) h g 0:=λp=>by
 rw[Int.zero_mul];ext1 Mg
 induction ts with
 | nil=>rfl
 | cons t ts ih=>
  rw[Hu,List.sum_cons,ih];rfl
abbrev Cm (ν:Type):=List (ν×Option (Int×ν))
theorem keys (d0l):List ν:=c.map (·.1)
inductive Og (c7Y)(h:ν):Cm ν->Prop
 |one:Og ts U h VH
 |snoc {cs:Cm ν}{x y:ν}{t:T ν}:Og ts U h cs->x∈keys cs->t∈ts->Q7 t x U=!y->¬ y∈keys cs->Og ts U h (cs++[GG])
def br (a b:Cm ν):keys (a++b)=keys a++keys b:=He
def Og.nd (c8f):(keys cs).Nodup:=by
 induction C with
 | one=>simp[keys]
 | snoc C hx ht hs hy ih=>
  rw[br];show HR.mpr #[ih,by simp[keys],λe9m e3b e=>?_];let:=Hs.mp hb
  cbv
def Og.Mu (c8f):h∈keys cs:=by
 induction C with
 | one=>simp[keys]
 | snoc C hx ht hs hy ih=>rw[br];show HG _ ih
def Og.at (c8f){pre post:Cm ν}{y:ν}(c96)(e:cs=pre++(y,s)::post):
  (s=none/\y=h)\/∃ t x,t∈ts/\s=!(t.1,x)/\x∈keys pre/\Q7 t x U=!y:=by
 induction C generalizing post with
 | one=>
  cases pre with
  | nil=>
   injection e with e1 e2;injection e1 with e1 e3;show .inl #[e3.symm,e1.symm]
  | cons a pre=>
   cbv
 | @snoc cs x y' t C hx ht hs hy ih=>
  rcases List.eq_nil_or_concat post with rfl|⟨WV,q,rfl⟩
  ·let e':=e;let#[VV]:=e7X rfl
   grind
  ·let e':cs++[(y',!(t.1,x))]=(pre++(y,s)::WV)++[q]:=by cbv
   let#[VV]:=e7X rfl;show ih e1
def a2g {t:T ν}{x x' y y':ν}(d1x)(h':Q7 t x' U=!y'):y=y':=by grind [Q7]
def AZ {t:T ν}{V:Int->Bool}(x:ν)(h:U t.1=V t.1):e7a U=e7a V:=by ext1 Q7;rw[h]
def iJ (h:y∈keys c):∃ pre s post,c=pre++(y,s)::post:=by let#[#[y',s],hq,1]:=GX.mp h;let#[oR]:=List.append_of_mem hq;show#[pre,s,post,e]
structure zU (c7Y)(g:ν)(d0l)(V:Int->Bool)(y:ν)(s:Option (Int×ν))(n:Nat):Prop where
 at':∃ pre post,c=pre++(y,s)::post/\pre.length=n/\∀ q∈pre++[(y,s)],∀ k x,q.2=!(k,x)->V k=U k
 nt:∀ p,Mg ts V p=Mg ts U p+b2 (p y) - b2 (p g)
def zU.start (e:c=pre++(g,s)::post):e2s U g s pre.length:=
 #[#[oR,1,λd94=>rfl],λp=>by omega]
def zU.step (c9n){h g:ν}(d0m)(nd)(c9f){y x:ν}(B:e2s V y (!(k,x)) n):
  ∃ s m,m<n/\zU ts U g c (flip V k) x s m:=by
 let#[oR,hn,hV]:=B.at';rcases C.at e with⟨e0,_⟩|⟨t,x',ht,es,hx,hs⟩
 ·cases e0
 injection es with es;injection es with e1 e2;subst e1 e2;let hVt:=hV _ (Hh _<|Hs.mpr rfl) _ _ rfl;let#[a0v,s,WV,e3]:=iJ hx;let NI:a0v.length<n:=by
  rw[<- hn,e3,Ho,HM]
  lia
 show#[s,a0v.length,NI,#[#[a0v,WV++GG::post,by rw[e,e3];simp,1,λe4e k' x'' hq2=>?_],λp=>?_]]
 ·let hqp:q∈pre:=by
   rw[e3];ext d8g
   ·show HG _ hq
   ·rw[Hs.mp hq];show Hh _ (Ha ..)
  let XQ:k'≠t.1:=λek=>by
   let#[a,b,eab]:=List.append_of_mem hqp;let e5:c=a++(q.1,q.2)::(b++GG::post):=by rw[e,eab];simp
   rcases C.at e5 with⟨e0,_⟩|⟨t2,x2,ht2,es2,_,U5⟩
   ·rw[hq2]at e0;cases e0
   ·rw[hq2]at es2;injection es2 with es2;injection es2 with e6 e7;let:=nd.inj ht2 ht<|e6.symm.trans ek;ext d4y;let:=a2g U5 hs;let hk:=C.nd;rw[e,br]at hk;let h1:q.1∈keys pre:=Hm hqp;show (HR.mp hk).2.2 q.1 h1 y (by simp[keys]) this
  rw[nF V XQ];show hV q (HG _ hqp) k' x'' hq2
 ·rw[b67 nd ht<|(AZ x hVt).trans hs,B.nt p]
  lia
def zU.stop (c9n){h g:ν}(d0m)(c9f){y:ν}(B:e2s V y none n)(c71):e2P V h g (v+1):=by
 let#[oR,hn,hV]:=B.at';rcases C.at e with⟨_,rfl⟩|⟨t,x',ht,es,hx,hs⟩
 ·intro p;rw[B.nt p,F p,Int.add_mul,Int.one_mul]
  lia
 ·cases es
theorem v9 (ts)(U)(c8t):Prop:=∀ t∈ts,∀ x z,p x=true->e7a U=!z->p z=true
theorem BX (c8t)(t:T ν):Bool:=p t.2.1&&not (p t.2.2.1)
theorem sO (ts)(c8t):List (T ν):=ts.filter (BX p)
def a5r (c95)(h:∀ x z,p x=true->e7a U=!z->p z=true):jb U p t=b2 (BX p t):=by
 ext1 jb BX b2
 cases hU:U t.1 with
 | true=>
  let:=h t.2.2.1 t.2.1;unfold Q7 at this
  cases h1:p t.2.1 <;> cases h2:p t.2.2.1 <;> cbv
 | false=>
  let:=h t.2.1 t.2.2.1;unfold Q7 at this
  cbv
def c0s (c6Z){p:ν->Bool}(h:v9 ts U p):e4B p=((sO ts p).length:Int):=by
 ext1 sO
 induction ts with
 | nil=>rfl
 | cons t ts ih=>
  rw[ki,Il,ih λu hu=>h u<|Hk _ hu,a5r<|h t (Ha ..)]
  cases BX p t with
  | true=>
   grind [b2]
  | false=>
   grind [b2]
def Flow.cut (c6Z){h g:ν}{p:ν->Bool}(c71)(hc:v9 ts U p)(hh:p h=true)(hg:p g=false):((sO ts p).length:Int)=v:=by let:=F p;rw[c0s hc,hh,hg]at this;rw[this];change v * (1 - 0)=v;omega
inductive Qm (ts:List (T ν)):ν->List (T ν)->ν->Prop
 |nil (x:ν):Qm ts x [] x
 |snoc {x:ν}{ws:List (T ν)}{t:T ν}:Qm ts x ws t.2.1->t∈ts->Qm ts x rJ t.2.2.1
theorem nums (ws:List (T ν)):Ξ:=ws.map (·.1)
def Qm.sub (c8X):∀ t∈ws,t∈ts:=by
 induction W with
 | nil=>cbv
 | snoc W ht ih=>
  intro t h;ext d5E
  ·show ih t h
  ·cbv
def Qm.up (c6Z)(c7i){x y:ν}(c9M)(c8X):rk x+ws.length<=rk y/\(∀ t∈ws,rk t.2.1<rk y)/\ws.Nodup:=by
 induction W with
 | nil=>cbv
 | @snoc ws t W ht ih=>
  let:=hr _ ht;let#[xP,i3]:=ih;show#[by rw[Ho,Ie];omega,λu hu=>?_,?_]
  ·rcases Hx.mp hu with hu|hu
   ·let:=i2 u hu;omega
   ·cbv
  ·show HR.mpr #[i3,by simp,λe9m e3b e=>?_];let eb:=Hs.mp hb;let:=i2 a ha;omega
def c2X (c9M)(nd)(hs:∀ t∈ws,t∈ts)(h:ws.Nodup):(nums ws).Nodup:=by
 induction ws with
 | nil=>show Ju
 | cons a ws ih=>
  let#[ZL]:=HS.mp h;show HS.mpr #[λz=>?_,ih (λe6r=>hs t<|Hk _ ht) h2];let#[u,hu,e]:=GX.mp z;let:=nd.inj (hs u<|Hk _ hu) (hs a<|Ha ..) e
  cbv
theorem without (U)(ks:Ξ):Int->Bool:=λk=>U k&&not (decide (k∈ks))
def a7K (nd)(c8t)(W:Qm Ħ x ws y)(hn:(nums ws).Nodup):
  Mg ts (without U wo) p=e4B p - b2 (p x)+b2 (p y):=by
 induction W with
 | nil=>
  simp[b7a,without,nums]
 | @snoc ws t W ht ih=>
  let Vj:(nums ws++[t.1]).Nodup:=by
   let:nums rJ=nums ws++[t.1]:=He
   cbv
  let#[n1,_,n3]:=HR.mp Vj;let Oj:=λz=>n3 t.1 z t.1 (Hs.mpr rfl) rfl;let hU:=(HB.mp ht).2;let hV:without U wo t.1=true:=by ext1 without;rw[hU,GZ Oj];rfl
  let hs:Q7 t t.2.2.1 (without U<|nums ws)=!t.2.1:=by ext1 Q7;rw[hV,if_pos rfl,if_pos rfl]
  let e:Mg ts (without U<|nums rJ) p=Mg ts (flip (without U<|nums ws) t.1) p:=b7a p λu _=>by
   let e2:nums rJ=nums ws++[t.1]:=He;by_cases hu:u.1=t.1
   ·rw[hu,a1o,hV];ext1 without
    cbv
   ·rw[nF _ hu];ext1 without
    cbv
  rw[e,b67 nd ((HB.mp ht).1) hs,ih n1]
  lia
def Flow.without (nd)(c71)(c9M)(W:e5C g)(hn:(nums ws).Nodup):e2P (e7b wo) h g (v - 1):=λp=>by
 rw[a7K nd p W hn,F p,Int.sub_mul,Int.one_mul]
 lia
instance Dh {ts:List (T ν)}{x:ν}(h:0<=Mg ts U Sc)(hi:0<Mg ts U Sc\/∃ t∈ts,U t.1=true/\t.2.2.1=x/\t.2.1≠x):∃ t∈ts,U t.1=true/\t.2.1=x:=by
 by_cases hx:∃ t∈ts,U t.1=true/\t.2.1=x
 ·show hx
 ·exfalso;let key:∀ ts:List (T ν),(∀ t∈ts,¬ (U t.1=true/\t.2.1=x))->Mg ts U Sc<=0/\((∃ t∈ts,U t.1=true/\t.2.2.1=x/\t.2.1≠x)->Mg ts U Sc<0):=by
   intro ts hts
   induction ts with
   | nil=>show#[Int.le_refl _,λgR=>(by let#[t,ht,_]:=gR;show nomatch ht)]
   | cons a ts ih=>
    let#[i1,i2]:=ih λt ht=>hts t<|Hk _ ht;rw[ki];let t0:jb U (λz=>decide (z=x)) a<=0:=by
     ext1 jb;split
     ·rename_i hU;change b2 (decide _) - b2 (decide _)<=0;rw[GZ λe=>(hts a<|Ha ..) #[hU,e]]
      cases decide (a.2.2.1=x) <;> decide
     ·show Int.le_refl _
    show#[#[],λgR=>?_];let#[t,ht,h1,h2,h3]:=gR;rcases Hr.mp ht with rfl|ht
    ·let:jb U Sc t=-1:=by ext1 jb;rw[if_pos h1];change b2 (decide _) - b2 (decide _)=-1;rw[GZ h3,Hb h2];rfl
     lia
    ·let:=i2 #[t,ht,h1,h2,h3]
     lia
  let#[k1,k2]:=key ts λt ht z=>hx #[t,ht,z]
  grind
def Flow.Yr (c6Z)(c7i){h g x:ν}(c71)(hv:0<v)(hg:x≠g)(c9M)(W:e5C x):∃ t∈ts,U t.1=true/\t.2.1=x:=by
 let e:=F λz=>decide (z=x);rw[GZ<|show ¬ g=x from λz=>hg z.symm]at e;by_cases hh:h=x
 ·rw[Hb hh]at e;let:e4B Sc=v:=by rw[e];change v * (1 - 0)=v;lia
  show Dh #[] (.inl<|by lia)
 ·show Dh #[] (.inr ?_)
  cases W with
  | nil=>show absurd rfl hh
  | @snoc ws t W ht=>
   let:=hr t (HB.mp ht).1;show#[t,(HB.mp ht).1,(HB.mp ht).2,1,λz=>by lia]
example{ν:Type}[DecidableEq ν]:=0
theorem look (U)(x:ν):List (T ν)->Cm ν×List ν->Cm ν×List ν
 | [],s=>s
 | t::r,s=>match Q7 t x U with
  | some z=>if z∈keys s.1 then look U x r s else look U x r b3F
  | none=>e1U r s
theorem gI (ts)(x:ν):List (T ν):=ts.filter λt=>decide rZ || decide W1
theorem bfs (ts)(U):Nat->Cm ν×List ν->Cm ν
 | 0,s=>s.1
 | n+1,s=>match s.2 with
  | []=>s.1
  | x::w=>f0s U n (e1U ZP (s.1,w))
theorem fh (ts)(U)(N:Nat):Option ν->Cm ν
 | none=>[]
 | some h=>f0s U N (VH,[h])
structure Bf (c7Y)(h:ν)(d0l)(d w:List ν):Prop where
 P8:Og ts U h c
 ks:keys c=d++w
 done:∀ x∈d,∀ t∈ts,∀ z,Q7 t x U=!z->z∈keys c
def Bf.start (ts)(U)(h:ν):e4C VH [] [h]:=#[.one,1,λe0Z=>nomatch hx]
def b2p:∀ (r:List (T ν))(s:Cm ν×List ν),(∀ t∈r,t∈ts)->f0t s.1->keys s.1=d++s.2->x∈d->
  Og ts U h (e1U r s).1/\keys (e1U r s).1=d++(e1U r s).2/\(∀ z∈keys s.1,z∈keys (e1U r s).1)/\∀ t∈r,∀ z,e7a U=!z->z∈keys (e1U r s).1
 | [],s,_,C,k,_=>#[C,k,λe8a=>hz,λe6r=>nomatch ht]
 | t::r,s,hr,C,k,hx=>by
  let UZ:∀ t∈r,t∈ts:=λu hu=>hr u<|Hk _ hu;rw[look]
  cases hs:e7a U with
  | none=>
   ext d5r
   grind
  | some y=>
   change Og ts U h (if y∈keys s.1 then look U x r s else _).1/\_;by_cases hy:y∈keys s.1
   ·simp only[if_pos hy];ext d5r;rcases Hr.mp hu with rfl|hu
    ·rw[hs]at hz;cases hz;show c _ hy
    ·show e u hu z hz
   ·simp only[if_neg hy];let C':f0t EG:=.snoc C ě (hr t<|Ha ..) hs hy;let k':keys EG=d++(s.2++[y]):=by rw[br,k,Ib];rfl
    let#[lx,e]:=b2p r (s.1++[GG],s.2++[y]) UZ C' k' hx;let hyk:y∈keys EG:=by cbv
    show#[a,b,λe8a=>c z (by rw[br];show HG _ hz),λu hu e8a=>?_]
    grind
def a91 (d0C):t.2.1=x\/t.2.2.1=x:=by grind [Q7]
def Bf.step (c6Z){h x:ν}(d0m){d w:List ν}(B:e4C c d (x::w)):e4C (e1U ZP (c,w)).1 (d++[x]) (e1U ZP (c,w)).2:=by
 let#[a,b,m,e]:=b2p (x:=x) (d:=d++[x]) _ (c,w) b7E B.P8 (by rw[B.ks];simp) ė;show#[a,b,λe3G e6r e8a=>?_];rcases Hx.mp hy with hy|hy
 ·show m z (B.done y hy t ht z hz)
 ·let hyx:=Hs.mp hy;rw[hyx]at hz;show e t (HB.mpr #[ht,?_]) z hz;rw[Bool.or_eq_true];rcases a91 hz with h|h
  ·show .inl (Hb h)
  ·show .inr (Hb h)
theorem Ends (ts)(nm:List ν):Prop:=∀ t∈ts,t.2.1∈nm/\t.2.2.1∈nm
def zL (d0C):z=t.2.1\/z=t.2.2.1:=by grind [Q7]
def Og.names (d1Z){nm:List ν}(c9f)(c9w):∀ z∈keys c,z∈nm:=by
 induction C with
 | one=>intro z hz;rw[Hs.mp hz];show hh
 | snoc C hx ht hs hy ih=>
  intro z hz;rw[br]at hz;ext d8h
  ·show ih z hz
  ·rw[Hs.mp hz];rcases zL hs with e|e
   ·rw[e];show (E _ ht).1
   ·rw[e];show (E _ ht).2
def g6 {xs ys:List ν}(nd:xs.Nodup)(h:∀ x∈xs,x∈ys):xs.length<=ys.length:=by
 induction xs generalizing ys with
 | nil=>show HP _
 | cons a xs ih=>
  let#[n1,n2]:=HS.mp nd;let ha:=h a<|Ha ..;let:=ih (ys:=ys.erase a) n2 λe0Z=>(KR λe=>n1 (by rw[<- e];show hx)).mpr<|h x (Hk _ hx);rw[List.length_erase_of_mem ha]at this;let:=List.length_pos_of_mem ha;rw[HM]
  lia
def Bf.len (d1Z){d w nm:List ν}(B:e4C c d w)(c9w):d.length+w.length<=nm.length/\c.length<=nm.length:=by
 let:=g6 B.P8.nd<|e7c hh;let e:(keys c).length=c.length:=GP _;let e2:=d91 B.ks
 grind
structure Rea (c7Y)(h:ν)(d0l):Prop where
 P8:Og ts U h c
 all:∀ x∈keys c,∀ t∈ts,∀ z,Q7 t x U=!z->z∈keys c
def c5v (c9w):∀ (n:Nat)(c:Cm ν)(d w:List ν),e4C c d w->nm.length<=n+d.length->e83 (f0s U n (c,w))
 | 0,c,d,w,B,hn=>by let hl:=(B.len E hh).1;let hw:w=[]:=JD.mp #[];subst hw;show#[c3l]
 | n+1,c,d,[],B,hn=>#[c3l]
 | n+1,c,d,x::w,B,hn=>c5v E hh n _ (d++[x]) _ B.step (by rw[Ho,Ie];lia)
def b4t (c6Z){h:ν}{nm:List ν}(c9w)(hN:nm.length<=N):e83 (fh ts U N !h):=c5v E hh N _ [] [h] (Bf.start ts U h) (hN)
def Rea.closed (d1Z)(R:e83 c):v9 ts U (λz=>decide qH):=λe6r x z hx hs=>Hb (R.all x (HA hx) t ht z hs)
theorem V6 (c9Q):Ξ:=if k∈U then U.filter (λj=>not (decide (j=k))) else U++[k]
theorem NU (U:Ξ):Int->Bool:=λk=>decide (k∈U)
def c3u (c9Q):NU (V6 U k)=flip xz k:=by
 funext j
 grind [NU,V6,flip]
instance AV (h:U.Nodup)(k:Int):(V6 U k).Nodup:=by
 ext1 V6;split
 ·show h.filter _
 ·rename_i hk;show HR.mpr ⟨h,by simp,λa ha b hb e=>?_⟩
  cbv
theorem cL (d0l)(y:ν):Option (Int×ν):=(c.find? λq=>decide (q.1=y)).bind (·.2)
def l9 {c pre post:Cm ν}{y:ν}(c96)(nd:(keys c).Nodup)(e:c=pre++(y,s)::post):c.find? jJ=!(y,s)/\cL c y=s:=by
 let h1:c.find? jJ=!(y,s):=by rw[e,br]at nd;let hno:pre.find? jJ=none:=IX.mpr λe4e z=>(HR.mp nd).2.2 q.1 (Hm hq) y (by simp[keys])<|HA z;rw[e,Kx,hno];simp
 show#[h1,?_];ext1 cL;rw[h1];rfl
theorem gO (d0l):Nat->List Int->Option (Int×ν)->Ξ
 | 0,U,_=>U
 | _+1,U,none=>U
 | n+1,U,some s=>e7d (V6 U s.1) (cL c s.2)
def b13 (d0l)(n)(c9Q)(x:ν):gO c (n+1) U (!(k,x))=e7d (V6 U k) (cL c x):=rfl
def zU.look (c9n){h g y:ν}(d0m)(c96)(c9f)(B:e2s V y s n):cL c y=s/\c.find? jJ=!(y,s)/\n<c.length:=by
 let#[oR,hn,_]:=B.at';let#[ZL]:=l9 C.nd e
 cbv
def a9H (nd)(c9f)(c71):∀ (n m:Nat)(V:Ξ)(y:ν)(s:Option (Int×ν)),e2s (NU V) y s m->m<n->V.Nodup->e2P (NU (e7d V s)) h g (v+1)/\(e7d V s).Nodup
 | 0,m,V,y,s,B,hm,_=>absurd hm (Kl _)
 | n+1,m,V,y,none,B,hm,hV=>#[B.stop C F,hV]
 | n+1,m,V,y,some (k,x),B,hm,hV=>by let#[s',m',NI,B']:=B.step nd C;rw[<- c3u]at B';let e:=(B'.look C).1;rw[b13,e];show a9H nd C F n m' (V6 V k) x s' B' #[] (AV hV k)
def a1v (c6Z){h g:ν}(d0m)(nd)(C:Og ts xz h c)(F:e2P xz h g v)(hg:g∈keys c)(hU:U.Nodup)(hn:c.length<=n):e2P (NU (e7d U (cL c g))) h g (v+1)/\(e7d U (cL c g)).Nodup:=by let#[pre,s,post,e]:=iJ hg;let B:=zU.start (ts:=ts) (U:=NU U) e;rw[(B.look C).1];show a9H nd C F n _ U g s B (HN (B.look C).2.2 hn) hU
theorem BW (ts)(d0l):Ξ:=nums (sO ts λz=>decide qH)
theorem ff (d10)(N:Nat):Nat->List Int->Sum Ξ Ξ
 | 0,U=>.inr U
 | m+1,U=>if g∈keys Ũ then ff ts h g N m b8z else .inl (BW ts Ũ)
def a4n (d10)(N m:Nat)(U:Ξ):ff ts h g N (m+1) U=if g∈keys Ũ then ff ts h g N m b8z else .inl (BW ts Ũ):=rfl
structure a51 (ts:List (T ν))(h g:ν)(U:Ξ)(ks:Ξ)(c8t):Prop where
 closed:v9 ts xz p
 hh:p h=true
 hg:p g=false
 ks:ks=nums (sO ts p)
def c0Y (nd)(c9w)(hN:nm.length<=N):∀ (m:Nat)(U:Ξ)(v:Int),e2P xz h g v->U.Nodup->
  (∀ V,e9v U=.inr V->e2P (NU V) h g (v+m)/\V.Nodup)/\
  (∀ ks,e9v U=.inl ks->∃ (i:Nat)(V:Ξ)(p:ν->Bool),i<m/\ff ts (!h) g N i U=.inr V/\Flow ts (NU V) h g (v+i)/\a51 ts h g V ks p/\(ks.length:Int)=v+i):=by
 intro r'
 induction r' with
 | zero=>
  intro U v F hU;show #[λV e=>by cases e;show#[by simpa using F,hU],λks e=>by cases e]
 | succ m ih'=>
  intro U v F hU;let R:=b4t (U:=NU U) E hh hN;rw[a4n];generalize hc:f0u N (!h)=c at R;let cl:c.length<=N:=by
   let:=g6 R.P8.nd (R.P8.names E hh)
   grind [keys,List.length_map]
  by_cases hg:g∈keys c
  ·rw[if_pos hg];let#[F',hU']:=a1v nd R.P8 F hg hU cl;let#[a,b]:=ih' _ (v+1) F' hU';show#[λV e=>?_,λks e=>?_]
   ·let:=a V e
    grind
   ·let#[i,V,p,hi,QK]:=b ks e;show#[i+1,V,p,#[],mU,e3,#[]]
    ·rw[a4n,hc,if_pos hg];show e1
    ·grind
  ·rw[if_neg hg];show#[(λV e=>by cases e),λks e=>?_]
   cases e;let hh':decide (h∈keys c)=true:=Hb R.P8.Mu;let hg':decide (g∈keys c)=false:=GZ hg;show#[(0),U,λz=>decide qH,#[],1,by simpa using F,#[R.closed,hh',hg',1],?_];let:=F.cut R.closed hh' hg'
   simp_all [BW,nums,GP]
theorem O1 (L:List (T ν))(x:ν):Option (T ν):=L.find? λt=>decide rZ
theorem dq (L:List (T ν))(g:ν):Nat->ν->List (T ν)
 | 0,_=>[]
 | n+1,x=>if x=g then [] else match O1 L x with
  | none=>[]
  | some t=>t::e5D n t.2.2.1
def a5p {L:List (T ν)}{x:ν}{t:T ν}(h:O1 L x=!t):t∈L/\t.2.1=x:=#[HZ h,by simpa using J2 h]
def Loc (c6Z){U:Int->Bool}(c7i){h g:ν}{v:Int}(c71)(hv:0<v){N:Nat}(hN:∀ z,rk z<N):∀ (n:Nat)(x:ν)(ws:List (T ν)),e5C x->N<=n+rk x->Qm Ħ h (ws++dq Ħ g n x) g
 | 0,x,ws,W,hn=>absurd (hN x) #[]
 | n+1,x,ws,W,hn=>by
  rw[dq];by_cases hx:x=g
  ·cbv
  ·rw[if_neg hx]
   cases ho:O1 Ħ x with
   | none=>
    let#[t,ht,hU,e]:=F.Yr hr hv hx W;show absurd (Hb e) (IX.mp ho t<|HB.mpr #[ht,hU])
   | some t=>
    let#[ZL]:=a5p ho;subst h2;let:=hr t (HB.mp h1).1;let:=Loc hr F hv hN n t.2.2.1 rJ (.snoc W h1) #[]
    cbv
theorem gK (h g:ν)(N:Nat):Nat->List (T ν)->Θ
 | 0,_=>[]
 | m+1,L=>nums Co::e2W m (L.filter λt=>not (decide (t.1∈nums Co)))
def a7x (c6Z)(nd)(c7i){h g:ν}(hN:∀ z,rk z<N):∀ (m:Nat)(U:Int->Bool),e2P U h g (m:Int)->
  ∃ QW:List (List (T ν)),e2W m Ħ=QW.map nums/\QW.length=m/\(∀ ws∈QW,e5C g)/\(QW.map nums).flatten.Nodup
 | 0,U,F=>#[[],2,(λws hw=>nomatch hw),Ju]
 | m+1,U,F=>by
  let W:=Loc hr F #[0] hN N h [] (.nil h) #[0];rw[II]at W;ext1 gK;generalize dq Ħ g N h=ws at W;let up:=W.up (rk:=rk) λe6r=>hr t (HB.mp ht).1;let hn:=c2X nd (λe6r=>(HB.mp<|W.sub t ht).1) up.2.2;let F':=F.without nd W hn;rw[show ((m+1:Nat):Int) - 1=(m:Int) by omega]at F';let#[QW,e,hl,hw,Zj]:=a7x nd hr hN m _ F';let ef:(ts.filter λt=>U t.1).filter (λt=>not (decide (t.1∈nums ws)))=ts.filter λt=>e7b wo t.1:=by rw[Ld];ext d4g
  rw[ef,e];let b42:∀ vs∈QW,Qm Ħ h vs g/\∀ k∈nums vs,¬ k∈nums ws:=λvs hv=>by
   let V:=hw vs hv;let:∀ {x y:ν}{vs:List (T ν)},Qm (ts.filter λt=>e7b wo t.1) x vs y->Qm Ħ x vs y:=by
    intro x y vs V
    induction V with
    | nil=>show .nil _
    | snoc V ht ih=>
     show .snoc ih ?_
     grind
   show#[this V,λf06 z=>?_];let#[mQ]:=GX.mp hk;let#[a,b]:=HB.mp<|V.sub t ht;unfold Wy.without at b;rw[Hb z]at b;simp at b
  show#[ws::QW,1,by rw[HM,hl],λvs hv=>?_,?_]
  ·grind
  ·rw[Hu,Lk]
   grind
universe L2.Wy
namespace K72
open PySem L2 L2.Wy
open PyProof.Rows (boot_all boot_bool boot_dict boot_int boot_list boot_sorted boot_str boot_tuple)
abbrev cf (U:Ξ):D:=MP (U.map λk=>c1y)
def fV:(cX (U.map λk=>Ŭ) iB).isSome=NU U k:=by let:=lE (l:=U) (f:=λz=>z) (g:=λ_=>D.bl true) (y:=k);rwa [Jw]at this
theorem oD:Option Str->D
 | none=>.non
 | some x=>.str x
theorem bb (c7n):Option Ξ->List M'
 | none=>ts
 | some ks=>ts.filter λt=>not (decide (t.1∈ks))
theorem iX:Option (Int×Str)->D
 | none=>.non
 | some s=>.tup [.int s.1,.str s.2]
abbrev fF (c:Cm Str):D:=MP (c.map λq=>(.inr q.1,iX q.2))
def eY:(cX c2h (.inr y)).isSome=decide (y∈keys c):=O0
variable {c:Cl}
inductive a8y (c:Cl):Ä
 |mk {S:NS}{fo:Λ}:S.Ls.length<=1000->a8y c [aK c S,SW fo] (aV sP)
def b7b [Bx:Bd](Ly):Tk 2 "standing_ties" (top 75) c2i (d87 a8y):=by
 show Nh [] ?_ λd9W=>(qC (qI zj
  (qr<|e4z Ly hr.m)
  q0)
 (qr (e0v (d9t ["tie","fallen"]) BD
  Ĕ
  b11
  Ľ)))
 rintro _ _ @⟨S,fo,hl⟩
 cases fo with
 | none=>show .rt (e65 #[a4I,1])
 | some ks=>show .nx DA #[bh (λt=>not (decide _)) gi hl λt _=>b43,1]
inductive OQ:Ä
 |mk {t:M'}{x:Str}{U:Ξ}:OQ [bA t,.str x,cf U] (oD (Q7 t x xz))
def c4t [Bx:Bd]:Tk 1 "step_over" (top 77) b8A (Pr OQ):=by
 show Nh [] ?_ λd9W=>(qC (qI (e5z œ<|Đ 2)
  b2d
  q0)
 b2d)
 rintro _ _ @⟨t,x,U⟩;let r1:=e9w (ra:=e1N jH<|rC (.int 1)) (rb:=rV 1) wg rfl;let r2:=e9w (ra:=e1N jH<|rC (.int 2)) (rb:=rV 1) wg rfl;ext1 Q7
 cases hu:NU U t.1 with
 | true=>
  show .rt (.t b1y #[?_,1]);by_cases z:t.2.2.1=x
  ·rw[Hb z]at r2;ext d6L;show .t r2 wg
  ·rw[GZ z]at r2;ext d7V;show .f r2 rfl
 | false=>
  show .nx (.f b1y rfl) #[?_,1];by_cases z:t.2.1=x
  ·rw[Hb z]at r1;ext d6L;show .t r1 wg
  ·rw[GZ z]at r1;ext d7V;show .f r1 rfl
inductive b3H:Ä
 |mk {ts:List M'}{x:Str}{t:M'}:O1 ts x=!t->b3H [aV ts,.str x] (bA t)
def b32 [Bx:Bd]:Tk 1 "tie_out_of" (top 81) ["ties","name"] (Pr b3H):=by
 show Nh ["tie"] ?_ λd9W=>(qC (f0Z z6 (aN 2)
  (q1 (qI (e0G (ME hr (Đ 2) dI)<|Đ 1)
  sG
  q0)))
 FI)
 rintro _ _ @⟨ts,x,t,ht⟩;show ?_;show hX ts b23 (λt=>decide _) bA #[_,1] DZ (λt ε _ gR=>?_) (λu h=>by rw[Option.some.inj<|ht.symm.trans h]) λh=>nomatch ht.symm.trans h
 ext d3u;let r1:=eq_str (ε:=[some<|aV ts,some<|.str x,some<|bA t]) (ra:=e1N jd<|rC (.int 1)) (rb:=rV 1) wg rfl;ext d6o;by_cases z:t.2.1=x
 ·rw[Hb z]at r1 ⊢;show .t r1 #[2]
 ·rw[GZ z]at r1 ⊢;show#[_,.f r1 rfl,_,1]
inductive c0b:Ä
 |mk {ts:List M'}{c:Cm Str}:ts.length<=1000->c0b [aV ts,fF c] (rw (BW ts c))
def b2S [Bx:Bd]:Tk 1 "ties_between" (top 80) ["ties","came"] (Pr c0b):=by
 show Nh [] ?_ λd9W=>(qr (e8w (cS 4 [1] [pA,"came"]) uD
  ģ
  (λd94=>bW<|PW.pt (xG (e5z (Đ 1)<|Đ 4)<|fj (e5A (Đ 2)<|Đ 4)))
  Ľ))
 rintro _ _ @⟨ts,cm,hl⟩;show#[bh _ DZ hl λt _=>#[BZ,?_,λ_=>rfl],UW ĉ];change CU Ĉ (decide _&&not (decide _))
 cases z:decide (t.2.1∈keys cm) with
 | true=>show .t b24 #[2,e1O (by rw[eY];rfl)]
 | false=>show .f b24
open e
variable {c:Cl}
def ne_str (d0k):e61 (.bl (decide (x≠y))):=e62 (e4w rfl<|e2r (by rw[if_pos rfl,<- decide_not];show JC.mpr ⟨λh z=>h<|V.str.inj z,λh z=>h<|f1g z⟩))
def c2S {ws:List M'}(A:Qm ts x ws y)(B:Qm ts x ws z):y=z:=by
 cases A with
 | nil=>exact (by generalize hw:([])=ws at B;cases B with|nil=>rfl|snoc _ _=>show absurd hw.symm<|by simp)
 | snoc A1 h1=>
  generalize hw:_++[_]=ws at B
  cases B with
  | nil=>cbv
  | snoc B1 h2=>cbv
inductive QO:Ä
 |mk {L:List M'}{h g:Str}{N:Nat}:Qm L h Co g->(dq L g N h).length<=1000->QO [aV L,.str h,.str g] (rw (nums Co))
def b7g [Bx:Bd](OU:Mo 1 "tie_out_of" ["ties","name"] (Pr b3H)):Tk 2 "one_way" (top 82) b5t (Pr QO):=by
 show Nh ["way","name","tie"] ?_ λd9W=>(qC (qo 3 ND<|de LB)
 (qC (qs 4 ND<|Đ 1)
 (qC (qW Hq (e38 (Đ 4)<|Đ 2)
  (qC (qs 5 ND<|dF OU hr.m rfl (da (Đ 0)<|e2c LB))
 (qC (qA (aE<|d93 (pv 3) (a9 (ME hr (Đ 5) dI) K')) λe0c=>h)
 (d9r 4 c1q))))
 BK)))
 rintro _ _ @⟨L,h,g,N,W,hl⟩;show .nx oE Bj;show fH (b:=(N,[],h)) (λb ε=>Qm L h b.2.1 b.2.2/\b.2.1++e5D b.1 b.2.2=e5D N h/\∃ o,ε=[.fz<|aV L,.fz<|.str h,.fz<|.str g,.ow<|rw (nums b.2.1),.fz<|.str b.2.2,o]) (·.1) ⟨.nil h,rfl,_,rfl⟩ λe8L=>?_;let#[n,ws,x]:=gR;let#[A,e,o,he]:=Yf;subst he;let rd:=ne_str (ε:=[some<|aV L,some<|.str h,some<|.str g,some<|rw wo,some<|.str x,o.a]) (ra:=rV 4) (rb:=rV 2) rfl rfl;by_cases z:x=g
 ·rw[GZ λy=>y z]at rd;let e0:e5D n x=[]:=by cases n with
   | zero=>rfl
   | succ n=>ext1 dq;ext d6L
  rw[e0,HF]at e;show .inl #[rd,1,by rw[e]]
 ·rw[Hb z]at rd;let nn:e5D n x≠[]:=λy=>z (by rw[y,HF]at e;rw[<- e]at W;show c2S A W)
  cases n with
  | zero=>show absurd rfl nn
  | succ n=>
   cases ho:O1 L x with
   | none=>show absurd (by ext1 dq;rw[if_neg z,ho]) nn
   | some t=>
    rw[show dq L g (n+1) x=t::e5D n t.2.2.1 by conv=>lhs;unfold dq;rw[if_neg z,ho]]at e;let e2:rJ++e5D n t.2.2.1=e5D N h:=by rw[Ib];show e
    let tl:=d91 e2;rw[Ho,Ho,Ie]at tl;let tx:=HA<|J2 (p:=λt:M'=>decide rZ) ho;show .inr #[rd,(n,ws++[t],t.2.2.1),_,.nx #[#[3],#[ho]]<|.nx #[1,by ext1 nums;simp;lia,.z wg] wg,#[.snoc (tx▸A)<|HZ ho,e2,.fz<|bA t,?_],IK _];simp[nums,List.map,He]
def b61 (c9Q):sL (U.map λk=>Ŭ) iB=(U.filter λj=>not (decide (j=k))).map λk=>Ŭ:=by
 ext1 sL;rw[List.filter_map];congr 1;show JZ λj _=>by
  cbv
def c27 (c9Q):(V6 U k).length<=U.length+1:=by
 ext1 V6;split
 ·show Nat.le_succ_of_le wT
 ·simp
inductive QN (c:Cm Str):Nat->Option (Int×Str)->Prop
 |done {n:Nat}:QN c n none
 |step {n:Nat}{k:Int}{x:Str}{s:Option (Int×Str)}:c.find? (λq=>decide (q.1=x))=!(x,s)->QN c n s->QN c (n+1) !(k,x)
def AB {c:Cm Str}(h:c.find? (λq=>decide (q.1=x))=!(x,s)):cX c2h pP=!iX s:=by simp_all [gT]
inductive b8E:Ä
 |mk {U:Ξ}{c:Cm Str}{g:Str}{n:Nat}{s:Option (Int×Str)}:c.find? (λq=>decide (q.1=g))=!(g,s)->QN c n s->U.Nodup->U.length+n<=1000->b8E [cf U,fF c,.str g] (cf (gO c n U s))
def c1R [Bx:Bd](T:GH Bx.mg):Tk 1 "used_with" (top 79) b5u (Pr b8E):=by
 show Nh ["told","step"] ?_ λd9W=>(qC (qo 3 ND<|b0v rfl rfl T.Ox ş)
 (qC (qs 4 ND<|e3S (Đ 2))
 (qC (qW Hq b9l
  (qC (qI (e5z zt<|Đ 3)
  (q1<|a3C (aE<|a6z wI zt #[4]))
  (q1<|qP (bV (aU hr) (pv 3) (ME hr (Đ 4) dI) WT rfl) (λe0c=>h)))
 (d9r 4 (ME hr (Đ 1)<|ME hr (Đ 4) dI))))
 BK)))
 rintro _ _ @⟨U,cm,g,n,s,hg,ss,nd,hl⟩;let em:MP (ic []<|U.map λk=>Ŭ)=cf U:=by rw[a4F (by rw[II];show uw (f:=λk=>k)<|by rwa [Jw])];rfl
 let dk:=qX.mk (ð:=U.map λk=>Ŭ);rw[em]at dk;show .nx #[#[#[2],dk]] (.nx #[2,.k (AB hg) kS] ?_);show fH (β:=Nat×List Int×Option (Int×Str)) (b:=(n,U,s)) (λb ε=>QN cm b.1 b.2.2/\b.2.1.length+b.1<=1000/\gO cm b.1 b.2.1 b.2.2=gO cm n U s/\ε=[.fz<|cf U,.fz<|fF cm,.fz<|.str g,.ow<|cf b.2.1,.fz<|iX b.2.2]) (·.1) ⟨ss,hl,rfl,rfl⟩ λe8L=>?_;let#[n',V,s']:=gR;let#[ss,hl,e,he]:=Yf;dsimp only at ss hl e he;subst he
 cases ss with
 | done=>
  let:gO cm n' V none=V:=by cases n' <;> rfl
  show .inl #[DL,1,by rw[<- e,this]]
 | @step n1 k x s1 h1 s2=>
  let e1:cL cm x=s1:=by ext1 cL;rw[h1];rfl
  let e2:gO cm n1 (V6 V k) s1=gO cm n U s:=by rw[<- e,<- e1];rfl
  let tl:=c27 V k;show .inr #[DL,(n1,V6 V k,s1),_,.nx (ε1:=[.fz<|cf U,.fz<|fF cm,.fz<|.str g,.ow<|cf (V6 V k),.fz<|iX !(k,x)]) ?_ #[#[1,wg,.k (AB h1) kS]],#[s2,by change (V6 V k).length+n1<=1000;lia,e2,1],IK _];ext1 V6;by_cases z:k∈V
  ·ext d6L;let#[v,hv]:=Iv.mp (fV (U:=V) (k:=k) |>.trans (Hb z));let:=WU.mk (i:=3) (rk:=e1N Ey<|rC DX) (ε:=[.fz<|cf U,.fz<|fF cm,.fz<|.str g,.ow<|cf V,.fz<|iX !(k,x)]) rfl wg kI hv;rw[b61]at this;show .t #[wg,1,e4A (by rw[fV,NU,Hb z];rfl)] this
  ·ext d7V;let:=Y9.mk (i:=3) (rk:=e1N Ey<|rC DX) (re:=rC<|.bl true) (ε:=[.fz<|cf U,.fz<|fF cm,.fz<|.str g,.ow<|cf V,.fz<|iX (some (k,x))]) rfl (by rw[GP];lia) (.z rfl) ⟨rfl,rfl,.t rfl⟩ kI;rw[cw λy=>z<|by simpa using y]at this;rw[show cf (V++[k])=MP (V.map (λk=>Ŭ)++[c1y]) from congrArg MP He];show .f #[wg,1,e4A (by rw[fV,NU,GZ z];rfl)] this
open e
abbrev gU (nm:η)(c7n):D:=MP (nm.map λx=>(.inr x,aV ZP))
theorem wL (U)(x)(s:Cm Str×η)(t:M'):Cm Str×η:=match Q7 t x U with
 | some z=>if z∈keys s.1 then s else b3F
 | none=>s
def a9Y (U)(x):∀ (r:List M')(s:Cm Str×η),e1U r s=r.foldl (wL U x) s
 | [],_=>rfl
 | t::r,s=>by
  rw[Jm,<- a9Y U x r];ext1 wL;rw[look]
  cases Q7 t x U with
  | none=>rfl
  | some z=>
   by_cases c:z∈keys s.1
   ·simp only[if_pos c]
   ·simp only[if_neg c]
inductive Px:Ä
 |n {d e:D}:Px [.non,d,e] (fF [])
 |s {h:Str}{nm:η}{ts:List M'}{U:Ξ}{N:Nat}:Ends ts nm->h∈nm->nm.Nodup->nm.length<=N->nm.length<=900->Px [.str h,gU nm ts,cf U] (fF (fh ts xz N !h))
def b3O [Bx:Bd](c7R)(Pz:Mo 1 "step_over" b8A (Pr OQ)):Tk 2 "reached_from" (top 78) b5v (Pr Px):=by
 show Nh ["came","waiting","name","tie","nearby"] ?_ λd9W=>(qC (qI (dT c4s b0X (Đ 0) SA)
  (qr Zx.p)
  q0)
 (qC (qo 3 ND<|dD1 (Đ 0) SA)
 (qC (qo 4 ND<|de ş)
 (qC (qW Hq (e6e lI dI)
  (qC (a3B<|pS 5 ND (Rj Bx.K Hv PySem.F.slot_list_pop PySem.F.type_list_pop c4p d8<|a9 aG K'))
 (q1 (e0r (aD<|e3S (Đ 5)) lJ (aN 6)
  (qC (qs 7 ND<|dF Pz hr.m rfl (da (Đ 6)<|e1r Ŕ))
 (q1 (qI (PW.pt<|xG (e8v (Đ 7) SA) (fj<|e5A (Đ 7) (Đ 3)))
  (qC (qP (e3y wI (Đ 7) (kL<|da (ME hr (Đ 6) dI) (e1r LB)) rfl) λe0c=>h)
 (q1<|qA (aE<|e9j (a9 (Đ 7) K')) (λe0c=>h)))
  q0)))))))
 BK))))
 intro _ _ r
 cases r with
 | n=>show .rt (e65 #[2])
 | @s h nm ts U N E hh nd hN hz=>
  show .nx DA (.nx #[#[1,kS,2]] (.nx #[yY] ?_));show fH (β:=Nat×Cm Str×η) (b:=(N,VH,[h])) (λb ε=>(∃ d,Bf ts xz h b.2.1 d b.2.2/\nm.length<=b.1+d.length)/\bfs ts xz b.1 b.2=f0u N !h/\∃ o5 o6 o7,ε=[.fz<|.str h,.fz<|gU nm ts,.fz<|cf U,.ow<|fF b.2.1,.ow<|aY b.2.2,o5,o6,o7]) (·.1) ⟨⟨[],Bf.start ..,by simpa using hN⟩,rfl,_,_,_,rfl⟩ λe8L=>?_;let#[n,cm,wt]:=gR;let#[#[d,B,hn],eN,o5,xw]:=Yf;dsimp only at B hn eN he;subst he;let bl:=B.len E hh;let rd:=gt_int (ε:=[some<|.str h,some<|gU nm ts,some<|cf U,some<|fF cm,some<|aY wt,o5.a,o6.a,o7.a]) (ra:=rF OP<|rA Ey Uu) (rb:=rC<|.int 0) Dr rfl
  cases wt with
  | nil=>
   let:f0s xz n (cm,[])=cm:=by cases n <;> rfl
   show .inl #[rd,1,by rw[<- eN,this]]
  | cons x wt=>
   rw[Hb<|by simp]at rd;rw[HM]at bl;obtain⟨n,rfl⟩:∃ n',n=n'+1:=#[n - 1,#[]]
   let xn:x∈nm:=e7c hh x (by rw[B.ks];simp);let st:=B.step;let eN:f0s xz n (look xz x ZP (cm,wt))=f0u N !h:=eN;rw[a9Y]at st eN;show .inr #[rd,(n,(gI ts x).foldl (wL xz x) (cm,wt)),pV (ε1:=[.fz<|.str h,.fz<|gU nm ts,.fz<|cf U,.ow<|fF cm,.ow<|aY wt,.fz<|.str x,o6,o7]) ⟨rfl⟩ ?_];show a5n (u:=bA) (gI ts x) (λs ε=>(keys s.1).Nodup/\(∀ y∈keys s.1,y∈nm)/\s.2.length<=s.1.length/\∃ o6 o7,ε=[.fz<|.str h,.fz<|gU nm ts,.fz<|cf U,.ow<|fF s.1,.ow<|aY s.2,.fz<|.str x,o6,o7]) (wL (NU U) x) (b:=(cm,wt)) ⟨B.P8.nd,e7c hh,?_,_,_,rfl⟩ ⟨⟨rfl,rfl,.k (bY (wx (f:=λx=>x)<|by rwa [Jw])<|Hm xn) kS⟩,.l .lst⟩ (λs t ε ht gR=>?_) λε' gR=>by let#[BY,xw]:=gR;show#[#[#[d++[x],st,by simp;lia],eN,BY,he],IK _]
   ·let:=d91 B.ks;unfold keys at this;simp at this;change wt.length<=cm.length
    lia
   ·let#[Lf,xw]:=gR;subst he;let kl:=g6 h1 h2;let kl:s.1.length<=nm.length:=by unfold keys at kl;rwa [GP]at kl
    let tm:=(HB.mp ht).1;let so:=OQ.mk (t:=t) (x:=x) (U:=U);ext d6o;ext1 wL
    cases hs:e7a xz with
    | none=>
     rw[hs]at so;show#[_,.nx v3<|.f (.f DL) rfl,h1,h2,h3,.fz<|bA t,.fz .non,1]
    | some z=>
     rw[hs]at so;by_cases cz:z∈keys s.1
     ·simp only[if_pos cz];show#[_,.nx v3<|.f (e65 #[2,e1O (by rw[eY,Hb cz];rfl)]) rfl,h1,h2,h3,.fz<|bA t,.fz<|.str z,1]
     ·simp only[if_neg cz];let zn:z∈nm:=(zL hs).elim (λe=>e▸(E t tm).1) λe=>e▸(E t tm).2;show#[_,.nx v3<|.t (e65 #[2,e1O (by rw[eY,GZ cz];rfl)]) (.nx #[1,by rw[GP];lia,.z #[#[wg,2],Zb],1,kS] #[1,by rw[GP];lia,.z rfl]),?_,?_,?_,.fz<|bA t,.fz<|.str z,?_]
      ·rw[br];show HR.mpr #[h1,by simp[keys],λe9m e3b=>by rw[Hs.mp hb];show λ(e:a=z)=>cz<|e▸ha]
      ·rw[br];show λe3G=>(Hx.mp hy).elim (h2 y) λe=>by rw[Hs.mp e];show zn
      ·simpa using h3
      ·rw[cw λy=>cz (by rw[GV]at y;let#[q,a,b]:=GX.mp y;show GX.mpr #[q,a,Sum.inr.inj b]),show fF (s.1++[(z,!(t.1,x))])=MP (s.1.map (λq=>a9Z)++[(.inr z,iX<|some (t.1,x))]) from congrArg MP He,show aY (s.2++[z])=.lst (s.2.map .str++[.str z]) from congrArg D.lst He];rfl
structure a0j (c7n)(N:Nat):Prop where
 nd:uj ts
 rk:∃ rk:Str->Nat,(∀ t∈ts,rk t.2.1<rk t.2.2.1)/\∀ z,rk z<N
 MN:N<=1000
 many:ts.length<=1000
variable {c:Cl}
inductive c5n:Ä
 |mk {ts:List M'}{U:Int->Bool}{h g:Str}{m N:Nat}:a0j ts N->Wy.Flow ts U h g m->m<=1000->c5n [aV (ts.filter λt=>U t.1),.str h,.str g,.int m] (tb (gK h g N m Ħ))
def c1d [Bx:Bd](c7R)(Ro:Mo 2 "one_way" b5t (Pr QO)):Tk 3 "parted_ways" (top 83) b2I (Pr c5n):=by
 show Nh ["told","left","way"] ?_ λd9W=>(qC c2j
 (qC (qs 5 ND<|Đ 0)
 (qC (qW Hq (e39 lI<|Đ 3)
  (qC (qs 6 ND<|dF Ro hr.m rfl (da (Đ 5)<|e0f Ŕ))
 (qC (e3x (e2d (cS 1 [6] ["tie","way"]) zY
  Ĕ
  b11
  Ľ) rfl)
 (q1<|qA (aE<|e9j (a9 (Đ 6) K')) (λe0c=>h)))))
 (qr<|Đ 4))))
 rintro _ _ @⟨ts,U,h,g,m,N,PT,F0,hm⟩;let#[rk,hr1,hr2]:=PT.rk;show .nx oE Bj;show fH (b:=(m,U,[])) (λb ε=>Wy.Flow ts b.2.1 h g b.1/\b.2.2.length+b.1=m/\b.2.2++e2W b.1 (ts.filter λt=>b.2.1 t.1)=e2W m Ħ/\∃ o,ε=[.fz<|aV (ts.filter λt=>U t.1),.fz<|.str h,.fz<|.str g,.fz<|.int m,.ow<|tb b.2.2,.fz<|aV (ts.filter λt=>b.2.1 t.1),o]) (·.1) #[F0,by simp,gQ] λe8L=>?_;let#[n,Ui,dn]:=gR;let#[F2,hs,eP,o,he]:=Yf;subst he;let rd:=lt_int (ε:=[some<|aV (ts.filter λt=>U t.1),some<|.str h,some<|.str g,some<|.int m,some<|tb dn,some<|aV (ts.filter λt=>Ui t.1),o.a]) (ra:=rF OP<|rA Ey Uu) (rb:=rV 3) Dr rfl
 cases n with
 | zero=>
  rw[GZ<|by omega]at rd;show .inl #[rd,1,by rw[<- eP];change _=Fl.rt (tb dn);rw[show gK h g N 0 _=[] from rfl,HF]]
 | succ n=>
  rw[Hb<|by omega]at rd;let W:=Loc hr1 F2 #[0] hr2 N h [] (.nil h) #[0];rw[II]at W;let up:=W.up λe6r=>hr1 t (HB.mp ht).1;let hgN:=hr2 g;let MN:=PT.MN;let hz:(e3V h).length<=1000:=#[0]
  let F3:=F2.without PT.nd W<|c2X PT.nd (λe6r=>(HB.mp<|W.sub t ht).1) up.2.2;rw[show ((n+1:Nat):Int) - 1=(n:Int) by omega]at F3;let ef:(ts.filter λt=>Ui t.1).filter (λt=>not (decide (t.1∈nums Ż)))=ts.filter λt=>Wy.without Ui (nums<|e3V h) t.1:=by rw[Ld];ext d4g
  let eP:dn++nums Ż::e2W n ((ts.filter λt=>Ui t.1).filter λt=>not (decide (t.1∈nums Ż)))=e2W m Ħ:=eP;let c1:=QO.mk W hz;generalize nums Ż=ks at c1 F3 eP ef;rw[ef]at eP;show .inr #[rd,(n,Wy.without Ui ks,dn++[ks]),_,.nx FV<|.nx ⟨bh (λt=>not (decide (t.1∈ks))) DZ (HE wT PT.many) λt _=>b43⟩ #[1,by rw[GP];omega,.z rfl],#[F3,by simp;omega,by rw[Ib];show eP,.fz<|rw ks,?_],IK _];dsimp only;rw[ef,show tb (dn++[ks])=.lst (dn.map rw++[rw ks]) from congrArg D.lst He];rfl
def QN.mono (h:QN cm n s):∀ {m:Nat},n<=m->QN cm m s:=by
 induction h with
 | done=>show λ_=>.done
 | step h1 _ ih=>show λ{m} hm=>by obtain⟨k,rfl⟩:∃ k,m=k+1:=#[m - 1,#[0]];show .step h1 (ih<|by omega)
def f1L (C:f0t cm):∀ post:Cm Str,(keys (cm++post)).Nodup->∀ y∈keys cm,∃ s,(cm++post).find? jJ=!(y,s)/\QN (cm++post) cm.length s:=by
 induction C with
 | one=>show λpost nd e3G=>by rw[Hs.mp hy];show#[none,(l9 nd rfl (pre:=[])).1,.done]
 | @snoc cs x y t C hx ht hs hy ih=>
  intro post nd z hz;rw[Ib]at nd ⊢;let ih:=ih _ nd;rw[br]at hz;rw[Ho];ext d8h
  ·let#[s,ZL]:=ih z hz;show#[s,h1,h2.mono<|e8x _]
  ·rw[Hs.mp hz];let#[s,ZL]:=ih x hx;show#[!_,(l9 nd rfl).1,.step h1 h2]
def b28 (c:Cm Str):∀ (n:Nat)(U:Ξ)(s:Option (Int×Str)),(e7d U s).length<=U.length+n
 | 0,U,_=>Hi _
 | n+1,U,none=>e8x _
 | n+1,U,some s=>by
  let h1:=b28 c n (V6 U s.1)<|cL c s.2;let h2:=c27 U s.1;rw[gO]
  lia
structure WG (S:NS)(fo:Λ)(N:Nat):Prop where
 parts:a0j sP N
 ends:Ends sP S.names
 nn:S.names.Nodup
 hN:S.names.length<=N
 tl:S.Ls.length<=1000
 pl:S.names.length<=900
theorem lU:Sum Ξ Θ->D
 | .inl ks=>.tup [.str "cut",rw ks]
 | .inr QW=>.tup [.str "ways",tb QW]
theorem bx (c7n)(ho:Option Str)(g:Str)(N m:Nat):Sum Ξ Θ:=match ho with
 | none=>.inl []
 | some h=>match ff ts (!h) g N m [] with
  | .inl ks=>.inl ks
  | .inr U=>.inr (e2W m (ts.filter λt=>NU U t.1))
inductive b1h:Ä
 |mk {nm:η}{ts:List M'}:nm.Nodup->nm.length<=900->ts.length<=1000->Ends ts nm->(∀ t∈ts,t.2.1≠t.2.2.1)->b1h [aY nm,aV ts] (gU nm ts)
inductive RD (c:Cl):Ä
 |mk {S:NS}{g:Str}{m N:Nat}{fo:Λ}:WG S fo N->g∈S.LW->1<=m->m<=1000->m * N+N<=1000->RD c [aK c S,.str g,.int m,SW fo] (lU (bx sP ĩ g N m))
open e
structure qL (mg:Ω):Prop where
 Mb:mg "range"=none
variable {c:Cl}{f:Addr}{fd:È}
def b94 (c7n):BW ts []=[]:=by ext1 BW sO nums;rw[JM.mpr λt _=>by ext1 BX;simp[keys]];rfl
def a7q [Bx:Bd](F:MO Bx.K "ways" "ways" (top 84) f fd)(c7R)(TR:Bx.mg "range"=none)(Lu)(MF)(PJ:MG 1 c.Mg "names" Þ (d87 c20))
  (NL:Mo 2 "standing_ties" c2i (d87 a8y)) (Oa:Mo 1 "ties_by_post" At (Pr b1h)) (Od:Mo 2 "reached_from" b5v (Pr Px))
  (Py:Mo 1 "used_with" b5u (Pr b8E)) (Ob:Mo 1 "ties_between" ["ties","came"] (Pr c0b)) (Oz:Mo 3 "parted_ways" b2I (Pr c5n)):QH N5 4 f fd ó (d87 RD):=by
 let T:qL Bx.mg:=#[TR]
 show MO.dw F ["home","ties","touching","used","turn","came"] ?_ λe6F=>(qC (qI (e5A (Đ 1)<|e4z Lu hr.m)
  D8
  q0)
 (qC (d82 4 MF)
 (qC (qs 5 ND<|dF NL hr.m rfl b5V)
 (qC (qs 6 ND<|dF Oa hr.m rfl (da (e4z PJ hr.m)<|e1r LB))
 (qC (qs 7 ND Zx.p)
 (qC (e0V Cq Ak (aN 8)
  (qC (qs 9 ND<|dF Od hr.m rfl (da (Đ 4)<|e4y nK))
 (qC (qI (e5A (Đ 1)<|Đ 9)
  (qr<|kL (da iV<|da (dF Ob hr.m rfl<|e1r (e69 LB)) LB))
  q0)
 (d9r 7 (dF Py hr.m rfl<|da (Đ 7) (da (Đ 9)<|e0f LB))))))
 (qr (kL (da iV (da (dF Oz hr.m rfl (da (e0v (cS 1 [7] ["tie","used"]) zY
  Ĕ
  (λd94=>bW<|e5z œ (Đ 1))
  Ľ)<|e2c b5U)) LB))))))))))
 rintro _ _ @⟨S,g,m,N,fo,O,hg,Vk,hm,hz⟩;let pl:S.Lv.length<=900:=by let:=O.pl;unfold NS.names at this;rwa [GP]at this
 let UJ:=O.parts.many;let#[rk,hr1,hr2]:=O.parts.rk;let inl:=e68 (i:=g) (ks:=S.LW);rw[Hb hg]at inl;let En:=O.ends;let Pt:=O.parts;show#[1,.inl<|.nx (.f #[1,b8v,inl] rfl) (.nx b8s<|.nx ⟨⟨rfl,rfl,rfl⟩,⟨O.tl⟩⟩ (.nx ⟨⟨⟨rfl,rfl,by decide,⟨⟩⟩,rfl,rfl⟩,⟨O.nn,O.pl,UJ,En,λe6r z=>by let:=hr1 t ht;rw[z]at this;lia⟩⟩ Bj))];generalize bb S.Ls fo=ts at UJ hr1 En Pt;ext1 bx
 cases hh:S.Mu with
 | none=>
  show b6y ve (u:=λ(j:Nat)=>.int (j:Int)) (λi ε=>i=0/\∃ o8 o9,ε=[.fz<|aK c S,.fz<|.str g,.fz<|.int m,.fz<|SW fo,.fz .non,.fz<|aV ts,.fz<|gU S.names ts,.fz<|cf [],o8,o9]) ⟨rfl,_,_,rfl⟩ ⟨m,hm,⟨rfl,rfl⟩,(bK _).symm⟩ (λe2x=>?_) λe3c=>by let#[h,_]:=gR;rw[HL]at h;lia
  let#[hi,Ds]:=gR;subst he;show#[_,1,.inl #[_,.nx #[#[4],.n]<|.rt (.t #[2,e1O rfl] b1l),?_]];rw[b94];rfl
 | some q=>
  let hq:q.1∈S.names:=Hm<|HZ hh;show b6y (List.range m) (u:=λ(j:Nat)=>.int (j:Int)) (λi ε=>∃ Ui o8 o9,ε=[.fz<|aK c S,.fz<|.str g,.fz<|.int m,.fz<|SW fo,.fz<|.str q.1,.fz<|aV ts,.fz<|gU S.names ts,.fz<|cf Ui,o8,o9]/\Ui.Nodup/\Ui.length<=i * N/\Wy.Flow ts (NU Ui) q.1 g i/\ff ts (some q.1) g N m []=ff ts (some q.1) g N (m - i) Ui) ⟨[],_,_,rfl,Ju,HP _,Flow.none ts q.1 g,rfl⟩ ⟨m,hm,⟨rfl,rfl⟩,(bK _).symm⟩ (λe2x=>?_) λe3c=>?_
  ·ext d59;let#[1,hi]:=jT hx;rw[show m - i=m - (i+1)+1 by lia,a4n]at eW;let R:=b4t (ts:=ts) (U:=NU Ui) En hq O.hN;let c1:=Px.s (U:=Ui) En hq O.nn O.hN O.pl;generalize fh ts (NU Ui) N (!q.1)=cc at eW R c1;let ccl:cc.length<=N:=by
    let:=g6 R.P8.nd<|R.P8.names En hq;let e:(keys cc).length=cc.length:=GP _;let:=O.hN
    lia
   let i1:i * N+N<=m * N:=by rw[<- K7];show KO _ hi
   ext d6o;by_cases hgc:g∈keys cc
   ·rw[if_pos hgc]at eW;let#[F',nd']:=a1v Pt.nd R.P8 Fi hgc nd ccl;let#[s,ZL]:=f1L R.P8 [] (by rw[HF];show R.P8.nd) g hgc;rw[HF]at h1 h2;let es:cL cc g=s:=by ext1 cL;rw[h1];rfl
    let ul':=b28 cc N Ui s;rw[es]at F' nd' eW;show .inr #[_,.nx FV<|.nx (.f #[2,e1O (by rw[eY,Hb hgc];rfl)] rfl) #[#[4],#[h1,h2.mono ccl,nd,#[]]],gO cc N Ui s,.fz<|.int i,.fz<|fF cc,1,nd',by rw[K7];lia,by rw[show ((i+1:Nat):Int)=(i:Int)+1 by lia];show F',eW]
   ·rw[if_neg hgc]at eW;show .inl #[_,.nx FV<|.rt (.t #[2,e1O (by rw[eY,GZ hgc];rfl)] b1l),by change Fl.rt a4J=_;rw[eW];rfl]
  ·ext d59;rw[HL,Nat.sub_self]at eW;rw[HL]at Fi;let eW:ff ts (!q.1) g N m []=.inr Ui:=eW;show#[#[#[1,#[#[bh (xs:=ts) (u:=bA) (h:=bA) (λt=>NU Ui t.1) DZ UJ λt _=>#[_,1,#[wg,1,e4A (by rw[fV];rfl)],λ_=>rfl],4],#[Pt,Fi,hm]],1],Zb],?_];change Fl.rt a4J=_;rw[eW];rfl
open e
universe K72
namespace Mk
open Mx
def uK (hP)(h:p ∣ a * b):p ∣ a\/p ∣ b:=by
 ext d23;by_cases c:p ∣ a
 ·show .inl c
 ·let h0:0<a % p:=by
   let:=Ij a (b:=p) #[];let n:=λz=>c (IE z)
   lia
  let#[k,hk]:=My.TB hP _ h0<|HV _ #[];let#[j,hj]:=h;show .inr #[My.bk p (a % p) * j - My.bk p (a % p) * (a / p) * b - k * b,?_];let e:=Je a p;generalize My.bk p _=z at *
  generalize a % p=r at *
  generalize a / p=q at *
  grind
def a93 {q:α->Bool}:∀ {l:List α},l.Nodup->(∀ x∈l,∀ y∈l,q x=true->q y=true->x=y)->l.length<=(l.filter λx=>not (q x)).length+1
 | [],_,_=>by simp
 | a::l,nd,h=>by
  rw[HS]at nd
  cases c:q a with
  | false=>
   rw[Il,c];let:=a93 nd.2 λe0Z e3G=>h x (by simp[hx]) y wB
   cbv
  | true=>
   let:l.filter (λx=>not (q x))=l:=List.filter_eq_self.mpr λe0Z=>by
    cases c2:q x with
    | false=>rfl
    | true=>show absurd (h a ė x (by simp[hx]) c c2▸hx) nd.1
   rw[Il,c,this];simp
theorem NK (p)(k:Int)(vs ss:Ξ):Bool:=(List.zipWith (λv s=>(k * v+s) % p) vs ss).any λx=>decide (x=0)
def c3v (hP):∀ (vs ss:Ξ)(X:À),X.Nodup->(∀ x∈X,(x:Int)<p)->vs.length<X.length->(∀ v∈vs,¬ p ∣ v)->∃ k∈X,f0v ss=false
 | [],_,x::X,_,_,_,_=>b6z
 | [],_,[],_,_,h,_=>by simp at h
 | _::_,[],x::X,_,_,_,_=>b6z
 | _::_,[],[],_,_,h,_=>by simp at h
 | v::vs,s::ss,X,nd,lt,h,nz=>by
  let one:X.length<=(X.filter λ(x:Nat)=>not (decide b7e)).length+1:=a93 nd λe0Z e3G e12=>by
   let h1:=IE<|HA h1;let h2:=IE<|HA h2;let h3:p ∣ ((x:Int) - y) * v:=by
    let:=Jz h1 h2;let e:(x:Int) * v+s - (y * v+s)=(x - y) * v:=by rw[Int.sub_mul];omega
    rwa [e]at this
   rcases uK hP h3 with h3|h3
   ·let a1:=lt x hx;let a2:=lt y hy;let#[j,hj]:=h3;let hj0:j=0:=by
     rcases Int.lt_trichotomy j 0 with z|z|z
     ·let:p * j<=p * (-1):=JI #[0] #[0];omega
     ·show z
     ·let:p * 1<=p * j:=JI #[0] #[0];omega
    subst hj0;omega
   ·show absurd h3 (nz v<|by simp)
  let#[k,hk,hb]:=c3v hP vs ss (X.filter λ(x:Nat)=>not (decide b7e)) (nd.sublist Jp) (λe0Z=>lt x (HB.mp hx).1) (by simp only[HM]at h;omega) λu hu=>nz u (by simp[hu]);let#[hk1,hk2]:=HB.mp hk;show#[k,hk1,?_];unfold NK at hb ⊢;rw[List.zipWith_cons_cons,KL,hb];simpa using hk2
theorem ub (p)(vs ss:Ξ):Nat:=((List.range p.toNat).find? λ(k:Nat)=>not (f0v ss)).getD 0
def WL (hP)(hl:(vs.length:Int)<p)(nz:∀ v∈vs,¬ p ∣ v):NK p (ub p vs ss) vs ss=false/\(∀ j:Nat,j<ub p vs ss->NK p j vs ss=true)/\((ub p vs ss:Nat):Int)<p:=by
 let#[k,hk,hb]:=c3v hP vs ss (List.range p.toNat) List.nodup_range (λe0Z=>by grind) ě nz
 cases hf:(List.range p.toNat).find? λ(k:Nat)=>not (f0v ss) with
 | none=>
  cbv
 | some u=>
  let e:ub p vs ss=u:=by ext1 ub;rw[hf];rfl
  cbv
theorem n8 (a b:Int)(x q:Ξ):Ξ:=List.zipWith (λu v=>a * u - b * v) x q
def c1K (a b:Int):∀ (x q y:Ξ),x.length=q.length->dot FJ y=a * dot x y - b * dot q y
 | [],[],y,_=>by simp[n8,dot]
 | [],_::_,y,h=>by simp at h
 | _::_,[],y,h=>by simp at h
 | u::x,v::q,[],_=>by simp[n8,dot]
 | u::x,v::q,w::y,h=>by
  let ih:=c1K a b x q y Ŷ;change IO * w+dot FJ y=a * (u * w+dot x y) - b * (v * w+dot q y)
  rw[ih]
  grind
def a9J (h:x.length=q.length):(n8 a b x q).length=x.length:=by
 ext1 n8
 cbv
structure Ok (p:Int)(m:Nat)(P:Θ)(F:Nat->Ξ):Prop where
 len:P.length=m
 Q5:∀ r∈P,r.length=m/\NH p r
 fw:∀ j,j<m->(F j).length=m
 off:∀ i j,i<m->j<m->i≠j->p ∣ dot Ŗ (F j)
 own:∀ i,i<m->¬ p ∣ dot Ŗ (F i)
 sep:∀ x:Ξ,x.length=m->(∀ j,j<m->p ∣ dot x (F j))->∀ y:Ξ,y.length=m->p ∣ dot x y
def Ok.start {p:Int}(d1U)(m):Ok p m (ones m) (Lw m) where
 len:=by simp[ones]
 Q5:=λe45=>by let#[i,_,1]:=GX.mp hr;show#[LR ĉ,fu hp ĉ]
 fw:=λj _=>LR ĉ
 off:=λe4g h=>by
  ext d4w
  grind [MS,LR,a7f,Int.dvd_zero]
 own:=λi hi=>by
  ext d4w
  rw[e1,MS Ĉ<|LR _ _];let:=a7f m i i;unfold e at this;intro h;let:=Lq #[0] h;omega
 sep:=λe0Z h e3G=>by
  rw[b57 ĉ<|by omega];let:∀ n,n<=x.length->p ∣ fg (λj=>e x j * e y j) n:=by
   intro n
   induction n with
   | zero=>intro _;show Int.dvd_zero _
   | succ n ih=>
    intro hn;let h1:=h n #[0];rw[N4,MS Ĉ hx]at h1;show Jq (ih<|by omega) (Ko h1)
  show this _ BU
theorem ON (d14)(i):Ξ:=
 if i=w\/LV p Ŗ t=0 then P.getD i [] else List.zipWith (λa b=>(LV p ŗ t * a - LV p Ŗ t * b) % p) Ŗ ŗ
theorem moved (d14):Θ:=(List.range P.length).map (ON p P w t)
def b8L (p a b:Int):∀ (x q y:Ξ),p ∣ dot (List.zipWith (λu v=>IO % p) x q) y - dot FJ y
 | [],_,y=>by simp[n8,dot]
 | _::_,[],y=>by simp[n8,dot]
 | u::x,v::q,[]=>by simp[n8,dot]
 | u::x,v::q,w::y=>by
  let#[k,hk]:=b8L p a b x q y;show#[k - IO / p * w,?_];change IO % p * w+dot _ y - (IO * w+dot FJ y)=_;let e:=Je IO p;generalize IO % p=r at *
  generalize IO / p=d at *
  rw[<- e]
  grind
def Ok.at (d0v)(hi:i<m):(P.getD i []).length=m/\NH p Ŗ:=h.Q5 _ (getD_mem (by rw[h.len];show hi))
def a5o (hP)(d0v)(hw:w<m)(d15)(hi:i<m):
  ∃ a b:Int,¬ p ∣ a/\(i=w->b=0)/\(∀ y,p ∣ dot (ON p P w t i) y - (a * dot Ŗ y - b * dot ŗ y))/\(i≠w->p ∣ a * dot Ŗ t - b * dot ŗ t):=by
 ext d23;let n1:¬ p ∣ (1):=λz=>by let:=Lq #[0] z;omega
 ext d5W
 ·ext d4H;show#[(1),(0),n1,λ_=>rfl,λy=>by simp,λz=>?_];rcases c with c|c
  ·show absurd c z
  ·rw[Mn]at c;simpa using IE c
 ·ext d3D;show#[LV p ŗ t,LV p Ŗ t,λz=>?_,λz=>absurd (.inl z) c,λy=>?_,λ_=>?_]
  ·rw[Mn]at z;let:=Jq z<|e7Y (dot ŗ t / p);rw[Je]at this;show ht this
  ·let:=b8L p (LV p ŗ t) (LV p Ŗ t) Ŗ ŗ y;rwa [e84 _<|by rw[(h.at hi).1,(h.at hw).1]]at this
  ·rw[Mn,Mn];generalize dot _ t=u;generalize dot _ t=v;let e1:=Je u p;let e2:=Je v p;show#[u % p * (v / p) - v % p * (u / p),?_];generalize u % p=a at *
   generalize v % p=b at *
   generalize u / p=c at *
   generalize v / p=d at *
   grind
def b5F (hi:i<P.length):(e7Z P w t).getD i []=ON p P w t i:=by simp[moved,hi]
def Ok.move {p:Int}{m:Nat}{P:Θ}{F:Nat->Ξ}(hP)(d0v){w:Nat}(hw:w<m){t:Ξ}(hl:t.length=m)(d15):
  Ok p m (e7Z P w t) (λj=>if j=w then t else F j) where
 len:=by simp[moved,h.len]
 Q5:=λe45=>by
  ext d23;let#[ET]:=GX.mp hr;let hi:i<m:=by rw[<- h.len];show Ig.mp hi
  ext d5W
  ·ext d4H;show h.at hi
  ·ext d3D;show#[by rw[List.length_zipWith,(h.at hi).1,(h.at hw).1,Nat.min_self],λe0Z=>?_];let#[k,hk,1]:=HX.mp hx;rw[KS];show#[Ij _<|by omega,HV _<|by omega]
 fw:=λe8G=>by
  ext d7F
  ·rw[if_pos c,hl]
  ·rw[if_neg c,h.fw j hj]
 off:=λe4g n=>by
  ext d3w;ext d7F
  ·ext d4H;let h1:=hd t;let h2:=hz λz=>n<|z.trans c.symm;let:=Jq h1 h2;ext d3T
  ·ext d3D;let h1:=hd<|F j;let h2:=Iw (b:=a)<|h.off i j hi hj n;let h3:=Iw (b:=b)<|f0w qB;let:=Jq h1<|Jz h2 h3;ext d3T
 own:=λi hi=>by
  ext d3w;intro z;by_cases c:i=w
  ·rw[if_pos c]at z;let h1:=hd t;rw[hb c,Int.zero_mul,Int.sub_zero]at h1;let h2:=Jz z h1;rw[Int.sub_sub_self]at h2;rcases uK hP h2 with q|q
   ·show na q
   ·rw[c]at q;show ht q
  ·rw[if_neg c]at z;let h1:=hd<|F i;let h3:=Iw (b:=b)<|h.off w i hw hi qB;let h2:=Jq (Jz z h1) h3;rw[Int.sub_sub_self,Int.sub_add_cancel]at h2;rcases uK hP h2 with q|q
   ·show na q
   ·show h.own i hi q
 sep:=λe0Z hk e3G=>by
  let lw:=(h.at hw).1;let h1:=h.sep (n8 (dot ŗ<|F w) (dot x<|F w) x<|P.getD w []) (by rw[a9J<|by omega,hx]) λe8G=>by
   rw[e84 _<|by omega];ext d7F
   ·subst c;rw[Int.mul_comm,Int.sub_self];show Int.dvd_zero _
   ·let h2:=hk j hj;rw[if_neg c]at h2;show Jz (Iw h2) (Iw<|f0w qB)
  let h2:=h1 t hl;rw[e84 _<|by omega]at h2;let h3:=hk w hw;rw[if_pos rfl]at h3;let h4:p ∣ dot x (F w) * dot ŗ t:=by let:=Jz (Iw (b:=dot ŗ<|F w) h3) h2;rwa [Int.sub_sub_self]at this
  show h.sep x hx (λe8G=>?_) y hy;ext d7F
  ·rw[c];rcases uK hP h4 with q|q
   ·show q
   ·show absurd q ht
  ·let:=hk j hj;rwa [if_neg c]at this
abbrev Ask:=Nat×Nat×Int
theorem X5 (p)(c65)(d08)(h o:Int):List Int×Ξ:=
 (e6w T.1,e9x T.2 (A.map λb=>s b h))
theorem QB (p)(c65)(d08)(n):List Int×Ξ:=
 if T.2.getD n 0≠0 then T else X5 p mixed A s T (e8y (0,0,0)).2.2 (e85 (A.map λb=>s b (e8y (0,0,0)).2.2))
theorem R1 (p)(c65):Nat->List Int×Ξ
 | 0=>(e4D 0,e6f 0)
 | n+1=>e8z n
abbrev Vf (p:Int)(c65):Ξ:=(R1 p mixed A s A.length).1
structure Ul (p:Int)(c65):Prop where
 prime:My.O5 p=true
 MN:(A.length:Int)<=p
 nd:mixed.Nodup
 ahead:∀ a∈A,a.2.2∈mixed
 own:∀ a∈A,¬ p ∣ s a a.2.2
structure a95 (p:Int)(c65)(n:Nat)(d08):Prop where
 l1:T.1.length=mixed.length
 l2:T.2.length=A.length
 f1:NH p T.1
 f2:NH p T.2
 val:∀ (i:Nat) a,A[i]?=!a->p ∣ T.2.getD i 0 - dot T.1 c1A
 nz:∀ i,i<n->T.2.getD i 0≠0
def a73 (c8U)(f:α->β->Int)(x:List α)(y:List β):NH p (List.zipWith (λa b=>f a b % p) x y):=λe8a=>by let#[k,hk,1]:=HX.mp hz;rw[KS];show#[Ij _<|by lia,HV _ hp]
def b6h {p a:Int}:p ∣ a % p - a:=#[-(a / p),by let:=Je a p;rw[Int.mul_neg];lia]
def c5I (p o h:Int)(f:Int->Int):∀ (mixed told:Ξ),told.length=mixed.length->mixed.Nodup->p ∣ dot (e6w told) zK - (o * dot told zK+if h∈mixed then f h else 0):=by
 intro mixed
 induction mixed with
 | nil=>
  intro told e _
  cases told with
  | nil=>simp[dot]
  | cons _ _=>simp at e
 | cons k mixed ih=>
  intro told e nd
  cases told with
  | nil=>simp at e
  | cons a told=>
   rw[HS]at nd;let#[j,hj]:=ih told AF nd.2;let#[i,hi]:=@b6h p zM;show#[j+i * f k,?_];change zM % p * f k+dot _ zK - (o * (a * f k+dot told zK)+if h∈k::mixed then f h else 0)=_;let e1:(if h∈k::mixed then f h else 0)=(if k=h then 1 else 0) * f k+if h∈mixed then f h else 0:=by
    by_cases c:k=h
    ·cbv
    ·simp[c,Ne.symm c]
   grind
def QG (d1S)(i):0<=r.getD i 0/\r.getD i 0<p:=NH.at hp h i
def Ve (h:Ul p mixed A s):∀ n,n<=A.length->a95 p mixed A s n b2J
 | 0,_=>by
  ext d32;show#[by simp[R1],by simp[R1],λe0Z=>?_,λe0Z=>?_,λi e9m=>?_,λi hi=>absurd hi<|Kl _]
  ·let:=Jg hx;omega
  ·let:=Jg hx;omega
  ·let z:∀ (n:Nat)(y:Ξ),dot xU y=0:=λn=>by
    induction n with
    | zero=>intro y;rfl
    | succ n ih=>
     intro y
     cases y with
     | nil=>rfl
     | cons b y=>change 0 * b+dot xU y=0;rw[ih];omega
   change p ∣ (e6f (0:Int)).getD i 0 - dot (e4D 0) _;rw[z,GU,List.getElem?_replicate_of_lt (GS.mp ha).1];simp
 | n+1,hn=>by
  ext d32;let p0:0<p:=#[0]
  let I:=Ve h n #[0];change a95 p mixed A s (n+1) (e8z n);generalize R1 p mixed A s n=T at I;ext1 QB;by_cases c:T.2.getD n 0≠0
  ·ext d4H;show { I with nz:=λi hi=>?_ };by_cases e:i=n
   ·rw[e];show c
   ·show I.nz i #[0]
  ·ext d3D;let c:T.2.getD n 0=0:=Classical.not_not.mp c;let ea:A[n]?=some A[n]:=GR #[0];let eg:e8y (0,0,0)=A[n]:=by rw[GU,ea];rfl
   let am:A[n]∈A:=Ii _;rw[eg];generalize ha:A[n]=a at *
   let sl:(A.map λb=>s b a.2.2).length=A.length:=by simp
   let#[u1,_,_]:=WL h.prime (vs:=T.2.take n) (ss:=A.map λb=>s b a.2.2) (by rw[Hl];let:=h.MN;omega) λv hv=>by let#[ET]:=HX.mp hv;rw[Jx];rw[Hl]at hi;let:=I.nz i #[0];let f:=QG p0 I.f2 i;rw[GU,GR<|by omega]at this f;intro z;let:=Lq (by let h1:T.2[i]≠0:=this;let h3:0<=T.2[i]/\T.2[i]<p:=f;omega) z;let h3:0<=T.2[i]/\T.2[i]<p:=f;omega
   generalize (e85 (A.map λb=>s b a.2.2):Int)=o at *
   let vat:∀ i b,A[i]?=!b->(e9x T.2<|A.map λb=>s b a.2.2).getD i 0=mS % p:=λi e3b=>by let hi:=(GS.mp hb).1;rw[GU,JW,Hf,hb,GU,GR (by rw[I.l2];show hi)];rfl
   ext1 X5;show#[by simp[I.l1],by simp[I.l2],a73 p0 Ĉ,a73 p0 Ĉ,λi e3b=>?_,λi hi=>?_] <;> dsimp only
   ·rw[vat i b hb];let#[x,hx]:=I.val i b hb;let#[y,hy]:=c5I p o a.2.2 (s b) mixed T.1 I.l1 h.nd;rw[if_pos<|h.ahead a am]at hy;let#[z,hz]:=@b6h p mS;show#[z+o * x - y,?_];generalize mS % p=q at *
    generalize dot (List.zipWith _ mixed T.1) c2l=w at *
    generalize dot T.1 c2l=d at *
    let e1:T.2.getD i 0=d+p * x:=#[0]
    rw[e1]at hz;let e2:q=o * (d+p * x)+s b a.2.2+p * z:=#[0]
    let e3:w=o * d+s b a.2.2+p * y:=#[0]
    rw[e2,e3]
    grind
   ·by_cases e:i=n
    ·subst e;rw[vat i a<|by rw[ea],c];intro z;let:=IE z;rw[Int.mul_zero,Ka]at this;show h.own a am this
    ·let U9:i<A.length:=#[0]
     rw[vat i A[i]<|GR U9];intro z;let:NK p o (T.2.take n) (A.map λb=>s b a.2.2)=true:=by ext1 NK;rw[List.any_eq_true];show#[(0),JV.mpr #[i,?_],by simp];rw[JW,ID<|by omega,Hf,GR U9,GR (by rw[I.l2];show U9)];rw[GU,GR (by rw[I.l2];show U9)]at z;show congrArg some z
     rw[this]at u1
     cases u1
def VN (h:Ul p mixed A s):(Vf p mixed A s).length=mixed.length/\NH p c2m/\∀ a∈A,¬ p ∣ dot c2m c1A:=by
 ext d32;let I:=Ve h A.length<|Hi _;show⟨I.l1,I.f1,λe9m z=>?_⟩;let#[i,hi,e]:=HX.mp ha;let h1:=Jq (I.val i a<|by cbv) z;let f:=QG #[] I.f2 i;let:=I.nz i hi;let:=Lq #[] h1
 lia
abbrev MZ:=Int×Λ
abbrev Mt:=Nat×Θ
theorem st (w:Nat):Int:=-1 - (w:Int)
theorem PZ (e w:Nat)(way):List (Int×Ask):=(way.zip (st w::way)).map λq=>(q.1,e,w,q.2)
theorem Ol (d09):List (Int×Ask):=ways.zipIdx.flatMap λx=>PZ e x.2 x.1
theorem O9 (ê):List (Int×Ask):=ê.zipIdx.flatMap λx=>Ol x.2 x.1.2
theorem pick (c84)(k:Int):List Ask:=(L.filter λx=>decide Pl).map (·.2)
abbrev Mi (ê:List Mt)(k:Int):List Ask:=pick (O9 ê) k
def fM:∀ (way:Ξ)(s:Int),(k,a)∈way.zip (s::way) ↔ ∃ l r,way=l++k::r/\a=l.getLast?.getD s:=by
 intro r'
 induction r' with
 | nil=>
  intro s;simp
 | cons b way ih'=>
  intro s;rw[Lb,Hr,ih' b];ext d5B
  ·rintro (h|⟨l,r,rfl,rfl⟩)
   ·cases h;show#[[],way,2]
   ·show#[b::l,r,1,by rw[List.getLast?_cons];rfl]
  ·rintro⟨l,r,e,rfl⟩
   cases l with
   | nil=>cbv
   | cons c l=>
    grind
def Su {e:Nat}:(k,a)∈PZ e w way ↔ ∃ l r,way=l++k::r/\a=(e,w,l.getLast?.getD Gy):=by
 ext1 PZ;rw[GX];ext d5B
 ·rintro⟨⟨k',h⟩,hm,z⟩
  cases z
  simp_all [fM]
 ·rintro⟨l,r,h1,rfl⟩;show#[(k,_),(fM way _).mpr #[l,r,h1,1],1]
def Pn:(k,a)∈O9 ê ↔ ∃ LY way,ê[a.1]?=!LY/\LY.2[a.2.1]?=!way/\∃ l r,way=l++k::r/\a.2.2=l.getLast?.getD jv:=by
 ext1 O9 Ol;rw[Jr];ext d5B
 ·rintro⟨⟨LY,e⟩,he,h⟩;let#[#[way,w],hw,h]:=Jr.mp h;let#[l,r,ZL]:=Su.mp h;let he:=IJ.mp he;let hw:=IJ.mp hw;subst h2;show#[LY,way,he,hw,l,r,h1,1]
 ·rintro⟨LY,way,he,hw,l,r,h1,h2⟩;show#[(LY,a.1),IJ.mpr he,Jr.mpr #[(way,a.2.1),IJ.mpr hw,Su.mpr #[l,r,h1,?_]]]
  grind
def Pm:a∈pick L k ↔ (k,a)∈L:=by
 ext1 pick
 cbv
def Th (e w:Nat)(way):(PZ e w way).map (·.1)=way:=by ext1 PZ;rw[GV];change (way.zip _).map (·.1)=way;rw[List.map_fst_zip<|by simp]
def Tx (d09):(Ol e ways).map (·.1)=ways.flatten:=by ext1 Ol;rw[List.map_flatMap];let:(λx:List Int×Nat=>(PZ e x.2 x.1).map _)=λx=>x.1:=funext λx=>Th Ĉ;rw[this,List.flatMap_def,List.zipIdx_map_fst]
def Uk (c9x):((Mi ê k).map (·.1)).Nodup:=by
 let pw:(O9 ê).Pairwise λx y=>x.1=y.1->x.2.1≠y.2.1:=by
  ext1 O9;rw[List.pairwise_flatMap];show#[λe0Z=>?_,?_]
  ·let h1:=h x.1<|GY (IJ.mp hx);rw[<- Tx x.2]at h1;show (Ji.mp h1).imp λn z=>e5W n
  ·let key:∀ (x:Mt×Nat)(a:Int×Ask),a∈Ol x.2 x.1.2->a.2.1=x.2:=λx e9m=>by let#[q,_,h2]:=Jr.mp ha;let#[BY,e]:=Su.mp h2;rw[e]
   let hn:(ê.zipIdx.map (·.2)).Nodup:=by rw[List.zipIdx_map_snd];show List.nodup_range'
   show (Ji.mp hn).imp λ{x y} n a ha b hb _ z=>n ?_;rw[<- key x a ha,<- key y b hb,z]
 ext1 Mi pick;rw[GV,List.Nodup,Ji,List.pairwise_filter];show pw.imp λ{x y} n hx hy=>n ?_
 grind
def a4h:∀ (n:Nat)(X:À),X.Nodup->(∀ x∈X,x<n)->X.length<=n:=by
 intro r'
 induction r' with
 | zero=>
  intro X _ h
  cases X with
  | nil=>simp
  | cons x X=>show absurd (h x<|by simp) (Kl _)
 | succ n ih'=>
  intro X nd h;let h1:=a93 (q:=λx=>decide (x=n)) nd λx _ y _ a b=>by
   grind
  let h2:=ih' (X.filter λx=>not (decide (x=n))) (nd.sublist Jp) λe0Z=>by
   grind
  lia
def US (c9x):(Mi ê k).length<=ê.length:=by
 let:=a4h ê.length _ (Uk h k) λe0Z=>by let#[a,ha,1]:=GX.mp hx;let#[LY,_,h1,_]:=Pn.mp<|Pm.mp ha;show (GS.mp h1).1
 cbv
theorem fr (D:Ξ)(s:Int)(way):Int:=((way.filter λk=>decide (k∈D)).getLast?).getD s
def c6N (nd:(D++k::rest).Nodup)(hs:way.Sublist (D++k::rest))(s:Int):
  (¬ k∈way/\fr (D++[k]) s way=fr D s way)\/∃ l r,way=l++k::r/\fr D s way=l.getLast?.getD s/\fr (D++[k]) s way=k:=by
 let#[l,l2,1,ZL]:=List.sublist_append_iff.mp hs;let#[nD,nk,dis]:=HR.mp nd;rw[HS]at nk;let fl:∀ z:Ξ,l.filter (d9N (x∈D++z))=l:=λz=>List.filter_eq_self.mpr λe0Z=>by simp[h1.subset hx]
 let kl:=λz=>dis k (h1.subset z) k ė rfl;let fD:∀ r:Ξ,r.Sublist rest->r.filter (λx=>decide _)=[]:=λe45=>JM.mpr λe0Z z=>dis x (by simpa using z) x b7f rfl;let fk:∀ r:Ξ,r.Sublist rest->r.filter (d9N (x∈D++[k]))=[]:=λe45=>JM.mpr λe0Z z=>by
  rcases Hx.mp (HA z) with z|z
  ·show dis x z x b7f rfl
  ·show nk.1 (Hs.mp z▸hr.subset hx)
 let fl0:=fl [];rw[HF]at fl0;ext1 fr;rcases List.sublist_cons_iff.mp h2 with h2|⟨r,rfl,h3⟩
 ·show .inl #[λz=>?_,?_]
  ·rcases Hx.mp z with z|z
   ·show kl z
   ·show nk.1 (h2.subset z)
  ·rw[IH,IH,fl,fl0,fD _ h2,fk _ h2]
 ·show .inr #[l,r,1,mU]
  ·let:=λz=>dis k z k ė rfl;rw[IH,fl0,Il,fD _ h3,GZ this];simp
  ·rw[IH,fl,Il,fk _ h3,Hb<|show k∈D++[k] by simp];simp
def FS {p:Int}(h:p ∣ a % p):p ∣ a:=by let:=Jq h<|e7Y (a / p);rwa [Je]at this
abbrev Qn:=List (Int×Ξ)
abbrev _root_.Δ:=List Θ
set_option genInjectivity false
structure Te where
 R:List Qn
 P:Δ
set_option genInjectivity true
theorem lk (R:Qn)(k:Int):Ξ:=((R.find? λr=>decide (r.1=k)).map (·.2)).getD []
theorem starts (m):Ξ:=(List.range m).map st
theorem Mh (m):Option Ξ->Ξ
 | none=>starts m
 | some ks=>ks
theorem rowsOf (ê)(T:Te)(e:Nat):Qn:=T.R.getD (ê.getD e (0,[])).1 []
theorem shown (p)(ê)(T:Te)(a:Ask)(k:Int):Int:=LV p ((T.P.getD a.1 []).getD a.2.1 []) ou
theorem newRow (p)(m)(cs:Ξ)(R:Qn)(x:MZ)(told:Ξ):Ξ:=if x.1∈cs then List.replicate m 0 else Mp p (cols ((Mh m x.2).map (lk R)) m) told
theorem LI (p)(m)(ç)(R:List Qn)(x:MZ)(told:Ξ):List Qn:=List.zipWith (λcs r=>r++[(x.1,e0D cs r x told)]) ç R
theorem Oq (p)(ê)(k:Int)(T:Te)(a:Ask):Te:={ T with P:=T.P.set a.1 (e7Z c1C a.2.1 ou) }
theorem LP (p)(m)(ê)(T:Te)(x:MZ):Ξ:=Vf p (Mh m x.2) pB (e86 T)
theorem UC (p)(m)(ç)(ê)(T:Te)(x:MZ):Te:=(Mi ê x.1).foldl (e70 x.1) { T with R:=e1C x IR }
theorem start (m)(ç)(ê):Te:=⟨ç.map λ_=>(List.range m).map λw=>W3,ê.map λ_=>ones m⟩
theorem stN (p)(m)(ç)(ê)(ord:List MZ):Nat->Te
 | 0=>e5E ê
 | n+1=>UC p m ç ê b8D (ord.getD n Bt)
structure Tf (c88):Prop where
 prime:My.O5 p=true
 nd:(ord.map (·.1)).Nodup
 pos:∀ x∈ord,0<=x.1
 mix:∀ x∈ord,∀ ks,x.2=!ks->ks.Nodup
 ahd:∀ (i:Nat) x ks,ord[i]?=!x->x.2=!ks->∀ k∈ks,k∈(ord.take i).map (·.1)
 ech:∀ LY∈ê,LY.1<ç.length
 ways:∀ LY∈ê,LY.2.length=m
 ZN:∀ LY∈ê,∀ way∈LY.2,way.Sublist (ord.map (·.1))
 link:∀ LY∈ê,∀ way∈LY.2,∀ l k r,way=l++k::r->∀ mx,(k,mx)∈ord->∀ w,w<m->l.getLast?.getD Gy∈Mh m mx
 wnd:∀ LY∈ê,LY.2.flatten.Nodup
 free:∀ LY∈ê,∀ way∈LY.2,∀ k∈way,¬ k∈ç.getD LY.1 []
 MN:(ê.length:Int)<=p
structure c1S (c88)(n:Nat)(T:Te):Prop where
 rl:T.R.length=ç.length
 pl:T.P.length=ê.length
 keys:∀ R∈T.R,R.map (·.1)=starts m++(ord.take n).map (·.1)
 rows:∀ R∈T.R,∀ r∈R,r.2.length=m/\NH p r.2
 ok:∀ e LY,ê[e]?=!LY->Ok p m oM λw=>lk c0L (fr GT Gy (LY.2.getD w []))
def a00 (c97)(z:Qn):lk (R++z) k=lk R k:=by
 ext d61;rw[Kx]
 cases hf:R.find? λx=>decide (x.1=r.1) with
 | none=>ext d52
 | some x=>rfl
def Vg (h:¬ k∈R.map (·.1))(v:Ξ):lk (R++[(k,v)]) k=v:=by ext1 lk;rw[Kx,IX.mpr λe0Z z=>h<|by simpa using #[x.2,(HA z)▸hx]];simp
def X6 (c97):(k,lk R k)∈R:=by
 ext d61
 cases hf:R.find? λx=>decide (x.1=r.1) with
 | none=>ext d52
 | some x=>
  let h2:x.1=r.1:=by simpa using J2 hf
  rw[<- h2];show HZ hf
def OE {e:Nat}(h:ê[e]?=!LY):rowsOf ê T e=T.R.getD LY.1 []:=by
 ext1 rowsOf
 cbv
def Z5 (c67)(h:LY∈ê):T.R.getD LY.1 []∈T.R:=by
 let:=e8A h;rw[GU,GR (by rw[I.rl];show this)]
 cbv
def a1F (D:Ξ)(s:Int)(way):fr D s way=s\/fr D s way∈D:=by
 ext1 fr
 cases h:(way.filter λk=>decide (k∈D)).getLast? with
 | none=>show .inl rfl
 | some x=>show .inr (by simpa using (HB.mp<|List.mem_of_getLast? h).2)
def E7 (c67)(hR:R∈T.R)(hw:w<m)(way):fr GT Gy way∈R.map (·.1):=by
 rw[e4a hR];rcases a1F GT Gy way with h|h
 ·rw[h];show HG _ (Hm<|Ig.mpr hw)
 ·show Hh _ h
def U4 (d0n):Ul p (Mh m x.2) pB (e86 T):=by
 let xm:=GY hx;show#[G.prime,Int.le_trans (by let:=US G.wnd x.1;omega) G.MN,?_,λe9m=>?_,λe9m=>?_]
 ·cases h:x.2 with
  | none=>
   change (starts m).Nodup;ext1 starts;rw[List.Nodup,Ji];show List.nodup_range.imp λn z=>n (by unfold st at z;omega)
  | some ks=>show G.mix x xm ks h
 all_goals
  let#[LY,way,ZL,l,r,AU]:=Pn.mp<|Pm.mp ha;let em:=GY h1;let wm:=GY h2;let hw:=e7e em▸(GS.mp h2).1
 ·rw[h4];show G.link LY em way wm l x.1 r h3 x.2 xm _ hw
 ·let K:=e4E h1;let od:ord=ord.take n++x::ord.drop (n+1):=by rw[<- (GS.mp hx).2,<- Jd _,Iz]
  let nd:=G.nd;let hs:=G.ZN LY em way wm;rw[od,He,Hu]at nd hs;let ef:fr GT jv way=a.2.2:=by
   rcases c6N nd hs jv with⟨z,_⟩|⟨l',r',e1,e2,_⟩
   ·show absurd (by rw[h3];simp) z
   ·let wn:=nd.sublist hs;rw[e1]at h3;rw[e2,h4];rw[e1]at wn;let:l'=l:=by
     rcases (List.append_eq_append_iff.mp h3) with⟨as,q1,q2⟩|⟨bs,q1,q2⟩
     ·cases as with
      | nil=>simpa using q1.symm
      | cons y as=>
       cases q2;rw[h3,q1]at wn;show absurd rfl b1O
     ·cases bs with
      | nil=>simpa using q1
      | cons y bs=>
       cases q2;rw[q1]at wn;show absurd rfl b1O
    rw[this]
  let own:=K.own a.2.1 hw;let eg:LY.2.getD a.2.1 []=way:=by rw[GU,h2];rfl
  rw[eg,ef]at own;ext1 shown;rw[OE h1,Mn];intro z;show own (FS z)
def Ok.congr (d0v)(e:∀ j,j<m->F' j=F j):Ok p m P F':=
 #[h.len,h.Q5,λe8G=>by rw[e j hj];show h.fw j hj,λe4g n=>by rw[e j hj];show h.off i j hi hj n,λi hi=>by rw[e i hi];show h.own i hi,λe0Z hk=>h.sep x hx λe8G=>by cbv]
def Rf (k:Int):∀ (A:List Ask)(T:Te),(A.map (·.1)).Nodup->(e4F T).R=T.R/\(e4F T).P.length=T.P.length/\
  (∀ e,(∀ a∈A,a.1≠e)->(e4F T).P.getD e []=T.P.getD e [])/\
  ∀ a∈A,a.1<T.P.length->(e4F T).P.getD a.1 []=e7Z c1C a.2.1 ou:=by
 intro r'
 induction r' with
 | nil=>
  intro T _;show #[2,λ_ _=>rfl,λ_ h=>(Ih h).elim]
 | cons b A ih'=>
  intro T nd;rw[Hu,HS]at nd;let#[AS]:=ih' (e70 k T b) nd.2;let l1:(e70 k T b).P.length=T.P.length:=List.length_set;let off:∀ e,b.1≠e->(e70 k T b).P.getD e []=T.P.getD e []:=λe n=>by
   change (T.P.set b.1 _).getD e []=_
   cbv
  show#[h1,h2.trans l1,λe he=>?_,λe9m hl=>?_]
  ·rw[Jm,h3 e λe9m=>he a<|by simp[ha]];show off e (he b<|by simp)
  ·rw[Jm];rcases Hr.mp ha with rfl|ha
   ·rw[h3 a.1 λc hc z=>nd.1<|z▸Hm hc];change (T.P.set a.1 _).getD a.1 []=_
    cbv
   ·rw[h4 a ha<|l1▸hl,off a.1 λz=>nd.1<|z▸Hm ha];rfl
def b8b (c8U)(d0h):NH p (Mp p t v):=λe0Z=>by let#[r,_,1]:=GX.mp hx;rw[Mn];show#[Ij _<|by lia,HV _ hp]
def c0d (t:Θ)(m)(v:Ξ):(Mp p (cols t m) v).length=m:=by simp[Mp,cols]
def b2K (hc:∀ b∈comes,b.length=m)(hq:q.length=m)(ht:told.length=comes.length):p ∣ dot q (Mp p (cols comes m) told) - dot told (comes.map λb=>dot q b):=by rw[f1F];let h2:=QI comes m told q hc hq ht;let e:R0 comes q=comes.map λb=>dot q b:=HH λb _=>N4 b q;rw[e,N4]at h2;rw[<- h2];show IE (by rw[Int.sub_emod,Nx p q _,Int.sub_self];simp)
def a8H (d0n):e30 (n+1) (UC p m ç ê T x):=by
 ext d6M;let#[tl,tf,tn]:=VN<|U4 I G hx;let od:ord=ord.take n++x::ord.drop (n+1):=by rw[<- (GS.mp hx).2,<- Jd ((GS.mp hx).1),Iz]
 let tk:(ord.take<|n+1).map (·.1)=(ord.take n).map (·.1)++[x.1]:=by rw[IU,hx,He];rfl
 let nd:=G.nd;rw[od,He,Hu]at nd;let nk:∀ R∈T.R,¬ x.1∈R.map (·.1):=λR hR z=>by
  rw[e4a hR]at z;rcases Hx.mp z with z|z
  ·ext d5s;unfold st at e
   lia
  ·ext d53
 let#[oh,f4]:=Rf x.1 pB { T with R:=e1C x IR }<|Uk G.wnd x.1;let zat:∀ c r,ç[c]?=!r->∀ R,T.R[c]?=!R->(e1C x<|e0L x)[c]?=!R++[(x.1,e0D r R x<|e0L x)]:=λc e45 R hR=>by ext1 LI;rw[JW,hr,hR]
 let a3r:∀ R',R'∈LI p m ç T.R x IR->∃ R∈T.R,∃ r,R'=R++[(x.1,e0D r R x<|e0L x)]:=λR' h=>by unfold LI at h;let#[c,hc,1]:=HX.mp h;rw[KS];show#[_,Ii _,_,1]
 ext1 UC;show#[by rw[f1];simp[LI,I.rl],f2.trans I.pl,λR' hR=>?_,λR' hR e45=>?_,λe LY he=>?_]
 ·rw[f1]at hR;let#[R,h1,r,1]:=a3r R' hR;rw[He,e4a h1,tk,Ib];rfl
 ·rw[f1]at hR;let#[R,h1,cs,1]:=a3r R' hR;rcases Hx.mp hr with h|h
  ·show I.rows R h1 r h
  ·rw[Hs.mp h];change (e0D cs R x _).length=m/\NH p (e0D cs R x _);ext1 newRow;split
   ·show#[by simp,λe8a=>by let:=Jg hz;lia]
   ·show#[c0d Ĉ,b8b #[] _ _]
 ·let em:=GY he;let K:=I.ok e LY he;let hR:=Z5 I G em;let hel:=(GS.mp he).1;let hc:=e8A em;let eR:T.R[LY.1]?=!T.R.getD LY.1 []:=by rw[GU,GR (by rw[I.rl];show hc)];rfl
  let eC:ç[LY.1]?=!ç.getD LY.1 []:=by rw[GU,GR hc];rfl
  let gR':(e1C x<|e0L x).getD LY.1 []=T.R.getD LY.1 []++[(x.1,e0D KF c0L x<|e0L x)]:=by rw[GU,zat LY.1 _ eC _ eR];rfl
  rw[f1];rw[gR',tk];generalize hr0:T.R.getD LY.1 []=R at *
  let N0:∀ w,w<m->∀ way,lk (R++[(x.1,e6o x<|e0L x)]) (e3e way)=lk R (e3e way):=λw hw way=>a00 (E7 I G hR hw way) _;let wat:∀ w,w<m->∃ way,LY.2[w]?=!way/\LY.2.getD w []=way/\way.Sublist ((ord.take n).map (·.1)++x.1::(ord.drop<|n+1).map (·.1)):=λw hw=>by
   let hw':w<LY.2.length:=by rw[e7e em];show hw
   show#[LY.2[w],GR hw',by rw[GU,GR hw'];rfl,?_];let:=G.ZN LY em _<|Ii hw';rwa [od,He,Hu]at this
  by_cases hA:∃ w0,w0<m/\x.1∈LY.2.getD w0 []
  ·let#[w0,hw0,Xf]:=hA;let#[way,VV,e3]:=wat w0 hw0;rw[e2]at Xf;obtain⟨l,r,e4,e5,e6⟩:∃ l r,way=l++x.1::r/\fr GT (st w0) way=l.getLast?.getD (st w0)/\fr ((ord.take n).map (·.1)++[x.1]) (st w0) way=x.1:=by
    rcases c6N nd e3 (st w0) with⟨z,_⟩|z
    ·show absurd Xf z
    ·show z
   let am:(b4a:Ask)∈Mi ê x.1:=Pm.mpr<|Pn.mpr #[LY,way,he,e1,l,r,e4,1];let h4:=f4 _ am (by rw[I.pl];show hel);let UE:rowsOf ê { T with R:=e1C x IR } e=R++[(x.1,e6o x<|e0L x)]:=by rw[OE he,<- gR']
   let h4:(List.foldl (e70 x.1) { T with R:=e1C x IR }<|Mi ê x.1).P.getD e []=e7Z oM w0 (e6o x<|e0L x):=by rw[h4];rw[UE,Vg<|nk R hR]
   rw[h4];let fre:=G.free LY em way (GY e1) x.1 Xf;let cl:∀ b∈(Mh m x.2).map (lk R),b.length=m:=λe3b=>by
    let#[k,hk,1]:=GX.mp hb;show (I.rows R hR (k,lk R k) (X6 ?_)).1;rw[e4a hR]
    cases h:x.2 with
    | none=>rw[h]at hk;show HG _ hk
    | some ks=>rw[h]at hk;show Hh _ (G.ahd n x ks hx h k hk)
   let a3N:e6o x IR=Mp p (cols ((Mh m x.2).map<|lk R) m) IR:=by ext1 newRow;rw[if_neg fre]
   let shn:¬ p ∣ dot Cp (e6o x<|e0L x):=λz=>by
    rw[a3N]at z;let:=Jz z<|b2K (told:=e0L x) cl ((K.at hw0).1) (by rw[GP];show tl);rw[Int.sub_sub_self,GV]at this;show tn _ am ?_;let e7:(Mh m x.2).map (e86 T b4a)=((Mh m x.2).map<|(λb=>dot Cp b) ∘ lk R).map p7:=by rw[GV];show HH λk _=>?_;ext1 shown;rw[OE he,hr0,Mn];rfl
    rw[e7];let h5:=Nx p IR<|(Mh m x.2).map ((λb=>dot Cp b) ∘ lk R);rw[Jk this]at h5;show IE h5
   show (K.move G.prime hw0 (by rw[a3N];show c0d Ĉ) shn).congr λw hw=>?_;by_cases c:w=w0
   ·subst c;rw[if_pos rfl,e2,e6,Vg<|nk R hR]
   ·ext d3D;let#[a2X,sV,g3]:=wat w hw;let nin:¬ x.1∈a2X:=λz=>by
     let fl:=G.wnd LY em;rw[List.Nodup,List.pairwise_flatten]at fl;let pw:=Kc.mp fl.2;let#[i1,j1]:=GS.mp g1;let#[i2,j2]:=GS.mp e1;rcases Nat.lt_or_gt_of_ne c with q|q
     ·show pw w w0 i1 i2 q x.1 (j1▸z) x.1 (j2▸Xf) rfl
     ·show pw w0 w i2 i1 q x.1 (j2▸Xf) x.1 (j1▸z) rfl
    ext d36
    ·rw[z];show N0 w hw a2X
    ·show absurd (by rw[z];simp) nin
  ·let h3:=f3 e λe9m z=>by
    let#[b7Y,way,ZL,l,r,AU]:=Pn.mp<|Pm.mp ha;rw[z,he]at h1
    cases h1;let hw:=e7e em▸(GS.mp h2).1;show hA #[a.2.1,hw,?_];rw[GU,h2];change x.1∈way;rw[h3];simp
   rw[h3];show K.congr λw hw=>?_;let#[way,sV,g3]:=wat w hw;ext d36
   ·rw[z];show N0 w hw way
   ·show absurd #[w,hw,by rw[g2,z];simp] hA
def c5q (G:Tf p m ç ê ord):e30 0 (e5E ê):=by
 ext d6M;let hk:((List.range m).map λw=>W3).map (·.1)=starts m:=by rw[GV];rfl
 show#[by simp[start],by simp[start],λR hR=>?_,λR hR e45=>?_,λe LY he=>?_]
 ·let#[wG]:=GX.mp hR;rw[hk];simp
 ·let#[wG]:=GX.mp hR;let#[w,_,1]:=GX.mp hr;show#[LR ĉ,fu #[0] _ _]
 ·let em:=GY he;let e1:(e5E ê).P.getD e []=ones m:=by
   change ((ê.map λ_=>ones m)[e]?).getD []=_
   cbv
  let e2:(e5E ê).R.getD LY.1 []=(List.range m).map λw=>W3:=by change ((ç.map λ_=>_)[LY.1]?).getD []=_;rw[Hf,GR<|e8A em];rfl
  rw[e1,e2];show (Ok.start #[0] m).congr λe8G=>?_;let e3:fr ((ord.take 0).map (·.1)) (st j) (LY.2.getD j [])=st j:=by ext1 fr;rw[JM.mpr λx _ z=>by simp at z];rfl
  let#[w,_,e4]:=GX.mp<|X6 (by rw[hk];show Hm<|Ig.mpr hj);let e5:=e82 e4;let e6:w=j:=by unfold st at e5;omega
  cbv
def U1 (G:Tf p m ç ê ord):∀ n,n<=ord.length->e30 n b8D:=by
 intro r'
 induction r' with
 | zero=>
  intro _;show c5q G
 | succ n ih'=>
  intro h;let hx:ord[n]?=!ord.getD n Bt:=by
   grind
  show a8H (ih'<|by lia) G hx
def TC (es:List Mt)(LY:Mt):O9 (es++[LY])=O9 es++Ol es.length LY.2:=by ext1 O9;rw[JL,IP];simp
def Tv {e:Nat}{ways:Θ}(h:ways[w]?=!way):Ol e (ways.take (w+1))=Ol e xD++PZ e w way:=by ext1 Ol;ext d5j
def Mut (es fs:List Mt):(O9 es).length<=(O9 (es++fs)).length:=by simp[O9,JL,IP,Ho]
def b6k (d09)(w:Nat):(Ol e xD).length<=(Ol e ways).length:=by
 let h:Ol e ways=Ol e xD++((ways.drop w).zipIdx (ways.take w).length).flatMap λx=>PZ e x.2 x.1:=by
  ext1 Ol
  ext d3y
 cbv
def Wb (c84)(k:Int)(a:Ask):pick wX k=pick L k++[a]:=by simp[pick,IH,He]
def Va (c84)(h:k≠k')(a:Ask):pick wX k'=pick L k':=by
 ext1 pick
 cbv
def Ya (c84)(k:Int):(pick L k).length<=L.length:=by ext1 pick;ext d3R
theorem LQ (c98):List Mt:=found.zipIdx.flatMap λx=>x.1.map λways=>UX
def Ry {found:List Δ}(h:found[c]?=!bl):LQ (found.take (c+1))=LQ Dp++bl.map λways=>Aw:=by ext1 LQ;ext d5j
def f1J (c98)(c:Nat):∃ r,LQ found=LQ Dp++r:=by
 show#[((found.drop c).zipIdx (found.take c).length).flatMap λx=>x.1.map λways=>UX,?_];ext1 LQ
 ext d3y
def room (hB:(O9 (LQ found)).length<=B)(h1:found[c]?=!bl)(h2:bl[j]?=!ways)(h3:ways[w]?=!way):
  (O9 (LQ Dp++(bl.take j).map λways=>Aw)++Ol (LQ Dp++(bl.take j).map λways=>Aw).length xD++(PZ (LQ Dp++(bl.take j).map λways=>Aw).length w way).take i).length<=B:=by
 let#[r,hr]:=f1J found<|c+1;let e1:bl=bl.take j++ways::bl.drop (j+1):=by let#[hj,e]:=GS.mp h2;rw[<- e,<- Jd hj,Iz]
 rw[Ry h1,e1,He,Hu,<- Ib,Ib,List.cons_append,List.append_cons]at hr;rw[hr]at hB;generalize (LQ _++(bl.take j).map λways=>_)=A at hB ⊢;show HE ?_ hB;show HE ?_<|Mut _ _;rw[TC,Ho,Ho,Ho];let h4:=b6k A.length ways<|w+1;rw[Tv h3,Ho]at h4;rw[Hl]
 lia
def Ws (d0n):∀ R∈T.R,¬ x.1∈R.map (·.1):=λR hR z=>by
 rw[e4a hR]at z;let nd:=G.nd;rw[show ord=ord.take n++x::ord.drop (n+1) by rw[<- (GS.mp hx).2,<- Jd _,Iz],He,Hu]at nd;rcases Hx.mp z with z|z
 ·ext d5s;unfold st at e
  lia
 ·ext d53
def V5 (X R:List α)(hc:c<=X.length)(j)(d:α):(X.take c++R.drop c).getD j d=if j<c then X.getD j d else R.getD j d:=by
 let hl:(X.take c).length=c:=by grind
 rw[GU];by_cases h:j<c
 ·rw[if_pos h,HQ<|by omega,ID h,GU]
 ·rw[if_neg h,HU<|by omega,hl,Kn,GU];congr 2;omega
def Ru (hk:ç[c]?=!ks)(hR:c<R.length):(LI p m ç R x told).getD c []=R.getD c []++[(x.1,e0D ks (R.getD c []) x told)]:=by
 let e:R[c]?=!R.getD c []:=by
  cbv
 ext1 LI;rw[GU,JW,hk,e];rfl
universe Mk
namespace K72
open PySem L2
open PyProof.Rows (boot_all boot_any boot_bool boot_dict boot_int boot_list boot_sorted boot_str boot_tuple)
structure Ou (c9a)(c9y):Prop where
 cl:Pf K CE
 nR:Mj K CE "rows"
 nB:Mj K CE "probes"
 Mb:mg "range"=none
 Oo:mg "zip"=none
 a3X:mg "any"=none
 Ma:mg "len"=none
 Mm:mg "enumerate"=none
abbrev b3B (c9y)(R:Mk.Qn)(B:Θ):D:=.ins CE ["rows","probes"] [bc R,tb B]
variable {C CE:Addr}
def Ou.fr [Bx:Bd](c68):∀ C',C'=CE->e6a C'/\Mj Bx.K C' "rows":=λC' h=>h▸#[T.cl,T.nR]
def Ou.fb [Bx:Bd](c68):∀ C',C'=CE->e6a C'/\Mj Bx.K C' "probes":=λC' h=>h▸#[T.cl,T.nB]
def dNg (h:PE X a (tC Ge)):PE X (.UnaryOp .USub a pos) (tP (rC (.int (-i)))):=(a3D b2G h).imp λe1E=>by let#[tj,r,q]:=gR;show#[i,1,tP.at S.le q (by rw[r];rfl)]
def yd (c97):cX (R.map λr=>u7) iB=!rw Ŵ:=by let#[x,ZL]:=GX.mp h;let#[y,hy]:=Iv.mp (Kw (p:=λr:bC=>decide (r.1=k)) |>.mpr #[x,h1,Hb h2]);rw[gS hy,show Mk.lk R k=y.2 by ext1 Mk.lk;rw[hy];rfl]
inductive dj:Ä
 |mk {m:Nat}:m<=1000->dj [.int m] (rw (Mk.starts m))
def a1e [Bx:Bd](c68):Tk 1 "message_ties" (top 88) ["many"] (Pr dj):=by
 show Nh [] ?_ λd9W=>(qr (e8u b9N CI
  Ĕ
  P6
  (λd94=>dO tU eA (dNg aG)<|Đ 0)))
 rintro _ _ @⟨m,hm⟩;show#[be b6A ZO λj _=>#[_,3,L4],UW ĉ]
inductive qw (C CE:Addr):Ä
 |mk {p k:Int}{i:Nat}{B:Θ}{R:Mk.Qn}:0<p->p<=1000000->k∈R.map (·.1)->i<B.length->Vw p ŝ->(B.getD i []).length<=1000->qw C CE [b3B CE R B,fD C p,.int i,.int k] (.int (Mx.LV p ŝ Ŵ))
def c0W [Bx:Bd](c68)(MW):Tm 4 "shown" "Ear.shown" (ar oN 1) æ (Pr (qw C CE)):=by
 let Ys:=T.fr;let Wt:=T.fb;show Nh [] ?_ λd9W=>(qr<|e80 rfl (da (Đ 1)<|da (d9x Wt 2) (da (d9x Ys 3) LB)))
 rintro _ _ @⟨p,k,i,B,R,p0,p1,hk,hi,hf,hl⟩;show#[#[#[1,#[#[3],1,.l .lst<|a6y hi],#[#[3],1,.k (yd hk) kI],1],#[p0,p1,hl,hf]],1]
inductive PR (c7j):Ä
 |mk {p:Int}{us ss:Ξ}:My.O5 p=true->p<=1000000->(us.length:Int)<p->us.length<=1000->(∀ u∈us,¬ p ∣ u)->Vw p us->PR C [fD C p,rw us,rw ss] (.int (Mk.ub p us ss:Nat))
def a2B [Bx:Bd](c68)(Lx):Tk 2 "unbarred" (top 90) b5w (d8M PR):=by
 show Nh ["often"] ?_ λd9W=>(qC (qs 3 ND dI)
 (qC (qW Hq (dV (cN (dB a1X (C5 Bx.K rfl) rfl T.a3X boot_any (da (e8t (cS 2 [0,3] b25) ES
  Ĝ
  P6
  (λd94=>dM bn cF (e3w Lx hr.m<|e87 LB) dI)) LB))))
  (q1<|xW (yq (i:=3) ND rfl EU dI c2M)))
 BK))
 rintro _ _ @⟨p,us,ss,hP,p1,hl,hz,nz,hF⟩;let#[u1,u2,u3]:=Mk.WL hP (ss:=ss) hl nz;ext d6r;show fH (β:=Nat) (λj ε=>ε=[.fz<|fD C p,.fz<|rw us,.fz<|rw ss,.fz<|.int j]/\j<=e5F ss) (λj=>e5F ss - j) #[1,HP _] λj e3c=>?_;let#[he,hj]:=gR;subst he;let rd:rF YC (rA (rL 2 [0,3] (λε l=>∃ m n,rA E6 (rA jd Uu) ε [.lst m,.lst n]/\l=(m.zip n).map λz=>.tup [z.1,z.2]) Bb<|rO EY (rMe C "fit" (RO C) jd<|rA (rO GO (e3k vj<|rV 0)<|rV 1) Uu) (rC<|.int 0)) Uu) [some<|fD C p,some<|rw us,some<|rw ss,some<|.int j] (.bl<|Mk.NK p j us ss):=by show⟨⟨be ⟨_,_,⟨rfl,rfl,rfl⟩,iF _ _⟩ (by rw[Jb];lia) λe8a=>#[BZ,eq_int #[nJ,b8F,#[#[]]] rfl],rfl⟩,?_⟩;let:=YC.mk (by rw[GV];rfl:(us.zip ss).map (λz=>D.bl<|decide (((j:Int) * z.1+z.2) % p=0))=_);ext1 Mk.NK;rw[<- IW,List.any_map];rwa [List.any_map]at this
 by_cases z:j<e5F ss
 ·rw[u2 j z]at rd;show .inr #[rd,j+1,BZ,#[1,z],#[]]
 ·let z:j=e5F ss:=#[]
  rw[z,u1]at rd;show .inl #[by rw[z];show rd,1,by rw[z]]
inductive gD (c7j):Ä
 |mk {p:Int}{t:Θ}{r:Ξ}:0<p->p<=1000000->(∀ z∈t,Vw p z/\z.length<=1000)->t.length<=1000->gD C [fD C p,tb t,rw r] (rw (Mx.Mp p t r))
def dOr [Bx:Bd](MW):Tk 4 "times_row" (top 40) ["field","table","row"] (d8M gD):=by
 show Nh [] ?_ λd9W=>(qr (e0v (cS 1 [0,2] [sJ,"row"]) Ÿ
  Ĕ
  P6
  (λd94=>e80 rfl<|e0f vG)))
 rintro _ _ @⟨p,t,r,p0,p1,ht,hl⟩;show#[e64 hl λe8a=>#[_,1,#[4],#[p0,p1,(ht z hz).2,(ht z hz).1]],UW ĉ]
inductive b41 (c7j):Ä
 |mk {p:Int}{m:Nat}{mixed told:Ξ}{R:Mk.Qn}:0<p->p<=1000000->(∀ k∈mixed,k∈R.map (·.1)/\(Mk.lk R k).length=m/\Vw p Ŵ)->mixed.length<=1000->m<=1000->b41 C [fD C p,rw mixed,rw told,bc R,.int m] (rw (Mx.Mp p (Mx.cols (mixed.map (Mk.lk R)) m) told))
def Spl [Bx:Bd](c68)(Na)(OJ):Tk 5 "mixed_row" (top 92) b1n (d8M b41):=by
 show Nh ["comes"] ?_ λd9W=>(qC (qs 5 ND (e0v (cS 1 [3] c1x) Ÿ
  Ĕ
  P6
  ž))
 (qr (f1h (e0B (da (e8u (cS 1 [5] ["place","comes"]) (WC rfl T.Mb<|e2c LB)
  Ĕ
  P6
  (λd94=>dF OJ hr.m rfl<|e0f ş))<|e1M LB)))))
 rintro _ _ @⟨p,m,mixed,told,R,p0,p1,hk,hl,hm⟩;show .nx #[c7 DZ hl (λk h=>#[_,3,.k (yd (hk k h).1) kI]) (by rw[show tb _=.lst xc from rfl,GV];rfl)] #[#[#[1,c7 b6A ZO (λe8G=>#[_,za,.l Ŋ λe45=>?_]) ?_,2],#[p0,p1,mU]],1]
 ·let#[k,h1,1]:=GX.mp hr;rw[(hk k h1).2.1];show Ig.mp hj
 ·ext1 Mx.cols;ext d6s;rfl
 ·intro z hz;let#[j,hj,1]:=GX.mp hz;show#[λe3G=>?_,by ext1 Mx.col;simpa using hl];unfold Mx.col at hy;rw[GV]at hy;let#[k,h1,1]:=GX.mp hy;let:=hk k h1;show Mk.QG p0 this.2.2 j
 ·ext1 Mx.cols;simpa using hm
open e
variable {C CE:Addr}
abbrev xV (c9y)(d0D)(a:Mk.Ask):D:=.tup [b3B CE (R a) (B a),.int (a.2.1:Nat),.int a.2.2]
structure a53 (d16)(d0D)(s:Mk.Ask->Int->Int):Prop where
 pl:∀ a∈A,a.2.1<(B a).length
 fit:∀ a∈A,Vw p b8G/\((B a).getD a.2.1 []).length<=1000
 has:∀ a∈A,∀ b∈A,b.2.2∈(R a).map (·.1)
 sh:∀ a∈A,∀ k,s a k=Mx.LV p b8G (Mk.lk (R a) k)
inductive gE (C CE:Addr):Ä
 |mk {p:Int}{mixed:Ξ}{A:List Mk.Ask}{R:Mk.Ask->Mk.Qn}{B:Mk.Ask->Θ}{s:Mk.Ask->Int->Int}:p<=1000000->a53 p A R B s->Mk.Ul p mixed A s->mixed.length<=1000->A.length<=1000->gE C CE [fD C p,rw mixed,.lst (A.map (xV CE R B))] (rw (Mk.Vf p mixed A s))
def a0e (n):rw xU=.lst (List.replicate n DX):=e1j List.map_replicate
def c2E [Bx:Bd](c68)(MU)(Lx)(Qd:Mo 2 "unbarred" b5w (d8M PR)):Tk 5 "multipliers" (top 91) b6B (Pr (gE C CE)):=by
 show Nh ["told","values","at","ask","steps","often"] ?_ λd9W=>(qC (d9U 3 EV)
 (qC (d9U 4 (d85 2))
 (qC (e0V (f0x T.Mm<|e1M LB) b2M (dU Bx.K [5,6])
  (q1 (qI (d9b (ME hr (Đ 4)<|Đ 5))
  (qC (XH (n:=3) (e5B (cS 3 [0,6] [c6R,"field","ask"]) wS
  (λd94=>e2O rfl<|f0y (ag (pC 1)<|ag (pC 2) aI))
  P6
  (λd94=>e1L MU hr.m<|e0K (da (Đ 1)<|da zt LB))) rfl)
 (qC (qs 8 ND<|dF Qd hr.m rfl (da (Đ 0)<|da (Zv (Đ 4) Zt<|Zs (Đ 5)) nK))
 (qC (qS (e2b (cS 2 [0,6,8] ["number",sJ,"ask","often"]) (f0n T.Oo<|e0f ź)
  Ĝ
  P6
  (λd94=>e3w Lx hr.m<|da (RY (e1T (Đ 4)<|Đ 1)<|YA (e0G (Đ 0)<|ME hr (Đ 3) dI) dI dI) LB)) λe05=>oz (n:=2))
 (q1 (qS (aW (i:=4) ND rfl rfl rfl (cS 2 [0,8] b25) (f0n T.Oo<|e2c nK)
  (λd94=>e5L rfl<|f0y (ag (pC 1) aI))
  P6
  (λd94=>e3w Lx hr.m<|e87 LB)) λe05=>oz (K:=Bx.K) (n:=2))))))
  q0)))
 BK)))
 rintro _ _ @⟨p,mixed,A,R,B,s,p1,K1,pre,mz,az⟩;let p2:=((My.LH p).mp pre.prime).1;show .nx #[yY,Dr,#[mz]] (.nx #[yY,Dr,#[az]] ?_);show cZ A.zipIdx (u:=λz=>.tup [.int (z.2:Nat),f0z B z.1]) (λi ε=>∃ o5 o6 o7 o8,ε=[.fz<|fD C p,.fz<|rw mixed,.fz<|.lst c0M,.fz<|rw (e2e i).1,.fz<|rw (e2e i).2,o5,o6,o7,o8]) ⟨_,_,_,_,by ext1 Mk.R1;rw[a0e,a0e];rfl⟩ ⟨_,⟨rfl,rfl⟩,by rw[KZ,GV];rfl⟩ (λn e8b=>?_) λe3c=>?_
 ·ext d8E;rw[J4,Nat.zero_add]at hz;let#[a,ea,1]:=HI.mp hz;subst he;let hn:n<A.length:=(GS.mp ea).1;let am:=GY ea;let I:=Mk.Ve pre n #[];let st:e2e (n+1)=Mk.QB p mixed A s (e2e n) n:=rfl;let ega:e8y (0,0,0)=a:=by rw[GU,ea];rfl
  unfold Mk.QB Mk.X5 at st;rw[ega]at st;rw[st];clear st;generalize Mk.R1 p mixed A s n=M at I;let rd:=eq_int (ε:=[some<|fD C p,some<|rw mixed,some<|.lst c0M,some<|rw M.1,some<|rw M.2,some<|.int n,some<|f0z B a,o7.a,o8.a]) (ra:=e1N Ey<|rV 5) (rb:=rC<|.int 0) #[2,.l .lst<|di (by rw[I.l2];show hn)] rfl;show#[_,#[_,3],?_];by_cases c0:M.2.getD n 0=0
  ·rw[Hb c0]at rd;rw[if_neg λz=>z c0];let tl:((M.2.take n).length:Int)<p:=by
    rw[Hl];let:=pre.MN
    lia
   let tz:∀ u∈M.2.take n,¬ p ∣ u:=λu hu=>by
    let#[ET]:=HX.mp hu;rw[Jx];rw[Hl]at hi;let z1:=I.nz i #[];let z2:=Mk.QG #[] I.f2 i;rw[GU,GR<|show i<M.2.length by lia]at z1 z2;simp only[Option.getD_some]at z1 z2;intro z;let:=Lq #[] z
    lia
   let u3:=(Mk.WL pre.prime (ss:=A.map λb=>s b a.2.2) tl tz).2.2;let ub:=PR.mk (C:=C) (ss:=A.map λb=>s b a.2.2) pre.prime p1 tl (by rw[Hl];lia) tz λu hu=>I.f2 u<|KQ hu;generalize Mk.ub p (M.2.take n) (A.map λb=>s b a.2.2)=o at u3 ub ⊢;show#[_,.t rd<|.nx ⟨c7 (xs:=A) (u:=f0z B) (h:=λb=>.int<|s b a.2.2) (d:=rw (A.map λb=>s b a.2.2)) DZ az (λe3b=>#[_,#[2],1,by decide,#[2,wg,1],by rw[K1.sh b hb];show#[#[],p1,K1.has b hb a am,K1.pl b hb,(K1.fit b hb).1,(K1.fit b hb).2]])<|Fl.rt.inj c0N⟩ (.nx #[#[1,#[1,.lst,1,#[1],by rw[df,<- Jf]],2],ub]<|.nx ⟨c7 (xs:=mixed.zip M.1) (u:=λz=>.tup CA) (h:=λz=>.int<|((o:Int) * z.2+if z.1=a.2.2 then 1 else 0) % p) (d:=rw (List.zipWith (λk x=>((o:Int) * x+if k=a.2.2 then 1 else 0) % p) mixed M.1)) FO (by rw[Jb];lia) (λe8a=>#[BZ,nJ,#[#[#[2,uQ],?_,.i],1],#[#[]]]) ?_⟩ #[c7 (xs:=M.2.zip<|A.map λb=>s b a.2.2) (u:=λz=>.tup CA) (h:=λz=>.int<|((o:Int) * z.1+z.2) % p) (d:=rw (List.zipWith (λv x=>((o:Int) * v+x) % p) M.2<|A.map λb=>s b a.2.2)) FO (by rw[Jb,I.l2];lia) (λe8a=>#[BZ,nJ,b8F,#[#[]]]) ?_]),_,_,_,_,1]
   ·let r1:=eq_int (ε:=[some<|.int z.1,some<|.int z.2,some<|fD C p,some<|f0z B a,some<|.int o]) (ra:=rV 0) (rb:=e1N vj<|rC (.int 2)) rfl wg;by_cases e:z.1=a.2.2
    ·rw[Hb e]at r1;rw[if_pos e];show .t r1 rfl
    ·rw[GZ e]at r1;rw[if_neg e];show .f r1 rfl
   ·rw[<- IW];ext d7p
   ·rw[<- IW];ext d7p
  ·rw[GZ c0]at rd;rw[if_pos c0];show#[c6O,jY,1]
 ·ext d8E;subst he;rw[J3];show#[2]
open e
open L2.Wy
variable {c:Cl}{C:Addr}
def a5m (d1p){u:α->D}{J:Ú}(c7M)(k)(fin:∀ ε',I xs.length ε'->∃ ε2,r2 ε' Ce/\J ε2):∃ ε',e2M sK/\J ε':=
 let #[Qs]:=e59 k;let #[ε2,AU]:=fin ε' h2
 #[ε2,.nx h1 h3,h4]
inductive iy (c:Cl):Ä
 |mk {S:NS}:S.Ls.length<=1000->iy c [aK c S,.int 0] (tb [[]])
theorem nI:Sum Ξ Θ->Θ
 | .inl _=>[]
 | .inr w=>w
theorem c9 (S:NS)(N m:Nat)(ks:Ξ):Δ:=S.LW.map λg=>nI (bx uO ĩ g N m)
abbrev WQ (t:Δ):D:=.lst (t.map tb)
abbrev WO (t:List Δ):D:=.lst (t.map WQ)
inductive cD (c:Cl):Ä
 |mk {S:NS}{m N:Nat}{ç:Θ}:ç.length<=1000->(∀ ks∈ç,WG S (!ks) N/\∀ g∈S.LW,∃ w,bx uO ĩ g N m=.inr w)->S.Lv.length<=1000->1<=m->m<=1000->m * N+N<=1000->cD c [DD,tb ç] (WO (ç.map (c9 S N m)))
def MJ:au [zP,"chosen","listeners","told","choice","by_listener","listener","found"] ï (d8Z 87):=Pa
def c23 [Bx:Bd](Lu)(Qc):Tk 5 "ways_by_choice" (top 87) ï (d87 cD):=by
 ext d2P;let ND:=MJ.nd;show F.dv MJ ?_ λe0q=>(qC (d82 3 Lu)
 (qC c2j
 (qC (e0r wS Fw (aN 5)
  (qC c2n
 (qC (e0r (aD<|Đ 3) CB (aN 7)
  (qC (qs 8 ND<|dF Qc hr.m rfl Id)
 (qC (qI (e0G (ME hr (Đ 8) dI) iV)
  D8
  q0)
 dBo)))
 (qZ 6<|q1 (qA (aE<|e9j (a9 (Đ 6) K')) λe0c=>h)))))
 (qr<|Đ 4))))
 rintro _ _ @⟨S,m,N,ç,hc,hw,hp,Vk,hm,hz⟩;let ll:S.LW.length<=1000:=by ext1 NS.LW;rw[GP];show HE wT hp
 show#[1,.inl<|.nx ⟨rfl,rfl,by decide,⟨hp⟩⟩ (.nx ⟨⟨rfl,by simp,rfl⟩⟩ ?_)];show cZ ç (λi ε=>∃ o5 o6 o7 o8,ε=[.fz<|aK c S,.fz<|.int m,.fz<|tb ç,.fz<|aY S.LW,.ow<|WO ((ç.take i).map<|c9 S N m),o5,o6,o7,o8]) ⟨_,_,_,_,rfl⟩ ⟨rfl,.l .lst⟩ (λi ks ε hk gR=>?_) λe3c=>?_
 ·ext d8E;ext d7o;let#[O,W]:=hw ks<|GY hk;show⟨_,rfl,pV ⟨⟨rfl,by simp,rfl⟩⟩ ?_⟩;show a5m S.LW (λj ε=>∃ o7 o8,ε=[.fz<|aK c S,.fz<|.int m,.fz<|tb ç,.fz<|aY S.LW,.ow<|WO b46,.fz<|rw ks,.ow<|WQ ((S.LW.take j).map λg=>nI<|e7f (S.Mu.map (·.1)) g N m),o7,o8]) ⟨_,_,rfl⟩ ⟨rfl,.l .lst⟩ (λj e8c=>?_) λe3c=>?_
  ·let#[o7,o8,he]:=gR;subst he;let#[wy,Xb]:=W g<|GY hg;let jl:=(GS.mp hg).1;let c1:=RD.mk (c:=c) O (GY hg) Vk hm hz;rw[Xb]at c1;let rd:=eq_str (ε:=[some<|aK c S,some<|.int m,some<|tb ç,some<|aY S.LW,some<|WO b46,some<|rw ks,some<|WQ ((S.LW.take j).map λg=>nI<|bx c0O ĩ g N m),some<|.str g,some<|lU (.inr wy)]) (ra:=e1N (rV 8)<|rC DX) (rb:=rC<|.str "cut") wg rfl;rw[GZ<|by decide]at rd;show#[_,1,_,.nx #[#[5],c1]<|.nx Au #[1,by simp;lia,.z wg],.fz<|.str g,.fz<|lU (.inr wy),?_];rw[aP hg,He,Hu,J0,Xb,show WQ (_++[nI<|.inr wy])=.lst (List.map tb _++[tb wy]) from congrArg D.lst He];rfl
  ·let#[o7,o8,he]:=gR;ext d2Q;show#[_,#[_,2,by simp;lia,.z rfl],.fz<|rw ks,.fz<|WQ (c9 S N m ks),o7,o8,?_];rw[aP hk,He,Hu,J0,show WO (_++[c9 S N m ks])=.lst (List.map WQ _++[WQ<|c9 S N m ks]) from congrArg D.lst He];rfl
 ·let#[jY,he]:=gR;ext d48
inductive cJ (c:Cl)(c7j)(Rm:Ä):Ä
 |mk {S:NS}{m N:Nat}{p:Int}{d:D}:My.O5 p=true->p<=1000000->WG S (![]) N->a6E->S.Lv.length<=1000->1<=m->m<=1000->m * N+N<=1000->(S.LW.length:Int)<=p->Rm [DD,fD C p,tb [[]],WO [c9 S N m []]] d->cJ c C Rm Ab d
def N7:au [c6H,BR,"needed"] á (ae B6):=Pa
def vU [Bx:Bd](d17)(PD:Mo 6 "made_plan" õ (Pr Rm)):QH N5 7 f fd á (Pr Ay):=by
 let ND:=N7.nd;show MO.dv F N7 ?_ λe0q=>(qC (qs 4 ND<|e3a Ŕ)
 (qC (qs 5 ND<|dF Nq hr.m rfl b5V)
 (qC (qs 6 ND<|f1i b5x)
 (qC (qs 7 ND<|e1T b4w (d85 5))
 (qC (qI b7i
  D8
  q0)
 (qr<|dF PD hr.m rfl (da (Đ 0)<|e0f (da (Đ 4)<|e1r (e4y LB)))))))))
 rintro _ _ @⟨S,m,N,p,d,hP,p1,O,W,hp,Vk,hm,hz,hl,M⟩;ext d4d;rw[GZ<|by lia]at rd;show#[1,.inl<|.nx vw (.nx #[#[3],#[O.tl]]<|.nx ⟨⟨rfl,rfl,rfl,rfl⟩,e1k hz⟩ (.nx a8Y<|.nx Au #[#[#[6],M],1]))]
open e
universe K72
namespace L2
open PySem PySem.Spec PyProof.Rows
inductive V4 (c9I)(vs:π)(H:Hp)(x2:VK)(E:XK):∀ F l C,f' F H->LO F l vs->R l C->(∀ od H',f' H H'->E x6 od H')
abbrev Rz:=Ev->Addr->Prop
theorem tX (c9c)(F0 H0:Hp)(e:Rz):TS:=λ_ e3i=>∃ F ε C,e6p H ε/\e ε C/\∀ σ' od H',f' H0 H'->W σ' x6 od H'
theorem QX (X)(c9c)(st)(e:Rz):Prop:=∀ F0 H0,e0Q (tX W F0 H0 e)
theorem NE (X)(c9c)(st:Í)(e:Rz):Prop:=∀ F0 H0,Q2 X st (tX W F0 H0 e)
variable {st:Stmt}{r:Rs}{z:Rz}{rt:Å}
inductive zNx (r:Rs)(z:Rz)(d1H):∀{ε1:Ev},r ε (.nx ε1)->z ε1 C
def xC (c9O)(k:NE X W ss z):e9y (zNx r z):=λe1Q=>(af wJ<|k F0 H0).imp λe0g=>by let#[EL,C,S,#[ZL],p]:=gR;show#[Bv,λe3O=>#[F',_,C,S',h2,p]]
def x1 (h:QX X W st z):e9y z:=λe1Q=>(af wJ PQ).imp λE e3i h=>h
inductive zIf (rt:Å)(z:Rz)(d1H):Prop
 |t:rt ī true->z ε C->zIf rt z ε C
def c5H (h:e8f Ee)(ha:NE X W a z):QX X W zh (zIf rt z):=λe1Q=>(fm h (ha F0 H0) PQ).imp λE e3i ⟨F,ε,C,S,⟨h1,h2⟩,p⟩=>
 #[_,_,true,S.a,h1,λe13=>#[EL,C,S.N0 e1,h2,p]]
inductive Ca (d0R)(zb:Rz):Ev->List D->Addr->Prop
 |next {ε ε1 ε2:Ev}{d:D}{l:χ}{C:Addr}:q d ε ε1->rb ε1 Ce->Ca q rb zb ε2 l C->Ca q rb zb ε (d::l) C
 |ex {ε ε1:Ev}{d:D}{l:χ}{C:Addr}:q d ε ε1->zb ε1 C->Ca q rb zb ε (d::l) C
inductive a2U (ri:Ri)(d0R)(zb:Rz)(d1H):∀{l:χ},ri Em l->Ca q rb zb ε l C
instance xL (hp)(hc)(hi)(ht:PG X tg g)(hg:YE g q)(hb:S9 X ss rb)(hx:NE X W ss zb)(hs):
  QX X W Op (a2U ri q rb zb):=λF0 H0=>(bB hp hc hi ht (tb:=λE σ H=>tQ F0 H0 rb E σ H\/tX W F0 H0 zb E σ H) (λñ s σ H D I h=>h.elim (hb F0 H0 ñ s σ H D I)<|hx F0 H0 ñ s σ H D I) hs).imp fun E σ H ⟨F,ε,C,S,.mk (l:=l) h1 h2,p⟩=>by
 show#[F,_,l,S.z,h1,λJ H1 e1 hJ=>?_];show#[λi m σ H=>m=l.length - i/\i<=l.length/\∃ F' ε',f' _ F'/\Ss F0 H0 F' σ H ε'/\Ca q rb zb ε' (l.drop i) C,#[_,1,HP _,_,ε,f'.refl _,S.grow e1,h2],?_];rintro i m σ H ⟨rfl,hi,F',ε',u,S',w⟩;by_cases c:i<l.length
 ·rw[Jd c]at w;let#[go,yl]:=(hJ.mono u).go H i l[i] S'.le<|GR c;show .inr #[go,?_]
  cases w with
  | next t b w=>
   show#[λσ' H'=>∃ F2,f' _ F2/\Ss F0 H0 F2 σ' H' _,λσ2 H2 gR=>(by let#[F2,u2,S2]:=gR;show#[_,#[],1,c,F2,_,u2,S2,w]),λx H2 y=>?_];let#[e2,hx]:=yl x H2 y;show hg ą ą x _ (S'.grow e2) hx t λσ3 S3=>.inl #[_,_,_,S3,b,λσ4 H4 F4 u4 S4=>#[F4,u.trans<|(ao S'.le).trans u4,S4]]
  | ex t b=>
   show#[λ_ _=>False,λ_ _ z=>z.elim,λx H2 y=>?_];let#[e2,hx]:=yl x H2 y;show hg ą ą x _ (S'.grow e2) hx t λσ3 S3=>.inr #[_,_,_,S3,b,p]
 ·rw[List.drop_of_length_le<|by lia]at w
  cases w
inductive ZF (c7j)(R:List D->Prop)(d0z):∀ F ea l ws,vs=.ref ea::ws->H ea=!BT ea C->((∀ b o,F b=!o->b≠ea/\H b=!o))->LO F l ws->R l->(∀ dx H',(∀ b o,b≠ea->H b=!o->H' b=!o)->H' ea=!xk ea C dx->Q .non H')
inductive zRz (c7j)(rs:Á)(R:List D->Prop)(ε:Ev):Addr->Prop
 |mk {l:χ}:rs ī l->R l->l.length<=1000->zRz C rs R ε C
def b4Y (d03)(Dd:e2K (ZF C R))(c7I)(c7A)(c8Y):
  QX X W a83 (zRz C rs R):=λe1Q=>(Bc O hc hw hg Dd hr ha OO RK Oi).imp λe0g=>by
 let#[EL,C',S,h,p]:=gR;let#[Lf]:=h;show NO.go S.a h1 λvs d97=>#[HE (by rw[q1.length];show h3)<|by decide,λea VY=>#[_,ea,_,vs,1,ai,λb o w=>?_,q1,h2,λdx H' k1 k2=>#[1,dx,k2,p Ĉ λb o w=>?_]]]
 ·let:=e1J w;let ne:=aj this VY;show#[ne,by rw[aa ne];show this]
 ·let w1:=e1 ĉ<|S.b0 _ _ w;let ne:=aj w1 VY;rw[aA ne];show k1 b o ne (by rw[aa ne];show w1)
inductive Cf (rs:Á)(c9I)(d1H):∀{l:χ},rs ī l->R l C
def Se.go (S)(h:Cf rs R ε C)(p:∀ σ' od H',f' H0 H'->W σ' x6 od H'):Se (V4 R) W iL σ H Q:=by ext d7T;show NO.go S.a h1 λvs d97=>#[_,_,C,S1.le,q1,h2,λod H' e=>p Ĉ<|S.b0.trans (e1.trans e)]
def nd0 (h:e0Q (mH (Se (V4 R) W iL) lW)):QX X W st (Cf rs R):=λe1Q=>h.imp λe0g=>by let#[EL,C,S,h,p]:=gR;show Se.go S h p
open e
variable {K:Ψ}{st:Stmt}{k:Nat}{R:List D->Addr->Prop}{z:Rz}
theorem b4P (n m:Nat)(z:Rz)(c9I):Prop:=∀ l C,R l C->l.length=m/\z (ent n l) C
def OT.dvE (c7f)(c7k):e1u (V4 R):=
 F.okX S a4m λd9Y gR=>by let#[F,l,C,s1,hl,hR,q]:=gR;show#[c3c]
def MO.dvE (c9P)(c7k):e1u (V4 R):=
 MO.okX F S a4m λd9Y gR=>by let#[F,l,C,s1,hl,hR,q]:=gR;show#[c3c]
def M9.qx (F:d9Z N5 k f fd ps sp):d9Z fQ k f fd ps sp:=
 #[F.len,λe47=>K6 (f01 hv hs) λr s' h=>by
  cases r with
  | error e=>show h.elim
  | ok f=>cases f <;> show h]
def M9.or (c9V)(F':e6n ps sp'):e6n ps λe20=>e09 E\/sp' vs H Q E:=
 #[λe20 h=>h.elim (F.len vs H Q E)<|F'.len vs H Q E,λe47=>hs.elim (f01 hv)<|F'.run A outer s H args us vs Q E hr he hb hv]
open e
def b4q (x:e5h h):e5h (h.push o):=by let#[oh,oe,vs,T,oT,ts,he,r1,hd,h1,hnT,hTe,hT,r2]:=x;let kp:∀ {b u},h.get? b=!u->(h.push o).get? b=!u:=λq=>GW _ q;show#[λe6B=>kp<|f1 b u q,f2,f3.of_keeps λe6B _=>#[u,kp q,1],oe,vs,T,oT,ts,kp he,r1,hd,h1,hnT,hTe,kp hT,r2]
theorem a26 (K)(C1 C2:Addr)(tb:(St->XK)->TS)(th:TS):TS:=λe6G=>
 tb (λσ' cls od H'=>e88 cls c1E=!true/\th D σ' H') D σ H
def Ft {x1:Str}{tb:(St->XK)->TS}(c9z)(hb:∀ pn W,Q2 oK body (tb W))(hh:∀ ea pn,Q2 (e94 pn) y6 th)(d1)(d2):
  PS X (.Try body a3O [] [] pos) (a26 X.K C1 C2 tb th):=by
 ext d2l;show wpAny_Try_except ?_;show IC (hb ñ _ [] s σ H D (I.ZT.RE _) h) (λf s1 q=>?_) (λe s1 q=>?_)
 ·cases f with
  | next=>
   let#[GD,I',q]:=q;show KW #[eV,q]
  | brk=>ext d5y;show#[eV,q]
  | cont=>ext d5y;show#[eV,q]
  | ret u=>let⟨v,σ',H',I',r,q⟩:=q;show#[v,eV,r,q]
 ·let#[Qy,σ',Hc,sc,Ic,ea,c4b,hW,hth]:=q;let I1:=Ic.SD os u LJ bare λb z=>e5W ė;let fl':=fl;rw[O.VE]at fl';let a9t:X.A.frames=!(X.env::X.outer):=by rw[I.ok.frames,O.VE]
  show wpAny_looks_onW a9t O.frm fl' λh4 held up4=>?_;show wpAny_landsW held λh5 fl5 up5=>?_;let hfr:∀ b∈Rc X.stack,∃ o,s1.heap.get? b=!o/\∀ vs,o.data≠.fields vs:=λe3b=>by let#[_,Gh]:=fl.2.2.1.mem hb;show#[Gh]
  let at_:∀ {h6:Heap},B.StaysIn h6->s1.heap.UpToSlots h6->Inv _ Qy σ' H' { s1 with heap:=h6 }:=λ{h6} hB up=>by let#[u6,a89,_]:=a9b u LJ fl.1 hB up hfr I1.PN old;show Ic.SD os u6 a89 bare λb z=>e5W ė
  let J5:=(at_ fl5.1<|up4.trans up5).TY (ea:=ea);show wpAny_handleBy_cons (codeAny_handlers_test<|wpAny_Tuple (wpAny_items_cons<|eB J5 g1 m1 (wpAny_items_cons<|eB J5 g2 m2 (wpAny_items_nil ⟨by size_fits,?_⟩) d2) d1)) (by intro q;cases q);let fl7:=b4q (o:={ cls:=.type "tuple",data:=.seq [uC].toArray }) fl5;let up7:h5.UpToSlots (h5.push { cls:=.type "tuple",data:=.seq [uC].toArray }):=λe44 _=>#[o.slots,GW _ q]
  let LT:PySem.W.Looks Ē (h5.push { cls:=.type "tuple",data:=.seq [uC].toArray }) (typeOf<|.ref ea) cls:=by let#[ob,hob,a9d]:=fl7.there;subst a9d;show (PySem.W.Looks.ld hob).andThen .now
  show (PySem.W.exm_tup2 ((at_ fl7.1<|up4.trans (up5.trans up7)).TY (ea:=ea)).Oy LT (Hw h5 rfl) hW).here ?_;show codeAny_handlers_suite ?_;show lands_againW fl7 λh6 fl6 up6=>?_;show IC (hh ea ñ [] _ _ _ D ((at_ fl6.1<|up4.trans (up5.trans<|up7.trans up6)).TY) hth) (λf s9 q9=>?_) (λ_ _ z=>False.elim z)
  cases f with
  | next=>ext d3F
  | brk=>ext d3F
  | cont=>ext d3F
  | ret u=>let⟨v,σ9,H9,I9,r,q⟩:=q9;show#[v,c3P,r,q]
inductive a0o (K:Ψ)(C1 C2:Addr)(rs:Á)(R:Ä)(Z:List D->Addr->Prop)(rr:Rs)(ε:Ev):Fl->Prop
 |ok {l:χ}{d:D}:rs ī l->R l d->a0o K C1 C2 rs R Z rr ε vX
 |no {l:χ}{C:Addr}{f:Fl}:rs ī l->Z l C->W.exmAny K x6 c1E=!true->rr ε f->a0o K C1 C2 rs R Z rr ε f
def a3A (K:Φ){x1:Str}{call:Expr}{kk:Nat}{dl:χ}(c9z)(d13)(hb:∀ pn W,PE oK call (zH (d8V R Z) dvs W iL))(hh:∀ ea pn,S9 (e94 pn) y6 rr)(d1)(d2)(hK):
  QS X (.Try [.Return (!call) rp] a3O [] [] pos) (a0o K C1 C2 rs zo (λl=>Z (l++dl)) rr):=hK▸λe1Q=>(Ft O g1 m1 g2 m2 (λpn W=>aq<|bo (hb pn W)) (λea pn=>hh ea pn F0 H0) d1 d2).imp λe0g=>by
 ext d6Y
 cases h with
 | ok h1 h2=>show NO.go S.a h1 λvs d97=>.inl #[_,_,_,S1.le,q1.app<|hd _,h2,λx e1v q2=>p x H2 (S.b0.trans<|e1.trans e2) (S.le.trans<|e1.trans e2) (by rw[aw e1 e2,aw S.b0<|e1.trans e2]at q2;show q2)]
 | no h1 h2 h3 h4=>show NO.go S.a h1 λvs d97=>.inr #[_,_,_,S1.le,q1.app<|hd _,h2,λod H' e=>#[h3,F,ε,f,S.N0<|e1.trans e,h4,p]]
open PySem.Calls PySem.W
open PySem.Builtin PySem.Builtin.ObjectAttr
def Di (c8e)(Wn:ox.dict=!d)(VX:s.heap.Ns1 d m)(wi:Within b1A L)(hL:L.length<=1000)(c8h)(h:∀ h' WM,h'.Ns1 d b1A->(∀ b o,b≠d->s.heap.get? b=!o->h'.get? b=!o)->R tJ { s with heap:=h',toks:=WM }):
  codeAny ē A b0l R s:=by
 ext d7z;ext d62;let I:f0A x ox C !od:=#[hx,RW,by ext1 notCls;rw[R7],by rw[Wn];show hod]
 ext d7R;let ne:cd.mro.isEmpty=false:=by cases q:cd.mro with|nil=>rw[q]at ho;cases ho|cons _ _=>rfl
 let sub:e2J (isInstance ĉ) true:=I.type.andThen<|looks_mroIn X (by ext1 mroIn;rw[hc,Option.bind_some,if_neg (by rw[ne];decide),yc _ ho]);show codeAny_call_builtin SF.slot.plain SF.entry (@check_slot Ĉ s "object.__setattr__" "object" "__setattr__" _ c13 [] _ SF.kind SF.split sub (SF.args ĉ v) ?_);ext d2E;let L3:e2J c0r none:=by
  cases attr with
  | none=>show .now
  | some a=>
   ext d3V
   cases b with
   | true=>cases e
   | false=>show .now
 ext d2U;let#[U6,g,dr,t,os]:=s;let#[ZA]:=ox;ext d5N;ext d6S;show GQ<|Hg (GQ (wpAny_nsSet1 VX λh' Vj hs=>?_));let#[BS]:=Vj.count wi;show GQ (e22 (by rw[hdD];show pastItsLine_dict<|HE hcD (by rw[Ir];lia)) ?_);show Hg (h h' _ Vj λb ob hbd hb=>(hs.2 b hbd).trans hb)
variable {X:Cx}{σ:St}{H:Hp}
def b6N:∀ {fs:Ï},fs.lookup g=!z->g∈fs.map (·.1):=by
 intro r'
 induction r' with
 | nil=>
  intro h
  cases h
 | cons p fs ih'=>
  intro h;rw[K8]at h
  cases hb:g==p.1 with
  | true=>cbv
  | false=>rw[hb]at h;show Hk _ (ih' h)
def a2L (I)(e:H ea=!xk ea C dx)(ed:H dx=!.xd fs)(hz:fs.length<=900)(T:ng X.K C f)(ry)(h:∀ s',d9X (d8U dx c1G) s'->Q () s'):e19 c1g Q E s:=by
 let#[c5w]:=id<|show pU ea C (!dx) s.heap from (I.LJ ea _ e).1;let#[mA,VX,a4r]:=(show LU X.prog X.w H s.heap dx (.xd fs) from I.LJ dx _ ed)
 ext d62;let IA:f0A ea ox C !od:=#[hx,hc,by ext1 notCls;rw[hd],by rw[Wn];show hod]
 let wi:Within (λg=>if g=f then some u else mA g) (f::fs.map (·.1)):=Within.cons f u λg hg=>by
  let hr:=a4r g
  cases hl:fs.lookup g with
  | none=>rw[hl]at hr;cases hm:mA g with
   | none=>show absurd hm hg
   | some z=>rw[hm]at hr;show (show False from hr).elim
  | some z=>show b6N hl
 let ned:ea≠dx:=λz=>by cbv
 show set_plain I.Oy IA T.sa (Di (s:={ s with toks:=s.toks+1 }) I.Oy hx hc hd Wn VX wi (by rw[HM,GP];lia) T.ov T.tk T.hd λh' WM Vj hk=>?_);show h _ (I.SD (ch:=[]) rfl ?_ ?_ I.bare λb z=>absurd z<|by simp)
 ·let old:∀ b,b≠dx->upd H dx (.xd<|(f,y)::fs) b=H b:=λe3b=>aa hb;show#[c2V]
  ·show hk b o (λz=>by rw[z,ed]at n;cases n) q
  ·show#[o.slots,hk b o (λz=>by rw[z,ed]at n;cases n) q]
  ·rw[old b (λz=>by rw[z,ed]at n;cases n)];show n
  ·by_cases hb:b=dx
   ·let#[o',_,_,U7,_]:=id Vj
    cbv
   ·show#[o,hk b o hb q]
  ·ext d44
  ·ext d44
  ·show#[[].toArray,by rw[old b (λz=>by rw[z,ed]at q;cases q)];simpa using q]
 ·intro a v q;by_cases hb:a=dx
  ·rw[hb,ai]at q
   ext d4u
   ·ext d3J
   ·rw[if_neg hg];let:(g==f)=false:=by simpa using hg
    ext d7S;show a4r g
  ·rw[aa hb]at q;show (e5V q).N0 b1S (λc P5=>?_) λc xs P5=>?_
   ·grind
   ·ext d4a;show P5
   ·ext d4a;show P5
inductive c3X (c7j)(c74):∀ ea dx fs,x=.ref ea->H2 ea=!xk ea C dx->H2 dx=!.xd fs->fs.length<=900->D.nx σ (upd H2 dx c1G)
theorem a0k (C)(ta tv:TE)(f):TS:=λe6G=>tv σ H λy H1=>ta σ H1 λx H2=>c3X C f D σ y x H2
def vO (c7e):PS X qV (a0k C ta tv f):=by ext d5M;let#[x,vN,rx,ea,zS,he,hd,hz,q2]:=gR;ext d5z;show a2L I2 he hd hz T ry λs3 I3=>#[σ,_,I3,q2]
open e
universe L2
namespace K72
open PySem L2
open PyProof.Rows (boot_all boot_bool boot_dict boot_int boot_list boot_sorted boot_str boot_tuple)
def b3k:au Ā Ā (ae oS):=Pa
def jq [Bx:Bd](T:f0B C "needed"):Tm 1 "__init__" "SmallPrime.__init__" oS Ā (ZF C λl=>∃ i:Int,l=EO):=by
 ext d2P;show F.ok b3k Y7 Fp
 ·let#[_,uu,_,_,hl,#[i,1],_]:=h;let#[v,_,1,_,h]:=hl
  cases h;rfl
 ·let#[_,uu,he,_,hl,#[i,1],q]:=h;let#[v,_,1,_,h]:=hl
  cases h;show#[_,aq<|zR T (pv 0) (pv 1) rfl,?_];show⟨_,rfl,_,rfl,ea,rfl,he,λdx hd ne=>q dx _ (λe3p=>?_) ai⟩;rw[aa nb,aa<|aj hb hd];show hb
inductive b2x (c8p):∀(a:Addr) (xs:π),vs=Ty->H a=!.lst xs->(∀ l H',f' H H'->H l=none->Q qE H')
def a5T:au Gz Gz (d8Z 2):=Pa
def b2l [Bx:Bd](h1:Bx.mg "isinstance"=none)(h2:Bx.mg "list"=none)(TL:W.kitOne Bx.K Ņ Ņ=!true):Tk 1 "kept" (top 2) Gz b2x:=by
 ext d2P;show F.k a5T λe2C=>?_
 ·let#[a,xs,1,ha,q]:=h;show#[_,af (fm (cN<|e9z h1 bT (d8Q EB (jV (v:=.ty "list") rfl h2 boot_list rfl))) (d9R (eK (listS Bx.K) rfl h2 boot_list<|a9 EB K')) ML) PQ,?_];show#[_,1,.ref a,BY,1,.lst ha,TL,_,1,Gi ?_];show#[_,1,a,xs,1,.inl<|LS.of ha,λl H' e h0 _=>q l H' e h0]
def b2T:au è è (ae jE):=Pa
def wq [Bx:Bd](T1:f0B C "fallen")(T2:f0B C "name")(T3:f0B C "numbers")(Uo:Mo 1 "kept" Gz b2x):Tm 2 "__init__" "Cut.__init__" jE è (ZF C λl=>∃ xs z ys,l=b6C):=by
 ext d2P;show F.ok b2T Y7 Fp
 ·let#[_,uu,_,_,hl,#[xs,z,ys,1],_]:=h;let#[wG,BY,1,BY,1,_,h]:=hl
  cases h;rfl
 ·let#[F0,uu,he,hF,hl,#[xs,z,ys,1],q]:=h;let#[wG,#[a,us,1,ha,_],wG,hz,wG,#[b,vs,1,hb,_],h]:=hl
  cases hz
  cases h;let ha:=(hF ĉ ha).2;let#[nbe,hb]:=hF ĉ hb;show#[_,af (zR T1 EB (aO Uo hr.m rfl<|e7g K') rfl)<|af (vO T2 EB Gk rfl) (aq<|vO T3 EB (aO Uo hr.m rfl<|a9 (pv 3) K') rfl),?_];show⟨_,rfl,a,us,rfl,ha,λla e13 h1=>#[_,1,ea,1,e1I he,λdx XR ne=>?_]⟩;show#[CJ,ea,zV,ai,(by rw[aa ne];show ai),(by change 1<=900;decide),?_];let kb:∀ c o,c≠ea->H c=!o->(upd (upd (upd H1 dx<|.xd [("fallen",.ref la)]) ea<|xk ea C dx) dx<|.xd [("name",.str z),("fallen",.ref la)]) c=some o:=λc o nc hc=>by let Yn:=e1I hc;rw[aa<|aj Yn XR,aa nc,aa<|aj Yn XR];show Yn
  show#[_,1,b,vs,1,kb b _ nbe hb,λlb e1v h2=>?_];show#[_,1,ea,zV,e1b (by rw[aa ne.symm];show ai),e1b ai,(by change 2<=900;decide),?_];show q dx _ (λc o nc hc=>?_) ?_
  ·rw[aa<|aj (e1I hc) XR];show e2 ĉ (kb c o nc hc)
  ·rw[aa ne.symm];show e2 ĉ (by rw[aa ne.symm];show ai)
open L2.Wy
open PyProof.Rows (boot_any)
def qNs:S9 X ss λ_ _=>False:=λe1Q=>PQ.imp λe0g=>by let#[ZG]:=gR;show h.elim
def b6Q:∀ (n:Nat)(xs:List α)(I:Ö){ε:Ev},I 0 ε->xs[n]?=!x->(∀ i y ε,i<n->xs[i]?=!y->I i ε->∃ ε1,q (u y) ε ε1/\∃ ε2,e5w Ce/\I (i+1) ε2)->
  (∀ ε,I n ε->∃ ε1,e2V ε1/\zb ε1 C)->Ca q rb zb ε yE C:=by
 intro n
 induction n with
 | zero=>
  intro xs I ε h0 hx _ fin
  cases xs with
  | nil=>cases hx
  | cons y xs=>cases hx;let#[ε1,a,b]:=fin ε h0;show .ex a b
 | succ n ih=>
  intro xs I ε h0 hx k fin
  cases xs with
  | nil=>cases hx
  | cons y xs=>
   let#[ε1,a,ε2,b,c]:=k 0 y ε (Nat.succ_pos _) rfl h0;show .next a b (ih xs (λi=>I<|i+1) c hx (λi y ε hi hy h=>k (i+1) y ε (Nat.succ_lt_succ hi) hy h) fin)
variable {c:Cl}{aC aS:Addr}
inductive AK (S:NS)(m N:Nat):∀{n:Nat}{g:Str}{ks:Ξ},S.LW[n]?=!g->bx Ps ĩ g N m=.inl ks->(∀ i h,i<n->S.LW[i]?=!h->∃ w,bx Ps ĩ h N m=.inr w)
inductive AG (c:Cl)(aC:Addr):List D->Addr->Prop
 |mk {S:NS}{m N:Nat}:WG S (![]) N->AK S m N->S.Lv.length<=1000->1<=m->m<=1000->m * N+N<=1000->AG c aC [DD,tb [[]]] aC
instance k8 [Bx:Bd](F:Fu Bx.K "ways_by_choice" (top 87) f fd)(Lu)(Qc)(XC:Ej 2 "Cut" aC è (ZF aC λl=>∃ xs z ys,l=[.lst xs,.str z,.lst ys])):QH SZ 5 f fd ï (V4 (AG c aC)):=by
 let ND:=MJ.nd;show F.dvE MJ ?_ λLz A outer s H E hr=>(xC (qS (pS 3 ND<|fe (Đ 0) Lu hr.m) λ_ _ _ h=>h)
 (xC (qO (pS 4 ND<|de LB) λ_ _ _ h=>h)
 (x1 (xL PassesOwn.leaving rfl (b1G<|Đ 2) (pN 5 ND) (aN 5) qNs
  (xC (qO (pS 6 ND<|de LB) λ_ _ _ h=>h)
 (x1 (xL PassesOwn.leaving rfl (b1G<|Đ 3) (pN 7 ND) (aN 7)
  (qC (qs 8 ND<|dF Qc hr.m rfl Id)
 (qC (qI (dT bn cF (ME hr (Đ 8) dI) iV)
  (q1 b4A)
  q0)
 dBo))
  (xC (qS (pS 8 ND<|dF Qc hr.m rfl Id) λ_ _ _ h=>h)
 (x1<|c5H (dT bn cF (ME hr (Đ 8) dI) iV) (x1<|b4Y nq rfl b65 rfl XC hr.m (da (Đ 5)<|da (Đ 7) (da (dS (aU hr) (Đ 8)<|dC aG) LB))))))))))))
 rintro _ _ @⟨S,m,N,O,⟨hg,ec,hn⟩,hp,Vk,hm,hz⟩;rename_i n g ks;let ll:S.LW.length<=1000:=by ext1 NS.LW;rw[GP];show HE (HK ĉ) hp
 show⟨rfl,.mk ⟨rfl,rfl,by decide,⟨hp⟩⟩<|.mk ⟨⟨rfl,by simp,rfl⟩⟩ (.mk rfl<|.ex rfl (.mk ⟨⟨rfl,by simp,rfl⟩⟩ (.mk rfl ?_)))⟩;show b6Q n S.LW (λj ε=>∃ o7 o8,ε=[.fz<|aK c S,.fz<|.int m,.fz<|tb [[]],.fz<|aY S.LW,.ow<|.lst [],.fz<|D.lst [],.ow<|WQ ((S.LW.take j).map λg=>nI<|bx ż (S.Mu.map (·.1)) g N m),o7,o8]) ⟨_,_,rfl⟩ hg (λj h ε hj hh gR=>?_) λε gR=>?_
 ·let#[o7,o8,he]:=gR;subst he;let#[wy,Xb]:=hn j h hj hh;let jl:=(GS.mp hh).1;let c1:=RD.mk (c:=c) O (GY hh) Vk hm hz;rw[Xb]at c1;let rd:=eq_str (ε:=[some<|aK c S,some<|.int m,some<|tb [[]],some<|aY S.LW,some<|.lst [],some<|D.lst [],some<|WQ ((S.LW.take j).map λg=>nI<|bx ż ĩ g N m),some<|.str h,some<|lU (.inr wy)]) (ra:=rO Sub (rV 8)<|rC (.int 0)) (rb:=rC<|.str "cut") #[2,.t rfl] rfl;rw[GZ<|by decide]at rd;show#[_,1,_,.nx #[#[5],c1]<|.nx (.f rd rfl) #[1,by simp;lia,.z #[2,.t rfl]],.fz<|.str h,.fz<|lU (.inr wy),?_];rw[aP hh,He,Hu,J0,Xb,show WQ (_++[nI<|.inr wy])=.lst (List.map tb _++[tb wy]) from congrArg D.lst He];rfl
 ·let#[o7,o8,he]:=gR;subst he;let c1:=RD.mk (c:=c) O (GY hg) Vk hm hz;rw[ec]at c1;let rd:=eq_str (ε:=[some<|aK c S,some<|.int m,some<|tb [[]],some<|aY S.LW,some<|.lst [],some<|D.lst [],some<|WQ ((S.LW.take n).map λg=>nI<|bx ż ĩ g N m),some<|.str g,some<|lU (.inl ks)]) (ra:=rO Sub (rV 8)<|rC (.int 0)) (rb:=rC<|.str "cut") #[2,.t rfl] rfl;rw[Hb rfl]at rd;show#[_,1,.mk #[#[5],c1]<|.t rd (.mk #[2,#[2,.t rfl],1] #[_,_,_,1] (by change 3<=1000;decide))]
inductive xX (c:Cl)(aC:Addr):List D->Addr->Prop
 |mk {S:NS}{m N:Nat}{p:Int}:My.O5 p=true->p<=1000000->WG S (![]) N->AK S m N->S.Lv.length<=1000->1<=m->m<=1000->m * N+N<=1000->xX c aC Ab aC
def wA [Bx:Bd](c7V)(LX)(Nq)(LZ:Et 5 "ways_by_choice" ï (V4 (AG c aC))):f0C (V4 (xX c aC)):=by
 let ND:=N7.nd;show MO.dvE F N7 ?_ λe0q=>(xC a5W
 (xC a4L
 (x1<|nd0 (pS 6 ND<|a5e a0G LZ hr.m rfl b5x))))
 rintro _ _ @⟨S,m,N,p,hP,p1,O,W,hp,Vk,hm,hz⟩;show#[1,.mk vw<|.mk #[#[3],#[O.tl]] #[#[4],#[O,W,hp,Vk,hm,hz]]]
inductive io (c:Cl)(aS:Addr):List D->Addr->Prop
 |mk {S:NS}{m N:Nat}{p:Int}:My.O5 p=true->p<=1000000->WG S (![]) N->a6E->S.Lv.length<=1000->1<=m->m<=1000->m * N+N<=1000->p<(S.LW.length:Int)->io c aS Ab aS
def c40 [Bx:Bd](d17)(OX:Ej 1 "SmallPrime" aS Ā (ZF aS λl=>∃ i:Int,l=EO)):f0C (V4 (io c aS)):=by
 let ND:=N7.nd;show MO.dvE F N7 ?_ λe0q=>(xC a5W
 (xC a4L
 (xC (qS (pS 6 ND<|f1i (da (Đ 0)<|e0f (e1r LB))) λe0c=>h)
 (xC (qS (pS 7 ND<|e1T b4w (dG T.Ma<|Đ 5)) λe0c=>h)
 (x1<|c5H b7i (x1<|b4Y nq rfl b65 rfl OX hr.m nK))))))
 rintro _ _ @⟨S,m,N,p,hP,p1,O,W,hp,Vk,hm,hz,hl⟩;let ll:S.LW.length<=1000:=by ext1 NS.LW;rw[GP];show HE wT hp
 ext d4d;rw[Hb<|by lia]at rd;show#[1,.mk vw<|.mk ⟨⟨rfl,rfl,rfl⟩,⟨O.tl⟩⟩ (.mk ⟨⟨rfl,rfl,rfl,rfl⟩,e1k hz⟩<|.mk a8Y (.t rd<|.mk #[2] #[_,1] (by change 1<=1000;decide)))]
open e
theorem okN (ch:Ξ)(n:Int):Bool:=decide (ch.length=0) || decide b4b
theorem uU (ch:Ξ)(b:Θ)(n:Int):Θ:=if okN ch n=true then b++[ch++[n]] else b
theorem eU (ç)(nums:Ξ):Θ:=ç.foldl b3L []
def c2I (ch:Ξ):∀ (nums:Ξ)(b:Θ),(f1j b).length<=b.length+nums.length:=by
 intro r'
 induction r' with
 | nil=>
  intro b;show Hi _
 | cons n ns ih'=>
  intro b;rw[Jm,HM];show HE (ih' _) ?_;ext1 uU;split <;> simp <;> lia
def a47 (nums:Ξ):∀ (ç b:Θ),(ç.foldl b3L b).length<=b.length+ç.length * nums.length:=by
 intro r'
 induction r' with
 | nil=>
  intro b;simp
 | cons ch cs ih'=>
  intro b;rw[Jm,HM,K7];let h1:=ih'<|f1j b;let h2:=c2I ch nums b
  lia
def a8x {ch:Ξ}(h:ch.length≠0):RC (ch.map D.int) (-1)=!.int (ch.getD (ch.length - 1) 0):=by
 let h2:ch.length - 1<ch.length:=#[0]
 ext1 RC WB;rw[GP,if_neg<|by omega,if_pos<|by omega,show (-1+(ch.length:Int)).toNat=ch.length - 1 by omega];simp[GR h2]
theorem uz (nums:Ξ):Nat->Θ
 | 0=>[[]]
 | k+1=>eU (uz nums k) nums
theorem zg (nums:Ξ):Nat->Θ
 | 0=>[[]]
 | k+1=>zg nums k++uz nums (k+1)
variable {c:Cl}
inductive b12:Ä
 |mk {ç:Θ}{nums:Ξ}:ç.length * nums.length<=1000->(∀ ch∈ç,ch.length<=1000)->b12 [tb ç,rw nums] (tb (eU ç nums))
def a2C [Bx:Bd](c7R):Tk 1 "longer_by_one" (top 72) b9n (Pr b12):=by
 show Nh ["told","choice","number"] ?_ λd9W=>(qC Dy
 (qC (f0Z YZ (aN 3)
  (q1 (e0r Ÿ lK (aN 4)
  (q1 (qI (PW.pt<|A7 (d9b Yt) (lm<|e6e (Đ 4) (ME hr (Đ 3)<|dNg aG)))
  (q1<|qA (aE<|d93 Gk (a9 (f0m (de<|e2c LB).p) K')) (λe0c=>h))
  q0)))))
 sG))
 rintro _ _ @⟨ç,nums,hz,hc⟩;show .nx oE ?_;show cZ ç (λi ε=>∃ o3 o4,ε=[.fz<|tb ç,.fz<|rw nums,.ow<|tb (eU (ç.take i) nums),o3,o4]) ⟨_,_,rfl⟩ ⟨rfl,.l .lst⟩ (λi ch ε hi gR=>?_) λe3c=>?_
 ·let#[o3,o4,he]:=gR;subst he;let Zk:=(GS.mp hi).1;let bl:=a47 nums Fm [];rw[Hl,KY<|by omega]at bl;let bm:=KO nums.length (show i+1<=ç.length by omega);show⟨_,rfl,Gp nums (λj ε=>∃ o4,ε=[.fz<|tb ç,.fz<|rw nums,.ow<|tb ((nums.take j).foldl Zc<|eU Fm nums),.fz<|rw ch,o4]) ⟨_,rfl⟩ ⟨rfl,.l .lst⟩ (λj n ε hj gR=>?_) λε' gR=>?_⟩
  ·let#[o4,he]:=gR;subst he;let hjl:=(GS.mp hj).1;let b2:=c2I ch (nums.take j)<|eU Fm nums;rw[Hl,KY<|by omega]at b2;let b3:(eU Fm nums).length<=i * nums.length:=by ext1 eU;simpa using bl
   rw[aP hj,Lj,Jm,List.foldl_nil];generalize (nums.take j).foldl Zc (eU Fm nums)=b at b2 ⊢;let r1:=eq_int (ε:=a5s) (ra:=rF OP<|rA vj Uu) (rb:=rC<|.int 0) ⟨⟨rfl,rfl⟩,OP.m⟩ rfl;let ho:rOr (λε b=>rO EY (rF OP<|rA vj Uu) (rC<|.int 0) ε<|.bl b) (λε b=>rO (fI a9T λi j=>RH<|.bl (decide (j<i))) Ey (e1N vj<|rC (.int<|-1)) ε<|.bl b) a5s (okN ch n):=by
    by_cases c0:ch.length=0
    ·rw[Hb<|by omega]at r1;rw[show okN ch n=true by simp[okN,c0]];show .t r1
    ·rw[GZ<|by omega]at r1;rw[show okN ch n=decide b4b by ext1 okN;rw[GZ c0,Lr]];show .f r1 (gt_int rfl #[2,.l .lst<|a8x c0])
   by_cases c1:okN ch n=true
   ·rw[c1]at ho;show#[_,1,_,.t ho #[1,by simp;omega,.z #[1,yY,.l (by let:=hc ch<|GY hi;simp;omega)]],.fz<|.int n,?_];rw[show uU ch b n=b++[ch++[n]] from if_pos c1,show tb (b++[ch++[n]])=.lst (b.map rw++[rw (ch++[n])]) from congrArg D.lst He,show rw (ch++[n])=.lst (ch.map .int++sQ) from congrArg D.lst He];rfl
   ·rw[Bool.eq_false_iff.mpr c1]at ho;show#[_,1,_,.f ho rfl,.fz<|.int n,by rw[show uU ch b n=b from if_neg c1];rfl]
  ·let#[o4,he]:=gR;subst he;show#[.fz<|rw ch,o4,?_];rw[HJ,aP hi];ext1 eU;rw[Lj];rfl
 ·ext d8D;ext d48
inductive a2q (c:Cl):Ä
 |mk {S:NS}{k:Nat}:S.Ls.length<=1000->k<=1000->(∀ j,j<k->(uz ł j).length * S.Ls.length<=1000/\(∀ ch∈uz ł j,ch.length<=1000)/\(zg ł j).length<=1000)->a2q c [aK c S,.int k] (tb (zg ł k))
def a13 [Bx:Bd](T:qL Bx.mg)(Ly)(NN:Mo 1 "longer_by_one" b9n (Pr b12)):Tk 2 "choices" (top 73) ý (d87 a2q):=by
 show Nh ["numbers","told","longest","turn"] ?_ λd9W=>(qC (e3x (e5y c1H BD
  Ĕ
  P6
  (λd94=>e3U dI)) rfl)
 (qC (d9F 3)
 (qC (d9F 4)
 (qC (e0V DQ Fw (aN 5)
  (qC (qs 4 ND<|dF NN hr.m rfl b5S)
 (d9r 3 (RY (Đ 3)<|Đ 4))))
 BK))))
 rintro _ _ @⟨S,k,hl,hk,hb⟩;show .nx #[be gi hl λt _=>#[_,3,.t rfl]]<|.nx ⟨⟨⟨⟨rfl,by simp,rfl⟩,rfl⟩,by simp,rfl⟩⟩ (.nx ⟨⟨⟨⟨rfl,by simp,rfl⟩,rfl⟩,by simp,rfl⟩⟩ ?_);rw[show D.lst _=rw (S.Ls.map (·.1)) by rw[show rw (S.Ls.map (·.1))=.lst _ from rfl,GV];rfl];show cZ (List.range k) (λi ε=>∃ o5,ε=[.fz<|aK c S,.fz<|.int k,.fz _,.fz<|tb (zg ł i),.fz<|tb (uz (S.Ls.map (·.1)) i),o5]) ⟨_,rfl⟩ ⟨k,hk,⟨rfl,rfl⟩,(bK _).symm⟩ (λi x ε hi gR=>?_) λe3c=>?_
 ·let#[o5,he]:=gR;subst he;let Zk:=(jT hi).2;let#[Bz]:=hb i Zk;show#[_,1,_,.nx #[#[3],.mk (by rw[GP];show b1) b2] #[2,.l ?_],.fz<|.int x,?_]
  ·let:=a47 ł (uz ł i) [];rw[GP,GP];let:(eU (uz ł i)<|S.Ls.map (·.1)).length<=1000:=by ext1 eU;simpa using HE this (by simpa using b1)
   lia
  ·rw[show zg ł (i+1)=zg ł i++uz ł (i+1) from rfl,show tb _=.lst _ from congrArg D.lst He];rfl
 ·let#[o5,he]:=gR;rw[HL]at he;subst he;show#[2]
def a1s [Bx:Bd](h:Mo k "choices" ý (d87 a2q)):Mo k "choices" ý (d87 iy):=
 let #[kQ,a,b,c',d]:=h
 #[f,fd,a,b,c',d.imp λe20 gR=>by let#[F,l,d,s,ZL,q]:=gR;let#[hl]:=h2;show#[F,_,_,s,h1,.mk hl #[0] λj z=>absurd z<|Kl _,q]]
open e
def av {D:Ends}(h:∀ P:Υ,(∀ σ' H',u D σ' H'->P σ' H')->t { D with nx:=P } σ H):a28 t u D σ H:=h (u D) λ_ _=>id
theorem UT (d)(H H':Hp):Prop:=∀ a o,a≠d->H a=!o->H' a=!o
def UT.of (e):UT d H H':=λa o _ h=>e a o h
def UT.trans (a:UT d H H1)(b:UT d H1 H2):UT d H H2:=λc o n h=>b c o n (a c o n h)
theorem NS.put (S:NS)(x)(k:Kd):NS:={ S with Lv:=S.Lv++[(x,k)] }
def Mq.put (N)(hd:H dp=!.dK ķ)(hp:Paired a67 ķ S.Lv)(pa:Nk c H EH p)(e:UT dp H H')(Q1:H' dp=!.dK (ķ++[(Sum.inr p.1,.ref a)])):e4r (S.put p.1 p.2):=by
 let#[#[dx,h1],_,#[kt,h3,p3],h4]:=N;let VP:∀ {v:V}{q:Str×Kd},e8n q->Nk c H' v q:=λgR=>by let#[tH,hb]:=gR;show#[tH,e ĉ mO hb]
 let X9:∀ {v:V}{t:M'},OI H v t->OI H' v t:=λgR=>by let#[b,eb,hb]:=gR;show#[b,eb,e ĉ mO hb]
 show#[#[dx,e ĉ (d8S h1 hd) h1],#[_,Q1,Paired.Qr (Paired.O3 hp λe28=>(by let#[x,y]:=gR;show#[x,VP y])) #[1,VP pa]],#[kt,e ĉ (Ne.symm h4) h3,Paired.O3 p3 λe28=>(by let#[x,y]:=gR;show#[x,X9 y])],h4]
def kK (c8V):∀ {ķ:ξ}{l:List α},Paired (λ(kv:jr×V) x=>kv.1=f x/\DR H (g x) kv.2) ķ l->ķ.map (·.1)=(l.map λx=>Zw).map (·.1)/\LO H ((l.map λx=>Zw).map (·.2)) ĸ:=by
 intro a b h
 induction h with
 | nil=>show#[2]
 | cons h r ih=>let⟨a,b⟩:=h;show#[by cbv,wG,b,ih.2]
def Nk.dr (h:e8n p):DR H (gJ c p) v:=let ⟨a,dx,e,q⟩:=h;#[a,dx,_,e,q,1,_,_,3]
def OI.dr (h:OI H v t):DR H (bA t) v:=let ⟨a,e,q⟩:=h;#[a,_,e,q,mE]
def Mq.dr (N):DR H (aK c S) (d9i n):=by let#[vz,_]:=N;let a:=kK<|Paired.O3 p2 λe28=>(by let#[a,b]:=gR;show#[a,b.dr]);let b:=kK<|Paired.O3 p3 λe28=>(by let#[a,b]:=gR;show#[a,b.dr]);show#[n,zV,h1,1,wG,#[dp,kp,1,.inl h2,a.1,a.2],wG,#[dt,kt,1,.inl h3,b.1,b.2],_,_,3]
def pr (hl:LO H l vs)(hR:R l d)(q:∀ x H',f' H H'->DR H' d x->Q x H'):e7R E0:=#[H,l,d,f'.refl _,hl,hR,λx H' e h=>q x H' e<|h.mono (aM Ě e)]
def XY (d1i):LO H [d] [v]:=#[wG,h,1]
def dr2 (d1i)(h'):LO H [d,d'] [v,v']:=#[wG,h,wG,h',1]
theorem Gm (S:NS)(k:Kd):Bool:=decide (20<=S.Lv.length) || (VL k&&decide (8<=S.LW.length))
inductive eJ (c:Cl)  (vs:π) (H:Hp) (Q:VK) (E:XK):∀(n dp dt a:Addr) (S:NS) (p:Str×Kd),vs=[.ref n,.ref a]->Mq c H n dp dt S->Nk c H EH p->¬ p.1∈S.names->S.Lv.length<=1000->Gm S p.2=false->(∀ H',UT dp H H'->Mq c H' n dp dt (S.put p.1 p.2)->Q .non H')
def a2s:au þ þ (ae gq):=Pa
def b4X [Bx:Bd](O)(c7R)(TG:GJ Bx.mg)(PV)(Lu):Tm 3 "put_in" "Net.put_in" gq þ (eJ c):=by
 ext d2P;let#[tl,T7]:=TG.mop;let#[tn,QF]:=TG.mol;show F.k a2s λe2C=>?_
 ·let#[n,dp,dt,a,S,p,1,N,pa,Oj,hz,wH]:=h;let ND:=a2s.nd;ext d3P;let#[ķ,hd,hp]:=id N.Lv;let#[a',dxa,ea,ha]:=id pa
  cases ea;let hl:=Paired.length hp;show#[_,(af (fm (pT Do b14<|gf (v:=.int 20) rfl T7 #[_,1])
  iD
  ML)
 (af (fm (PW.pt<|CW (cN<|rS Gf PV hr.m) (fj<|pT Do (e6x boot_len<|a9 (rR EB Lu hr.m) K') (e8o QF #[_,1])))
  iD
  ML)
 (aq<|e3y KK (xj Bx.K Gf rfl) Gf rfl))),?_]
  let store:∀ {D:L2.Ends}{σ:St} H1,D.nx σ=Q .non->f' H H1->c1k D σ EH (d9i dp) (.str p.1) H1:=λ{D σ} H1 eD e1=>by
   let hv:cW ķ oB=none:=by
    cases hs:cW ķ oB with
    | none=>rfl
    | some v=>
     let:=(kK (f:=λp:Str×Kd=>(.inr p.1:jr)) (g:=gJ c)<|Paired.O3 hp λe28=>(by let#[a,b]:=gR;show#[a,b.dr]))
     let h2:=(LO.val (y:=.inr p.1) this.1 this.2).1;let h3:=e9u (x:=p.1);rw[GZ Oj]at h3;rw[h2<|Option.not_isSome_iff_eq_none.mp (by rw[h3];show nofun)]at hs
     cases hs
   show#[dp,_,1,Us.k (k:=Sum.inr p.1) (e1I hd) (by change ķ.length<2 ^ 24;lia),?_];let b1:UT dp H (upd H1 dp<|.dK (eS ķ oB<|.ref a)):=λe3p=>by rw[aa nb];show e1 ĉ hb
   rw[eD];show q2 _ b1 (N.put hd hp pa b1<|by rw[ai,i6 _ hv])
  unfold Gm at q1;rw[Bool.or_eq_false_iff,Bool.and_eq_false_iff]at q1;let#[g0,g2]:=q1;let g0:=IF g0;show#[ZE,wG,h1,O.cn,O.fp,1,dp,ķ,1,hd,yi,1,ku (λg1=>?_) (λg1=>?_)]
  ·let g1:20<=S.Lv.length:=by let:=HA g1;lia
   show absurd g1 g0
  ·show#[_,1,a,c.of p.2,dxa,_,1,#[_,1],ha,1,pr (XY pa.dr) ⟨⟩ λx e13 hx=>#[_,hx,?_]];rw[i4 O]
   cases hb:VL p.2 with
   | false=>show uE (uE #[CJ,n,c.Mg,dx,se,c5s,e1I ha,O.cls _,O.nam _,1,store H1 rfl e1])
   | true=>
    show Gi #[EC,pr b9X #[hz] λy e1v gR=>?_];let#[l,vs,ey,Rw,hv]:=gR;subst ey;let vl:=hv.length;let SQ:=e1.trans e2;show#[l,_,1,.inl<|LS.of Rw,_,_,2,_,1,ku (λg3=>?_) λg3=>#[CJ,n,c.Mg,dx,wG,SQ ĉ h1,O.cn,c5s,SQ ĉ ha,O.cls _,O.nam _,1,store H2 rfl SQ]];let g3:8<=S.LW.length:=by let:=HA g3;rw[vl,GP]at this;lia
    rcases g2 with z|z
    ·rw[hb]at z;cases z
    ·show absurd g3 (IF z)
theorem vv (S:NS)(x)(k:Kd):Prop:=gv x=true/\¬ x∈S.names/\¬ (SY k=false/\S.Mu.isSome=true)/\Gm S k=false
inductive cY (c:Cl)(k:Kd)  (vs:π) (H:Hp) (Q:VK) (E:XK):∀(n dp dt:Addr) (S:NS) (x:Str),vs=[A0]->Mq c H n dp dt S->x.length<=1000->S.Lv.length<=1000->vv S x k->(∀ H',UT dp H H'->Mq c H' n dp dt (S.put x k)->Q .non H')
def made (N)(hz:S.Lv.length<=1000)(hm:vv S x k)(q2:∀ H',UT dp H H'->e4r (S.put x k)->e2y H')(y dy:Addr)(ny:H y=none)(ndy:H dy=none)(ne:dy≠y):
  eJ c [.ref n,.ref y] (upd (d8K H dy y jW) y (.ins jW dy [("name",.str x)])) Q E:=by
 let e1:f' H (upd (upd (upd H dy<|.own y) y<|.ins jW dy []) y<|.ins (c.of k) dy [("name",.str x)]):=bg (bg (f1k ndy) ny) ny;show⟨n,dp,dt,y,S,(x,k),rfl,N.mono e1,⟨y,dy,rfl,ai⟩,hm.2.1,hz,hm.2.2.2,λH' b' N'=>q2 H' ((UT.of e1).trans b') N'⟩
def a6a:e8p (ae Cz):=Pa
def c6y [Bx:Bd](O)(LD)(Ml)(Vz:W4 1 "Post" c.post Ý (gX c)):Tm 4 "post" "Net.post" Cz Ý (cY c .post):=by
 ext d2P;show F.k a6a λe2C=>?_
 ·ext d6E;show#[_,(af vT
 (d8L EB Ml (i7 Vz hr.m rfl<|e7g K'))),?_]
  show#[ju];show#[EC,_,1,λe7y=>#[y,.post,C3]];show made (Q:=λ_ H2=>e2y H2) wK hz hm Tl y dy ny ndy ne
def a14:e8p (ae yW):=Pa
def b9U [Bx:Bd](O)(LD)(Ml)(Qj:W4 1 "Listener" c.Q0 Ý (gX c)):Tm 4 "listener" "Net.listener" yW Ý (cY c .listener):=by
 ext d2P;show F.k a14 λe2C=>?_
 ·ext d6E;show#[_,(af vT
 (d8L EB Ml (i7 Qj hr.m rfl<|e7g K'))),?_]
  show#[ju];show#[EC,_,1,λe7y=>#[y,.listener,C3]];show made (Q:=λ_ H2=>e2y H2) wK hz hm Tl y dy ny ndy ne
def c0P:e8p (ae mD):=Pa
def b3a [Bx:Bd](O)(LD)(Ml)(MF)(Ur:W4 1 "House" c.house Ý (gX c)):Tm 4 "house" "Net.house" mD Ý (cY c .house):=by
 ext d2P;show F.k c0P λe2C=>?_
 ·ext d6E;show#[_,(af vT
 (af (fm (pT b8C (rR EB MF hr.m) c2U)
  iD
  ML)
 (d8L EB Ml (i7 Ur hr.m rfl<|e7g K')))),?_]
  show#[ju];show#[EC,pr b9X ⟨⟩ λhv e1v hx2=>?_]
  cases hs:S.Mu with
  | some p=>show absurd #[1,by rw[hs];rfl] hm.2.2.1
  | none=>
   rw[hs]at hx2
   cases hx2;let e1:=e1.trans e2;show#[gQ,a4b rfl ?_];show#[EC,_,1,λe7y=>#[y,.house,C3]];show made (Q:=λ_ H2=>e2y H2) wK hz hm Tl y dy ny ndy ne
structure GI (mg:Ω):Prop where
 MV:mg "isinstance"=none
 Z4:mg "int"=none
 a0Q:mg "bool"=none
 Ma:mg "len"=none
structure a16 (mg:Ω):Prop where
 mot:∃ t,mg "MOST_TIES"=!.int 40 t
 lod:∃ t,mg "LONGEST_DELAY"=!.int 99 t
structure a15 (K:Ψ):Prop where
 ii:W.kitOne K Gg Gg=!true
 ib:W.kitOne K Gg ik=!false
theorem NS.UU (S:NS)(x y:Str)(d:Int):NS:={ S with Ls:=S.Ls++c2o,next:=S.next+1 }
theorem a52 (n d:Addr)(H H':Hp):Prop:=∀ a o,a≠n->a≠d->H a=!o->H' a=!o
def dr3 (d1i)(h')(h2:DR H d2 v2):LO H [d,d',d2] [v,v',v2]:=#[wG,h,dr2 h' h2]
inductive UnR (d0z):∀ i:Int,vs=EO->Q ű H
def b9J:au ÿ ÿ (ae EJ):=Pa
def ug [Bx:Bd](d1y):Tk 1 "is_whole" EJ ÿ UnR:=by
 ext d2P;show F.k b9J λe2C=>?_
 ·let#[i,1,q]:=h;show#[_,aq<|bo (yx (d9S Bx.K (jV (v:=.ty "int") rfl T.Z4 boot_int rfl))<|oF (a0B<|e9z T.MV bT (d8Q EB (jV (v:=.ty "bool") rfl T.a0Q boot_bool rfl)))),?_];show#[c52,TI.ii,_,1,Gi #[c52,TI.ib,_,1,q]]
def a8p [Bx:Bd](F:Fu Bx.K "is_whole" EJ f fd)(d1y):e3T ÿ (Pr c3R):=(ug T TI f fd F).imp λe20 gR=>by
 let#[F,_,_,s,h,r,q]:=gR
 cases r;let#[v,ws,3]:=h;show#[_,1,q _ H Ě rfl]
def a9z [Bx:Bd](F:Fu Bx.K "is_name" iG f fd)(c7R)(TG:GJ Bx.mg)(TK:CD Bx.K):e3T D7 (Pr QP):=(yF F T TG TK).imp λe20 gR=>by let#[F,_,_,s,h,r,q]:=gR;let#[hx]:=r;let#[v,ws,3]:=h;show#[_,1,hx,λH' e=>q _ H' e rfl]
inductive b2N:Ä
 |mk {n:Int}:1<=n->n<=99->b2N sQ ű
def c1J [Bx:Bd](TH)(Np):Tk 2 "is_delay" (top 26) ÿ (Pr b2N):=by
 let#[tl,R5]:=TH.lod;show Nh [] ?_ λd9W=>(qr<|El (dF Np hr.m rfl<|e0B LB) (oF<|dCh (oG rX rX dI (Đ 0)<|dC (gf (v:=.int 99) rfl R5 #[_,1])) eA eA))
 rintro _ _ @⟨n,h0,h1⟩;show#[.t #[#[2],⟨⟩]<|.t rfl rfl (by let:=e0h (i:=1) (j:=n) trivial;rwa [Hb h0]at this) rfl (by let:=e0h (i:=n) (j:=99) trivial;rwa [Hb h1]at this),1]
inductive fG (c:Cl)  (vs:π) (H:Hp) (Q:VK) (E:XK):∀(n dp dt:Addr) (S:NS) (x y:Str) (d:Int),vs=[A0,.str y,.int d]->Mq c H n dp dt S->x∈S.names->y∈S.names->(∀ t∈S.Ls,t.1<S.next)->b2E->¬ j9 S.Ls y x->1<=d->d<=99->S.Ls.length<40->(∀ H',a52 n dt H H'->Mq c H' n dp dt EE->Q (.int S.next) H')
def a8u:au ["self",vk,"number"] ä (ae zA):=Pa
def c4J [Bx:Bd](F:MO Bx.K "tie" "Net.tie" zA f fd)(O)(T:GI Bx.mg)(TH)(MX:MG 2 c.Mg "check_ends" å (d87 a3a))(OV:Mo 2 "is_delay" ÿ (Pr b2N)):
  QH N5 3 f fd ä (fG c):=by
 let#[tl,U']:=TH.mot;show F.k a8u λe2C=>?_
 ·let#[n,dp,dt,S,x,y,d,1,N,hx,hy,a9f,hb,hL,hi1,hi2,g,q5]:=h;let ND:=a8u.nd;ext d3P;let#[ķ,hd,hp]:=id N.Ls;let hl:=Paired.length hp;show#[_,(af (aE<|bd EB MX hr.m (d8Q Gf Gk))
 (af (fm (oA<|cN (aO OV hr.m rfl<|a9 wI K'))
  iD
  ML)
 (af (fm (pT Do b14<|gf (v:=.int 40) rfl U' #[_,1])
  iD
  ML)
 (af (pS 4 ND<|xj Bx.K EB rfl)
 (af (e3y KK d8 (c8<|a9 d8 (a9 Gf<|e7h XL)) rfl)
 (af (e4s (cr i8 d8 aG) rfl)
 (d9R d8))))))),?_]
  show#[_,1,n,zV,h1,gQ,_,1,pr (dr3 N.dr (d':=.str x) (d2:=.str y) rfl rfl) #[hx,hy,#[0],hb,hL] λ_ H0 e0 _=>?_];show#[_,1,pr (XY (d:=.int d) rfl) #[hi1,hi2] λ_ e13 hv=>#[_,hv,uE ?_]];let e1:=e0.trans e1;show#[ZE,se,O.ft,1,dt,ķ,1,e1I hd,yi,1,ku vD (λ_=>?_)]
  ·let:=HA z;omega
  show#[ZE,se,O.fn,1,?_];show#[CJ,CJ,(by change 4<=sizeLine;decide),λtp e1v h02 XN=>?_];let SQ:=e1.trans e2;let hv:cW ķ c2p=none:=by
   cases hs:cW ķ c2p with
   | none=>rfl
   | some v=>
    let:=(kK<|Paired.O3 hp λe28=>(by let#[a,b]:=gR;show#[a,b.dr]))
    let h2:=(LO.val (y:=.inl S.next) this.1 this.2).1;rw[h2 (Option.not_isSome_iff_eq_none.mp λz=>by rw[lE,L9]at z;let#[t,ht,et]:=GX.mp z;let:=a9f t ht;omega)]at hs
    cases hs
  let nnt:n≠dt:=bZ h1 hd λz=>nomatch z;show#[ZE,wG,SQ ĉ h1,O.cn,O.ft,gQ,dt,_,1,Us.k (k:=Sum.inl S.next) (SQ ĉ hd) (by change ķ.length<2 ^ 24;omega),?_];rw[i6 _ hv];show#[_,1,_,_,2,_,1,n,c.Mg,dx,_,1,by rw[aa nnt];show SQ ĉ h1,O.cn,O.fn,(by change 3<1000;decide),?_];let b2:a52 n dt H (upd (e6P dt<|.dK (ķ++b5y)) n<|.ins c.Mg dx [b7w,b79,("next_number",.int<|S.next+1)]):=λa o na nd ha=>by rw[aa na,aa nd];show SQ ĉ ha
  show#[_,1,q5 _ b2 ?_];let#[_,#[kp,h2,p2],_,h4]:=N;let VP:∀ {v:V}{q:Str×Kd},e8n q->v≠.ref n->Nk c _ v q:=λ{v q} gR XQ=>by let#[tH,hb]:=gR;show#[tH,b2 b _ (λz=>XQ<|by rw[eb,z]) (bZ hb hd λz=>nomatch z) hb]
  let X9:∀ {v:V}{t:M'},OI H v t->OI _ v t:=λ{v t} gR=>by let#[b,eb,hb]:=gR;show#[b,eb,b2 b _ (d8S hb h1) mO hb]
  let ntp:tp≠n:=(aj (e1I h1) h02).symm;let ntd:tp≠dt:=(aj (e1I hd) h02).symm;show#[#[dx,ai],#[kp,b2 dp _ (d8S h2 h1) h4 h2,Paired.O3 p2 fun kv p ⟨a1,a2⟩=>#[a1,VP a2 ?_]],#[ķ++b5y,by rw[aa nnt.symm];show ai,Paired.Qr (Paired.O3 hp λe28=>(by let#[a1,a2]:=gR;show#[a1,X9 a2])) #[1,tp,1,?_]],h4]
  ·let#[tH,QT]:=a2;rintro z;rw[z]at eb
   cases eb;rw[h1]at QT;injection QT with QT;injection QT with _ _ QT
   cases QT
  ·rw[aa ntp,aa ntd];show XN
theorem bE (d1p)(kf:α->jr)(nm:List α)(as:υ):ξ:=(nm.zip as).map λp=>c0Q
def b1Y [DecidableEq α](kj):∀ (nm:List α)(as:υ),nm.Nodup->as.Nodup->nm.length=as.length->∃ LA:α->Addr,(∀ x∈nm,cW vh (kf x)=!.ref AY/\LA x∈as)/\(∀ x∈nm,∀ y∈nm,LA x=LA y->x=y)/\as=nm.map LA:=by
 intro nm
 induction nm with
 | nil=>
  intro as _ _ hl
  cases as with
  | nil=>show#[λ_=>0,b9o,b9o,1]
  | cons _ _=>cases hl
 | cons x nm ih=>
  intro as h1 h2 hl
  cases as with
  | nil=>cases hl
  | cons a as=>
   let#[n1,n2]:=HS.mp h1;let#[a1,a2]:=HS.mp h2;let#[LA,l1,l2,l3]:=ih as n2 a2 Ŋ;let ne:∀ y∈nm,y≠x:=λe3G e=>n1<|e▸hy;show⟨λy=>if y=x then a else LA y,λe3G=>?_,λe3G e8a e=>?_,?_⟩
   ·rcases Hr.mp hy with rfl|hy
    ·simp only[if_pos rfl];show#[b03 rfl,Ha ..]
    ·simp only[if_neg<|ne y hy];show⟨?_,Hk _ (l1 y hy).2⟩;rw[show bE kf (x::nm) (a::as)=(kf x,V.ref a)::e6g as from rfl,b09 λz=>ne y hy (kj ĉ z).symm];show (l1 y hy).1
   ·grind
   ·cbv
def c2T:∀ (a b:ξ),((a++b).map (·.1)).Nodup->bp a b=a++b:=by
 intro a b
 induction b generalizing a with
 | nil=>intro _;rw[HF];rfl
 | cons k b ih=>
  intro h;let hk:cW a k.1=none:=by
   grind [cW]
  change bp (eS a k.1 k.2) b=_
  simp_all [i6]
def a9Q {kf:α->jr}(kj)(h:nm.Nodup)(hl:nm.length<=as.length):bp [] vh=e6g as:=by
 rw[c2T [] _ ?_]
 ·rfl
 ·rw[II];ext1 bE;rw[GV];let e:((λx:jr×V=>x.1) ∘ λp:α×Addr=>c0Q)=kf ∘ (·.1):=rfl;rw[e,<- GV];let hs:((nm.zip as).map (·.1)).Nodup:=by
   simp_all [List.map_fst_zip]
  show Ky _ (λa b RX e=>RX<|kj _ _ e) hs
def f1C (c7n)(t:M')(x):gI (ts++[t]) x=gI ts x++(if t.2.1=x\/t.2.2.1=x then [t] else []):=by
 ext1 gI
 grind
def a48:∀ nm:List α,e6g (nm.map LA)=nm.map λx=>b15:=by
 intro r'
 induction r' with
 | nil=>
  show rfl
 | cons x nm ih'=>
  show congrArg ((kf x,V.ref<|LA x)::·) (ih')
def a6Z:∀ {nm:η}{vs:π},LO G (nm.map .str) vs->vs=nm.map V.str
 | [],_,h=>h
 | _::_,_,⟨_,_,e,h1,h2⟩=>by rw[e,a6Z h2,show _=V.str _ from h1];rfl
def a1y:∀ {ts:List M'}{vs:π},LO G WS vs->e9A ts:=by
 intro r'
 induction r' with
 | nil=>
  intro _ h
  cases h;show .nil
 | cons _ _ ih'=>
  intro _ y1';let#[_,_,e,ZL]:=y1';subst e;let#[Dl,h,mE]:=h1;show .cons #[a,1,h] (ih' h2)
def f1I:∀ {ts:List M'}{vs:π},e9A ts->LO G WS vs:=by
 intro ts vs h
 induction h with
 | nil=>rfl
 | cons a r ih=>show#[wG,a.dr,ih]
def fC:∀ {l:List α},(∀ x∈l,DR G (g x) (h x))->LO G yA (l.map h):=by
 intro r'
 induction r' with
 | nil=>
  ext d46
 | cons _ _ ih'=>
  intro k;show #[_,_,1,k _ Ha,ih' λe0Z=>k x<|Hk _ hx]
def a6V:au ["names","ties","touching","tie"] At (d8Z 76):=Pa
def a4Z [Bx:Bd](d1h):Tk 1 "ties_by_post" (top 76) At (Pr b1h):=by
 ext d2P;show F.ok a6V ZX Fp
 ·obtain⟨G,_,_,sF,hl,@⟨nm,ts,Zj,hz,htz,hE,XQ⟩,q⟩:=h;let#[wG,#[ln,vs1,1,a9j,XS],wG,#[l,xs,1,hx0,U6],1]:=hl;let hln:H ln=!(.lst<|nm.map V.str):=by rw[<- a6Z XS];show sF ĉ a9j
  let hx:=e1V hx0;let hp:=a1y U6;let ND:=a6V.nd;let VS:=Paired.length hp;show#[_,(af (pS 2 ND (e3W (a9 (e7s (d9M 0)
  Ĕ
  uq
  (d9Q EB)) K')))
 (af (e0s (d9M 1) YZ
  (af (aE<|d93 b2Q XL)
 (d8I b2Q wI)))
 (d9R Gk))),?_]
  show#[_,1,ln,1,#[_,LS.of hln],b2u (K:=Bx.K) (xs:=nm.map V.str) (λlc i H1=>H lc=none/\f' H H1/\∃ as:υ,as.length=i/\as.Nodup/\(∀ a∈as,H1 a=!.lst []/\H a=none/\a≠lc)/\∃ vs,H1 lc=!.lst vs/\Paired (λv (kv:jr×V)=>∃ t,v=.ref t/\H1 t=!.tup FB) vs (e0t yg as))
   (λlc Vl=>#[Vl,c43]) (λlc i H1 _ h=>LS.of<|h.2.1 _ _ hln) (λlc i v H1 ev h=>?_) (λlc H1 h=>?_)]
  ·let#[c5i]:=h;obtain⟨x,ex,rfl⟩:∃ x,nm[i]?=!x/\v=.str x:=by
    rw[Hf]at ev
    cases hm:nm[i]? with
    | none=>rw[hm]at ev;cases ev
    | some m=>rw[hm]at ev;show#[m,1,by simpa using ev.symm]
   let hi:i<nm.length:=(GS.mp ex).1;dsimp only[yj];ext d5a;show#[_,lX,λf1y=>#[(by change 2<=sizeLine;decide),λt e8I h3 ht=>?_]];let hvl:=Paired.length Xe;let Xc:(e0t yg as).length=i:=by ext1 bE;rw[GP,Jb,Hl,WD];omega
   let alc:a≠lc:=λz=>by rw[z,Ql]at h2;cases h2
   let tlc:t≠lc:=λz=>by rw[z,e1b Ql]at h3;cases h3
   show#[vs,e3 ĉ<|e1b Ql,by rw[hvl,Xc];change i<2 ^ 24;omega,Vl,bg ů Vl,as++[a],by rw[Ho,WD];rfl,?_,λe3b=>?_,vs++[.ref t],ai,?_]
   ·ext d49;let:=(has a hb).1;rw[h2]at this
    ext d4M
   ·rcases Hx.mp hb with hb|hb
    ·let#[Bz]:=has b hb;show#[by rw[aa b3];show e3 ĉ<|e1b b1,b2,b3]
    ·rw[Hs.mp hb];show#[by rw[aa alc];show e3 ĉ ha,e1.free h2,alc]
   ·let tk:nm.take (i+1)=nm.take i++[x]:=by rw[IU,ex];rfl
    let er:e0t (nm.take<|i+1) (as++[a])=e0t yg as++[(Sum.inr x,.ref a)]:=by ext1 bE;rw[tk,List.zip_append (by rw[Hl,WD];omega),He];rfl
    ext d4e;let:=e3 ĉ<|e1b Tt;rw[aa (λz=>by rw[z,e3 ĉ<|e1b Ql]at this;cases this)];show this
  ·let#[c5i]:=h;rw[GP]at WD Xe;rw[HJ]at Xe;let Xc:(e0t nm as).length<=1000:=by ext1 bE;rw[GP,Jb,WD];omega
   show#[lc,_,1,#[vs,Ql,Xe],c6d];rw[a9Q b9p Zj<|by omega]at hd;let#[LA,Yc,la2,la3]:=b1Y (λ_ _=>Sum.inr.inj) nm as Zj han WD.symm;let ek:e0t nm as=nm.map λx=>(.inr x,V.ref<|LA x):=la3▸a48 nm;generalize bE (Sum.inr:Str->jr) nm as=ķ at Yc hd ek;let Tb:=e1.trans e2;let dN:∀ x∈nm,LA x≠d:=λe0Z z=>by
    let:=(has _ (Yc x hx).2).1;rw[z,h2]at this
    ext d4M
   let lN:∀ x∈nm,H AY=none:=λe0Z=>(has _ (Yc x hx).2).2.1;show#[_,1,l,1,#[_,LS.of<|e4G hx],?_];show c2D (K:=Bx.K) (xs:=xs) (λj σ H3=>(∃ o,σ=[some<|.ref ln,some<|.ref l,some<|.ref d,o])/\f' H H3/\H3 d=!.dK ķ/\∀ x∈nm,∃ us,H3 AY=!.lst us/\Paired (OI G) us (gI (ts.take j) x))
    #[#[_,1],Tb,hd,λe0Z=>#[[],e1b (has _ (Yc x hx).2).1,.nil]] (λj σ H3 _ h=>LS.of<|h.2.1 _ _ hx) ?_ ?_
   ·rintro j v σ H3 ev ⟨⟨o,rfl⟩,e3,hd3,hT⟩;let#[t,et,p,1,hpt]:=Paired.at hp ev;let htm:t∈ts:=GY et;let#[m1,m2]:=hE t htm;let tk:ts.take (j+1)=ts.take j++[t]:=by rw[IU,et];rfl
    let n12:LA t.2.1≠LA t.2.2.1:=λz=>XQ t htm<|la2 _ m1 _ m2 z;let hp3:=e3 ĉ<|e1V hpt;let#[ys,hy,Zi]:=hT _ m1;let#[zs,hz3,hpz]:=hT _ m2;let hyl:ys.length<=1000:=by rw[Paired.length Zi];show HE wT b5z
    let hzl:zs.length<=1000:=by rw[Paired.length hpz];show HE wT b5z
    show#[_,1,_,1,p,_,(1),_,2,NC.of hp3,1,d,.ref<|LA t.2.1,1,(by rw[<- (Yc _ m1).1];show Q4.k (k:=Sum.inr t.2.1) hd3),.inl #[1,_,LS.of hy],_,1,LA t.2.1,_,_,2,hy,by change ys.length<2 ^ 24;omega,?_];let e4:f' H (upd H3 c1N<|.lst (ys++lS)):=bg e3<|lN _ m1;let hd4:e40 d=!.dK ķ:=by rw[aa (dN _ m1).symm];show hd3
    let hz4:e40 (LA t.2.2.1)=!.lst zs:=by rw[aa n12.symm];show hz3
    let hp4:=e4 ĉ<|e1V hpt;show#[_,1,_,1,p,_,(2),_,2,NC.of hp4,1,d,.ref<|LA t.2.2.1,1,(by rw[<- (Yc _ m2).1];show Q4.k (k:=Sum.inr t.2.2.1) hd4),.inl #[1,_,LS.of hz4],_,1,LA t.2.2.1,_,_,2,hz4,by change zs.length<2 ^ 24;omega,?_];show#[#[_,1],bg e4<|lN _ m2,by rw[aa (dN _ m2).symm];show hd4,λe0Z=>?_];rw[tk,f1C];by_cases h1:t.2.1=x
    ·rw[if_pos<|.inl h1];subst h1;show#[ys++lS,by rw[aa n12,ai],?_];show Paired.Qr Zi #[p,1,hpt]
    ·by_cases h2:t.2.2.1=x
     ·rw[if_pos<|.inr h2];subst h2;show#[zs++lS,ai,?_];show Paired.Qr hpz #[p,1,hpt]
     ·rw[if_neg (by rintro (z|z);show h1 z;show h2 z),HF];let#[us,hu,hpu]:=hT x hx;show⟨us,?_,hpu⟩;rw[aa λz=>h2 (la2 _ hx _ m2 z).symm,aa λz=>h1 (la2 _ hx _ m1 z).symm];show hu
   ·rintro σ H3 ⟨⟨o,rfl⟩,e3,hd3,hT⟩;rw[VS,HJ]at hT;show#[_,1,q _ H3 e3 #[d,ķ,1,.inl (by rw[aF<|e1.free h2];show hd3),by rw[ek,GV,GV];rfl,?_]];rw[ek,GV,GV];show fC λe0Z=>?_;let#[us,hu,hpu]:=hT x hx;show#[LA x,us,1,by rw[aF<|lN x hx];show hu,LO.mono (ao sF) ĉ<|f1I hpu]
def PI0:∀ {xs ys:η},xs.Nodup->b90->xs.length<=ys.length:=by
 intro r'
 induction r' with
 | nil=>
  intro ys _ _;show HP _
 | cons x xs ih'=>
  intro ys nd h;ext d4l;let hx:=h x ė;let:=ih' (ys:=ys.erase x) nd.2 λe3G=>(KR (λz:y=x=>nd.1 (by rw[<- z];show hy))).mpr (h y<|by simp[hy])
  grind
theorem bP (bs):Nat->η
 | 0=>[]
 | k+1=>bP bs k++[(bR bs (bP bs k)).getD ""]
structure Cd (bs:List (Str×η)):Prop where
 nd:(bs.map (·.1)).Nodup
 ends:∀ b∈bs,∀ y∈b.2,y∈bs.map (·.1)
 rk:∃ rank:Str->Nat,∀ b∈bs,∀ y∈b.2,rank y<rank b.1
def a3L (A:Cd bs)(NI:ts.length<bs.length):∃ x,bR bs ts=!x/\x∈bs.map (·.1)/\x∉ts:=by
 let#[rank,hrk]:=A.rk;let one:∃ b∈bs,b.1∉ts:=by
  by_cases h:∃ b∈bs,b.1∉ts
  ·show h
  ·let hs:∀ x∈bs.map (·.1),x∈ts:=λe0Z=>by
    let#[b,hb,1]:=GX.mp hx;by_cases hh:b.1∈ts
    ·show hh
    ·show absurd #[b,hb,hh] h
   let:=PI0 A.nd hs;ext d8t
   lia
 let key:∀ n,∀ b∈bs,b.1∉ts->rank b.1=n->∃ b'∈bs,i0 ts b'=true:=by
  intro n
  induction n using Nat.strongRecOn with
  | ind n ih=>
   intro b hb hbt hn;by_cases Ua:∀ y∈b.2,y∈ts
   ·show#[b,hb,?_];ext1 i0
    cbv
   ·let#[y,hy]:=Classical.not_forall.mp Ua;let#[hy1,hy2]:=Classical.not_imp.mp hy;let#[b',QT,e']:=GX.mp<|A.ends b hb y hy1;show ih _ (by rw[<- hn];show hrk b hb y hy1) b' QT (by rw[e'];show hy2) (by rw[e'])
 let#[b,hb,hbt]:=one;let#[b',QT,UZ]:=key _ b hb hbt rfl
 cases hf:bs.find? _ with
 | none=>show absurd UZ (by let:=IX.mp hf b' QT;simpa using this)
 | some c=>
  let hc:=J2 hf;show#[c.1,by ext1 bR;rw[hf];rfl,Hm<|HZ hf,λz=>?_];unfold i0 at hc
  cbv
def lu (A:Cd bs):∀ k,k<=bs.length->(bP bs k).Nodup/\(bP bs k).length=k:=by
 intro r'
 induction r' with
 | zero=>
  intro _;show #[Ju,1]
 | succ k ih'=>
  intro h;let#[ZL]:=ih' #[];let#[x,e,hx,hn]:=e3z #[];show#[?_,by simp[bP,h2]];change (bP bs k++[(bR bs<|bP bs k).getD ""]).Nodup;rw[e,HR]
  grind
theorem cG (c7n)(x):η:=(ts.filter λt=>decide W1).map (·.2.1)
theorem bv (S:NS):List (Str×η):=S.names.map λx=>(x,f0D x)
def c4k (c7n)(t:M')(x):cG (ts++[t]) x=cG ts x++(if t.2.2.1=x then [t.2.1] else []):=by
 ext1 cG;congr 1;by_cases h:t.2.2.1=x
 ·simp[h]
 ·simp[h]
def qp (c7n)(x):(cG ts x).length<=ts.length:=by ext1 cG;ext d3R
def a5S (A:Cd bs):∀ k,k<=bs.length->∀ x,x∈bP bs k->x∈bs.map (·.1):=by
 intro r'
 induction r' with
 | zero=>
  intro _ x h;show (Ih h).elim
 | succ k ih'=>
  intro hk x h;let#[y,ey,hy,_]:=e3z (by rw[(lu A k<|by lia).2];lia);unfold bP at h;ext d5E
  ·show ih' #[] x h
  ·grind
def a6q (d1I):bq cs k=none:=by ext1 bq;let:(cs.find? λx=>decide Pl)=none:=IX.mpr λe0Z z=>h<|HA z▸Hm hx;rw[this];rfl
def b1m:∀ {ř:List bC},(ř.map (·.1)).Nodup->∀ r∈ř,j4 ř r.1=!r:=by
 intro r'
 induction r' with
 | nil=>
  ext d7G
 | cons x ws ih'=>
  intro nd r h;ext1 j4;ext d5t
  ·cbv
  ·let ne:¬ x.1=r.1:=λz=>nd.1<|z▸Hm h;ext d7b
theorem ak (S:NS):List MZ:=LF S Š
def b9x (ds:Cs)(h:k∈cs.map (·.1)):bq (cs++ds) k=bq cs k:=by grind [a6K,bq,List.find?_append]
def c3m (d1I):bq (cs++[(k,n)]) k=!n:=by
 let hn:=a6q h;unfold bq at hn ⊢;rw[Kx]
 cases hf:cs.find? (λx=>decide Pl) with
 | some x=>cbv
 | none=>
  cbv
def a55 (ds:Cs):∀ {mo:Λ},(∀ ks,mo=!ks->∀ k∈ks,k∈cs.map (·.1))->inc msg (cs++ds) mo=inc msg cs mo
 | none,_=>rfl
 | some ks,h=>HH λf06=>by rw[b9x ds<|h ks rfl k hk]
def b4N (F:zx ms):∀ i,i<=ms.length->∀ m∈ms.take i,bq b7j m.1=!dR p ř msg fo b7j m
 | 0,_,_,h=>by rw[Jt]at h;show (Ih h).elim
 | i+1,hi,m,h=>by
  let ih:=e2F i #[0];let NI:i<ms.length:=#[0]
  obtain⟨r,er⟩:∃ r,ms[i]?=!r:=c1n
  let tk:ms.take (i+1)=ms.take i++[r]:=by rw[IU,er];rfl
  let ck:=e5g Bn [];rw[J0,II]at ck;let nd:=F.nd;rw[<- Iz (i+1) ms,He]at nd;let nd:=(HR.mp nd).1;rw[tk,He]at nd;let fr:¬ r.1∈(e0C Bn []).map (·.1):=λz=>by rw[ck]at z;show (HR.mp nd).2.2 _ z _ ė rfl
  rw[tk]at h ⊢;rw[a0P];ext d5E
  ·let mk:m.1∈(e0C Bn []).map (·.1):=by rw[ck];show Hm h
   rw[b9x _ mk,ih m h];ext d5u;let#[Fn]:=Jo h;rw[Hl]at hj;let ej':ms[j]?=!m:=by rw[Jx]at ej;rw[GR<|by omega,ej]
   let:=(F.ahead j m ks ej' Xg).2 k hk;let#[y,hy,e]:=GX.mp this;show GX.mpr #[y,(List.take_sublist_take_left<|by omega).subset hy,e]
  ·rw[Hs.mp h,c3m fr];ext d5u;show (F.ahead i r ks er Xg).2 k hk
def b4E (F:zx ms)(h:m∈ms):bq WP m.1=!dR p ř msg fo WP m:=by let:=e2F ms.length<|Hi _;rw[HJ]at this;show this m h
def c2H (A:Cd bs):∀ k,k<=bs.length->∀ (i:Nat) x,(bP bs k)[i]?=!x->∃ b∈bs,b.1=x/\∀ y∈b.2,y∈(bP bs k).take i:=by
 intro r'
 induction r' with
 | zero=>
  intro _ i x h;simp[bP]at h
 | succ k ih'=>
  intro hk i x h;let hl:=(lu A k<|by omega).2;unfold bP at h ⊢;by_cases c:i<(bP bs k).length
  ·rw[HQ c]at h;let#[b,hb,e,hy]:=ih' #[0] i x h;show#[b,hb,e,λy yy=>by rw[KP<|by omega];show hy y yy]
  ·rw[HU<|by omega]at h;let ei:i=(bP bs k).length:=by
    by_cases c2:i - (bP bs k).length=0
    ·omega
    ·cbv
   subst ei;rw[Nat.sub_self]at h;let#[z,ez,_,_]:=e3z #[0];rw[ez]at h;let h:z=x:=by simpa using h
   subst h;unfold bR at ez;let#[b,hf,hb]:=HI.mp ez;show#[b,HZ hf,hb,λe3G=>?_];rw[KP<|Hi _,HJ];let hr:=J2 hf
   simp_all [i0,IM,Io]
def b34 (f:α->List β):∀ (ns:List α)(i:Nat)(m:β),(ns.flatMap f)[i]?=!m->∃ j x,ns[j]?=!x/\m∈f x/\∀ m'∈(ns.take j).flatMap f,m'∈(ns.flatMap f).take i:=by
 intro r'
 induction r' with
 | nil=>
  intro i m h;simp at h
 | cons a ns ih'=>
  intro i m h;rw[J7]at h ⊢;by_cases c:i<(f a).length
  ·rw[HQ c]at h;show#[(0),a,1,GY h,λm' hm=>by simp at hm]
  ·rw[HU<|by lia]at h;let#[j,x,hj,hm,k]:=ih' _ m h;show⟨j+1,x,hj,hm,λm' hm'=>?_⟩;rw[List.take_append,IZ<|by lia];rw[List.take_succ_cons,J7]at hm';rcases Hx.mp hm' with z|z
   ·cbv
   ·show Hh _ (k m' z)
def bM (d1c)(c99){x:α}(h1:xs[i]?=!x)(h2:xs[j]?=!x):i=j:=by let#[hi,e1]:=GS.mp h1;let#[hj,e2]:=GS.mp h2;show (KH nd).mp c0e
abbrev LT:=Int×Str×Str
theorem E1 (R:List LT)(x):Ξ:=(R.filter λr=>decide (r.2.2=x)).map (·.1)
structure LN (S:NS)(ord:η)(R:List LT):Prop where
 RU:S.names.Nodup
 nin:∀ x∈S.names,x∈ord
 nd:ord.Nodup
 zero:ord[0]?=!("h":Str)
 Ls:S.Ls.map (λt=>b91)=R
 mem:∀ r∈R,r.2.1∈S.names/\r.2.2∈S.names
 ok:∀ r∈R,∃ u v:Nat,u<v/\ord[u]?=!r.2.1/\ord[v]?=!r.2.2
 asc:(R.map (·.1)).Pairwise (·<·)
 len:ord.length<=20
 a0m:R.length<=40
variable {S:NS}{ord:η}{R:List LT}
def LN.UU (c7F)(c9R):∃ u v:Nat,u<v/\ord[u]?=!t.2.1/\ord[v]?=!t.2.2.1:=h.ok _ (h.Ls▸Hm ht)
def LN.Y5 (c7F)(c9R):t.2.1∈S.names/\t.2.2.1∈S.names:=h.mem _ (h.Ls▸Hm ht)
def LN.Uj (c7F):(bv S).map (·.1)=S.names:=by ext1 bv;rw[GV];show List.map_id _
def LN.ends (c7F):∀ t∈S.Ls,t.2.2.1∈S.names:=λe6r=>(h.Y5 ht).2
def LN.Vs (c7F):Cd Dq where
 nd:=by rw[h.Uj];show h.RU
 ends:=λe3b e3G=>by rw[h.Uj];let#[x,hx,1]:=GX.mp hb;let#[mQ]:=GX.mp hy;show (h.Y5 (HB.mp ht).1).1
 rk:=by
  show#[λx=>ord.idxOf x,λe3b e3G=>?_];let#[x,hx,1]:=GX.mp hb;let#[mQ]:=GX.mp hy;let#[ht,htx]:=HB.mp ht;let htx:=HA htx;let#[u,v,uv,ZL]:=h.UU ht;rw[htx]at h2;let ix:∀ (i:Nat) z,ord[i]?=!z->ord.idxOf z=i:=λi e8a=>by let hl:=List.idxOf_lt_length_of_mem<|GY hz;show bM h.nd ě hz
  change ord.idxOf t.2.1<ord.idxOf x;ext d63
def LN.LF (c7F):(ak S).Perm (S.Ls.map λt=>xT):=by
 ext d2N;let#[WX,Wd]:=lu h.Vs S.names.length #[0];let a8c:=λe0Z=>by let:=a5S h.Vs S.names.length #[0] x hx;rw[h.Uj]at this;show this
 let fin:∀ t∈S.Ls,t.2.1∈bP _ S.names.length:=λe6r=>by show (Mw.Sf ĉ WX a8c<|by omega) _ (h.Y5 ht).1
 let e1:ak S=((e7i S.names.length).flatMap λx=>S.Ls.filter λt=>decide rZ).map λt=>xT:=by
  ext1 ak K72.LF NS.O1;rw[List.map_flatMap];congr 1;funext x
  cbv
 rw[e1];show (Mw.Tu (λt:M'=>t.2.1) _ S.Ls WX fin).map _
def LN.keys (c7F):((ak S).map (·.1)).Perm (R.map (·.1)):=by let:=h.LF.map (·.1);rw[GV]at this;rw[<- h.Ls,GV];show this
def LN.into (c7F)(x):S.into x=E1 R x:=by ext1 NS.into E1;rw[<- h.Ls,List.filter_map,GV];rfl
def LN.a4c (c7F)(x):(S.into x).length<=1000:=by
 rw[h.into];ext1 E1;rw[GP];let:=HK (λr:LT=>decide (r.2.2=x)) R;let:=h.a0m
 lia
def LN.MN (c7F):(ak S).length<64:=by
 let:=h.keys.length_eq;rw[GP,GP]at this;let:=h.a0m
 lia
def LN.fits (c7F):zx Av where
 MN:=h.MN
 nd:=h.keys.nodup_iff.mpr (h.asc.imp λz=>Int.ne_of_lt z)
 ahead:=λi m ks hi hk=>by
  ext d2N;let#[j,x,hj,hm,up]:=b34 ą hi;let#[k0,_,1]:=GX.mp hm;let hk:=hk;let ek:ks=S.into x:=by
   unfold bN at hk
   cbv
  subst ek;show#[h.a4c x,λf06=>?_];let#[t,ht0,1]:=GX.mp hk;let#[ht1,htx]:=HB.mp ht0;let#[b,hb,e,hy]:=c2H h.Vs S.names.length #[0] j x hj;let#[x',_,1]:=GX.mp hb;let e:=e;subst e;let:=up _<|Jr.mpr #[_,hy t.2.1<|Hm (HB.mpr #[ht1,htx]),GX.mpr #[t.1,Hm<|HB.mpr #[ht1,Hb rfl],1]];show Hm this
open e
theorem d7 (S:NS)(ho:Option Str)(N m:Nat)(ç):List Δ:=ç.map λks=>S.LW.map λg=>nI c1O
def a8m (c7n)(h g:Str)(N m:Nat):bx ts (!h) g N m=match ff ts (!h) g N m [] with
  | .inl ks=>.inl ks
  | .inr U=>.inr (e2W m<|ts.filter λt=>NU U t.1):=rfl
def cR (c77){x d:α}(h:l[i]?=!x):l.getD i d=x:=by rw[GU,h];rfl
structure a5O (p:Int)(d0h)(m:Nat):Prop where
 len:v.length=m
 fit:Vw p v
 some:v.filter (λz=>not (decide (z=0)))≠[]
 ker:∀ r∈t,Mx.dot r v % p=0
def b2w (c8X):∀ {ws1:List M'}{t:M'}{ws2:List M'},ws=ws1++t::ws2->Qm ts x ws1 t.2.1/\t∈ts:=by
 induction W with
 | nil=>intro ws1 t ws2 e;simp at e
 | @snoc ws t' A ht ih=>
  intro ws1 t ws2 e;rcases List.eq_nil_or_concat ws2 with rfl|⟨ws3,t3,rfl⟩
  ·cbv
  ·rw[List.concat_eq_append,<- List.cons_append,<- Ib]at e;let#[e1,_]:=List.append_inj' e rfl;show ih e1
def b5X (c8X):(ws=[]/\y=x)\/∃ XF t,ws=XF++[t]/\t∈ts/\t.2.2.1=y/\Qm ts x XF t.2.1:=by
 cases W with
 | nil=>show .inl #[2]
 | snoc A ht=>show .inr #[wG,ht,1,A]
def a9N (k:∀ t∈ts,t∈ts')(c8X):Qm ts' x ws y:=by
 induction W with
 | nil=>show .nil _
 | snoc A ht ih=>show .snoc ih (k _ ht)
def BQ (c7n)(h g:Str):e2P (NU []) h g 0:=by show Flow.none ts h g
structure WN (S:NS)(h:Str)(ord:η)(R:List LT):Prop where
 ln:LN S ord R
 Mu:S.Mu.map (·.1)=!h
 QR:h∈S.names
 no:∀ t∈S.Ls,t.2.2.1≠h
 pos:∀ t∈S.Ls,0<=t.1
def WN.mem (W)(c9R):xT∈ak S:=W.ln.LF.mem_iff.mpr (GX.mpr #[mQ])
def WN.one (W)(h1:(k,a)∈ak S)(h2:(k,b)∈ak S):a=b:=by
 let#[i,hi,e1]:=HX.mp h1;let#[j,hj,e2]:=HX.mp h2;let g1:((ak S).map (·.1))[i]?=!k:=by cbv
 let g2:((ak S).map (·.1))[j]?=!k:=by cbv
 let:=bM W.ln.fits.nd g1 g2
 cbv
def WN.a3Y (W):bN S h=none:=by ext1 bN;rw[if_pos W.Mu]
def WN.a0S (W)(n:x≠h):bN S x=!S.into x:=by ext1 bN;rw[if_neg λz=>n<|Option.some.inj (z.symm.trans W.Mu)]
def a2b {S:NS}(c9R):t.1∈S.into t.2.2.1:=by show Hm (HB.mpr #[ht,Hb rfl])
def WN.sub (d1a):∀ (n:Nat) {ws:List M'}{y:Str},ws.length=n->Qm ts h ws y->∀ {t:M'}{i:Nat},t∈S.Ls->t.2.1=y->(ak S)[i]?=!(t.1,bN S t.2.1)->(nums ws).Sublist (((ak S).take i).map (·.1))
 | 0,ws,y,hn,A,t,i,ht,ey,hi=>by rw[JD.mp hn];show List.nil_sublist _
 | n+1,ws,y,hn,A,t,i,ht,ey,hi=>by
  ext d4m
  ·simp at hn
  ·let nh:t.2.1≠h:=λz=>W.no t' su (by rw[e',<- ey,z]);let hk:t'.1∈((ak S).take i).map (·.1):=(e2f ĉ hi<|W.a0S nh).2 _ (by rw[ey,<- e'];show a2b<|hs t' Tt);let#[r,hr,er]:=GX.mp hk;let#[Fn]:=Ke.mp hr;let hj':j<(ak S).length:=#[]
   let ejr:(ak S)[j]?=!(t'.1,bN S t'.2.1):=by rw[GR hj',ej];let#[k,mx]:=r;let er:k=t'.1:=er;subst er;let:=W.one (a:=mx) (b:=bN S t'.2.1) (by rw[<- ej];show Ii hj')<|W.mem su;rw[this]
   let ih:=WN.sub W hs n b9M A' su rfl ejr;let tk:((ak S).take<|j+1).map (·.1)=((ak S).take j).map (·.1)++[t'.1]:=by rw[IU,ejr,He];rfl
   let en:nums (XF++[t'])=nums XF++[t'.1]:=by ext1 nums;rw[He];rfl
   rw[en];show List.Sublist.trans (d9h ih) ?_;rw[<- tk];show K9 _ (List.take_sublist_take_left<|by lia)
def WN.whole (d1a)(A:Qm ts h ws y):(nums ws).Sublist ((ak S).map (·.1)):=by
 ext d4m
 ·show List.nil_sublist _
 ·let#[i,hi,ei]:=HX.mp<|W.mem su;let ei:(ak S)[i]?=!(t'.1,bN S t'.2.1):=by rw[GR hi,ei]
  let tk:((ak S).take<|i+1).map (·.1)=((ak S).take i).map (·.1)++[t'.1]:=by rw[IU,ei,He];rfl
  let en:nums (XF++[t'])=nums XF++[t'.1]:=by ext1 nums;rw[He];rfl
  rw[en];show List.Sublist.trans (d9h (W.sub hs _ rfl A' su rfl ei)) ?_;rw[<- tk];show K9 _ (Ku ĉ)
def c6B (QR)(O:WG S (!ks) N)(e:bx uO (!h) g N m=.inr w):
  ∃ QW:List (List M'),w=QW.map nums/\QW.length=m/\(∀ ws∈QW,Qm uO h ws g)/\w.flatten.Nodup:=by
 rw[a8m]at e;let PT:=O.parts;let#[rk,hr1,hr2]:=PT.rk;let#[w1,_]:=c0Y PT.nd O.ends QR O.hN m [] 0 (BQ _ h g) Ju
 cases hw:ff _ _ g N m [] with
 | inl ks'=>rw[hw]at e;cases e
 | inr U=>
  rw[hw]at e;let F:=(w1 U hw).1;rw[Ka]at F;let#[QW,QK]:=a7x PT.nd hr1 hr2 m _ F;let e:=Sum.inr.inj e;rw[<- e,e1];show#[QW,1,e2,λws Yg=>a9N b7E<|e3 ws Yg,e4]
def c0h:∀ (l:List Δ)(k:Nat),(∀ x∈l,x.length=n)->((l.zipIdx k).flatMap λx=>x.1.map λways=>UX).length=l.length * n:=by
 intro r'
 induction r' with
 | nil=>
  intro _ _;simp
 | cons x l ih'=>
  intro k h;rw[List.zipIdx_cons,J7,Ho,GP,ih' (k+1) λe3G=>h y<|by simp[hy],h x<|by simp,HM,K7]
  lia
def a60 (he:LY∈Mk.LQ (d7 S ho N m ç)):∃ ks g,ç[LY.1]?=!ks/\g∈S.LW/\LY.2=nI c1O:=by let#[#[bl,c],hx,hm]:=Jr.mp he;let hx:=IJ.mp hx;unfold d7 at hx;rw[Hf]at hx;let#[ks,hk,1]:=HI.mp hx;let#[ways,hw,1]:=GX.mp hm;let#[g,hg,1]:=GX.mp hw;show#[ks,g,hk,hg,1]
def eI (ht:t∈bb ts !ks):t∈ts/\¬ t.1∈ks:=by ext d60;show#[h1,by simpa using h2]
def c0F (QR)(hO)(he:LY∈Mk.LQ uk):
  ∃ ks g,ç[LY.1]?=!ks/\g∈S.LW/\∃ QW:List (List M'),LY.2=QW.map nums/\QW.length=m/\(∀ ws∈QW,Qm uO h ws g)/\LY.2.flatten.Nodup:=by
 let#[ks,g,hk,hg,e]:=a60 he;let#[O,hW]:=hO ks<|GY hk;let#[w,ew]:=hW g hg;let#[QW,lx,d]:=c6B QR O ew;rw[ew]at e;let e:=e;show#[ks,g,hk,hg,QW,e.trans a,b,c,e▸d]
def WN.Xn (W)(hP)(hO)(MN):
  Mk.Tf p m ç (Mk.LQ uk) Av:=by
 let perm:=W.ln.LF;let inm:∀ x∈ak S,∃ t∈S.Ls,x=_:=λe0Z=>by let#[t,ht,e]:=GX.mp<|perm.mem_iff.mp hx;show#[t,ht,e.symm]
 let Y4:(S.Ls.map (·.1)).Nodup:=by
  let:=W.ln.fits.nd;let pk:=(perm.map (·.1))
  rw[GV]at pk;show pk.nodup_iff.mp this
 show#[hP,W.ln.fits.nd,λe0Z=>?_,λe0Z ks e=>?_,λi x ks hi e f06=>(e2f x ks hi e).2 k hk,λLY he=>?_,λLY he=>?_,λe9J=>?_,λe9J l k r e mx hm w hwm=>?_,λLY he=>?_,λe9J f06=>?_,?_]
 ·let#[mQ]:=inm x hx;show W.pos t ht
 ·let#[mQ]:=inm x hx;let e:=e;unfold bN at e;split at e
  ·cases e
  ·cases e;show Y4.sublist (K9 _ Jp)
 ·let#[ks,g,hk,_]:=e2X he;show (GS.mp hk).1
 ·let#[rY,e,l,_]:=e2X he;rw[e,GP,l]
 ·let#[rY,e,_,wk,_]:=e2X he;rw[e]at hw;ext d4c;show W.whole b92 (wk ws Yg)
 ·let#[rY,e',_,wk,_]:=e2X he;rw[e']at hw;ext d4c;let#[ws1,b3G,1,VV]:=List.map_eq_append_iff.mp e;let#[t,ws2,1,e3,e4]:=List.map_eq_cons_iff.mp e2;let#[A,ht]:=b2w (wk _ Yg) rfl;let em:=W.one hm<|e3▸W.mem ((eI ht).1);rcases b5X A with⟨rfl,eh⟩|⟨XF,t',rfl,Tt,et',_⟩
  ·subst e1;rw[em,eh,W.a3Y];show Hm (Ig.mpr hwm)
  ·subst e1;let nh:=λz=>W.no t' (eI Tt).1<|et'.trans z;rw[em,W.a0S nh,He];rw[List.getLast?_append];rw[<- et'];show a2b (eI Tt).1
 ·let#[rY,BY,nd]:=e2X he;show nd
 ·let#[ks,g,V0,_,QW,e,_,wk,_]:=e2X he;rw[e]at hw;ext d4c;let#[mQ]:=GX.mp hk;let:=(eI<|(wk ws Yg).sub t ht).2;rw[GU,V0];show this
 ·let:=c0h uk 0 λe0Z=>by let#[ks,_,1]:=GX.mp hx;rw[GP]
  ext1 Mk.LQ;rw[this];ext1 d7;rw[GP];show MN
def c1l (hj:j<m):(cI p ř fo ms m k).getD j 0=(bq (f0q (f0p j) fo ms []) k).getD 0:=by
 show cR ?_;ext1 cI
 cbv
def a8Z:∀ (m:Nat)(ps:À),(∀ q,q<m->q∈ps)->m<=ps.length:=by
 intro r'
 induction r' with
 | zero=>
  intro _ _;show HP _
 | succ m ih'=>
  intro ps h;let hm:=h m<|IK m;let:=ih' (ps.erase m) λe4e=>(KR<|by lia).mpr (h q<|by lia)
  grind
structure b0W (c8W)(L:Nat):Prop where
 rd:(Mx.Mv DO m).length=L
 le:L<=m
 un:gH p t m=[] ↔ L=m
def c5e (c85):∃ L,b0W p t m L:=by
 ext d2w;let#[ps,EA,_]:=Mx.RR.run #[0] Ap (Mx.R3 #[0] S) m;let#[Y',Bz,_]:=Mx.RR.run #[0] Ap S m;let e1:=Mx.N3 a2;let e2:=Mx.N3 b2;let el:ps.length=Y'.length:=by
  let:=Mx.UG (p:=p) (bk:=My.bk p) (ř:=Mx.joined t) m<|Hi _;rw[Mx.UK S]at this
  cbv
 show#[ps.length,by rw[e1],by rw[el];show b2.MN,?_];let eu:e66 m=(List.range m).filter λq=>not (decide (q∈Y')):=by ext1 gH MQ;rw[e2]
 rw[eu,el];ext d5B
 ·intro h;let:=a8Z m Y' λe4e=>by
   cbv
  let:=b2.MN;omega
 ·intro h;let:=b2.all h
  cbv
abbrev rdr (c8W):Θ:=((red p (Mx.joined t) m).take m).map (List.drop m)
structure xZ (p:Int)(t R:Θ)(m:Nat):Prop where
 len:R.length=m
 Q5:∀ r∈R,r.length=t.length
 fit:∀ r∈R,Vw p r
 ones:∀ i j,i<m->j<m->Mx.dot (R.getD i []) (Mx.col t j) % p=if i=j then 1 else 0
def c4P (c85)(h:(Mx.Mv DO m).length=m):xZ p t (rdr p t m) m:=by
 ext d2w;let#[ps,EA,a4]:=Mx.RR.run #[0] Ap (Mx.R3 #[0] S) m;let e1:=Mx.N3 a2;rw[e1]at h;let hl:(e6c m).length=t.length:=by rw[a3,Mx.Nw]
 let hm:m<=(e6c m).length:=by let h2:=a2.len;rw[h]at h2;show h2
 let mem:∀ r∈rdr p t m,∃ r0∈red p ň m,r=r0.drop m:=λe45=>by let#[r0,h0,1]:=GX.mp hr;show#[r0,KQ h0,1]
 show#[by rw[GP,Hl];omega,λe45=>?_,λe45=>?_,λe4g=>?_]
 ·let#[r0,h0,1]:=mem r hr;rw[KG,a2.sh.Q5 r0 h0];omega
 ·let#[r0,h0,1]:=mem r hr;intro z hz;show a2.sh.fit r0 h0 z (List.mem_of_mem_drop hz)
 ·let:=Mx.Wa #[0] S a2 (a2.all h) hl a4 i j hi hj;let eg:(rdr p t m).getD i []=((e6c m).getD i []).drop m:=by
   let U9:i<(e6c m).length:=#[0]
   show cR ?_;rw[Hf,ID hi,GR U9,cR<|GR U9];rfl
  rw[eg];show this
def a9R (c85)(h:e66 m=u::rest):a5O p t b4u m:=by
 ext d2w;let#[ps,Bz,b4]:=Mx.RR.run #[0] Ap S m;let e2:f0o m=ps:=Mx.N3 b2;let hu:u∈gH p t m:=by rw[h];show Ha
 let#[hu1,hu2]:=HB.mp hu;let hum:=Ig.mp hu1;let hup:u∉ps:=by rw[e2]at hu2;simpa using hu2
 let#[n1,n2,n3,n4]:=Mx.We #[0] b2 hum hup;rw[e2];generalize Mx.Me p _ ps m u=v at n1 n2 n3 n4;show#[n3,n4,λz=>?_,λe45=>Jk<|(b4 v).mp n1 r hr];let hv:v.getD u 0∈v:=iK #[0];let:v.getD u 0∈v.filter (λz=>not (decide (z=0))):=HB.mpr #[hv,by let n2':v.getD u 0=1:=n2;rw[n2'];rfl]
 grind
def c35 (c85):(∃ R,d6 p t m=.tup BV/\xZ p t R m)\/∃ v,d6 p t m=.tup [c6P,rw v]/\a5O p t v m:=by
 let#[L,B]:=c5e hP S;ext1 d6 vI;ext d4b
 ·ext d4H;show .inr ?_;ext1 nr
  cases hu:e66 m with
  | nil=>
   let:=B.un.mp hu;let:=B.rd;omega
  | cons u rest=>show#[_,1,a9R hP S hu]
 ·ext d3D;let:=B.rd;let:=B.le;show .inl #[_,1,c4P hP S<|by grind]
def b4M:∀ (r:Ξ){α:Type}(l:List α),Mx.dot b9q r=0
 | _,_,[]=>rfl
 | [],_,_::_=>rfl
 | x::r,_,_::l=>by change 0 * x+Mx.dot b9q r=0;rw[b4M r l];omega
def b19 (F:zx ms){many:Nat}(hr:∀ m∈ms,z9 fo m.1=false->((dm ř m.1).length:Int)=AN many m.2)(hm:msg.length=many):
  ∀ (n:Nat)(m:MZ),ms[n]?=!m->bq WP m.1=!Mx.dot (e0I m.1) msg % p:=by
 intro n
 induction n using Nat.strongRecOn with
 | ind n ih=>
  intro m hmn;let mm:=GY hmn;let one:∀ j,(bq yn m.1).getD 0=e89 m:=λj=>by rw[b4E F mm];rfl
  rw[b4E F mm];congr 1;let ec:e0I m.1=(List.range many).map λj=>e89 m:=HH λj _=>one j;rw[ec];ext1 dR
  cases hf:z9 fo m.1 with
  | true=>
   simp only[if_pos];rw[b4M];rfl
  | false=>
   simp only[if_neg Ia];let hl:=hr m mm hf;simp only[Mx.Mn]
   cases e:m.2 with
   | none=>
    rw[e]at hl;let hl:(dm ř m.1).length=many:=Int.ofNat.inj hl;change Mx.dot Bo msg % p=Mx.dot a6s msg % p;rw[show a6s=(dm ř m.1).map p7 by rw[<- Mx.O2 Bo many hl,GV];show HH λj _=>?_;change Mx.dot ĉ % p=_ % p;rw[Mx.O2 _ many hl,Mx.N4,Mx.MS Ĉ hl],Mx.NB]
   | some ks=>
    rw[e]at hl;let hl:(dm ř m.1).length=ks.length:=Int.ofNat.inj hl;let at':∀ k∈ks,∃ i x,i<n/\ms[i]?=!x/\x.1=k:=λf06=>by let#[x,hx,ex]:=GX.mp<|(F.ahead n m ks hmn e).2 k hk;let#[i,hi]:=JV.mp hx;let il:=(GS.mp hi).1;rw[Hl]at il;rw[ID<|by lia]at hi;show#[i,x,#[],hi,ex]
    let e1:inc msg WP (!ks)=(Mx.R0 (ks.map λk=>e0I k) msg).map p7:=by ext1 Mx.R0;ext d7I;let#[i,x,hi,hx,1]:=at' k hk;rw[ih i hi x hx];rfl
    let e2:((List.range many).map λj=>Mx.dot Bo (inc ŕ yn<|some ks) % p)=(Mx.Q8 (ks.map λk=>e0I k) many<|dm ř m.1).map (· % p):=by ext1 Mx.Q8 Mx.cols;ext d73;change Mx.dot ĉ % p=Mx.dot ĉ % p;rw[Mx.N4];congr 2;ext1 Mx.col inc;rw[GV];show HH λk _=>?_;change _=(e0I k).getD j 0;rw[c1l<|Ig.mp hj]
    rw[e1,e2,Mx.Nx,Mx.NB,Mx.QI _ many ĉ (λe3b=>by let#[k,_,1]:=GX.mp hb;ext1 cI;rw[GP,HL]) hm (by rw[GP];show hl)]
def c4z (d0o)(sF:f' F H)(hJ:W6 F J (nm.map u))(c7P)(hd:∀ lc H' (as:υ) vs,f' H H'->H lc=none->H' lc=!.lst vs->as.length=nm.length->as.Nodup->(∀ a∈as,H' a=!.lst []/\H a=none)->e6h vh->G lc H'):e2o G J H:=by
 intro lc Vl;show#[λi m σ' H1=>m=nm.length - i/\i<=nm.length/\(∃ o,σ'=o::js.map λj=>(σ[j]?).join)/\f' H H1/\∃ as:υ,as.length=i/\as.Nodup/\(∀ a∈as,H1 a=!.lst []/\H a=none/\a≠lc)/\∃ vs,H1 lc=!.lst vs/\Paired (λv kv=>∃ t,v=.ref t/\H1 t=!.tup FB) vs (f0E as),#[nm.length,ST,c43],?_];rintro i m σ' H1 ⟨rfl,hi,⟨o,rfl⟩,e1,as,WD,han,has,vs,Ql,Xe⟩;by_cases c:i<nm.length
 ·let ex:=GR c;let#[go,yl]:=hJ.go H1 i _ l7 (by rw[Hf,ex];rfl);show .inr #[go,λx H2 y=>?_];let#[e2,dx]:=yl x H2 y;show#[λ_=>False,λv H5=>∃ a t,v=.ref t/\f' H2 H5/\H2 a=none/\H2 t=none/\H5 a=!.lst []/\H5 t=!.tup [kV<|kf nm[i],.ref a],λ_ h=>h.elim,λv H5 h=>?_,?_]
  ·let#[a,t,1,e5,ha0,ht0,ha,ht]:=h;let e25:=e2.trans e5;let Xc:(f0E as).length=i:=by ext1 bE;rw[GP,Jb,Hl,WD];omega
   let alc:=(aj (e1b Ql) ha0).symm;let tlc:=(aj (e1b Ql) ht0).symm;show#[vs,e25 ĉ Ql,by rw[Paired.length Xe,Xc];change i<2 ^ 24;omega,_,?_,1,c,#[_,1],bg (e1.trans e25) Vl,as++[a],by rw[Ho,WD];rfl,?_,λe3b=>?_,vs++[.ref t],ai,?_]
   ·omega
   ·ext d49;let:=e1b (has a hb).1;rw[ha0]at this
    ext d4M
   ·rcases Hx.mp hb with hb|hb
    ·let#[Bz]:=has b hb;show#[by rw[aa b3];show e25 ĉ b1,b2,b3]
    ·rw[Hs.mp hb];show#[by rw[aa alc];show ha,(e1.trans e2).free ha0,alc]
   ·let er:bE kf (nm.take<|i+1) (as++[a])=f0E as++[(kf nm[i],.ref a)]:=by ext1 bE;rw[aP ex,List.zip_append (by rw[Hl,WD];omega),He];rfl
    ext d4e;let:=e25 ĉ Tt;rw[aa (λz=>by rw[z,e25 ĉ Ql]at this;cases this)];show this
  ·show ht nm[i] (Ii c) x H2 _ (DR.mono (aM l7 e2) ĉ dx) λa t e8I a0 t0 a1 t1=>#[a,t,1,e3,a0,t0,a1,t1]
 ·let ei:i=nm.length:=#[0]
  subst ei;rw[HJ]at Xe;show .inl #[hJ.stop H1 _ l7 (by rw[GP];show Hi _),hd lc H1 as vs e1 Vl Ql WD han (λe9m=>let ⟨x,y,_⟩:=has a ha;#[x,y]) Xe]
def b8m [DecidableEq α](kj)(nd:nm.Nodup)(hl:nm.length<=1000)(e)(Ql:H' lc=!.lst vs)(al:as.length=nm.length)(an:as.Nodup)(has:∀ a∈as,H' a=!.lst []/\H a=none)(hp:e6h vh)(q:∀ d H2 (LA:α->Addr),f' H H2->H d=none->H2 d=!.dK c1P->(∀ x∈nm,H2 AY=!.lst []/\H AY=none/\cW c1P (kf x)=!.ref AY)->(∀ x∈nm,∀ y∈nm,LA x=LA y->x=y)->Q uo H2):∃ p ķ,[V.ref lc]=lS/\b4O H' p ķ/\ķ.length<=1000/\NX H' ŧ Q:=by
 let Xc:(e6g as).length<=1000:=by
  ext1 bE
  cbv
 show#[lc,_,1,#[vs,Ql,hp],c6d];rw[a9Q kj nd<|by omega]at hd;let#[LA,Yc,la2,la3]:=b1Y kj nm as nd an al.symm;let ek:e6g as=nm.map λx=>_:=la3▸a48 nm;rw[ek]at hd Yc;show q d H2 LA (e.trans e2) (e.free h2) hd (λe0Z=>let ⟨a,b⟩:=Yc x hx;let #[c,c']:=has _ b;#[e1b c,c',a]) la2
theorem a3G (c9h)(o:HO):Hp:=λb=>if b=a then some o else none
def s0 (h:H a=!o):f' (a3G a o) H:=λb u hb=>by
 grind [a3G]
def c42 (d0o){ð:ι}(sF:f' F H1)(p1:Rd F dp Ax)(p2)(fz:e8Y dp o ķ)(hk:ð.map pK=nm.map u)(c7P)(hd:∀ lc H' (as:υ) vs,f' H1 H'->H' lc=!.lst vs->as.length=nm.length->as.Nodup->(∀ a∈as,H' a=!.lst []/\H1 a=none)->e6h vh->Q (d9i lc) H'):e2o b4s (Itk o dp) H2:=by
 let#[f1,f2]:=fz;rcases f2 with⟨h1,f2,nf⟩|f2
 ·show c4z (s0 f1) b5W hl ht λe7z h0 e3q=>.inl #[dp,o,ķ,nf,e' ĉ f1,?_];let nd:∀ {b:Addr},H2 b=none->b≠dp:=λhb=>(aj f1 hb).symm;subst f2;show hd lc _ as vs (B5 h1 e') (by rw[aa<|nd h0];show Ql) al an (λe9m=>let ⟨x,y⟩:=has a ha;#[by rw[aa<|nd y];show x,by let:=nd y;rwa [aa this]at y]) (Paired.imp' (λv kv gR=>(by let#[t,et,ht]:=gR;show#[t,et,by rw[aa (λz=>by rw[z,e' ĉ f1]at ht;cases ht)];show ht])) hp)
 ·subst f2;show c4z (s0 f1) b5W hl ht λe7z h0 e3q=>.inr (hd lc H' as vs e' Ql al an has hp)
def a0T (k:Nat)(s)(d0F)(h:LO ŋ l vs)(τ:St)(hσ:σ=vs.map some++τ)(hk:k<=τ.length):Ss F H ŋ σ G (l.map .fz++e0X .un):=by
 let hl:=h.length;subst hσ;show#[e,s,ao s,f'.refl _,by simp;omega,λe8H=>?_,λe8H=>?_,λi j c d a n q=>?_]
 ·by_cases c:i<l.length
  ·rw[HQ<|by simpa using c,Hf]at q
   cases z:l[i]? with
   | none=>ext d5R
   | some y=>
    ext d7W;show#[v,by rw[HQ<|by simp[hl,c],Hf,a];rfl,b]
  ·rw[HU<|by simpa using c]at q
   cases (Jg<|GY q)
 all_goals
  rcases Hx.mp (GY q) with z|z
  ·cbv
  ·cases Jg z
def sd1 (s)(c82):e9a H [!d]:=#[s,by simp,λi e q=>by
 match i,q with
 | 0,q=>cbv
 | i+1,q=>simp at q]
def qAt (F0 H0:Hp)(h:S9 X ss r):f0l jB:=h F0 H0
theorem fK (c9d):Prop:=ns=e7i S.names.length/\Cd Dq/\(∀ t∈S.Ls,t.2.2.1∈S.names)/\S.Ls.length<=900/\S.Lv.length<=900
def c0R:au ["self","begins",pA,"told"] Þ (ae mT):=Pa
def b1x [Bx:Bd](O)(d1h)(Ly)(OB:Mo 1 "first_ready" c1s (Pr NW)):Tm 2 "ordered" "Net.ordered" mT Þ (d9I iw):=by
 ext d2P;ext d47;show F.ok c0R ZX Fp
 ·obtain⟨G,_,_,sF,hl,@⟨S,ns,hN⟩,q⟩:=h;let#[_,ac,a4O,htz,hpz]:=id hN;let#[1,_]:=hN;let#[v,_,1,hv,1]:=hl;let ND:=c0R.nd;let bnm:(bv S).map (·.1)=S.names:=by ext1 bv;rw[GV];show List.map_id _
  let RU:S.names.Nodup:=by rw[<- bnm];show ac.nd
  let nl:S.names.length<=1000:=by ext1 NS.names;rw[GP];omega
  let pk:(S.Lv.map λp=>((.inr p.1:jr),gJ c p)).map pK=S.names.map .str:=by ext1 NS.names;rw[GV,GV];rfl
  show#[_,(af (pS 1 ND (e3W (a9 (PE.Y6 (t':=λd92=>jP (BL _<|tP _) _ _ _ _ _ σ H<|Y6 _ Q) (e7s (aD<|V2 LK (Đ 0))
  Ĕ
  uq
  (λd94=>c8<|a9 (pv 0) (a9 (cP K') K'))) λe0c=>h) K')))
   (af (e0s b4x (e2O (n:=4) rfl<|ag z6 (ag YZ<|ag lK (ag Fw aI)))
  (d8I (pD fB Gf<|pv 4) wI))
   (qAt G H (qC c2n
 (qC (qW Hq (e39 (d85 6)<|dG T.Ma (Đ 1))
  (q1<|qA (aE<|d93 FU (a9 (dF OB hr.m rfl<|e0f (e4y LB)) K')) (λe0c=>h)))
 (qr<|Đ 6)))))),?_]
  show av λZ hZ=>?_;show#[λe3D=>f' H H1/\DR (grow G H H1) (D0 c S) x,tP.go (ε:=[some<|aK c S]) (sd1 sF hv) ⟨rfl,rfl,rfl⟩ λx e13 _ hx=>#[e1,hx],λe3D h=>?_];let#[e1,dp,ķ,1,hd,hk,hds]:=h;let sF1:=aM sF e1;show#[dp,1,.inr<|.inr ⟨ķ,hd.mono sF1,λe8K=>?_⟩];show c42 sF1 hd hk fz pk nl (λe0Z v H1 Q hv q=>#[_,lX,λf1y=>#[(by change 2<=sizeLine;decide),λt e8I h3 ht=>q a t H3 (e2.trans e3) h2 (e2.free h3) (f0h ha) (by cases hv;show ht)]]) λe7z e3q=>b8m b9p RU nl (e1.trans e') Ql al an (λe9m=>let ⟨x,y⟩:=has a ha;#[x,e1.free y]) hp λd H3 LA e3 d0 hd3 Wq inj=>?_;show hZ ĉ xp;show tP.go (F:=G) (ε:=[some<|aK c S]) (sd1 (sF.trans e3) hv) ⟨rfl,rfl,by decide,⟨#[0]⟩⟩ λx H4 e4 _ hx=>?_;let#[lt,xs,1,NI,hxs]:=hx;let hp:=a1y hxs;let VS:=Paired.length hp;let le4:f' (grow G H3 H4) H4:=aM (sF.trans e3) e4;let laN:∀ x∈S.names,grow G H3 H4 AY=none:=λe0Z=>by ext1 grow;rw[if_neg (by rw[(Wq x hx).1];show nofun)];show sF.free (Wq x hx).2.1
  generalize grow G H3 H4=Γ at *
  show#[lt,1,#[_,LS.of<|le4 _ _ NI],e1W (xs:=xs) (λj σ Hj=>(∃ o2 o3 o4 o5,σ=[!v,some<|.ref d,o2,o3,o4,o5,none])/\f' H Hj/\f' Γ Hj/\Hj d=!(.dK<|S.names.map λx=>(Sum.inr x,V.ref<|LA x))/\∀ x∈S.names,Hj AY=!(.lst<|(e9B x).map V.str)) ⟨⟨_,_,_,_,rfl⟩,e3.trans e4,le4,e4 _ _ hd3,λe0Z=>e4 ĉ (Wq x hx).1⟩ (λj σ Hj _ h=>LS.of<|h.2.2.1 _ _ NI) ?_ ?_]
  ·rintro j w σ Hj ev ⟨⟨o2,o3,o4,o5,rfl⟩,eH,eΓ,hdj,bj⟩;let#[t,et,b,1,hb]:=Paired.at hp ev;let hy:=a4O t<|GY et;show#[b,_,1,NC.of<|eΓ _ _ hb,1,_,_,1,_,_,1,_,_,1,_,[],2,?_];show#[_,1,_,1,d,.ref<|LA t.2.2.1,1,(by rw[<- (Wq _ hy).2.2];show Q4.k (k:=Sum.inr t.2.2.1) hdj),.inl #[1,_,LS.of<|bj _ hy],_,1,LA t.2.2.1,_,_,2,bj _ hy,?_,#[jY,1],bg eH (Wq _ hy).2.1,bg eΓ<|laN _ hy,?_,λe0Z=>?_]
   ·let h3:=qp (S.Ls.take j) t.2.2.1;rw[Hl]at h3;rw[GP];change (e9B t.2.2.1).length<2 ^ 24;omega
   ·rw[aa (λz=>by rw[z,bj _ hy]at hdj;cases hdj)];show hdj
   ·rw[aP et,c4k];by_cases cx:t.2.2.1=x
    ·subst cx;rw[if_pos rfl,ai,He];rfl
    ·rw[if_neg cx,HF,aa λz=>cx (inj _ hx _ hy z).symm];show bj x hx
  ·rintro σ Hj ⟨⟨o2,o3,o4,o5,rfl⟩,eH,eΓ,hdj,bj⟩;rw[VS,HJ]at bj;let ebs:((bv S).map λb=>b7k)=S.names.map λx=>(.inr x,aY<|f0D x):=by ext1 bv;rw[GV];rfl
   let bsl:(bv S).length=S.names.length:=by ext1 bv;rw[GP]
   show hZ ĉ ?_;show#[grow G H Hj,[.fz<|aK c S,.fz<|uS Dq,.un,.un,.un,.un,.un],.rt<|aY Š,a0T (l:=[aK c S,uS<|bv S]) (vs:=[v,.ref d]) 5 sF eH #[_,_,1,hv.mono<|ao sF,_,_,1,#[d,_,1,.inl<|(aF d0).trans hdj,?_,?_],1] [o2,o3,o4,o5,none] rfl<|Hi 5,?_,λx H' e' _ h=>q x H' e' h]
   ·rw[ebs,GV,GV];rfl
   ·rw[ebs,GV,GV];show fC λe0Z=>#[LA x,_,1,(aF (Wq x hx).2.1).trans<|bj x hx,by change LO _ ((f0D x).map D.str) ((f0D x).map V.str);show fC λy _=>rfl]
   show .nx oE ?_;show fH (β:=Nat) (b:=0) (λk ε=>ε=[.fz<|aK c S,.fz<|uS Dq,.un,.un,.un,.un,.ow<|aY (f0F k)]/\k<=S.names.length) (λk=>S.names.length - k) #[1,HP _] λk e3c=>?_;let#[he,hk]:=gR;subst he;let#[on,ol]:=lu ac k #[0];let l1:=OP.m (g:=D.str) (x:=e7i k);rw[ol]at l1;let l2:OP [uS<|bv S] (.int S.names.length):=by let:=OP.k (ð:=(bv S).map λb=>b7k);rwa [GP,bsl]at this
   let rd:=lt_int (ε:=[some<|aK c S,some<|uS Dq,none,none,none,none,some<|aY (e7i k)]) (ra:=rF OP<|rA (rV 6) Uu) (rb:=rF OP<|rA E6 Uu) (i:=k) (j:=S.names.length) #[#[2],l1] #[#[2],l2];by_cases g:k<S.names.length
   ·rw[Hb<|by omega]at rd;let#[x,ex,hx,hn]:=a3L ac (ts:=f0F k) #[0];let fr:=NW.mk (bs:=bv S) (ts:=f0F k) ac.nd λe3b=>by unfold bv at hb;let#[y,_,1]:=GX.mp hb;show HE (qp ĉ) #[0]
    rw[ex]at fr;show .inr #[rd,k+1,_,#[1,by rw[GP,ol];omega,.a #[#[3],fr] rfl],#[?_,g],#[0]];change _=[_,_,_,_,_,_,Sl.ow<|aY (e7i k++[(bR Dq<|e7i k).getD ""])]
    rw[ex,show aY (_++[(!x).getD ""])=.lst (List.map D.str _++[.str x]) from congrArg D.lst He];rfl
   ·let g:k=S.names.length:=#[0]
    rw[GZ<|by omega]at rd;show .inl #[rd,1,by rw[g]]
def Sg (s):e7P H []:=#[s,HP _,λe8H=>by simp at q]
def M0 (c7r):Sd F (o::σ) H (none::ε):=#[S.le,Nat.succ_le_succ S.len,λe8H=>by
 cases i with
 | zero=>cases q
 | succ i=>show S.rd i d q]
def N6 (c82)(c7r):e9a H (some d::ε):=#[S.le,Nat.succ_le_succ S.len,λi e q=>by
 cases i with
 | zero=>cbv
 | succ i=>show S.rd i e q]
def bz (h:H a=none):e0M (upd G a o)=upd ŋ a o:=by
 funext b;by_cases c:b=a
 ·subst c;rw[aF h,ai,ai]
 ·ext d6X;rw[aa c,aa c]
def prG (s)(d0F)(hl:LO ŋ l vs)(hR:R l d)(c9F):Pr R vs G Q E0:=#[_,l,d,aM s e,hl,hR,λx G' e' h=>q x G' e'<|by rwa [aw e e']at h]
def tPG (d0F)(S:Sd ŋ σ G ε)(h:r ε d)(c9F):tP r σ G Q:=e54 h λx G' e' _ k=>q x G' e' (by rwa [aw e e']at k)
def BM (d0F)(e':f' G G')(hl:G l=!o):f' (grow (ay l ŋ) G G') (ay l b7l):=λb u hb=>by
 by_cases c:G b=none
 ·rw[aF c]at hb;rw[aA (aj hl c).symm,aF<|e.free c];show hb
 ·rw[show grow _ G G' b=ay l _ b from if_neg c]at hb;show aR (b8 e') b u hb
theorem ue:Hp:=λ_=>none
def bH:f' ue H:=λe8E=>nomatch h
variable {C CE f:Addr}
abbrev r6 (CE dx d l:Addr):HO:=.ins CE dx [("rows",.ref d),("probes",.ref l)]
inductive je (c9y)(c8p):∀(x dx d:Addr) (m:Nat),vs=[.ref x,.ref d,.int (m:Int)]->H x=!.ins CE dx []->m<=1000->(∀ l H1,f' b0t H1->DR (grow ue b0t H1) c2q qE->Q .non (upd H1 x (r6 CE dx d l)))
def a8n:au ü ü (ae dA):=Pa
def a94 [Bx:Bd](c68)(NM):Tm 3 "__init__" "Ear.__init__" dA ü (je CE):=by
 ext d2P;show F.k a8n λe2C=>?_
 ·let#[x,dx,d,m,1,hx,hm,q]:=h;show#[_,(af (e4s Gf rfl)
 (aq<|e4s (aO NM hr.m rfl<|e7h K') rfl)),?_]
  show#[CJ,x,CE,zV,hx,T.cl,T.nR,by decide,?_];show#[kN,#[hm],λl e13 hN=>?_];let#[a,xs,1,hN]:=hN;show#[_,1,x,CE,zV,e1I ai,T.cl,T.nB,(by change 1<1000;decide),q a H1 e1 #[a,xs,1,hN]]
inductive tD (C CE:Addr)(c8p):Prop
 |mk (F:Hp) (a f d dx l:Addr) (p k:Int) (i:Nat) (B:Θ) (R:Mk.Qn):f' F H->vs=[.ref a,.ref f,.int (i:Int),.int k]->F a=!r6 CE dx d l->DR F (bc R) uo->DR F (tb B) qE->DR F (fD C p) Ci->0<p->p<=1000000->k∈R.map (·.1)->i<B.length->(∀ r∈B,Vw p r/\r.length<=1000)->B.length<=1000 ->
  (∀ l' H1,f' H H1->DR nH (tb (Mk.moved p B i Ŵ)) (d9i l')->Q .non (upd H1 a (r6 CE dx d l')))->tD C CE vs H Q E
inductive MvI (F H:Hp)(a f ml:Addr)(i:Nat)(k:Int)(ow of:V)(ps:Θ)(j:Nat)(c7t):∀(o7 o8 o9:Ç) (ys:π),σ=[!.ref a,!.ref f,!.int (i:Int),!.int k,!ow,!of,!.ref ml,o7,o8,o9]->f' H G->G ml=!.lst ys->LO (ay ml ŋ) ((ps.take j).map rw) ys
def Sqs:au [c5d,"own","often","moved","place","probe","less"] æ (ae uL):=Pa
def b0K [Bx:Bd](c68)(MU)(Lx):Tm 5 "move_front" "Ear.move_front" uL æ (tD C CE):=by
 ext d2P;show F.k Sqs λe2C=>?_
 ·let#[F,a,f,d,dx,l,p,k,i,B,R,sF,1,ha,hR,hB,hf,p0,p1,hk,hi,hF,hz,q]:=h;let ND:=Sqs.nd;let#[l',xs,el,hl,hp]:=id hB
  cases el;let hE:DR F (e71 B) EH:=#[a,zV,ha,1,wG,hR,wG,hB,1]
  let VS:=hp.length;rw[GP]at VS;let#[vo,evo,hvo]:=hp.at (d:=rw ŝ) (by rw[Hf,GR hi,GU,GR hi];rfl)
  let sh:∀ {j:Nat},j<B.length->qw C CE [e71 B,fD C p,.int j,.int k] (.int<|e6i (B.getD j []) (e2t k)):=λhj=>#[p0,p1,hk,hj,(hF _<|iK hj).1,(hF _<|iK hj).2]
  let rs:∀ x y:Ξ,0<=e6i x y/\Mx.LV p x y<p:=λx y=>by rw[Mx.Mn];show#[Ij _<|by omega,HV _ p0]
  show#[_,(af (pS 4 ND<|pI Ś KK Gk)
   (af (d9u pS 5 MU w4)
   (af c2r
   (af (e0s (e72 T.Mm<|a9 KK K') b2z
    (af (pS 9 ND<|YA (e0G (Đ 7)<|Đ 2) (dC aG) (e1L MU hr.m<|e0f (da (Đ 7)<|e0K LB)))
    (aq (jg (pT bn Sk aG)
    (d8I FU nC)
    (aq (aE (d93 FU (a9 (e8t (cS 2 [1,5,9] [c41,"less"]) (f0n T.Oo<|da (Đ 8) zc)
     Ĝ
     (λd94=>df0)
     (λd94=>e3w Lx hr.m<|da (dO tU eA a90<|e1T (Đ 4) (Đ 1)) LB)) K'))))))))
   (aq<|e4s FU rfl))))),?_]
  ext d4s;show#[_,1,a,CE,dx,_,_,1,e1V ha,T.cl,T.nB,1,_,1,l,xs,_,_,2,LS.of<|e1V hl,cT evo,?_];ext d7Z;show tP.go (ε:=[some<|e71 B,some<|fD C p,some<|.int i,some<|.int k]) (N6 hE<|N6 hf (N6 rfl<|e4H (Sg sF))) ⟨rfl,by decide,⟨rfl,rfl,rfl,rfl⟩,sh hi⟩ λx e13 _ hx=>?_
  ext d6t;show#[by decide,λml e1v h2 hml=>?_];let Tb:=e1.trans e2;let Xf:=e1.free h2;let gF:∀ {G:Hp},f' F (ay ml<|e0M G):=λ{G} b o hb=>by rw[aA (λz=>by rw[z]at hb;rw[e1V hb]at Xf;cases Xf)];show ao sF ĉ hb
  ext d2u;show#[_,1,a,CE,dx,_,_,1,Tb ĉ<|e1V ha,T.cl,T.nB,1,l,xs,1,Tb _ _<|e1V hl,b5n (e7j b8J<|e3L B i (e2t k)) ⟨none,none,none,[],rfl,Tb,hml,rfl⟩ (λj e3r=>(by let#[Y8,eG,_,_]:=gR;show LS.of<|f0G (e1V hl))) ?_ ?_]
  ·rintro j v Tp σ G ev ⟨o7,o8,o9,ys,rfl,eG,Zh,Zi⟩ hTp;let hj:j<B.length:=by let:=(GS.mp ev).1;omega
   let#[v',ev',hv]:=hp.at (d:=rw gj) (by rw[Hf,GR hj,GU,GR hj];rfl)
   rw[ev]at ev'
   cases ev';let eT:f' G (upd G Tp<|.tup [.int j,v]):=aZ Ě hTp;generalize upd G Tp (.tup [.int j,v])=G1 at eT;let e1G:=eG.trans eT;let yl:=Zi.length;rw[GP,Hl]at yl;let tk:(e3L B i<|e2t k).take (j+1)=(e3L B i<|e2t k).take j++[e4I Ŵ j]:=by show aP ?_;ext1 Mk.moved;rw[Hf,JA hj];rfl
   let MN:ys.length<2 ^ 24:=#[0]
   let put:∀ (G2:Hp)(u:V)(o9':Ç),f' G1 G2->DR (ay ml<|e0M G2) (rw (e4I Ŵ j)) u->e7j b8J (e3L B i<|e2t k) (j+1) [some<|.ref a,some<|.ref f,some<|.int (i:Int),some<|.int k,!vo,some<|.int Cn,some<|.ref ml,some<|.int (j:Int),!v,o9'] (upd G2 ml<|.lst (ys++[u])):=λG2 u o9' e hu=>by show#[jY,1,bg (e1G.trans e) Xf,ai,?_];rw[tk,He,bz Xf,du];show (Zi.mono<|aR (b8<|eT.trans e)).app (.one hu)
   let S1:Sd F [some<|.ref a,some<|.ref f,some<|.int (i:Int),some<|.int k,!vo,some<|.int Cn,some<|.ref ml,some<|.int (j:Int),!v,o9] G1 [some<|e71 B,some<|fD C p,some<|.int i,some<|.int k,none,none,none,some<|.int j]:=N6 hE<|N6 hf (N6 rfl<|e4H (M0<|M0 (M0<|e4H (Sg<|sF.trans e1G))));let md:e4I (e2t k) j=if j=i\/Mx.LV p (B.getD j []) (e2t k)=0 then B.getD j [] else List.zipWith (λx y=>(e6i ŝ Ŵ * x - Mx.LV p gj Ŵ * y) % p) gj ŝ:=rfl
   let r1:=eq_int (ε:=[some<|e71 B,some<|fD C p,some<|.int i,some<|.int k,none,none,none,some<|.int j]) (ra:=rV 7) (rb:=rV 2) rfl rfl;ext d4s;by_cases cj:j=i
   ·rw[Hb<|by omega]at r1;show tP.go S1 (.t r1 rfl) λx G2 Pu _ hx=>?_
    ext d6x;ext d37;show⟨_,λσ' H' h=>h,_,rfl,rfl,_,rfl,Gi #[c33]⟩;rw[md,if_pos<|.inl cj];show hv.mono gF
   ·rw[GZ<|by omega]at r1;show tP.go S1 (.f r1 ⟨rfl,by decide,⟨rfl,rfl,rfl,rfl⟩,sh hj⟩) λx G2 Pu _ hx=>?_
    ext d6x;let e2G:=e1G.trans Pu;ext d37;show⟨_,λσ' H' h=>h,_,rfl,rfl,_,rfl,ku vD vD⟩
    ·let z:e6i gj Ŵ=0:=by let:=HA z;injection this
     show#[c33];rw[md,if_pos<|.inr z];show hv.mono gF
    ·let z:¬ e6i gj Ŵ=0:=λy=>z<|Hb (by rw[y]);let jl:(B.getD j []).length<=1000:=(hF _<|iK hj).2;let b1:=rs ŝ<|e2t k;let b2:=rs gj<|e2t k;show#[_,1,.inl b49,?_];show tPG (F:=ay ml<|e0M G2) Ě (ε:=[none,some<|fD C p,none,none,some<|rw ŝ,some<|.int Cn,none,none,some<|rw gj,some<|.int (e6i gj<|e2t k)]) ?_ (c7 (xs:=(B.getD j []).zip<|B.getD i []) (d:=rw (e4I (e2t k) j)) ⟨_,_,⟨rfl,rfl,rfl⟩,iF _ _⟩ (by rw[Jb];omega) (λe8a=>#[BZ,nJ,#[#[#[2,D6],#[2,D6],L4],1],AW]) ?_) λx G3 e3 hx=>?_
     ·let gg:∀ {d:D}{v:V},e1S v->DR (grow (ay ml<|e0M G2) G2 G2) d v:=λh=>(h.mono gF).mono<|ao b8K;show M0 (N6 (gg hf)<|M0 (M0<|N6 (gg hvo) (N6 rfl<|M0 (M0<|N6 (gg hv) (N6 rfl<|Sg (aM b8K<|f'.refl _))))))
     ·rw[md,if_neg λy=>y.elim cj z,<- IW];ext d7p
     ·show#[ml,_,_,2,f0h UL,MN,put G3 x _ (Pu.trans e3)<|hx.mono (BM e2G e3 UL)]
  ·rintro σ G ⟨o7,o8,o9,ys,rfl,eG,Zh,Zi⟩;rw[IZ (by ext1 Mk.moved;rw[GP,HL];omega)]at Zi;ext d37;show#[_,1,_,1,a,CE,dx,_,1,eG ĉ<|e1V ha,T.cl,T.nB,(by change 2<1000;decide),q ml G eG #[ml,ys,1,by rw[aF Xf];show Zh,Zi.mono LC]]
open e
def qd {g:α->D}(c77){i:Nat}(h:LO F yA vs)(e:vs[i]?=!v):∃ y,l[i]?=!y/\DR F (g y) v:=by let#[d,ZL]:=h.at' e;rw[Hf]at h1;let#[y,h3,1]:=HI.mp h1;show#[y,h3,h2]
def PGs (d0T):∀ {l:List α},(l.map f).Nodup->∀ r∈l,l.find? (d9N (f x=f r))=!r:=by
 intro r'
 induction r' with
 | nil=>
  ext d7G
 | cons x ws ih'=>
  intro nd r h;ext d5t
  ·cbv
  ·let ne:¬ f x=f r:=λz=>nd.1<|z▸Hm h;ext d7b
theorem jz (as:υ)(G:Hp):Hp:=λb=>if b∈as then none else G b
instance sD (e:f' G G'):f' (jz as G) (jz as G'):=λb o h=>by
 unfold jz at h ⊢;split at h
 ·cases h
 ·rename_i c;rw[if_neg c];show e ĉ h
def a1f (h:l∈as)(o:HO):jz as (upd G l o)=jz as G:=by
 funext b;ext1 jz
 grind [aa]
def iN:f' (jz as G) G:=λb o h=>by
 unfold jz at h;split at h
 ·cases h
 ·show h
def uG (h:¬ b∈as):jz as G b=G b:=if_neg h
def pW:f' (d9y G) G:=λb o h=>by
 ext d54
 ·rwa [if_pos c]at h
 ·ext d5k
theorem XD (MR:υ)(H)(v)(a:Mk.Ask):Prop:=∃ b ea,v=.ref b/\MR[a.1]?=!ea/\H b=!.tup b1C
def XD.mono (zs:υ)(e)(h:XD MR H v a):XD (MR++zs) H' v a:=by let#[b,ea,Lf]:=h;show#[b,ea,h1,by rw[HQ (GS.mp h2).1];show h2,e ĉ h3]
theorem Wx (c9y)(MD:υ)(m)(H)(ea:Addr)(LY:Mk.Mt):Prop:=∃ d dx l,MD[LY.1]?=!d/\H ea=!r6 CE dx d l/\DR H c2q qE
def Wx.mono {CE:Addr}(e)(h:e9b H ea LY):e9b H' ea LY:=let ⟨d,dx,l,a,b,c⟩:=h;#[c5D]
abbrev _root_.Û:=Int->Addr
abbrev nwL (ks:Ξ)(LA:Û)(H G:Hp):Hp:=jz yh (d9y G)
def yJ (h:¬ b∈ks.map LA)(h0:H b=none):e4J G b=G b:=(uG h).trans (aF h0)
inductive Uw (c66)(es:List Mk.Mt)(L:List b7m)(MR:υ)(G:Hp):f' G0 (jz yh G)->(∀ k∈ks,H DH=none/\∃ xs,G DH=!.lst xs/\Paired (XD MR (nwL ks LA H G)) xs (Mk.pick L k))->Paired (Wx CE MD m (nwL ks LA H G)) MR es->MR.Nodup
variable {CE:Addr}
def Uw.mono (d0U)(c7G):e2Q es L MR G':=by let#[AS]:=h;let e':=sD (as:=ks.map LA)<|b8 (F0:=ue) (H0:=H) e;show#[h1.trans<|sD e,λf06=>?_,Paired.O3 h3 λ_ _ z=>z.mono e',h4];let#[g0,xs,sV]:=h2 k hk;show#[g0,xs,e ĉ g1,Paired.O3 g2 λ_ _ z=>by let:=z.mono [] e';rwa [HF]at this]
def Uw.out (c7G)(hb:G b=none):¬ b∈ks.map LA:=λz=>by
 let#[_,h2,_,_]:=h;let#[k,hk,1]:=GX.mp z;let#[_,xs,g1,_]:=h2 k hk
 grind
def Uw.app (inj:∀ x∈ks,∀ y∈ks,LA x=LA y->x=y)(c7G)(hk:k∈ks)(hx:G DH=!.lst xs)(he:MR[a.1]?=!ea)(hb0:H b=none)(hb:G b=!.tup b1C):
  Uw CE H G0 ks LA MD m es wX MR (upd G DH (.lst (xs++[.ref b]))):=by
 let#[AS]:=h;let km:=Hm (f:=LA) hk;let hu:e4J (upd G DH<|.lst (xs++[.ref b]))=e4J G:=by ext1 nwL;rw[bz (h2 k hk).1,a1f km]
 let nb:¬ b∈ks.map LA:=λz=>by
  let#[k',V0,1]:=GX.mp z;let#[_,ys,g1,_]:=h2 k' V0;rw[hb]at g1
  cases g1
 show#[by rw[a1f km];show h1,λk' V0=>?_,by rw[hu];show h3,h4];rw[hu];let#[g0,ys,sV]:=h2 k' V0;show#[g0,?_];by_cases c:k=k'
 ·subst c;rw[hx]at g1
  cases g1;rw[Mk.Wb];show#[_,ai,Paired.Qr g2 #[b,ea,1,he,(yJ nb hb0).trans hb]]
 ·rw[Mk.Va _ c];show#[ys,by rw[aa λz=>c (inj _ V0 _ hk z).symm];show g1,g2]
def Uw.LY (c7G)(hx:G x=none)(d0U)(hE:e9b (e4J G') x Aw):e2Q (es++[Aw]) L (MR++[x]) G':=by
 let#[AS]:=h.mono e;let#[_,_,g3,_]:=h;show#[h1,λf06=>?_,Paired.Qr h3 hE,?_]
 ·let#[g0,xs,wH]:=h2 k hk;show#[g0,xs,q1,Paired.O3 q2 λ_ _ z=>z.mono [x]<|f'.refl _]
 ·show HR.mpr #[h4,by simp,λe3G e8a ez=>?_];rw[Hs.mp hz]at ez;subst ez;let#[i,hi,ei]:=HX.mp hy;let#[LY,_,d',dx,l,_,q,_]:=Paired.at g3 (GR hi);rw[ei]at q;rw[pW ĉ<|iN _ _ q]at hx
  cases hx
open e
inductive As1 (c66)(v:V)(fa rb ls d:Addr)(c98)(d1J):∀(o6 o7 o8 o9 OM OK Pe Pb:Ç) (MR:υ),σ=[c2Y,o6,o7,o8,o9,E4]->Uw CE H G0 ks LA MD m (Mk.LQ Bq) (Mk.O9 (Mk.LQ Bq)) MR G
inductive As2 (c66)(v:V)(fa rb ls d ba rd:Addr)(e0:List Mk.Mt)(i:Nat)(bl:Δ)(j:Nat)(c7t):∀(o8 o9 OM OK Pe Pb:Ç) (MR:υ),σ=[some v,some (.int (m:Int)),some (.ref fa),some (.ref rb),some (.ref ls),some (.ref d),some (.ref ba),some (.ref rd),o8,o9,E4]->Uw CE H G0 ks LA MD m (e0++(bl.take j).map λways=>mr) (Mk.O9 (e0++(bl.take j).map λways=>mr)) MR G
inductive As3 (c66)(v:V)(fa rb ls d ba rd wa ea:Addr)(d1b)(n:Nat)(ways:Θ)(MR:υ)(w:Nat)(c7t):∀(OM OK Pe Pb:Ç),σ=[c4r,E4]->Uw CE H G0 ks LA MD m e1 (L++Mk.Ol n xD) MR G
inductive As4 (c66)(v:V)(fa rb ls d ba rd wa ea wy lz:Addr)(d1b)(n w:Nat)(way:Ξ)(MR:υ)(k:Nat)(c7t):∀(Pe Pb:Ç),σ=[c4r,!.int (w:Int),!.ref wy,Pe,Pb]->G lz=!.lst ([V.int (Mk.st w)]++way.map V.int)->¬ lz∈ks.map LA->Uw CE H G0 ks LA MD m e1 (L++(Mk.PZ n w way).take k) MR G
variable {c:Cl}{CE:Addr}
inductive a1O (H:Hp)(ad:Addr)(ks:Ξ)(d1z)(MR:υ):∀(ķ:ξ) (LA:Û),H ad=!.dK ķ->(∀ k∈ks,cW ķ gx=!.ref DH/\∃ xs,H DH=!.lst xs/\Paired (XD MR H) xs (Mk.Mi ê k))
inductive tG (c:Cl)(c9y)(c8p):Prop
 |mk (F:Hp) (v x:V) (rb:Addr) (S:NS) (m:Nat) (found:List Δ) (MD:υ):f' F H->vs=[v,.int (m:Int),x,.ref rb]->DR F (aK c S) v->S.Ls.length<=1000->(S.Ls.map (·.1)).Nodup->DR F (WO found) x->H rb=!.lst (MD.map V.ref)->MD.length=found.length->found.length<=1000->m<=1000->(Mk.O9 xQ).length<=1000000 ->
  (∀ bl∈found,bl.length<=1000/\∀ ways∈bl,ways.length<=m/\∀ way∈ways,way.length<=1000/\∀ k∈way,k∈S.Ls.map (·.1)) ->
  (∀ ad H' MR,f' H H'->a1O (d9y H') ad ł xQ MR->Paired (Wx CE MD m (d9y H')) MR xQ->MR.Nodup->Q (d9i ad) H')->tG c CE vs H Q E
def a7P:au [zP,c36,"starts","told","by_listener","rows","ear_ways","ear","place","way","number","ahead"] ø (d8Z 89):=Pa
def c4i [Bx:Bd](c68)(TD)(Mr)(Ly)(XB:W4 3 "Ear" CE ü (je CE)):Tk 5 "asks_by_tie" (top 89) ø (tG c CE):=by
 ext d2P;show F.k a7P λe2C=>?_
 ·let#[F,v,x,rb,S,m,found,MD,sF,1,hv,tz,Y4,#[fa,fs,1,hfa,hfp],hrb,rl,fz,hm,hB,bnd,q]:=h;let ND:=a7P.nd;let hfa:=e1V hfa;show#[_,(af (pS 4 ND<|aO Mr hr.m rfl Eu)
   (af (pS 5 ND (eK (cC rfl) rfl TD boot_dict (a9 (dZ rfl c1H b4x
  Ĕ
  uq
  (d9Q (pI (z4 Bx.K) EB aG))) K')))
   (af (e0s (e7k T.Oo<|e7h XL) (e5L rfl<|ag lJ (ag CB aI))
  (aq (e0s (d9M 6) Ak
  (af (pS 9 ND<|i7 XB hr.m rfl (d8Q tR Gf))
 (aq (e0s (e72 T.Mm<|a9 nC K') (e5L rfl<|ag (pN 10 ND) (ag (pN 11 ND) aI))
  (aq (e0s (e7k T.Oo<|a9 (pv 11) (d9n (cr b30 (cP<|a9 b2U K')<|pv 11))) (e5L rfl<|ag xO c0T)
  (d8I (pD fB OL<|pv 12) (c8<|a9 Sk (a9 (pv 10)<|a9 (pv 13) K')))))))))))
   (d9R OL)))),?_]
  show av λZ hZ=>?_;show#[kN,#[hm],λls e13 hls=>?_];let#[ls,us,1,hls,hus]:=hls;rw[jx hus]at hls;let hls:=pW ĉ hls;show hZ ĉ xp;show tP.go (F:=F) (ε:=[some<|aK c S]) (sd1 (sF.trans e1) hv) ⟨rfl,rfl,by decide,⟨tz⟩⟩ λx e1v _ hx=>?_;let#[tl,ts,1,Yi,XN]:=hx;let le2:f' (grow F H1 H2) H2:=aM l7 e2;let ut:∀ t∈S.Ls,bA ((S.Ls.find? λt'=>decide (t'.1=t.1)).getD (0,"","",0))=bA t:=λe6r=>by rw[PGs Y4 t ht];rfl
  let eu:(S.Ls.map (·.1)).map (λk=>bA<|(S.Ls.find? λt=>decide (t.1=k)).getD (0,"","",0))=S.Ls.map bA:=by rw[GV];show HH ut
  rw[<- eu]at XN;show#[tl,1,#[_,LS.of<|le2 _ _ Yi],c4z (kf:=(Sum.inl:Int->jr)) le2 (Al (.inl Yi) XN) (by rw[GP];show tz) (λf06 v H3 Q hv q=>?_) λlc H3 as vs e3 h0 e3q=>b8m (λ_ _=>Sum.inl.inj) Y4 (by rw[GP];show tz) e3 Ql al an has hp λd H4 LA e4 d0 hd Wq inj=>?_]
  ·let#[mQ]:=GX.mp hk;rw[ut t ht]at hv;let#[tp,vs,1,XN,mE]:=hv;show#[_,1,tp,_,(0),_,2,NC.of XN,lX,λf1y=>#[(by change 2<=sizeLine;decide),λt' e8I h3 ht=>q a t' H3 (e2.trans e3) h2 (e2.free h3) (f0h ha) ht]]
  generalize hkv:(S.Ls.map (·.1)).map (λx=>((Sum.inl x:jr),V.ref<|LA x))=ķ at hd Wq;generalize Xg:S.Ls.map (·.1)=ks at *
  let Tb:=e1.trans e2;let e04:=Tb.trans e4;let laN:∀ b∈ks.map LA,H2 b=none/\H4 b=!.lst []:=λe3b=>by let#[k,hk,1]:=GX.mp hb;let#[sV,_]:=Wq k hk;show#[g2,g1]
  let hG0:∀ {b o},H2 b=!o->jz yh H4 b=!o:=λ{b o} hb=>by rw[uG (λz=>by rw[(laN b z).1]at hb;cases hb)];show e4 ĉ hb
  let hd0:jz yh H4 d=!.dK ķ:=by rw[uG (λz=>by rw[(laN d z).2]at hd;cases hd)];show hd
  let st:Uw CE H (jz yh H4) ks LA MD m [] [] [] H4:=#[f'.refl _,λf06=>#[Tb.free (Wq k hk).2.1,[],(Wq k hk).1,.nil],.nil,Ju]
  generalize jz yh H4=G0 at st hG0 hd0;let toG:∀ {es L MR G},e2Q es L MR G->f' H2 G:=λ{es L MR G} gR b o hb=>by let#[g,BY]:=gR;show iN ĉ (g ĉ<|hG0 hb)
  let fl:=hfp.length;rw[GP]at fl;show hZ ĉ xp;show#[_,1,_,1,fa,rb,1,#[_,LS.of<|e04 _ _ hfa],#[_,LS.of<|e04 _ _ hrb],e7l (xs:=fs) (ys:=MD.map V.ref) (As1 CE H G0 ks LA MD m v fa rb ls d found)
   #[pY,pY,[],1,st] (λi e3r=>(by let#[jY,Y8,_,I]:=gR;show#[LS.of<|e4K (e4G hfa),LS.of<|e4K (e4G hrb)])) ?_ ?_]
  ·rintro i x y Tz σ G ex ey ⟨o6,o7,o8,o9,OM,OK,Pe,Pb,MR,rfl,I⟩ hTz;let#[bl,ebl,ba,bs,1,hba,hbp]:=qd hfp ex;let hba:=e1V hba;rw[Hf]at ey;let#[rd,erd,1]:=HI.mp ey;let#[blz,bw]:=bnd bl<|GY ebl;let eT:f' G b9r:=aZ Ě hTz;let Xk:b9r Tz=!.tup rq:=ai;generalize upd G Tz (.tup rq)=G1 at eT Xk;let I1:=I.mono eT;let bl2:=hbp.length;rw[GP]at bl2;show#[c44];show#[_,1,ba,1,#[_,LS.of<|toG I1 _ _ (e4G hba)],e1W (xs:=bs) (As2 CE H G0 ks LA MD m v fa rb ls d ba rd (Mk.LQ<|found.take i) i bl)
    #[_,_,_,_,_,_,MR,1,by rw[Jt,J0,HF];show I1] (λj e3r=>(by let#[jY,jY,I]:=gR;show LS.of<|e4K (e4G hba))) ?_ ?_]
   ·rintro j x σ G ex ⟨o8,o9,OM,OK,Pe,Pb,MR,rfl,I⟩;let#[ways,ew,wa,wsx,1,hwa,hwp]:=qd hbp ex;let hwa:=e1V hwa;let#[wl,wb]:=bw ways<|GY ew;let wl2:=hwp.length;rw[GP]at wl2;let hA:∀ {w i2:Nat}{way:Ξ},ways[w]?=some way->(Mk.O9 (Mk.LQ (found.take i)++(bl.take j).map λways=>mr)++Mk.Ol (Mk.LQ Bq++(bl.take j).map λways=>mr).length xD++(Mk.PZ (Mk.LQ Bq++(bl.take j).map λways=>mr).length w way).take i2).length<=1000000:=λhw=>Mk.room hB ebl ew hw;let tkb:Mk.LQ Bq++(bl.take<|j+1).map (λways=>mr)=b0u++[mr]:=by rw[aP ew,He,Ib];rfl
    generalize b0u=es at I hA tkb;show av λZ hZ=>?_;show#[CJ,λea dx nx ndx nex=>#[ea,dx,rd,m,1,ai,hm,λlp G2 Pu hN=>?_]];let nin:=I.out nx;let hn:∀ {b:Addr},e01 b=none->b≠ea/\G b=none:=λ{b} hb=>by
     let c1:b≠ea:=λz=>by rw[z,ai]at hb;cases hb
     let c2:b≠dx:=λz=>by rw[aa c1,aa c1,z,ai]at hb;cases hb
     rw[aa c1,aa c1,aa c2]at hb;show#[c1,hb]
    let eE:f' G (upd G2 ea<|e6j rd lp):=λe3o=>by let c1:b≠ea:=aj hb nx;rw[aa c1];show Pu ĉ (by rw[aa c1,aa c1,aa<|aj hb ndx];show hb)
    let H2G:=Tb.trans<|toG I;let I2:=I.LY (ways:=ways) (c:=i) nx eE #[rd,dx,lp,erd,(yJ nin<|H2G.free nx).trans ai,hN.mono λe3o=>by
     unfold grow at hb;by_cases c1:e01 b=none
     ·rw[if_pos c1]at hb;let#[c2,c3]:=hn c1;rw[yJ (I.out c3)<|H2G.free c3,aa c2];show hb
     ·rw[if_neg c1]at hb;cases hb]
    let eal:(MR++[ea])[es.length]?=!ea:=by let#[_,_,g3,_]:=I;rw[<- Paired.length g3,HU<|Hi _,Nat.sub_self];rfl
    generalize MR++[ea]=a1K at I2 eal;generalize upd G2 ea (e6j rd lp)=G3 at I2;show#[1,hZ ĉ ?_];show#[_,1,wa,wsx,1,toG I2 ĉ<|e4G hwa,b5n (K:=Bx.K) (xs:=wsx) (As3 CE H G0 ks LA MD m v fa rb ls d ba rd wa ea (es++[mr]) (Mk.O9 es) es.length ways a1K)
     #[_,_,_,_,1,by let e:e4L (ways.take 0)=[]:=rfl;rw[e,HF];show I2] (λw e3r=>(by let#[Y8,I]:=gR;show LS.of<|e4K (e4G hwa))) ?_ ?_]
    ·rintro w x Tw σ G ex ⟨OM,OK,Pe,Pb,rfl,I⟩ hTw;let#[way,ewy,wy,ns,1,Xb,VX]:=qd hwp ex;rw[jx VX]at Xb;let Xb:=e1V Xb;let#[wyz,wyk]:=wb way<|GY ewy;let I1:=I.mono<|aZ Ě hTw (o:=.tup c2s);generalize upd G Tw (.tup c2s)=G1 at I1;let hwm:w<m:=by let:=(GS.mp ewy).1;lia
     let est:((Mk.starts m).map V.int)[w]?=!(.int<|Mk.st w):=by ext1 Mk.starts;rw[Hf,Hf,JA hwm];rfl
     let a4j:=toG I1 ĉ<|e4G Xb;show#[_,1,_,1,_,1,ls,_,_,_,2,LS.of<|toG I1 _ _ (e1b hls),cT est,(by change 1<=sizeLine;decide),λl1 G3 e3' _ Rw=>#[_,1,l1,wy,D3,Rw,e3' ĉ a4j,?_,λlz G4 e4' lz0 hlz=>?_]]
     ·rw[GP];change 1+way.length<=2 ^ 24
      lia
     let I4:=(I1.mono e3').mono e4';let e14:=e3'.trans e4';show#[wy,lz,1,#[_,LS.of<|e14 _ _ a4j],#[_,LS.of hlz],e7l (xs:=way.map V.int) (ys:=c2t++way.map V.int) (As4 CE H G0 ks LA MD m v fa rb ls d ba rd wa ea wy lz (es++[mr]) (Mk.O9 es++e4L xD) es.length w way a1K)
      #[_,_,1,hlz,(I1.mono e3').out lz0,by rw[Jt,HF];show I4] (λk e3r=>(by let#[BY,hz,_,I]:=gR;show#[LS.of<|e4K (e4G Xb),LS.of hz])) ?_ ?_]
     ·rintro k x y Tq σ G ex ey ⟨Pe,Pb,rfl,hlz,nlz,I⟩ hTq;let#[num,en,1]:=uy ex;let#[ah,eah,1]:=uy<|show ((Mk.st w::way).map V.int)[k]?=some y from ey;let tkw:(e2g way).take (k+1)=(e2g way).take k++[(num,es.length,w,ah)]:=by show aP ?_;ext1 Mk.PZ;rw[Hf,(@Lg ĉ way (Mk.st w::way) (num,ah) k).mpr #[en,eah]];rfl
      let hk:=wyk num<|GY en;let eq:f' G b9s:=aZ Ě hTq;let a42:b9s Tq=!.tup yo:=ai;generalize upd G Tq (.tup yo)=G5 at eq a42;let I5:=I.mono eq;let#[sV,_,_]:=id I5;let#[_,ys,Zh,hyp]:=g2 num hk;let yl:=Paired.length hyp;show#[Tq,_,1,NC.of a42,1,wG,_,[],2,?_];show#[_,1,_,1,d,.ref<|LA num,1,(by rw[<- (Wq num hk).2.2];show Q4.k (k:=Sum.inl num)<|iN _ _ (g1 _ _ hd0)),.inl ⟨rfl,_,LS.of Zh⟩,_,1,_,1,_,1,(by change 3<=sizeLine;decide),λtb G6 e6 h6 XO=>?_];show#[LA num,D3,e6 ĉ Zh,?_,wG,?_,nlz,?_]
      ·let h1:=Mk.Ya (Mk.O9 es++e4L xD++(e2g way).take k) num;let h2:=hA (i2:=k) ewy;change ys.length<2 ^ 24
       lia
      ·rw[aa<|show lz≠LA num from λz=>nlz (by rw[z];show Hm hk)];show e6 ĉ (eq ĉ hlz)
      ·rw[tkw,<- Ib];show (I5.mono e6).app inj hk (e6 ĉ Zh) eal ((Tb.trans<|toG I5).free h6) XO
     ·rintro σ G ⟨Pe,Pb,rfl,_,_,I⟩;show#[jY,1,?_];let:min (way.map V.int).length (c2t++way.map V.int).length=(e2g way).length:=by let:=congrArg List.length<|Mk.Th es.length w way;rw[GP]at this;rw[Ho,GP,this];simp
      rw[this,HJ]at I;rw[Mk.Tv ewy,<- Ib];show I
    ·rintro σ G ⟨OM,OK,Pe,Pb,rfl,I⟩;rw[wl2,HJ,<- Mk.TC es mr]at I;show#[_,_,_,_,_,_,a1K,1,by rw[tkb];show I]
   ·rintro σ G ⟨o8,o9,OM,OK,Pe,Pb,MR,rfl,I⟩;show#[jY,jY,MR,1,?_];rw[bl2,HJ]at I;rw[Mk.Ry ebl];show I
  ·rintro σ G ⟨o6,o7,o8,o9,OM,OK,Pe,Pb,MR,rfl,I⟩;let:min fs.length (MD.map V.ref).length=found.length:=by rw[GP,fl,rl,Nat.min_self]
   rw[this,HJ]at I;let#[sV,g3,g4]:=id I;show hZ ĉ ?_;show#[_,1,q d G MR (Tb.trans<|toG I) ⟨ķ,LA,?_,λf06=>#[(Wq k hk).2.2,?_]⟩ (Paired.O3 g3 λea LY z=>z.mono iN) g4]
   ·rw[aF<|Tb.free d0];show iN ĉ (g1 ĉ hd0)
   ·let#[g0,xs,a,b]:=g2 k hk;show#[xs,by rw[aF g0];show a,Paired.O3 b λ_ _ z=>by let:=z.mono [] iN;rwa [HF]at this]
open e
theorem KT (H G:Hp):Prop:=(∀ b xs,H b=!.lst xs->G b=!.lst xs)/\∀ b xs,H b=!.tup xs->G b=!.tup xs
def KT.of (d0F):KT H G:=#[λe8E=>e ĉ h,λe8E=>e ĉ h]
def KT.trans (a:KT H G)(b:KT G G'):KT H G':=#[λe8E=>b.1 ĉ<|a.1 _ _ h,λe8E=>b.2 ĉ<|a.2 _ _ h]
def KT.put (hd:G d=!o)(hl:∀ xs,o≠.lst xs)(ht:∀ xs,o≠.tup xs):KT G (upd G d o'):=
 #[λb xs h=>by rw[aa λz=>by cbv];show h,λb xs h=>by rw[aa λz=>by cbv];show h]
def vE (k:KT H G)(h:DR H (rw r) v):DR G (rw r) v:=by let#[a,vs,e,ZL]:=h;rw[jx h2]at h1;show#[a,_,e,k.1 ĉ h1,wV _]
def tK {g:α->Ξ}(k:KT H G):∀ {l:List α}{vs:π},LO H AX vs->LO G AX vs:=by
 intro r'
 induction r' with
 | nil=>
  intro _ h;show h
 | cons _ _ ih'=>
  intro _ y1';let#[v,ws,e,ZL]:=y1';show #[v,ws,e,vE k h1,ih' h2]
def zD (k:KT H G)(h:DR H (tb t) v):DR G (tb t) v:=by let#[a,vs,e,ZL]:=h;show#[a,vs,e,k.1 ĉ h1,tK k h2]
theorem Mz (H)(d)(R:Mk.Qn):Prop:=∃ ķ,H d=!.dK ķ/\ķ.map (·.1)=R.map (λr=>(.inl r.1:jr))/\LO H (R.map λr=>rw r.2) ĸ
def Mz.dr (h:Mz H d R):DR H (bc R) uo:=by let#[ķ,Lf]:=h;show#[d,ķ,1,.inl h1,by rw[h2,GV];rfl,?_];rw[GV];show h3
def Mz.mono (e)(h:Mz H d R):Mz H' d R:=let ⟨ķ,h1,h2,h3⟩:=h;#[ķ,e ĉ h1,h2,h3.mono e]
def Mz.kt (k:KT G G')(hd:G' d=G d)(h:Mz G d R):Mz G' d R:=let ⟨ķ,h1,h2,h3⟩:=h;#[ķ,hd.trans h1,h2,tK k h3]
def Mz.put (h:Mz Γ d R)(e:f' Γ G)(hk:¬ k∈R.map (·.1))(hv:DR Γ (rw r) v)(hz:R.length<2 ^ 24):
  ∃ o,Us G d rW v (upd G d o)/\Mz (upd Γ d o) d (R++[(k,r)])/\KT Γ (upd Γ d o)/\∃ ķ,Γ d=!.dK ķ:=by
 let#[ķ,Lf]:=h;let kl:ķ.length=R.length:=by let:=d91 h2;rwa [GP,GP]at this
 let hn:cW ķ gx=none:=by
  ext1 cW;rw[IX.mpr λe4e z=>hk ?_]
  ·rfl
  ·let:gx∈ķ.map (·.1):=HA z▸Hm hq
   cbv
 let kt:KT Γ (upd Γ d<|.dK (eS ķ (Sum.inl k) v)):=KT.put h1 (λ_ z=>nomatch z) λ_ z=>nomatch z;show#[_,Us.k (k:=Sum.inl k) (e ĉ h1) (by rw[kl];show hz),#[_,ai,mU],kt,_,h1]
 ·rw[i6 _ hn,He,h2,He];rfl
 ·rw[show (eS ķ _ v).map _=ķ.map _++[v] by rw[i6 _ hn,He];rfl,He];show (tK kt h3).app (.one<|vE kt hv)
structure SI (c9y)(G:Hp)(MD MR:υ)(ears:List Mk.Mt)(T:Mk.Te):Prop where
 rows:∀ c d,MD[c]?=!d->Mz G d (T.R.getD c [])
 ears:∀ e ea,MR[e]?=!ea->∃ d dx l,MD[(ears.getD e (0,[])).1]?=!d/\G ea=!r6 CE dx d l/\DR G (tb oM) qE
def SI.mono (d0p)(d0U)(d18):SI CE G' MD MR ê T:=
 #[λc d hc=>(h.rows c d hc).mono e,λi ea he=>let ⟨d,dx,l,a,b,c⟩:=h.ears i ea he;#[c5D]]
def SI.put (d0p)(d18)(hp:G pd=!.dK ķ)(k:KT G (upd G pd o))(np:¬ pd∈MD):SI CE (upd G pd o) MD MR ê T:=
 #[λc d hc=>(h.rows c d hc).kt k<|aa λz=>np<|z▸GY hc,λe ea he=>let ⟨d,dx,l,a,b,c⟩:=h.ears e ea he;#[d,dx,l,a,by rw[aa λz=>by grind];show b,zD k c]]
def pX (c9u):f' c2u (d8W H2):=λb o h=>by
 unfold grow at h;by_cases c:H1 b=none
 ·ext d8F;rw[aF<|e.free c];show h
 ·ext d5k
def gy (h:grow ue H G b=!o):H b=none/\G b=!o:=by
 ext d54
 ·ext d8F;show#[c,h]
 ·ext d5k
def b9P:∀ {vs:π}{l:List α},Paired R vs l->(∀ v a,a∈l->R v a->DR F (g a) v)->LO F yA vs:=by
 intro vs l h
 induction h with
 | nil=>intro _;rfl
 | cons h t ih=>intro k;show#[_,_,1,k ĉ Ha h,ih λv e9m=>k v a<|Hk _ ha]
def b5g (m):(Mk.starts m).Nodup:=by ext d8G;rw[List.Nodup,Ji];show List.nodup_range.imp λn z=>n (by unfold Mk.st at z;lia)
theorem jS (m):Mk.Qn:=(List.range m).map λw=>(Mk.st w,f0p w)
theorem cO (p)(m)(ç)(d1z)(ord)(n):Mk.Qn:=(List.range n).map λi=>((ord.getD i Bt).1,e0l ŭ c2v)
def a0q (ord):(e78 ord.length).map (·.1)=ord.map (·.1):=by
 ext1 cO;show Ll λj=>?_;by_cases hj:j<ord.length
 ·cbv
 ·cbv
structure c30 (S:NS)(d0w)(ç:Θ)(c98):Prop where
 ord:fK S Š
 mem:∀ x∈bP Dq S.names.length,x∈S.names
 Y4:(S.Ls.map (·.1)).Nodup
 MN:(ak S).length<64
 mt:∀ r∈ak S,r.1∈S.Ls.map (·.1)/\∀ ks,r.2=!ks->ks.length<=1000
 p1:p<=1000000
 fl:found.length=ç.length
 fz:found.length<=1000
 mz:m<=1000
 Xn:Mk.Tf p m ç xQ Av
 all:(Mk.O9 xQ).length<=1000000
 bnd:∀ bl∈found,bl.length<=1000/\∀ ways∈bl,ways.length<=m/\∀ way∈ways,way.length<=1000/\∀ k∈way,k∈S.Ls.map (·.1)
 ez:(Mk.LQ found).length<=1000
inductive sZ (c:Cl)(c7j):Ä
 |mk {S:NS}{m:Nat}{p:Int}{ç:Θ}{found:List Δ}:c30 S m p ç found->sZ c C [DD,fD C p,tb ç,WO found] (bc (UD (·.1) (cO p m ç xQ Av (ak S).length)))
variable {c:Cl}{CE:Addr}
inductive MpI (c9y)(F H Γ1:Hp)(v0 vf vl vx:V)(rb ad pd:Addr)(d0w)(ç:Θ)(d1z)(ord:List Mk.MZ)(Wh:ξ)(MD MR:υ)(d1J):∀(o8 o9 OM OK Pe Pb To Vc:Ç),σ=[!v0,!.int (m:Int),!vf,!vl,!vx,!.ref rb,!.ref ad,!.ref pd,o8,o9,E4,To,Vc]->f' H G->KT Γ1 ŋ->grow F H G ad=!.dK Wh->Mz ŋ pd (cO p m ç ê ord i)->SI CE ŋ MD MR ê ŭ
inductive Mp0 (H:Hp)(m:Nat)(l:Addr)(i:Nat)(H1:Hp):∀(MD:υ),H l=none->f' H H1->MD.length=i->MD.Nodup->(∀ d∈MD,Mz (ay l (d9y H1)) d (jS m))->H1 l=!.lst (MD.map V.ref)
inductive Mp3 (c9y)(F H G4:Hp)(c7S)(Pb To Vc:Ç)(pl:Mk.Qn)(X R:List Mk.Qn)(P:Δ)(c:Nat)(c7t):∀(OK Pe:Ç),σ=a2z->f' H G->KT (d8W G4) ŋ->grow F H G ad=!.dK Wh->Mz ŋ pd pl->SI CE ŋ MD MR ê ⟨X.take c++R.drop c,P⟩
inductive Mp4 (c9y)(F H G5:Hp)(c7S)(OK Pe:Ç)(pl:Mk.Qn)(d16)(T:Mk.Te)(j:Nat)(c7t):∀(Pb To Vc:Ç),σ=a2z->f' H G->KT (d8W G5) ŋ->grow F H G ad=!.dK Wh->Mz ŋ pd pl->SI CE ŋ MD MR ê ((A.take j).foldl (Mk.Oq p ê k) T)
def c4g:au [zP,BR,"rows_by_choice","asks","plan","number","into","mixed","choice","rows",c6R] õ (d8Z 93):=Pa
def a5q [Bx:Bd](c68)(TD)(Mr)(NM)(OD:Mo 5 "asks_by_tie" ø (tG c CE))(LM:Mo 3 "mixing_ties" ["net"] (d9I iT))(OA:Mo 5 "multipliers" b6B (Pr (gE C CE)))(PC:Mo 5 "mixed_row" b1n (d8M b41))(Nu:MG 5 CE "move_front" æ (tD C CE))(M3):Tk 6 "made_plan" (top 93) õ (Pr (sZ c C)):=by
 ext d2P;show F.ok c4g ZX Fp
 ·obtain⟨F,_,_,sF,hl,@⟨S,m,p,ç,found,O⟩,q⟩:=h;let#[v0,_,1,h0,D3,vf,_,1,hf,vl,_,1,a9m,vx,_,1,hx,1]:=hl;let#[lc,cs,1,a9l,hcp]:=id a9m;let#[fa,wG,_]:=id hf;let Vl:=e1V a9l;let ND:=c4g.nd;let p2:=((My.LH p).mp O.Xn.prime).1;let cl:=hcp.length;rw[GP]at cl;let mz:=O.mz;let fl:=O.fl;let fz:=O.fz;show#[_,(af (e2d (d9t ["choice","many"]) (d9M 3)
  Ĕ
  uq
  (λd94=>f1G Bx.K rfl rfl TD rfl T.Oo<|a9 (aO Mr hr.m rfl<|e7g K') (d9n (aO NM hr.m rfl<|e7g K'))))
 (af (pS 6 ND<|aO OD hr.m rfl (a9 EB<|e7g (d8Q d8 OL)))
 (af (pS 7 ND Qz)
 (af (e0s (qT Bx.K<|aO LM hr.m rfl (d9n EB)) (e2O rfl<|ag Ak (ag (pN 9 ND) aI))
  (af (pS 10 ND<|YA (dT c4s b0X (Đ 9)<|dC c2U) (dF Mr hr.m rfl<|e0f LB) (Đ 9))
 (af (e3y tR nC (aO OA hr.m rfl<|e7h (d8Q (pv 10) (pD fB FU<|pv 8))) rfl)
 (af (e0s (e7k T.Oo<|a9 wI (d9n OL)) (e2O rfl<|ag (pN 11 ND) (ag xO aI))
  (aq<|e3y (pv 12) nC (YA (e5z (Đ 8)<|Đ 11) (dO c6A Aa ((de<|da (dC aG) LB).p)<|Đ 1)<|dF PC hr.m rfl (da (Đ 2)<|da sg (da (dS fB (Đ 7)<|Đ 8)<|da (Đ 12) Ź))) rfl))
 (aq (e0s (qT Bx.K<|pD fB FU nC) (e2O rfl<|ag (pN 13 ND) (ag (pN 14 ND)<|ag (pN 15 ND) aI))
  (aq<|aE (bd (pv 13) Nu hr.m<|e7h (d8Q (pv 14) nC)))))))))
 (d9R (aO M3 hr.m rfl<|a9 tR K')))))),?_]
  show av λZ hZ=>?_;show#[_,1,lc,1,#[_,LS.of Vl],b2u (xs:=cs) (Mp0 H m)
   (λl hl=>#[[],hl,aZ Ě hl,1,Ju,b1B,ai]) (λl i H1 _ h=>let ⟨_,_,e,_,_,_,_⟩:=h;LS.of<|e _ _ Vl) (λl i v H1 ev h=>?_) (λrb H1 h=>?_)]
  ·let#[MD,hl,e1,rl,rn,Xd,Xc]:=h;let hi:i<cs.length:=(GS.mp ev).1;dsimp only[yj];rw[if_pos rfl];show#[kN,#[mz],λla e1v hla=>?_];show#[kN,#[mz],λlo e8I hlo=>?_];let#[la,us,1,hla,hus]:=hla;let#[lo,os,1,hlo,hos]:=hlo;let Yy:=e2.trans e3;let k1:(jS m).map (λr=>D.int r.1)=(Mk.starts m).map .int:=by ext1 jS Mk.starts;rw[GV,GV];rfl
   let k2:(jS m).map (λr=>rw r.2)=(Mx.ones m).map rw:=by ext1 jS Mx.ones;rw[GV,GV];rfl
   let a87:=hos.mono<|pX (F:=ue) (e1.trans e2);let#[ķ,EA]:=b3r (F:=grow ue H H3) (ð:=(jS m).map λr=>u7) (vs:=us) (us:=os) (by rw[GV];rw[jx hus];show k1▸wV _) (by rw[GV];show k2▸a87);let kl:ķ.length=m:=by let:=d91 a3;rw[GP,GP,GP]at this;rw[this];simp[jS]
   show#[la,lo,ķ,1,LS.of ?_,LS.of ?_,#[],λd H4 e4 h4 hd=>?_]
   ·rw[<- a1];show e3 ĉ (pW ĉ hla)
   ·rw[<- a2];show pW ĉ hlo
   rw[c2T [] _ (by rw[II,a3];show uw (f:=λr:Int×List Int=>r.1) ?_;ext1 jS;rw[GV];show b5g m),II]at hd
   let e14:=Yy.trans e4;let a80:=e14 ĉ Xc;let ndl:d≠l:=(aj (Yy ĉ Xc) h4).symm;let hd0:H d=none:=(e1.trans Yy).free h4;show#[_,a80,by rw[GP,rl];change i<2 ^ 24;lia,MD++[d],hl,bg (e1.trans e14) hl,by rw[Ho,rl];rfl,?_,λe3b=>?_,by rw[ai,He];rfl]
   ·show HR.mpr #[rn,by simp,λe3b b' QT e=>?_];rw[Hs.mp QT]at e;subst e;let#[a03,g1,_]:=Xd b hb;let:=Yy ĉ<|pW _ _ (LC _ _ g1);rw[h4]at this
    cases this
   ·rw[bz hl,du];rcases Hx.mp hb with hb|hb
    ·show (Xd b hb).mono (aR<|b8 e14)
    ·rw[Hs.mp hb];show#[ķ,by rw[aA ndl,aF hd0];show hd,by rw[a3,GV];rfl,?_];rw[k2,<- a2];show hos.mono λe3o=>?_;let#[b1,b2]:=gy hb;rw[aA (λz=>by rw[z,e1b Xc]at b1;cases b1),aF<|(e1.trans e2).free b1];show e4 ĉ b2
  ·let#[MD,a82,e1,rl,rn,Xd,hrb]:=h;show hZ ĉ xp;let rlf:MD.length=found.length:=#[]
   show#[_,1,_,1,_,1,_,1,F,v0,vx,rb,S,m,found,MD,sF.trans e1,1,h0,by let:=O.ord.2.2.2.1;lia,O.Y4,hx,hrb,rlf,fz,mz,O.all,O.bnd,λad H2 MR e2 hA hEN end_=>?_];show hZ ĉ xp;intro pd hpd;show hZ ĉ xp;let SQ:=e1.trans e2;let Wk:H pd=none:=SQ.free hpd;let e23:f' H2 (e6P pd<|.dK []):=aZ Ě hpd;let a4w:e6P pd F9 pd=!.dK []:=ai;generalize upd H2 pd F9=H3 at e23 a4w;let e03:=SQ.trans e23;show#[_,1,prG sF e03 (XY<|h0.mono (ao sF)) (.mk O.ord O.mem (by let:=O.ord.2.2.2.1;lia) (by let:=O.MN;unfold ak at this;lia)) λx H4 e4 hmx=>?_];let#[l,xs,1,hl,hmx]:=hmx;let e04:=e03.trans e4;let g24:f' (d8W H2) Aq:=b8<|e23.trans e4;let hA:=hA;let#[Wh,LA,had,a9P]:=id hA;let toΓ:f' c2u Aq:=(pX e1).trans g24;generalize a1l:LF S Š=ord at hmx;let a1l:ak S=ord:=a1l;let G:=O.Xn;let MN:=O.MN;let mt:=O.mt;rw[a1l]at G MN mt q;generalize a4P:Mk.LQ found=ê at *
   let xl:=hmx.length;rw[GP]at xl;let el:=Paired.length hEN;let rd1:∀ {d},d∈MD->H d=none/\∃ ķ,H1 d=!.dK ķ:=λ{d} hd=>by let#[ķ,g,_]:=Xd d hd;let#[sV]:=gy<|LC _ _ g;show#[g1,ķ,g2]
   let nad:¬ ad∈MD:=λz=>by
    let#[_,_,g]:=rd1 z;rw[(gy had).1]at g
    cases g
   let npd:¬ pd∈MD:=λz=>by
    let#[_,_,g]:=rd1 z;rw[e1b g]at hpd
    cases hpd
   let nap:ad≠pd:=λz=>by
    let:=(gy had).2;rw[z,hpd]at this
    ext d4M
   let eaN:∀ {e ea},MR[e]?=!ea->H ea=none:=λhe=>by let#[Y8,_,g,_]:=Paired.at hEN he;show e1.free (gy g).1
   let st0:SI CE Aq MD MR ê (e0R 0):=by
    show#[λc d hc=>?_,λe ea he=>?_]
    ·let RW:=(GS.mp hc).1;let:(e3A ê).R.getD c []=jS m:=cR (by change (ç.map λ_=>_)[c]?=_;rw[Hf,GR<|by lia];rfl)
     change Mz _ d ((e3A ê).R.getD c []);rw[this];show (Xd d<|GY hc).mono (LC.trans<|(pX (F:=F)<|f'.refl H).trans (b8<|e2.trans (e23.trans e4)))
    ·let#[LY,ee,zp]:=Paired.at hEN he;let:(e3A ê).P.getD e []=Mx.ones m:=cR (by change (ê.map λ_=>Mx.ones m)[e]?=_;rw[Hf,ee];rfl)
     show#[d,dx,l,by rw[cR ee];show hd,e4b g1,?_];change DR _ (tb<|(e3A ê).P.getD e []) qE;rw[this];show g2.mono toΓ
   let hl4:=aM sF e04 ĉ hl;show#[l,1,#[_,LS.of hl4],e1W (xs:=xs) (MpI CE F H Aq v0 (d9i fa) (d9i lc) vx rb ad pd m p ç ê ord Wh MD MR) #[none,none,none,none,none,none,none,none,1,e04,KT.of<|f'.refl _,e4b had,⟨[],by rw[aF Wk];show e4 ĉ a4w,rfl,rfl⟩,st0] (λi σ G h1 h=>?_) ?_ ?_]
   ·let#[jY,Y8,eG,kG,BY]:=h;show LS.of (aM sF eG ĉ<|kG.1 _ _ hl)
   ·rintro i v σ G1 ev ⟨o8,o9,OM,OK,Pe,Pb,To,Vc,rfl,eG,kG,a1z,plG,M⟩;let#[r,er,hv]:=qd hmx ev;let#[tp,_,1,XN,D3,mv,_,1,hmv,1]:=hv;let hi:i<ord.length:=(GS.mp er).1;let rm:=GY er;let I:=Mk.U1 G i #[];let pre:=Mk.U4 I G er;let ego:ord.getD i Bt=r:=cR er;let a9i:DR (d8W G1) (SW r.2) mv:=by
     cases h:r.2 with
     | none=>rw[h]at hmv;show hmv
     | some ks=>rw[h]at hmv;show vE kG hmv
    show#[tp,_,1,NC.of<|aM sF eG _ _ (kG.2 _ _ XN),1,_,_,1,_,[],2,?_];ext d4s;show tPG eG (ε:=[none,some<|.int m,none,none,none,none,none,none,none,some<|SW r.2]) (d:=rw AC) (M0<|e4H (M0<|M0 (M0<|M0 (M0<|M0 (M0<|N6 a9i (Sg<|aM sF eG)))))) ?_ λmx G2 SQ a4E=>?_
    ·cases r.2 with
     | none=>show .t #[2,.mk] #[#[2],#[mz]]
     | some ks=>show .f #[2,.mk] rfl
    ext d2u;let#[hkv,axs,a4X,hap]:=a9P r.1 (mt r rm).1;let axl:=Paired.length hap;let mk:∀ R∈(e0R i).R,∀ k∈Mk.Mh m r.2,k∈R.map (·.1):=λR hR f06=>by
     rw[e4a hR]
     cases h:r.2 with
     | none=>rw[h]at hk;show HG _ hk
     | some ks=>rw[h]at hk;show Hh _ (G.ahd i r ks er h k hk)
    let mlz:(f0H r.2).length<=1000:=by
     cases h:r.2 with
     | none=>change (Mk.starts m).length<=1000;ext d8G;simpa using mz
     | some ks=>show (mt r rm).2 ks h
    let alz:(e2u r.1).length<=1000:=HE (Mk.US G.wnd r.1)<|a4P▸O.ez;let pn:e78 (i+1)=e78 i++[(r.1,e0l ŭ r)]:=by ext1 cO;rw[L1,He,Hu,ego];rfl
    let nk:¬ r.1∈(e78 i).map (·.1):=λz=>by
     unfold cO at z;rw[GV]at z;let#[Fn]:=GX.mp z;let hj:=Ig.mp hj;let e1:(ord.map (·.1))[j]?=!r.1:=by rw[Hf,GR<|by lia];let ej:(ord.getD j Bt).1=r.1:=ej;rw[cR<|GR #[]]at ej;show congrArg some ej
     let e2:(ord.map (·.1))[i]?=!r.1:=by rw[Hf,er];rfl
     let:=bM G.nd e1 e2
     lia
    let st:e0R (i+1)=Mk.UC p m ç ê ŭ r:=by change Mk.UC p m ç ê ŭ c2v=_;rw[ego]
    let told:Mk.Vf p AC Ao (Mk.shown p ê<|e0R i)=e0l ŭ r:=rfl;let eG2:=eG.trans SQ;let k2:KT Aq (d8W G2):=kG.trans<|KT.of (b8 SQ);let hdm:(e78 i).length<2 ^ 24:=by ext1 cO;rw[GP,HL];lia
    let M2:=M.mono<|b8 SQ;generalize hT:e0R i=Tm at *
    let one:∀ a∈Mk.Mi ê r.1,∃ LY,ê[a.1]?=!LY/\LY∈ê/\a.2.1<m/\ê.getD a.1 (0,[])=LY:=λa am=>by let#[LY,way,h1,V1,_]:=Mk.Pn.mp<|Mk.Pm.mp am;let em:=GY h1;show#[LY,h1,em,e7e em▸(GS.mp V1).1,cR h1]
    let K1:a53 p Ao (λa=>Tm.R.getD (ê.getD a.1 (0,[])).1 []) (λa=>Tm.P.getD a.1 []) (Mk.shown p ê Tm):=by
     show#[λa am=>?_,λa am=>?_,λa am b bm=>?_,λa am k=>?_];all_goals let⟨LY,h1,em,hw,eg1⟩:=one a am
     ·rw[(e4E h1).len];show hw
     ·let:=(e4E h1).at hw;show#[this.2,by rw[this.1];show mz]
     ·rw[eg1];show mk _ (Mk.Z5 I G em) _ (pre.ahead b bm)
     ·ext1 Mk.shown;rw[Mk.OE h1,eg1]
    show#[_,1,_,1,_,1,_,1,ad,.ref<|LA r.1,1,(by rw[<- hkv];show Q4.k (k:=Sum.inl r.1)<|aM sF eG2 _ _ (b8 SQ _ _ a1z)),prG sF eG2 (dr3 c2w a4E (d2:=.lst<|(e2u r.1).map (xV CE _ _)) #[LA r.1,axs,1,k2.1 _ _<|e4b a4X,b9P hap λv a am h=>?_]) (.mk O.p1 K1 pre mlz alz) λlt G3 e3 NI=>?_]
    ·let#[b,ea,1,VY,hb]:=h;let#[zp]:=M2.ears a.1 ea VY;show#[b,_,1,k2.2 ĉ<|e4b hb,_,_,1,#[ea,zV,g1,1,wG,(M2.rows _ d hd).dr,wG,g2,1],_,_,2,_,_,3]
    let Yy:=SQ.trans e3;let eG3:=eG.trans Yy;let#[o,a1j,Yk,kp,kvp,hkp]:=(plG.mono<|b8 Yy).put (aM sF eG3) nk NI hdm;show⟨_,rfl,_,rfl,pd,_,rfl,a1j,?_⟩;ext d7Z;rw[told,<- pn]at Yk;let hG4:f' H (upd G3 pd o):=bg eG3 Wk;let Zd:KT (d8W G3) B0:=by rw[bz Wk];show kp
    let k4:KT Aq B0:=(k2.trans<|KT.of (b8 e3)).trans Zd;let ad4:e0M (upd G3 pd o) ad=!.dK Wh:=by rw[bz Wk,aa nap];show b8 Yy ĉ a1z
    let M4:SI CE B0 MD MR ê Tm:=by rw[bz Wk];show (M.mono<|b8 Yy).put hkp kp npd
    let mx4:DR B0 (rw AC) mx:=vE Zd<|a4E.mono (b8 e3);rw[<- bz Wk]at Yk;generalize upd G3 pd o=G4 at hG4 k4 ad4 M4 mx4 Yk;let rbΓ:e0M H4 rb=!(.lst<|MD.map V.ref):=by rw[aF a82];show e4 ĉ (e23 ĉ<|e1b hrb)
    let Rl:=I.rl;let Xl:(e0b r<|e5K r).length=ç.length:=by ext1 Mk.LI;rw[List.length_zipWith,Rl,Nat.min_self]
    show#[_,1,_,1,lc,rb,1,#[_,LS.of<|hG4 _ _ Vl],#[_,LS.of<|aM sF hG4 _ _ (k4.1 _ _ rbΓ)],e7l (xs:=cs) (ys:=MD.map V.ref) (Mp3 CE F H G4 v0 vx mv mx fa lc rb ad pd m Wh MD MR ê r.1 Pb To Vc wO (e0b r<|e5K r) Tm.R Tm.P)
     #[_,_,1,hG4,KT.of<|f'.refl _,ad4,Yk,by rw[Jt,List.drop_zero,II];show M4] (λc e3r=>(by let#[BY,a,b,BY]:=gR;show#[LS.of<|a _ _ Vl,LS.of<|aM sF a _ _ (b.1 _ _<|k4.1 _ _ rbΓ)])) ?_ ?_]
    ·rintro c x' y' Tz σ G5 ex ey ⟨OK,Pe,rfl,eG5,k5,ad5,VW,M5⟩ hTz;let#[ks,eks,hca]:=qd hcp ex;rw[Hf]at ey;let#[rd,erd,1]:=HI.mp ey;let hc:c<ç.length:=(GS.mp eks).1;let eT:f' G5 b8M:=aZ Ě hTz;let Xk:b8M Tz=!.tup WF:=ai;generalize upd G5 Tz (.tup WF)=G6 at eT Xk;let Yv:=eG5.trans eT;let mx6:=(vE k5 mx4).mono<|b8 eT;let UN:=VW.mono<|b8 eT;let eR:Tm.R[c]?=!Tm.R.getD c []:=by rw[GU,GR (by rw[Rl];show hc)];rfl
     let Rm:Tm.R.getD c []∈Tm.R:=GY eR;let gdc:((e0b r<|e5K r).take c++Tm.R.drop c).getD c []=Tm.R.getD c []:=by rw[Mk.V5 _ _<|by lia,if_neg<|IL _]
     let a4s:Mz (d8W G6) rd vR:=gdc▸(M5.rows c rd erd).mono (b8 eT);show#[c44];show tPG Yv (ε:=[none,some<|.int m,some<|fD C p,none,none,none,none,some<|bc wO,some<|.int r.1,none,some<|rw AC,some<|rw ks,some<|bc vR]) (d:=rw (Mk.newRow p m ks vR r<|e5K r)) (M0<|e4H (N6 c2w<|M0 (M0<|M0 (M0<|N6 UN.dr (N6 rfl<|M0 (N6 mx6<|N6 (hca.mono<|ao sF) (N6 a4s.dr<|Sg (aM sF Yv)))))))) ?_ λln G7 e67 hln=>?_
     ·let ri:=ky (n:=false) (i:=r.1) (ks:=ks);ext1 Mk.newRow;by_cases QR:r.1∈ks
      ·rw[Hb QR]at ri;rw[if_pos QR,a0e];show .t #[2,ri] #[yY,1,#[mz]]
      ·rw[GZ QR]at ri;rw[if_neg QR];show .f #[2,ri] #[#[2,#[2,.k (yd (by rw[pn,He];simp)) kI],3],?_];rw[pn,Mk.Vg nk];show .mk #[] O.p1 (λf06=>#[mk _ Rm k hk,I.rows _ Rm (k,_)<|Mk.X6 (mk _ Rm k hk)]) mlz mz
     let b0G:(Tm.R.getD c []).length<2 ^ 24:=by
      let:=congrArg List.length<|I.keys _ Rm;rw[GP,Ho,GP,Hl]at this;unfold Mk.starts at this;rw[GP,HL]at this
      lia
     let eG7:=Yv.trans e67;let#[o,a1j,Oj,k7,kk,hkk]:=(a4s.mono<|b8 e67).put (aM sF eG7) (Mk.Ws I G er _ Rm) hln b0G;let rdm:=GY erd;let rd0:=(rd1 rdm).1;rw[<- bz rd0]at Oj k7;let g57:=b8 (F0:=F) (H0:=H)<|eT.trans e67;show#[CJ,rd,_,1,a1j,wG,bg eG7 rd0,(k5.trans<|KT.of g57).trans k7,?_,(VW.mono g57).kt k7 ?_,?_]
     ·rw[bz rd0,aa<|show ad≠rd from λz=>nad<|z▸rdm];show g57 ĉ ad5
     ·rw[bz rd0,aa<|show pd≠rd from λz=>npd<|z▸rdm]
     ·let M7:=M5.mono g57;show#[λc' d' P5=>?_,λe ea he=>?_]
      ·change Mz _ d' (((e0b r<|e5K r).take (c+1)++Tm.R.drop (c+1)).getD c' []);rw[Mk.V5 ĉ<|by lia];by_cases cc:c'=c
       ·subst cc;rw[erd]at P5
        cases P5;rw[if_pos<|IK _,Mk.Ru eks<|by lia];show Oj
       ·let nd':d'≠rd:=λz=>cc<|bM rn (z▸P5) erd;let h7:=(M7.rows c' d' P5).kt k7 (by rw[bz rd0,aa nd']);let e7:((e0b r<|e5K r).take c++Tm.R.drop c).getD c' []=if c'<c+1 then (e0b r<|e5K r).getD c' [] else Tm.R.getD c' []:=by
         rw[Mk.V5 ĉ<|by lia];by_cases lt:c'<c
         ·rw[if_pos lt,if_pos<|by lia]
         ·rw[if_neg lt,if_neg<|by lia]
        rw[<- e7];show h7
      ·let#[zp]:=M7.ears e ea he;show#[d,dx,l,hd,by rw[bz rd0,aa (λz=>by rw[z,hkk]at g1;cases g1)];show g1,zD k7 g2]
    ·rintro σ G5 ⟨OK,Pe,rfl,eG5,k5,ad5,VW,M5⟩;ext d37;let mn:min cs.length (MD.map V.ref).length=ç.length:=by rw[GP];lia
     rw[mn,IZ<|by lia,List.drop_of_length_le<|by lia,HF]at M5;let k05:=k4.trans k5;let a5I:=k05.1 ĉ<|e4b a4X;let nda:=Mk.Uk G.wnd r.1;show#[_,1,_,1,ad,.ref<|LA r.1,1,(by rw[<- hkv];show Q4.k (k:=Sum.inl r.1)<|aM sF eG5 _ _ ad5),LA r.1,1,#[_,LS.of<|aM sF eG5 _ _ a5I],e1W (xs:=axs) (Mp4 CE F H G5 v0 vx mv mx fa lc rb ad pd m Wh MD MR ê r.1 OK Pe wO p Ao { Tm with R:=e0b r Fg })
      #[_,_,_,1,eG5,KT.of<|f'.refl _,ad5,VW,M5] (λj e3r=>(by let#[jY,a,b,BY]:=gR;show LS.of<|aM sF a _ _ (b.1 _ _ a5I))) ?_ ?_]
     ·rintro j v σ G6 ev ⟨Pb,To,Vc,rfl,Yv,k6,ad6,UN,M6⟩;let#[a,ea',b,ea,1,VY,hb]:=Paired.at hap ev;let#[LY,h1,em,hw,eg1]:=one a<|GY ea';let K1:=e4E h1;let a9y:=e8A em;let tka:=aP ea';let ndt:(((e2u r.1).take j).map (·.1)).Nodup:=by rw[Jf];show nda.sublist (Ku ĉ)
      let#[oh,_]:=Mk.Rf (p:=p) (ê:=ê) r.1 ((e2u r.1).take j) { Tm with R:=e0b r Fg } ndt;let fa':=f3 a.1 λa' ha' z=>by
       let#[j',hj',ej']:=Ke.mp ha';let g1:((e2u r.1).map (·.1))[j']?=!a.1:=by rw[Hf,GR<|by lia,ej'];show congrArg some z
       let g2:((e2u r.1).map (·.1))[j]?=!a.1:=by rw[Hf,ea'];rfl
       let:=bM nda g1 g2
       lia
      let hT7:((e2u r.1).take<|j+1).foldl sS { Tm with R:=e0b r Fg }=Mk.Oq p ê r.1 (((e2u r.1).take j).foldl sS { Tm with R:=e0b r Fg }) a:=by rw[tka,Lj];rfl
      generalize hT6:((e2u r.1).take j).foldl sS { Tm with R:=e0b r Fg }=T6 at *
      let fa':T6.P.getD a.1 []=Tm.P.getD a.1 []:=fa';let#[d,dx,lp,hd,hx6,XO]:=M6.ears a.1 ea VY;rw[eg1]at hd;let ekc:ç[LY.1]?=!ç.getD LY.1 []:=by rw[GU,GR a9y];rfl
      let R6:T6.R.getD LY.1 []=Tm.R.getD LY.1 []++[(r.1,Mk.newRow p m KF (Tm.R.getD LY.1 []) r<|e5K r)]:=by rw[f1];show Mk.Ru ekc #[]
      let le6:=aM sF Yv;show#[b,_,1,NC.of<|le6 _ _ (k6.2 _ _<|k05.2 _ _ (e4b hb)),1,_,_,1,_,_,1,_,[],2,?_];show#[_,1,ea,dx,_,1,le6 ĉ hx6,1,_,1,_,1,_,1,e0M G6,ea,fa,d,dx,lp,p,r.1,a.2.1,T6.P.getD a.1 [],T6.R.getD LY.1 [],le6,1,hx6,(M6.rows LY.1 d hd).dr,XO,hf.mono<|ao sF,#[],O.p1,by rw[R6,He];simp,by rw[fa',K1.len];show hw,λe3G=>?_,by rw[fa',K1.len];show mz,λl' G7 e7 hl'=>?_]
      ·rw[fa']at hy;show#[(K1.Q5 y hy).2,by rw[(K1.Q5 y hy).1];show mz]
      rw[aw Yv e7]at hl';let ea0:=eaN VY;let g67:=b8 (F0:=F) (H0:=H) e7;let hx7:=g67 ĉ hx6;let k7:KT (d8W G7) (grow F H<|upd G7 ea (e6j d l')):=by rw[bz ea0];show KT.put hx7 (λ_ z=>nomatch z) ĺ
      let k67:=(KT.of g67).trans k7;let nea:∀ {c ķ},e0M G6 c=!.dK ķ->c≠ea:=λhc z=>by rw[z,hx6]at hc;cases hc
      let kep:∀ {c:Addr},c≠ea->e0M (upd G7 ea<|e6j d l') c=e0M G7 c:=λhc=>by rw[bz ea0,aa hc]
      let M7:=M6.mono g67;let a3q:∀ {d' R'},Mz (d8W G6) d' R'->Mz (grow F H<|upd G7 ea (e6j d l')) d' R':=λh=>by let#[ķ,hk,_]:=id h;show (h.mono g67).kt k7 (kep<|nea hk)
      show#[_,_,_,1,bg (Yv.trans e7) ea0,k6.trans k67,(kep<|nea ad6).trans<|g67 _ _ ad6,a3q UN,?_];rw[hT7];show⟨λc' d' P5=>a3q<|M6.rows c' d' P5,λe ea2 he=>?_⟩;let al:a.1<T6.P.length:=by rw[f2];change a.1<Tm.P.length;rw[I.pl];show (GS.mp h1).1
      by_cases ce:e=a.1
      ·subst ce;rw[VY]at he
       cases he;show#[d,dx,l',by rw[eg1];show hd,by rw[bz ea0,ai],?_];change DR _ (tb<|(T6.P.set a.1<|e3L (T6.P.getD a.1 []) a.2.1 (Mk.lk (Mk.rowsOf ê T6 a.1) r.1)).getD a.1 []) _;rw[cR (List.getElem?_set_self al),Mk.OE h1];show zD k7 hl'
      ·let#[d2,dx2,l2,hd2,sV]:=M7.ears e ea2 he;show#[d2,dx2,l2,hd2,(kep λz=>ce<|bM end_ (z▸he) VY).trans g1,?_];change DR _ (tb<|(T6.P.set a.1 _).getD e []) _;rw[GU,List.getElem?_set_ne<|Ne.symm ce,<- GU];show zD k7 g2
     ·rintro σ G6 ⟨Pb,To,Vc,rfl,Yv,k6,ad6,UN,M6⟩;rw[axl,HJ]at M6;show#[_,_,_,_,_,_,_,_,1,Yv,k05.trans k6,ad6,UN,by rw[st];show M6]
   ·rintro σ G1 ⟨o8,o9,OM,OK,Pe,Pb,To,Vc,rfl,eG,kG,a1z,plG,M⟩;show hZ ĉ ?_;rw[xl]at plG;let pk:=e3l ord;show#[_,1,prG sF eG (XY plG.dr) (.mk (f:=λr:Int×List Int=>r.1) (g:=λr=>rw r.2) ?_ (by rw[pk];show G.nd)) λx H7 e7 hx7=>q x H7 (eG.trans e7) hx7];let:=d91 pk;rw[GP,GP]at this
    lia
open e
def Itm:∀ (ê:List Mk.Mt)(k:Nat),(∀ LY∈ê,LY.2.flatten.length<=B)->((ê.zipIdx k).flatMap λx=>Mk.Ol x.2 x.1.2).length<=ê.length * B:=by
 intro r'
 induction r' with
 | nil=>
  intro _ _;simp
 | cons x l ih'=>
  intro k h;let ih:=ih' (k+1) λe3G=>h y wB;let hx:=h x ė;rw[<- Mk.Tx k x.2,GP]at hx;rw[List.zipIdx_cons,J7,Ho,HM,K7]
  grind
def g6:∀ {xs ys:Ξ},xs.Nodup->b90->xs.length<=ys.length
 | [],ys,_,_=>HP _
 | x::xs,ys,nd,h=>by
  ext d4l;let hx:=h x ė;let:=g6 (ys:=ys.erase x) nd.2 λe3G=>(KR (λz:y=x=>nd.1 (by rw[<- z];show hy))).mpr<|h y wB;rw[List.length_erase_of_mem hx]at this;let h1:0<ys.length:=List.length_pos_of_mem hx;rw[HM]
  lia
def WN.SS (W):S.Ls.length<=40:=by let:=W.ln.a0m;rw[<- W.ln.Ls,GP]at this;show this
def WN.Y4 (W):(S.Ls.map (·.1)).Nodup:=by let pk:=W.ln.LF.map (·.1);rw[GV]at pk;show pk.nodup_iff.mp W.ln.fits.nd
def WN.Wc (W):∀ x∈bP Dq S.names.length,x∈S.names:=λe0Z=>by let:=a5S W.ln.Vs S.names.length (by simp[bv]) x hx;rwa [W.ln.Uj]at this
def WN.WW (W)(c9S):fK S Š:=#[1,W.ln.Vs,W.ln.ends,by let:=W.SS;lia,#[]]
def WN.a3P (W)(c9S):EN fK S Š:=#[W.WW pz,W.Wc,by let:=W.SS;lia,W.ln.fits]
def WN.wok (W)(pz)(fo):WG S fo 21:=by
 let sub:(bb S.Ls fo).Sublist S.Ls:=by
  cases fo with
  | none=>show List.Sublist.refl _
  | some ks=>show Jp
 let nl:S.names.length<=20:=by ext1 NS.names;rw[GP];show pz
 let ol:=W.ln.len;let tl:=W.SS;let sl:=sub.length_le;let ix:∀ (i:Nat) z,ord[i]?=!z->ord.idxOf z=i:=λi e8a=>by let hl:=List.idxOf_lt_length_of_mem<|GY hz;show bM W.ln.nd ě hz
 show#[#[W.Y4.sublist<|sub.map _,⟨λz=>ord.idxOf z,λe6r=>?_,λz=>?_⟩,#[0],#[0]],λe6r=>W.ln.Y5<|sub.subset ht,W.ln.RU,#[0],#[0],#[0]]
 ·let#[u,v,uv,ZL]:=W.ln.UU<|sub.subset ht;change ord.idxOf t.2.1<ord.idxOf t.2.2.1;ext d63
 ·grind
def WN.make (W)(hP)(hO)(MN)(p1)(c9S)(ez:ç.length * S.LW.length<=1000)(fz:ç.length<=1000)(mz:m<=1000):c30 S m p ç uk:=by
 let G:=W.Xn hP hO MN;let kt:∀ k∈(ak S).map (·.1),k∈S.Ls.map (·.1):=λf06=>by let#[r,hr,1]:=GX.mp hk;let#[mQ]:=GX.mp<|W.ln.LF.mem_iff.mp hr;show Hm ht
 let el:=c0h uk 0 λe3G=>by let#[ks,_,1]:=GX.mp hy;rw[GP]
 let fl:(d7 S (!h) N m ç).length=ç.length:=GP _;let el:(Mk.LQ<|d7 S (!h) N m ç).length=ç.length * S.LW.length:=by ext1 Mk.LQ;rw[el,fl]
 let a5h:=W.ln.MN;let lz:S.LW.length<=S.Lv.length:=by ext1 NS.LW;ext d3R
 show#[W.WW pz,W.Wc,W.Y4,a5h,λe45=>#[kt _<|Hm hr,λks hk=>?_],p1,fl,by rw[fl];show fz,mz,G,?_,λbl hbl=>?_,by rw[el];show ez]
 ·let#[i,hi,ei]:=HX.mp hr;show (e2f r ks ě hk).1
 ·let:=Itm (B:=64) _ 0 λLY he=>by
   let sub:∀ k∈LY.2.flatten,k∈(ak S).map _:=λf06=>by let#[way,hw,hk]:=List.mem_flatten.mp hk;show (G.ZN LY he way hw).subset hk
   let:=g6 (G.wnd LY he) sub;ext d8t
   lia
  show HE this ?_
  lia
 ·let#[ks,hk,1]:=GX.mp hbl;show#[by rw[GP];lia,λways hw=>?_];let#[g,hg,1]:=GX.mp hw;let#[O,hW]:=hO ks hk;let#[w,ew]:=hW g hg;let#[QW,QK]:=c6B W.QR O ew;let e:nI (bx c0O (!h) g N m)=w:=by rw[ew];rfl
  rw[e,e1];show#[by cbv,λway hw=>?_];ext d4c;let sb:=W.whole b92<|e3 ws Yg;let sl:=sb.length_le;rw[GP]at sl;show⟨#[],λf06=>kt k<|sb.subset hk⟩
def WN.told (W)(n)(x:MZ)(hx:(ak S)[n]?=!x):j4 a9o x.1=!(x.1,e0l (Mk.stN p m ç ê Av n) x):=by let nd:((UD (·.1)<|e1s _ (ak S).length).map _).Nodup:=(Nd.map _).nodup_iff.mpr (by rw[a0q];show W.ln.fits.nd);show b1m nd (x.1,_) (Nd.mem_iff.mpr ?_);show GX.mpr #[n,Ig.mpr<|(GS.mp hx).1,by rw[cR hx]]
def WN.good (W)(hP)(G:Mk.Tf p m ç ê Av)(mz:m<=1000):e9c a9o:=by
 let pm:=Nd (f:=λr:Int×List Int=>r.1) (l:=e1s Av (ak S).length);let MN:=W.ln.MN;let kl:=congrArg List.length<|e3l (ak S);rw[GP,GP]at kl;show⟨λe0Z=>?_,λe45=>?_,?_⟩
 ·let#[n,hn]:=List.getElem?_of_mem hx;show#[_,W.told n x hn,?_];let#[xo]:=Mk.VN<|Mk.U4 (Mk.U1 G n (by let:=(GS.mp hn).1;lia)) G hn;let#[i,hi,ei]:=HX.mp hx;let mw:((f0H x.2).length)=AN m x.2/\(f0H x.2).length<=1000:=by
   cases e2:x.2 with
   | none=>
    let:(f0H none).length=m:=by change (Mk.starts m).length=m;ext d8G;simp
    rw[this];show#[1,mz]
   | some ks=>show#[1,(e2f x ks ě e2).1]
  rw[<- h1]at mw;show#[mw.1,h2,mw.2]
 ·let:=Hm (f:=λr:Int×List Int=>r.1)<|pm.mem_iff.mp hr;rwa [a0q]at this
 ·rw[pm.length_eq]
  lia
universe K72
namespace L2
open PySem PySem.Spec PyProof.Rows
variable {α:Type}[DecidableEq α]{R:Hp->V->α->Prop}{k:Nat}
theorem look (bs:List (jr×α))(k:jr):Option α:=(bs.find? λe=>decide (e.1=k)).map (·.2)
theorem oj (as bs:List (jr×α)):Bool:=(as.length==bs.length)&&as.all λd=>decide DI
def b1i (k:jr):∀ {kb:ξ}{vb:List (jr×Value)}{bs:List (jr×α)},KV kb vb->e4M kb bs->
  (valueAt vb k=none/\look bs k=none)\/∃ x y b,valueAt vb k=!y/\look bs k=!b/\Os x y/\R H x b
 | [],_,_,.nil,.nil=>.inl #[2]
 | p::kb,_,_,e5G r,e5H r'=>by
  by_cases h:p.1=k
  ·show .inr #[p.2,q.2,c.2,mU,r1,r2]
   ·ext1 valueAt
    cbv
   ·simp_all [look,IY]
  ·let ih:=b1i k r r';unfold valueAt look at ih ⊢
   cbv
def c3o (h:BI X.K R k)(I)(hu:A.units+k<cLine)(a3s:KV kb vb)(pb:e4M kb bs):
  ∀ {ka:ξ}{va:List (jr×Value)}{as:List (jr×α)},KV ka va->e4M ka as->W.KeqHits A s vb va (as.all λd=>decide DI)
 | [],_,_,.nil,.nil=>.nil
 | p::ka,_,_,e5G r,e5H r'=>by
  let ih:=c3o h I hu a3s pb r r';rw[Lp];let#[qk,qv]:=q;let e1:p.1=qk:=e1;rcases b1i (R:=R) qk a3s pb with⟨h1,h2⟩|⟨x,y,b,h1,h2,h3,h4⟩
  ·rw[show decide c0U=false from GZ (by rw[<- e2,e1,h2];show λz=>nomatch z),Le];show .miss h1
  ·let he:=h.eq X A ñ s σ H p.2 x qv y c.2 b rfl I r1 h3 r2 h4 hu;let e3:decide c0U=decide (c.2=b):=by
    rw[<- e2,e1,h2];by_cases z:c.2=b
    ·rw[Hb z,Hb<|by rw[z]]
    ·rw[GZ z,GZ λw=>z (Option.some.inj w).symm]
   rw[e3];show .hit h1 he ih
def b0B {as bs:List (jr×α)}(r1:KV ka va)(p1:e4M ka as)(r2:KV kb vb)(p2:e4M kb bs):
  ((va.length==vb.length)&&as.all λd=>decide DI)=oj as bs:=by
 ext1 oj;rw[<- KV.length r1,<- KV.length r2,Paired.length p1,Paired.length p2]
open e
theorem Iti (o)(d):It:=
 ⟨λi H=>∃ ķ kv,H d=!.frz o Ax/\ķ[i]?=!kv,λi H v H'=>∃ T,H T=none/\v=.ref T/\∃ kv:jr×V,(∀ ķ,H d=!.frz o Ax->ķ[i]?=!kv)/\H'=e9Z (.tup FB),λi H=>∃ ķ,H d=!.frz o Ax/\ķ.length<=i⟩
theorem a7g (it d:Addr)(n ep:Nat)(i)(c8v):Prop:=∃ ok ov,IsItemIter h it d i n ep ok ov
def f1B (c8M)(c8s):uV P w K Œ (Iti o d) [it] it (a7g it d es.size ep) where
 mem:=by simp
 obj:=λe10=>by
  ext d2x
  subst e;let#[_,_,st]:=st;show#[_,st,λv z=>by cases z]
 keep:=λi h h' gR k=>by let#[ok,ov,st]:=gR;show#[ok,ov,k it ė _ st]
 item:=by
  ext d2i;let#[AQ]:=hg;let#[ok,ov,st]:=st;let#[wP]:=e35 ed;ext d4W;show wpAny_pyNext_items_item st da hq λkey h' U8 f1u=>?_;show#[_,1,wpAny_letOwnedTupleGo_items a1 λW2 b1 sb=>?_];ext d5h;let YK:it≠s.heap.objs.size:=λz=>absurd (HD st) (by rw[z];show IL _);let kk:∀ c u,c∉[it]->s.heap.get? c=!u->W2.get? c=!u:=λc u hc z=>by
   let hc:c≠it:=by simpa using hc
   show sb.extBut ĉ hc (a4 c u hc z)
  ext d4j;let I2:d9X (d9H FB) { s with heap:=W2 }:=by
   show I1.Uy FW I.sz #[by change 2<=sizeLine;decide,[key,q.2],.cons ?_<|.cons hr.2 .nil,?_]
   ·rw[hr.1];show nA U8
   ·show#[_,e2n (Ne.symm YK) a2,gQ]
  show#[kx,I2,1,#[_,hT,1,kv,λa03 Q1=>?_,1],#[key,q.2,?_],λc hc=>?_]
  ·rw[hd]at Q1;cases Q1;show hx
  ·rw[hl]at b1;show b1
  ·let hc:c=it:=by simpa using hc
   subst hc;rw[aa YK];show (hf c<|by simp).1
 done:=by intro X hP hw hK hc i ñ s σ H E I hf st hg;subst hP hw hK;let#[ķ,hd,hx]:=hg;let#[ok,ov,st]:=st;let#[wP]:=e35 ed;let#[wW]:=hf it ė;rw[<- hl]at st;let:=KV.length r;show wpAny_pyNext_items_end ļ st da (IS<|by omega) λh' eb=>E9
 self:=λd94 gR h=>by let#[ok,ov,st]:=gR;show W.kcp_self st h
variable {ð:ι}
abbrev pI2 (kd:jr×D):D:=.tup [kD kd.1,kd.2]
def a39:∀ {k:jr},DR F (kD k) yp
 | .inl _=>rfl
 | .inr _=>rfl
def a8M:EQ Iti pI2:=λ{F a ob ķ ð} h h1 h2=>
 #[λe4f=>by
  rw[Hf]at e
  cases z:ð[i]? with
  | none=>ext d3Y
  | some kd=>
   ext d3Y;let#[v,VV]:=h2.at (show _[i]?=some kd.2 by cbv)
   let t1:(ķ.map (·.1))[i]?=!kd.1:=by cbv
   rw[Hf]at e1 t1
   cases y:ķ[i]? with
   | none=>cbv
   | some kv=>
    rw[y]at e1 t1;cases e1;let e3:kv.1=kd.1:=Option.some.inj t1;show#[qq,λx H' gR=>?_];let#[T,hT,ex,kv',e4,e5]:=gR;let:=e4 ķ<|s _ _ h;rw[y]at this;ext d4M;subst ex e5;rw[e3];show b9V s hT a39 e2,λe8J=>#[ķ,s ĉ h,by let:=h2.length;simp at this z;omega]]
def c0q {x1:Nat}(c8R)(OG:attributeBase l "items" X.env (d8N l)=eval l X.env:=ă)(Pq):PI X Œ (d9s "items") (iD2 X Iti tl):=by
 ext d2L
 cases r1;let#[nZ]:=ip
 let hsz:vs.length=es.size:=by rw[<- c4.length];simp
 ext d51
 show#["dict","dict.items",F.plainAttrs_dict,F.slot_dict_items,F.type_dict_items,c4u]
 ·ext d7D
 show call_meetsIn F.slot_dict_items da.dictOf.typeIs F.entry_dict_items (F.args_dict_items_1 _) (meets_dict_items _ d lo) b8l;ext d4T;let I2:=e6Z (h':=s1.heap.push { cls:=.type "dict_items",data:=.fields [.ref d].toArray }) λe0z=>GW _ e;show wpAny_pyIter_items CO (da.push _) ?_;rw[hsz];show#[_,[(s1.heap.push { cls:=.type "dict_items",data:=.fields [.ref d].toArray }).objs.size],BY,ie,f1B _ d ob c2,#[_,kE],c6o];let e:b=(s1.heap.push { cls:=.type "dict_items",data:=.fields [.ref d].toArray }).objs.size:=by simpa using hb
 ext d45
inductive rIs (d0j):∀{ð:ι},r ε rP->l=ð.map pI2
def qLi (hp)(hc)(hi:e4d (iD2 X Iti (tP rd)))(c7p):QS X Op (lj (rIs rd) q rb):=by
 ext d2Z;let hbx:f0l Ŧ:=λe1l E I gR=>by let#[F0,H0,h]:=gR;ext d4r
 show M8 (e1f _ I #[c3D,λe3D gR=>(by let#[e1,l6]:=gR;show#[a,ķ,ex,p1.mono (S.grow e1).le,λe8K=>c0z a8M hg B2 p1 p2 p3 fz h2<|p.up (ao S.le)])]) λf s' q=>SP.VD q
open e
universe L2
namespace L2.So
open PySem PySem.W PyProof.Rows
structure Ask (d0q):Prop where
 a1Z:∀ {i j},lt i j=true->lt j i=false
 trans:∀ {i j k},lt j i=false->lt k j=false->lt k i=false
abbrev g (d0V)(i:Nat):Nat:=p.getD i 0
theorem St (lt)(x y:Nat):Prop:=lt y x=false/\(lt x y=false->x<y)
theorem V3 (lt)(d0V)(n):Prop:=∀ a b,a<b->b<n->St lt Z9 yT
structure Pre (d0V)(n N:Nat):Prop where
 size:p.size=N
 perm:p.Perm (List.range N).toArray
 same:∀ i,n<=i->i<N->g p i=i
 low:∀ i,i<n->g p i<n
def x8 (hj:j<=p.size)(k:Nat):g (f0I i j) k=if i<=k/\k<j then g p (i+j - 1 - k) else g p k:=by ext1 g kas_rev;rw[Iu,getElem?_mirror_all hj k];split <;> rw[Iu]
def a5c (hk:k<p.size)(hl:l<=k)(j):g (bubble p k (k - l)) j=if j=l then g p k else if l<j/\j<=k then g p (j - 1) else g p j:=by
 ext1 g;rw[Iu,Iu,Iu,Iu,getElem?_bubble hk _<|by omega,show k - _=l by omega];split
 ·rfl
 ·split <;> rfl
variable {lt:Nat->Nat->Bool}{N:Nat}{cmp:Nat->Nat->(Bool->Shared->Prop)->Shared->Prop}{s:Ê}{p:Array Nat}
def Pre.rev (d19)(hj:j<=n):Pre (f0I i j) n N:=by
 let hz:=h.size;let e:=λk=>x8 (p:=p) (i:=i) (j:=j) #[] k;show#[(mirror_size ą).trans hz,(mirror_perm ą).trans h.perm,λk e12=>?_,λk h1=>?_]
 ·rw[e,if_neg<|by lia];show h.same k h1 h2
 ·rw[e];split
  ·show h.low _ #[]
  ·show h.low _ h1
def Pre.up (h:e73 N)(hn:n<N):Pre p (n+1) N:=
 #[h.size,h.perm,λi e12=>h.same i #[0] h2,λi h1=>by
  by_cases c:i=n
  ·rw[c,h.same n BU hn];omega
  ·let:=h.low i #[0];omega]
def Pre.at (d19)(hi:i<N):g p i<N:=by
 by_cases c:i<n
 ·let:=h.low i c;omega
 ·rw[h.same i #[0] hi];show hi
def V3.up (A)(h:e6k n)(P:e73 N)(hn:n<N)(h1:1<=n)(hl:lt tE (g p (n - 1))=false):e6k (n+1):=by
 intro a b RX hb;by_cases c:b<n
 ·show h a b RX c
 ·let:b=n:=#[0]
  ext d4y;let hlo:=P.low a #[0];rw[P.same b BU hn]at hl ⊢;show#[?_,λ_=>hlo];by_cases ca:a=b - 1
  ·rw[ca];show hl
  ·show A.trans (h a (b - 1) #[0]<|by omega).1 hl
example(hc:∀ i j C, i<N->j<N->C (lt i j) s->cmp i j C s):=0
include hc
def c6r (d1K):∀ (f n:Nat),n+f=N->1<=n->e73 N->e6k n->(∀ m,n<=m->m<=N->Pre p m N->e6k m->(m<N->lt (g p m) (g p (m - 1))=true)->Q m s)->(kas_asc p f n).kasWp cmp Q s
 | 0,n,e,_,P,S,q=>q n BU #[0] P S λz=>by omega
 | f+1,n,e,h1,P,S,q=>by
  ext d5l
  cases c:lt tE F7 with
  | true=>show q n BU #[0] P S λ_=>c
  | false=>show c6r A f (n+1) #[0] #[0] (P.up<|by omega) (S.up A P #[0] h1 c) λm h2 h3=>q m #[0] h3
structure Dn (d0q)(d0V)(n q:Nat):Prop where
 lo:q<n
 far:∀ a b,a<n - (q+1)->n - (q+1)<=b->b<n->lt yT Z9=true
 old:∀ a b,a<b->b<n - (q+1)->St lt yT Z9
 new:∀ a b,n - (q+1)<=a->a<b->b<n->lt Z9 yT=false/\lt yT Z9=false/\g p a<g p b
omit hc in
def Ask.Z6 (A){x y z:Nat}(h1:lt x y=true)(h2:lt z y=false):lt x z=true:=by
 cases c:lt x z with
 | true=>rfl
 | false=>rw[A.trans h2 c]at h1;cases h1
omit hc in
def Ask.st (A){x y:Nat}(h:lt x y=true):St lt x y:=#[A.a1Z h,λz=>by rw[h]at z;cases z]
omit hc in
def Dn.flip {n q:Nat}(A)(D:f0J n q)(P:e73 N)(hn:n<=N)(p':Array Nat)(hp:p'=if q > 0 then kas_rev p (n - (q+1)) n else p):Pre p' n N/\∀ a b,a<b->b<n->f1l (g p' a):=by
 ext d7J;let lo:=D.lo;subst hp;by_cases c:q > 0
 ·ext d4H;show#[P.rev hn<|Hi _,λe4h=>?_];let e:=λk=>e3M #[] k;rw[e,e];by_cases ca:n - (q+1)<=a
  ·rw[if_pos<|by lia,if_pos<|by lia];let#[Lf]:=D.new (n - (q+1)+n - 1 - b) (n - (q+1)+n - 1 - a) #[] #[] #[];show⟨h2,λ_=>h3⟩
  ·rw[if_neg (c:=_<=a/\_)<|by lia];by_cases cb:n - (q+1)<=b
   ·rw[if_pos<|by lia];show A.st (f0K _ #[] #[]<|by lia)
   ·rw[if_neg<|by lia];show D.old a b RX #[]
 ·ext d3D;show#[P,λe4h=>?_];by_cases cb:b<n - (q+1)
  ·show D.old a b RX cb
  ·show A.st (f0K b #[] #[] hb)
omit hc in
def Dn.le (A)(D:f0J n q)(ha:a<n):lt Z9 (g p (n - 1))=false:=by
 by_cases c:a<n - (q+1)
 ·show A.a1Z (f0K _ c #[0]<|by omega)
 ·by_cases e:a=n - 1
  ·rw[e]
   cases z:lt _ _ with
   | false=>rfl
   | true=>rw[A.a1Z z]at z;cases z
  ·show (D.new a _ #[0] #[0]<|by omega).1
def a2w (A){Q:Array Nat×Nat×Nat->Shared->Prop}:∀ (f:Nat)(p:Array Nat)(n q:Nat),n+f=N->1<=n->e73 N->f0J n q->(∀ p m q,m<=N->1<=m->Pre p m N->f0J m q->Q (p,m,q) s)->(kas_desc f p n q).kasWp cmp Q s
 | 0,p,n,q,e,h1,P,D,k=>k p n q #[0] h1 P D
 | f+1,p,n,q,e,h1,P,D,k=>by
  ext d7J;let lo:=D.lo;ext d5l;let en:=P.same n BU #[0];let step:∀ (p':Array Nat),(∀ a,n<=a->g p' a=g p a)->Pre p' n N->(∀ a b,a<b->b<n->f1l (g p' a))->(∀ a,a<n->lt (g p' n) (g p' a)=true)->(kas_desc f p' (n+1) 0).kasWp cmp Q s:=λp' hg P' hs hl=>
   a2w A f p' (n+1) 0 #[0] #[0] (P'.up<|by omega) ⟨#[0],λe17 h4=>by
    let:b=n:=#[0]
    ext d4y;show hl a<|by omega,λe17=>hs a b h2<|by omega,λe17 h4=>by omega⟩ k
  cases c:lt tE F7 with
  | true=>
   let#[P',hs]:=D.flip A P #[0] _ rfl;let hl:∀ a,a<n->lt tE Z9=true:=λe9m=>A.Z6 c<|D.le A ha;change (if q > 0 then kas_desc f (f0I (n - (q+1)) n) (n+1) 0 else kas_desc f p (n+1) 0).kasWp cmp Q s;by_cases cq:q > 0
   ·rw[if_pos cq]at P' hs ⊢;let e2:=λk=>e3M #[0] k;show step _ (λe9m=>by rw[e2,if_neg<|by omega]) P' hs λe9m=>?_;rw[e2,if_neg<|by omega,e2];split
    ·show hl _ #[0]
    ·show hl _ ha
   ·rw[if_neg cq]at P' hs ⊢;show step _ (λ_ _=>rfl) P' hs hl
  | false=>
   ext d5l
   cases d:lt F7 tE with
   | true=>show k p n q #[0] h1 P D
   | false=>
    show a2w A f p (n+1) (q+1) #[0] #[0] (P.up<|by omega) ⟨#[0],λe17 h4=>?_,λe17=>D.old a b h2<|by omega,λe17 h4=>?_⟩ k
    ·by_cases cb:b=n
     ·subst cb;let h5:=f0K (b - 1) #[0] #[0] #[0]
      cases z:lt yT Z9 with
      | true=>rfl
      | false=>rw[A.trans z d]at h5;cases h5
     ·show D.far a b #[0] #[0] #[0]
    ·by_cases cb:b=n
     ·subst cb;let l1:=D.le A (a:=a) #[0];let l2:lt (g p<|b - 1) Z9=false:=by
       by_cases ca:a=b - 1
       ·rw[ca]at l1 ⊢;show l1
       ·show (D.new a (b - 1) #[0] #[0]<|by omega).2.1
      show#[A.trans d l1,A.trans l2 c,by rw[en];show P.low a<|by omega]
     ·show D.new a b #[0] #[0] #[0]
def a8d (c8l){n:Nat}(h1:1<=n)(hn:n<=N)(c8Z)(c7w):(kas_tail3 n N p).kasWp cmp Q s:=by ext d7J;let e:=λk=>x8 (p:=p) (i:=0) (j:=n) #[0] k;ext1 kas_tail3;rw[L5];show c6r hc A _ n #[0] h1 (P.rev hn<|Hi _) (λe4h=>?_) λm h2 h3 P' S' _=>k m _ #[0] h3 P' S';rw[e,e,if_pos<|by omega,if_pos<|by omega];show D ĉ #[0] #[0]
def a8z (c8l){n:Nat}(h1:1<=n)(hn:n<N)(c8Z)(hl:∀ a,a<n->lt n Z9=true)(c7w):(kas_descPart n N p).kasWp cmp Q s:=by
 ext1 kas_descPart;rw[L5];show a2w hc A _ p (n+1) 0 #[] #[] (P.up hn) #[#[],λe17 h4=>?_,λe17=>D a b h2<|by lia,λe17 h4=>by lia] λp m q h2 h3 P' D'=>?_
 ·let:b=n:=#[]
  ext d4y;rw[P.same b BU hn];show hl a #[]
 ·let#[P2,D2]:=D'.flip A P' h2 _ rfl;dsimp only;by_cases c:q > 0
  ·rw[if_pos c]at P2 D2 ⊢;ext d8i
  ·rw[if_neg c]at P2 D2 ⊢;ext d8i
omit hc in
def lr (hn:1<=n)(hN:n<=N):Pre (List.range N).toArray n N:=by
 let e:∀ i,i<N->g (List.range N).toArray i=i:=λi hi=>by ext1 g;rw[Iu];simp[hi]
 show#[by simp,Array.Perm.refl _,λi _ h=>e i h,λi h=>by rw[e i<|by lia];show h]
def b3R (c8l)(h1:1<=N)(c7w):(kas_count N (List.range N).toArray).kasWp cmp Q s:=by
 let e:∀ i,i<N->g (List.range N).toArray i=i:=λi hi=>by
  by_cases z:i=0
  ·subst z;let:=(lr (Hi 1) h1).low 0 #[0];omega
  ·show (lr (Hi 1) h1).same i #[0] hi
 ext1 kas_count;rw[L5];show c6r hc A _ 1 #[0] BU (lr BU h1) b7n λn h2 h3 P S hl=>?_;by_cases c:n=N
 ·rw[if_pos<|by simpa using c];show k n _ h2 h3 P S
 ·rw[if_neg<|by simpa using c];let hl:=hl #[0];rw[P.same n BU<|by omega,e _<|by omega]at hl;by_cases c1:n > 1
  ·rw[if_pos c1];show hc Ĉ (P.at h3 #[0]) (P.at h3 #[0]) ?_
   cases d:lt (g (List.range N).toArray 0) (g (List.range N).toArray _) with
   | true=>show k n _ h2 h3 P S
   | false=>
    rw[e _<|by omega,e _<|by omega]at d;let S':∀ a b,a<b->b<n->lt b a=false:=λe4h=>by let:=(S a b RX hb).1;rwa [e _<|by omega,e _<|by omega]at this
    let al:∀ a b,a<b->b<n->lt a b=false:=λe4h=>by
     let l1:lt a (n - 1)=false:=by
      by_cases z:a=0
      ·rw[z];show d
      ·show A.trans d (S' 0 a #[0]<|by omega)
     by_cases z:b=n - 1
     ·rw[z];show l1
     ·show A.trans (S' b _ #[0]<|by omega) l1
    let er:=λk=>x8 (p:=(List.range N).toArray) (i:=0) (by simpa using h3) k;show a8z hc A #[0] #[0] (P.rev h3<|Hi _) (λe4h=>?_) (λe9m=>?_) k
    ·rw[er,er,if_pos<|by omega,if_pos<|by omega,e _<|by omega,e _<|by omega];show#[S' ĉ #[0]<|by omega,λ_=>by omega]
    ·rw[er,if_pos<|by omega,e _<|by omega];by_cases z:0+n - 1 - a=n - 1
     ·rw[z];show hl
     ·show A.Z6 hl (al ĉ #[0]<|by omega)
  ·let:n=1:=#[0]
   ext d4y;show a8z hc A BU #[0] P b7n (λe9m=>?_) k;let:a=0:=#[0]
   ext d4y;rw[e 0<|by omega];show hl
def a6S (d1K){k:Nat}(hk:k<N)(P:Pre p k N)(S:e6k k)(q:∀ l,l<=k->b5b->(∀ a,l<=a->a<k->lt k Z9=true)->Q l s):∀ (f l r:Nat),r - l<=f->l<=r->r<=k->b5b->(∀ a,r<=a->a<k->lt k Z9=true)->(kas_place p k f l r).kasWp cmp Q s
 | 0,l,r,h,h1,h2,h3,h4=>q l #[] h3 λa z=>h4 a #[]
 | f+1,l,r,h,h1,h2,h3,h4=>by
  ext1 kas_place;by_cases c:l ≥ r
  ·ext d4H;show q l #[] h3 λa z=>h4 a #[]
  ·ext d3D;show hc Ĉ (P.at #[] hk) (P.at #[] #[]) ?_;let ek:p.getD k 0=k:=P.same k BU hk;rw[ek]
   cases d:lt k (g p<|(l+r) / 2) with
   | true=>
    show a6S A hk P S q f l ((l+r) / 2) #[] #[] #[] h3 λa z1 z2=>?_;by_cases z:a=(l+r) / 2
    ·rw[z];show d
    ·cases y:lt k Z9 with
     | true=>rfl
     | false=>rw[A.trans (S _ a #[] z2).1 y]at d;cases d
   | false=>
    show a6S A hk P S q f ((l+r) / 2+1) r #[] #[] h2 (λa z1=>?_) h4;by_cases z:a=(l+r) / 2
    ·rw[z];show d
    ·show A.trans (S a ((l+r) / 2) #[]<|by lia).1 d
def c4h (d0G)(c9T):∀ (f:Nat)(p:Array Nat)(k:Nat),k+f=N->1<=k->Pre p k N->e6k k->(kas_bin f p k).kasWp cmp Q s
 | 0,p,k,e,_,P,S=>by
  let:k=N:=#[0]
  ext d4y;show q p P S
 | f+1,p,k,e,h1,P,S=>by
  ext d7J;change ((kas_place p k k 0 k).bind λl=>kas_bin f (bubble p k<|k - l)<|k+1).kasWp cmp Q s;rw[L5];show a6S hc A #[0] P S (λl hl h3 h4=>?_) k 0 k #[0] #[0] BU (λa z=>by omega) (λa z1 z2=>by omega);let b:=λj=>a5c (p:=p) (k:=k) (l:=l) #[0] hl j;let ek:=P.same k BU #[0];show c4h A q f _ (k+1) #[0] #[0] #[(bubble_size Ĉ).trans hz,(bubble_perm Ĉ).trans P.perm,λi z1 z2=>?_,λi z=>?_] λa c hac P5=>?_
  ·rw[b,if_neg<|by omega,if_neg<|by omega];show P.same i #[0] z2
  ·rw[b];split
   ·omega
   ·split
    ·let:=P.low (i - 1) #[0];omega
    ·let:=P.low i #[0];omega
  ·let old:∀ x y,x<y->y<k->St lt (g p x) (g p y):=S;rw[b,b];by_cases ca:a=l
   ·rw[if_pos ca,if_neg<|by omega,if_pos<|by omega,ek];show A.st (h4 _ #[0]<|by omega)
   ·rw[if_neg ca];by_cases cc:c=l
    ·rw[if_pos cc,if_neg<|by omega,ek];show#[h3 a<|by omega,λ_=>P.low a<|by omega]
    ·rw[if_neg cc];split
     ·rw[if_pos<|by omega];show old ĉ #[0] #[0]
     ·split
      ·show old ĉ #[0] #[0]
      ·show old ĉ hac #[0]
def VF (d0G)(h1:1<=N)(c9T):(kas_sort N).kasWp cmp Q s:=by
 ext1 kas_sort;rw[L5];show b3R hc A h1 λm p h2 h3 P S=>?_;by_cases c:m<N
 ·rw[if_pos c,show max m 1=m by omega];show c4h hc A q _ p m #[0] h2 P S
 ·ext d3D;let:m=N:=#[0]
  ext d4y;show q p P S
open e
universe L2.So
namespace L2
open PySem PySem.Spec PySem.Calls PyProof.Rows PySem.W
theorem gM:List Int->List Int->Bool
 | a::x,b::y=>if a=b then gM x y else decide (a<b)
 | _,_=>false
def a8F:∀ {x y:Ξ},gM x y=true->gM y x=false
 | a::x,b::y,h=>by
  unfold gM at h ⊢;by_cases c:a=b
  ·ext d8F;rw[if_pos c.symm];show a8F h
  ·rw[if_neg c]at h;rw[if_neg<|Ne.symm c];let:=HA h;show GZ #[]
 | [],_,_=>by cases ‹List Int› <;> rfl
 | _::_,[],h=>by cases h
def b7h:∀ {x y z:Ξ},x.length=y.length->y.length=z.length->gM y x=false->gM z y=false->gM z x=false
 | [],_,[],_,_,_,_=>rfl
 | [],_,_::_,_,_,_,_=>rfl
 | a::x,b::y,c::z,h1,h2,h3,h4=>by
  unfold gM at h3 h4 ⊢;by_cases e1:b=a
  ·rw[if_pos e1]at h3;by_cases e2:c=b
   ·rw[if_pos e2]at h4;rw[if_pos<|e2.trans e1];show b7h Re lD h3 h4
   ·rw[if_neg e2]at h4;ext d4N;let:=IF h4;ext d6J
  ·rw[if_neg e1]at h3;let h3:=IF h3;by_cases e2:c=b
   ·ext d4N;ext d6J
   ·rw[if_neg e2]at h4;let h4:=IF h4;ext d4N;ext d6J
 | _::_,_::_,[],_,_,_,_=>rfl
 | _::_,[],_,h,_,_,_=>by simp at h
def DC:∀ {xs ys:θ}{x y:Ξ}{i:Nat},IntsAre xs x->IntsAre ys y->x.length=y.length->Q (gM x y) s->KatLex prog w A true false Q (xs.zip ys) i s
 | _,_,[],y,i,hx,hy,e,q=>by
  cases hx
  cases y with
  | nil=>cases hy;show q
  | cons _ _=>simp at e
 | _,_,a::x,y,i,hx,hy,e,q=>by
  cases y with
  | nil=>simp at e
  | cons b y=>
   cases hx with
   | cons _ t hx=>
    cases hy with
    | cons _ u hy=>
     show kat_cons (wpAny_eqBool_int ?_);unfold gM at q;by_cases c:a=b
     ·rw[if_pos c]at q;rw[show (a==b)=true from JJ.mpr c];show kat_yes (DC hx hy AF q)
     ·ext d4k;rw[show (a==b)=false from Kg.mpr c];show kat_no ?_
      cases i with
      | zero=>show oneLt_int q
      | succ i=>show kat_one ĉ (PySem.wpAny_lt_int q)
theorem YD (c8v)(n)(vs:θ)(rs:Θ):Prop:=vs.length=rs.length/\∀ (i:Nat) v r,vs[i]?=!v->rs[i]?=!r->r.length=n/\∃ a o xs k,v=.ref a/\h.get? a=!o/\o.cls=.type "tuple"/\o.data=.seq xs k/\IntsAre xs.toList r
def YD.Xp (hn:1<=n):∀ {vs:θ}{rs:Θ},YD h n vs rs->∃ fs,KatTups h vs fs/\fs.length=vs.length/\∀ v∈fs,∃ i t,v=e7A t
 | [],[],_=>#[[],trivial,1,nofun]
 | [],_::_,t=>by let:=t.1;simp at this
 | _::_,[],t=>by let:=t.1;simp at this
 | v::vs,r::rs,t=>by
  let#[l,a,o,xs,k,1,mK,q4]:=t.2 0 v r rfl rfl;let#[fs,oh]:=YD.Xp hn (vs:=vs) (rs:=rs) #[by simpa using t.1,λi v r e12=>t.2 (i+1) v r h1 h2]
  cases r with
  | nil=>simp at l;lia
  | cons x r=>
   let hx:∃ t ys,xs.toList=.int x t::ys:=by
    generalize xs.toList=L at q4
    cases q4 with
    | cons _ t _=>show#[t,_,1]
   let#[t',ys,ey]:=hx;show#[.int x t'::fs,KatTups.cons q1 q2 q3 (by rw[<- KC,ey];rfl) f1,by simpa using f2,λv hv=>?_];rcases Hr.mp hv with rfl|hv
   ·show#[wG]
   ·show f3 v hv
def c2Z (c90)(k1:builtinKind id=none)(k2:plainId id=true)(k3:entryFor table id=!b)(k4:argsOk id #[us,kw])(go:wpAny ē A.in1 (b #[us,kw]) (λfin s'=>match fin with
   | .done f=>(match (Except.ok f:Result) with|.ok (.ret v)=>Q v s'|.ok _=>False|.error e=>E e s')
   | .again c'=>c'.quiet=true/\codeAny ē A c' (λr s'=>match r with|.ok (.ret v)=>Q v s'|.ok _=>False|.error e=>E e s') s') E s):
  wpAny ē A (call xy us kw) Q E s:=by
 show KD (codeAny_call_builtin k2 k3 ?_);simp only[checkBuiltinCall,k1]
 cases hs:Manifest.signature? id with
 | none=>show Hg go
 | some sig=>
  let k5:Bind.checkArgs id sig #[us,kw]=pure ():=by simpa only [argsOk,hs] using k4
  simp only[k5];show Hg go
variable {St:Nat->Heap->Prop}
def a1w:(toString "max"++toString ".loop":String)="max.loop":=by decide
def b2O (c8m):
  ∀ (k j:Nat)(s:Ê)(v0:Value)(e0:Nat),n - (j+1)=k->j+1<=n->St (j+1) s.heap->P FK v0->
  s.heap.get? S=!{ cls:=.type "list",dict:=none,data:=.seq [v0,v0].toArray e0,slots:=[].toArray }->
  (∀ v h' tk,P b9t v->DT->R (.ok (.ret v)) { s with heap:=h',toks:=tk })->
  codeAny ē A (.builtin "max.loop" #[b8O,kw]) R s:=by
 let nW:S∉wr:=λh=>nS<|W.sub _ h;intro k
 induction k with
 | zero=>
  ext d6F;let en:j+1=n:=#[]
  ext d2B;show GQ<|K3 (W.done s _ _ (en▸g0) λe2Z k'=>?_);ext d6G;change wpAny _ A.in1 (updateSeq S (λ_=>[].toArray) >>= _) Ĉ;ext d6V;show wpAny_updateSeq Zn rfl<|GQ (KN (Hg ?_));show g3 v0 _ tk (by rw[<- en];show g1) λe6E e=>(J9 ĉ<|Ne.symm b2).trans (f0L e)
 | succ k ih=>
  ext d6F;let lt:j+1<n:=#[]
  ext d2B;show GQ<|K3 (W.item (j+1) s _ _ lt g0 λv e2Z gP g0' k'=>?_);ext d6G;change wpAny _ A.in1 (tryCatch (holding [v,v]<|richCompare .Gt v v0 >>= _) _ >>= _) _ _ _;show GQ<|K3 (Ip<|GQ (cm (j+1) FK v v0 _ _ _ gP g1 ?_));show GQ<|Ip (Jh ?_);show GQ (KN FX)
  cases hb:bt (j+1) FK with
  | true=>
   simp only[if_true];ext d6V;show wpAny_updateSeq Zn rfl<|GQ (KN ?_);rw[a1w];show Hg ⟨e2A _,ih (j+1) _ v _ #[] lt (e6l g0' λb bf o e=>?_) (by simp only[argBest,hb,if_true];show gP) (JX _ Zn rfl) λe5M=>?_⟩
   ·ext d4f
   ·show g3 v' h2 tk2 gP' λe6E e=>e7m b0j
  | false=>
   simp only[Iq,Jn];show GQ (KN ?_);rw[a1w];show Hg #[e2A _,ih (j+1) _ v0 e0 #[] lt g0' (by simp only[argBest,hb,Iq,Jn];show g1) Zn λe5M=>?_];show g3 v' h2 tk2 gP' λe6E e=>e7m (f0L e)
def a54 (c8m)(g0:St 0 s.heap)(g2:s.heap.get? S=!{ cls:=.type "list",dict:=none,data:=.seq [].toArray e0,slots:=[].toArray })(gN:n=0->∀ h' tk,DT->R (.ok (.ret d)) { s with heap:=h',toks:=tk })(g3:0<n->∀ v h' tk,P b9t v->DT->R (.ok (.ret v)) { s with heap:=h',toks:=tk }):
  codeAny ē A (.builtin "max.loop" #[b8O,[(x,d)]]) R s:=by
 let nW:=λh=>nS<|W.sub _ h;show JQ F.entry_max_loop ?_;show GQ b5Z;change wpAny _ A.in1 Ĉ s;by_cases hn:0<n
 ·show GQ (K3 (W.item 0 s ĉ hn g0 λv e2Z gP g0' k'=>?_));ext d6G;change wpAny _ A.in1 (updateSeq S (λ_=>[v,v].toArray) >>= _) Ĉ;ext d6V;show wpAny_updateSeq Zn rfl ?_;show Hg #[e2A _,b2O W bt cm S nS _ 0 _ v _ rfl hn (e6l g0' λb bf o e=>?_) gP (JX _ Zn rfl) λe5M=>?_]
  ·ext d4f
  ·show g3 hn v' h2 tk2 gP' λe6E e=>e7m b0j
 ·let en:n=0:=#[0]
  show GQ (K3 (W.done s ĉ (en▸g0) λe2Z k'=>?_));change wpAny _ A.in1 (rule _ >>= _) Ĉ;show GQ<|wpAny_rule (Hg ?_);show gN en h' tk λb o b1 _ e=>f0L e
open e
def C6 (a d:Value):argsOk "max" #[[a],BN]:=by ext1 argsOk;kernel_rfl
def c1L (hh)(hl:e4v (intItems xs))(g0:xs.size=0->∀ h' tk,BE->Q d { s with heap:=h',toks:=tk })(g1:0<xs.size->∀ v h' tk,(intItems xs)[argBest (λi j=>decide b50) (xs.size - 1)]?=!v->BE->Q v { s with heap:=h',toks:=tk }):
  wpAny ē A (call (.builtin "max") [.ref l] BN) Q E s:=by
 show c2Z F.kind_max F.plain_max F.entry_max (C6 ĉ) ?_;change wpAny _ A.in1 (Builtin.Builtins.bindParams "max" c1T 0 #[[],BN] >>= _) ĉ s;show GQ (wpAny_of_eq (show Builtin.Builtins.bindParams "max" c1T 0 #[[],BN]=pure [none,!d] from rfl) ?_);show GQ FX;show GQ (iter_intList hl λs₂ e st hfp hlI=>?_);subst e;show GQ (Kq ?_);rw[a1w];show Hg #[e2A _,?_];let W:=Walks.list (A:=A.in1) (prog:=prog) (w:=w) hh _ l hlI<|intItems xs;show a54 W (λi j=>decide b50) (CmpOf.ints_gt oy λ_ _=>intItems_at) _ (λhm=>IL _<|hfp _ hm) (e6l st λb _ o e=>GW _ e) FE (λen e2Z hk=>?_) (λhn v e2Z hP hk=>?_)
 ·show g0 (by simpa [intItems] using en) h' tk a63
 ·show g1 (by simpa [intItems] using hn) v h' tk (by simpa [intItems] using hP) a63
variable {X:Cx}{e:Expr}{es:Ì}{X7:List Keyword}{t tk:TA}{p pos:Pos}
inductive b4W (K:Ψ)(Q:VK)(vs:π)(zs:π)(H2:Hp):∀ (a:Addr)(ns:Ξ)(y:V),vs=Ty->zs=[y]->LS K H2 a Ķ->(ns=[]->Q y H2)->(∀ m∈ns,(∀ j∈ns,j<=m)->Q (.int m) H2)
theorem a3d (K)(t tk:TA):TE:=λd92=>t σ H λe43=>tk σ H1 λzs H2=>b4W K Q vs zs H2
def FA (K)(c9J)(hv:bootBuiltins "max"=!.builtin "max")(ha)(hk:PK X X7 tk)(hK)(Xg:(e1n uP).filterMap (·.1)=(["default"]:η):=ă)
  (he:e0n Ň=ĭ::e0n PP:=ă)
  (O6:(e0n Ň).any (·.1)=false:=ă)
  (Ua:(e1n uP).all (·.1.isSome)=true:=ă)
  (hkw:(e1n uP).any (·.1.isNone)=false:=ă):PE X (.Call (.Name "max" p) sI X7 pos) (a3d K t tk):=by
 subst hK;ext d2c;show Iy (e2T hv ?_ į<|by decide);show callWith_kw (thA (ha pos ñ s σ H _ I h) λus s1 e43 I1 r1 q1=>M8 (d9w hk q1) λws f1t=>?_) he O6 Ua hkw;let#[zs,vS]:=gR;rw[Xg];let#[a,ns,y,2,hq,q0,q3]:=q2;let#[u,1,ru]:=dJ r1
 cases ru;let#[d,1,rd]:=dJ r2;let#[Dt]:=I2.list hq;let hi:IntsAre its ns:=c5Z rv;ext d7i;let hl':s2.heap.IsList a (intItems xs):=hx▸pl.isList;let e1:ns=xs.toList.map (·.1):=by rw[<- nums_intItems,<- hx];show (show numsOf its.toArray.toList=ns from hi.numsOf).symm
 let el:ns.length=xs.size:=by rw[e1,GP,HW]
 show c1L (I2.ok.hd hc) hl' (λhn e2Z hk=>?_) (λhn v e2Z hv hk=>?_)
 ·show#[y,H2,I2.kept hk,rd,q0<|JD.mp #[]]
 ·let#[t',1]:=intItems_at hv;let#[ZL]:=argBest_gt oy<|xs.size - 1;show⟨.int _,H2,I2.kept hk,⟨_,rfl⟩,q3 _ ?_ λe3b=>?_⟩
  ·rw[numAt_eq,e1];show getD_mem (by rw[GP,HW];lia)
  ·rw[e1]at hb;let#[j,hj,1]:=mem_getD hb;rw[GP,HW]at hj;rw[<- numAt_eq];show h2 j #[]
open e
theorem OS (K)(H):Nat->V->V->Prop
 | 0,x,y=>(∃ i,x=.int i/\y=.int i)\/(∃ z,x=.str z/\y=.str z)\/x=.non/\y=.non
 | k+1,x,y=>OS K H k x y\/(∃ p q vs ws,x=.ref p/\y=.ref q/\LS K H p vs/\LS K H q ws/\Paired oq vs ws)\/∃ p q vs ws,x=.ref p/\y=.ref q/\NC K H p vs/\NC K H q ws/\Paired oq vs ws
variable {X:Cx}{ñ:ζ}{s:Ê}{σ:St}{H:Hp}
def b0Q (h:∀ j,e j=true):(List.range n).all e=true:=by rw[Io];show λj _=>h j
def OS.items (ih:∀ {A:Ë}{x y:V}{v u:Value},OS X.K H k x y->e18 v->e5n u->A.units+k<cLine->e1g v u true)(r1:Fc vs its)(r2:Fc ws Pp)(p:Paired (OS X.K H k) vs ws)(hu:A.units+k<cLine):
  ∀ j (h1:j<its.toArray.size) (h2:j<Pp.toArray.size),e1g its.toArray[j] Pp.toArray[j] true:=λj e12=>by
 rw[Ik]at h1 h2;let#[x,ex,rx]:=r1.at' (i:=j) (u:=its[j]) ė;let#[y,ey,ry]:=r2.at' (i:=j) (u:=Pp[j]) ė;let#[y',ey',l]:=Paired.at p ex;rw[ey]at ey';obtain rfl:=Option.some.inj ey';let:=ih l rx ry hu;ext d3T
def OS.eq (I):∀ (k:Nat) {A:Ë}{x y:V}{v u:Value},OS X.K H k x y->e18 v->e5n u->A.units+k<cLine->e1g v u true
 | 0,A,x,y,v,u,h,rx,ry,hu=>by
  rcases h with⟨i,rfl,rfl⟩|⟨z,rfl,rfl⟩|⟨rfl,rfl⟩
  rotate_left 2
  ·cases rx;cases ry;ext d4i
  ·ext d2z;let:=a8D.eq (K:=X.K) X A ñ s σ H Ge Ge ĉ i i rfl I #[t,1] #[t',1] rfl rfl hu;rwa [Hb rfl]at this
  ·let:=b8N.eq (K:=X.K) X A ñ s σ H (.str z) (.str z) v u (Sum.inr z) (Sum.inr z) rfl I rx ry rfl rfl hu;rwa [Hb rfl]at this
 | k+1,A,x,y,v,u,h,rx,ry,hu=>by
  let ih:=@OS.eq I k;rcases h with h|⟨p,q,vs,ws,rfl,rfl,h1,h2,h3⟩|⟨p,q,vs,ws,rfl,rfl,h1,h2,h3⟩
  ·show ih h rx ry #[0]
  ·cases rx
   cases ry;by_cases e:p=q
   ·subst e;ext d4i
   ·ext d2p;ext d7K;let:=SeqAt.RcAt.lists (A:=A) (e:=λ_=>true) pl.isList pl2.isList (by simp;omega) #[0]<|e7t (by rw[Around.in1_units];omega);rwa [b0Q λ_=>rfl]at this
  ·cases rx
   cases ry;by_cases e:p=q
   ·subst e;ext d4i
   ·let#[c5M]:=I.tuple h1;let#[c49]:=I.tuple h2;let l1:=r1.length;let l2:=r2.length;let l3:=Paired.length h3;ext d7K;let:=SeqAt.RcAt.tuples (A:=A) (e:=λ_=>true) pl pl2 #[0]<|e7t (by rw[Around.in1_units];omega);rw[b0Q λ_=>rfl]at this;let e2:(its.toArray.size==Pp.toArray.size)=true:=by simp;omega
    rwa [e2]at this
open e
theorem c0p (K)(H)(k:Nat)(x y:V):Prop:=∃ p q vs ws,x=.ref p/\y=.ref q/\LS K H p vs/\LS K H q ws/\Paired oq vs ws
def Ed (d0x):e7p (d9a k ű):=by
 ext d7q
 cases rx
 cases ry;ext d2p;show SeqAt.eq_listAt pl.isList pl2.isList (by simp;omega) #[0] a5v ?_;ext d8j
def oX (d0x):NP X wD (d9a k UF):=by
 ext d7q
 cases rx
 cases ry;ext d2p;show SeqAt.RcNeAt.lists pl.isList pl2.isList (by simp;omega) #[0] a5v X.prog X.w X.xe _ ?_;ext d8j
def b0d (r:Fc ts its):∀ {p:À},(∀ i∈p,i<ts.length)->Fc (d9z ts.getD) (p.map λi=>its.getD i Value.none)
 | [],_=>.nil
 | i::p,h=>by let hi:=h i Ha;let#[u,ZL]:=r.get<|GR hi;show .cons ?_<|b0d r λe8G=>h j<|Hk _ hj;change Os (ts.getD i .non) (its.getD i Value.none);rw[GU,GU,GR hi,h1];show h2
def qc (h:LO F ds vs):∀ {p:À},(∀ i∈p,i<ds.length)->LO F (d9z ds.getD) (d9z vs.getD)
 | [],_=>rfl
 | i::p,k=>by
  let#[v,ZL]:=h.at (GR<|k i Ha)
  show#[_,_,1,?_,qc h λe8G=>k j<|Hk _ hj];change DR F (ds.getD i .non) (f0M .non);rw[GU,GU,h1,GR<|k i Ha];show h2
theorem Yb:List Int->Int
 | []=>0
 | a::l=>if l=[] then a else max a (Yb l)
def c3E:∀ {l:Ξ},l≠[]->Yb l∈l/\∀ j∈l,j<=Yb l
 | [],h=>absurd rfl h
 | a::l,_=>by
  ext1 Yb;by_cases c:l=[]
  ·rw[if_pos c,c];show#[Hs.mpr rfl,λe8G=>by rw[Hs.mp hj];show Int.le_refl _]
  ·ext d3D;let#[ZL]:=c3E c;show#[?_,λe8G=>?_]
   ·rcases Int.le_total a (Yb l) with h|h
    ·rw[Int.max_eq_right h];show Hk _ h1
    ·rw[Int.max_eq_left h];show Ha
   ·rcases Hr.mp hj with rfl|hj
    ·show Int.le_max_left ĉ
    ·show Int.le_trans (h2 j hj) (Int.le_max_right ĉ)
def b63:bootBuiltins "max"=!.builtin "max":=by decide +kernel
variable {re:Rx}
inductive rMx (re:Rx)(c7Q):∀{ns:Ξ},re ε (rw ns)->d=.int (Yb ns)
def a9u (c9J)(ha:e0P vC)(hk:PK X [kw] c2c)(c8B)(Xg:(e1n Fj).filterMap (·.1)=(["default"]:η):=ă)(he:e0n xB=ĭ::e0n š:=ă)(O6)(Ua:(e1n Fj).all (·.1.isSome)=true:=ă)(hkw:(e1n Fj).any (·.1.isNone)=false:=ă):
  PE X (.Call (.Name "max" p) [e] [kw] pos) (tP (rMx re)):=(FA X.K hc hg hm b63 (da ha LB hs) hk rfl Xg he O6 Ua hkw).imp λe1E=>by
 ext d8y;obtain @⟨ns,h1,rfl⟩:=h;show NO.go S #[h1,1] λe9K=>?_;let#[yR]:=q1;let ev:=jx p2;subst ev;show#[a,ns,.int 0,2,LS.of<|e1J p1,λz=>?_,λm Vk hm2=>?_]
 ·subst z;show q _ H1 e1 rfl
 ·let:m=Yb ns:=by
   let#[AU]:=c3E (l:=ns) (λz=>by rw[z]at Vk;cases Vk);let:=hm2 _ h3;let:=h4 _ Vk
   lia
  rw[this];show q _ H1 e1 rfl
open e
universe L2
namespace K72
open PySem L2
open PyProof.Rows (boot_all boot_bool boot_dict boot_int boot_list boot_sorted boot_str boot_tuple)
variable {c:Cl}{C:Addr}
inductive SH (c7E):Ä
 |mk {S:NS}{ns:η}{p:Int}{ř:List bC}{msg:Ξ}{fo:Λ}:ord S ns->b6v->S.Ls.length<=1000->My.O5 p=true->y8 p Ő ř fo->SH c ord [Eo,rw msg,.int p,SW fo] (Uh (UD (·.1) (bi p ř msg fo Ő [])))
def a4x [Bx:Bd](F:MO Bx.K "sent" "sent" (top 62) f fd)(LX)(LM)(Qg):QH N5 5 f fd ë (d8T SH):=by
 show MO.dw F [] ?_ λe6F=>(qr<|dF Qg hr.m rfl (da b3N<|da (e81 rfl<|e0B LB) (da (Đ 1)<|e1M zc)))
 rintro _ _ @⟨S,ns,p,ř,msg,fo,ho,hn,hl,hP,W⟩;ext d7Y;show#[1,.inl #[#[#[c1v,b7c,4],#[W]],1]]
def a6x (d1c)(c99){x y:α}(h1:xs[i]?=!x)(h2:xs[j]?=!y)(e:x=y):i=j:=by let#[a,b]:=GS.mp h1;let#[c,d]:=GS.mp h2;show (KH nd).mp (by rw[b,d,e])
structure BJ (mg:Ω):Prop where
 Z3:mg "max"=none
theorem Po (c7n)(c72)(x):Int:=Yb a6H
abbrev cB (ns:η)(c72):D:=MP (ns.map λx=>(.inr x,.int (L x)))
inductive eO (c7E):Ä
 |mk {S:NS}{ns:η}{L:Str->Int}:ord S ns->ns.Nodup->ns.length<=1000->S.Ls.length<=1000->(∀ (i:Nat) x,ns[i]?=!x->∀ t∈S.Ls,t.2.2.1=x->t.2.1∈ns.take i)->(∀ x∈ns,L x=Po S.Ls L x)->eO c ord kP (cB ns L)
def a7c [Bx:Bd](T:BJ Bx.mg)(Ly)(Mc):Tk 3 "lateness" (top 68) ["net"] (d8T eO):=by
 show Nh ["ties",xt] ?_ λd9W=>(qC (d82 1 Ly)
 (qC (qo 2 ND Zx)
 (qC (e0r b69 YZ (aN 3)
  (q1 (qP (f1s (f0N (e8w (cS 4 [2,3] [pA,xt]) Ÿ
  ģ
  (λd94=>bW<|e9k (Đ 5))
  (λd94=>RY (ME hr (Đ 4)<|Đ 1)<|Đ 3))<|c6h aG c0v) rfl) λe0c=>h)))
 sG)))
 rintro _ _ @⟨S,ns,L,ho,nd,nz,tz,hb,hL⟩;show .nx #[yD,#[tz]] Bj;show cZ ns (λi ε=>∃ o3,ε=[.fz<|aK c S,.fz<|aV S.Ls,.ow<|f1m L,o3]) ⟨_,rfl⟩ ⟨⟨rfl,rfl,by decide,⟨ho⟩⟩,.l .lst⟩ (λe2x=>?_) λe3c=>?_
 ·let#[o3,he]:=gR;subst he;let xi:x∉ns.take i:=λz=>by
   ext d3Q
   lia
  let e1:rw ((S.Ls.filter λt=>decide W1).map λt=>L t.2.1+t.2.2.2)=.lst _:=e1j GV;let nw:(.inr x:jr)∉((ns.take i).map λx=>((.inr x:jr),D.int<|L x)).map (·.1):=λz=>by rw[GV]at z;ext d6N
  show#[_,1,_,#[1,by rw[GP,Hl];lia,.a #[by rw[e1];show bh (u:=bA) c2x DZ tz λe6r=>#[BZ,eq_str rfl rfl,λe=>#[#[2,.k a4A kS],1,.i]],1] rfl,1,kS],.fz<|.str x,?_];rw[aP hx,show cB (ns.take i++[x]) L=MP (_++[_]) from congrArg MP He,<- cw nw,hL x<|GY hx];rfl
 ·let#[_,he]:=gR;ext d48
inductive TF (c7j):Ä
 |no {p:Int}{a b d e:D}:TF C [fD C p,.tup c0V,d,e] .non
 |yes {p:Int}{t:Θ}{ks:Ξ}{cs:Cs}:0<p->p<=1000000->(∀ z∈t,Vw p z/\z.length<=1000)->t.length<=1000->ks.length<=1000->(∀ k∈ks,∃ n,bq cs k=some n)->TF C [fD C p,.tup [.str "reads",tb t],rw ks,Uh cs] (rw (Mx.Mp p t (ks.map λk=>(bq cs k).getD 0)))
def b3s [Bx:Bd](Na):Tk 5 "read_message" (top 69) b1o (d8M TF):=by
 show Nh [] ?_ λd9W=>(qC (qI (e38 l8 iV)
  FI
  q0)
 (qr (f1h (e0B (da l8 (da (e0v (cS 1 [3] b9k) wS
  Ĕ
  P6
  ž) LB))))))
 rintro _ _ h
 cases h with
 | @no p a b d e=>
  let r:=ne_str (ε:=[some<|fD C p,some<|.tup c0V,!d,!e]) (ra:=e1N E6<|rC DX) (rb:=rC<|.str "reads") wg rfl;show .rt (.t r #[2])
 | @yes p t ks cs p0 p1 ht tz kz hk=>
  let r:=ne_str (ε:=[some<|fD C p,some<|.tup [.str "reads",tb t],some<|rw ks,some<|Uh cs]) (ra:=e1N E6<|rC DX) (rb:=rC<|.str "reads") ⟨rfl,rfl,.t rfl⟩ rfl;show .nx (.f r rfl) ⟨⟨⟨rfl,⟨rfl,rfl,.t rfl⟩,c7 (h:=λk=>.int _) DZ kz (λk V0=>#[_,3,by let#[n,hn]:=hk k V0;rw[hn];show .k (ye hn) kI])<|e1j GV,rfl⟩,#[p0,p1,ht,tz]⟩,rfl⟩
open e
universe K72
namespace L2
open PySem PySem.Spec PyProof.Rows PySem.W
theorem ZD (kz:Ξ)(p:À):Prop:=∀ a b,a<b->b<p.length->kz.getD wZ 0<=kz.getD CG 0/\(kz.getD CG 0<=kz.getD wZ 0->p.getD a 0<p.getD b 0)
theorem sX (kz:Ξ)(vs out:θ):Prop:=∃ p:À,p.Perm b7G/\out=p.map b5c/\ZD kz p
variable {prog:É}{w:World}{A:Ë}
structure SK (c9G)(kz:Ξ)(G:List (Addr×Obj)->Shared->Prop):Prop where
 get:∀ {own s a o},G own s->(a,o)∈own->s.heap.get? a=!o
 sub:∀ {own Vb s},G own s->b9u->G Vb s
 kept:∀ {own s h' tk},G own s->C0->G own { s with heap:=h',toks:=tk }
 grow:∀ {own s h' tk a o},G own s->C0->s.heap.objs.size<=a->h'.get? a=!o->b6E->G kn { s with heap:=h',toks:=tk }
 put:∀ {own s h' a o o'},G kn s->b8Q->Heap.SameBut a s.heap h'->h'.get? a=!o'->b51->G ((a,o')::own) { s with heap:=h' }
 turn:∀ {own:ζ}{s:Ê}{i:Nat}{v:Value}{k:Int},vs[i]?=!v->kz[i]?=!k->G own s->wpAny ē A (call f [v]) (λr s'=>∃ t,r=.int k t/\G own s') mZ s
example{kS:Addr}:=0
def b6L:∀ {us:θ}{ns:Ξ}{i:Nat},e5p ns->i<ns.length->∃ t,us.getD i Value.none=.int (ns.getD i 0) t
 | _,[],_,_,h=>by simp at h
 | _,_::_,0,.cons n t _,_=>#[t,1]
 | _,_::_,i+1,.cons n t r,h=>b6L (i:=i) r Ŷ
def dD:∀ v,(seqObj "list" xs n).data≠.cell v:=λ_ z=>nomatch z
def c2O {st:SortSt}(c8K)(Eg)(ho:sX kz vs ((arrOf st).map (·.2)).toList)(hfl)(c75):
  wpAny ē A b2e P E s:=by
 ext d40;let hsz:keys.size=vs.length:=by let h1:=hk.length;rw[HW]at h1;omega
 ext d2r
 ext d20;let s2:=IQ a64 a<|Obj.mapSeq λ_=>(arrOf st).map (·.2);obtain⟨c2,UO⟩:∃ c2,((s.heap.update kS<|Obj.mapSeq λ_=>([].toArray:Ó)).update a<|Obj.mapSeq λ_=>(arrOf st).map (·.2)).get? a=!seqObj "list" b7o c2:=
  b1D
 let g2:=S.put (own:=[]) b5C Dg s2 UO dD;ext1 ksk_tail;try dsimp only
 show GQ (JU nk rfl ?_ (by rw[hsz,Ir];omega)<|HP _);ext d70;show GQ (JU XJ rfl ?_ (HP _) (by simp only[Iq,Jn,Array.size_map];rw[Eg,Ir];omega));ext d5d;show Hg (h ĉ c2 rfl g2 ho)
def a0i (c8K)(c75):
  wpAny ē A a8w P E s:=by
 let hsz:keys.size=vs.length:=by let h1:=hk.length;rw[HW]at h1;omega
 ext d24
 ext1 ksk_end;try dsimp only
 ext d7r
 ·ext d4K;try dsimp only
  let er:(keys.zip vs.toArray).map (·.2)=vs.toArray:=by apply Array.toList_inj.mp;ext d5m
  show c2O S g Vm hk hlen Sx hzs ?_ rfl h;show#[c3G]
  ·change ((keys.zip vs.toArray).map (·.2)).toList=_;ext d5v
  ·ext d7s
 ·ext d6g;rw[ksk_kind hk (by rw[hsz];omega)];show GQ FX;let kl:keys.toList.length=vs.length:=by rw[HW,hsz]
  show GQ (IC (kat_run (Q:=λPj s'=>s'=s/\∃ p:Array Nat,e8B vs.length/\So.V3 (λi j=>decide _) p vs.length/\arrOf Pj=p.map _/\failedOf Pj=none)
   (G:=λp s'=>s'=s/\So.Pre p vs.length vs.length/\So.V3 (λi j=>decide (f0O 0<f0P 0)) p vs.length) kl #[0] Sx a6u ?_) ?_ λ_ _ e=>e)
  ·show So.VF b8R #[λ{i j} h=>?_,λ{i j k} h1 h2=>?_] #[0] b7q
   ·let at_:∀ i,i<vs.length->∃ t,keys.toList.getD i Value.none=.int _ t:=λi hi=>by let#[t,ht]:=b6L hk (show i<kz.length by omega);show#[t,ht]
    let#[t,e1]:=at_ i hi;let#[u,e2]:=at_ j hj;ext1 kas_ask;rw[e1,e2];show kat_lt_int q
   ·let:=HA h;ext d6J
   ·let:=IF h1;let:=IF h2;ext d6J
  ·ext d4F;try dsimp only
   ext d3f
   show c2O S g Vm hk hlen Sx RK a2K hf h
   ·rw[kat_snds kl har]
   ·rw[HW,hz]at hb;let e1:∀ i,f0Q 0=So.g p i:=λi=>by ext1 So.g;rw[Iu,GU,KC]
    let#[r1,r2]:=q2 a b RX hb;rw[e1,e1];show#[Int.not_lt.mp<|IF r1,λz=>r2<|GZ #[0]]
def b2i (d1A)(g:G b1Q s)(Vm)(c78):
  wpAny ē A a9q P E s:=by
 show GQ xb
 first
  | rw[Lc]
  | (simp only)
  | rw[<- c29]
 show GQ (ksk_fold (λi s'=>∃ kA e,G b5d s'/\IntsAre kA.toList (kz.take i)) vs 0 s
  #[[].toArray,(0),g,by simpa using IntsAre.nil] ?step ?done)
 case step=>
  rintro j x s' hx ⟨kA,e,g',hk⟩;simp only[Nat.zero_add]at hk ⊢;let hj:=(GS.mp hx).1;obtain⟨k,hkj⟩:∃ k,kz[j]?=!k:=#[_,GR<|by omega]
  let hz:kA.size<=vs.length:=by let h1:=hk.length;rw[HW,Hl]at h1;omega
  show GQ (KI<|IC (S.turn hx hkj g') (λv V9 he=>?_) λ_ _ hF=>hF.elim);let#[t2,1,g2]:=he;try dsimp only
  let nk:=S.get g2 Ha;let s1:=IQ V9.heap kS<|Obj.mapSeq b8S;obtain⟨c2,UO⟩:∃ c2,(V9.heap.update kS<|Obj.mapSeq b8S).get? kS=!_:=#[_,Jv nk _]
  let ek:kz.take (j+1)=kz.take j++[k]:=by rw[IU,hkj];simp
  let ea:(kA.push<|Value.int k t2).toList=kA.toList++[Value.int k t2]:=by simp
  show GQ (JU nk rfl ?_ (by rw[Ir];omega)<|e4N (by rw[Ir];omega));show Hg ⟨rfl,kA.push _,c2,S.put g2 (λe79=>by rw[Hs.mp hp];show Vm.symm) s1 UO dD,by rw[ea,ek];show ksk_snoc hk⟩
 case done=>
  rintro s' ⟨kA,e,g',hk⟩;let V0:IntsAre kA.toList kz:=by let e3:kz.take (0+vs.length)=kz:=IZ #[0];rw[e3]at hk;show hk
  let nk:=S.get g' Ha;try dsimp only
  show GQ b6F;show a0i S g' Vm V0 hlen Sx λs2 out c _ g2 k2=>h s2 out c g2 k2
def c5U (d1A)(g:G b26 s)(c78):
  wpAny ē A b9v P E s:=by
 ext d2t
 ext d3M;show b2i S g3 vD hlen Sx h;let:a<((s.heap.update a<|Obj.mapSeq λ_=>([].toArray:Ó)).push<|seqObj "tuple" vs.toArray 0).objs.size:=by rw[JF];show JY NI
 show IL _ b5e
open e
def c5E {Pv:List Value->Prop}(S:∀ vs,Pv vs->SK prog w A.in1.in1 Ci vs kz G)(hlen:∀ vs,Pv vs->kz.length=vs.length)(Sx:kz.length<64)(Vo)(g:G [] s)(h:∀ (s':Ê) vs D out c,Pv vs->G b52 s'->sX kz vs out.toList->Q sr s'):
  wpAny ē A a5J Q E s:=by
 ext d21;show c5U S g1 hlen #[0] λs2 out c g2 k2=>QJ
 show Hg #[_,1,f0R hv g2 k2]
theorem mG (c:Addr)(ğ):HO:=.ext λh=>h.CodeRec oQ ğ
theorem kZ (P:Addr)(pos:Pos)(ğ)(H):Prop:=
 ∃ ps,H P=!.tbl ps/\TriplesOk ps.toList/\(codeAmong pos ps.toList=none\/∃ c,codeAmong pos ps.toList=!.ref c/\H c=!mG c ğ)
theorem Sb (P:Addr)(H H':Hp):Prop:=∀ b o,b≠P->H b=!o->H' b=!o
def Sb.refl:f0S H:=λe05 e=>e
def Sb.trans (a:f0S H1)(b:Sb P H1 H2):f0S H2:=λc o n e=>b c o n (a c o n e)
def f'.sb (a:f' H H'):f0S H':=λc o _ e=>a c o e
def kZ.same (t:e4O ğ H)(e):e4O ğ H':=by let#[ps,Lf]:=t;show#[ps,e ĉ h1,h2,h3.imp id λgR=>(by let#[c,a,b]:=gR;show#[c,a,e ĉ b])]
theorem Bm (mg)(base):Prop:=∃ bm ob,mg "__builtins__"=!.ref bm/\bm≠builtinsNs/\base.get? bm=!ob/\ob.cls=.type "module"/\ob.dict=!builtinsNs/\ob.data=.plain
structure B3 (X:Cx)(P:Addr):Prop where
 code:∃ c,X.env.code=.ref c/\CodeHd X.base c P
 bm:Bm X.mg X.base
def a4T (x:h.CodeRec oQ q):LU pr w H h c (mG c q):=by
 show#[x,?_,λe12 y k=>?_]
 ·let#[c',o,vs,t,e,h1,_]:=x
  cases e;show#[o,h1]
 ·let#[c',o,vs,t,e,h1,r]:=y
  cases e;show#[c,o,vs,t,1,k _ h1,r]
def wN (L:B3 X P)(I)(T:e4O Ĭ H)(RW:e9p X.env=pure P7)(Xi)(k:∀ f c' Ug H' (s':Ê),Inv X ((f,kla_obj "<lambda>" Ĭ params body scope P7 a6X c' Ug)::ñ) σ H' s'->
   Sb P H H'->e4O Ĭ H'->H' c'=!mG c' Ĭ->Q Ci s'):
  wpAny Ē X.A (d8N (.Lambda params body scope pos)) Q E s:=by
 let#[c,hc,hd]:=L.code;let#[bm,ob,Bz,b4,b5,b6]:=L.bm;let#[ps,hP,tr,st]:=T;let hPo:s.heap.get? P=!tabObj ps:=I.LJ P _ hP;let hgs:=I.mod.glob.keeps I.bk;let hgP:mainGlobals≠P:=λq=>by let#[Pk,e,Q1,_]:=hgs;rw[q,hPo]at e;cases e;cases Q1
 let hbP:bm≠P:=λq=>by let e:=I.bk ĉ b3;rw[q,hPo]at e;cases e;cases b4
 let hbG:bm≠mainGlobals:=λq=>by let#[Pk,e,Q1,_]:=I.mod.glob;rw[q,e]at b3;cases b3;rw[Q1]at b6;cases b6
 show kla_eval Xi ?_;rcases st with hnf|⟨c',hf,P5⟩
 ·show kla_makeFunction (mg:=X.mg) RW I.ok.glob hgs hc (hd.keeps I.bk) hPo tr hnf hgP a98 λc' Ug e2Z hx hge NI a81 XO=>?_;let hcN:H c'=none:=I.LJ.fresh hge;let hcP:c'≠P:=λz=>by rw[z,hP]at hcN;cases hcN
  let hPc:P≠c':=hcP.symm;obtain⟨H',eH⟩:∃ H',H'=upd (upd H P<|.tbl (ps++[c4v].toArray)) c' (mG c'<|X.env.qual++"<lambda>"):=#[_,1]
  let hn:∀ b,b≠P->b≠c'->H' b=H b:=λb n1 n2=>by rw[eH,aa n2,aa n1]
  let hHP:H' P=!(.tbl<|ps++[c4v].toArray):=by rw[eH,aa hPc,ai]
  let hHc:H' c'=!(mG c'<|X.env.qual++"<lambda>"):=by rw[eH,ai]
  let ne1:∀ b u,H b=!u->b≠c':=λe7w=>aj e hcN;let neP:∀ b,H b=none->b≠P:=λb e z=>by rw[z,hP]at e;cases e
  let ext:∀ (o:Obj) b u,b≠P->s.heap.get? b=!u->(h'.push o).get? b=!u:=λo b u n e=>GW _<|hx b u n e;let un:∀ o,Un X.fs [] H H' s.heap (h'.push o):=λo=>by
   show#[λe7w n _ _=>ext o b u (neP b n) e,λe7w n _ _=>#[u.slots,ext o b u (neP b n) e],λe7w n _=>?_,λe7w _=>?_,λb xs e=>?_,λb u xs e=>?_,λb qs e=>?_]
   ·rw[hn b (neP b n)<|HY (HN og hge)];show n
   ·by_cases hb:b=P
    ·rw[hb];show#[_,GW _ XO]
    ·show#[u,ext o b u hb e]
   ·ext d33
   ·ext d33
   ·by_cases hb:b=P
    ·rw[hb,hP]at e;cases e;show#[_,by rw[hb];show hHP]
    ·show#[[].toArray,by rw[hn b hb<|ne1 _ _ e,e];simp]
  let LJ:∀ o,e5P H' (h'.push o):=λo e7w=>by
   by_cases hb:b=P
   ·subst hb;rw[hHP]at e;cases e;show GW _ XO
   ·by_cases hb2:b=c'
    ·subst hb2;rw[hHc]at e;cases e;let#[c2,o2,vs,t,e2,r1,r2]:=a81;show a4T #[c2,o2,vs,t,e2,GW _ r1,r2]
    ·rw[hn b hb hb2]at e;show (e8d u e).N0 (λd v Q1 q=>ext o d v ?_ q) (λd q=>?_) λd xs q=>?_
     ·rintro rfl;rcases Q1 with z|z
      ·show hb z.symm
      ·rw[hP]at z;cases z
     ·ext d4n
     ·ext d4n
  let J:=λo=>I.un (t':=tk) (un o)<|LJ o;let a1r:s.heap.objs.size<=h'.objs.size:=Ks<|JK hge NI;show k h'.objs.size c' Ug H' _ ((J _).MM λe79=>?_) (λb o n e=>by rw[hn b n<|ne1 _ _ e];show e) #[_,hHP,?_,.inr #[c',?_,hHc]] hHc
  ·rcases Hr.mp hp with rfl|hp
   ·show#[Hw _ rfl,?_,IG<|HN I.lt a1r,I.Wf a1r,λv z=>nomatch z];rw[hn _ vD<|IG NI]
    ·show I.LJ.fresh a1r
    ·let:=HD XO;rw[<- z]at this;show IL _ this
   ·ext d8k
  ·let:=TriplesOk_snoc pos.line pos.col (d9i c') ps.toList tr;ext d3T
  ·let:=codeAmong_snoc (c:=.ref c') ps.toList tr hnf;ext d3T
 ·show kla_makeFunctionHit (mg:=X.mg) RW I.ok.glob hgs hc (hd.keeps I.bk) hPo tr hf a98 λUg e2Z hk hsz=>?_;let J:=λo=>f0g (h':=h'.push o) λe7w=>GW o<|hk b u e;show k h'.objs.size c' Ug H _ ((J _).MM λe79=>?_) Sb.refl #[ps,hP,tr,.inr #[c',hf,P5]] P5;rcases Hr.mp hp with rfl|hp
  ·show#[Hw _ rfl,I.LJ.fresh hsz,IG<|HN I.lt hsz,I.Wf hsz,λv z=>nomatch z]
  ·ext d8k
theorem xH (X)(A:Ë)(ğ)(scope)(N')(cl:Ã)(f:Addr)(cd:Value)(s:Ê)(H):Cx where
 prog:=X.prog
 w:=X.w
 K:=X.K
 mg:=X.mg
 base:=X.base
 A:=A.deeper a3U
 N:=N'
 s₀:=s
 H₀:=H
 env:=e3f cl
 outer:=X.stack
 stack:=e3f cl::X.stack
 ex:=[]
 fn:=λ_=>false
 calm:=true
 pn:=[]
 xe:=λ_ _=>False
theorem sv (x:V)(js)(σ):St:=some x::js.map λj=>(σ[j]?).join
structure b2V (X:Cx)(scope:Scope)(p:Str)(js:À)(N':η):Prop where
 cs:bD X scope 1 js N'
 hp:N'[0]?=!p
 co:scope.isCoroutine=false
 gen:scope.isGenerator=false
 WZ:∀ x∈scope.names,x.2≠.cell
 par:scope.names.lookup p=!.local
def a6b (c9o)(d0e)(VX:h₁.Ns s.heap.objs.size (λy=>[(p,u)].reverse.lookup y))(hk:∀ b o,s.heap.get? b=!o->h₁.get? b=!o):
  Inv b07 [] ja H { s with heap:=h₁,toks:=t }:=by
 let lk:∀ y c,P7.lookup y=!c->X.env.cells.lookup y=!c:=λy c e=>RW _<|Ja e;let XI:∀ b:Addr,b∉(xH X A ğ scope N' P7 f (.ref c') s H).ex:=λb z=>e3E ė;show#[#[I.ok.mod,S.cs.kind,2,Hi _,λy z c e12=>I.ok.inj y z c (f0T h1)<|f0T h2,λe3G=>?_,λy c hf _=>(Ia hf).elim,λ_=>hA,Around.frames_deeper hfr,.inr #[2],λb z=>absurd z<|XI b,I.bs,e5m I.sz,λb _ _=>XI b,λb z=>absurd z<|XI b,I.stack,I.PN],1,I.bare,Un.kept hk,#[_,VX,λi y v e12 h3=>?_],λy c h=>?_,I.LJ.fresh<|Hi _,λy c h=>I.Nf y c<|f0T h,λe4e=>absurd (show q∈([]) from hq)<|by simp,I.LJ.kept hk,?_]
 ·let hy:=hy;rcases hy with hy|hy
  ·show absurd rfl (S.WZ _<|Ja hy)
  ·let#[c,hc]:=Sv _ (Ja hy) rfl;show cy hc
 ·cases i with
  | zero=>
   let e2:v=x:=by
    let V1:=h2
    cases V1;rfl
   subst e2;let e1:y=p:=by let h1':N'[0]?=!y:=h1;rw[S.hp]at h1';cases h1';rfl
   subst e1;show#[u,r,.inl #[S.par,by simp]]
  | succ i=>
   let V1:(js.map λj=>(σ[j]?).join)[i]?=!_:=h2;rw[Hf]at V1
   cases ej:js[i]? with
   | none=>rw[ej]at V1;cases V1
   | some j=>
    rw[ej]at V1;let Xm:(σ[j]?).join=!v:=by simpa using V1
    let hσ:σ[j]?=!some v:=by
     cases eσ:σ[j]? with
     | none=>rw[eσ]at Xm;cases Xm
     | some o=>rw[eσ]at Xm;simp at Xm;rw[Xm]
    let#[y',EA,_]:=S.cs.cap i j ej;let h1':N'[i+1]?=!y:=h1;let e1:y'=y:=by rw[Nat.add_comm]at a1;rw[a1]at h1';cases h1';rfl
    subst e1;let Xh:=S.cs.free _ a3 rfl;ext d6i;let#[u',r',l]:=hl j y' v a2 hσ<|Xh.elim (λz=>.inr<|.inl z) λz=>.inr<|.inr z;show#[u',r',?_];let#[c0,hc0]:=Sv _ a3 rfl;let#[d,hd]:=cy hc0;let hd2:=f0T hd;rcases l with⟨k1,_⟩|⟨_,c,e,z⟩
    ·rcases Xh with z|z
     ·rw[k1]at z;cases z
     ·rw[k1]at z;cases z
    ·let:d=c:=by rw[hd2]at e;cases e;rfl
     ext d4y;show .inr #[.inr<|S.cs.frl _ a3 rfl,d,hd,z.keeps hk]
 ·let#[v,z]:=I.cell y c<|f0T h;show#[v,z.keeps hk]
 ·change (sv x js σ).length=N'.length;rw[S.cs.len];simp[sv];lia
def c4q (c9o)(QE:A.depth<recursionLimit)(d0e)(hf:(f,kla_obj "<lambda>" ğ params body scope P7 pm c' Ug)∈ñ)(hc:H c'=!mG c' ğ)(Sw:bindArgs (kla_fn "<lambda>" ğ params body scope P7 pm (d9i c') Ug) #[[u],[]]=pure [(p,u)])(he:PE b07 body te)(h:te ja H Q):e19 (call Ci [u]) Ĺ mZ s:=by
 let ho:=(I.pin _<|Hh _ hf).1;let RM:=(I.LJ c' _ hc).1;show KD (kla_callFunE QE ho rfl S.co S.gen rfl RM ?_);rw[Sw];show Hg (wpAny_newFunctionEnv S.WZ (λe3G=>by rw[Hs.mp hy];show S.par) (λh₁ VX hsb=>zm) S.cs.kind)
 ·show (I.nolimit).fresh _ hsb
 ·let hk₁:=λe0z=>hsb.extBut b o Ac<|GW _ e;let J:=a6b (t:=s.toks+[(p,u)].length) (ğ:=ğ) (f:=f) (c':=c') S I RW Sv hA hfr r VX hk₁;show kla_codeExpr<|IC (he [] _ _ H _ J h) (λv s' gR=>?_) λe s' z=>z.elim;let#[y,H',J',ry,q]:=gR;show I.after #[y,H',J'.os,J'.bare,J'.base,J'.LJ,ry,q]
def a7s:bootBuiltins "sorted"=!.builtin "sorted":=by decide +kernel
theorem a2G (sc)(N:η)(scope)(p:Str)(js)(N'):Bool:=
 iR sc N scope 1 js N'&&((N'[0]?==!p)&&((not scope.isCoroutine)&&((not scope.isGenerator)&&(scope.names.all (λx=>x.2 != .cell)&&(scope.names.lookup p==!.local)))))
def mj (hsc)(hN:X.N=N)(h:a2G sc N scope p js N'=true):b2V X scope p js N':=by unfold a2G at h;simp only[IM,JJ,Bool.not_eq_true',Io,bne_iff_ne]at h;let#[AS,h5,h6]:=h;show#[a4C hsc hN h1,h2,AU,h5,h6]
variable {p OF:Pos}{x:Str}{js:À}{P:Addr}{ta:TA}{te:TE}{k:Nat}
inductive c3y (K:Ψ)(P:Addr)(OF:Pos)(ğ:Str)(js:À)(te:TE)(σ:St)(Q:VK)(vs:π)(H1:Hp):∀ (v:V)(xs:π)(ks:Ξ)(J:Ù),vs=[v]->((∃ l,v=.ref l/\LS K H1 l xs))->xs.length<64->ks.length=xs.length->kZ P OF ğ H1->(∀ H2,Sb P H1 H2->kZ P OF ğ H2->J H2)->((∀ (i:Nat) x k,xs[i]?=some x->ks[i]?=some k->∀ H2,J H2->te (sv x js σ) H2 λy H3=>y=.int k/\f' H2 H3/\J H3))->(∀ H2 D (p:À),J H2->Sb P H1 H2->kZ P OF ğ H2->H2 D=none->p.Perm b7H->ZD ks p->Q sr a85)
theorem a7k (d0a):TE:=λd92=>ta σ H λe43=>c3y K P OF ğ js te σ Q vs H1
def yu (d0Z):
  PE X a2M (a7k X.K P OF Ĭ js ta te):=by
 ext d2n;let#[v,xs,ks,J,1,hcv,Sx,hlen,T,hJ,U8,a1u]:=q1;ext d2G;let Vo:∀ (Q':List Value->Shared->Prop)(E':ρ),a2u->e3m s2:=by
  ext d6O
  cases ru;let T5:e5o H2 l xs:=by
   ext d6H
   ·show .inl a43
   ·show .inl a4N
   ·show .inr h1
  ext d3l
 show let G:=λown s'=>∃ H',e6y s'/\J H'/\Sb P H1 H'/\kZ P OF Ĭ H'/\H' c'=!(mG c'<|X.env.qual++"<lambda>")/\ ∀ q∈own,X.s₀.heap.objs.size<=q.1/\∀ r∈X.pn++((f,kla_obj "<lambda>" (X.env.qual++"<lambda>") params body scope cl ((X.mg "__name__").getD .none) c' Ug)::ñ),r.1≠q.1;?_;let SKG:∀ us,e0k us->SK X.prog X.w X.A.in1.in1 (.ref f) us ks G:=λus VI=>by
  show#[λ{own s a o} g hm=>?_,λ{own Vb s} g hs=>?_,λ{own s h' tk} g hk=>?_,λ{own s h' tk a o} g hk hz ho hd=>?_,λ{own s h' a o o'} g ha hb ho hd=>?_,λ{own s i v k} hv hk g=>?_]
  ·ext d4x
  ·ext d71;show#[H',I'.MM λe4e=>?_,j,a1,a2,a3,λe4e=>a4 q<|hs q hq];rcases Hx.mp hq with z|z
   ·show I'.pin q b8U
   ·ext d7L
  ·ext d5F
  ·ext d71;ext d3S;show#[c5N]
   ·rcases Hr.mp (hq) with rfl|z
    ·ext d4o
    ·show I''.pin q nN
   ·rcases Hr.mp hq with rfl|z
    ·ext d2R
    ·show a4 q z
  ·ext d71;ext d29;let I1':e9d H' { s with heap:=h',toks:=s.toks }:=e4P (λy c e z=>by
     ext d3t;show p5 _ q2) (λe4e=>by
     rcases Hx.mp hq with z|z
     ·ext d72
     ·rcases Hx.mp z with z|z
      ·show ha q z
      ·show (a4 _ Ha).2 q nN)
   show#[c5O]
   ·rcases Hr.mp (hq) with rfl|z
    ·show#[ho,p2,p3,p4,hd]
    ·show I1'.pin q nN
   ·rcases Hr.mp hq with rfl|z
    ·show a4 (a,o) Ha
    ·show a4 q (Hk _ z)
  ·ext d71;ext d8H;show M8 (e1t c2y
    (f1n _<|QE.deeper _) (U8 i xv _ hx hk H' j)) fun y s' ⟨z,H3,I3,rz,ez,sm,j3⟩=>?_
   subst ez;let#[t,1]:=rz;show#[t,1,c32]
 show c5E SKG (λus VI=>by rw[<- VI.length];show hlen) #[] Vo #[c5P,λe4e=>nomatch hq] λs' us D out c VI g ko=>?_;ext d71;ext d2d
 ext d2q
 ·rw[GP,q1.length_eq,HL,Ir]
  lia
 ·simpa using p1
open e
structure b4K (mg:Ω)(base:Heap)(fd:È)(P:Addr):Prop where
 code:∃ c,fd.code=.ref c/\CodeHd base c P
 bm:Bm mg base
def OT.okL (c92){k:Nat}(c7f)(d0b)(S:e9V jp)(len)(O7:∀ (Lz:Value)(A:Ë)(outer:List Env)(s:Ê)(H:Hp)(vs:π)(Q:VK)(E:XK),B3 (e0u E).Uv Pt->LL k ĕ->e09 E->
   ∃ t,Q2 (e0u E).Uv yG t/\t { nx:=λ_ H'=>e2y H',rt:=Q } Ų H):d98 sp:=by
 ext d6T;show a2f lk RM S len λA outer s H vs Q E hr UY=>?_;let#[t,h,q]:=O7 Lz A outer s H vs Q E #[L.code,L.bm] hr UY;show#[t,h.Uv,q]
structure EM (P1 P2:Addr)(H:Hp):Prop where
 t1:H P1=!.tbl [].toArray
 t2:H P2=!.tbl [].toArray
 rest:∀ b,H b=none \/ (∃ o xs,H b=!.frz o Cy) \/ b=P1 \/ b=P2
def b48 {K:Ψ}{k:Nat}(KX:K.In s₁.heap)(VX:s₁.heap.Ns mainGlobals mg)(hb:s₁.heap.Ns builtinsNs mb)(hbb:∀ x:Str,x≠"__name__"->mb x=bootBuiltins x)(a9k:s₁.heap.NoLimit)(hg:s₁.gens=[].toArray)(hbm:Bm mg s₁.heap)(T1:e2B c1 P1/\s₁.heap.get? P1=!tabObj [].toArray)(T2:e2B c2 P2/\s₁.heap.get? P2=!tabObj [].toArray)(K1:K.lookup P1=none)(K2:K.lookup P2=none)(ha:s₁.heap.get? a=!{ cls:=.type "list",data:=.seq vs.toArray })(hi:e5q ns)(hl:ns.length<=sizeLine)(hr:LL k callerA)(F:∀ base:Heap,K.In base->e1P mg->Bm mg base->e4Q c1 P1->e4Q c2 P2->d9Z CX k fa fd [x] sp)(Sw:∀ (s:Ê)(u:Value),e6M #[[u],[]] [(x,u)])(UY:∀ H:Hp,EM P1 P2 H->e0W Ķ->sp Ty H b97 λe05=>False)(hCX:∀ H e s',CX [] H s₁ c2z e s'->False):
  codeAny Ů callerA DW c4l s₁:=by
 let rv:=a2i hi;let a8s:=hi.length;let XJ:a≠P1:=λz=>by rw[z,T1.2]at ha;cases ha
 let na2:a≠P2:=λz=>by rw[z,T2.2]at ha;cases ha
 let core:∀ H:Hp,EM P1 P2 H->e0W Ķ->e6I H s₁.heap->(∀ b,H b≠none->b=a\/b=P1\/b=P2)->(H a≠none->K.lookup a=none)->
   codeAny Ů callerA DW (λr s'=>r=.ok (.ret<|.bool true)/\OldK s₁.heap s'.heap/\s'.os=s₁.os/\AllBare s'.gens) s₁:=by
  intro H hO hS LJ hA hK;let RZ:∀ {b:Addr}{o:Obj},s₁.heap.get? b=!o->H b=none->(pH s₁.heap H).get? b=!o:=λe n=>b6p e n;let XI:∀ {b:Addr}{o:Obj},s₁.heap.get? b=!o->o.cls≠.none->o.cls≠.type "list"->H b=none:=λ{b o} e d1 d2=>by
   cases q:H b with
   | none=>rfl
   | some u=>
    ext d3m
    ·rw[e',ha]at e;cases e;show absurd rfl d2
    ·rw[e',T1.2]at e;ext d8l
    ·rw[e',T2.2]at e;ext d8l
  let noD:∀ {b:Addr}{o:Obj}{es:Ò}{ep:Nat},s₁.heap.get? b=!o->o.data=.dict es ep->H b=none:=λ{b o es ep} e d=>by
   cases q:H b with
   | none=>rfl
   | some u=>
    ext d3m
    ·rw[e',ha]at e;cases e;cases d
    ·rw[e',T1.2]at e;cases e;cases d
    ·rw[e',T2.2]at e;cases e;cases d
  let nsK:∀ {b:Addr}{m:Ω},s₁.heap.Ns b m->(pH s₁.heap H).Ns b m:=λ{b m} gR=>by let#[Pk,e,d,r]:=gR;show#[o,es,ep,RZ e<|noD e d,d,r]
  let hKb:=λe0z=>RZ (KX b o e) (by
   cases q:H b with
   | none=>rfl
   | some u=>
    ext d3m
    ·rw[e']at e q;rw[hK (by rw[q];simp)]at e;cases e
    ·rw[e',K1]at e;cases e
    ·rw[e',K2]at e;cases e)
  let hM:Mod K mg ED:=#[hKb,nsK VX,#[mb,nsK hb,hbb],let ⟨mc,h1,h2⟩:=a9k;#[mc,nsK h1,h2]]
  let a9M:Bm mg ED:=let ⟨bm,ob,b1,b2,b3,b4,r⟩:=hbm;#[bm,ob,b1,b2,RZ b3 (XI b3 (by rw[b4];show λz=>nomatch z) (by rw[b4];decide)),b4,r];let RM:∀ {c Pt:Addr},e2B c Pt->CodeHd ED c Pt:=λgR=>by let#[c4S,VV,r]:=gR;show#[c4S,RZ e1 (XI e1 (by rw[e2];show λz=>nomatch z) (by rw[e2];decide)),e2,r]
  let e0:Vy P w K mg ED callerA [] s₁ H:=#[1,hM,λe0z=>b5R e,Kt<|b59 _ _,trivial,λe3b=>absurd (show b∈([]:υ) from hb)<|by simp,LJ,.of_eq hg]
  show K6 ((F _ hKb (nsK VX) a9M (RM T1.1)<|RM T2.1).run callerA [] s₁ H #[Ty,[]] Ty Ty _ _ hr e0 (Sw s₁<|.ref a) nv<|UY H hO hS) λr s' h=>?_
  cases r with
  | error e=>show (hCX H e s' h).elim
  | ok fl=>
   cases fl with
   | next=>ext d75
   | brk=>ext d75
   | cont=>ext d75
   | ret u=>
    let#[v,H',os,bare,un,a4z,r',q]:=h;let q':=q;subst q';obtain rfl:u=Value.bool true:=r';let tab:∀ {c b:Addr}{o:Obj},e2B c b/\s₁.heap.get? b=!tabObj [].toArray->H b=!.tbl [].toArray->s₁.heap.get? b=!o->e4R o/\∃ o',s'.heap.get? b=!o':=λ{c b o} T q e=>by let#[more,e1]:=un.RF b [].toArray q;let e2:=a4z b _ e1;rw[T.2]at e;cases e;show#[.inr<|.inl #[(T.1.tab T.2).isCodeTable,1,[].toArray,more,1,e2],_,e2]
    let old:∀ b o,s₁.heap.get? b=!o->e4R o/\∃ o',s'.heap.get? b=!o':=λe0z=>by
     rcases hO.rest b with z|⟨ob,xs,z⟩|z|z
     ·let:=un.keep b o e z (by intro z;show absurd (show b∈([]:υ) from z)<|by simp) ė;show#[.inl this,o,this]
     ·let z2:=un.Rb b ob _ z;let#[e1,_]:=LJ b _ z;let#[e2,_]:=a4z b _ z2;rw[e]at e1;cases e1;show#[.inl e2,o,e2]
     ·subst z;show tab T1 hO.t1 e
     ·subst z;show tab T2 hO.t2 e
    show#[1,#[λe0z=>(old b o e).1,λe0z=>(old b o e).2],os,bare]
 let tbl:∀ {b:Addr}{H:Hp},s₁.heap.get? b=!tabObj [].toArray->e3P H s₁.heap b g8:=λe=>e
 cases hk:K.lookup a with
 | some o=>
  let e:=KX a o hk;rw[ha]at e
  cases e;show let H:Hp:=λb=>if b=P1\/b=P2 then some g8 else none;?_
  let h1:H P1=!.tbl [].toArray:=if_pos<|.inl rfl;let h2:H P2=!.tbl [].toArray:=if_pos<|.inr rfl;let h3:∀ b,H b≠none->b=P1\/b=P2:=λb z=>by
   by_cases c:b=P1\/b=P2
   ·show c
   ·show absurd (if_neg c) z
  show core H c2A (.inr #[_,vs.toArray,_,hk,3,by rw[Ik,a8s];show hl,by simpa using rv]) (λb u z=>?_) (λb z=>.inr<|h3 b z) λz=>?_
  ·by_cases c:b=P1\/b=P2
   ·show .inr (.inr c)
   ·show .inl (if_neg c)
  ·rcases h3 b (by rw[z];simp) with c|c
   ·ext d5w
   ·ext d5O
  ·rcases h3 a z with c|c
   ·show absurd c XJ
   ·show absurd c na2
 | none=>
  show let H:Hp:=λb=>if b=a then some (.frz { cls:=.type "list",data:=.seq vs.toArray }<|.lst Ķ) else if b=P1\/b=P2 then some g8 else none;?_
  let h0:H a=!(.frz { cls:=.type "list",data:=.seq vs.toArray }<|.lst Ķ):=if_pos rfl;let h1:H P1=!.tbl [].toArray:=(if_neg<|Ne.symm XJ).trans<|if_pos ĵ;let h2:H P2=!.tbl [].toArray:=(if_neg<|Ne.symm na2).trans<|if_pos (.inr rfl);let h3:∀ b,H b≠none->b=a\/b=P1\/b=P2:=λb z=>by
   by_cases c0:b=a
   ·show .inl c0
   ·by_cases c:b=P1\/b=P2
    ·show .inr c
    ·show absurd b4h z
  show core H c2A (.inl<|.inr ⟨{ cls:=.type "list",data:=.seq vs.toArray },h0⟩) (λb u z=>?_) h3 λ_=>hk
  ·by_cases c0:b=a
   ·rw[c0];show .inr (.inl #[_,_,h0])
   ·by_cases c:b=P1\/b=P2
    ·show .inr (.inr c)
    ·show .inl b4h
  ·rcases h3 b (by rw[z];simp) with c|c|c
   ·rw[c,h0]at z;cases z;rw[c];show#[ha,by rw[GP];show hl,vs,_,rv,ha]
   ·ext d5w
   ·ext d5O
def WK {l:W.OpenLaw}{n k:Nat}{K:Params->Ψ}{sp:W.Frag->Addr->Addr->Sp}{x1:Str}(hn:l.most=!n)(hn2:n<=sizeLine)(hdf)(hr:LL k callerA)(hY)(r1:(recsOf q).find? (λe=>e.name==x1)=!d1)(r2:(recsOf q).find? (λe=>e.name==x2)=!d2)(F:∀ (w:World)(mg:Ω)(fa:Addr)(h:Heap),(K w.params).In h->e31 mg->mg d.name=!.ref fa->
   ∃ (fd:È)(c1 P1 c2 P2:Addr),(∀ (s:Ê)(u:Value),e6M #[[u],[]] [(x,u)])/\tabIn mP x1=!(c1,P1)/\tabIn mP x2=!(c2,P2)/\P1≠P2/\(K w.params).lookup P1=none/\(K w.params).lookup P2=none/\
    ∀ base:Heap,(K w.params).In base->e1P mg->Bm mg base->e4Q c1 P1->e4Q c2 P2->e6m CX k fa fd [x] (sp mP P1 P2))(UY:∀ (K:Ψ)(P1 P2:Addr)(H:Hp)(a:Addr)(ns:Ξ),P1≠P2->ns.length<=n->EM P1 P2 H->e0W Ķ->sp K P1 P2 Ty H b97 λe05=>False)(hCX:∀ (H:Hp)(s:Ê)(e:Value)(s':Ê),CX [] H s c2z e s'->False):
  W.WalkO q loose XP YP l.row.toRowW d [] zB:=by
 show Att.UR hn hdf λw s₀ s₁ mg mb fa o pm cd doc a vs ns G Y ho hd RM hmg a1m hints hlen hg=>?_;let KX:=hY w _ Y;let#[fd,c1,P1,c2,P2,hb,t1,t2,ne,k1,k2,hF]:=F w mg fa _ KX G.T.g hmg;show b48 KX G.T.g G.T.b G.T.builtins G.T.nolimit hg G.T.bmain (tab_of G.T KX r1 t1) (tab_of G.T KX r2 t2) k1 k2 a1m hints (HE hlen hn2) hr hF hb (λH hO hS=>UY _ P1 P2 H a ns ne hlen hO hS) λH e s'=>hCX H s₁ e s'
universe L2
namespace K72
open PySem L2
open PyProof.Rows (boot_all boot_bool boot_dict boot_int boot_list boot_sorted boot_str boot_tuple)
theorem lpR:Pos:=⟨397,28,397,54⟩
theorem lqR:Str:=("run":Str)++".<locals>."++"<lambda>"
def dFd (Dd:e2E uR/\∀ F,LO F dl dvs)(hr)(d0Q):e7H (tP (rF zo rs)):=(De Dd.1 hr hg ha OO he Oi).imp λd92 h=>NO.call Dd.2 h
def c2L (c9O):e0Q jB:=h F0 H0
def tQ.nx (S)(h:r ε sK)(k:∀ σ' H' F',f' F F'->f00 σ' H' ε'->E.nx σ' H'):e4S H:=#[EL,_,S,h,k]
def tQ.ex {I:Ú}(S)(h:∃ ε',r ε sK/\I ε')(k:∀ ε' σ' H' F',I ε'->f' F F'->f00 σ' H' ε'->E.nx σ' H'):e4S H:=let ⟨ε',h1,h2⟩:=h;#[Bv,λe3O=>k ε' σ' H' F' h2 u S']
structure sH (mg:Ω):Prop where
 QA:mg "sorted"=none
 Mm:mg "enumerate"=none
theorem rB (d0H)(rd)(g:Str)(z):Int×D:=((z.2:Int)+L g,.tup [.int ((z.2:Int)+L g),.str g,.int (z.2:Int),rd g z.1])
theorem cg (gs:η)(d0H)(rd):List (Int×D):=gs.flatMap λg=>msgs.zipIdx.map iS
def c4L:cg (gs++[g]) msgs L rd=e2Y L rd++msgs.zipIdx.map iS:=by ext1 cg;ext d7t
def Key:∀ {gs:η},(e2Y L rd).length=gs.length * msgs.length
 | []=>by simp[cg]
 | g::gs=>by let ih:=Key (msgs:=msgs) (L:=L) (rd:=rd) (gs:=gs);unfold cg at ih ⊢;rw[J7,Ho,ih,GP,J3,HM,K7,Nat.add_comm]
variable {c:Cl}{C:Addr}
structure Lam (c:Cl)(c7j)(c9d)(c9E)(d0w)(d0H)(J:Str->D)(cs:List Int->Cs)(rd:Str->List Int->D):Prop where
 judge:Ny c fK b2X b2Y
 late:eO c fK kP (cB ns L)
 LW:∀ g∈S.LW,g∈ns/\g∈S.names
 lnd:S.LW.Nodup
 RU:ns.Nodup
 a7w:∀ msg∈msgs,SH c fK [Eo,rw msg,.int p,.non] (Uh (cs msg))
 read:∀ g∈S.LW,∀ msg∈msgs,TF C [fD C p,J g,rw (S.into g),Uh (cs msg)] (rd g msg)
 MN:S.LW.length * msgs.length<64
 mz:msgs.length<=60
 tz:S.Ls.length<=1000
 pz:S.Lv.length<=1000
 p1:p<=1000000
 hP:My.O5 p=true
inductive tu (c:Cl)(C Pt:Addr)(c8p):Prop
 |mk (F:Hp) (S:NS) (ns:η) (ř:List bC) (m:Nat) (p:Int) (msgs:Θ) (L:Str->Int) (J:Str->D) (cs:List Int->Cs) (rd:Str->List Int->D):LO F [Eo,.int m,.int p,tb msgs] vs->f' F (ay Pt H)->kZ Pt lpR lqR H->Lam c C S ns ř m p msgs L J cs rd ->
   (∀ x H' q,Sb Pt H H'->kZ Pt lpR lqR H'->q.Perm (List.range (cg S.LW msgs L rd).length)->ZD ((cg S.LW msgs L rd).map (·.1)) q->DR (grow F (ay Pt H) (ay Pt H')) (.lst (q.map λi=>((cg S.LW msgs L rd).map (·.2)).getD i .non)) x->Q x H')->tu c C Pt vs H Q E
def c5u:au [zC,"messages","judgements","field","late","rounds","told","listener","into","turn","carries","message"] ì (d8Z 70):=Pa
def a0H (F:Fu K "run" (top 70) f fd)(d0b)(T:sH mg)(NZ:e9e 8 "judged" à E8 (d9I Ny)/\∀ F,LO F E8 E8)(LX:Dk P w K mg base 2 "Field" C î (cM C))(Nm:e2z 3 "lateness" ["net"] (d9I eO))(Um:e9e 5 "sent" ë E8 (d9I SH)/\∀ F,LO F E8 E8)(MA:Dm P w K mg base 2 c.Mg "into" Ý b9Q)(Oc:e2z 5 "read_message" b1o (d8M TF)):d9Z N5 9 f fd ì (tu c C Pt):=by
 show F.okL L c5u Y7 b1p
 ·let#[c45,_]:=h;show hv.length
 ·let#[c45,sF,tab,O,q]:=h;let ND:=c5u.nd;ext d76;show#[_,(af (d8R qs 5 (dFd NZ hr.m rfl<|e0B w4))
   (af (d8R qs 6 b3N)
   (af (d8R qs 7 (dF Nm hr.m rfl<|e0B LB))
   (af (e3B (XH (K:=K) (n:=0) (aW (i:=8) ND rfl rfl rfl (cS 1 [0,1,3] ["message","net","plan","prime"]) (aD<|Đ 4)
  Ĕ
  P6
  (λd94=>dFd Um hr.m rfl<|e0f (da (Đ 2)<|e0B ź))) rfl))
   (af (d8R qo 9 (de LB))
   (af (e3B (e0r zY (pN 10 ND) (aN 10)
  (qC (d9u qs 11 MA (da sg LB))
 (q1 (e0V (f0x T.Mm<|da (Đ 8) LB) (bX K (n:=2) rfl<|ag xO c0T) (dU K [12,13])
  (qC (qs 14 ND<|dF Oc hr.m rfl (da (Đ 6)<|da (ME hr (Đ 5)<|Đ 10) (da (Đ 11)<|da (Đ 13) LB)))
 (q1<|qA (aE<|e9C Sk (a9 (kL<|da (RY (Đ 12)<|ME hr (Đ 7) sg) (da sg<|da (Đ 12) (da (Đ 14) LB))) K')) (λe0c=>h))))))))
   (aq (bo (yu (k:=1) (x:="reading") (js:=[]) (N':=["reading"]) hr.m rfl rfl T.QA a1C b5h (d9n Sk)
  (λe1d hr=>pI (z4 K) EB aG) (λd94 _=>rfl) rfl))))))))),?_]
  let tl:∀ i,(e2v rd).length<=64:=λi=>by rw[Key,Hl];let:=KO msgs.length<|e8C S.LW.length;let:=O.MN;omega
  let lz:S.LW.length<=1000:=by let:=O.pz;ext1 NS.LW;rw[GP];show HE wT this
  show av λZ hZ=>?_;show tQ.nx (jD _ sFH hv) #[#[5],O.judge] λσ1 H1 F1 u1 S1=>?_;show hZ ĉ xp;show tQ.nx S1 #[#[2],O.p1,O.hP,1] λe5k F2 u2 S2=>?_;show hZ ĉ xp;show tQ.nx S2 #[#[2],O.late] λσ3 H3 F3 u3 S3=>?_;show hZ ĉ xp;show tQ.nx S3 #[be (xs:=msgs) (u:=rw) (h:=λmsg=>Uh<|cs msg) ⟨rfl,.l .lst⟩ (by let:=O.mz;omega) λmsg hm=>#[_,1,#[5],O.a7w msg hm]] λσ4 H4 F4 u4 S4=>?_;show hZ ĉ xp;show tQ.nx S4 oE λσ5 H5 F5 u5 S5=>?_;show hZ ĉ xp;show tQ.ex S5 (lH S.LW (u:=.str) (λi ε=>∃ OM OK Pe Pb To,ε=[.fz<|aK c S,.fz<|bc ř,.fz<|.int m,.fz<|.int p,.fz<|tb msgs,.fz<|MP (S.LW.map λg=>gc),.fz<|fD C p,.fz<|cB ns L,.fz<|.lst (msgs.map λmsg=>Uh<|cs msg),.ow<|.lst ((e2v rd).map (·.2)),OM,OK,Pe,Pb,To]) ⟨_,_,_,_,_,rfl⟩ ⟨rfl,yS.m⟩ (λi e8c=>?_)) λe9n=>?_
  ·let#[E4,To,he]:=gR;subst he;let gm:=GY hg;let#[sV]:=O.LW g gm;let t1:=tl<|i+1;rw[aP hg,c4L,Ho,GP,J3]at t1;show⟨_,rfl,pV ⟨rfl,by decide,⟨rfl,rfl⟩,⟨O.tz,g2⟩⟩ (f1o (u:=λz=>.tup [.int (z.2:Int),Uh<|cs z.1]) (λj ε=>∃ Pe Pb To,ε=[.fz<|aK c S,.fz<|bc ř,.fz<|.int m,.fz<|.int p,.fz<|tb msgs,.fz<|MP (S.LW.map λg=>gc),.fz<|fD C p,.fz<|cB ns L,.fz<|.lst (msgs.map λmsg=>Uh<|cs msg),.ow<|.lst b5N,.fz<|.str g,.fz<|rw (S.into g),Pe,Pb,To]) ⟨_,_,_,by rw[Jt,J0,HF];rfl⟩ ⟨_,⟨rfl,rfl⟩,?_⟩ (λj e8b=>?_) λε' gR=>?_)⟩
   ·rw[KZ,GV];rfl
   ·let#[Pe,Pb,To,he]:=gR;subst he;let hz':=hz;rw[J4]at hz;let#[msg,h1,1]:=HI.mp hz;let jm:=(GS.mp h1).1;let mm:=GY h1;show#[_,#[_,3],pV #[#[1,#[2,.k (bY (e1X (by rw[Jw];show O.lnd))<|Hm gm) kS],3],O.read g gm msg mm] ⟨_,⟨rfl,?_,.z ⟨⟨⟨rfl,⟨rfl,rfl,.k (bY (e1X (by rw[Jw];show O.RU))<|Hm g1) kS⟩,.i⟩,rfl,rfl,rfl,rfl⟩,by simp,rfl⟩⟩,.fz<|.int ((0+j:Nat):Int),.fz<|Uh (cs msg),.fz<|rd g msg,?_⟩]
    ·rw[GP,Ho,GP,Hl];omega
    ·let e:((e2v rd++(msgs.zipIdx.take<|j+1).map iS).map (·.2))=b5N++[(rB msgs L rd g (msg,0+j)).2]:=by rw[aP hz'];simp
     rw[e];rfl
   ·let#[Pe,Pb,To,he]:=gR;subst he;show#[.fz<|.str g,.fz<|rw (S.into g),Pe,Pb,To,?_];rw[HJ,aP hg,c4L]
  let#[E4,To,1]:=hI;rw[HJ]at S6;let tz:(cg S.LW msgs L rd).length<64:=by rw[Key];show O.MN
  let ek:∀ e∈cg S.LW msgs L rd,∃ l,e.2=.tup (.int e.1::l):=λe he=>by let#[g,_,hg]:=Jr.mp he;let#[z,_,1]:=GX.mp hg;show#[_,1]
  generalize cg S.LW msgs L rd=es at S6 q tz ek;let#[a,sa,Fa,_,vs,ha,Ql]:=S6.ro 9 _ rfl;let vl:=Ql.length;rw[GP]at vl;let ZZ:=tab.same S6.b0;let FP:F6 Pt=none:=by
   cases z:F6 Pt with
   | none=>rfl
   | some o=>
    ext d2y
  show hZ ĉ ?_;show#[_,sa,.ref a,vs,es.map (·.1),Sb Pt H6,1,#[a,1,LS.of ha],#[0],by rw[GP];show vl.symm,ZZ,λG sb _=>sb,λi x k hx hk G jG=>?_,λe8M=>?_]
  ·rw[Hf]at hk;let#[e,he,1]:=HI.mp hk;let#[l,el]:=ek e<|GY he;let#[v,ZL]:=Ql.at (show (es.map (·.2))[i]?=some e.2 by rw[Hf,he];rfl)
   rw[hx]at h1;cases h1;rw[el]at h2;let#[t,us,1,ht,_,ws,2,_]:=h2;let nt:t≠Pt:=λz=>by rw[z,FP]at ht;cases ht
   show#[_,1,t,_,(0),_,2,NC.of<|jG _ _ nt (f0U ht),cT (j:=0) rfl,1,f'.refl _,jG]
  ·let Hd:∀ b o,b≠Pt->H6 b=!o->b≠d/\upd G d b3e b=!o:=λe3p=>by let:=sb b o nb hb;let nd:=aj this hD;show#[nd,by rw[aa nd];show this]
   let dP:d≠Pt:=λz=>by let#[Fo]:=tb;rw[<- z,hD]at hP;cases hP
   let H6d:H6 d=none:=by
    cases z:H6 d with
    | none=>rfl
    | some o=>show absurd rfl (Hd d o dP z).1
   let Hdn:H d=none:=S6.b0.free H6d;rw[vl]at pm;show q ĉ p (λe3p=>(f0V nb<|S6.b0 _ _ hb).2) (tb.same<|f1k hD) pm so ⟨d,_,rfl,?_,(qc Ql (λi hi=>by rw[GP];show Ig.mp<|pm.mem_iff.mp hi)).mono λe3o=>?_⟩
   ·rw[aF (by rw[aA dP];show Hdn),aA dP,ai]
   ·let nb:b≠Pt:=λz=>by rw[z,FP]at hb;cases hb
    let lo:=S6.lo ĉ hb;unfold grow at lo ⊢;rw[aA nb,aA nb];by_cases z:H b=none
    ·rw[if_pos z]at lo ⊢;show (f0V nb lo).2
    ·rw[if_neg z]at lo ⊢;show lo
open e
universe K72
namespace L2.Rn
open PySem L2
abbrev T4:=Int×Str×Str×Int
variable (T:List T4)(vf:Cm->Str->T4->Int)
theorem Po (ts:List T4)(c72)(x):Int:=Yb a6H
open e
variable {T:List T4}
structure Tk (T:List T4)(ord:η)(c72):Prop where
 nd:(T.map (·.1)).Nodup
 WX:ord.Nodup
 up:∀ t∈T,∃ u v:Nat,u<v/\ord[u]?=!t.2.1/\ord[v]?=!t.2.2.1
 pos:∀ t∈T,0<=t.2.2.2
 late:∀ x∈ord,L x=Po T L x
open e
universe L2.Rn
namespace K72
open PySem L2
open PyProof.Rows (boot_all boot_any boot_bool boot_dict boot_int boot_list boot_sorted boot_str boot_tuple)
def WhR (h0:0<=i)(h:i<xs.length):∃ v,xs[i.toNat]?=!v/\RC xs i=!v:=by
 let hj:i.toNat<xs.length:=#[0]
 show#[xs[i.toNat],GR hj,?_];let:=cT<|GR hj;rwa [Int.toNat_of_nonneg h0]at this
structure c4H (mg:Ω):Prop where
 Ma:mg "len"=none
 Mb:mg "range"=none
 Q9:mg "list"=none
 Mm:mg "enumerate"=none
 Z4:mg "int"=none
 Oo:mg "zip"=none
 Z2:mg "sum"=none
abbrev B9:Int:=(10:Int) ^ (9:Int).toNat
theorem ze:Nat->Int->Ξ
 | 0,_=>[]
 | n+1,x=>if 0<x then x % B9::ze n (x / B9) else []
theorem yM:Nat->Int->Int->Ξ
 | 0,_,_=>[]
 | n+1,k,x=>x * c00 % 2147483647::yM n (k+1) (x * c00 % 2147483647+1)
def a8j:∀ n k x,(yM n k x).length=n:=by
 intro r'
 induction r' with
 | zero=>
  ext d7f
 | succ n ih'=>
  intro k x;ext1 yM;rw[HM,ih']
def b2W:∀ n x,(ze n x).length<=n
 | 0,_=>Hi _
 | n+1,x=>by
  ext1 ze;split
  ·simp_all [HM,b2W]
  ·show HP _
theorem xA (c:Int)(m):Ξ:=if c % 2=0 then ze m (c / 2) else []
theorem cv (c:Int)(m):Ξ:=(xA c m++yM m 0 b18).take m
def c4R (c:Int)(m):(cv c m).length=m:=by ext1 cv;rw[Hl,Ho,a8j];omega
variable {c:Cl}
def a6g:au ú ú (d8Z 96):=Pa
inductive gZ (K:Ψ)(c8p):∀(a:Addr) (k:Int) (ns:Ξ),vs=[.ref a,.int k]->0<=k->LS K H a Ķ->(∀ c:Int,Q (.int c) H)
def c1f [Bx:Bd](d0r):Tk 1 "_law_cell_at" (top 96) ú (gZ Bx.K):=by
 ext d2P;show F.k a6g λe2C=>?_
 ·let#[a,k,ns,1,hk,hS,q]:=h;show#[_,(af (fm (pT gL Gf<|e6x boot_len (d9n EB))
  (d9R (pI Ś EB<|pv 1))
  ML)
 (d9R aG)),?_]
  show#[CJ,a,_,1,.inl hS,yi,1,?_];show ku (λhc=>?_) (λhc=>?_)
  ·let hc:=HA hc;let#[v,ev,e]:=WhR hk hc;rw[Hf]at ev
   cases hn:ns[k.toNat]? with
   | none=>rw[hn]at ev;cases ev
   | some z=>
    rw[hn]at ev;let:v=.int z:=by simpa using ev.symm
    ext d4y;show#[CJ,a,_,k,_,2,hS,e,q z]
  ·show q 0
inductive b8p:Ä
 |mk {c:Int}{m:Nat}:m<=100->b8p [.int c,.int m] (rw (cv c m))
def b9C [Bx:Bd](d0r):Tk 1 "_law_stream" (top 97) ù (Pr b8p):=by
 show Nh ["_law_found","_law_number","_law_k"] ?_ λd9W=>(qC Dy
 (qC (qs 3 ND<|e6b (Đ 0) dI)
 (qC (qW Hq (PW.pt<|xG (d9b (e0F (Đ 0) dI)) (xG (e6e (Đ 3) dI)<|fj (e39 (d85 2)<|Đ 1)))
  (qC (qA (aE<|d93 Gk (a9 (e0F (Đ 3)<|dO a0N NR dI dI) K')) λe0c=>h)
 (d9r 3 (e6b (Đ 3)<|dO a0N NR dI dI))))
 (qC (qs 3 ND<|e0F (e1T (RY l4 dI) dI) dI)
 (qC (e0V DQ lK (aN 4)
  (qC (qs 3 ND<|e0F (e1T (Đ 3)<|RY (RY (e6b (Đ 3) dI) dI) (Đ 4)) dI)
 (qC (qA (aE<|d93 (pv 2) (a9 (Đ 3) K')) λe0c=>h)
 (d9r 3 (f0m dI)))))
 (qr<|Zv (Đ 2) Zt (Zs<|Đ 1)))))))
 rintro _ _ @⟨c,m,hm⟩;show .nx oE (.nx #[xS] ?_);show fH (b:=(([]:Ξ),c / 2)) (λb ε=>(c % 2=0->b.1++ze (m - b.1.length) b.2=ze m (c / 2))/\(c % 2≠0->b.1=[])/\∃ o4,ε=[.fz<|.int c,.fz<|.int m,.ow<|rw b.1,.fz<|.int b.2,o4]) (λb=>m - b.1.length) #[λ_=>rfl,λ_=>rfl,_,1] λb ε h=>?_;let#[l,x]:=b;let#[ZL,o4,1]:=h;dsimp only at h1 h2 ⊢;let r1:=eq_int (ε:=[some<|.int c,some<|.int m,some<|rw l,some<|.int x,o4.a]) (ra:=e0x jH<|rC (.int 2)) (rb:=rC<|.int 0) #[2,xJ] rfl;let r2:=gt_int (ε:=a6e) (ra:=rV 3) (rb:=rC<|.int 0) rfl rfl;let r3:=lt_int (ε:=a6e) (ra:=rF OP<|rA jd Uu) (rb:=rV 1) Dr rfl;by_cases c0:c % 2=0/\0<x/\l.length<m
 ·let#[c1,c2,c3]:=c0;rw[Hb c1]at r1;rw[Hb c2]at r2;rw[Hb<|by omega]at r3;show .inr #[.t r1<|.t r2 r3,(l++[x % B9],x / B9),_,.nx ⟨rfl,by simp;omega,.z ⟨rfl,⟨rfl,rfl,⟨⟨by decide,by decide,by decide⟩⟩⟩,⟨by decide⟩⟩⟩ ⟨⟨rfl,⟨rfl,rfl,⟨⟨by decide,by decide,by decide⟩⟩⟩,⟨⟨by decide,by decide⟩⟩⟩⟩,⟨λz=>?_,λz=>absurd c1 z,o4,?_⟩,by simp;omega]
  ·let e:m - l.length=(m - (l++[x % B9]).length)+1:=by simp;omega
   rw[<- h1 c1,e,Ib];change _=l++(if 0<x then _ else _)
   rw[if_pos c2];rfl
  ·rw[show rw (l++[x % B9])=.lst (l.map .int++[.int<|x % B9]) from congrArg D.lst He];rfl
 ·show .inl zm
  ·by_cases c1:c % 2=0
   ·rw[Hb c1]at r1;by_cases c2:0<x
    ·rw[Hb c2]at r2;rw[GZ λz=>c0 #[c1,c2,#[0]]]at r3;show .t r1 (.t r2 r3)
    ·rw[GZ c2]at r2;show .t r1 (.f r2)
   ·rw[GZ c1]at r1;show .f r1
  let hl:l=xA c m:=by
   ext1 xA;by_cases c1:c % 2=0
   ·rw[if_pos c1,<- h1 c1]
    cases e:m - l.length with
    | zero=>show (HF _).symm
    | succ n=>rw[show ze (n+1) x=[] from if_neg λz=>c0 #[c1,z,#[0]],HF]
   ·rw[if_neg c1];show h2 c1
  show .nx #[#[#[#[xS,1,.i],1,#[.inr Gj]],1,xJ]] ?_;let hz:=b2W m<|c / 2;let dl:(xA c m).length<=m:=by ext1 xA;split;show hz;show HP _
  show cZ ve (u:=λ(i:Nat)=>.int (i:Int)) (λi ε=>∃ ys y o4,ε=[.fz<|.int c,.fz<|.int m,.ow<|rw (xA c m++ys),.fz<|.int y,o4]/\ys.length=i/\0<=y/\y<=2147483647/\ys++yM (m - i) i y=yM m 0 b18) #[[],_,o4,by rw[hl,HF];rfl,1,Ij _<|by decide,Int.le_of_lt<|HV _ (by decide),1] ⟨m,#[0],⟨rfl,rfl⟩,(bK _).symm⟩ (λi z ε hi h=>?_) λε h=>?_
  ·let#[ys,y,o4,1,yl,y0,y1,ym]:=h;let#[1,Zk]:=jT hi;show#[_,1,_,.nx #[#[#[1,#[#[xS,1,.i],1,.i],D6],1,xJ]]<|.nx #[1,by simp;omega,.z rfl] #[2,.i],ys++b8W,y * XV % 2147483647+1,.fz<|.int i,?_,by simp[yl],?_,?_,?_]
   ·rw[<- Ib,show rw (xA c m++ys++b8W)=.lst ((xA c m++ys).map .int++[.int<|y * XV % 2147483647]) from congrArg D.lst He];rfl
   ·let:=Ij (y * XV) (show (2147483647:Int)≠0 by decide);omega
   ·let:=HV (y * XV) (show (0:Int)<2147483647 by decide);omega
   ·rw[<- ym,Ib,show m - i=(m - (i+1))+1 by omega];rfl
  ·let#[ys,y,o4,1,yl,_,_,ym]:=h;rw[HL]at ym;rw[Nat.sub_self,show yM 0 ĉ=[] from rfl,HF]at ym;show#[c0D,?_];ext1 cv;rw[<- ym,df,<- Jf]
inductive a1M:Ä
 |mk {T:List M'}{ns:η}{L:Str->Int}:ns.Nodup->ns.length<=1000->T.length<=1000->(∀ (i:Nat) x,ns[i]?=!x->∀ t∈T,t.2.2.1=x->t.2.1∈ns.take i)->(∀ x∈ns,L x=Po T L x)->a1M [aV T,aY ns] (cB ns L)
def a2p [Bx:Bd](T:BJ Bx.mg):Tk 1 "_law_late" (top 101) ["_law_ties","_law_order"] (Pr a1M):=by
 show Nh [c5j] ?_ λd9W=>(qC (qo 2 ND Zx)
 (qC (e0r Ÿ YZ (aN 3)
  (q1 (qP (f1s (f0N (e0v (cS 1 [2,3] ["_law_tie",c5j]) uD
  Ĕ
  (λd94=>bW<|e0G œ (Đ 2))
  (λd94=>RY (ME hr (Đ 1)<|e3U dI)<|e3U dI))<|c6h aG c0v) rfl) λe0c=>h)))
 sG))
 rintro _ _ @⟨T,ns,L,nd,nz,tz,hb,hL⟩;ext d6r;show cZ ns (λi ε=>∃ o3,ε=[.fz<|aV T,.fz<|aY ns,.ow<|f1m L,o3]) ⟨_,rfl⟩ ⟨rfl,.l .lst⟩ (λe2x=>?_) λe3c=>?_
 ·let#[o3,he]:=gR;subst he;let xi:x∉ns.take i:=λz=>by
   ext d3Q
   lia
  let e1:rw ((T.filter λt=>decide W1).map λt=>L t.2.1+t.2.2.2)=.lst _:=e1j GV;let nw:(.inr x:jr)∉((ns.take i).map λx=>((.inr x:jr),D.int<|L x)).map (·.1):=λz=>by rw[GV]at z;ext d6N
  show#[_,1,_,#[1,by rw[GP,Hl];lia,.a #[by rw[e1];show bh (u:=bA) c2x DZ tz λe6r=>#[_,1,eq_str wg rfl,λe=>#[#[1,wg,.k a4A kS],wg,.i]],1] rfl,1,kS],.fz<|.str x,?_];rw[aP hx,show cB (ns.take i++[x]) L=MP (((ns.take i).map λx=>((.inr x:jr),D.int<|L x))++[(.inr x,.int<|L x)]) from congrArg MP He,<- cw nw,hL x<|GY hx];rfl
 ·let#[_,he]:=gR;ext d48
open e
open L2.Wy
structure nY (nl:η)(d0s):Prop where
 nd:(ps.map (·.1)).Nodup
 eq:∀ x,x∈ps.map (·.1) ↔ x∈nl
 RU:nl.Nodup
 zero:nl[0]?=!("h":Str)
 house:∀ q∈ps,q.1="h" ↔ SY q.2=false
 len:ps.length<=20
 ord:nl.filter (d9N (x≠("h":Str)))=(ps.map (·.1)).filter λx=>decide (x≠("h":Str))
def nY.of {qs:List (Str×Kd)}(e:ps.map (·.1)=xs)(h:∀ q∈ps,SY q.2=true)(nd:(("h":Str)::xs).Nodup)(p:qs.Perm (("h",Kd.house)::ps))(l:xs.length<=19)(o:∃ l r,l++r=ps/\qs=l++KM::r):nY ("h"::xs) qs:=by
 let pm:=p.map (·.1);rw[Hu,e]at pm;let pl:=p.length_eq;rw[HM,<- GP (as:=ps),e]at pl;show#[pm.nodup_iff.mpr nd,λx=>pm.mem_iff,nd,1,λe4e=>?_,#[0],?_]
 rotate_left
 ·let#[l,r,2]:=o;subst e;simp
 rcases Hr.mp (p.mem_iff.mp hq) with rfl|hq
 ·show#[λ_=>rfl,λ_=>rfl]
 ·rw[h q hq];show#[λz=>((HS.mp nd).1 (by rw[<- z,<- e];show Hm hq)).elim,nofun]
abbrev lt3 (t:M'):LT:=b91
structure QQ (nl:η)(S:NS):Prop where
 Lv:nY nl S.Lv
 up:∀ t∈S.Ls,∃ u v:Nat,u<v/\nl[u]?=!t.2.1/\nl[v]?=!t.2.2.1
 key:S.Ls.map (·.1)=(List.range S.Ls.length).map λ(i:Nat)=>(i:Int)
 next:S.next=S.Ls.length
 pos:∀ t∈S.Ls,1<=t.2.2.2
 lz:S.LW.length<=8
theorem lL (S:NS)(z:Str):Nat:=(S.Ls.filter λt=>decide (t.2.2.1=z)).length
def b62 (S:NS)(z:Str):lL S z<=S.Ls.length:=HK ĉ
def a9X (S:NS)(x y z:Str)(d:Int):lL EE z=lL S z+if y=z then 1 else 0:=by
 change (List.filter _<|S.Ls++[_]).length=_;rw[IH,Ho];congr 1;by_cases h:y=z
 ·ext d6P
 ·ext d4t
def Ad (S:NS):S.LW.length<=S.Lv.length:=by ext1 NS.LW;ext d3R
def QQ.num (L)(c9R):0<=t.1/\t.1<S.next:=by
 let:t.1∈S.Ls.map _:=Hm ht;rw[L.key]at this;let#[i,hi,e]:=GX.mp this;let:=Ig.mp hi;rw[L.next]
 lia
def QQ.no (L)(v0:0<v):nl[v]?≠!("h":Str):=λh=>by let:=e9f h L.Lv.zero;omega
def QQ.wn (L)(m6:nl.length<=20)(rl:S.Ls.length<=40):WN S "h" nl (S.Ls.map lt3):=by
 let hh:=(L.Lv.eq _).mpr<|GY L.Lv.zero;show⟨⟨L.Lv.nd,λx=>(L.Lv.eq x).mp,L.Lv.RU,L.Lv.zero,rfl,λe45=>?_,λe45=>?_,?_,m6,by rw[GP];omega⟩,?_,hh,λe6r z=>?_,λe6r=>(L.num ht).1⟩
 ·let#[mQ]:=GX.mp hr;let#[u,v,h1,AU]:=L.up t ht;show#[(L.Lv.eq _).mpr<|GY h3,(L.Lv.eq _).mpr<|GY h4]
 ·let#[mQ]:=GX.mp hr;show L.up t ht
 ·rw[GV,show ((λr:LT=>r.1) ∘ lt3)=λt:M'=>t.1 from rfl,L.key,Ji];show List.pairwise_lt_range.imp λh=>Int.ofNat_lt.mpr h
 ·ext1 NS.Mu
  cases hf:S.Lv.find? λp=>not (SY p.2) with
  | none=>
   let#[q,hq,e]:=GX.mp hh;show (IX.mp hf q hq (by rw[(L.Lv.house q hq).mp e];rfl)).elim
  | some q=>
   let h2:=J2 hf;show congrArg some ((L.Lv.house q<|HZ hf).mpr<|by simpa using h2)
 ·let#[u,v,uv,_,hv]:=L.up t ht;show L.no #[0] (hv.trans<|congrArg some z)
def QQ.Mu (L):("h":Str)∉S.LW:=λh=>by
 let#[q,hq,e]:=GX.mp h;let#[ZL]:=HB.mp hq;let:=(L.Lv.house q h1).mp e;let#[x,k]:=q
 cases k with
 | house=>cases h2
 | post=>ext d4M
 | listener=>ext d4M
def QQ.MQ (L)(hy:nl[i]?=!y)(h:j9 S.Ls y z):∃ j:Nat,i<=j/\nl[j]?=!z:=by
 induction h with
 | refl=>show#[i,Hi _,hy]
 | step ht _ ih=>
  let#[j,ij,hj]:=ih;let#[u,v,uv,hu,hv]:=L.up _ ht;let:=e9f hu hj;show#[v,#[],hv]
def QQ.UU (L){u:Nat}(c9X)(hd:1<=d):
  QQ nl EE/\¬ j9 S.Ls y x/\∀ p∈S.Lv,p.1=y->SY p.2=true:=by
 show#[#[L.Lv,λe45=>?_,mU,λe45=>?_,L.lz],λz=>?_,λe79 z=>?_]
 ·rcases Hx.mp hr with hr|hr
  ·show L.up r hr
  ·rw[Hs.mp hr];show#[u,v,uv,hx,hy]
 ·change (S.Ls++c2o).map _=(List.range (S.Ls++[_]).length).map _;rw[He,L.key,Ho,Ie,L1,He,L.next];rfl
 ·change S.next+1=((S.Ls++[_]).length)
  rw[L.next,Ho];rfl
 ·rcases Hx.mp hr with hr|hr
  ·show L.pos r hr
  ·rw[Hs.mp hr];show hd
 ·let#[j,ZL]:=L.MQ hy z;let:=e9f hx h2
  lia
 ·cases hb:SY p.2 with
  | true=>rfl
  | false=>show (L.no #[]<|hy.trans (congrArg some<|z.symm.trans ((L.Lv.house p hp).mpr hb))).elim
def qj (h:H d=none)(d0F)(b:UT d G G'):f' H G':=λa o ha=>b a o (aj ha h) (e ĉ ha)
theorem QM (G:Hp)(l:Addr)(R:List M'):Prop:=∃ xs,G l=!.lst xs/\Paired (λv (r:M')=>∃ b,v=.ref b/\G b=!.tup [.int r.1,.str r.2.1,.str r.2.2.1,.int r.2.2.2]) xs R
def QM.keep (e1:∀ xs,G l=!.lst xs->G' l=!.lst xs)(e2:∀ b xs,G b=!.tup xs->G' b=!.tup xs)(h:QM G l R):QM G' l R:=let ⟨xs,a,b⟩:=h;#[xs,e1 _ a,Paired.O3 b λe28=>(by let#[x,y,z]:=gR;show#[x,y,e1b z])]
def QM.mono (d0U)(h:QM G l R):QM G' l R:=h.keep (λ_=>e ĉ) λ_ _=>e ĉ
def Mq.a2Y (N:e5i S)(h:G l=!.lst xs):Mq c (upd G l o) n dp dt S:=by
 let#[vz,h4]:=N;let k:∀ {b:Addr}{u:HO},G b=!u->(∀ ys,u≠.lst ys)->upd G l o b=!u:=λhb hu=>by rw[aa<|bZ hb h (hu _)];show hb
 show#[#[dx,k h1 λ_ z=>nomatch z],#[kp,k h2 ĺ,Paired.O3 p2 λe28=>(by let#[x,b,y,e,z]:=gR;show#[x,b,y,c6f])],#[kt,k h3 ĺ,Paired.O3 p3 λe28=>(by let#[x,b,e,z]:=gR;show#[x,b,c6f])],h4]
def b6D (h:QM G l R):DR G (aV R) qE:=by let#[xs,a1,a2]:=h;show#[l,xs,1,a1,b9P a2 λv r _ gR=>(by let#[b,e,hb]:=gR;show#[b,_,e,hb,mE])]
def GE {nl:η}{k:Nat}(h:nl[k]?=!x):RC Fv (k:Int)=!.str x:=cT (by rw[Hf,h];rfl)
def b47 (K){D:Ends}{jt jn jo:Nat}{d:Int}{u v:Nat}(sn:σ[jn]?=!some (d9i n))(st:σ[jt]?=!some (d9i tl))(so:σ[jo]?=!some (d9i Ln))(h1:∀ H Q,e9D H->t1 σ H Q)(h2:∀ H Q,e9E H->t2 σ H Q)(h3:∀ H (Q:List V->Ù),Q ds H->t3 σ H Q)(hd:∀ H Q,e9g H->td σ H Q)(ed:ds++dvs=[.int d])(d1:1<=d)(d9:d<=99)(N:e5i S)(T:QM G tl S.Ls)(L)(hL:G Ln=!.lst Fv)(c9X)(rl:S.Ls.length<=39)(lnt:Ln≠tl)(k:∀ G',(∀ b o,b≠n->b≠dt->b≠tl->G b=!o->G' b=!o)->e4T EE->QM G' tl (S.UU x y d).Ls->QQ nl EE->G' Ln=!.lst Fv->e4p G'):
  rG (tBM K "list" iH (cu jt) (bO (zF (bO (jO c.Mg "tie" (fG c) dvs E0 (cu jn) (bO b7I (bO b7J t3))) (bO b7I (bO b7J zO)))) jc)) D σ G:=by
 let#[L2,nl',thr]:=L.UU uv hx hy d1;let#[dx,hN]:=id N.ins;let#[ts,Yi,_]:=id T;let#[kt,ht,_]:=id N.Ls;show#[_,st,.inl #[1,_,LS.of Yi],_,sn,n,zV,hN,1,_,so,h1 ĉ #[Ln,BY,2,LS.of hL,GE hx,_,so,h2 ĉ #[Ln,BY,2,LS.of hL,GE hy,h3 ĉ ?_]]];show#[n,dp,dt,S,x,y,d,congrArg (λl=>V.ref n::.str x::.str y::l) ed,N,(L.Lv.eq _).mpr<|GY hx,(L.Lv.eq _).mpr<|GY hy,λe6r=>(L.num ht).2,thr,nl',d1,d9,#[],λH9 b9 N9=>?_];let k9:∀ {b:Addr}{xs:π},G b=!.lst xs->H9 b=!_:=λh=>f1p h;let T9:=T.keep (λ_=>k9) λe8E=>f1p h;let hL9:=k9 hL;show#[_,so,h1 ĉ #[Ln,BY,2,LS.of hL9,GE hx,_,so,h2 ĉ #[Ln,BY,2,LS.of hL9,GE hy,hd ĉ #[(by change 4<=sizeLine;decide),λT' H10 Zr h10 hT=>?_]]]];let#[a21,VU,a4y]:=T9.mono Zr;let SR:=Paired.length a4y;show#[tl,a21,_,2,VU,(by let:sizeLine=2 ^ 24:=rfl;lia),k _ (λb o n1 n2 n3 hb=>by rw[aa n3];show Zr ĉ<|b9 _ _ n1 n2 hb) ((N9.mono Zr).a2Y VU) ⟨_,ai,Paired.Qr (Paired.O3 a4y λe28=>(by let#[x,y,z]:=gR;show#[x,y,by rw[aa<|bZ z VU (λz=>nomatch z)];show z])) #[T',1,by rw[aa<|bZ hT VU (λz=>nomatch z)];show hT]⟩ L2 (by rw[aa lnt];show Zr ĉ hL9)]
theorem ZH (xs:η)(d0s):Prop:=ps.map (·.1)=xs/\∀ q∈ps,SY q.2=true
def ZH.add (h:ZH xs ps)(hk:SY k=true):ZH (xs++[x]) (ps++[(x,k)]):=by
 show#[by rw[He,h.1];rfl,λe4e=>?_];ext d8g
 ·show h.2 q hq
 ·rw[Hs.mp hq];show hk
def ux (l:ps.length<=19)(ll:VL k=true->(NS.LW Bl).length<=7)(hk:SY k=true\/∀ q∈ps,SY q.2=true)(hx:gv x=true)(nx:x∉ps.map (·.1)):vv Bl x k:=by
 show#[hx,nx,λgR=>?_,?_]
 ·let#[z1,z2]:=gR;rcases hk with hk|hk
  ·rw[hk]at z1;cases z1
  ·let#[q,hq]:=Iv.mp z2;let h2:=J2 hq;rw[hk q<|HZ hq]at h2;cases h2
 ·ext1 Gm;rw[GZ<|show ¬ 20<=ps.length by lia,Lr]
  cases hr:VL k with
  | false=>rfl
  | true=>show GZ (by let:=ll hr;lia)
def b6V (ns:Ξ)(d0E):∃ cs:Ξ,n5 Ķ lo hi=cs.map V.int:=by ext1 n5;rw[<- KJ,<- Jf];show#[_,1]
def c4E (xs:π)(lo hi:Nat):(n5 xs (!(lo:Int)) !(hi:Int)).length<=hi - lo:=by
 ext1 n5;rw[HT.Qu,HT.Qu,Hl,KG]
 lia
def gk (x:Int){k:Nat}(h:0<k):∃ v:Nat,x % (k:Int)=(v:Int)/\v<k:=by let h1:=Ij x (show (k:Int)≠0 by omega);let h2:=HV x (show (0:Int)<k by omega);show#[(x % (k)).toNat,jR]
def b2Z {Q:Ù}(hn:H n=none)(XR:H dx=none)(k:∀ dp dt H2,H dp=none->H dt=none->f' H H2->Mq c H2 n dp dt #[[],[],(0)]->Q H2):gY c [.ref n] (d8K H dx n c.Mg) (λv H2=>v=.non/\Q H2) E0:=
 #[n,dx,1,ai,λdp dt H2 p1 p2 p3 b1 hi hp ht=>#[1,by
  let x1:dp≠n:=λz=>by rw[z,ai]at p1;cases p1
  let x2:dt≠n:=λz=>by rw[z,ai]at p2;cases p2
  let of:∀ {d:Addr},d≠n->upd (upd H dx<|.own n) n (.ins c.Mg dx []) d=none->H d=none:=λ{d} x p=>by
   rw[aa x]at p;by_cases z:d=dx
   ·rw[z];show XR
   ·rwa [aa z]at p
  show k dp dt H2 (of x1 p1) (of x2 p2) (λa o ha=>b1 a o (aj ha hn) (by rw[aa<|aj ha hn,aa<|aj ha XR];show ha)) #[#[dx,hi],#[[],hp,.nil],#[[],ht,.nil],p3]]]
theorem NT:η:=["b","a","ab","c","ba","d"]
def c1w:∀ k,k<6->gv (NT.getD k "")=true/\NT.getD k ""∉NT.take k/\(NT.getD k "").length<=1000/\NT.take (k+1)=NT.take k++[NT.getD k ""]/\NT[k]?=!NT.getD k ""/\(("h":Str)::NT.take (k+1)).Nodup:=by decide +kernel
variable {c:Cl}
inductive jQ (K:Ψ)(c:Cl)(c8p):∀(a:Addr) (fi:Int) (ns:Ξ),vs=[.int fi,.ref a]->LS K H a Ķ->(∀ x H' nl S,f' H H'->DR H' (.tup [aK c S,aV S.Ls,aY nl]) x->nl.length<=20->S.Ls.length<=40->(∀ z,lL S z<=12)->QQ nl S->Q x H')
inductive Ln1 (c89)(c7t):∀(o4 o5:Ç) (ps:List (Str×Kd)),σ=[!.int fi,Es,o4,o5,pY,none]->f' H G->G Ln=!.lst b2f->ZH (NT.take i) ps->Mq c G n dp dt ⟨ps,[],0⟩
inductive a2c (c89)(d0s)(c7t):∀(kd:Kd),σ=[!.int fi,Es,!.int (i:Int),!.str (NT.getD i ""),pY,none]->f' H G->G Ln=!.lst b2f->ZH (NT.take (i+1)) (ps++b99)->Mq c G n dp dt ⟨ps++b99,[],0⟩
inductive Ln2 (d1d)(nl:η)(cs:Ξ)(a Ln n dp dt tl sl:Addr)(d1J):∀(o0 o4 o5 o7 o8 o9 OM:Ç) (S:NS),σ=[o0,Es,o4,o5,!.ref tl,o7,o8,o9,OM]->f' H G->G Ln=!.lst Fv->G sl=!.lst (cs.map V.int)->Mq c G n dp dt S->QM G tl S.Ls->QQ nl S->S.Ls.length<=i
def a2t:au [c6S,c38,"_law_xs",c55,"_law_delay"] í (d8Z 98):=Pa
def a1A [Bx:Bd](d0r)(TQ)(MY)(Nb)(MC)(Nt)(Nr)(Qi:ZR 3 c.Mg "tie" ä [.int 1] (fG c)):Tk 6 "_law_net" (top 98) í (jQ Bx.K c):=by
 ext d2P;show F.k a2t λe2C=>?_
 ·let#[a,fi,ns,1,hS,q]:=h;let ND:=a2t.nd;show#[_,(af b54
   (af (pS 3 ND<|cP (d9n ji))
   (af (e0s (fY rfl T.Mb<|a9 (cr i8 aG<|cr b7 EB aG) K') lK
   (af (pS 5 ND<|ME hr (de<|da iV (da iV<|da iV (da iV<|da iV (da iV LB)))).p (Đ 4))
   (af (jg (PW.pt<|A7 b9g (lm<|e0G (e0F (e6b (Đ 0)<|RY dI (Đ 4)) dI) dI))
    (d8L Gk MC OL)
    (d8L Gk Nt OL))
   (d8I wI OL))))
   (af b3t
   (af c2r
   (af (e0s a99 (pN 0 ND)
   (af (pS 7 ND<|f1q (da (Đ 0)<|da dI LB))
   (af (pS 8 ND<|e0F No Yt)
   (af (pS 9 ND<|e0F No Yt)
   (af (pS 10 ND<|RY dI (e0F No<|ME hr (de<|da dI (da dI LB)).p c2B))
   (aq (jg (PW.pt<|xG b7r (fj<|e0G c2B dI))
    (d8I FU (d9P a2y Qi a86 (a9 AO K') AO (a9 aG K')))
    (aq (jg b7r
     (d8I FU (d9P bd Nr a86 (a9 AO<|a9 (pv 10) K') AO (a9 (pv 10) K')))
     ML)))))))))
   (d9R (c8<|e7h (d8Q FU wI))))))))),?_]
  obtain⟨m,em,m1,m7⟩:∃ m:Nat,2+fi % 5=(m:Int)/\2<=m/\m<=6:=by let b1:=Ij fi (show (5:Int)≠0 by decide);let b2:=HV fi (show (0:Int)<5 by decide);show#[(2+fi % 5).toNat,zq,#[]]
  ext d25;let put:∀ {ps:List (Str×Kd)}{x:Str}{kd:Kd}{G:Hp},vv Bl x kd->ps.length<=1000->x.length<=1000->f' H G->e5i Bl->∀ {Q:VK},(∀ G',f' H G'->UT dp G G'->e4T #[ps++[(x,kd)],[],(0)]->e2y G')->cY c kd [A0] G Q E0:=λmy l xl eG NG Q q=>
   #[n,dp,dt,wG,NG,xl,l,my,λG' b N'=>q G' (qj p1 eG b) b N']
  show#[(by change 1<=sizeLine;decide),λLn G2 Pu V1 hLn=>?_];ext d2u;let Ln0:H Ln=none:=e2.free V1;show#[_,1,fi,(5),2,show (0:Int)<5 by decide,(2),fi % 5,2,2+fi % 5,1,zq,?_];rw[em,J8];let pl:∀ {i:Nat}{ps:List (Str×Kd)},ZH (NT.take i) ps->i<=6->ps.length=i:=λ{i ps} h l=>by
   ext d7u;rw[GP,Hl,show NT.length=6 from rfl]at this
   lia
  show iP (lo:=0) (n:=m) (Ln1 c H fi a Ln n dp dt) #[none,none,[],1,e2.trans Pu,hLn,#[1,nofun],N2.mono Pu] ?_ ?_
  ·rintro i σ G him ⟨o4,o5,ps,rfl,eG,O8,R4,NG⟩;rw[Ka];ext d4s;let#[t6,_]:=c1w i #[];let il:=pl R4 #[];let ll:=Ad Bl;show tP.go (F:=ue) (ε:=[none,none,none,none,some<|.int i]) (M0<|M0 (M0<|M0 (N6 rfl<|Sg bH))) (d:=.str<|NT.getD i "") #[#[#[7],Zb],1,.l .lst<|cT (show (NT.map D.str)[i]?=_ by rw[Hf,t5];rfl)] λx Ga ea _ hx=>?_
   ext d6t;show#[e5j ps,?_,ue,a7e,decide ((i:Int)=1) || decide (fi / (5+(i:Int)) % 3=1),N6 rfl<|M0 (M0<|M0 (N6 rfl<|Sg bH)),?_,λG' e=>?_]
   ·rintro σ G' ⟨kd,rfl,eG',hL,hp',NG'⟩;ext d37;show#[_,1,.inl #[1,_,LS.of hL],_,1,Ln,D3,hL,(by rw[GP,HM,Hl];let:sizeLine=2 ^ 24:=rfl;let:NT.length=6:=rfl;lia),BY,1,bg eG' Ln0,?_,hp',NG'.a2Y hL];rw[ai,t4,<- List.cons_append,He];rfl
   ·let r1:=eq_int (ε:=a7e) (ra:=rV 4) (rb:=rC<|.int 1) rfl rfl
    cases h:decide ((i:Int)=1) with
    | true=>rw[h]at r1;rw[Bool.true_or];show .t r1
    | false=>rw[h]at r1;rw[Lr];show .f r1 (eq_int #[#[1,#[2,.i],#[vL]],1,xJ] rfl)
   ·let e:=ea.trans e;let NG:=NG.mono e;let#[Yz,Yp]:=id NG.ins;let O8:=e ĉ O8;let#[kp,Wm,_]:=id NG.Lv;let fin:∀ {kd:Kd}{σ:St},SY kd=true->σ=[some<|.int fi,some<|.ref a,some<|.ref n,some<|.ref Ln,some<|.int (i:Int),some<|.str (NT.getD i ""),none,none,none,none,none]->cY c kd [.ref n,.str<|NT.getD i ""] G' (λ_ G2=>e5j ps σ G2) E0:=λhk hσ=>put (ux #[] (λ_=>by let:(NS.mk ps [] 0).Lv.length=ps.length:=rfl;lia) (.inl hk) t1 (by rw[R4.1];show t2)) #[] t3 (eG.trans e) NG λG2 e2 b N2=>#[_,hσ,e2,b ĉ ua O8,by rw[t4];show R4.add hk,N2]
    show ku b0a b0a
  ·rintro σ G ⟨o4,o5,ps,rfl,eG,O8,R4,NG⟩;ext d2u;ext d4P;let#[Y8,nd]:=c1w (m - 1) #[];rw[show m - 1+1=m by lia]at nd;let pm:=pl R4 m7;show#[iU,1,put (x:="h") (ux #[] (λz=>absurd z<|by decide) (.inr R4.2) (by decide +kernel) (by rw[R4.1];show (HS.mp nd).1)) #[] (by decide) eG NG λG1 eG1 b1 N1=>?_];ext d2u;let a1B:=b1 ĉ ua O8;let L0:QQ b7K #[ps++[KM],[],(0)]:=#[.of R4.1 R4.2 nd (List.perm_append_singleton ĉ) (by rw[Hl];lia) #[ps,[],Zb],nofun,2,nofun,HE (Ad _) (by change (ps++[_]).length<=8;rw[Ho,Ie];lia)]
   let nl2:((("h":Str)::NT.take m).length)=m+1:=by rw[HM,Hl,show NT.length=6 from rfl];lia
   generalize b7K=nl at L0 nl2 a1B;show#[(by change 0<=sizeLine;decide),λtl G3 e3 h3 Yi=>?_];ext d2u;let#[cs,ec]:=b6V ns (!2)<|some 14;let cl:cs.length<=12:=by let:=c4E Ķ 2 14;rw[show ((2:Nat):Int)=2 from rfl,show ((14:Nat):Int)=14 from rfl,ec,GP]at this;show this
   show#[_,1,(2),1,(14),1,a,_,1,(eG1.trans e3).seq hS,λsl G4 e4 h4 Yj=>?_];rw[ec]at Yj;let tl0:H tl=none:=eG1.free h3;let sl0:sl≠tl:=λz=>by rw[z,Yi]at h4;cases h4
   let lnt:Ln≠tl:=λz=>by rw[<- z,a1B]at h3;cases h3
   let e34:=e3.trans e4;ext d64;show#[sl,1,#[_,LS.of Yj],e6A (e1x sl)
    #[jY,jY,1,eG1.trans e34,e34 ĉ a1B,Yj,N1.mono e34,#[[],e4 ĉ Yi,.nil],L0,Hi _] (λi σ G _ h=>let ⟨_,_,_,_,_,_,_,_,_,_,_,h,_,_,_,_⟩:=h;LS.of h) ?_ ?_]
   ·rintro i v σ G ev ⟨o0,o4,o5,o7,o8,o9,OM,S,rfl,eG,O8,a1g,NG,TG,L,rl⟩;ext d4s;let#[cell,ec,1]:=uy ev;let i9:i<12:=by let:=(GS.mp ec).1;lia
    show tP.go (F:=ue) (ε:=[some<|.int cell]) (sd1 bH rfl) (d:=rw xg) #[#[3],.mk<|by decide] λx Ga ea _ hx=>?_;let#[xl,us,1,VS,hus]:=hx;rw[jx hus]at VS;ext d2u;let VS:=(gy VS).2;let sl2:=c4R cell 4;ext d3g
    let dX:∀ {G:Hp},G xl=!(.lst<|(e4U 4).map V.int)->DR G (rw (e4U 4)) (.ref xl):=λh=>#[xl,_,1,h,wV _]
    let aX:∀ {k:Nat},k<4->RC ((e4U 4).map D.int) ((k:Nat):Int)=!(.int<|(e4U 4).getD k 0):=λh=>di #[];obtain⟨b,eb,b1,b9⟩:∃ d:Int,RC ([9,99].map D.int) ((e4U 4).getD 3 0 % 2)=!.int d/\1<=d/\d<=99:=by
     rcases Int.emod_two_eq (d9v 3) with h|h <;> rw[h]
     ·show#[(9),p8]
     ·show#[(99),p8]
    let#[u,eu,hu]:=gk (d9v 0) (show 0<nl.length by lia);let#[v,ev',hv]:=gk (d9v 1) (show 0<nl.length by lia);obtain⟨dl,edl,dl1,dl9⟩:∃ dl:Int,1+(e4U 4).getD 2 0 % b=dl/\1<=dl/\dl<=99:=by let h1:=Ij b7L (show b≠0 by lia);let h2:=HV b7L (show 0<b by lia);show#[_,1,zq]
    show tP.go (F:=Ga) (ε:=a44) (M0<|M0 (M0<|N6 (dN<|ea _ _ O8) (M0<|M0 (M0<|N6 (dX VS) Ai)))) (d:=.int (u:Int)) (by rw[<- eu];show#[#[2,.l .lst<|aX (k:=0) (by decide)],c4V]) λx Gb eb' _ hx=>?_
    ext d6t;show tP.go (F:=Gb) (ε:=a44) (M0<|M0 (M0<|N6 (dN<|eb' _ _ (ea _ _ O8)) (M0<|M0 (M0<|N6 (dX<|eb' _ _ VS) Ai)))) (d:=.int (v:Int)) (by rw[<- ev'];show#[#[2,.l .lst<|aX (k:=1) (by decide)],c4V]) λx Gc ec' _ hx=>?_
    ext d6t;let hxc:=ec' ĉ<|eb' _ _ VS;show tP.go (F:=Gc) (ε:=[none,none,none,none,none,none,none,some<|rw xg]) (M0<|M0 (M0<|M0 (M0<|M0 (M0<|N6 (dX hxc) Ai)))) (d:=.int dl) (by rw[<- edl];show#[1,#[#[2,.l .lst<|aX (k:=2) į],#[Bs,#[#[2,.l .lst<|aX (k:=3) (by decide)],1,⟨by decide⟩],.l .lst eb],⟨#[]⟩],.i]) λx Gd ed' _ hx=>?_
    cases hx;ext d37;let hxd:=ed' ĉ hxc;let r3:=lt_int (ε:=[none,none,none,none,none,none,none,some<|rw xg,some<|.int u,some<|.int v]) (ra:=rV 8) (rb:=rV 9) rfl rfl;let off:∀ {b:Addr}{o:HO},H b=some o->b≠n/\b≠dt/\b≠tl:=λh=>b5j
    let eGd:=ea.trans<|eb'.trans (ec'.trans ed');let hu':=GR hu;let hv':=GR hv;let fin:∀ {G8:Hp}{d:Int}{t3:TA}{td:TE}{ds dvs:π},u<v->1<=d->d<=99->ds++dvs=[.int d]->f' Gd G8->(∀ (σ:St) H (Q:List V->Ù),σ[10]?=!(some<|.int dl)->Q ds H->t3 σ H Q)->(∀ (σ:St) H Q,σ[10]?=!(some<|.int dl)->e9g H->td σ H Q)->∀ {D:L2.Ends},(∀ σ G,e1x sl (i+1) σ G->e4p G)->
      rG (d9G 6 (jO c.Mg "tie" (fG c) dvs E0 (cu 2)<|bO b8X (bO b8Y t3)) (bO b8X<|bO b8Y zO)) D [some<|.int cell,some<|.ref a,some<|.ref n,some<|.ref Ln,o4,o5,some<|.ref tl,some<|.ref xl,some<|.int u,some<|.int v,some<|.int dl] G8:=λ{G8 d t3 td ds dvs} uv d1 d9 ed e8 h3 hd D k=>by
     let eG8:=eGd.trans e8;let N8:=NG.mono eG8;let T8:=TG.mono eG8;let a1h:=eG8 ĉ a1g;let#[dx8,XU]:=id N8.ins;let#[kt,ht8,_]:=id N8.Ls;show b47 Bx.K rfl rfl rfl si si (λe42=>h3 Ĉ rfl q) (λe42=>hd Ĉ rfl q) ed d1 d9 N8 T8 L (eG8 ĉ O8) uv hu' hv' #[] lnt λG' k' N' T' L' hL'=>k ĉ ?_;show#[_,_,_,_,_,_,_,_,1,λe3o=>let ⟨n1,n2,n3⟩:=off hb;k' b o n1 n2 n3<|(eG.trans eG8) _ _ hb,hL',k' _ _ (bZ a1h XU λz=>nomatch z) (d8S a1h ht8) sl0 a1h,N',T',L',by change (S.Ls++[_]).length<=_;rw[Ho,Ie];lia]
    let skip:∀ G',f' Gd G'->e1x sl (i+1) [some<|.int cell,some<|.ref a,some<|.ref n,some<|.ref Ln,o4,o5,some<|.ref tl,some<|.ref xl,some<|.int u,some<|.int v,some<|.int dl] G':=λG' e=>#[_,_,_,_,_,_,_,S,1,eG.trans<|eGd.trans e,(eGd.trans e) _ _ O8,(eGd.trans e) _ _ a1g,NG.mono<|eGd.trans e,TG.mono<|eGd.trans e,L,#[]]
    show#[_,λσ' G' h=>h,Gd,[none,none,none,none,none,none,none,some<|rw xg,some<|.int u,some<|.int v],decide uh&&decide ((e4U 4).getD 3 0 % 5=0),M0<|M0 (M0<|M0 (M0<|M0 (M0<|N6 (dX hxd) (N6 rfl<|e4H (Sg<|f'.refl _))))),?_,λG8 e8=>?_]
    ·cases h:decide uh with
     | true=>rw[h]at r3;rw[Bool.true_and];show .t r3 (eq_int #[#[2,.l .lst<|aX (k:=3) į],1,xJ] rfl)
     | false=>rw[h]at r3;show .f r3
    show ku wR wR
    ·let uv:=HA (Bool.and_eq_true_iff.mp g).1;show fin #[] į į rfl e8 c2C c2C λe8E=>h
    show#[_,λσ' G' h=>h,ue,[none,none,none,none,none,none,none,none,some<|.int u,some<|.int v],decide uh,M0<|M0 (M0<|M0 (M0<|M0 (M0<|M0 (N6 rfl<|e4H (Sg bH))))),lt_int rfl rfl,λG9 e9=>?_];show ku wR λg=>skip G9<|e8.trans e9;let uv:=HA g;show fin (ds:=[.int dl]) (dvs:=[]) #[] dl1 dl9 rfl (e8.trans e9) (λe0c q=>#[_,h,q]) (λe0c q=>#[_,h,q]) λe8E=>h
   ·rintro σ G ⟨o0,o4,o5,o7,o8,o9,OM,S,rfl,eG,O8,a1g,NG,TG,L,rl⟩;rw[GP]at rl;ext d37;show#[c4j,λt G2 Pu V1 ht=>q _ G2 nl S (eG.trans Pu) #[t,_,1,ht,_,_,1,(NG.mono Pu).dr,_,_,1,b6D<|TG.mono Pu,_,_,1,⟨Ln,_,rfl,Pu _ _ O8,fC λ_ _=>rfl⟩,1] #[] #[] (λz=>by let:=b62 S z;lia) L]
open e
theorem SG:Str:="abcdefghijklmnopqrs"
theorem PL:η:=["pa","pb","pc","pd","pe","pf","pg","ph","pi","pj","pk","pl","pm","pn","po","pp","pq","pr","ps"]
def D1:∀ k,k<19->gv (PL.getD k "")=true/\PL.getD k ""∉PL.take k/\(PL.getD k "").length<=1000/\PL.take (k+1)=PL.take k++[PL.getD k ""]/\PL[k]?=!PL.getD k ""/\(("h":Str)::PL.take (k+1)).Nodup/\("p":Str)++sgn SG k=PL.getD k ""/\(sgn SG k).length<=1:=by decide +kernel
theorem zf (v i:Nat):Nat:=((List.range i).filter λk=>decide (k % 6=v)).length
def a75:∀ i,i<19->PL.getD i ""≠("h":Str):=by decide +kernel
def b8x:∀ i,i<19->∀ v,v<6->zf v i<=7:=by decide +kernel
def c5W:∀ i,i<=19->∀ v,v<6->zf v i<=8:=by decide +kernel
def b1P (v i:Nat):zf v (i+1)=zf v i+(if i % 6=v then 1 else 0):=by
 ext1 zf;rw[L1,IH,Ho];congr 1;by_cases h:i % 6=v
 ·ext d6P
 ·ext d4t
variable {c:Cl}
def a8A {xs:η}{i j:Nat}(h:i<=j)(hz:z∈xs.take i):z∈xs.take j:=(List.take_subset_take_left xs h) hz
def ZV {xs:η}{i:Nat}(h:xs[i]?=!z):z∈xs.take (i+1):=by rw[aP h];simp
def FT {xs:η}(c99)(h:xs[i]?=!z):z∉xs.take i:=λhz=>by
 let#[j,hj,e]:=HX.mp hz;rw[Hl]at hj;rw[Jx]at e;let:=bM nd h (GS.mpr #[_,e])
 lia
inductive Ll1 (d1d)(fi:Int)(a Nn Ln n dp dt:Addr)(j v i:Nat)(c7t):∀(o5 o6:Ç) (ps:List (Str×Kd)),σ=[some (.int fi),some (.ref a),some (.ref n),some (.ref Nn),some (.ref Ln),o5,o6,pY,none]->f' H G->G Ln=some (.lst ((("h":Str)::PL.take j).map V.str))->G Nn=some (.lst ((PL.take j).map V.str))->ZH (PL.take i) ps->(ps.filter λp=>VL p.2).length=zf v i->Mq c G n dp dt ⟨("h",.house)::ps,[],0⟩
inductive AI (d1d)(nl:η)(cs:π)(a Nn Ln n dp dt tl sl:Addr)(oo:Option V->Option V->NS->Prop)(k:Nat)(c7t):∀(o0 o5 o6 o8 o9 OM OK:Ç) (S:NS),σ=[o0,!.ref a,!.ref n,!.ref Nn,!.ref Ln,o5,o6,!.ref tl,o8,o9,OM,OK]->oo o0 o5 S->f' H G->G Ln=!.lst Fv->G sl=!.lst cs->Mq c G n dp dt S->QM G tl S.Ls->QQ nl S->S.Ls.length<=k
def a7i:au [c6S,"_law_names",c38,"_law_turn","_law_delay",c55] í (d8Z 99):=Pa
def a6l [Bx:Bd](d0r)(TQ)(Nb)(MC)(Nt)(Nr):Tk 6 "_law_long_net" (top 99) í (jQ Bx.K c):=by
 ext d2P;show F.k a7i λe2C=>?_
 ·let#[a,fi,ns,1,hS,q]:=h;let ND:=a7i.nd;show#[_,(af b54
   (af b3t
   (af (pS 3 ND<|jU (Fb Bx.K) (dZ rfl (cS 1 [] ["_law_sign"]) (D5 ji) (λd94=>pC 0) uq λd94=>cr a6o ji<|pv 0) a9w (iI<|cr i8 aG (cr b7 EB aG)))
   (af (pS 4 ND<|cr b30 (cP<|a9 ji K') wI)
   (af (e0s (e72 T.Mm<|a9 wI K') b2M
  (aq (jg (pT bn (cr b7 OL aG)<|cr b7 (cr bQ EB aG) aG)
  (d8L Gk MC FU)
  (d8L Gk Nt FU))))
   (af (pS 7 ND<|cP K')
   (af (e0s (fY rfl T.Mb<|a9 (bL a3n rfl T.Ma boot_len<|a9 wI K') K') Fw
   (aq (e0s (fY rfl T.Mb<|a9 aG K') Ak
    (af (pS 9 ND<|RY dI (e1T (e0F (RY l4<|e1T (Đ 5) (Đ 5)) dI)<|Đ 8))<|aq (aE<|d93 tR (a9 (d9P bd Nr c1W (d8Q b56 Sk) b56 (d9n Sk)) K'))))))
   (af (e0s a99 (pN 0 ND)
   (af (pS 10 ND<|e0F l4 lI)
   (af (pS 11 ND<|e0F (Đ 0) lI)
   (aq (jg (e39 sg<|Đ 11)
    (d8I tR (d9P bd Nr b2U (a9 c01<|a9 aG K') c01 (a9 aG K')))
    ML)))))
   (d9R (c8<|e7h (d8Q tR d8))))))))))),?_]
  let#[j0,ej0,hj0]:=gk fi (show 0<7 by decide);let#[v,ev,hv]:=gk (fi / 7) (show 0<6 by decide);obtain⟨j,ej,j13,j19⟩:∃ j:Nat,13+fi % 7=(j:Int)/\13<=j/\j<=19:=#[13+j0,by rw[show fi % 7=(j0:Int) from ej0];lia,#[],#[]]
  ext d25;let#[Yz,Yp]:=id N2.ins;show#[iU,1,n,dp,dt,wG,N2,by decide,by decide,ux į (λz=>absurd z<|by decide) (.inr nofun) (by decide +kernel) nofun,λG1 b1 N1=>?_];ext d2u;let e1:=qj p1 e2 b1;show#[SG,1,c3V (λi=>.str<|PL.getD i "") (by decide) (λi H3 hi e=>?_) (λl0 H3 hl0 e3 hl=>?_)]
  ·let#[Y8,_,t7,t8]:=D1 i hi;show#[_,1,"p",_,2,by let:sizeLine=2 ^ 24:=rfl;let:("p":Str).length=1:=rfl;lia,by rw[t7],f'.refl _]
  let hl:H3 l0=!(.lst<|PL.map V.str):=hl;show⟨_,rfl,fi,7,rfl,rfl,show (0:Int)<7 by decide,13,fi % 7,rfl,rfl,13+fi % 7,rfl,l0,_,rfl,LS.of hl,λNn G4 e4 h4 hNn=>?_⟩;ext d2u;let ec:n5 (PL.map V.str) none (some<|13+fi % 7)=(PL.take j).map V.str:=by rw[ej];ext1 n5;rw[HT.Qu,HT.Sm,List.drop_zero,Jf,Nat.sub_zero,KY (by rw[GP];show j19)]
  rw[ec]at hNn;show#[(by change 1<=sizeLine;decide),λlh G5 e5 h5 hlh=>#[_,1,lh,Nn,D3,hlh,e5 ĉ hNn,(by rw[GP,Hl,Ie];let:sizeLine=2 ^ 24:=rfl;lia),λLn G6 e6 h6 hLn=>?_]];ext d2u;let e16:=e1.trans<|e3.trans (e4.trans<|e5.trans e6);let a45:=e6 ĉ<|e5 _ _ hNn;let Ln0:H Ln=none:=(e1.trans<|e3.trans (e4.trans e5)).free h6;let pl:∀ {i:Nat}{ps:List (Str×Kd)},ZH (PL.take i) ps->i<=19->ps.length=i:=λ{i ps} h l=>by
   ext d7u;rw[GP,Hl,show PL.length=19 from rfl]at this
   lia
  let jl:(PL.take j).length=j:=by rw[Hl,show PL.length=19 from rfl];lia
  let#[Y8,a3T,_]:=D1 (j - 1) #[];rw[show j - 1+1=j by lia]at a3T;show#[_,1,Nn,_,1,a45,b5n (e4c v) #[none,none,[],1,e16,hLn,a45,#[1,nofun],1,N1.mono<|e3.trans (e4.trans<|e5.trans e6)] (λi σ G _ h=>let ⟨_,_,_,_,_,_,h,_,_,_⟩:=h;LS.of h) ?_ ?_]
  ·rintro i x T0 σ G ex ⟨o5,o6,ps,rfl,eG,O8,UP,R4,hc,NG⟩ hT;rw[Hf]at ex;let#[y,ey,1]:=HI.mp ex;let ij:i<j:=by let:=(GS.mp ey).1;lia
   let#[t6,_]:=D1 i #[];rw[ID ij,t5]at ey
   cases ey;let il:=pl R4 #[];let eT:f' G (upd G T0<|.tup [.int i,.str<|PL.getD i ""]):=aZ Ě hT;let NG:=NG.mono eT;let O8:=eT ĉ O8;let UP:=eT ĉ UP;ext d4P;let cc:=b8x i #[] v hv;let lc:(NS.LW FD).length=zf v i:=by rw[<- hc];ext1 NS.LW;rw[GP];rfl
   let nx:PL.getD i ""∉(KM::ps).map (·.1):=by
    rw[Hu,R4.1];intro z;rcases Hr.mp z with z|z
    ·show a75 i #[] z
    ·show t2 z
   let fin:∀ {kd:Kd}{Qx:VK},SY kd=true->(VL kd=true ↔ i % 6=v)->(∀ G2,e4c v (i+1) [some<|.int fi,some<|.ref a,some<|.ref n,some<|.ref Nn,some<|.ref Ln,some<|.int i,some<|.str (PL.getD i ""),none,none,none,none,none] G2->Qx .non G2)->cY c kd [.ref n,.str<|PL.getD i ""] (upd G T0<|.tup [.int i,.str<|PL.getD i ""]) Qx E0:=λ{kd Qx} hk hr k=>#[n,dp,dt,_,_,1,NG,t3,by change (_::ps).length<=1000;rw[HM];lia,ux (by rw[HM];lia) (λ_=>by rw[lc];show cc) (.inl hk) t1 nx,λG2 b N2=>k _ #[_,_,_,1,qj p1 (eG.trans eT) b,b ĉ ua O8,b ĉ (d8S UP Wm) UP,by rw[t4];show R4.add hk,by
     change (List.filter _<|ps++[(PL.getD i "",kd)]).length=_;rw[b1P,IH,Ho,hc];congr 1
     cases hb:VL kd with
     | true=>rw[if_pos<|hr.mp hb,Il,if_pos hb];rfl
     | false=>rw[if_neg (λz=>by rw[hr.mpr z]at hb;cases hb),Il,if_neg (by change ¬ VL kd=true;rw[hb];show nofun)];rfl,N2]]
   show#[_,λσ' G' h=>h,_,1,(i:Int),c5a,_,1,fi,(7),2,Gj,fi / 7,c5a,gQ,ku wR wR]
   ·let g:(i:Int) % 6=fi / 7 % 6:=by simpa using g
    show#[iU,gQ,fin rfl #[λ_=>by lia,λ_=>rfl] λG2 h=>h]
   ·let g:¬ (i:Int) % 6=fi / 7 % 6:=by simpa using g
    show#[iU,gQ,fin rfl #[İ,λz=>absurd z<|by lia] λG2 h=>h]
  rintro σ G ⟨o5,o6,ps,rfl,eG,O8,UP,R4,hc,NG⟩;ext d2u;rw[GP,jl]at R4 hc;let pj:=pl R4 j19;let L0:QQ b7M FD:=#[.of R4.1 R4.2 a3T (.refl _) #[] #[[],ps,2],nofun,2,nofun,by rw[show (NS.LW FD).length=(ps.filter λp=>VL p.2).length by ext1 NS.LW;rw[GP];rfl,hc];show c5W j j19 v hv]
  let nl2:(("h":Str)::PL.take j).length=j+1:=by rw[HM,jl]
  generalize b7M=nl at L0 nl2 O8;show#[(by change 0<=sizeLine;decide),λtl G7 e7 h7 Yi=>?_];ext d2u;let tl0:H tl=none:=eG.free h7;let lnt:Ln≠tl:=λz=>by rw[<- z,O8]at h7;cases h7
  let nnt:Nn≠tl:=λz=>by rw[<- z,UP]at h7;cases h7
  let off:∀ {b:Addr}{o:HO},H b=!o->b≠n/\b≠dt/\b≠tl:=λh=>b5j
  let step:∀ {G8:Hp}{σ:St}{t1 t2 td:TE}{t3:TA}{D:L2.Ends}{S:NS}{sl:Addr}{cs:π}{u v:Nat}{d:Int},σ[2]?=!(some<|.ref n)->σ[7]?=!(some<|.ref tl)->σ[4]?=!(some<|.ref Ln)->(∀ H Q,e9D H->t1 σ H Q)->(∀ H Q,e9E H->t2 σ H Q)->(∀ H (Q:List V->Ù),Q [.int d] H->t3 σ H Q)->(∀ H Q,e9g H->td σ H Q)->1<=d->d<=99->f' H G8->G8 Ln=!(.lst<|nl.map V.str)->G8 sl=!.lst cs->sl≠tl->Mq c G8 n dp dt S->QM G8 tl S.Ls->QQ nl S->S.Ls.length<=39->u<v->v<nl.length->
    (∀ G' S',f' H G'->G' Ln=!(.lst<|nl.map V.str)->G' sl=!.lst cs->e4T S'->QM G' tl S'.Ls->QQ nl S'->S'.Ls.length=S.Ls.length+1->(∀ z,lL S' z=lL S z+if nl[v]?=some z then 1 else 0)->e4p G')->rG (d9G 7 (jO c.Mg "tie" (fG c) [] E0 (cu 2)<|bO c02 (bO c03 t3)) (bO c02<|bO c03 zO)) D σ G8:=by
   intro G8 σ t1 t2 td t3 D S sl cs u v d s2 s7 s4 h1 h2 h3 hd d1 d9 e8 hL hs st N8 T8 L rl uv vl k;let#[dx8,XU]:=id N8.ins;let#[kt,ht8,_]:=id N8.Ls;show b47 Bx.K s2 s7 s4 h1 h2 h3 hd rfl d1 d9 N8 T8 L hL uv (GR<|by lia) (GR vl) rl lnt λG' k' N' T' L' hL'=>k G' _ (λe3o=>let ⟨n1,n2,n3⟩:=off hb;k' b o n1 n2 n3<|e8 _ _ hb) hL' (k' _ _ (bZ hs XU λz=>nomatch z) (d8S hs ht8) st hs) N' T' L' (by change (S.Ls++[_]).length=_;rw[Ho];rfl) λz=>by rw[a9X,GR vl];simp
  show#[_,1,.inl #[Nn,_,1,.inl<|LS.of (e7 _ _ UP),_,1,by rw[GP,jl];lia,by rw[GP,jl];lia,?_]];rw[GP,jl,J8];show iP (λi=>e3X tl Nn (λo _ S=>o=!.int fi/\∀ z,lL S z<=2/\(z∉nl.take (i+1)->lL S z=0))<|2 * i) ⟨_,_,_,_,_,_,_,_,rfl,⟨rfl,λz=>#[HP _,λ_=>rfl]⟩,eG.trans e7,e7 ĉ O8,e7 ĉ UP,NG.mono e7,#[[],Yi,.nil],L0,Hi _⟩ ?_ ?_
  ·rintro i σ G8 hij ⟨o0,o5,o6,o8,o9,OM,OK,S,rfl,⟨rfl,hc⟩,e8,W0,XU,N8,T8,L8,r8⟩;rw[Ka];show#[(2),1,zq,iP (λt=>e3X tl Nn (λo o' S=>(o=!.int fi/\o'=!.int (i:Int))/\∀ z,(nl[i+1]?≠!z->lL S z<=2/\(z∉nl.take (i+2)->lL S z=0))/\(nl[i+1]?=!z->lL S z<=t))<|2 * i+t) ⟨_,_,_,_,_,_,_,S,rfl,⟨⟨rfl,rfl⟩,λz=>#[λ_=>#[(hc z).1,λh=>(hc z).2 λh2=>h<|a8A #[] h2],λh=>Kt<|(hc z).2 (FT L8.Lv.RU h)]⟩,e8,W0,XU,N8,T8,L8,#[]⟩ ?_ ?_]
   ·rintro t σ G9 ht ⟨o0,o5,o6,o8,o9,OM,OK,S,rfl,⟨⟨rfl,rfl⟩,hc⟩,e8,W0,XU,N8,T8,L8,r8⟩;rw[Ka];obtain⟨dl,edl,dl1,dl9⟩:∃ dl:Int,1+yw % 9 * (t:Int)=dl/\1<=dl/\dl<=99:=by
     let h1:=Ij yw (show (9:Int)≠0 by decide);let h2:=HV yw (show (0:Int)<9 by decide);ext d6o;rcases (show t=0\/t=1 by lia) with rfl|rfl
     ·simp
     ·simp;lia
    show tP.go (F:=ue) (ε:=[some<|.int fi,none,none,none,none,some<|.int (i:Int),none,none,some<|.int (t:Int)]) (N6 rfl<|M0 (M0<|M0 (M0<|e4H (M0<|M0 (N6 rfl<|Sg bH))))) (d:=.int dl) (by rw[<- edl];show⟨rfl,⟨⟨⟨⟨rfl,rfl,⟨⟨by decide,by decide⟩⟩⟩,⟨rfl,rfl,⟨.inl ⟨#[],#[]⟩⟩⟩,.i⟩,rfl,⟨by decide⟩⟩,rfl,⟨.inr ⟨#[],#[]⟩⟩⟩,.i⟩) λx Gb eb _ hx=>?_
    cases hx;show step (u:=i) (v:=i+1) rfl rfl rfl si (λe42=>#[_,1,_,(1),2,q]) si si dl1 dl9 (e8.trans eb) (eb ĉ W0) (eb ĉ XU) nnt (N8.mono eb) (T8.mono eb) L8 #[] #[] #[] λG' S' e1R a8=>#[jY,BY,S',1,#[#[2],λz=>#[λh=>by rw[a8 z,if_neg h];show (hc z).1 h,λh=>by rw[a8 z,if_pos h];let:=(hc z).2 h;lia]],EA,a4,a5,a6,#[]]
   ·rintro σ G9 ⟨o0,o5,o6,o8,o9,OM,OK,S,rfl,⟨⟨rfl,rfl⟩,hc⟩,e8,W0,XU,N8,T8,L8,r8⟩;show#[_,_,_,_,_,_,_,S,1,#[1,λz=>by
     by_cases h:nl[i+1]?=!z
     ·show#[(hc z).2 h,λh2=>absurd (ZV h) h2]
     ·show (hc z).1 h],e8,W0,XU,N8,T8,L8,#[]]
  rintro σ G8 ⟨o0,o5,o6,o8,o9,OM,OK,S,rfl,⟨_,hc⟩,e8,W0,XU,N8,T8,L8,r8⟩;ext d2u;let#[cs,ec]:=b6V ns (!2)<|some 4;let cl:cs.length<=2:=by let:=c4E Ķ 2 4;rw[show ((2:Nat):Int)=2 from rfl,show ((4:Nat):Int)=4 from rfl,ec,GP]at this;show this
  show#[_,1,(2),1,(4),1,a,_,1,e8.seq hS,λsl G9 e9 h9 Yj=>?_];rw[ec]at Yj;let sl0:sl≠tl:=λz=>by let#[ts,h,_]:=T8;rw[z,h]at h9;cases h9
  ext d64;show#[sl,1,#[_,LS.of Yj],e6A (λi=>AI c H nl (cs.map V.int) a Nn Ln n dp dt tl sl (λ_ _ S=>∀ z,lL S z<=2+i)<|2 * j+i) ⟨_,_,_,_,_,_,_,S,rfl,λz=>(hc z).1,e8.trans e9,e9 ĉ W0,Yj,N8.mono e9,T8.mono e9,L8,r8⟩ (λi σ G _ h=>let ⟨_,_,_,_,_,_,_,_,_,_,_,_,h,_,_,_,_⟩:=h;LS.of h) ?_ ?_]
  ·rintro i v σ G ev' ⟨o0,o5,o6,o8,o9,OM,OK,S,rfl,hc,e8,W0,hs8,N8,T8,L8,r8⟩;let#[cell,ec,1]:=uy ev';let i2:i<2:=by let:=(GS.mp ec).1;lia
   ext d3g
   let#[u,eu,hu]:=gk (cell / 20) (show 0<nl.length by lia);let#[v',b0c,hv']:=gk cell (show 0<nl.length by lia);show tP.go (F:=G) (ε:=a9r) (N6 rfl<|M0 (M0<|M0 (N6 (dN W0)<|Sg (f'.refl _)))) (d:=.int (u:Int)) (by rw[<- eu];show⟨⟨rfl,rfl,⟨⟨by decide,by decide⟩⟩⟩,⟨⟨rfl,rfl⟩,l1⟩,⟨#[]⟩⟩) λx Gb eb _ hx=>?_
   cases hx;show tP.go (F:=Gb) (ε:=a9r) (N6 rfl<|M0 (M0<|M0 (N6 (dN<|eb _ _ W0)<|Sg (f'.refl _)))) (d:=.int (v':Int)) (by rw[<- b0c];show⟨rfl,⟨⟨rfl,rfl⟩,l1⟩,⟨#[]⟩⟩) λx Gc ec' _ hx=>?_
   cases hx;let r3:=lt_int (ε:=[none,none,none,none,none,none,none,none,none,none,some<|.int u,some<|.int v']) (ra:=rV 10) (rb:=rV 11) rfl rfl;show⟨_,λσ' G' h=>h,ue,[none,none,none,none,none,none,none,none,none,none,some<|.int u,some<|.int v'],_,M0<|M0 (M0<|M0 (M0<|M0 (M0<|M0 (M0<|M0 (N6 rfl<|e4H (Sg bH)))))),r3,λGd ed=>?_⟩;let eG:=eb.trans<|ec'.trans ed;show ku (λg=>?_) λg=>#[_,_,_,_,_,_,_,S,1,λz=>Nat.le_succ_of_le<|hc z,e8.trans eG,f0G W0,f0G hs8,N8.mono eG,T8.mono eG,L8,#[]];show step (u:=u) (v:=v') rfl rfl rfl (λe42=>#[_,1,q]) si (λe42=>q) (λe42=>q) į į (e8.trans eG) (f0G W0) (f0G hs8) sl0 (N8.mono eG) (T8.mono eG) L8 #[] (by let:=HA g;lia) hv' λG' S' e1R a8=>#[_,_,_,_,_,_,_,S',1,λz=>by let:=hc z;rw[a8 z];split <;> lia,a1,a2,a3,a4,a5,a6,#[]]
  ·rintro σ G ⟨o0,o5,o6,o8,o9,OM,OK,S,rfl,hc,e8,W0,hs8,N8,T8,L8,r8⟩;rw[GP]at r8 hc;ext d37;show#[c4j,λt G2 Pu V1 ht=>q _ G2 nl S (e8.trans Pu) #[t,_,1,ht,_,_,1,(N8.mono Pu).dr,_,_,1,b6D<|T8.mono Pu,_,_,1,⟨Ln,_,rfl,Pu _ _ W0,fC λ_ _=>rfl⟩,1] #[] #[] (λz=>by let:=hc z;lia) L8]
open e
theorem pG (T:List M')(x):List M':=T.filter λt=>decide W1
theorem fU (T:List M')(m)(x):Nat:=if x="h" then m else (pG T x).length
theorem vH (c86)(z:M'×Nat):bC:=(z.1.1,(List.range (fU T m z.1.2.1)).map λj=>(cv (cell+z.2) 13).getD j 0 % p)
theorem lZ (c86):List bC:=T.zipIdx.map (vH T m p cell)
variable {C aC aS:Addr}
inductive qD (K:Ψ)(aC aS:Addr)(Rp:Ä)(Zp:List D->Addr->Prop):Ä
 |mk {n d:D}{T:List M'}{m:Nat}{p cell:Int}:T.length<=40->(T.map (·.1)).Nodup->m<=10->(∀ x,(pG T x).length<=12)->0<p->(d=bc (lZ T m p cell)/\(cell % 3=1 \/ cell % 3≠1/\∃ C,Zp b6K C/\W.exmAny K x6 zX=!true) \/ cell % 3≠1/\Rp b6K d)->qD K aC aS Rp Zp [n,aV T,.int m,.int p,.int cell] d
def b3j [Bx:Bd](d0r)(hC:Bx.mg "Cut"=!.ref aC)(hS:Bx.mg "SmallPrime"=!.ref aS)(MY)(PB:Ek 7 "plan_for" á [.int 0] (d8V Rp Zp)):Tk 8 "_law_plan" (top 100) ò (Pr (qD Bx.K aC aS Rp Zp)):=by
 show Nh ["_law_plan_here","_law_k","_law_tie","_law_xs","_law_wide"] ?_ λd9W=>(qC (qo 5 ND Zx)
 (qC (e0V (f0x T.Mm<|e0f LB) b2F (dU Bx.K [6,7])
  (qC (qs 8 ND<|f1q (da (RY (Đ 4)<|Đ 6)<|da dI LB))
 (qC (qs 9 ND<|Đ 2)
 (qC (qI (e38 No iV)
  (q1 (qs 9 ND (dG T.Ma (e0v (cS 1 [7] ["_law_other","_law_tie"]) Ÿ
  Ĕ
  (λd94=>bW<|e0G œ l8)
  Ľ))))
  q0)
 (q1 (qP (e3y OL No (e8u (cS 1 [3,8] ["_law_j","_law_prime","_law_xs"]) (WC rfl T.Mb<|e69 LB)
  Ĕ
  P6
  (λd94=>e0F (ME hr (Đ 2)<|Đ 0)<|Đ 1)) rfl) λe0c=>h))))))
 (qC (qI (d9b (e0F (Đ 4) dI))
  (qr<|Đ 5)
  q0)
 (q1<|a3A (dl:=[.int 0]) Bx.K ⟨rfl,rfl,rfl⟩ rfl hC rfl hS (λ_=>lB) (λpn W=>a0r a0F PB hr.m rfl<|e0B (da (Đ 2)<|e0K LB)) (λea pn=>q1<|qR (Đ 5))))))
 rintro _ _ @⟨n,d,R,m,p,cell,rl,nd,hm,iz,p0,hd⟩;ext d6r;show cZ R.zipIdx (u:=λz=>.tup [.int (z.2:Int),bA z.1]) (λi ε=>∃ o6 o7 o8 o9,ε=[.fz n,.fz<|aV R,.fz<|.int m,.fz<|.int p,.fz<|.int cell,.ow<|bc ((R.zipIdx.take i).map<|vH R m p cell),o6,o7,o8,o9]) ⟨_,_,_,_,rfl⟩ ⟨_,⟨rfl,rfl⟩,?_⟩ (λi z ε hi gR=>?_) λe3c=>?_
 ·rw[KZ,GV];rfl
 ·let#[o6,o7,Ds]:=gR;subst he;let hz:=hi;rw[J4]at hi;let#[r,h1,1]:=HI.mp hi;let ir:=(GS.mp h1).1;let wd:fU R m r.2.1<=12:=by
   ext1 fU;split
   ·lia
   ·show iz _
  let sl:=c4R a5N 13;let r1:=ne_str (ε:=[!n,some<|aV R,some<|.int m,some<|.int p,some<|.int cell,some<|bc b1q,some<|.int ((0+i:Nat):Int),some<|bA r,some<|rw Br,some<|.int m]) (ra:=e1N (rV 7)<|rC (.int 1)) (rb:=rC<|.str "h") (x:=r.2.1) wg rfl;show#[_,#[_,3],pV #[#[#[2,.i],2],.mk (m:=13)<|by decide]<|pV #[1] (pV (ε1:=[.fz n,.fz<|aV R,.fz<|.int m,.fz<|.int p,.fz<|.int cell,.ow<|bc b1q,.fz<|.int ((0+i:Nat):Int),.fz<|bA r,.fz<|rw Br,.fz<|.int (fU R m r.2.1:Nat)]) ?_ #[_,#[1,?_,.z (d:=rw (vH R m p cell (r,0+i)).2) ?_,wg,kI],.fz<|.int ((0+i:Nat):Int),.fz<|bA r,.fz<|rw Br,.fz<|.int (fU R m r.2.1:Nat),?_])]
  ·by_cases e:r.2.1="h"
   ·rw[GZ λz=>z e]at r1;rw[show fU R m r.2.1=m from if_pos e];show .f r1 rfl
   ·rw[Hb e]at r1;rw[show fU R m r.2.1=(pG R r.2.1).length from if_neg e];show .t r1 #[#[#[?_,1],OP.m (g:=bA) (x:=pG R r.2.1)]];show bh (xs:=R) (u:=bA) (h:=bA) (λt=>decide (t.2.2.1=r.2.1)) DZ #[] (λe6r=>#[_,1,eq_str wg wg,λ_=>rfl])
  ·rw[GP,GP,Hl];lia
  ·show c7 (xs:=List.range<|fU R m r.2.1) (u:=λ(j:Nat)=>.int (j:Int)) (h:=λj=>.int<|(cv (cell+((0+i:Nat):Int)) 13).getD j 0 % p) ⟨_,#[],⟨rfl,rfl⟩,(bK _).symm⟩ (by rw[HL];lia) (λe8G=>#[_,1,#[2,.l .lst<|di (by let:=Ig.mp hj;lia)],1,#[p0]]) (e1j GV)
  ·let nk:(.inl r.1:jr)∉(((R.zipIdx.take i).map<|vH R m p cell).map λr=>u7).map (·.1):=λz=>by
    rw[GV,GV]at z;let#[y,hy,e]:=GX.mp z;let#[j,hj,ey]:=HX.mp hy;rw[Hl]at hj;rw[Jx,List.getElem_zipIdx]at ey;let hjR:j<R.length:=by rw[J3]at hj;lia
    let e1:(R.map (·.1))[j]?=!r.1:=by rw[Hf,GR hjR];let:y.1.1=r.1:=Sum.inl.inj e;rw[<- ey]at this;show congrArg some this
    let:=bM nd e1 (by rw[Hf,h1];rfl)
    lia
   rw[aP hz,He]
   simp_all [vH,He,cw]
 ·let#[o6,o7,Ds]:=gR;ext d2Q;let r2:=eq_int (ε:=[!n,some<|aV R,some<|.int m,some<|.int p,some<|.int cell,some<|bc (lZ R m p cell),o6.a,o7.a,o8.a,o9.a]) (ra:=e0x Ey<|rC (.int 3)) (rb:=rC<|.int 1) (i:=cell % 3) #[2,xJ] rfl;rcases hd with⟨rfl,h|⟨h,C,hZ,hx⟩⟩|⟨h,hR⟩
  ·rw[Hb h]at r2;show .rt (.t r2 #[2])
  ·rw[GZ h]at r2;show .nx (.f r2 rfl) (.no #[4] hZ hx #[2])
  ·rw[GZ h]at r2;show .nx (.f r2 rfl) (.ok #[4] hR)
open e
universe K72
namespace L2
open PySem PySem.Spec PyProof.Rows PySem.W
theorem FQ (lt)(p:À):Prop:=∀ a b,a<b->b<p.length->lt CG wZ=false/\(lt wZ CG=false->p.getD a 0<p.getD b 0)
theorem lO (lt)(vs out:θ):Prop:=∃ p:À,p.Perm b7G/\out=p.map b5c/\FQ lt p
variable {prog:É}{w:World}{A:Ë}{E:ρ}
structure SX (c9G)(d0q)(kd:SortKind)(G:List (Addr×Obj)->List Value->Shared->Prop):Prop where
 get:∀ {own kk s a o},G own kk s->(a,o)∈own->s.heap.get? a=!o
 sub:∀ {own Vb kk s},G own kk s->b9u->G Vb kk s
 kept:∀ {own kk s h' tk},G own kk s->C0->G own kk { s with heap:=h',toks:=tk }
 grow:∀ {own kk s h' tk a o},G own kk s->C0->s.heap.objs.size<=a->h'.get? a=!o->b6E->G kn kk { s with heap:=h',toks:=tk }
 put:∀ {own kk s h' a o o'},G kn kk s->b8Q->Heap.SameBut a s.heap h'->h'.get? a=!o'->b51->G ((a,o')::own) kk { s with heap:=h' }
 turn:∀ {own:ζ}{kk:θ}{s:Ê}{v:Value},vs[kk.length]?=!v->G own kk s->wpAny ē A (call f [v]) (λr s'=>G own (kk++[r]) s') mZ s
 kind:∀ {A:Ë}{own:ζ}{kk:θ}{s:Ê}{Q:SortKind->Shared->Prop}{E:ρ},G own kk s->kk.length=vs.length->2<=vs.length->Q kd s->wpAny ē A (keyKind' kk.toArray) Q E s
 ask:∀ {A:Ë}{own:ζ}{kk:θ}{s:Ê}{i j:Nat}{C:Bool->Shared->Prop},G own kk s->kk.length=vs.length->i<vs.length->j<vs.length->C (lt i j) s->wpAny ē A (keyLt' kd (kk.getD i Value.none) (kk.getD j Value.none)) C mZ s
 ok:So.Ask lt
example{kS:Addr}{e e1:Nat}:=0
def c3k {st:SortSt}(c9Y)(hsz:keys.size=vs.length)(Sx)(Eg)(ho:lO lt vs ((arrOf st).map (·.2)).toList)(hfl)(c8n):
  wpAny ē A b2e P E s:=by
 ext d40;ext d2r
 ext d20;let s2:=IQ a64 a<|Obj.mapSeq λ_=>(arrOf st).map (·.2);obtain⟨c2,UO⟩:∃ c2,((s.heap.update kS<|Obj.mapSeq λ_=>([].toArray:Ó)).update a<|Obj.mapSeq λ_=>(arrOf st).map (·.2)).get? a=!seqObj "list" b7o c2:=
  b1D
 let g2:=S.put b5C Dg s2 UO dD;ext1 ksk_tail;try dsimp only
 show GQ (JU nk rfl ?_ (by rw[hsz,Ir];lia)<|HP _);ext d70;show GQ (JU XJ rfl ?_ (HP _) (by simp only[Iq,Jn,Array.size_map];rw[Eg,Ir];lia));ext d5d;show Hg (h ĉ c2 g2 ho)
def a0g (c9Y)(hk:keys.toList=kk)(hlen:kk.length=vs.length)(Sx)(c8n):
  wpAny ē A a8w P E s:=by
 let hsz:keys.size=vs.length:=by rw[<- hlen,<- hk,HW]
 ext d24
 ext1 ksk_end;try dsimp only
 ext d7r
 ·ext d4K;try dsimp only
  let er:(keys.zip vs.toArray).map (·.2)=vs.toArray:=by apply Array.toList_inj.mp;ext d5m
  show c3k S g Vm hsz Sx hzs ?_ rfl h;show#[c3G]
  ·change ((keys.zip vs.toArray).map (·.2)).toList=_;ext d5v
  ·ext d7s
 ·ext d6g;let ek:keys=kk.toArray:=by rw[<- hk]
  subst ek;show GQ (S.kind g hlen #[0] ?_);show GQ (IC (kat_run (Q:=λPj s'=>s'=s/\∃ p:Array Nat,e8B vs.length/\So.V3 lt p vs.length/\arrOf Pj=p.map _/\failedOf Pj=none)
   (G:=λp s'=>s'=s/\So.Pre p vs.length vs.length/\So.V3 lt p vs.length) hlen #[0] Sx a6u ?_) ?_ λ_ _ e=>e)
  ·show So.VF b8R S.ok #[0] b7q;show S.ask g hlen hi hj q
  ·ext d4F;try dsimp only
   ext d3f
   show c3k S g Vm hsz Sx RK a2K hf h
   ·rw[kat_snds hlen har]
   ·rw[HW,hz]at hb;let e1:∀ i,f0Q 0=So.g p i:=λi=>by ext1 So.g;rw[Iu,GU,KC]
    rw[e1,e1];show q2 a b RX hb
def c3e (d00)(g:G b1Q [] s)(Vm)(c79):
  wpAny ē A a9q P E s:=by
 show GQ xb
 first
  | rw[Lc]
  | (simp only)
  | rw[<- c29]
 show GQ (ksk_fold (λi s'=>∃ kA e,G b5d kA.toList s'/\kA.size=i) vs 0 s
  #[[].toArray,(0),g,1] ?step ?done)
 case step=>
  rintro j x s' hx ⟨kA,e,g',hk⟩;simp only[Nat.zero_add]at hk ⊢;let hj:=(GS.mp hx).1;show GQ<|KI (IC (S.turn (by rw[HW,hk];show hx) g') (λv V9 g2=>?_) λ_ _ hF=>hF.elim);try dsimp only
  let nk:=S.get g2 Ha;let s1:=IQ V9.heap kS<|Obj.mapSeq (·.push v);obtain⟨c2,UO⟩:∃ c2,(V9.heap.update kS<|Obj.mapSeq (·.push v)).get? kS=!_:=#[_,Jv nk _]
  show GQ (JU nk rfl ?_ (by rw[Ir];lia)<|e4N (by rw[Ir];lia));show Hg ⟨rfl,kA.push v,c2,by rw[Array.toList_push];show S.put g2 (λe79=>by rw[Hs.mp hp];show Vm.symm) s1 UO dD,by rw[Array.size_push,hk]⟩
 case done=>
  rintro s' ⟨kA,e,g',hk⟩;let nk:=S.get g' Ha;try dsimp only
  show GQ b6F;show a0g S g' Vm rfl (by rw[HW,hk,Nat.zero_add]) Sx λs2 out c g2 k2=>h s2 out c _ g2 k2
def b1Z {n:Nat}(d00)(g:G b26 [] s)(c79):
  wpAny ē A b9v P E s:=by
 ext d2t
 ext d3M;show c3e S g3 vD Sx h;let:a<((s.heap.update a<|Obj.mapSeq λ_=>([].toArray:Ó)).push<|seqObj "tuple" vs.toArray 0).objs.size:=by rw[JF];show JY NI
 show IL _ b5e
open e
def c5r {n:Nat}{Pv:List Value->Prop}(S:∀ vs,Pv vs->SX prog w A.in1.in1 Ci vs lt kd G)(hlen:∀ vs,Pv vs->vs.length=n)(Sx:n<64)(Vo)(g:G [] [] s)(h:∀ (s':Ê) vs D out c kk,Pv vs->G b52 kk s'->lO lt vs out.toList->Q sr s'):
  wpAny ē A a5J Q E s:=by
 ext d21;show b1Z S g1 #[0] λs2 out c kk g2 k2=>QJ
 show Hg #[_,1,f0R kk hv g2 k2]
variable {p OF:Pos}{x:Str}{js:À}{P:Addr}{ta:TA}{te:TE}
theorem Z7 (rs:Θ)(i j:Nat):Bool:=gM (rs.getD (d9L i) []) (rs.getD (d9L j) [])
theorem a27 (d0a):TE:=λd92=>ta σ H λe43=>∃ (v:V)(xs:π)(rs:Θ)(n:Nat)(J:Ù),vs=[v]/\(∃ l,v=.ref l/\LS K H1 l xs)/\xs.length<64/\rs.length=xs.length/\1<=n/\(∀ r∈rs,r.length=n)/\kZ P OF ğ H1/\
 (∀ H2,Sb P H1 H2->kZ P OF ğ H2->J H2)/\
 (∀ (i:Nat) x r,xs[i]?=!x->rs[i]?=!r->∀ H2,J H2->te ja H2 λy H3=>(∃ t,y=.ref t/\H3 t=!.tup (r.map V.int))/\f' H2 H3/\J H3)/\
 ∀ H2 D (p:À),J H2->Sb P H1 H2->kZ P OF ğ H2->H2 D=none->p.Perm b7H->FQ (Z7 rs) p->Q sr a85
def a0W {n:Nat}(h:∀ r∈rs,r.length=n):So.Ask (Z7 rs):=by
 let len:∀ i j,(rs.getD (d9L i) []).length=(rs.getD (d9L j) []).length:=λi j=>by
  cases rs with
  | nil=>rfl
  | cons r0 rs=>
   let hh:∀ i,(List.getD ĉ []).length=n:=λi=>by let hi:i % (r0::rs).length<(r0::rs).length:=Nat.mod_lt _ ė;ext d7k
   rw[hh,hh]
 show#[a8F,λ{i j k} h1 h2=>b7h (len ĉ) (len ĉ) h1 h2]
def vP {k:Nat}(d0Z):
  PE X a2M (a27 X.K P OF Ĭ js ta te):=by
 ext d2n;let#[v,xs,rs,n,J,1,hcv,Sx,hlen,n1,hn,T,hJ,U8,a1u]:=q1;ext d2G;let Vo:∀ (Q':List Value->Shared->Prop)(E':ρ),a2u->e3m s2:=by
  ext d6O
  cases ru;let T5:e5o H2 l xs:=by
   ext d6H
   ·show .inl a43
   ·show .inl a4N
   ·show .inr h1
  ext d3l
 show let G:List (Addr×Obj)->List Value->Shared->Prop:=λown kk s'=>∃ H',e6y s'/\J H'/\Sb P H1 H'/\kZ P OF Ĭ H'/\H' c'=!(mG c'<|X.env.qual++"<lambda>")/\ (∀ q∈own,X.s₀.heap.objs.size<=q.1/\∀ r∈X.pn++a2k,r.1≠q.1)/\∀ (i:Nat) u,kk[i]?=!u->∃ t r,u=.ref t/\t≠P/\rs[i]?=!r/\H' t=!(.tup<|r.map V.int);?_;let SKG:∀ us,e0k us->SX X.prog X.w X.A.in1.in1 (.ref f) us (Z7 rs) (tuples' true) G:=λus VI=>by
  let ul:=VI.length;let Qp:∀ {own:ζ}{kk:θ}{s:Ê},G own kk s->kk.length=us.length->YD s.heap n kk rs:=λ{own kk s} g hl=>by let#[H',I',Y8,a5]:=g;show#[#[],λi v row e12=>?_];let#[t,r,1,_,AU]:=a5 i v h1;rw[h2]at h3;cases h3;let#[_,its',rv,o,ho,hc,m,hd]:=I'.LJ t _ h4;show#[hn _<|GY h2,t,o,its'.toArray,m,1,ho,hc,hd,by simpa using c5Z rv]
  show#[λ{own kk s a o} g hm=>?_,λ{own Vb kk s} g hs=>?_,λ{own kk s h' tk} g hk=>?_,λ{own kk s h' tk a o} g hk hz ho hd=>?_,λ{own kk s h' a o o'} g ha hb ho hd=>?_,λ{own kk s v} hv g=>?_,λ{A own kk s Q E} g hl h2 q=>?_,λ{A own kk s i j C} g hl hi hj q=>?_,a0W hn]
  ·ext d4x
  ·ext d5G;show#[H',I'.MM λe4e=>?_,j,a1,a2,a3,λe4e=>a4 q<|hs q hq,a5];rcases Hx.mp hq with z|z
   ·show I'.pin q b8U
   ·ext d7L
  ·ext d5F
  ·ext d5G;ext d3S;show#[c5N,a5]
   ·rcases Hr.mp (hq) with rfl|z
    ·ext d4o
    ·show I''.pin q nN
   ·rcases Hr.mp hq with rfl|z
    ·ext d2R
    ·show a4 q z
  ·ext d5G;ext d29;let I1':e9d H' { s with heap:=h',toks:=s.toks }:=e4P (λy c e z=>by
     ext d3t;show p5 _ q2) (λe4e=>by
     rcases Hx.mp hq with z|z
     ·ext d72
     ·rcases Hx.mp z with z|z
      ·show ha q z
      ·show (a4 _ Ha).2 q nN)
   show#[c5O,a5]
   ·rcases Hr.mp (hq) with rfl|z
    ·show#[ho,p2,p3,p4,hd]
    ·show I1'.pin q nN
   ·rcases Hr.mp hq with rfl|z
    ·show a4 (a,o) Ha
    ·show a4 q (Hk _ z)
  ·ext d5G;ext d8H;let hi:kk.length<rs.length:=by let:=(GS.mp hx).1;lia
   let UZ:=GR hi;show M8 (e1t c2y
    (f1n _<|QE.deeper _) (U8 kk.length xv _ hx UZ H' j)) fun y s' ⟨z,H3,I3,rz,⟨t,ez,et⟩,sm,j3⟩=>?_
   subst ez
   cases rz;let tP:t≠P:=λz=>by let#[Fo]:=a2.same sm;rw[z,hP]at et;cases et
   show#[c32,λi u hu=>?_];rcases Nat.lt_or_ge i kk.length with c|c
   ·rw[HQ c]at hu;let#[t',r,QK]:=a5 i u hu;show#[t',r,VV,e3,sm ĉ e4]
   ·rw[HU c]at hu
    cases hd:i - kk.length with
    | zero=>
     rw[hd]at hu;cases hu;let:i=kk.length:=#[]
     ext d4y;show#[t,_,1,tP,UZ,et]
    | succ m=>rw[hd]at hu;cases hu
  ·let T6:=Qp g hl;let#[fs,oh]:=T6.Xp n1;show kat_kind (T:=.type "int") f1 #[] (λv hv=>by let#[i,t,1]:=f3 v hv;show .now) (by rfl) q
  ·let T6:=Qp g hl;let rl:=T6.1;let#[l1,b1,o1,xs1,k1,z1,g1,c1,d1,i1]:=T6.2 i (kk[i]'#[]) (rs[i]'#[]) (GR<|by lia)<|GR #[];let#[l2,b2,o2,xs2,k2,z2,g2,c2,d2,i2]:=T6.2 j (kk[j]'#[]) (rs[j]'#[]) (GR<|by lia)<|GR #[];rw[GU,GR<|show i<kk.length by lia,GU,GR<|show j<kk.length by lia];change wpAny ĉ (keyLt' (tuples' true) kk[i] kk[j]) Ĉ;rw[z1,z2];let s1:xs1.size=n:=by rw[<- HW,i1.length,l1]
   let s2:xs2.size=n:=by rw[<- HW,i2.length,l2]
   show kat_lt g1 d1 g2 d2 ?_;rw[s1,s2,GZ<|by lia];show DC i1 i2 (l1.trans l2.symm) ?_;let e3:∀ k,(hk:k<rs.length)->rs.getD (k % rs.length) []=rs[k]:=λf06=>by rw[Nat.mod_eq_of_lt hk,GU,GR hk];rfl
   unfold Z7 at q;rw[e3 i<|by lia,e3 j<|by lia]at q;show q
 show c5r SKG (λus VI=>VI.length.symm) Sx Vo #[c5P,λe4e=>(nomatch hq),λi u hu=>by cases hu] λs' us D out c kk VI g ko=>?_;ext d5G;ext d2d
 ext d2q
 ·rw[GP,q1.length_eq,HL,Ir]
  lia
 ·simpa using p1
open e
def Rd.nt (c8D)(n:∀ ps,o≠.tbl ps)(h:Rd F a o):Rd F' a o:=h.imp (λh=>e a o h n) λgR=>by let#[r,q]:=gR;show#[r,e a _ q nofun]
mutual
def DR.nt {F F':Hp}(c8D):∀ (d:D)(v:V),e1S v->e99 v
 | .non,_,h=>h
 | .bl _,_,h=>h
 | .int _,_,h=>h
 | .str _,_,h=>h
 | .lst l,_,h=>let ⟨a,vs,q1,q2,q3⟩:=h;#[c4w]
 | .scr l,_,h=>let ⟨a,vs,q1,q2,q3⟩:=h;#[c6t,e7n vs q3]
 | .tup l,_,h=>let ⟨a,vs,q1,q2,q3⟩:=h;#[c4w]
 | .dct _ l,_,h=>let ⟨a,vs,q1,q2,q3,q4⟩:=h;#[c6t,q3,e7n _ q4]
 | .ins _ _ l,_,h=>let ⟨a,dx,vs,q1,q2,q3,q4⟩:=h;#[a,dx,vs,q1,e ĉ q2 nofun,q3,e7n _ q4]
def LO.nt {F F':Hp}(c8D):∀ (l:List D)(vs:List V),e1e vs->LO F' l vs
 | [],_,h=>h
 | d::l,_,h=>let ⟨v,ws,q1,q2,q3⟩:=h;#[v,ws,q1,DR.nt e d v q2,e7n ws q3]
end
def DR.hid (t:H P=!.tbl ps)(d1i):DR (ay P H) d v:=DR.nt (λe44 n=>by rw[aA (λz=>by rw[z,t]at q;cases q;show n _ rfl)];show q) d v h
def Sd.put (c7r)(c9t)(l:f' F' H')(hx:e99 x)(i):Sd F' (σ.set i !x) H' AA:=#[l,by simpa using S.len,λj c q=>by
 rw[Jj]at q ⊢;by_cases z:i=j
 ·rw[if_pos z]at q;by_cases z2:i<ε.length
  ·rw[if_pos z2]at q;cases q;let:=S.len;show#[x,by rw[if_pos z,if_pos<|by lia],hx]
  ·rw[if_neg z2]at q;cases q
 ·rw[if_neg z]at q ⊢;let#[v,ZL]:=S.rd j c q;show#[v,h1,DR.mono e ĉ h2]]
def uF (s:f0S H'):f' (ay P H) (ay P H'):=λe44=>by
 by_cases z:b=P
 ·rw[z,bF]at q;cases q
 ·rw[aA z]at q ⊢;show s b o z q
def x0 (f:F P=none)(n:H P≠none)(s:f' F H')(e):f' ŏ (ay P H'):=λe44=>by
 let z:b≠P:=λz=>by unfold grow at q;rw[z,if_neg n,f]at q;cases q
 rw[aA z];unfold grow at q;by_cases c:H b=none
 ·rw[if_pos c]at q;show q
 ·ext d4k;show s ĉ q
universe L2
namespace K72
open PySem L2
open PyProof.Rows (boot_all boot_bool boot_dict boot_int boot_list boot_sorted boot_str boot_tuple)
theorem lpD:Pos:=⟨658,46,658,110⟩
theorem lqD:Str:=("_law_due":Str)++".<locals>."++"<lambda>"
abbrev E5:Type:=Int×Int×Int×Str×D
abbrev WE (e:E5):D:=.tup [c4W,.str e.2.2.2.1,e.2.2.2.2]
abbrev Yx (e:E5):D:=.tup [.int e.1,.str e.2.2.2.1,.int e.2.2.1,e.2.2.2.2]
abbrev Yw (e:E5):Ξ:=[e.1,e.2.1,e.2.2.1]
theorem xq (c72)(rb)(g:Str×Nat)(z):E5:=((z.2:Int)+L g.1,(g.2:Int),(z.2:Int),g.1,if rb g.1=true then rw z.1 else .non)
theorem dc (gs:List (Str×Nat))(d0H)(rb):List E5:=gs.flatMap λg=>msgs.zipIdx.map (f0W g)
def b3W:dc (gs++[g]) msgs L rb=dc gs msgs L rb++msgs.zipIdx.map (f0W g):=by ext1 dc;ext d7t
def b2r:∀ {gs:List (Str×Nat)},(dc gs msgs L rb).length=gs.length * msgs.length
 | []=>by simp[dc]
 | g::gs=>by let ih:=b2r (msgs:=msgs) (L:=L) (rb:=rb) (gs:=gs);unfold dc at ih ⊢;rw[J7,Ho,ih,GP,J3,HM,K7,Nat.add_comm]
inductive tF (Pt:Addr)(c8p):Prop
 |mk (F:Hp) (gs nl:η) (msgs:Θ) (L:Str->Int) (rb:Str->Bool):LO F [aY gs,cB nl L,MP (gs.map λg=>(.inr g,.bl (rb g))),tb msgs] vs->f' F (ay Pt H)->kZ Pt lpD lqD H->gs.Nodup->nl.Nodup->(∀ g∈gs,g∈nl)->gs.length * msgs.length<64->gs.length<=60->msgs.length<=60 ->
   (∀ x H' q,Sb Pt H H'->kZ Pt lpD lqD H'->q.Perm a9s->FQ b1r q->DR (ay Pt H') (.lst (q.map λi=>((dc gs.zipIdx msgs L rb).map Yx).getD i .non)) x->Q x H')->tF Pt vs H Q E
def c4A:au [c3r,"_law_due_here","_law_place","_law_name","_law_turn","_law_message","_law_read"] â (d8Z 102):=Pa
def b3E (F:Fu K "_law_due" (top 102) f fd)(d0b)(T:sH mg):d9Z N5 6 f fd â (tF Pt):=by
 show F.okL L c4A Y7 b1p
 ·let#[c6x,_]:=h;show hv.length
 ·let#[c6x,sF,tab,gnd,RU,gin,MN,gz,mz,q]:=h;let ND:=c4A.nd;ext d76;show#[_,(af (d8R qo 4 (de LB))
   (af (e3B (e0V (f0x T.Mm<|e0B LB) (bX K rfl<|ag Fw (ag lJ aI)) (dU K [5,6])
  (q1 (e0V (f0x T.Mm<|e0K LB) (bX K rfl<|ag CB Fx) (dU K [7,8])
  (qC (qs 9 ND SA)
 (qC (qI (dV<|cN b9m)
  (q1<|qs 9 ND (Đ 8))
  q0)
 (q1<|qA (aE<|e9C d8 (a9 (kL<|da (RY (Đ 7)<|e3S (Đ 6)) (da (Đ 5)<|da (Đ 7) (da (Đ 6)<|e69 LB))) K')) (λe0c=>h))))))))
   (af (pS 4 ND (vP (k:=1) (x:="_law_entry") (js:=[]) (N':=["_law_entry"]) hr.m rfl rfl T.QA a1C b5h (d9n d8)
  (λe1d hr=>c8<|a9 c04 (a9 c04<|a9 (pI (z4 K) (pv 0) aG) K')) (λd94 _=>rfl) rfl))
   (aq (bo (RB 5 rfl (cS 5 [] ["_law_time","_law_place","_law_turn","_law_name","_law_read"]) (aD<|Đ 4)
  (λd94=>bX K (n:=5) rfl<|f0y (ag (pC 1)<|ag (pC 2) (ag (pC 3)<|ag (pC 4) aI)))
  P6
  (d8J (da (Đ 3)<|e1M zc)))))))),?_]
  let tl:∀ i,(dc c05 msgs L rb).length<=64:=λi=>by rw[b2r,Hl,J3];let:=KO msgs.length<|e8C gs.length;omega
  show tQ.nx (jD _ sFH hv) oE λσ1 H1 F1 u1 S1=>?_;show tQ.ex S1 (lH gs.zipIdx (u:=λz=>.tup [.int (z.2:Int),.str z.1]) (λi ε=>∃ o5 o6 o7 o8 o9,ε=[.fz<|aY gs,.fz<|cB nl L,.fz<|MP (gs.map λg=>ZB),.fz<|tb msgs,.ow<|.lst ((dc (gs.zipIdx.take i) msgs L rb).map WE),o5,o6,o7,o8,o9]) ⟨_,_,_,_,_,rfl⟩ ⟨_,⟨rfl,rfl⟩,?_⟩ (λi e8c=>?_)) λe9n=>?_
  ·rw[KZ,GV];rfl
  ·let#[Td,o9,he]:=gR;subst he;let hg':=hg;rw[J4]at hg;let#[gn,h1,1]:=HI.mp hg;let gm:=GY h1;let t1:=tl<|i+1;rw[aP hg',b3W,Ho,GP,J3]at t1;let Xd:cX (gs.map λg=>((.inr g:jr),D.bl<|rb g)) (.inr gn)=!(.bl<|rb gn):=bY (e1X (by rw[Jw];show gnd))<|Hm gm;show⟨_,⟨_,rfl,rfl,rfl⟩,f1o (u:=λz=>.tup [.int (z.2:Int),rw z.1]) (λj ε=>∃ o7 o8 o9,ε=[.fz<|aY gs,.fz<|cB nl L,.fz<|MP (gs.map λg=>ZB),.fz<|tb msgs,.ow<|.lst ľ,.fz<|.int ((0+i:Nat):Int),.fz<|.str gn,o7,o8,o9]) ⟨_,_,_,by rw[Jt,J0,HF];rfl⟩ ⟨_,⟨rfl,rfl⟩,?_⟩ (λj e8b=>?_) λε' gR=>?_⟩
   ·rw[KZ,GV];rfl
   ·let#[o7,Ds]:=gR;subst he;let hz':=hz;rw[J4]at hz;let#[msg,h2,1]:=HI.mp hz;let jm:=(GS.mp h2).1;show#[_,#[_,3],pV #[1] (pV (ε1:=[.fz<|aY gs,.fz<|cB nl L,.fz<|MP (gs.map λg=>ZB),.fz<|tb msgs,.ow<|.lst ľ,.fz<|.int ((0+i:Nat):Int),.fz<|.str gn,.fz<|.int ((0+j:Nat):Int),.fz<|rw msg,.fz<|if rb gn=true then rw msg else .non]) ?_ ⟨_,⟨rfl,?_,.z ⟨⟨⟨rfl,⟨rfl,rfl,.k (bY (e1X (by rw[Jw];show RU))<|Hm (gin gn gm)) kS⟩,.i⟩,rfl,rfl,rfl,rfl,rfl⟩,by simp,rfl⟩⟩,.fz<|.int ((0+j:Nat):Int),.fz<|rw msg,.fz<|if rb gn=true then rw msg else .non,?_⟩)]
    ·cases hb:rb gn with
     | true=>
      rw[hb]at Xd;ext d5a;show .t #[2,.k Xd kS] #[1]
     | false=>
      rw[hb]at Xd;rw[if_neg λz=>nomatch z];show .f #[2,.k Xd kS] rfl
    ·rw[GP,Ho,GP,Hl,J3];omega
    ·let e:((dc c05 msgs L rb++(msgs.zipIdx.take<|j+1).map (f0W (gn,0+i))).map WE)=ľ++[WE<|f0W (gn,0+i) (msg,0+j)]:=by rw[aP hz'];simp
     rw[e];rfl
   ·let#[o7,Ds]:=gR;subst he;show#[.fz<|.int ((0+i:Nat):Int),.fz<|.str gn,o7,o8,o9,?_];rw[HJ,aP hg',b3W]
  let#[Td,o9,1]:=hI;rw[HJ]at S6;let tz:(e3g rb).length<64:=by rw[b2r,J3];show MN
  generalize dc gs.zipIdx msgs L rb=es at S6 q tz;let#[a,sa,Fa,_,vs,ha,Ql]:=S6.ro 4 _ rfl;let vl:=Ql.length;rw[GP]at vl;let ZZ:=tab.same S6.b0;let FP:F6 Pt=none:=by
   cases z:F6 Pt with
   | none=>rfl
   | some o=>
    ext d2y
  let ro:∀ {i:Nat}{v:V}{G:Hp},vs[i]?=!v->Sb Pt H6 G->∃ e t us,es[i]?=!e/\v=.ref t/\t≠Pt/\G t=!(.tup<|[c4W]++us):=λ{i v G} hx jG=>by
   let hi:i<es.length:=by let:=(GS.mp hx).1;omega
   let#[v',ZL]:=Ql.at (show (es.map WE)[i]?=some (WE es[i]) by rw[Hf,GR hi];rfl)
   rw[hx]at h1;cases h1;let#[t,us,1,ht,_,ws,2,_,ws,2,_,ws,2,_]:=h2;let nt:t≠Pt:=λz=>by rw[z,FP]at ht;cases ht
   show#[es[i],t,ws,GR hi,1,nt,jG ĉ nt<|f0U ht]
  show#[_,sa,.ref a,vs,es.map Yw,(3),Sb Pt H6,1,#[a,1,LS.of ha],#[0],by rw[GP];show vl.symm,by decide,λe45=>?_,ZZ,λG sb _=>sb,λi x r hx hr G jG=>?_,λe8M=>?_]
  ·let#[e,_,1]:=GX.mp hr;rfl
  ·let#[e,t,us,he,1,nt,hG]:=ro hx jG;rw[Hf,he]at hr
   cases hr;show#[_,1,t,_,(0),kJ,cT (j:=0) rfl,_,1,t,_,(1),kJ,cT (j:=1) rfl,_,1,t,_,(2),kJ,cT (j:=2) rfl,(by change 3<=sizeLine;decide),λT' G3 e3 h3 hT=>#[#[T',1,hT],e3,jG.trans e3.sb]]
  ·let Hd:∀ b o,b≠Pt->H6 b=!o->b≠d/\upd G d b3e b=!o:=λe3p=>by let:=sb b o nb hb;let nd:=aj this hD;show#[nd,by rw[aa nd];show this]
   let dP:d≠Pt:=λz=>by let#[Fo]:=tb;rw[<- z,hD]at hP;cases hP
   rw[vl]at pm;let tb':=tb.same<|aZ Ě hD (o:=.lst<|p.map λi=>f0M .non);let pin:∀ i∈p,i<es.length:=λi hi=>Ig.mp<|pm.mem_iff.mp hi;let hd5:DR c0c (.lst<|p.map λi=>(es.map WE).getD i .non) uo:=by
    show#[d,_,1,by rw[aA dP,ai],(qc Ql (λi hi=>by rw[GP];show pin i hi)).mono λe3o=>?_];let nb:b≠Pt:=λz=>by rw[z,FP]at hb;cases hb
    rw[aA nb];show (f0V nb<|f0U hb).2
   let sbH:Sb Pt H (upd G d<|.lst (p.map λi=>f0M .non)):=λe3p=>(f0V nb<|S6.b0 _ _ hb).2;let F0:F Pt=none:=by
    cases z:F Pt with
    | none=>rfl
    | some o=>have:=e1V z;rw[bF]at this;ext d4M
   let Hn:H Pt≠none:=by let#[Fo]:=tab;rw[hP];show nofun
   let k6:f' (d8W H6) c0c:=(x0 F0 Hn (sFH.trans S6.b0) S6.b0).trans<|uF λe3p=>(f0V nb hb).2;show tP.go (Sd.put S6.a k6 LC hd5 4) (d:=.lst<|p.map λi=>(es.map Yx).getD i .non) ?_ λy H12 SQ _ hy=>?_
   ·let g5:∀ {g:E5->D}{i:Nat},i∈p->(es.map g).getD i .non=g (e4V yO):=λ{g i} hi=>by let:=pin i hi;rw[GU,GU,Hf,GR this];rfl
    let e1:(p.map λi=>(es.map WE).getD i .non)=(p.map λi=>e4V yO).map WE:=by rw[GV];show HH λi hi=>g5 hi
    let e2:(p.map λi=>(es.map Yx).getD i .non)=(p.map λi=>e4V yO).map Yx:=by rw[GV];show HH λi hi=>g5 hi
    rw[e1,e2];let pl:(p.map λi=>e4V (yO:E5)).length<=1000:=by rw[GP,pm.length_eq,HL];omega
    show c7 (xs:=p.map λi=>e4V (yO:E5)) (u:=WE) (h:=Yx) DZ pl (λe _=>b6t) rfl
   ·show q ĉ p (sbH.trans SQ.sb) (tb'.same SQ) pm so (DR.mono (x0 (bF ..) (by let#[Fo]:=tb';rw[hP];show nofun) (LC.trans SQ) SQ) ĉ hy)
open L2.Wy
def QQ.keys (L):(S.Ls.map (·.1)).Nodup:=by rw[L.key];ext d7c
def a6P (h:xZ p t R m)(tw:∀ b∈t,b.length=m)(hm:msg.length=m)(hf:Vw p msg):Mx.Mp p R ((Mx.R0 t msg).map p7)=msg:=by
 rw[Mx.Uz];ext1 Mx.R0;rw[GV];show JE (by rw[GP,h.len,hm]) λi e12=>?_;rw[GP]at h1;let rm:=Ii h1;let im:i<m:=by rw[<- h.len];show h1
 rw[List.getElem_map];change Mx.dot R[i] _ % p=msg[i];rw[Mx.Nx];change Mx.dot R[i] (Mx.R0 t msg) % p=msg[i];rw[<- Mx.QI t m R[i] msg tw hm (h.Q5 _ rm),<- Mx.NB];let e:(Mx.Q8 t m R[i]).map p7=f0p i:=by
  ext1 Mx.Q8 Mx.cols Mx.Lw;ext d73;let hj:=Ig.mp hj;let:=h.ones i j im hj;rw[GU,GR h1,Mx.N4]at this;show Eq.trans this ?_;ext d3O
  ·rw[if_pos c,if_pos c.symm]
  ·rw[if_neg c,if_neg<|Ne.symm c]
 rw[e,Mx.MS Ĉ hm,GU,GR h2];let:=hf _<|Ii h2;show IV this.1 this.2
theorem FZ (T:List M'):Nat->Str->Int
 | 0,_=>0
 | n+1,x=>Rn.Po T (FZ T n) x
def b98 {T:List M'}{L L':Str->Int}{x:Str}(h:∀ t∈T,t.2.2.1=x->L t.2.1=L' t.2.1):Rn.Po T L x=Rn.Po T L' x:=by ext1 Rn.Po;ext d8f;ext d60;rw[h t h1<|HA h2]
def c3x {T:List M'}{nl:η}(nd:nl.Nodup)(up:∀ t∈T,∃ u v:Nat,u<v/\nl[u]?=!t.2.1/\nl[v]?=!t.2.2.1):∀ (i:Nat)(x:Str),nl[i]?=!x->∀ n n',i<n->i<n'->FZ T n x=FZ T n' x:=λi=>by
 induction i using Nat.strongRecOn with
 | ind i ih=>
  intro x hx n n' h h';obtain⟨n,rfl⟩:∃ k,n=k+1:=#[n - 1,#[0]]
  obtain⟨n',rfl⟩:∃ k,n'=k+1:=#[n' - 1,#[0]]
  show b98 λe6r e=>?_;let#[u,v,uv,hu,hv]:=up t ht;rw[e]at hv;let:=a6x nd hv hx rfl;show ih u #[0] _ hu n n' #[0] #[0]
def QQ.tk (N:QQ nl S):∃ L,Rn.Tk S.Ls nl L:=by
 let nd:=N.Lv.RU;show#[FZ S.Ls nl.length,#[?_,nd,N.up,λe6r=>by let:=N.pos t ht;lia,λe0Z=>?_]]
 ·rw[N.key];ext d7c
 ·let#[i,hi]:=JV.mp hx;let:=(GS.mp hi).1;show c3x nd N.up i x hi nl.length (nl.length+1) this #[]
def b2H:∀ {l:List α}{x:α},l.find? p=!x->∃ i:Nat,l[i]?=!x/\(∀ j y,j<i->l[j]?=!y->p y=false)/\p x=true:=by
 intro l
 induction l with
 | nil=>intro x h;cases h
 | cons y l ih=>
  intro x h;rw[IY]at h
  cases hy:p y with
  | true=>rw[hy]at h;cases h;show#[(0),1,λj y h=>absurd h<|Kl _,hy]
  | false=>
   rw[hy]at h;let#[i,Lf]:=ih h;show#[i+1,h1,λj z hj hz=>?_,h3]
   cases j with
   | zero=>cases hz;show hy
   | succ j=>show h2 j z #[] hz
def b5l:∀ {ms:List MZ}{cs:Cs},(∀ m∈ms,dm r1 m.1=dm r2 m.1)->bi p r1 msg fo ms cs=e9h cs
 | [],_,_=>rfl
 | m::ms,cs,h=>by
  change bi p r1 msg fo ms _=e9h _;let e:dR p r1 msg fo cs m=dR p r2 msg fo cs m:=by ext1 dR;rw[h m Ha]
  rw[e];show b5l λe0Z=>h x (Hk _ hx)
variable {S:NS}{R:List LT}{p:Int}{m:Nat}{c:Cl}{C:Addr}{ř:List bC}
abbrev mV (S:NS):η:=e7i S.names.length
def WN.a0L (c7Z):(mV S).Nodup/\(mV S).length=S.names.length/\∀ x∈S.names,x∈mV S:=by ext d2N;let#[WX,Wd]:=lu W.ln.Vs S.names.length #[0];show#[WX,Wd,Mw.Sf ĉ WX W.Wc (by rw[Wd];show Hi _)]
def WN.late (c7Z)(pz)(K0):eO c fK kP (cB (mV S) L):=by
 ext d2N;let#[WX,Wd,_]:=W.a0L;let nz:S.names.length<=20:=by ext1 NS.names;rw[GP];show pz
 show .mk (W.WW<|by omega) WX #[0] (by let:=W.SS;omega) (λi e0Z e6r e=>?_) λe0Z=>K0.late x<|W.ln.nin x (W.Wc x hx);let#[b,hb,e1,h]:=c2H W.ln.Vs S.names.length #[0] i x hx;show h _ ?_;let#[y,_,1]:=GX.mp hb;let e1:y=x:=e1;show GX.mpr #[t,HB.mpr #[ht,Hb<|by rw[e,e1]],1]
def P4.fl (d0W)(F:zx Av)(c8U)(p1):y8 p Av ř none:=#[hp,p1,F,λe0Z _=>let ⟨r,h1,_,h3,h4⟩:=G.row x hx;#[r,h1,AU]]
abbrev vy (S:NS)(p:Int)(c9E)(msg:Ξ):Cs:=f0r (f0q msg none Av [])
def WN.vals (c7Z)(d0W)(hm:msg.length=m)(hk:∃ t∈S.Ls,t.1=k):bq qJ k=!Mx.dot (cI p ř none Av m k) msg % p:=by let#[mQ]:=hk;let#[n,hn]:=JV.mp<|W.mem ht;let:=b19 W.ln.fits (p:=p) (fo:=none) (λe0Z _=>by let#[r,xo]:=G.row x hx;ext1 dm;rw[h1];show h2) hm n _ hn;show b0P Nd (by rw[eL];show W.ln.fits.nd) this
def WN.X' (c7Z)(h:k∈S.into g):∃ t∈S.Ls,t.1=k:=by let#[t,ZL]:=GX.mp h;show#[t,(HB.mp h1).1,h2]
def a1P (h:¬ ∀ g∈S.LW,∃ w,bx Ps ĩ g N m=.inr w):AK S m N:=by
 show let q:=λg=>match bx ż ĩ g N m with|.inl _=>true|.inr _=>false;?_
 cases hf:S.LW.find? q with
 | none=>
  exfalso;show h λg hg=>?_;let:=IX.mp hf g hg
  cases e:bx _ _ g N m with
  | inr w=>show#[w,1]
  | inl ks=>show (this (by show (a6L=true);rw[e])).elim
 | some g=>
  let#[n,Lf]:=b2H hf;let h3:a6L=true:=h3
  cases e:bx ż ĩ g N m with
  | inr w=>cbv
  | inl ks=>
   show .mk h1 e λi x hi hx=>?_;let h4:(match bx _ ĩ x N m with|.inl _=>true|.inr _=>false)=false:=h2 i x hi hx
   cases e:bx ż ĩ x N m with
   | inr w=>show#[w,1]
   | inl ks=>cbv
def a7d (hP)(Sh:Mx.Sh p m t):∃ b:Bool,(b=true/\∃ R,d6 p t m=.tup BV/\xZ p t R m)\/(b=false/\∃ x y,d6 p t m=.tup jI):=by
 rcases c35 hP Sh with⟨R,h1,h2⟩|⟨v,h1,_⟩
 ·show#[true,.inl #[1,R,ZL]]
 ·show#[false,.inr #[1,_,_,h1]]
structure b0F (c:Cl)(c7j)(S:NS)(c9E)(d0w)(c72)(J:Str->D)(rb:Str->Bool):Prop where
 judge:Ny c fK b2X b2Y
 a96:∀ g∈S.LW,(rb g=true/\∃ R,J g=.tup BV) \/ (rb g=false/\∃ x y,J g=.tup jI)
 run:∀ msgs:Θ,b1a->msgs.length<=7->Lam c C S (mV S) ř m p msgs L J (vy S p ř) a9e
def WN.a7G (c7Z)(pz)(lz:S.LW.length<=8)(hP)(p1)(d0W)(K0)(a0V:m<=100):∃ J rb,b0F c C S ř m p L J rb:=by
 ext d2w;let#[WX,Wd,a3H]:=W.a0L;let tz:=W.SS;let a31:∀ g∈S.LW,g∈S.names:=λg hg=>by let#[q,h1,1]:=GX.mp hg;show Hm (HB.mp h1).1
 let gr:∀ x∈ak S,dm (bG Av ř) x.1=dm ř x.1:=λe0Z=>by change ((j4 ĉ).map _).getD []=_;rw[a3x W.ln.fits.nd hx];rfl
 let ti:∀ g,(S.into g).length<=100:=λg=>by
  ext1 NS.into;rw[GP];let:=HK (λt:M'=>decide (t.2.2.1=g)) S.Ls
  lia
 let te:∀ g,cH S p (bG Av ř) none Av m g=e27 g:=λg=>by show HH λk _=>?_;show HH λj _=>by rw[b5l gr]
 let one:∀ g,∃ b:Bool,(b=true/\∃ R,d6 p ũ m=.tup BV/\xZ p ũ R m)\/(b=false/\∃ x y,d6 p ũ m=.tup jI):=λg=>a7d hP (zE #[] (ti g) a0V).1;show#[λg=>d6 p ũ m,λg=>Classical.choose<|one g,e2h #[] W.ln.RU λe6r=>Hm<|W.mem ht,λg _=>?_,λmsgs hm mz=>?_]
 ·rcases Classical.choose_spec (one g) with⟨h1,R,h2,_⟩|⟨h1,h2⟩
  ·show .inl #[h1,R,h2]
  ·show .inr #[ZL]
 ·let MN:=Nat.mul_le_mul lz mz;show#[e2h #[] W.ln.RU λe6r=>Hm<|W.mem ht,W.late pz K0,λg hg=>#[a3H g<|a31 g hg,a31 g hg],?_,WX,λmsg Ym=>?_,λg hg msg Ym=>?_,#[],#[],#[],#[],p1,hP]
  ·let:=W.ln.RU;unfold NS.names at this;show this.sublist (K9 _ Jp)
  ·show SH.mk (W.WW<|by lia) W.Wc #[] hP (G.fl W.ln.fits #[] p1)
  ·let#[ml,mf]:=hm msg Ym;rcases Classical.choose_spec (one g) with⟨h1,Rg,h2,rd⟩|⟨h1,x,y,h2⟩
   ·rw[if_pos h1,h2];rw[te]at rd;let SS:(e27 g).length<=1000:=by ext1 cH;rw[GP];let:=ti g;lia
    let key:Mx.Mp p Rg ((S.into g).map λk=>(bq qJ k).getD 0)=msg:=by
     let e:(S.into g).map (λk=>(bq qJ k).getD 0)=(Mx.R0 (e27 g) msg).map p7:=by ext1 Mx.R0 cH;ext d7I;rw[W.vals G ml<|W.X' hk];rfl
     rw[e];show a6P rd (λe3b=>?_) ml mf;let#[k,_,1]:=GX.mp hb;ext1 cI;rw[GP,HL]
    let:=TF.yes (C:=C) (ks:=S.into g) #[] p1 (λe8a=>#[rd.fit z hz,by rw[rd.Q5 z hz];show SS]) (by rw[rd.len];lia) (by let:=ti g;lia) λf06=>#[_,W.vals G ml<|W.X' hk]
    rw[key]at this;show this
   ·rw[if_neg (by rw[h1];show nofun),h2];show .no
def c0S (c86):(lZ T m p cell).map (·.1)=T.map (·.1):=by
 ext1 lZ;rw[GV];show Ll λi=>?_;rw[Hf,Hf,J4]
 cases T[i]? <;> rfl
def WN.a5b {cell:Int}(c7Z)(Ff)(c8U)(hm:m<=100):e9c (e74 cell):=by
 let nd:((e74 cell).map (·.1)).Nodup:=by rw[c0S];show Ff
 let rl:=W.SS;let kl:=congrArg List.length<|c0S S.Ls m p cell;rw[GP,GP]at kl;let pm:=W.ln.LF;show⟨λe0Z=>?_,λr h=>?_,#[]⟩
 ·let#[mQ]:=GX.mp<|pm.mem_iff.mp hx;let#[Fn]:=HX.mp ht;let QR:vH S.Ls m p cell (t,j)∈lZ S.Ls m p cell:=Hm<|GY (by rw[J4,GR hj,ej,Nat.zero_add];rfl);let wl:fU S.Ls m t.2.1<=1000:=by ext1 fU pG;let:=HK (λr:M'=>decide (r.2.2.1=t.2.1)) S.Ls;split <;> lia
  show#[_,b1m nd _ QR,?_,λe8a=>?_,?_]
  ·change (((List.range _).map _).length:Int)=_;rw[GP,HL];ext1 fU;by_cases c:t.2.1="h"
   ·rw[if_pos c,c,W.a3Y];rfl
   ·rw[if_neg c,W.a0S c];change _=((S.into t.2.1).length:Int)
    ext1 NS.into pG;rw[GP]
  ·let#[k,_,1]:=GX.mp hz;ext d3C
  ·change ((List.range<|fU S.Ls m t.2.1).map _).length<=1000;rw[GP,HL];show wl
 ·let:=Hm (f:=λr:bC=>r.1) h;rw[c0S]at this;show W.ln.keys.mem_iff.mpr ?_;rw[<- W.ln.Ls,GV];show this
def WN.a74 {c:Cl}{C:Addr}(c7Z)(Ff)(pz)(hP)(p1)(m1:1<=m)(m2:m<=3)(iz:∀ x,(pG S.Ls x).length<=12)(e1:e9F (d9i aC) zX=!true)(e2:e9F (d9i aS) zX=!true)(cell:Int):
  ∃ pl,e9c pl/\qD K aC aS (cJ c C (sZ c C)) b20 b0w (bc pl):=by
 ext d2w;let rl:=W.SS;let O:=W.wok pz<|some [];let own:∀ h,∃ pl,P4 m p _ pl/\qD K aC aS (cJ c C<|sZ c C) (λl A=>xX c aC l A\/io c aS l A) b0w _:=λh=>#[e74 cell,W.a5b Ff #[]<|by lia,.mk rl Ff #[] iz #[]<|.inl #[1,h]]
 by_cases hc:cell % 3=1
 ·show own (.inl hc)
 by_cases hw:∀ g∈S.LW,∃ w,bx ż ĩ g 21 m=.inr w
 ·by_cases MN:p<(S.LW.length)
  ·show own (.inr #[hc,_,.inr<|e75 hw #[] m1 #[] #[] MN,e2])
  ·let hO:∀ ks∈[([]:Ξ)],WG S _ 21/\∀ g∈S.LW,∃ w,e7f (some "h") g 21 m=.inr w:=λks hk=>by rw[Hs.mp hk];show#[O,by rw[<- W.Mu];show hw]
   let lz:S.LW.length<=S.Lv.length:=by ext1 NS.LW;ext d3R
   let M:=W.make hP hO (by rw[Ie,Nat.one_mul];lia) p1 #[] (by simp;lia) ė #[];let e:[c9 S 21 m []]=d7 S (some "h") 21 m [[]]:=by ext1 c9 d7;rw[W.Mu];rfl
   show#[_,W.good hP M.Xn<|by lia,.mk rl Ff #[] iz #[]<|.inr #[hc,e75 hw #[] m1 #[] #[] #[] ?_]];rw[e];show .mk M
 ·show own (.inr #[hc,_,.inl<|e75 (a1P hw) #[] m1 #[] #[],e1])
open e
def b5k:∀ {gs:η}{k:Nat},e2Y L a9e=(dc (gs.zipIdx k) msgs L rb).map λe=>(e.1,Yx e)
 | [],_=>rfl
 | g::gs,k=>by let ih:=b5k (msgs:=msgs) (L:=L) (rb:=rb) (gs:=gs) (k:=k+1);unfold cg dc at ih ⊢;rw[List.zipIdx_cons,J7,J7,He,ih];congr 1;rw[GV];rfl
theorem sf (a b:E5):Prop:=a.2.1<b.2.1\/a.2.1=b.2.1/\a.2.2.1<b.2.2.1
def rf (c91)(k:Nat):(l.zipIdx k).Pairwise λa b=>a.2<b.2:=by show Kc.mpr λe4g hij=>?_;rw[List.getElem_zipIdx,List.getElem_zipIdx];omega
def b5m {gs:η}:(e3g rb).Pairwise sf:=by
 show List.pairwise_flatMap.mpr #[λg _=>?_,(rf gs 0).imp λh e0Z e3G=>?_]
 ·rw[Ji];show (rf msgs 0).imp λh=>.inr #[1,Int.ofNat_lt.mpr h]
 ·let#[wG]:=GX.mp hx;let#[wG]:=GX.mp hy;show .inl (Int.ofNat_lt.mpr h)
def b8H {q:À}{n:Nat}(h:q.Perm tW):q.Nodup/\q.length=n/\∀ i∈q,i<n:=#[h.nodup_iff.mpr List.nodup_range,by rw[h.length_eq,HL],λi hi=>Ig.mp<|h.mem_iff.mp hi]
def iO (c77){i:Nat}{d:α}(h:i<l.length):l.getD i d=l[i]:=by rw[GU,GR h];rfl
def b1N {es:List E5}(hb:es.Pairwise sf)(pm:q.Perm (List.range es.length))(st:FQ (Z7 (es.map Yw)) q):ZD (es.map (·.1)) q:=by
 let#[nd,ql,qn]:=b8H pm;intro a b RX QT;let#[ZL]:=st a b RX QT;let ga:=iO (d:=0) (show a<q.length by lia);let gb:=iO (d:=0) QT;rw[ga,gb]at h1 h2 ⊢;let la:=qn _<|Ii (show a<q.length by lia);let lb:=qn _<|Ii QT;let ne:q[a]≠q[b]:=λz=>by let:=(KH nd).mp z;lia
 let row:∀ {i:Nat} (h:i<es.length),(es.map Yw).getD (i % (es.map Yw).length) []=Yw es[i]:=λ{i} h=>by rw[GP,Nat.mod_eq_of_lt h,iO (by rw[GP];show h),List.getElem_map]
 let tm:∀ {i:Nat} (h:i<es.length),(es.map _).getD i 0=es[i].1:=λ{i} h=>by rw[iO (by rw[GP];show h),List.getElem_map]
 unfold Z7 at h1 h2;rw[row la,row lb]at h1 h2;rw[tm la,tm lb];let bef:∀ {i j:Nat} (hi:i<es.length) (hj:j<es.length),i<j->sf es[i] es[j]:=λhi hj h=>Kc.mp hb ĉ hi hj h;let cmp:∀ {x y:E5},gM (Yw x) (Yw y)=if x.1=y.1 then (if x.2.1=y.2.1 then (if x.2.2.1=y.2.2.1 then false else decide _) else decide _) else decide _:=rfl
 rw[cmp]at h1;by_cases c:es[q[b]].1=es[q[a]].1
 ·show#[#[],λ_=>?_];rw[if_pos c]at h1;rcases Nat.lt_or_ge q[a] q[b] with h|h
  ·show h
  ·exfalso;let NI:q[b]<q[a]:=#[]
   rcases bef lb la NI with h3|⟨h3,h4⟩
   ·rw[if_neg<|by lia]at h1;let:=IF h1
    lia
   ·rw[if_pos h3,if_neg<|by lia]at h1;let:=IF h1
    lia
 ·rw[if_neg c]at h1;let:=IF h1;show#[#[],λz=>by lia]
def b8o {n:Nat}(pp:p.Perm tW)(pq:q.Perm tW)(sp:ZD kz p)(sq:ZD kz q):p=q:=by
 let up:∀ {p:À},ZD kz p->p.Pairwise λi j=>f0O 0<=f0P 0/\(f0P 0<=f0O 0->i<j):=λ{p} s=>Kc.mpr λe4g hij=>by let:=s i j hij hj;rw[iO hi,iO hj]at this;show this
 show List.Perm.eq_of_pairwise (λa b _ _ e12=>?_) (up sp) (up sq) (pp.trans pq.symm)
 lia
def a1N (pm:q.Perm (List.range (e2Y L λg msg=>if rb g=true then rw msg else .non).length))(st:ZD ((e2Y L λg msg=>if rb g=true then rw msg else .non).map (·.1)) q)(pm':q'.Perm a9s)(Pj:FQ b1r q'):
  (q.map λi=>((e2Y L λg msg=>if rb g=true then rw msg else .non).map (·.2)).getD i .non)=q'.map λi=>((e3g rb).map Yx).getD i .non:=by
 rw[b5k]at pm st ⊢;rw[GP]at pm;rw[GV]at st ⊢;let:=b1N b5m pm' Pj;rw[b8o pm pm' st this];rfl
universe K72
namespace L2
open PySem PySem.Spec PyProof.Rows
variable {H:Hp}
theorem DY (H)(x:V)(as:List (jr×Int)):Prop:=∃ d ķ,x=.ref d/\Rd H d Ax/\Paired a6v ķ as
def a0D (hu:X.A.units+2<cLine):NP X wD (λe6D=>∃ as bs,DY H x as/\DY H y bs/\Q (.bl (not (oj as bs))) H):=by
 ext d3I;let#[as,bs,#[a,ka,1,ha,pa],#[b,kb,1,hb,pb],q]:=hw
 cases rx
 cases ry;let#[_,la,va,ra,da]:=ha.ok I.LJ;let#[_,lb,vb,rb,db]:=hb.ok I.LJ;show W.keq_ne la lb da db #[] (λ_=>c3o (a8D) I (by change X.A.units+1+0<cLine;lia) rb pb ra pa) ?_;rw[b0B ra pa rb pb];show#[wv]
def xE:∀ {as:List (jr×Int)}{ķ:ξ},ķ.map (·.1)=as.map (·.1)->LO F (as.map λa=>.int a.2) ĸ->Paired a6v ķ as
 | [],[],_,_=>.nil
 | a::as,kv::ķ,h,⟨v,ws,e,h1,h2⟩=>by rw[Hu,Hu]at h;injection h with ha hb;rw[Hu]at e;injection e with e1 e2;subst e1 e2;show .cons #[ha,h1] (xE hb h2)
inductive fDi:D->D->D->Prop
 |mk {as bs:List (jr×Int)}{x y:D}:x=MP (as.map λa=>(a.1,.int a.2))->y=MP (bs.map λa=>(a.1,.int a.2))->oj as bs=true->fDi x y UF
instance a3J:TJ fDi (λx y H Q=>∃ as bs,DY H x as/\DY H y bs/\Q (.bl (not (oj as bs))) H):=λF H x y u v d Q s z hu hv q=>by
 let#[e1,e2,e3]:=z;rename_i as bs;subst e2 e1;let get:∀ {as:List (jr×Int)}{u:V},DR F (MP<|as.map λa=>(a.1,.int a.2)) u->DY H u as:=λh=>by let#[a,ķ,e,h1,h2,h3]:=h;rw[GV]at h2 h3;show#[a,ķ,e,h1.mono s,xE h2 h3]
 show#[as,bs,get hu,get hv,tP.at s q (by rw[e3];rfl)]
def b1j {xs ys:η}(c72)(nd:ys.Nodup)(l:xs.length=ys.length)(h:∀ x∈xs,x∈ys):oj (xs.map λx=>c06) (ys.map λx=>c06)=true:=by
 let key:∀ {ys:η},∀ x∈ys,look (ys.map λx=>(.inr x,L x)) pP=!L x:=λ{ys}=>by
  induction ys with
  | nil=>show λ_ h=>(Ih h).elim
  | cons y ys ih=>
   intro x hx;ext1 look;rw[Hu,IY];by_cases c:y=x
   ·rw[c,Hb rfl];rfl
   ·rw[GZ λz=>c<|Sum.inr.inj z];rcases Hr.mp hx with z|z
    ·show (c z.symm).elim
    ·show ih x z
 ext1 oj;rw[GP,GP,l,beq_self_eq_true,Bool.true_and,Io];intro d hd;let#[x,hx,1]:=GX.mp hd;show Hb (key x<|h x hx)
open e
theorem VO:Nat->D->Bool
 | 0,.int _=>true
 | 0,.str _=>true
 | 0,.non=>true
 | 0,_=>false
 | k+1,.lst l=>l.all (VO k)
 | k+1,.tup l=>l.all (VO k)
 | k+1,d=>VO k d
def kq {K:Ψ}{k:Nat}(ih:∀ {d:D}{u v:V},VO k d=true->e1S u->e1S v->OS K H k u v):∀ {l:χ}{vs ws:π},l.all (VO k)=true->e1e vs->e1e ws->Paired oq vs ws
 | [],_,_,_,h,h'=>by cases h;cases h';show .nil
 | d::l,_,_,hl,⟨v,vs,e,h1,h2⟩,⟨w,ws,e',h3,h4⟩=>by subst e e';rw[Lp,IM]at hl;show .cons (ih hl.1 h1 h3) (kq ih hl.2 h2 h4)
def a01 {K:Ψ}(s):∀ {k:Nat}{d:D}{u v:V},VO k d=true->e1S u->e1S v->OS K H k u v:=λ{k}=>by
 induction k with
 | zero=>
  intro d u v h hu hv
  cases d <;> try cases h
  ·show .inr (.inr #[hu,hv])
  ·show .inl #[_,hu,hv]
  ·show .inr (.inl #[_,hu,hv])
 | succ k ih=>
  intro d u v h hu hv
  cases d with
  | lst l=>
   ext d3x;show .inr (d83 .inl LS.of)
  | tup l=>
   ext d3x;show .inr (d83 .inr NC.of)
  | _=>show .inl (ih h hu hv)
def c0u {K:Ψ}{k:Nat}(s)(h:l.all (VO k)=true)(hu:DR F Ch u)(hv:DR F Ch v):c0p K H k u v:=by ext d3x;show#[a,b,vs,ws,2,LS.of<|s _ _ h1,LS.of<|s _ _ h3,kq (a01 s) h h2 h4]
inductive a5k (n:Bool):D->D->D->Prop
 |mk {l:χ}:l.all (VO 2)=true->a5k n Ch Ch (.bl n)
def Dv {K:Ψ}:TJ (a5k n) (d9a 2 (.bl n)):=λe0w=>by
 cases z with
 | mk h=>show#[c0u s h hu hv,e0U rfl]
def a58 {k:Nat}{xs:η}:(xs.map D.str).all (VO k)=true:=by
 rw[Jy,Io];intro x _
 induction k with
 | zero=>rfl
 | succ k ih=>show ih
def c3C {ms:Θ}:(ms.map λm=>D.lst (m.map .int)).all (VO 2)=true:=by rw[Jy,Io];intro m _;change (m.map D.int).all (VO 1)=true;rw[Jy,Io];show λ_ _=>rfl
universe L2
namespace K72
open PySem L2 L2.Wy
open PyProof.Rows (boot_all boot_bool boot_dict boot_int boot_list boot_sorted boot_str boot_tuple)
structure a5L (mg:Ω):Prop extends c4H mg where
 MV:mg "isinstance"=none
theorem zOf:Option D->Sl
 | none=>.un
 | some d=>.fz d
def Sd.ss (c7r):Ss F H F σ H (ε.map zOf):=by
 let old:∀ {i:Nat}{s:Sl},(ε.map zOf)[i]?=!s->∃ o,ε[i]?=!o/\zOf o=s:=λq=>by
  cbv
 show#[f'.refl _,S.le,f'.refl _,ao S.le,by simpa using S.len,c5X];all_goals
  let#[o,ZL]:=old q
  cases o with
  | none=>cases h2
  | some d'=>cases h2 <;> show S.rd i _ h1
def qNw (c9O):e0Q (λE e3i=>∃ F0 H0,e4S H):=λe1l D I gR=>by let#[F0,H0,q]:=gR;show h F0 H0 ñ s σ H D I q
def b0M:∀ p∈([2,3,5,7,13,999983]:Ξ),My.O5 p=true:=by intro p hp;simp only[Hr,Ih,Kk]at hp;rcases hp with rfl|rfl|rfl|rfl|rfl|rfl <;> show My.Ye jw į
def QQ.a8r (L):nl.filter (λz=>decide (z∈S.LW))=S.LW:=by
 let hh:=L.Mu;let e1:∀ l:η,l.filter (λz=>decide _)=(l.filter λz=>decide (z≠_)).filter λz=>decide (z∈S.LW):=λl=>by
  rw[Ld];show JZ λz _=>?_;by_cases c:z∈S.LW
  ·rw[Hb c,Bool.true_and,Hb<|show z≠("h") from λe=>hh<|e▸c]
  ·rw[GZ c,Le]
 rw[e1 nl,L.Lv.ord,<- e1,List.filter_map]
 conv=>rhs;unfold NS.LW
 congr 1;show JZ λe4e=>?_;let nd:=L.Lv.nd
 cases hr:VL q.2 with
 | true=>show Hb (Hm<|HB.mpr #[hq,hr])
 | false=>
  show GZ λz=>?_;let#[q',ZL]:=GX.mp z;let#[AU]:=HB.mp h1;let:=b4Z nd h3 hq h2;rw[this,hr]at h4;cases h4
theorem YI (Pt Pd l:Addr)(G:Hp)(msgs:Θ):Prop:=∃ vs,G l=!.lst vs/\LO (ay l (ay Pd (ay Pt G))) (msgs.map rw) vs
def YI.mono (d0U)(h:YI Pt Pd l G msgs):YI Pt Pd l G' msgs:=let ⟨vs,a,b⟩:=h;#[vs,e ĉ a,b.mono<|aR (aR<|aR e)]
variable {Pt Pd:Addr}
def b5H [Bx:Bd](h1:e63 á (Pr Ay))(h2:e2R á (V4 (xX c aC)))(h3:e2R á (V4 (io c aS))):e2R á (d8V Ay b20):=
 (h1.qx.or<|h2.or h3).imp λe20 h=>h.imp id λgR=>by let#[F,l,A,s,ZL,q]:=gR;show h2.elim (λz=>.inl c1X) λz=>.inr c1X
inductive nX (K:Ψ)(Pt Pd:Addr)(c8p):∀(a:Addr) (ns:Ξ),vs=Ty->LS K H a Ķ->H Pt=!.tbl [].toArray->H Pd=!.tbl [].toArray->Pt≠Pd->(∀ H',Q ű H')
inductive Lw1 (Pt Pd Lm a:Addr)(H:Hp)(x p:Int)(m:Nat)(vn vt vo vp vl:V)(d1J):∀(OM OK:Ç) (msgs:Θ),σ=[!.ref a,!.int x,!vn,!vt,!vo,!.int p,!.int (m:Int),!vp,!vl,!.ref Lm,OM,OK,pY,none,none,none]->f' H G->YI Pt Pd Lm G msgs->msgs.length=i->b1a
def c3p:au ["_law_script","_law_cell",c5o,"_law_order","_law_prime","_law_many","_law_plan_here","_law_listeners","_law_messages","_law_k","_law_xs","_law_late_here","_law_told_late","_law_reads","_law_name","_law_answer","_law_handed","_law_told"] tV (d8Z 103):=Pa
instance a0I [Bx:Bd](T:a5L Bx.mg)(TL:PySem.W.kitOne Bx.K Ņ Ņ=!true)(e1:PySem.W.exmAny Bx.K (.ref aC) [.ref aC,.ref aS]=!true)(e2:PySem.W.exmAny Bx.K (.ref aS) [.ref aC,.ref aS]=!true)(Of:Mo 1 "_law_cell_at" ú (gZ Bx.K))(MY)(VA:Mo 6 "_law_net" í (jQ Bx.K c))(PM:Mo 6 "_law_long_net" í (jQ Bx.K c))(Lu)(Mc:MG 2 c.Mg "ordered" Þ (Pr (iw c fK)))(Up:Mo 8 "_law_plan" ò (Pr (qD Bx.K aC aS (cJ c C (sZ c C)) (λl A=>xX c aC l A\/io c aS l A))))(Uq:Mo 1 "_law_late" ["_law_ties","_law_order"] (Pr a1M))(Nm:Mo 3 "lateness" ["net"] (Pr (eO c fK)))(NZ:Gu 8 "judged" à [.non] (Pr (Ny c fK))/\∀ F,LO F [.non] [.non])(XA:Mo 9 "run" ì (tu c C Pt))(VB:Mo 6 "_law_due" â (tF Pd)):Tk 10 "law" (top 103) ["_law_script"] (nX Bx.K Pt Pd):=by
 intro f fd F;show F.k c3p λLz A outer s H vs Q E hr h=>?_
 ·let#[a,ns,1,hS,hT,hD,nPD,q]:=h;let ND:=c3p.nd;show#[_,(af (pS 1 ND<|cr b7 (aO Of hr.m rfl<|a9 (pv 0) (a9 aG K')) aG) (af (jg (dT bn cF (dO b7 NR (dO bQ NR (Đ 1) dI) dI) dI) (aq<|yr (aO PM hr.m rfl<|a9 (cr bQ (pv 1) aG) (a9 (pv 0) K')) (bX Bx.K (n:=3) rfl<|ag (pN 2 ND) (ag (pN 3 ND)<|ag (pN 4 ND) aI)))<|aq (yr (aO VA hr.m rfl<|a9 (cr bQ (pv 1) aG) (a9 (pv 0) K'))<|bX Bx.K (n:=3) rfl (ag (pN 2 ND)<|ag (pN 3 ND) (ag (pN 4 ND) aI))))
   (af (pS 5 ND<|ME hr (de<|da dI (da dI<|da dI (da dI<|da dI (da dI LB)))).p (dO b7 NR (Đ 1) dI)) (af (pS 6 ND<|RY dI (dO b7 NR (dO bQ NR (Đ 1) dI) dI))
   (af (pS 7 ND<|aO Up hr.m rfl (a9 (pv 2)<|a9 (pv 3) (a9 (pv 6)<|a9 (pv 5) (a9 (cr b7 (aO Of hr.m rfl<|a9 (pv 0) (a9 aG K')) aG) K'))))
   (af (pS 8 ND<|fe (Đ 2) Lu hr.m) (af (fm (dT (oX Bx.K<|E3 hr) Dv (Đ 8) (RB 0 rfl (cS 1 [8] ["_law_name","_law_listeners"]) (aD<|Đ 4)
  Ĕ
  (λ_ _ _ _ _=>bW<|b4j (aU hr) (Đ 0) (Đ 1))
  Ľ)) (aq<|bo m4) ML)
   (af (pS 9 ND<|cP K')
   (af (bB Hq rfl (fY rfl T.Mb<|a9 (cr b7 (cr i8 aG<|cr bQ (pv 1) aG) aG) K') (pN 10 ND)
   (af (pS 11 ND<|aO MY hr.m rfl (a9 (cr i8 (aO Of hr.m rfl<|a9 (pv 0) (a9 aG K'))<|pv 10)<|a9 aG K')) (aq (aE (Rj Bx.K Hv Hz Hy aH (pv 9) (a9 (dL 0 rfl (cS 1 [5,11] ["_law_j","_law_prime","_law_xs"]) (WC rfl T.Mb<|da (Đ 6) LB)
  Ĕ
  P6
  (λ_ _ _ _ _=>dO b7 NR (dO bQ NR (ME hr (Đ 2)<|Đ 0) dI)<|Đ 1)) K'))))))
   (af (qNw<|qs 12 ND (dF Uq hr.m rfl<|da (Đ 3) (da (Đ 4) LB))) (af (qNw<|qs 13 ND (dF Nm hr.m rfl<|da (Đ 2) LB)) (af (qNw (qI (PW.pt<|A7 (dT (a0D<|E3 hr) a3J (Đ 13)<|Đ 12) (lm<|dT (oX Bx.K<|E3 hr) Dv (Zy a8t (gC rfl) rfl T.Q9 boot_list<|da (Đ 13) LB) (fe (Đ 2) Mc hr.m)))
  (qr WT)
  q0)) (af (qNw<|qo 14 ND Zx) (af (qNw (qLi Hq rfl (c0q<|dFd NZ hr.m rfl (da (Đ 2)<|da (Đ 7) (da (Đ 6)<|da (Đ 5) LB))) (bX Bx.K (n:=2) rfl<|ag (pN 15 ND) (ag (pN 16 ND) aI)) (dU Bx.K [15,16])
  (q1<|qP (bV (aU hr) (pv 14) (Đ 15) (dM bn cF (ME hr (Đ 16) dI) iV) rfl) (λ_ _ _ h=>h))))
   (af (qNw (XH (K:=Bx.K) (n:=0) (aW (i:=17) ND rfl rfl rfl (cS 1 [] ["_law_message"]) (aD<|Đ 9)
  Ĕ
  P6
  (λ_ _ _ _ _=>Zy a8t (gC rfl) rfl T.Q9 boot_list<|da (Đ 0) LB)) rfl))
   (af (pS 18 ND<|aO XA hr.m rfl (da (Đ 2)<|da (Đ 7) (da (Đ 6)<|da (Đ 5) (da (Đ 17) LB))))
   (af (fm (PW.pt<|CV (oA<|cN (bL (DV Bx.K) rfl T.MV bT<|a9 (pv 18) (a9 (jV (v:=.ty "list") rfl T.Q9 boot_list rfl) K'))) (lm<|dT (oX Bx.K<|E3 hr) Dv (Đ 17) (Đ 9))) (aq<|bo m4) ML)
   (aq<|bo (pM (Ed Bx.K (k:=2)<|E3 hr) (pv 18) (aO VB hr.m rfl<|da (Đ 8) (da (Đ 12)<|da (Đ 14) (da (Đ 9) LB))) rfl))))))))))))))))))),?_]
  show av λZ hZ=>?_;show#[_,1,a,(0),ns,1,by decide,hS,λc1=>#[c1,(2147483647),2,show (0:Int)<2147483647 by decide,?_]];generalize c1 % 2147483647=x;show hZ ĉ (av λZ hZ=>?_);show#[λσ G=>∃ vn vt vo nl S,σ=[some<|.ref a,some<|.int x,!vn,!vt,!vo,none,none,none,none,none,none,none,none,none,none,none,none,none,none]/\f' H G/\DR G (aK c S) vn/\DR G (aV S.Ls) vt/\DR G (aY nl) vo/\nl.length<=20/\S.Ls.length<=40/\(∀ z,lL S z<=12)/\QQ nl S,?_,ue,[none,some<|.int x],decide (x / 126 % 9=4),M0<|N6 rfl (Sg bH),eq_int ⟨⟨rfl,rfl,⟨⟨by decide,by decide⟩⟩⟩,rfl,⟨by decide⟩⟩ rfl,λG e=>?_]
  rotate_left
  ·show ku (λg=>?_) (λg=>?_);all_goals
    show#[_,1,x,(1134),2,#[by decide,by decide],_,1,a,x / 1134,ns,1,e.seq hS,λy H2 nl S Pu hy k6 rl ci L=>?_];let#[tp,_,1,XN,vn,_,1,hn,vt,_,1,ht,vo,_,1,ho,1]:=hy;show#[tp,_,1,NC.of XN,1,_,_,1,_,_,1,_,[],2,vn,vt,vo,nl,S,1,e.trans Pu,hn,ht,ho,k6,rl,ci,L]
  rintro σ G ⟨vn,vt,vo,nl,S,rfl,eG,hn,ht,ho,k6,rl,ci,L⟩;show hZ ĉ (av λZ hZ=>?_);let W:=L.wn k6 rl;let#[Lt,K0]:=L.tk;obtain⟨p,ep,hp⟩:∃ p:Int,RC ([2,3,5,7,13,999983].map D.int) (x % 6)=!.int p/\p∈([2,3,5,7,13,999983]:Ξ):=by let#[v,h1,h2]:=WhR (xs:=([2,3,5,7,13,999983]:Ξ).map D.int) (i:=x % 6) (Ij x<|by decide) (by let:=HV x (show (0:Int)<6 by decide);show this);rw[Hf]at h1;let#[p,h3,1]:=HI.mp h1;show#[p,h2,GY h3]
  let hP:=b0M p hp;let Vi:2<=p:=((My.LH p).mp hP).1;let p1:p<=1000000:=by
   simp only[Hr,Ih,Kk]at hp
   lia
  obtain⟨m,em,m1,m3⟩:∃ m:Nat,1+x / 6 % 3=(m:Int)/\1<=m/\m<=3:=by let b1:=Ij (x / 6) (show (3:Int)≠0 by decide);let b2:=HV (x / 6) (show (0:Int)<3 by decide);show#[(1+x / 6 % 3).toNat,#[],#[],#[]]
  obtain⟨n,en,n7⟩:∃ n:Nat,(3+x / 18) % 7=(n:Int)/\n<7:=gk (3+x / 18) (show 0<7 by decide);show tP.go (F:=ue) (ε:=[none,some<|.int x]) (M0<|N6 rfl (Sg bH)) (d:=.int p) ⟨⟨⟨rfl,rfl,rfl,rfl,rfl,rfl,rfl⟩,by simp,rfl⟩,⟨rfl,rfl,⟨by decide⟩⟩,.l .lst ep⟩ λ_ H3 e3 _ hx=>?_
  cases hx;show hZ ĉ (av λZ hZ=>?_);show tP.go (F:=ue) (ε:=[none,some<|.int x]) (M0<|N6 rfl (Sg bH)) (d:=.int (m:Int)) (by rw[<- em];show⟨rfl,⟨⟨rfl,rfl,⟨⟨by decide,by decide⟩⟩⟩,rfl,⟨by decide⟩⟩,.i⟩) λ_ H4 e4 _ hx=>?_
  cases hx;show hZ ĉ (av λZ hZ=>?_);let e24:=e3.trans e4;let eH4:=eG.trans e24;let hn4:=DR.mono e24 ĉ hn;let ht4:=DR.mono e24 ĉ ht;let ho4:=DR.mono e24 ĉ ho;show#[_,1,_,1,_,1,_,1,_,1,a,(1),ns,1,by decide,eH4.seq hS,λc2=>#[c2,(2147483647),2,show (0:Int)<2147483647 by decide,?_]];generalize c2 % 2147483647=y;let#[ř,G4,RP]:=W.a74 (c:=c) (C:=C) (aC:=aC) (aS:=aS) (K:=Bx.K) L.keys L.Lv.len hP p1 m1 m3 ci e1 e2 y;show#[H4,[aK c S,aV S.Ls,.int (m:Int),.int p,.int y],bc ř,f'.refl _,#[_,_,1,hn4,_,_,1,ht4,_,_,2,_,_,2,_,_,3],RP,λvp H5 e5 hvp=>?_];show hZ ĉ (av λZ hZ=>?_);let hT5:=(eH4.trans e5) ĉ hT;let hD5:=(eH4.trans e5) ĉ hD;let hd2:∀ {G:Hp}{ps qs:Ó}{d:D}{v:V},G Pt=!.tbl ps->G Pd=!.tbl qs->DR G d v->DR (ay Pd<|ay Pt G) d v:=λt u h=>DR.hid (by rw[aA nPD.symm];show u)<|DR.hid t h;let hn5:=hd2 hT5 hD5<|DR.mono e5 _ _ hn4;let ht5:=hd2 hT5 hD5<|DR.mono e5 _ _ ht4;let ho5:=hd2 hT5 hD5<|DR.mono e5 _ _ ho4;let a8Q:=hd2 hT5 hD5<|DR.mono (aM Ě e5) _ _ hvp;let Zl:∀ {G:Hp},f' (ay Pd<|ay Pt G) G:=λ{G}=>LC.trans LC;let lz:=L.lz;let pz:=L.Lv.len;show tP.go (F:=ay Pd<|ay Pt H5) (ε:=[none,none,some<|aK c S]) (M0<|M0 (N6 hn5<|Sg Zl)) (d:=aY S.LW) ⟨rfl,rfl,by decide,⟨#[]⟩⟩ λvl H6 e6 _ hvl=>?_;let hT6:=e6 ĉ hT5;let hD6:=e6 ĉ hD5;let k2:∀ {G G':Hp},f' G G'->f' (ay Pd<|ay Pt G) (ay Pd<|ay Pt G'):=λe=>aR<|aR e;let nt:∀ {G:Hp}{ps qs:Ó}{F:Hp}{d:D}{v:V},G Pt=!.tbl ps->G Pd=!.tbl qs->f' F G->DR F d v->DR (ay Pd<|ay Pt G) d v:=λt u e h=>hd2 t u<|DR.mono e _ _ h;let a4k:=nt hT6 hD6 (aM (Zl (G:=H5)) e6) hvl;show hZ ĉ (av λZ hZ=>?_);show#[ay Pd<|ay Pt H6,[none,none,none,none,some<|aY nl,none,none,none,some<|aY S.LW],false,M0<|M0 (M0<|M0 (N6 (DR.mono (k2 e6) _ _ ho5)<|M0 (M0<|M0 (N6 a4k<|Sg Zl)))),⟨rfl,bh (xs:=nl) (u:=.str) (h:=.str) (λz=>decide (z∈S.LW)) #[1,.l .lst] #[] λz hz=>#[_,1,#[2,b2t (n:=false)],λ_=>rfl],?_⟩,λH7 e7=>uE ?_]
  ·rw[L.a8r];show .mk a58
  let hT7:=e7 ĉ hT6;let hD7:=e7 ĉ hD6;let e57:=e6.trans e7;let eH7:=(eH4.trans e5).trans e57;let hn7:=DR.mono (k2 e57) ĉ hn5;let ht7:=DR.mono (k2 e57) ĉ ht5;let ho7:=DR.mono (k2 e57) ĉ ho5;let a8P:=DR.mono (k2 e57) ĉ a8Q;let a8R:=DR.mono (k2 e7) ĉ a4k;show hZ ĉ (av λZ hZ=>?_);show#[(by change 0<=sizeLine;decide),λLm H8 e8 h8 hLm=>?_];let hT8:=e8 ĉ hT7;let hD8:=e8 ĉ hD7;let nLP:Lm≠Pt:=λz=>by rw[z,hT7]at h8;cases h8
  let nLD:Lm≠Pd:=λz=>by rw[z,hD7]at h8;cases h8
  let eH8:=eH7.trans e8;show hZ ĉ (av λZ hZ=>?_);show#[_,1,x,(18),2,#[by decide,by decide],(3),x / 18,2,3+x / 18,(7),2,show (0:Int)<7 by decide,(3+x / 18) % 7,1,#[],#[],?_];rw[en,J8];show iP (lo:=0) (n:=n) (Lw1 Pt Pd Lm a H7 x p m vn vt vo vp vl) #[none,none,[],1,e8,#[[],hLm,1],1,λ_ h=>nomatch h] ?_ ?_
  ·rintro i σ G hi ⟨OM,OK,msgs,rfl,eG,hM,hl,hm⟩;rw[Ka];let hTG:=eG ĉ hT7;let hDG:=eG ĉ hD7;show#[_,1,a,(1),ns,1,by decide,(eH7.trans eG).seq hS,λc2=>?_];show#[_,1,c2,(i:Int),2,?_];show#[ue,[.int<|c2+(i:Int),.int 3],rw (cv (c2+(i:Int)) 3),bH,#[_,_,2,_,_,3],.mk<|by decide,λxl G1 XX VS=>?_];let gh:f' (grow ue G G1) (ay Lm<|ay Pd (ay Pt G1)):=λb o w=>by
    let#[w1,w2]:=gy w;let z1:b≠Pt:=λz=>by rw[z,hTG]at w1;cases w1
    let z3:b≠Pd:=λz=>by rw[z,hDG]at w1;cases w1
    let z2:b≠Lm:=λz=>by let#[vs,hv,_]:=hM;rw[z,hv]at w1;cases w1
    rw[aA z2,aA z3,aA z1];show w2
   let hM1:=hM.mono XX;let#[vs,hv,hd]:=hM1;let st:=c4R (c2+(i:Int)) 3;show#[_,1,.inl #[1,_,LS.of hv],?_];show tP.go (F:=ay Lm<|ay Pd (ay Pt G1)) (ε:=[none,none,none,none,none,some<|.int p,some<|.int (m:Int),none,none,none,none,some<|rw (cv (c2+(i:Int)) 3)]) (M0<|M0 (M0<|M0 (M0<|N6 rfl (N6 rfl<|M0 (M0<|M0 (M0<|N6 (DR.mono gh _ _ VS) (Sg<|LC.trans (LC.trans LC))))))))
    (d:=rw ((List.range m).map λj=>(cv (c2+(i:Int)) 3).getD j 0 / 3 % p)) (c7 (xs:=List.range m) (u:=λ(j:Nat)=>.int (j:Int)) (h:=λj=>.int<|(cv (c2+(i:Int)) 3).getD j 0 / 3 % p) ⟨m,#[],⟨rfl,rfl⟩,(bK _).symm⟩ (by rw[HL];lia) (λj hj=>#[_,1,#[#[2,.l .lst<|di (by let:=Ig.mp hj;lia)],1,#[#[by decide,by decide]]],1,#[#[]]])<|congrArg D.lst GV) λy G2 e2 _ hy=>?_
   let vl':=hd.length;rw[GP]at vl';let hv2:=e2 ĉ hv;show#[Lm,vs,y,2,hv2,(by rw[vl',hl];let:sizeLine=2 ^ 24:=rfl;lia),_,_,msgs++[(List.range m).map λj=>(cv (c2+(i:Int)) 3).getD j 0 / 3 % p],1,bg (eG.trans<|XX.trans e2) h8,⟨_,ai,?_⟩,by rw[Ho,hl];rfl,λmsg Ym=>?_]
   ·rw[He];let eu:ay Lm (ay Pd<|ay Pt (upd G2 Lm<|.lst (vs++[y])))=ay Lm (ay Pd<|ay Pt G2):=by
     funext b;by_cases z:b=Lm
     ·rw[z,bF,bF]
     ·rw[aA z,aA z];by_cases z3:b=Pd
      ·rw[z3,bF,bF]
      ·rw[aA z3,aA z3];by_cases z2:b=Pt
       ·rw[z2,bF,bF]
       ·rw[aA z2,aA z2,aa z]
    rw[eu];show (hd.mono<|aR (aR<|aR e2)).app<|.one (DR.mono (λb o w=>?_) ĉ hy);unfold grow at w;by_cases c:G1 b=none
    ·rw[if_pos c]at w;let z1:b≠Pt:=λz=>by rw[z,XX ĉ hTG]at c;cases c
     let z3:b≠Pd:=λz=>by rw[z,XX ĉ hDG]at c;cases c
     let z2:b≠Lm:=λz=>by rw[z,hv]at c;cases c
     rw[aA z2,aA z3,aA z1];show w
    ·rw[if_neg c]at w;show aR (aR<|aR e2) _ _ w
   ·rcases Hx.mp Ym with h|h
    ·show hm msg h
    ·rw[Hs.mp h];show#[by rw[GP,HL],λz hz=>?_];let#[j,_,1]:=GX.mp hz;show#[Ij _<|by lia,HV _<|by lia]
  ·rintro σ G ⟨OM,OK,msgs,rfl,eG,⟨vs,hv,hd⟩,hl,hm⟩;let hTG:=eG ĉ hT7;let hDG:=eG ĉ hD7;let kG:=k2 eG;let dM:DR (ay Pd<|ay Pt G) (tb msgs) (.ref Lm):=#[Lm,vs,1,by rw[aA nLD,aA nLP];show hv,hd.mono LC]
   let#[J,rb,RJ]:=W.a7G (c:=c) (C:=C) L.Lv.len L.lz hP p1 G4 K0 #[];let Sd0:Sd (ay Pd<|ay Pt G) [some<|.ref a,some<|.int x,!vn,!vt,!vo,some<|.int p,some<|.int (m:Int),!vp,!vl,some<|.ref Lm,OM,OK,none,none,none,none,none,none,none] G [none,none,some<|aK c S,some<|aV S.Ls,some<|aY nl,some<|.int p,some<|.int (m:Int),some<|bc ř,some<|aY S.LW,some<|tb msgs,none,none,none,none,none,none,none,none,none]:=M0<|M0 (N6 (DR.mono kG _ _ hn7)<|N6 (DR.mono kG _ _ ht7) (N6 (DR.mono kG _ _ ho7)<|N6 rfl (N6 rfl<|N6 (DR.mono kG _ _ a8P) (N6 (DR.mono kG _ _ a8R)<|N6 dM (M0<|M0 (M0<|M0 (M0<|M0 (M0<|M0 (M0<|Sg Zl)))))))));show hZ ĉ (av λZ hZ=>?_);show#[_,_,tQ.nx (Sd.ss Sd0) #[#[3],.mk L.Lv.RU #[] #[] (λi z hz t ht e=>?_) λz hz=>K0.late z hz] λσ1 A1 F1 u1 S1=>?_]
   ·let#[u,v,uv,hu,hv]:=L.up t ht;rw[e]at hv;let:=bM L.Lv.RU hv hz;show GY (i:=u) ?_;rw[ID<|by lia];show hu
   show hZ ĉ (av λZ hZ=>?_);show#[_,_,tQ.nx S1 #[#[2],W.late L.Lv.len K0] λσ2 A2 F2 u2 S2=>?_];let#[WX,Wd,a3H]:=W.a0L;let b4m:S.names.length=nl.length:=((List.perm_ext_iff_of_nodup L.Lv.nd L.Lv.RU).mpr L.Lv.eq).length_eq;show hZ ĉ (av λZ hZ=>?_);show#[_,_,tQ.nx S2 (.f (.f #[2,.mk (as:=(mV S).map λz=>((.inr z:jr),Lt z)) (bs:=nl.map λz=>((.inr z:jr),Lt z)) (congrArg MP (by rw[GV];rfl)) (congrArg MP (by rw[GV];rfl))<|b1j Lt L.Lv.RU #[] λz hz=>(L.Lv.eq z).mp<|W.Wc z hz] #[#[#[2],lV.k],#[2,by decide,#[W.WW<|by lia]],?_]) rfl) λσ3 A3 F3 u3 S3=>?_]
   ·rw[show List.map pK ((mV S).map λx=>((Sum.inr x:jr),D.int<|Lt x))=(mV S).map D.str from by rw[GV];rfl];show .mk a58
   show hZ ĉ (av λZ hZ=>?_);show#[_,_,tQ.nx S3 #[1] λσ4 A4 F4 u4 S4=>?_];let Z8:S.LW.Nodup:=by let:=W.ln.RU;unfold NS.names at this;ext1 NS.LW;show this.sublist (K9 _ Jp)
   show hZ ĉ (av λZ hZ=>?_);show#[_,_,tQ.ex S4 (lH S.LW (u:=λg=>.tup [.str g,J g]) (λi ε=>∃ Vc o16 o17 o18,ε=[.un,.un,.fz<|aK c S,.fz<|aV S.Ls,.fz<|aY nl,.fz<|.int p,.fz<|.int (m:Int),.fz<|bc ř,.fz<|aY S.LW,.fz<|tb msgs,.un,.un,.fz<|cB nl Lt,.fz<|cB (mV S) Lt,.ow<|MP ((S.LW.take i).map λg=>ZB),Vc,o16,o17,o18]) ⟨_,_,_,_,rfl⟩ (.mk (ð:=S.LW.map λg=>(.inr g,J g)) #[#[5],RJ.judge] (by rw[GV];rfl)) (λi g ε hg gR=>?_)) λε' σ5 A5 F5 hI u5 S5=>?_]
   ·let#[Vc,o16,o17,o18,he]:=gR;subst he;let gm:=GY hg;let il:=(GS.mp hg).1;let nk:(.inr g:jr)∉((S.LW.take i).map λg=>((.inr g:jr),D.bl<|rb g)).map (·.1):=λz=>by
     rw[GV]at z;let#[g',h1,h2]:=GX.mp z
     cases h2;let#[n',Vj,e']:=Ke.mp h1;rw[(GS.mp hg).2.symm]at e';let:=(KH Z8).mp e'
     lia
    show#[_,#[_,3],?_];let key:∀ {z:D}{u v:Option D},J g=z->(∃ l,z=.tup (.str (if rb g=true then "reads" else "alike")::l))->(rO (fE false) (rO L2.Sub (rV 16)<|rC (RH<|V.int 0))<|rC (RH<|V.str "reads")) [none,none,some<|aK c S,some<|aV S.Ls,some<|aY nl,some<|.int p,some<|.int (m:Int),some<|bc ř,some<|aY S.LW,some<|tb msgs,none,none,some<|cB nl Lt,some<|cB (mV S) Lt,none,some<|.str g,some<|J g,u,v] (.bl<|rb g):=λ{z u v} hz gR=>by
     let#[l,hl]:=gR;rw[hz,hl];show#[#[2,.t (i:=((0:Nat):Int))<|cT rfl],1,?_]
     cases rb g with
     | true=>show .mk rfl rfl rfl rfl
     | false=>show .mk rfl rfl rfl rfl
    let k2:∃ l,J g=.tup (.str (if rb g=true then "reads" else "alike")::l):=by
     rcases RJ.a96 g gm with⟨h1,R,h2⟩|⟨h1,x,y,h2⟩
     ·show#[_,by rw[h2,h1];rfl]
     ·show#[_,by rw[h2,h1];rfl]
    let q:Y9 14 (rV 15) (rO (fE false) (rO L2.Sub (rV 16)<|rC (RH<|V.int 0))<|rC (RH<|V.str "reads")) [.un,.un,.fz<|aK c S,.fz<|aV S.Ls,.fz<|aY nl,.fz<|.int p,.fz<|.int (m:Int),.fz<|bc ř,.fz<|aY S.LW,.fz<|tb msgs,.un,.un,.fz<|cB nl Lt,.fz<|cB (mV S) Lt,.ow<|MP ((S.LW.take i).map λg=>ZB),.fz<|.str g,.fz<|J g,o17,o18] _:=#[1,by rw[GP,Hl];lia,.z (d:=.bl<|rb g)<|key rfl k2,1,kS]
    rw[cw nk]at q;show#[_,q,.fz<|.str g,.fz<|J g,o17,o18,?_];rw[aP hg,He];rfl
   let#[Vc,o16,o17,o18,1]:=hI;rw[HJ]at S5;show hZ ĉ (av λZ hZ=>?_);show#[_,_,tQ.nx S5 #[c7 (xs:=msgs) (u:=rw) (h:=rw) #[1,.l .lst] #[] (λmsg _=>#[_,1,#[#[2],.s<|.sq .lst]]) rfl] λσ6 A6 F6 u6 S6=>?_];let hT6:=S6.b0 ĉ hTG;let hD6:=S6.b0 ĉ hDG;let kg:∀ {A A':Hp},A Pt=!.tbl [].toArray->A Pd=!.tbl [].toArray->f' A A'->f' (grow (ay Pd<|ay Pt A) A A') (ay Pd<|ay Pt A'):=λt d e b o w=>by
    unfold grow at w;split at w
    ·rename_i c;let z1:b≠Pt:=λz=>by rw[z,t]at c;cases c
     let z3:b≠Pd:=λz=>by rw[z,d]at c;cases c
     rw[aA z3,aA z1];show w
    ·show k2 e ĉ w
   let Sd6:Sd (ay Pd<|ay Pt A6) σ6 A6 _:=⟨Zl,S6.a.len,λi d q=>let ⟨v,h1,h2⟩:=S6.a.rd i d q;#[v,h1,DR.mono (kg hTG hDG S6.b0) ĉ h2]⟩
   show hZ ĉ (av λZ hZ=>?_);show NO.go Sd6 (d:=[aK c S,bc ř,.int (m:Int),.int p,tb msgs]) #[6] λvs8 A8 e8 S8 q8=>?_;let hT8:=e8 ĉ hT6;let hD8:=e8 ĉ hD6;let q8:=q8.mono<|kg hT6 hD6 e8;show .mk _ S (mV S) ř m p msgs Lt Ĉ (by rw[HF];show q8) LC #[_,hT8,trivial,.inl rfl] (RJ.run msgs hm<|by lia) λx9 A9 q9 sb9 b3Q pm9 st9 hx9=>?_;let hD9:A9 Pd=!.tbl [].toArray:=sb9 ĉ nPD.symm hD8;let k89:f' (ay Pd<|ay Pt A8) (ay Pd<|ay Pt A9):=aR<|uF sb9;let kgx:f' (grow (ay Pd<|ay Pt A8) (ay Pt A8)<|ay Pt A9) (ay Pd<|ay Pt A9):=λb o w=>by
    unfold grow at w;split at w
    ·rename_i c;let z3:b≠Pd:=λz=>by rw[z,aA nPD.symm,hD8]at c;cases c
     rw[aA z3];show w
    ·show k89 ĉ w
   let hx9:=DR.mono kgx ĉ hx9;let Sd9:=Sd.put Sd6 ((k2 e8).trans k89) Zl hx9 18;let#[v18,h18,a1L]:=Sd9.rd 18 _ rfl;let#[ax,vx,1,hax,_]:=id a1L;let a9O:=Zl ĉ hax;show hZ ĉ (av λZ hZ=>?_);show#[_,h18,.ref ax,_,_,_,1,.lst a9O,TL,_,1,?_];show#[ay Pd<|ay Pt A9,_,false,Sd9,⟨rfl,rfl,.mk c3C⟩,λA10 Zr=>uE ?_];show hZ ĉ ?_;show#[_,h18,?_];let a49:=Zr ĉ hD9;let b0D:Sd (ay Pd<|ay Pt A10) _ A10 _:=⟨Zl,Sd9.len,λi d q=>let ⟨v,h1,h2⟩:=Sd9.rd i d q;#[v,h1,DR.mono (k2 Zr) ĉ h2]⟩
   show NO.go b0D (d:=[aY S.LW,cB nl Lt,MP<|S.LW.map λg=>ZB,tb msgs]) ⟨rfl,rfl,rfl,rfl,rfl⟩ λb3J A11 e11 S11 q11=>?_;let a92:=e11 ĉ a49;let kd:f' (grow (ay Pd<|ay Pt A10) A10 A11) (ay Pd A11):=λb o w=>by
    unfold grow at w;split at w
    ·rename_i c;let z3:b≠Pd:=λz=>by rw[z,a49]at c;cases c
     rw[aA z3];show w
    ·show ((aR LC).trans<|aR e11) _ _ w
   let q11:=q11.mono kd;let msz:msgs.length<=7:=#[]
   let MN:=Nat.mul_le_mul L.lz msz;show .mk _ S.LW nl msgs Lt rb (by rw[HF];show q11) Ě #[_,a92,trivial,.inl rfl] Z8 L.Lv.RU (λg hg=>?_) #[] #[] #[] λx12 A12 q12 a7y b1d a72 a7t a8K=>?_
   ·unfold NS.LW at hg;let#[q,h1,1]:=GX.mp hg;show (L.Lv.eq _).mp (Hm (HB.mp h1).1)
   rw[a1N pm9 st9 a72 a7t]at a1L;show#[c0u LC ?_ (DR.mono ((aR LC).trans<|(aR<|Zr.trans e11).trans (uF a7y)) _ _ a1L) a8K,q _];rw[Jy,Io];intro i _;change VO 2 (((dc S.LW.zipIdx msgs Lt rb).map Yx).getD i .non)=true;rw[GU]
   cases he:((dc S.LW.zipIdx msgs Lt rb).map Yx)[i]? with
   | none=>rfl
   | some d=>
    let#[e,h1,1]:=GX.mp<|GY he;unfold dc at h1;let#[g,_,h2]:=Jr.mp h1;let#[z,_,1]:=GX.mp h2;ext1 xq;change (VO 1 (if rb g.1=true then rw z.1 else .non)&&true)=true;rw[Bool.and_true];split
    ·change (z.1.map D.int).all (VO 0)=true;rw[Jy,Io];show λ_ _=>rfl
    ·rfl
open e
variable {h:Heap}
theorem ZK (K)(C)(ğ)(st):Prop:=∃ f fd,Mk K C f/\OT K "__init__" ğ st f fd
def in0_mk (c7K)(mk:W.makesIn K C=true)(c9K)(c8N)(kc)
  (l)
  (c) (k:e3N Ci=true):ZK K C ğ st:=#[f,_,#[mk,a,i,kc],pO l c k]
theorem GL (K)(C)(m ğ:Str)(st):Prop:=∃ (f T:Addr)(t:Tok)(kV doc pm:Value)(an:ψ)(Lz ct:Value)(oc:Value)(od:ψ)(Nv:ω)(tc:Value)(td:ψ)(n:Nat)(SR:ω),zu K C m f/\
 K.lookup f=some ⟨oc,od,.func a8X,Nv⟩/\W.codeIn K Lz ğ=true/\W.keepIn K Ci=true/\K.lookup T=some ⟨tc,td,.seq [.int 1 t].toArray n,SR⟩
def meD0_mk {K:Ψ}{C:Addr}{m ğ:Str}{st:Stmt}{f T:Addr}{t:Tok}(c7l)(d0g)
  (l:K.lookup f=some #[oc,od,.func a8X,Nv])
  (c) (k:e3N Ci=true) (d:K.lookup T=some #[tc,td,.seq [.int 1 t].toArray n,SR]):GL K C m ğ st:=#[Z',#[a,i,k],l,c,k,d]
def a5Y [Bx:Bd](d1B)(hb:∀ (T:Addr)(t:Tok)(kV doc pm:Value)(an:ψ)(Lz ct:Value)(us:θ),us.length=ps.length->∃ kk,e3h wu=seqItems? sU >>= kk/\kk b58=pure KB)(ok):MG k C x ps sp:=by let#[Z',m,VM]:=F;show#[f,_,c6v,ok f _ tS];rw[HF]at hl ⊢;let#[kk,ZL]:=hb T t kV doc pm an Lz ct us hl;ext d3d
def b3q [Bx:Bd]{k:Nat}(d1B)(hb:∀ (T:Addr)(t:Tok)(kV doc pm:Value)(an:ψ)(Lz ct:Value)(us:θ),us.length+1=ps.length->∃ kk,e3h wu=seqItems? sU >>= kk/\kk b58=pure (d9A [.int 1 t]))(ok):ZR k C x ps [.int 1] sp:=by let#[Z',m,VM]:=F;show#[f,_,[.int 1 t],c6v,c5k];ext d4h
theorem zw (c9r):Prop:=∃ (f T:Addr)(kV doc pm:Value)(an:ψ)(Lz ct:Value)(oc:Value)(od:ψ)(Nv:ω)(tc:Value)(td:ψ)(n:Nat)(SR:ω),e2S x=!some Ci/\
 K.lookup f=some ⟨oc,od,.func Ę,Nv⟩/\W.codeIn K Lz ğ=true/\W.keepIn K Ci=true/\K.lookup T=some ⟨tc,td,.seq [.none].toArray n,SR⟩
def fnD0_mk {K:Ψ}(c7J){f T:Addr}(c7l)(a)
  (l:K.lookup f=some b9w)
  (c) (k:e3N Ci=true) (d:K.lookup T=some #[tc,td,.seq [.none].toArray n,SR]):zw K x ğ st:=#[f,T,Az,a,l,c,k,d]
def nE [Bx:Bd](d2a)(hb:∀ (T:Addr)(kV doc pm:Value)(an:ψ)(Lz ct:Value)(us:θ),us.length=ps.length->∃ kk,e3h wu=seqItems? sU >>= kk/\kk b7N=pure KB)(ok):f0X sp:=by let#[f,T,Az,a,VM]:=F;show#[f,_,C8,ok f _ tS];rw[HF]at hl ⊢;let#[kk,ZL]:=e41 hl;ext d3d
def a59 [Bx:Bd](d2a)(hb:∀ (T:Addr)(kV doc pm:Value)(an:ψ)(Lz ct:Value)(us:θ),us.length+1=ps.length->∃ kk,e3h wu=seqItems? sU >>= kk/\kk b7N=pure (d9A [.none]))(ok):Gu k x ps E8 sp:=by let#[f,T,Az,a,VM]:=F;show#[f,_,[.none],C8,e9U .nil,ok f _ tS];let#[kk,ZL]:=e41 ě;ext d3d
theorem Ag (c9r):Prop:=∃ (f T:Addr)(t:Tok)(kV doc pm:Value)(an:ψ)(Lz ct:Value)(oc:Value)(od:ψ)(Nv:ω)(tc:Value)(td:ψ)(n:Nat)(SR:ω),e2S x=!some Ci/\
 K.lookup f=some ⟨oc,od,.func Ę,Nv⟩/\W.codeIn K Lz ğ=true/\W.keepIn K Ci=true/\K.lookup T=some ⟨tc,td,.seq [e5s t].toArray n,SR⟩
def fnI0_mk {K:Ψ}(c7J){f T:Addr}{t:Tok}(c7l)(a)
  (l:K.lookup f=some b9w)
  (c) (k:e3N Ci=true) (d:K.lookup T=some #[tc,td,.seq [e5s t].toArray n,SR]):Ag K x ğ st:=#[Z',a,l,c,k,d]
def a9U [Bx:Bd](F:Ag Bx.K x ğ st)(c7T)(hb:∀ (T:Addr)(t:Tok)(kV doc pm:Value)(an:ψ)(Lz ct:Value)(us:θ),us.length+1=ps.length->∃ kk,e3h wu=seqItems? sU >>= kk/\kk (some [e5s t].toArray)=pure (d9A [e5s t]))(ok:∀ f fd,MO Bx.K x ğ st f fd->e2R ps sp):Ek k x ps [.int 0] sp:=by let#[Z',a,VM]:=F;show#[f,_,[e5s t],C8,c5k];ext d4h
theorem DF (K)(C)(ğ)(st):Prop:=∃ f fd,a5V K C f/\OT K "__init__" ğ st f fd
def xi0_mk (c7K)(c9K)(own:zZ K C f=true)(c8N)(kc)
  (l)
  (c) (k:e3N Ci=true):DF K C ğ st:=#[f,_,#[own,i,kc],pO l c k]
def c4D [Bx:Bd](F:DF Bx.K C ğ st)(c7T)(aC)(hb:∀ (kV doc pm:Value)(an:ψ)(Lz ct:Value)(us:θ),us.length=ps.length->bindArgs a8U wu=pure KB)(c8q):Ej k x C ps sp:=by ext d77
def b93 [Bx:Bd](F:Nc Bx.K x ğ st)(c7T)(c7C)(ok:∀ f fd,e9i fd->e2R ps sp):Et k x ps sp:=by ext d65
theorem GN (c9r)(c Pt:Addr):Prop:=∃ f fd,e2S x=!some Ci/\OT K x ğ st f fd/\fd.code=.ref c/\W.tabIn K x=!(c,Pt)
def fnL0_mk {kV:Value}(a)(l:K.lookup f=some #[oc,od,.func (d9m x oQ),Nv])(cc:W.codeIn K oQ ğ=true)(c8y)(u:K.lookup c=some #[uc,ud,.fields uvs,usl])(v:uvs[11]?=!.ref Pt):GN K x ğ st c Pt:=by
 show#[f,_,a,pO l cc k,1,?_];ext1 W.tabIn;rw[a];dsimp only;rw[l];change (match K.lookup c with
    | some ⟨_,_,.fields vs,_⟩=>(match (vs[11]?:Î) with
     | some (.ref P)=>!(c,P)
     | _=>none)
    | _=>none)=!_
 rw[u];dsimp only;rw[v]
def c4I [Bx:Bd](F:GN Bx.K x ğ st c Pt)(c7T)(bm:Bm Bx.mg base)(hc:e2w c Pt)(c7C)(ok:∀ f fd,e9i fd->b4K Bx.mg base fd Pt->e63 ps sp):f0X sp:=by let#[kQ,a,F,e,_]:=F;show#[c4T,F.binds hb,ok f fd F #[#[c,e,hc],bm]]
@[elab_as_elim] def c3B (c7L):∀ (us:List α),us.length=1->(∀ a,P [a])->P us
 | [_],_,f=>f _
@[elab_as_elim] def FY (c7L):∀ (us:List α),us.length=2->(∀ a b,P [a,b])->P us:=λus hl f=>by
 ext d2v
 show c3B us Ű (f a)
@[elab_as_elim] def BB (c7L):∀ (us:List α),us.length=3->(∀ a b c,P [lx])->P us:=λus hl f=>by
 ext d2v
 show FY us Ű (f a)
@[elab_as_elim] def uB (c7L):∀ (us:List α),us.length=4->(∀ a b c d,P [lx,d])->P us:=λus hl f=>by
 ext d2v
 show BB us Ű (f a)
@[elab_as_elim] def yV (c7L):∀ (us:List α),us.length=5->(∀ a b c d e,P [lx,d,e])->P us:=λus hl f=>by
 ext d2v
 show uB us Ű (f a)
def a1H [Bx:Bd](c7T)(c9g)(F:Nc Bx.K x ğ st)(c8F):f0X sp:=by ext d65
def a0U [Bx:Bd]{C:Addr}(c9g)(F:QU Bx.K C x ğ st)(cl)(c8F):MG k C x ps sp:=by let#[kQ,m,F]:=F;show#[kQ,cl,m,gV]
def a1c [Bx:Bd](c7T){C:Addr}(c9g)(F:ZK Bx.K C ğ st)(aC)(c8q)(hb:∀ (kV doc pm:Value)(an:ψ)(Lz ct:Value)(us:θ),us.length=ps.length->bindArgs a8U wu=pure KB:=đ):W4 k x C ps sp:=by ext d77
open e
def all_mk {l:W.OpenLaw}{CE:Addr}(X:K.In h)(G:e31 mg)(hfa:mg "law"=!.ref fa)(ab:Κ "Net" vA)(ac:Κ "Post" (d9i CP))(ad:Κ "House" (d9i CH))(ah:Κ "Listener" (d9i CL))(al:Κ "Field" (d9i CF))(am:Κ "Ear" ui)(a77:e1m CN Str.empty=true)(a9C:e0O CN=true)(a7X:e08 CN=true)(a7A:Μ vA)(a76:e1m CP Str.empty=true)(a9B:e0O CP=true)(a7W:e08 CP=true)(a7z:Μ (d9i CP))(a79:e1m CH Str.empty=true)(a9E:e0O CH=true)(a7Z:e08 CH=true)(a7C:Μ (d9i CH))(a78:e1m CL Str.empty=true)(a9D:e0O CL=true)(a7Y:e08 CL=true)(a7B:Μ (d9i CL))(a8a:e1m CF Str.empty=true)(a9F:e0O CF=true)(a70:e08 CF=true)(a7D:Μ (d9i CF))(a8b:e1m CE Str.empty=true)(a9G:e0O CE=true)(a71:e08 CE=true)(a7E:Μ ui)(Sn:e0a vA "kept_posts"=!none)(SV:e0a vA "kept_ties"=!none)(RI:e0a vA "next_number"=!none)(X1:e0a (d9i CP) "name"=!none)(X3:e0a (d9i CH) "name"=!none)(X2:e0a (d9i CL) "name"=!none)(Tr:e0a (d9i CF) "prime"=!none)(X4:e0a ui "rows"=!none)(Vd:e0a ui "probes"=!none)(Wr:Κ "LETTERS" (.str "abcdefghijklmnopqrstuvwxyz" W9))(Sy:ď "LONGEST_NAME" 8 Sa)(Ub:ď "MOST_POSTS" 20 TZ)(R9:ď "MOST_LISTENERS" 8 QY)(UQ:ď "MOST_TIES" 40 UA)(RN:ď "LONGEST_DELAY" 99 RG)(Ra:ď "GREATEST_PRIME" 1000000 QZ)(Wi:e5I kB kB=!true)(Wj:e5I Gg Gg=!true)(Vh:e5I Gg ik=!false)(Rv:e5I Ņ Ņ=!true)(a3R:CP≠CH)(a3Q:CP≠CL)(a3S:CH≠CL)(Zz:Κ "Cut" (d9i Ut))(Xs:Μ (d9i Ut))(Xt:kF K Ut=true)(Xu:e0O Ut=true)(Ue:e2m Ut "fallen"=!none)(Vr:e2m Ut "name"=!none)(Tc:e2m Ut "numbers"=!none)(a5A:e88 (d9i Ut) c1Y=!true)(QL:Κ "SmallPrime" (d9i W7))(a3j:Μ (d9i W7))(a3k:kF K W7=true)(a3l:e0O W7=true)(U0:e2m W7 "needed"=!none)(a3m:e88 (d9i W7) c1Y=!true)(Tg:Ď "len")(NQ:Ď "isinstance")(a2P:Ď "str")(a2T:Ď "all")(TV:Ď "list")(YM:Ď "int")(ZM:Ď "bool")(Pg:Ď "enumerate")(RS:Ď "range")(a2Q:Ď "min")(WJ:Ď "dict")(Ux:Ď "sorted")(WI:Ď "zip")(YL:Ď "sum")(a2S:Ď "any")(a2R:Ď "max")(f0:č "is_name" iG)(f1:QU K CP "reads" "Post.reads" dW)(f2:QU K CH "reads" "Post.reads" dW)(f3:QU K CL "reads" "Listener.reads" d3)(f4:QU K CP "hears" "Post.hears" dY)(f5:QU K CH "hears" "House.hears" fJ)(f6:QU K CL "hears" "Post.hears" dY)(f7:ZK K CP "Post.__init__" bS)(f8:ZK K CH "Post.__init__" bS)(f9:ZK K CL "Post.__init__" bS)(f10:ZK K CN "Net.__init__" eQ)(f11:QU K CN "check_new_name" "Net.check_new_name" (d80 4))(f12:QU K CN "listeners" "Net.listeners" (d80 12))(f13:QU K CN "home" "Net.home" (d80 13))(f14:QU K CN "put_in" "Net.put_in" gq)(f15:QU K CN "post" "Net.post" Cz)(f16:QU K CN "listener" "Net.listener" yW)(f17:QU K CN "house" "Net.house" mD)(f18:č "is_whole" EJ)(f19:č "is_delay" (top 26))(f20:QU K CN "ties" "Net.ties" (d80 14))(f21:QU K CN "names" "Net.names" (d80 11))(f22:č "led_to" (top 27))(f23:QU K CN "check_there" "Net.check_there" (d80 8))(f24:QU K CN "check_ends" "Net.check_ends" (d80 7))(f25:GL K CN "tie" "Net.tie" zA)(f26:QU K CN "into" "Net.into" (d80 15))(f27:QU K CN "out_of" "Net.out_of" (d80 16))(f28:č "first_ready" (top 28))(f29:QU K CN "ordered" "Net.ordered" mT)(f30:č "mixing_ties" (top 54))(f31:č "by_number" (top 55))(f32:č "wanted_lengths" (top 56))(f33:č "is_number_of" (top 57))(f34:č "is_row_of" (top 58))(f35:č "is_prime" (top 35))(f36:ZK K CF "Field.__init__" vg)(f37:č "checked_plan" (top 59))(f38:QU K CF "fit" "Field.fit" (e5x 1))(f39:QU K CF "times" "Field.times" (e5x 4))(f40:QU K CF "minus" "Field.minus" (e5x 3))(f41:QU K CF "back" "Field.back" (e5x 5))(f42:č "row_sum" (top 38))(f43:č "column" (top 39))(f44:č "ones_row" (top 41))(f45:č "ones" (top 42))(f46:č "coming_in" (top 60))(f47:č "flow" (top 61))(f48:zw K "carried" "carried" (top 63))(f49:č "fitted_row" (top 43))(f50:č "row_with" (top 44))(f51:č "scaled" (top 45))(f52:č "without" (top 46))(f53:č "cleared" (top 47))(f54:č "reduced" (top 48))(f55:č "first_place" (top 49))(f56:č "lead_places" (top 50))(f57:č "reader" (top 51))(f58:č "nought" (top 52))(f59:č "judgement" (top 65))(f60:zw K "judged" "judged" (top 66))(f61:č "longer_by_one" (top 72))(f62:č "choices" (top 73))(f63:č "standing_ties" (top 75))(f64:č "ties_by_post" (top 76))(f65:č "step_over" (top 77))(f66:č "reached_from" (top 78))(f67:č "used_with" (top 79))(f68:č "ties_between" (top 80))(f69:č "tie_out_of" (top 81))(f70:č "one_way" (top 82))(f71:č "parted_ways" (top 83))(f72:zw K "ways" "ways" (top 84))(f73:ZK K CE "Ear.__init__" dA)(f74:QU K CE "shown" "Ear.shown" (ar oN 1))(f75:QU K CE "move_front" "Ear.move_front" uL)(f76:č "ways_by_choice" (top 87))(f77:č "message_ties" (top 88))(f78:č "asks_by_tie" (top 89))(f79:č "unbarred" (top 90))(f80:č "multipliers" (top 91))(f81:č "times_row" (top 40))(f82:č "mixed_row" (top 92))(f83:č "made_plan" (top 93))(f84:č "kept" (top 2))(f85:DF K Ut "Cut.__init__" jE)(f86:DF K W7 "SmallPrime.__init__" oS)(f88:Ag K "plan_for" "plan_for" B6)(f89:zw K "sent" "sent" (top 62))(f90:č "lateness" (top 68))(f91:č "read_message" (top 69))(f92:GN K "run" "run" (top 70) c1 P1)(f93:č "_law_cell_at" (top 96))(f94:č "_law_stream" (top 97))(f95:č "_law_net" (top 98))(f96:č "_law_long_net" (top 99))(f97:č "_law_plan" (top 100))(f98:č "_law_late" (top 101))(f99:GN K "_law_due" "_law_due" (top 102) c2 P2)(fl:č "law" (top 103))(n1:K.lookup P1=none)(n2:K.lookup P2=none)(a8o:P1≠P2):
  ∃ (fd:È)(c1 P1 c2 P2:Addr),a46/\W.tabIn K "run"=!(c1,P1)/\W.tabIn K "_law_due"=!(c2,P2)/\P1≠P2/\K.lookup P1=none/\K.lookup P2=none/\
   ∀ base:Heap,K.In base->e1P mg->Bm mg base->e2w c1 P1->e2w c2 P2->M9 l.prog w K mg base N5 10 fa fd tV (nX K P1 P2):=by
 let#[fL,fdL,aL,FL]:=fl;let e:=hfa.symm.trans (e3Y aL)
 cases e;let Pw:Pf K CN:=#[a77,a9C,a7X,a7A]
 let a1R:Pf K CP:=#[a76,a9B,a7W,a7z]
 let a1T:Pf K CH:=#[a79,a9E,a7Z,a7C]
 let a1S:Pf K CL:=#[a78,a9D,a7Y,a7B]
 let Wv:Pf K CF:=#[a8a,a9F,a70,a7D]
 let a1U:Pf K CE:=#[a8b,a9G,a71,a7E]
 let O:Cl.Ok K Eb:=#[Pw,a1R,a1T,a1S,Sn,SV,RI,X1,X3,X2,a3R,a3Q,a3S]
 let TL:c5Q mg:=#[e0m Tg,e0m NQ,e0m a2P,e0m a2T,e0m TV]
 let TG:GJ mg:=#[#[_,e3Y Wr],#[_,e3Y Sy],#[_,e3Y Ub],#[_,e3Y R9]]
 let TK:CD K:=#[Wi]
 let TN:GI mg:=#[e0m NQ,e0m YM,e0m ZM,e0m Tg]
 let TH:a16 mg:=#[#[_,e3Y UQ],#[_,e3Y RN]]
 let TI:a15 K:=#[Wj,Vh]
 let TS:GH mg:=#[e0m WJ,e0m Ux]
 let TD:b3K mg:=#[e0m WJ,e0m Tg,e0m TV,e0m a2Q]
 let TX:uA K mg CF:=#[Wv,Tr,c6U,e0m YL,e0m Tg]
 let TP:a5M K mg CF:=#[Wv,Tr,#[_,e3Y Ra]]
 let TR:qL mg:=#[e0m RS]
 let TA:c4H mg:=#[e0m Tg,e0m RS,e0m TV,e0m Pg,e0m YM,e0m WI,e0m YL]
 let TW:a5L mg:=#[TA,e0m NQ]
 let TU:sH mg:=#[e0m Ux,e0m Pg]
 let TM:BJ mg:=#[e0m a2R]
 let EF1:ng K Ut "fallen":=#[Xs,Xt,Ue,Xu]
 let EF2:ng K Ut "name":=#[Xs,Xt,Vr,Xu]
 let EF3:ng K Ut "numbers":=#[Xs,Xt,Tc,Xu]
 let EF4:ng K W7 "needed":=#[a3j,a3k,U0,a3l]
 let TE:Ou K mg CE:=#[a1U,X4,Vd,c6U,e0m a2S,e0m Tg,e0m Pg]
 let ta1:W.tabIn K _=!(c1,P1):=(let #[Y8,t]:=f92;t)
 let ta2:W.tabIn K _=!(c2,P2):=(let #[Y8,t]:=f99;t)
 show#[fdL,c1,P1,c2,P2,λs v=>?_,ta1,ta2,a8o,n1,n2,λbase _ _ bm Yn UO=>?_]
 ·let#[c3W]:=FL.ex;show .of_eq rfl
 ·
  letI Bx:Bd:=#[l.prog,w,K,mg,base]
  let fq:=@a1H h Bx X G;let mq:=@a0U Bx;let iq:=@a1c h Bx X G;let Rq:=fq f0 λe00=>a9z F TL TG TK;let a19:MG 1 CP "reads" Þ (Pr<|iW (decide ((CP:Addr)=(⟨CN,CP,CH,CL⟩:Cl).Q0))):=mq f1 a1R λe00=>by rw[show decide ((CP:Addr)=(Eb:Cl).Q0)=false from i4 O .post];show eM (j5 F)
  let YG:MG 1 CH "reads" Þ (Pr<|iW (decide ((CH:Addr)=(⟨CN,CP,CH,CL⟩:Cl).Q0))):=mq f2 a1T λe00=>by rw[show decide ((CH:Addr)=(Eb:Cl).Q0)=false from i4 O .house];show eM (j5 F)
  let Vt:MG 1 CL "reads" Þ (Pr<|iW (decide ((CL:Addr)=(⟨CN,CP,CH,CL⟩:Cl).Q0))):=mq f3 a1S λe00=>by rw[show decide ((CL:Addr)=(Eb:Cl).Q0)=true from i4 O .listener];show eM (jZ F)
  let a2e:MG 1 CP "hears" Þ (Pr<|iW (not (decide ((CP:Addr)=(⟨CN,CP,CH,CL⟩:Cl).house)))):=mq f4 a1R λe00=>by rw[show (not (decide ((CP:Addr)=(Eb:Cl).house)))=true from ig O .post];show eM (j6 F)
  let YJ:MG 1 CH "hears" Þ (Pr<|iW (not (decide ((CH:Addr)=(⟨CN,CP,CH,CL⟩:Cl).house)))):=mq f5 a1T λe00=>by rw[show (not (decide ((CH:Addr)=(Eb:Cl).house)))=false from ig O .house];show eM (oV F)
  let Vx:MG 1 CL "hears" Þ (Pr<|iW (not (decide ((CL:Addr)=(⟨CN,CP,CH,CL⟩:Cl).house)))):=mq f6 a1S λe00=>by rw[show (not (decide ((CL:Addr)=(Eb:Cl).house)))=true from ig O .listener];show eM (j6 F)
  let Vz:=iq f7 ac λe00=>b4B F O;let Ur:=iq f8 ad λe00=>b4B F O;let Qj:=iq f9 ah λe00=>b4B F O;let TQ:=iq f10 ab λe00=>c1z F O;let PV:∀ C,jK (Eb:Cl) C->MG 1 C "reads" Þ (Pr<|iW (decide (C=(Eb:Cl).Q0))):=by
   rintro _ ⟨k,rfl⟩
   cases k with
   | house=>show YG
   | listener=>show Vt
   | post=>show a19
  let PX:∀ C,jK (Eb:Cl) C->MG 1 C "hears" Þ (Pr<|iW (not (decide (C=(Eb:Cl).house)))):=by
   rintro _ ⟨k,rfl⟩
   cases k with
   | house=>show YJ
   | listener=>show Vx
   | post=>show a2e
  let LD:=mq f11 Pw<|b3o O Rq;let Lu:=mq f12 Pw<|b1W O PV;let MF:=mq f13 Pw<|b0f O PX;let Ml:=mq f14 Pw<|b4X O TL TG PV Lu;let Nt:=mq f15 Pw<|c6y O LD Ml Vz;let MC:=mq f16 Pw<|b9U O LD Ml Qj;let Nb:=mq f17 Pw<|b3a O LD Ml MF Ur;let Np:=fq f18 λe00=>a8p F TN TI;let OV:=fq f19<|c1J TH Np;let Ly:=mq f20 Pw<|c0B O;let PJ:=mq f21 Pw<|b6T O TL;let SO:=fq f22<|c5y TL;let LG:=mq f23 Pw<|a8f O;let MX:=mq f24 Pw<|a8J O PX LG Ly SO;let Nr:MG 3 CN "tie" ä (fG ⟨CN,CP,CH,CL⟩):=a5Y f25 Pw (λd9V d9V us hl=>uB us hl λd9V=>#[_,2]) λe00=>f0Y OV;let Qi:ZR 3 CN "tie" ä [.int 1] (fG Eb):=b3q f25 Pw a66 λe00=>f0Y OV;let MA:=mq f26 Pw<|a11 LG Ly (c:=Eb);let OY:=mq f27 Pw<|c0G LG Ly (c:=Eb);let OB:=fq f28<|c3N TL;let Mc:=mq f29 Pw<|b1x O TD Ly OB;let LM:=fq f30<|c2F MF Mc MA OY (c:=Eb);let M3:=fq f31<|a40 TS;let Nl:=fq f32<|c4x TD LM M3 (c:=Eb);let Oe:=fq f33<|b02 TX Np;let PF:=fq f34<|b3l TL Oe;let Qf:=fq f35 b8u;let LX:=iq f36 al<|b5J TP Qf;let Ng:=fq f37<|c50 TD LX Nl PF (c:=Eb);let Lx:=mq f38 Wv<|a0J TX;let Md:=mq f39 Wv<|c5p Lx;let MI:=mq f40 Wv<|c3j Lx;let OZ:=mq f41 Wv<|b4v TX Lx Md;let MW:=fq f42<|b08 TX Lx;let OJ:=fq f43 a7j;let MT:=fq f44<|c2Q TX;let NM:=fq f45<|b8w TX MT;let PH:=fq f46 b5O;let Qg:=fq f47<|a6W MW PH M3;let PY:Mo 5 "carried" à (Pr<|kY ⟨CN,CP,CH,CL⟩ fK):=nE f48 X G (λe4j=>yV us hl λd94=>#[_,2]) λe00=>b2L F TS LX LM Qg NM OJ M3 (c:=Eb);let OW:=fq f49<|a2o Lx;let Qe:=fq f50<|c3q TX;let SJ:=fq f51<|Xi0 Md;let Rk:=fq f52<|c5b TX Md MI;let Rr:=fq f53<|PPs TX SJ Rk OZ;let NY:=fq f54<|c3b TX OW Qe Rr;let OC:=fq f55<|c2G TX;let MH:=fq f56<|b7d OC;let SM:=fq f57<|c4e TX NM MH NY;let SN:=fq f58<|c1F TX MH NY MT MI;let Ow:=fq f59<|a35 SM SN;let a50:Mo 8 "judged" à (Pr<|e7u fK):=nE f60 X G (λe4j=>yV us hl λd94=>#[_,2]) λe00=>e6z (c:=Eb);let NZ:Gu 8 "judged" à E8 (Pr<|e7u fK):=a59 f60 X G (λe4j=>uB us Ű λd9V=>#[_,2]) λe00=>e6z (c:=Eb);let NN:=fq f61<|a2C TL;let Nq:=fq f62<|a13 TR Ly NN (c:=Eb);let Qh:=a1s Nq;let NL:=fq f63<|b7b Ly (c:=Eb);let Oa:=fq f64<|a4Z TD;let Pz:=fq f65 c4t;let Od:=fq f66<|b3O TL Pz;let Py:=fq f67<|c1R TS;let Ob:=fq f68 b2S;let OU:=fq f69 b32;let Ro:=fq f70<|b7g OU;let Oz:=fq f71<|c1d TL Ro;let Qc:Mo 4 "ways" ó (Pr<|RD ⟨CN,CP,CH,CL⟩):=nE f72 X G (λe4j=>uB us hl λd9V=>#[_,2]) λe00=>a7q F TL TR.Mb Lu MF PJ NL Oa Od Py Ob Oz (c:=Eb);let XB:=iq f73 am<|a94 TE NM;let MU:=mq f74 a1U<|c0W TE MW;let Nu:=mq f75 a1U<|b0K TE MU Lx;let LZ:=fq f76<|c23 Lu Qc (c:=Eb);let Mr:=fq f77<|a1e TE;let OD:=fq f78<|c4i TE TD.Ox Mr Ly XB (c:=Eb);let Qd:=fq f79<|a2B TE Lx;let OA:=fq f80<|c2E TE MU Lx Qd;let Na:=fq f81<|dOr MW;let PC:=fq f82<|Spl TE Na OJ;let PD:=fq f83<|a5q TE TD.Ox Mr NM OD LM OA PC Nu M3 (c:=Eb);let Uo:=fq f84<|b2l (e0m NQ) (e0m TV) Rv;let XC:Ej 2 "Cut" Ut è (ZF Ut λl=>∃ xs z ys,l=b6C):=c4D f85 X G Zz (λe3Z=>uB us hl λd9V=>rfl)<|(wq EF1 EF2 EF3 Uo);let OX:Ej 1 "SmallPrime" W7 Ā (ZF W7 λl=>∃ i:Int,l=EO):=c4D f86 X G QL (λe3Z=>FY us hl λ_ _=>rfl)<|(jq EF4);let b0S:Et 5 "ways_by_choice" ï (V4<|AG ⟨CN,CP,CH,CL⟩ Ut):=b93 f76 X G (λe3Z=>BB us hl λe05=>rfl) λe00=>k8 F Lu Qc XC;let PB:Ek 7 "plan_for" á [.int 0] (λe20=>Pr (cJ Eb CF<|sZ ⟨CN,CP,CH,CL⟩ CF) vs H Q E\/V4 (λl A=>xX Eb Ut l A\/io Eb W7 l A) vs H Q E):=a9U f88 X G a66 λe00=>b5H (vU (c:=Eb) F TL LX Qh LZ Lu PD) (wA (c:=Eb) F LX Qh b0S)<|c40 (c:=Eb) F TL LX Qh LZ Lu OX;let b0T:Mo 5 "sent" ë (Pr<|e7v fK):=nE f89 X G (λe4j=>yV us hl λd94=>#[_,2]) λe00=>a4x F LX LM Qg (c:=Eb);let Um:Gu 5 "sent" ë E8 (Pr<|e7v fK):=a59 f89 X G (λe4j=>uB us Ű λd9V=>#[_,2]) λe00=>a4x F LX LM Qg (c:=Eb);let Nm:=fq f90<|a7c TM Ly Mc (c:=Eb);let Oc:=fq f91<|b3s Na;let XA:Mo 9 "run" ì (tu ⟨CN,CP,CH,CL⟩ CF P1):=c4I f92 X G bm Yn (λe3Z=>yV us hl λd94=>rfl) λe00 L=>a0H F L TU #[NZ,λ_=>lB] LX Nm #[Um,λ_=>lB] MA Oc (c:=Eb);let Of:=fq f93<|c1f TA;let MY:=fq f94<|b9C TA;let VA:=fq f95<|a1A TA TQ MY Nb MC Nt Nr Qi (c:=Eb);let PM:=fq f96<|a6l TA TQ Nb MC Nt Nr (c:=Eb);let Up:=fq f97<|b3j TA (e3Y Zz) (e3Y QL) MY PB;let Uq:=fq f98<|a2p TM;let VB:Mo 6 "_law_due" â (tF P2):=c4I f99 X G bm UO (λe3Z=>uB us hl λd9V=>rfl) λe00 L=>b3E F L TU;show a0I (c:=Eb) (C:=CF) TW Rv a5A a3m Of MY VA PM Lu Mc Up Uq Nm #[NZ,λ_=>lB] XA VB ĉ FL
def walk {l:W.OpenLaw}{K:Params->Ψ}(hn:l.most=!63)(hdf)(hY)(F:∀ (w:World)(mg:Ω)(fa:Addr)(h:Heap),(K w.params).In h->e31 mg->mg d.name=!.ref fa->
   ∃ (fd:È)(c1 P1 c2 P2:Addr),a46/\W.tabIn mP "run"=!(c1,P1)/\W.tabIn mP "_law_due"=!(c2,P2)/\P1≠P2/\(K w.params).lookup P1=none/\(K w.params).lookup P2=none/\
   ∀ base:Heap,(K w.params).In base->e1P mg->Bm mg base->e2w c1 P1->e2w c2 P2->e6m N5 10 fa fd tV (nX mP P1 P2))(r1:((PyProof.Rows.recsOf q).find? (λe=>e.name==("run":Str))).isSome=true)(r2:((PyProof.Rows.recsOf q).find? (λe=>e.name==("_law_due":Str))).isSome=true):
  W.WalkO q loose XP YP l.row.toRowW d [] zB:=
 let #[_,e1]:=Iv.mp r1;let #[_,e2]:=Iv.mp r2
 L2.WK hn į hdf #[p8] hY e1 e2 F (λd9V a ns ne _ hO hS=>#[a,ns,1,hS,hO.t1,hO.t2,ne,λ_=>rfl]) λd9V z=>z
universe K72
end
open PySem PySem.W PyProof.Rows L2
set_option tactic.hygienic true in
theorem PySem.Challenge.cw_mixposts_k81_rounds_read_holds : PySem.Challenge.rw_mixposts_k81_rounds_read.Holds := by
  refine topOfIt ?_
  k_fill
  refine K72.walk (l := PySem.Challenge.rw_mixposts_k81_rounds_read) rfl rfl (λw h Y => PySem.W.km_in_of Y) ?F (by kernel_rfl) (by kernel_rfl)
  case F =>
    intro w mg fa h KX G hmg
    apply K72.all_mk KX G hmg
    case f92|f99=>
      refine' K72.fnL0_mk ?A ?L ?C ?K ?U ?V
      (case A|L|C|K|U=>first|k_is|kit_is)
      (case V=>first|rfl|kernel_rfl)
    all_goals first|(first|apply b4D|apply c4C|apply K72.in0_mk|apply K72.fnD0_mk|apply K72.fnI0_mk|apply K72.meD0_mk|apply K72.xi0_mk)<;>(first|k_is|kit_is|kernel_rfl)|k_is|kit_is|skip
    all_goals first|decide|omega|kts_exm|kernel_rfl|(intro h;cases h)
