import PyProof.Rows.All
import Wide.All
import Wide.FinOn
import OpenK.KLine
import OpenK.KQuick
import OpenK.KOwn
import KE.RegKIsAll
import KE.RegKTryDeep
import KE.KDictOf
import KE.KItem
import KE.KIsAll
import Lean
import PyProof.EqAt
import PyProof.EqKinds
import PyProof.TupleCall
import PySem.Challenge.RW_holebook_k68_a_book_told_otherwise
set_option linter.all false
set_option Elab.async false
set_option maxRecDepth 100000
set_option genSizeOf false
set_option tactic.hygienic false
set_option bootstrap.genMatcherCode false
set_option genInjectivity false
set_option maxHeartbeats 0
set_option compiler.extract_closed false
noncomputable section
local macro_rules|`(tactic|ac_rfl)=>`(tactic|first|exact .inl rfl|exact .inr rfl|assumption)
def zc:=Lean.Syntax.node .none
def zd:=Lean.mkAtom
def ze:=@Lean.mkNullNode
def zf:=Lean.Name.str `Lean.Parser.Term
def zg:=Lean.Name.str `Lean.Parser.Tactic
def zh:=Lean.Name.str `Lean.Parser.Command
def zi(a:Array Lean.Syntax):=zc ``Lean.Parser.Tactic.rcasesPat.one a
def zj:Nat->Lean.Syntax->Lean.Syntax
 | 0,x=>x
 | n+1,x=>if x.isOfKind (zf "paren") then zj n x[1] else if x.isOfKind (zf "anonymousCtor") then zc ``Lean.Parser.Tactic.rcasesPat.tuple #[x[0],ze (x[1].getArgs.map fun y=>if y.isAtom then y else zc (zg "rcasesPatLo") #[zc (zg "rcasesPatMed") #[ze #[zj n y]],ze #[]]),x[2]] else zi #[if x.isIdent then x else Lean.mkIdent `_y9]
def zk(c:Char):Nat:=if c.isDigit then c.toNat-48 else if c.isUpper then c.toNat-55 else c.toNat-61
def zn(c:Char):Nat:=if c.isLower then c.toNat-97 else c.toNat-39
def zo(s:Lean.Syntax):Nat:=match s.getId.toString.toList with
 | [x]=>zn x
 | [x,y]=>52+zn x*62+zk y
 | [x,y,z]=>3276+(zn x*62+zk y)*62+zk z
 | _=>1000000
def zp(x y:Lean.Syntax):Lean.Syntax:=if y.isOfKind (zf "syntheticHole")&&zo y[1]<3 then x[1][zo y[1]] else y
def zr(y:Lean.Syntax):Bool:=y.isOfKind (zf "instBinder")&&y[2].isOfKind (zf "forall")
def zt(y:Lean.Syntax):Bool:=y.isOfKind (zf "nomatch")&&y[1].getNumArgs>2
def zu(m:Array Lean.Syntax)(x:Lean.Syntax):Lean.Syntax:=
 if x.isOfKind (zf "syntheticHole") then m.getD (zo x[1]) x
 else if x.isOfKind (zf "app")&&x[0].isOfKind (zf "explicit")&&x[0][1].isOfKind (zf "paren") then x[0][1][1].rewriteBottomUp (zp x)
 else if x.isOfKind Lean.nullKind&&x.getArgs.any zr then x.setArgs (x.getArgs.flatMap fun y=>if zr y then y[2][1].getArgs else #[y])
 else if x.isOfKind `«term#[_,]»&&x[1].getArgs.any zt then x.setArg 1 (x[1].setArgs (x[1].getArgs.flatMap fun y=>if zt y then y[1].getArgs else #[y]))
 else if x.isOfKind ``Lean.Elab.Tactic.Ext.ext then match x.find? (·.isIdent) with
  | some i=>match m[zo i]? with
   | some t=>zc (zg "paren") #[zd "(",t[1],zd ")"]
   | none=>x
  | none=>x
 else x
def zw(c:Char)(n:Nat):Nat:=n*62+(if c.isDigit then c.toNat-48 else if c.isLower then c.toNat-87 else c.toNat-29)
def zx(y:Lean.Syntax):Bool:=y.isOfKind (zg "tacticHave__")&&y[y.getNumArgs-1][0].isOfKind (zf "letPatDecl")
def zy(d:Lean.Syntax):Lean.Syntax:=zc (zg "obtain") #[zd "obtain",ze #[zc (zg "rcasesPatMed") #[ze #[zj 9 d[0]]]],ze #[],ze #[d[3],ze #[d[4]]]]
def yc(x:Lean.Syntax):Lean.Syntax:=x.rewriteBottomUp fun y=>if y.isIdent then Lean.mkIdent y.getId.eraseMacroScopes else y.setInfo .none
def yd(q:Array Lean.Syntax)(x:Lean.Syntax):Lean.Syntax:=(if x.isOfKind (zf "basicFun") then x.setArg 0 (x[0].setArgs (x[0].getArgs.map fun y=>if y.isOfKind (zf "hole") then Lean.mkIdent `_y9 else y))
 else if x.isOfKind Lean.nullKind&&x.getArgs.any zx then x.setArgs (x.getArgs.mapIdx fun i y=>if zx y then (if i>1&&zx x[i-2] then #[] else #[q[1]!,zd ";"])++#[(zy y[y.getNumArgs-1][0]).setInfo .none]++(if zx x[i+2] then #[] else #[zd ";",q[2]!]) else #[y]).flatten
 else if x.isOfKind ``Lean.Parser.Tactic.rcasesPat.ignore then zi #[Lean.mkIdent `_y9]
 else if x.isOfKind (zg "exact") then zc (zg "show") #[zd "show",x[1]]
 else if x.isOfKind (zg "show") then zc (zg "exact") #[zd "exact",x[1]]
 else if x.isOfKind (zg "cases")&&x[1].getNumArgs==1&&x[1][0][0].getNumArgs>0&&x[3].getNumArgs==0 then zc `«tacticBy_cases_:_» #[zd "by_cases",ze #[x[1][0][0][0][0],x[1][0][0][1]],x[1][0][1]]
 else if (x.isOfKind (zg "tacticHave__")||x.isOfKind (zg "tacticLet__"))&&x[x.getNumArgs-1][0].isOfKind (zf "letIdDecl") then
  if x.isOfKind (zg "tacticLet__") then zc (zg "tacticHave__") (x.getArgs.set! 0 (zd "have")) else zc (zg "tacticLet__") (x.getArgs.set! 0 (zd "let"))
 else if x.isOfKind (zg "apply") then zc (zg "refine") #[zd "refine",x[1]]
 else if x.isOfKind (zg "refine") then zc (zg "apply") #[zd "apply",x[1]]
 else if x.isIdent&&x.getId.toString.startsWith "t_" then Lean.mkIdent (.mkSimple s!"tw{(x.getId.toString.drop 2).toString.toList.foldl (fun n c=>zw c n) 0}")
 else if x.isOfKind `«term#[_,]» then zc (zf "anonymousCtor") #[zd "⟨",x[1],zd "⟩"]
 else if x.isOfKind `Vector.«term#v[_,]» then zc `«term#[_,]» #[zd "#[",x[1],zd "]"]
 else if x.isOfKind (zh "declaration") then
  let d:=x[1]
  if d.isOfKind (zh "definition") then x.setArg 1 (zc (zh "theorem") #[zd "theorem",d[1],zc (zh "declSig") #[d[2][0],d[2][1][0]],d[3]])
  else if d.isOfKind (zh "abbrev")&&x[0][4].getNumArgs==0 then
   (if d[3][1].isOfKind (zf "explicit") then x else x.setArg 0 (x[0].setArg 4 (ze #[zc (zh "noncomputable") #[zd "noncomputable"]]))).setArg 1 (zc (zh "definition") #[zd "def",d[1],d[2],d[3],ze #[]])
  else x
 else match if x.isOfKind (zg "tacticLet__") then x.find? (·.isOfKind (zf "letPatDecl")) else none with
 | some d=>zy d
 | none=>x).setInfo .none
def ye(q:Array Lean.Syntax)(c:Lean.Syntax):Lean.Syntax:=if c.isOfKind (zh "declaration")&&c[0][4][0].isOfKind (zh "meta") then c.setArg 0 (c[0].setArg 4 (ze #[zc (zh "noncomputable") #[zd "noncomputable"]])) else if c.isOfKind (zh "declaration")&&c[0][2].getNumArgs>0 then q[3]!.setArg 2 (c.setArg 0 (c[0].setArg 2 ze)) else c
def yf(q:Array Lean.Syntax)(c:Lean.Syntax):Lean.Syntax:=
 let a:=match c.find? (·.isOfKind `«term[_]») with | some l=>l[1].getSepArgs | none=>#[]
 ze ((Array.range (a.size/2)).map fun i=>let v:=a[2*i+1]!;q[if v.isOfKind `num then 5 else 4]!.rewriteBottomUp fun s=>if s.isIdent&&s.getId==`x then a[2*i]!.setInfo .none else if s.isOfKind `num||s.isOfKind (zf "explicit") then v else s)
def yg(m q:Array Lean.Syntax)(c:Lean.Syntax):Lean.Syntax:=if c.isOfKind (zh "check") then yf q c else if c.isOfKind (zh "universe") then if c[1].getNumArgs>1 then ze (c[1].getArgs.map fun i=>q[0]!.rewriteBottomUp fun s=>if s.isIdent&&s.getId==`x then yd q i else s) else zc (zh "end") #[zd "end",ze (if c[1][0].getId==`e9 then #[] else #[c[1][0],ze])] else ye q ((c.rewriteBottomUp (zu m)).rewriteBottomUp (yd q))
local macro_rules|`(command|mutual $cs* end)=>do
 unless cs[0]!.raw.isOfKind ``Lean.Parser.Command.check do Lean.Macro.throwUnsupported
 let some l:=cs[0]!.raw.find? (·.isOfKind `«term[_]»)|Lean.Macro.throwUnsupported
 let mut m:=l[1].getSepArgs.map fun x=>if x.isOfKind ``Lean.Parser.Term.inaccessible then x[1] else x
 for _ in [0:((cs[0]!.raw.find? (·.isOfKind `num)).get!.isNatLit?).get!] do m:=m.map (·.rewriteBottomUp (zu m))
 let q:=#[(←`(command|theorem x:True:=⟨⟩)).raw,←`(tactic|refine Ap fun gG gH=>?_),←`(tactic|refine gH ?_),←`(command|set_option tactic.hygienic true in theorem x:True:=⟨⟩),←`(command|def x:=@y),←`(command|noncomputable abbrev x:Stmt:=top 0)].map yc
 return Lean.mkNullNode ((cs.extract 1 cs.size).map fun c=>yg m q c.raw)
mutual
#check(4,[?a,?b,?c,.(by first|with_reducible(first|assumption|show Nat.le_trans ‹_› (Nat.le_of_ble_eq_true rfl)|show Nat.lt_of_lt_of_le ‹_› ‹_›|show Nat.le_of_lt ‹_›|show Nat.lt_of_lt_of_eq ‹_› ‹_›|show Nat.lt_of_lt_of_eq ‹_› (Eq.symm ‹_›)|show Nat.lt_of_le_of_lt ‹_› ‹_›|show Nat.succ_le_of_lt ‹_›|show Nat.le_of_not_lt ‹_›|show Nat.sub_le _ _|show Nat.le_of_succ_le ‹_›|show Nat.lt_succ_of_lt ‹_›|show Nat.le_add_right _ _|show Int.toNat_sub _ _|show Nat.le_trans (Nat.min_le_right _ _) ‹_›|show Nat.le_trans (Nat.sub_le _ _) (Nat.le_trans (Nat.le_of_eq ‹_›) ‹_›)|show Nat.sub_succ_lt_self _ _ ‹_›|show znb ‹_›|show znc ‹_›|show Nat.succ_sub ‹_›|show Int.natAbs_neg _|show znd ‹_›|show zne ‹_› ‹_› ‹_›|show znf ‹_› ‹_›|show znh ‹_›|show zng ‹_›|show zni ‹_›|show znj ‹_›|show Nat.add_sub_of_le (Nat.succ_le_of_lt ‹_›))|lia),.(by first|(apply Hb.let12 ?_;intro _ _ _ _ _ _ _ _ _ _ _ _)|(apply Hb.let11 ?_;intro _ _ _ _ _ _ _ _ _ _ _)|(apply Hb.let10 ?_;intro _ _ _ _ _ _ _ _ _ _)|(apply Hb.let9 ?_;intro _ _ _ _ _ _ _ _ _)|(apply Hb.let8 ?_;intro _ _ _ _ _ _ _ _)|(apply Hb.let7 ?_;intro _ _ _ _ _ _ _)|(apply Hb.let6 ?_;intro _ _ _ _ _ _)|(apply Hb.let5 ?_;intro _ _ _ _ _)|(apply Hb.let4 ?_;intro _ _ _ _)|(apply Hb.let3 ?_;intro _ _ _)|(apply Hb.let2 ?_;intro _ _)),.(by first|(apply Hb.letG6 ?_;intro _ _ _ _ _ _)|(apply Hb.letG4 ?_;intro _ _ _ _)|(apply Hb.letG3 ?_;intro _ _ _)|(apply Hb.letG2 ?_;intro _ _)|(apply Hb.letG1 ?_;intro _)),rfl,some,.(by ext d),wpAny,∀(K:W.Frag),a,qa7,∀(I:?W),a,pos,autoParam,.int,.inr,X.env,upd,X.A,X.K,.(by simp),?h o,.inl,?gz ?ae X.w,.(nomatch H1,I1),Zrr._auto_1,?E V,.(nomatch ?g,?g),X.xe,List,s.heap,decide,.lst,i+1,.nil,?L a,.ref,if_neg,s.heap.objs.size,.non,absurd,?E ?b3,?E Int,if_pos,∀{Ae:Bl}{σ:St}{H:Hp}{s:Shared},a,.(by let ?oE:=ry),St->?aW,?Ll H s,?E Str,.cons,?p i,.(by intro Ae s σ H Q I h),.(nomatch h1,h2),?h v,n+1,qa3 _,∀{K:W.Frag},a,Db I q ?v,Reps,its.toArray,∀(hK:?N5 ?nn),a,Vals,?L p,∀(Ae:Bl) (s:Shared) (σ:St) (H:Hp),a,∀{us:?Q},a,?h u,pure,∀{E:?ei},a,∀{A:Around},a,∀{pos:Pos},a,∀{a:Addr},a,?Mo 1,?E ?eV,.seq,?NP b,.none,∀{es:?dM},a,∀(xs:?B),a,∀{s:Shared},a,.(nomatch _,?g),none,?Nv w,.tup,?Q3 Hp,IsPair,qb0 hg,qb0 hf,.(nomatch es,ep),.(by decide),name,p.isList,X.prog,Gz fam w,Nat->Int,∀(vs:?B),a,?L ?N,.type,V.int,sumN,?E D,?Qp xs,I.kIn,.(by simp<;>ext d),∀{u:Value},a,outer,?L b,_,H p=none,eval,?bt H H',?L C,.(by decide +kernel),∀{h:Heap},a,?x ?g,s.heap.get?,base,Value,?gz prog w,?h ?k3,∀(H:Hp)(Q:VK),a,∀(a:Addr),a,?h x,I.tuple,?fB ?b3,.(by ext ay),bootBuiltins,?L f,?aj ?cy,?OA a xs,I.hok,List.replicate,I.list,∀{Q:?ei},a,∀{xs:?B},a,.(by show ?es),?h c,?aA xs us,?aj ?dE,.builtin,.(by ext ap),IsZip,X.base,(n:Int),.str,[a,b],[?K],.(by let ?fC:=_z),∀(hc:?jX),a,∀{σ:St}{H:Hp},a,∀(h:Heap),a,false,.bl b,#[t,?g],Pv i σ H,qual,2 ^ 62,xs.length,k _ _ ?b0 e,?cK Int,?bI hq,?fe σ H,?L D,x=?K,?bU _,X.mg,?bs x u,?cR a,RelV,Same,EP X Ae σ Q,Str->?iN,true,ObjOk,_,congrArg,∀(Pv:?Gy)(h0:Pv 0 [] τ H),a,∀{P:Program}{w:World}{K:W.Frag},a,∀(x:V)(y:V)(H:Hp)(Q:VK),a,∀(P:Program)(w:World),a,∀(ha:PA X ?cN t),a,.(by simpa using hb),∀(X:Cx)(Ae:Bl),a,∀(w:?R),a,∀(s':Shared),a,∀(s:Shared),a,∀{e:Expr},a,Pv i ys τ H,Pv ?I,"int",?B->?k0,k+1,I.ok.hd hc,?Om Str V,Vp.2,∀v,o.data≠?k3 v,Option,List.range,?b1 b=?w,e::es,Bool,xs=[?aB],?bs v u,h.get?,_::_,?h j,s₁,fam<0,?iZ=?w,kindOf,?h ?hU,.Call,?E Env,.(by intro X hP hw hK hc i Ae s σ H E I hf st hg;subst hP hw hK),.(by show ?ys),.(by intro Ae s σ H D I h),∀{f:?g3},a,∀(us:?Q),a,∀{fp:?aL},a,∀(ws:LLInt),a,∀{ws:LLInt},a,∀(u:Value),a,(?qb).any,qc7 _ ?g,I.bare,?L x,?p _,?MC a xs,compareOp,?rC tI,?ky x=?bM,?L it,S H a xs,?lS ?ak,.bool,#[h1,h2],"list",?h .local,args,{ s with heap:=h' },False.elim,qa2.mp,.(by intro Ae s σ H x y v u Q I rx ry h),∀(hr:Ih k ?t),a,∀(ns:?R),a,∀{ns:?R},a,∀(xs:LLInt),a,∀(fam:Int),a,∀{H H':Hp},a,∀{t':Nat},a,.(nomatch its,n,r),?p n,"tuple",[z,TI,TO,i1,i2],s'.heap,v=?K,Nat->?m2,?M ?i,.bl _,?cw ?bw,?E Expr,VI n f,.(by simp at h),?MI v d,?bU x,g x σ H' λσ2 H2=>tb ?HG σ2 H2,?QY i,λx H' y=>?_,?bs x v,?Lx xs.length,h'.get?,W i m σ H,its',codeAny,.ListComp elt [#[tg,iter,ifs,0]] sc ?n,W.findIn,?Mm vs ds,?E α,X.stack,qc0 ?_,?QU (W ?I m' σ' H'),deps ds,.Name,#[?z,q1],?E Stmt,K.lookup,2 ^ 63,∀(x0:A0) (x1:A1) (x2:A2) (x3:A3) (x4:A4) (x5:A5) (x6:A6) (x7:A7),a,_,∀{te:TE}{D:Addr}{Q:?aW}{τ:St}{H:Hp},a,.(by let ?Id:=hy;cases ry),.(by cases (?Mu (?iO a))),∀(mg:?bv)(base:Heap),a,.(by intro Ae s σ H xs us Q I r h),∀{K:W.Frag}{a:Addr}{xs:?B},a,∀(n:Nat)(f:?ag),a,∀{ws:LLInt}{fam:Int},a,.(by simpa using this),∀(R:?oM),a,∀{i:Nat}{x:Str},a,.(by let ?bd:=r),∀(r:?cQ),a,∀{vs:?B},a,0<=i,binaryOp,Value.bool,H l=?oB,g i j,?l ?_,Zdr._auto_1,?M hk,V->?aW,?H ys,h.IsListIter,qq3 _,starEach,i<=n,r.get,Itl K a,f n,[a,b,c],?Om Str Addr,I.free,?x z,(n,k),Itz K a b,(1:Int),?b9 hq,(a:Addr),?aA vs us,f i,Addr,?OL ?_,"zip",.BoolOp,∀b∈fp,?kS,?Q3 Shared,?Pw o,?aV ds,Value.ref,∃m,W 0 m σ H,.(by ext c5),w::r,λ_=>none,?b3->?ea,Jh n f,?g8 ?a4,s.heap.push,"enumerate",?gz P w,λ_ _=>False,d::ds,Itt K a,vs++dvs,qc5 e,s1.heap.objs.size,(v:V),∀(hf:?o (?sG\/?M7 ?cz) ?xU),a,∀(x:p0) (x:p1) (x:p2) (x:p3) (x:p4) (x:p5) (x:p6),a,.(by have ?Im:=hf it ?v),∀(ha:?CT)(hb:?Ma b tb),a,∀(hf:?ra),a,∀{vs:?B}{ds:?am},a,.(by let ?bd:=rx),∀(he:?sC),a,.(by rw[qc9,←hl]),∀{w:?R},a,∀{fam:Int},a,∀{v:Value},a,.(nomatch H,I,?g),I.ok.kind,#[u,hu,ru],λ_ _ _=>False,Array,#[x,?z,r1,q1],ps.zip us,?pc es x1 tpos,2 ^ 64,SameX,rv.get,Ne.symm,HT.sIx,Heap.SameBut,?dW b,?Pw e,I.cell,(?OT rv p),call_meets,qe0.mp,.Attribute,?NP D,?S hk,assign,Itr lo n,?Ls ha _,?fQ h,.fields,?Om Str Value,scope,(k:Int),items,?e4 .Add,D.nx,Q v H',.(by simpa using e),?h w,"bool",JJ h0,I.freeC,Ite K a,pl.isList,?p j,?q x,Rows,f∈ws,eqDs a b,?L z,lv fam w,?al f n,I.laid,?aA xs its,body,I.pin,{ s with toks:=?l1 },?hS [ov] (?pi ov m pl),?p b,.function,Nat->?ag,0<fam,#[_,e,?g],?Y r t,?QN b,I.hok.fresh,w1.extBut,qb1 _,vs.toArray,IntMulOk,?nw apos.atName,?L t,?H xs,s₁.heap,qa8 _ e,#[_,?g],H' b,V->?cE,backTo,#[t,e],t σ H Q,sc.names,Gl X x,hlen,?el ?nr,?M h,?h y,(f,first),λz=>?lU,∀(hdb:?so) (he:?mQ),a,.(by cases (?OG (y=?bc));cases (show v=?e5 b from ry)),.(by cases (?OG (y=?O));cases (show v=Value.none from ry)),∀(hd:?so),a,∀(F:Bs ?ae X.w ?u ?bp ?bS CX k f fd ps sp),a,∀{prog:Program}{w:World}{A:Around},a,.(by cases (?OG ?rU)),.(by cases (?OG (y=?bU z))),.(by intro Ae s σ H R I h),∀(Q:?F8),a,∀(Q:VK)(x:V)(H1:Hp),a,∀(lo hi:?bj),a,∀{x1:Nat}{tpos:Pos},a,.(by let ?bd:=ry),∀{b:Addr}{o:Obj},a,.(by simp only[eqD]),∀{g:TG}{tc:TT},a,∀{x:?R},a,.(nomatch H,?jq,?gI),F4 ns,JE ws f,Ih k A,?Qp X.N,hr.mono hk,[e,it],?ps=?a2,(xs.length:Int),?Nq us,scope.names.lookup,model,Gh ws rows,D5 ws acc fs,?Q2 b,eqF X H d,sc.names.lookup,R.free,.bl ?bw,IsEnum,?fJ ?bh 0 lo,(0:Int),ys[i]?=?gT,u=?ed a,fam=0,?Q2 c,?Q3 ?eV,IntsAre vs ns,?NP a,?a7 ?u H vs ds,V->?k0,.(by simpa using hv),i<xs.length,(?d3 hi).1,Pv i zs τ H,gH ?_,?bt H H1,Ap λgG gH=>?_,Zo H H',?Pm ?ql ?bD,holding,x==n,.free,?H ds,x::xs,?aV xs,c.nocell,x=?kr,b ∉ ch,?MZ (?di x p) ?cN,.(by simp;ext d),osc.names.lookup,V->?bj->?bj->?k0,(i:Int),bindL,c≠z,?L i1,?MI v ?lV,#[#[old,h1],h2],?bs y u,?x h,qb4 ..,X.env.kindOf,h _ ?v,X.base.get? b=?w,?S h,bindC,s.toks,R.row j a e,?oN ?bf ?fa ?N f cd,callerA,b ∉ ex,.(by ext iq),its.toArray.size,Paired,?H [],K.In ?F,¬?hC,?p i t,IsTup,below,I.kept,Pg X Ae H b,w2.extBut,"str",sIx ?pH 0 lo,g i,?fu+?eJ,?al _ n,?M ?v,{ s with heap:=h',toks:=t' },λv s1 _z=>?_,?L i2,UY ?de,jG ?gG H,λ_ _ q=>q,OZ cap σ,?cK ?b3,V.ref,?cK V,?NP ?N,xT h0,x∈acc,?h ?aT,?MI x d,w3.extBut,?p (lo+i),?MC a ?cv,#[_,ho,?g],?cR b,us++ds,LT K H ?K xs,Q ?aB H',?Q3 Heap,?Qh a o,_,XU h0,H a=?w,∀{g:TG}{tb:TS}{D:Ends}{σ:St}{H:Hp}(Pv:?m2)(h0:?Bt),a,∀(s:Shared) (Q:?ei) (E:?ei),a,∀{X:Cx}{sc:Scope}{N':?X}{cap:?E ?pS},a,∀(hb:?zA)(hd:?yr)(hx:?Fn),a,∀{mg:?bv}{base:Heap},a,_,∀{a b:Addr}{xs ys:?B}{n:Nat},a,.(by let#[_,_,z,_]:=h';cases z),.(by simp only[qc9]<;>ext d),∀(E:?ei),a,∀(R:?NS H1 as),a,∀{Q:Unit->?ea},a,∀{m:?bv},a,.(by let#[a,vs,e,q,r]:=h),∀(C:Addr)(m:Str),a,∀{vs:?Q},a,∀(fs acc:LLInt),a,∀(ha:PT X a tA),a,∀(x:?oH),a,∀{xs ys:?B},a,∀(l acc:LLInt),a,∀(p:?R),a,∀(ds:?am),a,ns.length<=n,n<=1000,w4.extBut,qa8 _ q,#[xs,q,?a4],λb o e n hb hx=>?_,hf b hb,?fN x c e,X.env.locals,w<=1000,getItem,.bl k,bs[i]?,λb ob q=>?j8,sp vs H Q E,IteG S a,k b u q,?bP id,NG ZI,uS S NE a b,?p k,I7.unpinned,a==b,.(by simpa using hu),I.base.free,i.natAbs<?jw,qr0 _,tOp r ta tb,?Q2 X.calm,.(nomatch h),.own x,ys++[y],env.cells,ht.typeIs,value,?h ?nW,x=?Z,sc.kind=?g2,Fj xs lo hi,#[e,y],As t u D σ H,?fL=?w,Vis ?sI x,I.list_inj,?bp x,S H b ys,#[xs.length-?I,?i,?g,hlt,p'],I.tok _,(x:V),?R3 Hp ?eV ?B,(?OU rv p),?Y _ t,qp2 _ _,2 ^ m,?Oq i,xs.length<=i,ds.any ?Gz,?Lt Hp VK,env.kindOf,j+1,.cell,I1.list,?L sl,s.heap.FunFrames,?di x px,y xs q,.(by simpa using hk),?kV s'.gens,Nat->?id,Sem ?cO,I.turned,r.inj r',#[xs,xs[i],q,by simp[hlt]],cells.lookup,concat_meets,λσ2 H2=>tb { D with nx:=?cC,ct:=?cC,bk:=D.nx } σ2 H2,vs=[],qb0 h1,?br=?w,An st,s.heap.update,#[z,?dC,e],I.base.there b o e hx,(p,w)::?oU,?H _,?gJ=none,n::ns,λ_ _ z=>no z,AllBare,ForInStep.yield,IsPart,(k,x)::r,∀x∈ns,x.natAbs<2 ^ Ub,?L A,a.length=b.length,qe5 ?es,#[o',e1],callWith,codeAny_mono,#[vs,?z,r1,q1],b≠e,(d:L2.D),?di x ?n,?aV [x,y],{ cls:=?bE,data:=?aM ?gB },?lS WData.int,h2 f hf,h<=1000,#[u,?g,ru],#[us,[]],?L l,?Qh p ?kk,((?JK:Nat):Int),qg0 _ _,w::vs,c.cells I.ok,My h2,X.env.cells.lookup,True.intro,h1.get?,s.toks+1,.ad i j n,∀b xs,?Pk ?le ?le,"dict",?fy p hp,A.deeper,trk h H,?Gc C ?N,I.ok.mod.kin,x=.bl c,eqD e d,?pq-?iB,(b,o),.(by simpa using h1),fs.map,field,?Qz I.ok.bs,N σ' H',?h ?oZ,neC b o e hx,?AR ?n ?yJ,?aF ?bb,xs.getD,Zer._auto_1,#[y,H2,I2,r2,q2],xs.drop,.(by ext mq),ns.map,(?OT r' pl),.(nomatch z),dT h w f,"range",ha ?n Ae s σ H _ I h,w5.extBut,Call_,?Ls he _,?E ?uF,?h a,b ∉ X.fs,?h ?hX,m+1,?ft=0,Q ?bm H',hf b hb',s.heap.IsCell,s.heap.IsTuple,.func,.Constant,qs5 _ _,λb hb=>(?jB).1,.(by simpa using hx),aI X sc N' cap,Q v H,(f:?g3),swapsWith,Classical.propDecidable _,I.step,X.outer,?MC a us,?x i,?bC x,?PR ?nm,#[_,ho2,?g],Nat->?V,?Ll H' s',?qh/\?Mw Ed k fd,I.len,.bl ?bb,H l=none,E6 ?fW ?iH,WData.list ?km,k.toNat,[b,c],λr s4 _z=>?_,pos.line,start N vs,?E L2.D,.Assign,assignEach,#[e,?_],Sum.inl,W.fnOf x ?bf (K3 st) ?Ig ?kM ?aO kV doc pm an Do ct,.call,.(nomatch e),qc5 ho,(?Nh ?gH),?h (.own a),?N5 (?py=?DL::?r0),Sum.inr,.(by(. obtain rfl:=?aZ;obtain rfl:=?aY;simp[?fj])),∀(hN:X.N.Nodup)(hi:?gs)(hx:?sW),a,∀(k:∀b u,?pN),a,∀(hn:?o ?H2 ?e9),a,.(by intro Ae s σ H x vs v us Q I rx rv h),∀{pl:?kC}(he:?wN)(c:?rl),a,.(by let#[b,ws,?g,q',r']:=hy;cases ry),∀{kindOf:Str->?cK NameKind}{x:Str},a,.(by let#[z,?dC,hl,e]:=I.lstM hH),.(by let#[b,ws,z,q',r']:=h';cases z),∀(hk:?o (j<=k) ?e9),a,.(by let e:b=it:=?ef),.(by let e:i=n:=?i;subst e),∀(x8:A8) (x9:A9) (Va:mU) (x11:zC),a,∀(x0:A0) (x1:A1) (x2:A2) (x3:A3),a,.(by(ext ip)),.(by let ?E5:=?b9 q),∀(H':Hp) (i:?m3),a,.(by let ?E5:=?bI q),∀(ps:?X)(k:Nat)(sp:Sp),a,∀(r:?gK),a,∀{f:?wK},a,.(by intro wh Ae s σ H Q I h),∀(sp:Sp)(dvs:?B)(E:XK),a,.(by rw[Aj (Aq q hn)];show q),∀{kw:?fZ},a,∀(cap:?E ?pS),a,∀(hu:X.A.units+n<cLine),a,∀{D:Addr}{as:?aL},a,∀{n i:Nat}{f:?ag},a,∀(x:p0) (x:p1) (x:p2),a,∀{P:Program}{w:World},a,∀(c:?lq),a,∀(f:?g3),a,∀(a:?G3),a,∀(its:?Q),a,∀(outer:?ca),a,∀(g:Int->?nI),a,∀(fp:?aL),a,∀(ha:?CT),a,∀(hl:?Ma l tl),a,∀(r:?eT),a,∀(h:?Gr),a,∀(x:?aw),a,∀{X:Cx}{Ae:Bl},a,.(nomatch _,_,H1,?g),Or.inr,eX xs i=?a2,h.objs.size<=a,(?aU).map,?s H4 D (?H ?ja),?Gc C dx,Int->V,?MC a ?dN,(xs:LLInt),wM _ _ e,Un.kept,Result->?ea,PySem.W.methodObj,?Pa ?Ck o e,c.kind,xs.take k,xs++ys,A.handled=none,J.stop i H,Obj.mapSeq,?h ?bD,?Q0 hi _ (λv s1 h1=>E6 h1 λitv s2 h2=>?_),#[h0,?_],noFill_tuple_add,{ s3 with heap:=s3.heap.push { cls:=?aj "slice",data:=?fY #v[vl,vu,?aO] } },rawInt,h'.IsTupleIter,?ed ?aK::us,[?Z,?fn],I1.kept,?b3->Sem ?b3,Cls K C,K w.params,ws++[w],A35 h0,if w∈ws then ws else ?nj,H2.objs.size,X.K=K,s.TypeIs,?cK HO,I.ok.above,PySem.W.emptyDict,?bG p _ hk,n=?cD\/n=?fi\/n=?iA\/n=?dE\/n=?cy\/n=?l4,?NA k,?QQ ns,standAt,pa.isList,?Nj acc l,?p fam,getAttr,?aV ys,s₁.heap.get?,imms ds,(?gL cpos ?r0).any,?x e,Q () s',?S ?i,?h ?a2,#[od,J,hl],(n,NameKind.cell),?h ?gF,sliceBounds lo hi ?aT n,?p x,#[t',?g],Qp ws fam,#[n,?v,?gA,h0],?P1 H h,(?hu).2.2,H b=?aE,E6 ?la ?iH,?cw b,It->?aW,envOfC,?bP ?vY,x∈?ny,λxs ys i=>?jy\/ys.length<=i,-?bT<=i,u.keep,Kp H H1,P.zip vs,Rep.inj,.FunctionDef,d0::ds,?BF-?h8,.ins C dx fs,attributeBase,f i c,ws.toArray,_::_::_::?cS,I1.hok.fresh ?a4,behindInMarks op b=false,J.go i H,(?DK).symm,?rg∈sc.names,Ep K C f,ys++[v],#[_,?cl,?C],(hi-lo).toNat,u=Value.none,.of ?_,.ellipsis,A36 h0,?dW ?N,?PQ e,its.toList,∀f,Qj ?pX (mA f),?fQ (?Iw b z),#[v,z],?Mk 1,y=?as,?bs y v,x∈?h1,#[sl,e1],PySem.Within,#[o,e,c,d],?B->?aW,Nat.log2_lt,ns.length<=63,ds.map toI,o.dict=none,.(nomatch hf),c≠i1,.(by rw[q];simp),ql9 ?_,s.heap.IsTupleIter,.(by simpa using h),∀b o u,?Pk ?su ?su,σ[j]?,items.size,as.map ?iO,(i:Nat),Cc ?IY,?Qh D ?i1,?aj n,?iZ=?aE->?fL=?aE,qa0 hj,s'.os=s.os,H4 D=?h ?eC,preSum,?cK Nat,ws.findIdx,?x ?we,sc.names.all,?Ll H ?iG,?rH f,{ cls:=?aj ?lW,data:=?fY #v[?p lo t,?p hi u,?p 1 v] },?OO A,x=?aB,?Lx n,.Tuple,?h ?sM,I.ok.bsz,?NR (?gL ?n ?py),w.drop,?bj->?aW,getMethod,j<xs.length,?Ph v e,?jT b o e n hx,i==j,∃a b c,w=?eK,eV X.env.cells ?gO [],k b ob q,sIx ?pH ?pH hi,(ns:?R),vs[i]?,#[u,r,l],?E Keyword,.(by simp at e),h.Ns1 dx mA,w.length-1,?Qc ?cN,λe=>eqD e ?JO,tn i ?F,eqDs_refl,#[o,ho,hd],qv9 _,.same _,AU I hg hm ?_ hdb,Pd.new _ _,X.s₀.heap.get? b=?w,seqIndex_neg,jE ?bG e,?eO::r,s2.heap,o.slots,if c then A else B,λi=>?wm,?M hz,#[i,hi],?h (?fU ?k7 ?r),x∈ws,(j:Int),its.length,its.toArray.size*k.toNat,Zkr._auto_1,d.name,∀vs H Q E,?jJ->?I6,wpAny_standAt,#[its2,r2,p2,_],W.codeIn K Do ?bf=true,λx1 x2=>x1++x2,ds++[d],?d2 hq',.(by rw[qc9];ext d),∀f∈?aU,?fq,∃xs,SqL K H1 a xs,D->?cO,?OR o,?S ?v,?gL ?n ?r0,pb.isList,H1 a=?lJ,?R8 ys.length,tb σ H1 Q,?Pm W.isFn ?bD,Qn K fd ps [],mainGlobals,relabel sc ?r,(?OU r1 p1),W.keepIn,?mH es ?r,Reps.same,?fR e f ?n,x.2≠NameKind.cell,PySem.W.plainGet,mA ?ac,∃a,w=[a],?gC i j,tI x,BindsTo,?ML C,?Qh x o,Builtin.SmallTypes.nextOf,X.pn++Ae,?Qc es,?p ns.sum,?fk x c e,BG hij hj,?Mp Do,as.length=h,?Ly hb _,i<vs.length,?M hb,k b o (λz=>hc (by simp[z])) e,λ_=>0,N'.zip cap,xs.map,?My us,?OD ds d,f v u,X.wish E,fs.lookup,q _ ?ek,WData.weight,.(by simp[h]),i.toNat,?q ?g,I.write,.(by rw[qn9];simp),(?ni).In,#[v,H,I,r,h],min v ?bT,λu s1 _z=>?_,List.foldl,y=?Z,(h w:Nat),?bt H1 H2,b::rest,env.cells.lookup,λm hm=>?_,∀b∈fp,?i8,?hd p.1,dx≠x,#[cls,dd,data,sl],?MZ ?Jd [],seqIndex_of,(n,NameKind.free),?bP "sum",λ_ q=>q,.ty n,?h4 x=?b5,Cls ?u C,PA X es t,qc0 hQ,Gz fam v,ns.getD,dep d,?x q,Zir._auto_1,λp hp=>?_,(?el ?pY).objs.size,Builtin.Int.intBits,TR n d,#[m,hn,hl],typeIs_int,?Q2 ?nu,?G (a=b),#[o,e,ex],Nat.min_eq_right,k5.objs.size,λτ2 H2=>tc τ2 H2 (?Pv ?Jn ys),wpAny_Name,λi=>?Gt,(hs.2 b (?Na ?es (I.ok.cab x c hfn hc))).trans,ql1 h0,(?RC (?Qi (eb b o hb e))),s.free,isTrue,?Ma e te,o.cls=?bO,a<h.objs.size,TP X Ae σ Q,X.fn x=true,seq_tuple_add,X.env.scope,base.Ns ?qi mg,?aj T,H a≠none,{ cls:=?bE,data:=?aM ?a8 n },if v<0 then(v+?bT).toNat else ?v8,#[e,n,ne,nf,d],s₁.heap.Ns,?Ph x d,pyIter,acc++its,?O2 ?bh,?hf+1,.Subscript,Loc ?sI x,I.lset,H p=?oB,kk c o hc e,LLInt->?xQ,[a,b,c,d],?jn=none,ws.map tI,?Pa ?D2 o e,#[_,e],c≠i2,.(by simp[F4,eqDs]),?Lt Int Int,putF f v fs,?d2 hq,(x,NameKind.free),?bP "all",us.length=h,?QG "__debug__",?MZ ?Jd ?cN,?al g n,?rH m=none,gO i,#[u,?g,rx],?h ?x2,(sizeLine:Nat),.(by simpa using h2),?Ll H ?d1,Builtin.Slice.slicePlaces,?Qh ?N ?kk,I1.laid,?L j,FnScope,p'.isList,(hs.2 b ?zd).trans,?av e env,id I.loc,p.getD,letOwnedTupleGo,?h ?fb,if ?Ef/\f ∉ acc then acc++[f] else acc,qu7 _ _,.(by ext tR),?E ?iP,λ_ _ z=>z.elim,G9 X sc N' C s₀ H₀ fp,k b o hc e,Data.fields _=Data.cell v,Aq e h,.(λz=>by simp at z),?p ?eU,.(by rcases Wd h with⟨h0,⟨a,rfl⟩|⟨a,b,rfl⟩|⟨a,b,c,rfl⟩|⟨a,b,c,d,rfl⟩⟩|⟨h0,rfl|⟨a,rfl⟩|⟨a,b,c,rfl⟩⟩|⟨h0,rfl|⟨a,rfl⟩|⟨a,b,rfl⟩|⟨a,b,c,rfl⟩⟩),∀(hch:∀b∈ch,?vz),a,∀(ht:?NB PTs ifs tc) (he:?NB PE elt te),a,.(by rw[show putF f v ?kY=(if k=f then(k,v)::r else(k,x)::?yS) from rfl];cases hk:k=f),∀(hst:?mQ),a,.(by let l1:=r.length;let l2:=r'.length;let l3:=rv.length;let l4:=rv'.length),.(by unfold Au;rw[?dJ,?iF,?dJ];rfl),∀(hs:?o (∀x,foldedSetIterable iter ?r x=?aF x) ?rs),a,.(by intro Ae s σ H x v vl vu lo hi sl Q I rx hs pl pu h),.(by subst e;show I1.fpOk ?a4 ?oe),∀(hg:?NB PG tg g),a,∀(hl:?Mr ?cp),a,.(by let(?P8 I):=h;show(?P8 ?uI)),∀(A:Around) (outer:?ca) (s:Shared) (H:Hp),a,.(by exact X.A.units+1+?dh<cLine;ext d),∀(e:H a=?lJ)(c:?rl),a,∀(hg:?gP)(hm:?jn=?h ?ax),a,.(by cases hk:?rz),∀(hu:?Gq),a,∀(x:V)(lo:?bj)(hi:?bj),a,.(by let l1:=rv.length;rw[qa5]at l1),.(by let ?lT:=?eR),.(nomatch I.os,?cm,I.base,I.loc,?fN,?eM,?fk),∀(hn:n=min ?bh ?J0),a,.(by let#[c,?g,q1]:=q1;cases r1),.(by show ?Ly hb Q),∀(σ:St)(H:Hp)(Q:?V),a,.(by have#[f,fd,?a1,h3]:=h.ex),.(by let e':¬?cV:=?i),.(by rcases ?fX with e | e),.(by cases (show ?kJ from h)),.(by let e:?i3:=?i),∀(ho:Xv X (?cq op) r),a,∀{fd:FuncData}{ps:?X},a,∀(hok:?OY H' h'),a,∀{c A B:Prop}[Decidable c],a,∀(hz:?ua),a,∀(prog:Program)(w:World),a,∀(sc:Scope)(N':?X),a,∀{mA:?bv},a,.(nomatch oc,od,kV,doc,pm,an,Do,ct,osl,?g),∀{z TI TO i1 i2:Addr},a,∀(i j:Int) (t u:Tok),a,∀(h:?dc),a,∀(h:SqT ?u H a xs),a,∀(hn:l.most=?h n),a,∀{B:Addr}{H H1:Hp},a,.(nomatch rx,a,C,dx,fs),scal x y=true,ho Ae s2 σ H2 x y v u _ I2 r1 r2 q2,?Nc (a==sysModules),?Ll H ?xz,∀b ps,H b=?h ?HX->∃more,?gJ=?h (.tbl (ps++more)),Int->?Ek,λi x v e1 e2 e3=>?_,?aj "StopIteration",Str × NameKind,xs.eraseIdx,zs++[y],I.unwish,qr5 (pl:=pl) ?Il ht,.list_int i t' ?ad ?i,?Q2 ?yW,.(by rw[hC];show ?jV),?ao a o hk,?QQ w,.(by rw[Aj (hm b _ q λz=>z)];show q),ntr _ _ hc',xs=[x,?rj],?q (?x #[a,b,?g]),λz=>(hch c z).2.2.1 x c e ?g,λx c e=>?_,s.heap.Ns ?jD m,?N5 ?gs,?cq .NotIn,?Ma o to,?kG x=?bM,?Lx ys.length,T.keep _ _ _ st5 λb hb o e=>(?Ci).1,.str_bool c t b,.set S n,qw7 _ _,#[u,hr,h4],y=?fn,Reps.inj,PySem.W.handedIn,Same.new,(?mR a:Key),#[a,xs,?g,hx,hw,q],?P7 ?rY,λp hp=>?P hp (by simp[G9]),I.tuple_inj,#[u,r,?_],step x H5 y5,#[#[o,e,ex.1],λa e2=>?_],Q7 ws fam 4 [w] [],?Qv (hc Ae s1 σ H1 vs us Q I1 r1 q1),nsK hns,#[_,e,_],(?OT r ht),?o2 b=?w,?aV ?nS,?bt H0 H,(a+b)%fam,us'.toArray[j],t D σ H,.bool_int c i t,∃t,u=Value.float b t,?NT h ?aO,DO ?kw,?sq+g n,min v.toNat n,h.ok ?bG,?Q7 ?jm,λf s1 q=>?_,Data.seq,Rep K H' v d,yW R vs H1,true==true,(?Ht).map tI,R x y H2,λ_ s'=>?Qf SP D (.next),{ cls:=?bE,data:=?aM its'.toArray n' },?pX=?a2,wpAny_callSpecial?_slot,.list_bool b ?ad ?i,#[main,?_],Q7 ws fam n layer rows,#[p,ys,?g,hq,q],.(by ext iv;rw[Kj.mp r]at q;show#[a,e,q]),?Pm PySem.W.hasDictIn C,?h4 x=?cz\/?rk,¬(?h8=0/\?Oq ?BF),#[ho,ho2,?_],j<1073741824,?b1 p.1=?h p.2/\H p.1=none/\p.1≠X.env.locals/\p.1 ∉ X.fs/\∀v,p.2.data≠?k3 v,ntr _ _ e,"isinstance",EqD X H s d,ItB Q x H1,(sb.2 b hb).trans,?nb ?s3,#[ok.mod,ok.kind,ok.glob,ok.blt,ok.above,ok.inj,ok.has,ok.cab,ok.hd,ok.frames,ok.stk,ok.exf,ok.bs,ok.bsz,ok.noex,ok.exfs,ok.funs,ok.frf],cap.length=N'.length,?OB ?rG Ae,?Ec h1 h2,tCall sp [] E0 t,e0.hok.fresh,#[hr,I4],(?pG).join,as++[b],#[v,r,?g,_,h2],#[i,j,?g,q],"__getitem__",k5.IsTupleIter,tI ns,PT X c tc,?MC p xs,[s1.heap.objs.size],wpAny_comprehension_free,yQ Q x H1,#[xs,x,hq,hx],?uk=?mR b,[v,ov,iv],?wV/\?g7/\?HV,?QP Q I,?ML b,ltc x a e,?ed ?aK::?ia,?E WData,#[o,?aa,ho,r],(?mJ a:Key),#[p,xs,i,z,?C,hq,he,q],?O1 hb wh Q,?Qa hb,?Lr M (storeName ?r x u),qa4 ?pe I.sz,mS x vs H Q,bs.map ?iO,I.base.tbls,Subscript_,i=1/\j=2,∃a b,w=?bV,.(by ext KA),SqL K,?b3->?ng,pl.isList.typeIs,#[i,?g,q],?Ma o ta,?h od,#[v,o,ho,hd],?rq<=?dh,?kX vu hi,Heap.get?_update_other,?Mp cd,.(by simpa using q7),b∈X.ex\/?M1 b,?p8/\o.data=?aM its n/\?Lx its.size/\?aA xs ?ot,?Lr ?b4 (?qy ?t1),Er K x ?bf st f fd,?eD it a i,Q ?BW H,?kX vl lo,Heap.SameBut.update ..,∃t,u=Value.bytes b t,#[a,?g],e _ _ h,?RD a ys,?uh I r r',Ap6 K n neg x y H Q,?sV o i ?n,IrI C g x y H Q,(its.toArray.size:Int),dL w ?eU,?bz ?h e,env.scope.kind==?g2,IrU g x H Q,?x hk,yZ t u vs σ H Q,?al ?GF n,#[a,b,c,?g],λo=>o.bind λj=>?vk,F.slot_int_rmul,?bP "min",Yw H Z a,λi x ys τ H e p=>hs i x ys τ H e p,?R4 Ap1,eqDs_len,Nat.sub_pos_of_lt,.frz o u,Q ?B4 H,?Qz neL,again I7 n7,loop _ ?g,qa4 ?jv ?ln,?QQ p,bX fp s5.heap,ItFld K f Q x H1,?Qz ?CS,fs.length<1000,.(by ext Jv),?L ?s3,e=x\/H e=?h ?jZ,.(by rw[hj];simpa using ew),Ih ?cF ?t,intBits_le_64 h1 h2,qs3 ?fm ?_,s₁.gens=#v[],λ_ _ _ e=>e,qg3.mp hb,?Lx ns.length,wpAny_setField,w.length=1,LLInt->LLInt,?Nj [] l,b∈X.fs,List.length,Zcr._auto_1,.int_tuple c t p ?i,q _ I.fresh,?gL ?n (?Qc ?d0),σ.set i ?a2,preSum_sum,Obj.data_mapFields,Kj.mpr ?g,SqT K H' a xs,#[o,e,c],?G (x=y),r x y H Q,?OV MQ,i.toNat=j,?PO ?lk,∃u,?dW e=?aE,#[v,q,e,?a1],λus s1 #[vs,?z,r,q]=>#[I1.kIn,?_],#[?JN,ho2,hc2,n2,hd2],qc0 ?yK,(i+n).toNat,∀x∈sc.names,?qp,RY r' tc σ Q y z H3,vs++ws,?A8\/?zc\/?wG,I.pins_of,#[_,_,_,e,_],#[p,ys,a,b],∀name,?JB=?h ?qr,?H ?jh,?t0 (t':=s1.toks) (?R9 ?gH) ?a4 ?_,{ s with heap:=h',toks:=tk },x.2=NameKind.local->?h4 x.1=?h NameKind.local,?aA ys ?dY,Ih ?cF A,?Qf HP σ Q,?QM h,λb u q=>?j8,∀y∈sc.names,y.2≠?hU,IsRangeIter,?Os n,?Pw ?re,?aM (?QB ?lC).toArray,?Mu (?ak b),qe1.mp hi,Aj5 wi cap g tc te,λb=>?_,eqDs (F4 a) (F4 b),(?sj).length,g==f,?pA->?sg->?z8,keywordEach [] ?r,qc0 #[?aS,qc0 h],PySem.W.takerIn,#[f.2.2.2.1,f.2.1,f.2.2.2.2.1,f.2.2.2.2.2],#[?B4,H,?jq,#[?l1,by rw[qc9,hlen]],q],?p (j:Nat),b ∉ X.ex,#[p,u,v,hp,?C,y1,y2],#[σ,H,I,h],putF f v r,?Fp a [op] [b] ?n,A.units+1,hl u hu,g==k,λ(m:Nat)=>xs[?z4]?,E6 ?fW λc s1 _z=>?_,sIx n n hi,#[a,vs,?g,hq,_],boot_range,.(by rw[hk];show#[_,I',q]),k=NameKind.free,VI w (f (n+j)),?aj "type",.own ?aK,#[?ol,?_],[s.heap.objs.size],Pg X Ae H' b,eqD d e,H dx=?mP,h'.objs.size,#[p,v,hp,?C,y],PGs X es t,?O0 SD,?dh+1<=n,?aA dvs ds,?P (show ?Q2 false from hs) qe9,(?hv).kindOf,?pc es k ?n,.(λv q=>by ext L9),#[o,e,ex.2.1],.(by rw[qc3];show hz),pI ?F x dx C mA,r.append,Jh ?a3 f,?Pw b,Paired.mapP,?ON ?E7 ?ss,(?hf+(m:Int)*1).toNat,?OY H' ?dG,Vals.append,isTrue_or,?EZ->?dW c=?w,q p _ (?uj hp) (.of Ab),Qn ?u fd ps ds,ob.slots,∀d∈ds,?vZ,PA X ?bV ta,.bool_tuple c p ?i,?b1 b=?aE->?fL=?aE,hd σ H pp,((?iB:Nat):Int),if j=i then 1 else 0,?Pm PySem.W.makesIn C,{ s with heap:=h₁,toks:=s.toks+([]:?fZ).length },λj y v' e1 e2 e3=>?_,#[_,_,_,_,o,_,_,e,ex,_],(?xr).toArray,?cZ (?fR o ?ac apos) ?cN [] cpos,.UnaryOp,W.fnOf ?ac ?bf params ?fx ?fa dV kV doc pm an Do ct,Rep.same,.(by rw[qc9]<;>ext d),.str_str c t z t',Ao8 tb σ Q x H1,.(by ext tZ),∃c d,?Gg,qh8 (?Qv ?_) (by rw[hs,hs2]) (by rw[hs2];rfl),?OA a ?cv,?fI hb,?fR o f pos',.bool_list c ?ad ?i,i=0/\j=2,?Na ?es ?nq,Jh n ?rA,?b1 l=?pd,us.toArray[j],ns[i]' ?i,sA K n x vs H Q,#[?tz,lk,hcd],.(by simp[eqDs]at h),I.base.tups,My h1,?ND D ?ok,I.cne x c e,?QR p,∀[?c9] [?cj],?qv s fd #[[u],[]] [(x,u)],Builtin.List.listTooLong,?RD a xs,#[o,_,ho,_],?aV ?jh,λc hc=>?_,a b _ ?Br e,?fN x a ?w2,?Qh p ?Di,.tuple_int i t' p ?i,λi j=>?p ?e7,λc H1=>Q (!c) H1,.(by let:=r.dp;ext d),za0.mpr q,?ML a,?fJ ?qK 0 lo,h.objs.size,?cu/\?jo,i=0/\j=1,?Qp P,Ih k ?hw,Or.inl ?g,?Mk 4,PG X ?kj ?ss,CE ?ar P w H s Q u s',.compLoop,#[?dY,rv',p',_],?Qy us.length,r1.append r2,Ao7 i σ H Q,λv hv=>(qg7.mp nd).1 (qs6 hv).1,#[xs,ys,xs[i],ys[i],qa,qb,?bQ,?bQ],(?OT r pl),Mut (H x),K.In ?b2,?Qh x o',?Nc ?yW,backToKw,∃o,?cW/\?cJ,?OV mR,?t8 tg ?ct u,yP Q x H1,o.data=.dict es ep,P σ' H',#[?dY,_,p',_],?fK e h' h3,λh' st' sb=>?_,hl i σ H hi pp,∀[?aC] (x:V) [?aQ] (v:Value) [?cf] (Q:VK),?W->?dU->?QO ?bN (r x xs H Q) (call ?jM (v::us)),.(by rintro rfl;show h v qb4),.bl (!c),wpAny_updateSeq_pair,?ky x=?lc,λw=>w==f,?Qf Bo ?xY H,?RD p ys,qn2 ?_ (by size_fits),?MC b (VI w ?eU),ds[j]' ?i,λ_ s6 _z=>?_,4*l.length,λr s'=>r=.ok (.ret ?dL)/\OldK ?gG ?dG/\s'.os=s₁.os/\?kA,hb b hb',Ap9 K R x H1,Walks.list (show X.A.in1.handled=none from hh) ?N p ?_ ?a8,λv H2=>v=?O/\Q ?cn H2,hl n qb4,λb z=>?P z (noA b),isTrue_and,?E Key × Addr × Value,λi h h' st k=>st.at λo e=>k it ?v o e,T ?qB,.int_int c t i t',.(show ?a3+j=n+?k2 by ext d),pyNext ?ct,.tuple_list p ?t3 ?i,?p ?J0,tn i s7.heap,Mk ?u C f,.bool_str c z t,W m σ H,(mixKind prog w).is,(?bb,?z1),?L ?Fm,Bp2 g x y H Q,?h e,?NW (c≠b),?fJ ?bh ?bh hi,∀x∈P,?vS,.(by simpa using hi),((?v8:Nat):Int),X.A.handled=none,#[o,e,d],κ × Value,its.toArray[m],eq_of_beq,UY ?ar,bs.map V.bl,ds.length=es.length,?Os ?bh,?PK hch,PA X [a] ta,#[k,?g],κ × V,.bl ?rw,?cM/\?aN,d.params.defaults=[],?oV I hx' hy',I.ok.inj,List.getElem?_range,{ s with heap:=?el ?pY,toks:=tk },?QY k,vs=v::r,.(by let:=r.length;ext dx),I.ok.exfs,∃sl,?fL=?h { o with slots:=sl },#[_,?cl,?C,?aS],#[?Oy xs.length ?dS,?IL,?_],?Qy ((?ia).length),call_list_seq,.none_tuple p ?i,?Ms (?Pw ?kj) E s,subscriptTail,Ae1.extBut,zF ?bh i,F6 e h (by intro z;cases z),∃o,?kL,Pv 0 σ H,.(by ext Ju),?Ow ?b5\/?Ow ?cY,(?qm).findIdx?,?b1 p=?pd,.(by rw[I.ok.glob];show I.mod.glob.keeps I.bk),.(λv z=>by rw[d]at z;cases z),?Lz ?yK,c.locals,?bP "len",λr s' hq=>?_,?Pk ?w ?w,?R9 ?_,?N4 (ho Ae s2 σ H2 x y v u Q I2 rx ry q),?MG u s',?O0 Ap4,.ins C dx [],(?dN).length,yT o i v H Q,t { nx:=λ_ H'=>Q ?O H',rt:=Q } ?mE H,((0:Nat):Int),xs[f.toNat]?=?h q,rA hij hj,?Qf Bo σ' H',J.yld i H x H',.list_tuple ?ad p' ?i,c ∉ fp,subscripted,?PU ?rX,?O0 Ap5,?cK Expr,?Mw Ed ?cF fd,s.heap.IsSliceOf sl vl vu ?aO,?Gm\/?Ep,#[a,e,?E9,q],I.ok.noex,?Ma a ta,?Nv ?eK,-?bg<=j,vs=[x],?Qh l o,#[xs,hq,hx],bs.all id,?fe σ H1,?A8\/?zc\/(i=0/\j=3)\/?wG\/(i=1/\j=3)\/(i=2/\j=3),#[_,hen],?e4 .FloorDiv,.(by rw[qa9,hb];rfl),#[o,ho,hc,n,hd],?Qh ?N ?i1,?PR C,I7.pin ?lD (qh2 _ (qh2 _ (Q6 hb e))),#[?g,fin],I.base.keep,Af5 ?sI X.N sc N' cap=true,hd ys τ H p,hd σ H p,λh' c' kp e=>fin its r' hz h' c' kp e,?NQ ?dh,#[w,ew,rw'],λv _=>v=?h6,.tuple_bool b p ?i,#[hz,hTI,#[u,v,hTO],?a1],.str_list c t ?ad ?i,.(by simpa using I.len),vs=[y],λw hw=>h w (?Qa hw),?O0 YU,λz=>?_,qh2 _ z,#[sl',e2],I.base.slot,(?OT rv pl),?Ll H' ({ s with heap:=h',gens:=g',drawn:=d',toks:=t' }),?t2 N ps ?fa,seqIndex?,h₁.get?,?Ls ho _,λy H4=>H4 D=?h (?H zs)/\?R8 zs.length/\Pv ?I ?uH τ2 (?s H4 D (?H ?uH)),?Lx (xs.length+ys.length),?bP "max",?Q0 hc _ (λd s1 _z=>?_),#[a,?aS,h,?xb],.int_str c t z t',.(by simpa using rv),h n ?i,#[?aS,r],#[_,_,_,q],rX X ?fx tb,qb0 this,(?bb,?fM),.Pass #[0,0,0,0],k b u (hb b n) q,?R4 Ap0,#[n-?I,?i,?g,hlt,p'],?Qa hv,#[p,bs,a,b,c],?l6 ?hv,qn0 lz,b≠it->?Dy,?w6=?mJ b,.str_int c t i t',λb ps e=>#[#v[],by rw[e];simp],#[z,H3,I3,r3,k,e,q3],H' p=?rD,subscriptTail_builtinR,fs.length<=1000,λ_ _ _ _ n=>n,?D6 i ?bh,D.TOz.symm,.list_none ?ad ?i,?R4 YS,?Ma ?kj (tVar i),?aV [?Z,x],?mL ?EK ?Eq,SP X Ae D,.(by subst z;rw[r]at mu;show mu),es.toList.any,?cn::?er,λq=>hb (q▸ ?hn),∀b∈fp,∃o,?cM/\?cJ,#[x,n,d,a,b,c,e],Nat.sub_add_cancel,((?om:Nat):Int)-?CD,.ok .next,?fK z h' h3,CZ ds es hl,?PU ?FR,l.row.toRowW,?cM->?jk,∀l,?m7->Q ?kr (?Qh l ?o1),"list.index",?aA ys its,?P4 ?rX,#[_,o,ho,_],?sB e ?r whole,(?OU _ p),#[i,j,?C,q],?di x pos',λf=>(?gq:Int),#[xs,hq],?Mu (V.bl b),#[v,r,?g,?a1],?Ox ?_,?yz hd,2 ^ (m+n),?e4 .Mult,?nb ?N,#[u,w',?g,?bd,?oE],?Y ?g ?J,Ep ?u C f,?L fa,?OV YT,Q ?ER H,#[mA,O,r,_,_,_],?Mu (V.str b),(?sj).map,?Ol it,.bl ?CZ,?E Key × V,hk c o n1 n3 n4 n5 e,?Ma ?hb (tCB r t),?RA hk,I.ok.frf,RZ x vs H Q,g.typeIs,?Ol c,?Aj\/?Gk,I.hok.laid,fitsIndex_both,w.length=0,?Ml ?ac,f ∉ ws,?nV f,.flt b,TI K H' v ns,.none_list ?ad ?i,Int->Int,(fam:Int),∀zs τ H,Pv n zs τ H->Q H,a c o h,op≠.In,?OA p ys,#[?bW,[]],?MZ (?RB ?IZ) ?cN,?zP .Not a ?n,.dT kvs,dep ?qu,?oa e f ?r ?fM=?fM,.(by simpa using hs),builtinsNs,#[o,es',ep,ho,r],z.sameBut hs (cne y c e),.(λm' hm=>by ext KT),?R3 ?B ?B Nat,floordiv_int,#[m,?w5,_],.of_refs hab main,?OA b ys,Q ?e7 H,#[h1,?Io],?cO->?aW,?sl∈sc.names,?OV rZ,PG X tg g,#[?rd,ho,hc,n,hd],w.length=3,qa4 (cutV_length xs lo hi) hz,yX K R x H1,?Ma ?kj (tC v),k a _ ?b0 e,Nat->?aW,#[j,?g],#[m0,w0],∀H',?aw->?Ji,λ_ s5 _z=>?_,[op,op'],#[u,e1,e2],#[H3,I3,q3],?QS ?jd (?h ?za),a::?rX,#[I3,hn3],YQ C m sp dvs E t σ Q x H1,A.depth+1,Addr × Obj,ih _ ?Hh,∃c,?rY n=?bM,#[qa,qb],U9 _ _ hv,(?MK ?IU ?IU),Heap.get?_update_self,hl j y v' e1 e2 e3,PySem.W.cellsFrom_some,slicePart_none,λ_ _ e=>e,X.prog=P,?Q2 (! ?P6 a b),u σ H1 Q,λ_=>rfl,wM _ _ q,Calls.Name_function_global,s3.heap.objs.size,Xq CX X E,wpAny_call,.Compare,if g=f then ?aE else mA g,?h (?ed ?N)=?h r,PIE X Ae σ tg R,#[hz,hTI,#[u0,v0,hTO],?a1],λr s'=>r=w/\?MG r s',?Q2 (?zH==0&&?eQ==1&&?lC==items.size),#[sl,hL],j9 ?ae X.w ?u tg J fp it tn,λ_ s'=>NP X Ae Q s',#[xs,ys,qa,qb,he],.dK kvs,vs=?bW,?ho x=?b5\/?ho x=?cY,?fG B H H1,σ[i]?=?o8,(?bb,?JT),#[o,e,_],.ret u,(?Nh ((?Qz e0.bs).1)),y2 ys qb,Bo Y [] τ' H' s',wpAny_assign_Name,lo+?CD*1,?h ?jM,∀c∈?dF,p c,λi=>f i j,?kV s.gens,f7 f y fs,D.TOi1.symm,?mG [?za] ?jd ?n,?B->?V,#[?p ?e7,?go,q],hA b ?pB,.(by let:=r.un;ext d),?P5 ?en,Builtin.List.listFitsIndex,?P ?g z,∀b∈fp,?yj,"type.__call__",List.range',?Nc sc.isGenerator,?RA ?mO,r xs H Q,.(by ext Kz),Q (?p ?e7 ?ht) ?fz->?Gh,#[?OX xs.length ?dS,?IL,?_],?Q2 (?ed t==Value.none),X.s₀.heap.FunFrames,PySem.W.instObj,(ql7.mp hp).elim,vs=[v,?p w],∀x:Str,?H2->mb x=?lz,?aX h TO c d,?Ms (f ?i4 (?p j u)) E s,D.TOi2.symm,#[?jA,?jA,?jT,?Ic,?zl,?Gl,?wE],SqT ?u H p ys,I.base.frzs,?MC p ys,?aA [x] us,putF f y fs,Ap2 x y H Q,∀σ' H',?AX->u D σ' H',RX fam ws,λi=>(?jH).getD ?bw,?rp i 0,?L e,?a7 K H' vs ds,.(by rw[sizeLine_eq];decide),.(by rw[qj3];ext d),Nat->?GK,λe=>?lB,∀v,(x,v) ∉ binds,?q (?q ?wt),x≠"__name__",y1 xs qa,slot_list_getitem.lookup,λh' tk k=>#[_,H,?i7 k,?_,q],λτ2 H2=>te τ2 H2 ?Jn,?Pw ?sp,(show False from r).elim,.str_tuple c t p ?i,bs[i]' ?i,#[m',hm,w7],if v<0 then max (v+?bT) 0 else ?rR,?Qa ?hn,wpAny_letGo,Ao9 K f D σ y x H2,{ D with nx:=N,ct:=N,bk:=D.nx },?Lx kvs.length,qd2.mp hf,?Q6 ?DP,?k1 n==?b5,.(by simp[putF]),λf vs=>PySem.call f vs,pre_splitW hpre,{ D with nx:=u D },YR tb σ Q x H1,PI X tg iter wi,#[?a1,h3,h4],.tuple_str z t' p ?i,∀b∈fp,?Nm b,qg2 hiσ,?BE/\∀p∈?qz,p.1≠b,λ_ e=>?mM,.tbl ps,VO I (A:=A.in1) (by exact ?JI;ext d) r r' rv rv' (eqDs_ok I ds) λd h=>aY h,UnaryOp_,((?yZ:Nat):Int),?Pw iter,p.map ?ak,qe6 (x.above y c (qp4 h)),#[j,?a1,h3,h4,h5],hn.sameBut,.(by rw[qa5];show hl),λm hm=>hl m (?Qa hm),(?bG b u e).stay,.ins C ?N [],#[f,h,?v],(?d3 e).1,T.obj _ _ st5 b hb,YW R vs H1,λa e=>?_,D5 ws acc ?aU,Ap8 K R vs H1,tn i ?dG,qo8 _ z,xs++[x],?bH k xs,yY K R vs H1,Mod ?u ?bp ?bS,?Pw (?MZ (?RB e) ?d0),?P (show b∈([]:?aL) from z) ?v,dL n f,#[os,hos,hcs,hds],YO Q x H',(?bH k its).flatten,?NR (?gL ?n (?Qc [])),[s.heap.objs.size,p],mixKind P w,?Qy vs.length,λm=>xs[i+m]?,tn 0 ?F,qa0 hi',w7.extBut,?bt ?IV (Yw H' Z),op≠.NotIn,.(by rw[z];show hb),?QP _ I,?Q0 ha Q (λc s1 e=>?_),∃t,u=Value.str x t,?bU x t,(n,v)::r,?R8 xs.length,Int->?cO,#[?bh,?v,?gA,h0],fin r rv,#[σ7,H7,I7,n7],#[u',r',q],?OV yV,compPost,?Nc sc.isCoroutine,?Ll H' s2,?di ?lW p,#[p,ys,a,b,c],Yw H Z,∃t,u=Value.int i t,n<=1000000,ds.length,?di x np,∃o',?fL=?h o',λk hk=>h k ?i,λb o e hx=>?_,#[a,vs,?g,q,r],?Ma e ta,?Nv f,Im st,(?rG).Ok,∃u,us=[u]/\?bq,λx a e=>?_,Same.refl H,E6 ?la ?rS,#[f0,f1,f2,f3,f4,f5],Str.ofString,λf hf=>?_,.byt b,?lN ?rL [],#[u',r',?_],ZipApart,jO ?IY&&?Og (?pK-1)&&(?G (?pK<2) || Pb xs ?p7),Builtin.Slice.sliceAdjust lo hi 1 ?bT,deps ?cr,I.stkSub,?Qh l ?eC,yN ?u C m f,?P4 ?FR,ys.length,qe5 (?Pi _),.int_list c t ?ad ?i,?Pm PySem.W.plainOver C,Uk ws w fam,.int_bool c t b,#[_,_,_,_,o,_,_,e,_],qh8 (E6 ?lX λus s1 _z=>?_) hs ?g,yU K x y H Q,(?d3 h).1,yN ?u C m g,PySem.W.lookIn ?ac od,.tuple_none p ?i,.Slice lo hi ?aT p2,(?aU).length,?Jj ?aK scope.names [],wpAny_execs_cons,?QZ ?DP,?yU+?dh<cLine,?o2 a=?h ?kl,sIx n 0 lo,?am->?cO,?l ?df,#[Bn5,dd2,data2,sl2],tI f,.(by ext LF),.list_str z t' ?ad ?i,?nF ?E8,deps ?gp,?Pw a,{ s with heap:=(?gR).push ?l8 },.(by rw[hD];show ?a4),bindArgs,.ins C dx ?Go,E6 ?lX ?xl,newList [],?Oz hx rx rv,#[?g,?g],?cp/\?MC b ys,?RB o,?ND p (xs.set j v),?fB UInt8,w8.extBut,PS X st t,Q ?h6 H',cellsFrom,Aq0 K n t v σ H Q,MS x vs H Q,∀l,?m7->Q ?kr ?Ix,λy H4=>?pQ/\?qe/\Pv ?I ?ja τ2 ?nG,mg ?qN=?h ?EK,(?hu).2.1,#[a',us,e,hq,r],E6 (h ?n Ae s σ H _ I hq) λus s1 #[xs,?z,r,z,q]=>#[by rw[←r.length];show z,?_],X.H₀ b=none,.(by have#[o,q1,q2,q3]:=id g;have#[p,p1,_,m,p2]:=gt;unfold Builtin.SmallTypes.nextOf;apply ?l (?vL (name:=?In "__next__") ?EY qq1 (qm7 qq1 ?EY F.entry_tuple_iterator_next ?_ (F.args_tuple_iterator_next_1 _)));exact ?Lq (?lG ?t1 0>>=_) s;apply ?l (qi2 q1 q3 (x:=?gE) ?g ?_);exact ?Lq (if ?Ga then _ else _) s;rw[?M (show ¬?Ga from qe9)];exact ?Lq (?lG ?t1 1>>=_) s;apply ?l (qi2 q1 q3 (x:=?p n 0) ?g ?_);exact ?Lq (seqItems? ?gE>>=_) s;apply ?l (qo0 p1 p2 ?_)),.(by apply ?GZ;rintro i m ys τ H ⟨rfl,hi,p⟩;let q:=?P0 ys p;cases hlt:?hK;{apply ?MF ?kF (?Q6 ?jp);let ?ji:=y;subst e;show hs i x ys τ _ ?k8 p};let e:?jx:=?i;subst e;show ?P3 ?Cm),.(by apply ?Bj;rintro i m σ H ⟨rfl,hi,p⟩;let q:=hl i σ H hi p;cases hlt:?hK;{apply ?MF ?kF (?QZ ?jp);let ?ji:=y;subst e;show hs i x σ _ ?k8 p};let e:?jx:=?i;subst e;show ?P3 ?Cn),∀(hbase:?N5 (?oa o ?ac ?r ?eb=?eb)) (hfew:?N5 (?Q2 ((?gL cpos ?py).all (λx=>!x.1)&&(?AR cpos ?yJ).all (λx=>x.1.isSome) && ?G ((?cN).length+([]:?pu).length+(if ([]:?pu).isEmpty then 0 else 1)<30)))) (hline:?N5 (?Q2 (apos.endLine==cpos.line))) (hs:?mQ),a,∀(hs:?MD tc (?Pv ?D9 zs)) (hd:?Em),a,∀(hs:∀i x ys τ H p,?an->?cB->?au->g ?aB τ ?zy ?s4) (hd:?sT),a,∀(hbody:∀(Do:Value) [?tY] [?ah] (Q:VK) (E:XK),?Qo ?kM (rX (OX Ed P w K mg ?b2 N ?bf ?kM f Do A ?ar s H E).nox ?Ig t)),a,∀(hs:?NN ?s4) (hd:?sT),a,.(by simp only[sliceBounds,HT.sIx,Option.getD_none,show ?eQ > 0 by decide,if_true];cases h:i<0;{simp only[h,if_true]<;>ext d};simp only[h,if_false]<;>first | show zn3 h | show zn2 h | ext d),∀(hs:?NN ?H6) (hd:?sT),a,∀(hs:∀i x y σ H p,?an->?hA->?Ob ?ks) (hd:?y8),a,∀(hs:∀i x σ H p,?an->?Ob ?zy) (hd:?BR),a,.(by apply ?uJ;let#[x,?z,rx,a,dx,fs,ex,ea,l,q]:=_z;subst ex;obtain rfl:?hB:=rx;apply Xg I1 ea c hm l ?_),∀(hs:?N5 (?Qc ?bV=[?G5,?BA]))(hs2:?N5 (?Qc [b]=[?BA])),a,.(by let I1:?sx:=?MN (?Qi (?vb e));have ?p3:=id st'),∀(hs:∀i x σ H,?an->?be->g x σ H ?kI) (hd:?BR),a,.(by let I3:?m3:=I2.call' hos hun hok hbare (Bo.fpCh f2);let f3:Pg X Ae H' C:=I2.fpOk hC hHC;have#[_,k1,_,k3,k4,k5]:=f3),.(by first | rfl | simp[Around.under,Code.weight,Code.isCreation,Code.isGuard,Code.isCaller,Code.frames,Code.isFrame,guardIds]),.(by let I1:?uA:=?i7 (?Nh (k b o (by simp;show ?kc) ?gH))),.(by rw[e]at e';cases e';rw[d]at d';injection d' with d1 _;let:its=its':=by simpa using ?bz Array.toList d1),∀(pa:PlainAttrs T)(slot:Slot T ?ac id)(hty:typeOf ?jM=?aF (?aj "method_descriptor"))(hm:MtR X id r)(ho:?uY),a,∀(mu:?AN)(he:?xF)(k:∀b u,?kh->?pN)(heo:?xj),a,∀{x qual:Str}{st:Stmt}{f:Addr}{fd:FuncData}{N ps:?X}{k:Nat}{sp:Sp}(F:?wY)(S:?t2 N ps ?kM),a,.(by let ?kp:=Xy r;cases ru;let ?D3:=?bk;let hh:?BJ:=?cG),.(by(let ntr:∀c o,H c=?w->?CJ:=λc o e hm=>by rw[(hf c hm).1]at e;cases e)),∀{q:Program}{loose:?X}{XP:?bv->?id}{YP:World->?id}{d:DefRec},a,.(by have#[σ3,H3,I3,n3]:=q3;have#[m',hm,w3]:=hN σ3 H3 n3;show#[m',hm,σ3,H3,I3,w3]),.(by let e2:?Nc (op==CmpOp.NotIn):=?Mz h2),.(by(let e':its[i]?=?a2:=?fg);let hlt:i<its.length:=(?d3 e').1),.(by have ?vw:=hg;have ?fO:=?bk;have ?f9:=?fH hx),∀(hi:?uW)(hx:?o ?sW ?xU),a,.(by let#[x,H5,I5,r5,y5,st5,fr5]:=_z;let I5':=I5.pinned (NG fr5) (T.obj _ _ st5)),.(by(. rw[?S hj,?S hj];show ?gI);rw[?M hj,?M hj];show ?gI),∀(hs:?N5 (?QS e (?h ?E7))),a,.(by let e1:?Nc (op==CmpOp.In):=?Mz h),.(by(. let ?zt:=pl;show qe5 ?mN);{show pl.isList.at λo e=>?gH}),.(by let#[o',es',zJ,ho',r']:=hm;rw[ho]at ho';cases ho';show#[_,es',zJ,hL,r']),.(by let hl:=r.length;let hn:=IZ;let fin:?MG w s:=#[z,H,I,rw',q]),∀(h:∀{N:?V},(∀σ' H',?AX->?lI)->t { D with nx:=N } σ H),a,.(by apply#[?Oy n ?eG,?oG,?_]),∀{to:TE}{t:TA}{name:Str}{apos cpos:Pos}{T id:String}{r:?gK},a,.(by apply ?F7;rcases ?kn with z | z | z;{show ?eN}),.(by subst e;have ?p3:=st;show#[o,e,?Bz]),∀(X:?i2)(I:?yy)(hg:?Oi ?ac),a,.(by let hu':?JI:=by simp only[dep]at hu;ext d),∀(hs:?N5 (?Qc [a]=[?G5])),a,∀(hs:?CP)(pl:?wb)(pu:?wR),a,.(by have#[ia,ra,pa,_]:=?bI AN;have#[ib,rb,pb,_]:=?bI tT),∀(hl:?QV ?Jc),a,.(by let hf:H1 ?et=none:=?oe),∀(hcd:?QG "__classdict__"),a,∀(hcap:?Cl)(hi:?HQ),a,∀{CL CT:Addr}{H H':Hp}{Z:?hE}{p L R dn:Addr}{h w B:Nat},a,.(by rcases Ea hv with⟨j,u,rfl,rfl⟩|⟨y,u,rfl,rfl⟩),∀(hn:?N5 ((?qm).length=n)),a,.(by cases y<;>show ?ys),.(by let e2:its'.toArray.size=es.length:=?bQ),∀(hl:?Mr ?bF),a,.(by intro value slice Ae s σ H x y v u Q I rx ry h hs),.(by let e1:its.toArray.size=ds.length:=?bQ),∀{ta:TA}{p pos:Pos}(hg:Gl X ?lW)(hm:?bp ?lW=none),a,∀{S:?js}{NE:?F1},a,∀{i j:Int}{m n:Nat}(hi:?jU)(hj:j.natAbs<2 ^ n),a,.(by have#[?Ld,hW]:=h2;subst e),.(by have ?CY:=hg;have ?fO:=?bk),∀{x:Str}{ps:?X}{j k:Nat}{sp:Sp}{p pos:Pos}{e:Expr},a,.(by rcases Ea hb with⟨j,u,rfl,e⟩|⟨y,u,rfl,e⟩),.(by show(?Ci).2.1),.(by unfold Au;rw[?dJ,?qa]),∀(hg:?gP)(hm:?sc)(hv:?lz=?aE),a,.(by simp only at hc hd hc2 hd2;subst hc hd hc2 hd2),∀(g:?pD j t n)(gt:?lk t vs),a,∀(hl:?MY ?dS ?cp),a,∀(x:p7) (x:p8) (x:p9) (x:p10) (x:p11) (x:p12) (x:p13),a,∀{g':?fB GenState}{t':Nat}{d':Drawn}{ch:?aL},a,∀(len:?qO),a,∀{l:?lb}{acc:?eL},a,∀{pl:?kC}{Q:Value × ?Q->?ea},a,.(by cases (show ?vC _ _=Data.cell v from q)),.(by let e:b=s1.heap.objs.size:=?ef),∀(ha:?QY n)(hb:n<=ys.length)(he:NE xs ys n),a,∀(k:∀b u,?zF),a,.(by apply ?Q0 hl _ ?iH),.(by let hx':=hx;let ?Id:=hx;cases rx),.(by rw[Aj ?Br];show e),.(by show ?Qa (ih (λy hy=>hn y (qb3 _ hy)) h)),∀(hp:PassesOwn ?y ?t ?r ?D),a,∀(h:?Ng Mu),a,∀(r:?he),a,∀{n:Nat}{f g:?ag}(h:∀i,i<n->?eU=?iC),a,∀{qual:Str}{scope:Scope}{f:Addr}{cd:Value},a,∀(σ':St) (H':Hp) (i:?CG),a,∀{h':Heap}{Y:?eB}{T:?id},a,∀{j k:Nat}{C:Addr}{ps:?X}{sp:Sp},a,∀(Pv:?m2)(h0:?Bt),a,∀(hg:?N5 ?gP),a,∀{items:?bA}(x:Pd h a ?fc),a,∀(hb:?HT),a,∀(hd:?O2 n),a,∀{cells:?eL}{x:Str},a,∀{j t:Addr}{n:Nat}{vs:?bA},a,∀{tg elt iter:Expr}{ifs:?dM},a,∀(ha:?wN)(hv:?Ma ?jd tv),a,∀(hh:?vR),a,∀{X:Cx}{a b c:Expr}{ta tb tc:TE},a,∀{vl vu:Value}{lo hi:?bj},a,∀(D:?Is z TI TO i1 i2 a b),a,∀{X:Cx}{CX:ZA}{k:Nat}{f C:Addr},a,.(nomatch it,fp,tn,J,H2,e,I2,T,st2,f2),∀(hg:?gP)(hm:?jn=?aE),a,∀(hm:?of),a,∀{x qual:Str}{st:Stmt}{f:Addr},a,@((?a).go i H/\∃N:?V,?dg/\∀x H',(?b).yld i H x H'->?dR),@(λσ H Q=>?a σ H λx H1=>?b),@(?j ?y ?t ?a ?b ?D s),@(A0->A1->A2->A3->A4->A5->A6->A7->?a),@(Bo X Ae σ ?a ?b),@(Ui ?a g ?b te D Q τ H),@(λvs H Q _=>?a),@([?em,?eX,"dict_itemiterator","dict_reverseitemiterator","odict_iterator","itertools.zip_longest","itertools.pairwise"].contains ?a),@(λσ H Q=>t σ H ?a),@(?j _ _ ?a _ _ ?b),@(?j ?a A ?b Q E s),@(?a Ae s σ H ?b I h),@(?a->?b->Prop),@((sc.names.map λ ?eO=>if (k==?hU&&osc.kind==?g2&&?hd n==?b5) then ?oA else ?eO).lookup p.1=?a),@(∀p,?a->Q ?aB (?s ?b p ?c)),@(F3 X ?a (λxs H Q=>?b)),@(?a<=sizeLine),@(?a Ae s1 σ H1 ?b I1 q1),@(?l (m:=Builtin.Tuple.tupleExact _) (qn2 ?a QU)),@(∀(k:Nat) [?c7],?a[k]?=?fh->?af/\∀f∈?aU,?fq\/?b),@(X.s₀.heap.objs.size<=?a),@((?a).stop i H/\?bl),@(#[?ai,_,?fv (t':=s.toks) (o:=?a) ?jI ?a4 ?_,?g,?b]),@(λx y H Q=>?a),@(by rcases h with(h|⟨o,h⟩) | h;{show ?x (?x ?a)};{show ?x (?q #[o,?b])};show ?q h),@(λσ H R=>ta σ H λvs H1=>?a),@(X.env.scope.names.lookup x=?a),@(qq2 ?a ?ao ?b k ?gV fin),@((?cI ?a ?b).trans ?c),@(?a λ_ _ _ _ _ _ _ q=>?b q),@(λ_ _ _ H _ I h=>?a),@(SqL K H ?a ?b),@(∀i x y zs τ H p,?an->?hA->?hM->?au->g ?aB τ ?ks λτ2 H2=>?a τ2 H2 ?b),@(show ?a from r),@(?q #[?a,?cC,?b,?dT]),@(EP X Ae σ Q ?a ?b),@(by ext a0;apply qv8 (Oy I hg hm hv ?_ hn hdb);show ?a ?ut he hpl),@(Rep K H ?a ?b),@(∀{P:?X}[?ix]{i:Nat}[?iu],P.Nodup->?A9->?gv->?a → ?b ?cX ?oU m x=?a2),@(λ_ _ _ z=>by let ?a:=z;show ?b),@(s.heap.objs.size<=?a),@(Xv X ?a (rI0 λi j=>?b)),@(?kD (t':=s.toks) ?a f0 f1 f3 f4 f5),@(qo9 hp (E6 (?a X ?g ?g ?g hc i Ae s3 σ3 H3 ?D I3 ?jN st3 ?b) ?mC)),@(by ext d4;let ?E6:=h;ext f1;ext U;show rule i j t t' s _ _ ?a),@(?kH ?iY ?m1 ?nZ ?sH qw1 qv2 ?tB ?a ?b),@(?db ?a ?ax "__setattr__"=?h (?h (?bP "object.__setattr__"))),@(qm0 (?a Y ?g ?g ?g hc i [] s3 τ3 H3 ?eo I3 ?jN st3 ?b) ?mC ?tE),@(?P (qb6 ?a ?b) ?eE),@(by subst hK;show ?a ?b),@(PE X (?lm ?a j ?n) (tC ?b)),@(?a=?h { cls:=?aO,data:=?fY ps }),@(#[u,?g,lY (s:=?d1) e c d ?ab #[x,H,I1,ru,#[?g,?a],st',?lo]]),@(∀i σ H,?a->?be->?b),@(?cZ ?a ?b [] ?n),@(PE X ?a ?b),@(∀b o,?a->?b),@(λ_ _ _ _ _ st h=>?a ?b h),@(j9 P w K tg ?a [it] it (λi h=>?b)),@(Xv X ?a (rI ?b λi j=>?p ?c)),@(?dl f=?h #[oc,od,?ll ?a,osl]),@(λD σ H=>?a σ H ?b),@(?rT ?qS #v[] (?bH ?a ?a8)=(?bH ?b its).flatten.toArray),@(?a (Db I q (?bz not ?b))),@(λb o _ _ hc e _=>?a),@(s1.heap.objs.size+?a),@(?db K ?ax ?a),@(?a7 K H ?a ?b),@(∀{binds:?fZ}[?iu],?H0->?a ?cX binds m x=m x),@(s.heap.objs.size+?a),@(OX CX P w K mg ?b2 N ?bf ?fa f ?a A ?ar s H E),@(?a=s.heap.objs.size),@(∀i ys τ H,?dS->?cB->?a),@(?j ?y ?t ?a Q ?b ?c),@(?lZ (Oy I hg hm ?a ?b)),@(show ?a=_ from h'),@(E6 ?a λv s1 ?fC=>?b),@(Bs P w K mg ?b2 ?a ?b f ?c ps sp),@(?l (qi2 gz ?g (x:=?a) ?g ?b)),@(?h (?H ?a)),@(by cases op<;>first | rfl | show ?P ?g ?a),@(?h { cls:=?bO,data:=?aM #v[?p ?a ?ht,u] }),@(∀n:Nat,?al ?a n=?b),@(∀(i:Nat) (v:Value),its.toArray[i]?=?a2->?a),@(Un fs ex H ?a h ?b),@(A47 ha hb I h λv u s2 x y H2 I2 rx ry q=>?a),@(?o ?a ?A),@(?bR ?a z a b ?b),@(?bC ?a=?h (?aj ?b)),@(∀[?bK][?aD] (n:Nat),?bN->?aA (?a n) (?b n)),@(?l (qo0 ?a ?g ?_)),@(?a==NameKind.free),@(∀C s₀ H₀ fp,?a ?tF ?b ?c),@(λi H=>∃xs x,?a/\?an),@(?s H ?a (?H ?b)),@(?h7 ?a e it ?b old),@(?cR ?a=?w/\?cJ),@((?a).length<=acc.length+?b),@(λb ps q=>#[#v[],by rw[Aj ?a,q];simp]),@(show x=?a from hx),@(by rw[?q8 ?i ?a]at h1;ext f3;show ?kK),@(Xv X ?fd (?a ?b)),@(PI X tg l (?a ?b tl)),@(∀i ys τ H,i<n->?cB->g ?iW τ H ?a),@(∀i x ys τ H,?an->?cB->g x τ H ?a),@(qt7 (h₀:=X.base) ?l9 ?a ?JY he hpl),@(H ?a=none),@(A.units+?a<cLine),@(?ke ?n f first ?a ?lL),@(?fp H ?a D ?b w f),@(?bR ?a z TI TO ?b),@(?a (NE:=?oQ) ?i ?i ?i Pv h0 hl hs hd),@(by subst h;rw[qc4];show(?a (?b (?c h2))).symm),@(∀x c,?cs->?a),@(λi H=>∃xs,?a/\?jy),@(λb o _ hb _ e n=>?a b o e n hb ?v),@(show v=?a from h),@(qe5 (qb6 ?a ?b)),@(NP X Ae ?a s'),@(?a=false),@(?a (i:=i) (qg7.mp nd).2 ?lE ?sw hk),@(?h { cls:=?bE,data:=?aM #v[] ?a }),@((?ab:∀j,j<?a->∀i,i<j->?b) j hj i h),@(?a ?ae X.w ?u ?bp ?bS C m ps j sp),@(λb o e=>?a),@(λ_ s2=>YP X Ae σ r Y ?Az ?a s2),@(?i6 ws fam ?a ?b),@((∀p H',?aw->SqT K H' p ?a->?ic)->?b),@(#[?L ?et,?s H1 ?et ?a,?xy,?g,q _ hf]),@(?a<s.heap.objs.size),@(∀[?bK][?aD] (i:Nat),?bN->?aA ?a ?b),@(λi H x H'=>H'=H/\∀xs,?a->?an),@(Ih k (?l6 (?oN ?bf ?a ?N f Do))),@(A.under (?bP ?GS #[?ax::?a,kw])),@(λx vs H Q=>?a),@(hg _ s5 ?a H5 x u _ I5' r5 ?uq),@(by rw[?rf h0 ?a]at h1;show ?kK),@(Un ?a ?b H H' ?F ?c),@(Au ?a fam),@((jG h H).get? b=?a),@((eV cells l acc).lookup ?a=?bM),@((?lN (?t7 ?a 0).toNat []).getD ?b 0),@(#[(hs.2 p.1 ?a).trans e,n,ne,nf,d]),@(?a K x y H Q),@(?a ?b Ae s1 σ H1 ?c I1 q1),@(∀ys τ H,Pv ?a ys τ H->Q H),@(te ?a ?b λy H4=>?pQ/\?qe/\N ?ja ?c ?nG),@(?y4/\?zW/\?eD i1 a ?a/\?eD i2 b ?b),@(?a q loose XP YP ?Dx d [] ?HM),@(∀c o,?hh->c≠?a->?b),@(λσ H R=>tl σ H λx H1=>?a),@(λx lo hi H Q=>?a),@(λacc C=>?IQ ?y ?t ?D ?a ?b acc C),@(SqT K H ?a ?b),@(Bo ?a ?b σ H s),@((?a ?h8).take ?oY),@(?a[i]?=?h ?b),@(?a Pv h0 hl ?b hd),@(?a ?cX ?kQ m ?b=_),@(show ?a from hy),@(qc5 (show ?br=?h ?a from x)),@(RcAt A s ?K ?as (eqD ?a (?b es))),@(#[?dY,r',#[o',n',e',?a,_,d'],_]),@(?a ?ae X.w ?u ?bp ?bS ?b ps j sp),@(λb hb=>?a),@(λAe s σ H Q I hw=>?a ?w0),@(PS X (?mG [?a] e ?n) (ZP te ?b)),@(PK P w K mg ?b2 ?a ?ar s H),@(?pV (λx=>?G ?a)),@(?l (?l (wpAny_onRaise ?a))),@(?bx P w H h a ?a),@(#[z,y,?a,r,ob,?aa,?b,c]),@(#[its,?a,?b,hz]),@(#[its,?a,?b,_]),@(?a K xs H Q),@(∀c,?lA->?a->?b),@(λi m ys τ H=>m=?a-i/\?b/\?cB),@(V8 ?ae X.w ?a ?b),@(Q ?ai { s with heap:=?el ?a }),@(PS X ?GJ (Bd1 ?a ta tv f)),@(?be->?au->g ?aB σ ?a ?kI),@(?Bl p ?a ho hc hd ?Co ?hy),@(λ_ H Q=>Q ?a H),@(opI λi j _ _ _ _ _ hc q=>?a),@(opI λ_ _ _ _ _ _ _ hc q=>?a),@(ds.all (λe=>Et xs e ?a)),@(F3 X ?a (?b K)),@(?qq K C ?a=true),@(?h (?nO ?bD ?a)),@(?bx ?ae X.w ?a h' ?b ?c),@(?b1 ?a=?w),@(?E (?a × ?b)),@((R ?a H1)->?b),@((?a).map ?ak),@(#[?a,_,I.lnew (t':=s.toks) ?b ?c,?g,?xW]),@(?a=xs.length),@(?a c o ?zo hc nch ho ?r2),@(∀σ H,Pv ?a σ H->?bl),@(by rw[Aj (?a c ?b r)];show r),@(Xv X ?uX (Be0 ?a n ?bw)),@(?AH->?JW ?a ?kq=?aF ?fD),@((?qj).names.lookup x=?a),@(λj a e=>?a),@(λi m σ H=>m=?a-i/\?b/\?be),@(oW I (A:=X.A.in1) ?zV ?a ?b r ?c),@(hl i ?a τ H hi ?b),@(V8 P w ?a ?b),@(CX ?ar H s E ?a ?b),@(?x #[?j9,?a]),@(?eY .And ?a ?n),@(?dZ ?a ?hw ?Dj ?Ap ?cU),@(?G (?ak ?a=?ak ?b)),@((n,(?a n).getD 0)::acc),@(#[σ',H',?a,q]),@(?a ?da 0 ?ct ?bm Y.env),@(λx hx=>qc6 (?a x hx)),@(λp hp=>?Gd (λz=>?fy p ?a) ?b),@(s.heap.objs.size≠?a),@(p.length=?a),@(by rw[←l];show r ?a),@(by let ?EB:=h;show#[v,?a,?g,h1,?b]),@(PG X ?yu (Bl2 ?a n t)),@(?fw/\?a ?F a ?a8/\?dV),@(?eZ/\W i ?a ys τ' H'),@(?a[j]?=?h ?b),@(λz=>(?a _ z).2.1 ?g),@(λhn b hb=>#[hn b hb,?a]),@(λc o _ _ hc e _=>?a),@(λb o hc e=>?a),@(show ?a a ?a8 from p),@(SlR X (?a ?u)),@(Jb ?kw ?tJ ?a),@(G9 X sc N' ?a s H fp),@(?l (?xO q1 q3 ?v ?a)),@(?fH (i:=i) (x:=?a ?b) ?Ce),@(?eY .Or ?a ?n),@((?a).length<=ws.length+?b),@(#[x,?z,?u6,?a,ex,ea,c,?b,l,q]),@(#[od,?aa,?a,c]),@(#[a,b,xs,ys,?C,ha,hb,hx,hz,?a,?b]),@(?a<s1.heap.objs.size),@(?a b ?b ?c n hb hx),@(?a _ _ _ _ ?b),@(by unfold Yw;rw[?a]),@(by rw[?a hc];show h),@(YP X Ae σ u ?a ?b fp s2),@(UnR X ?a (rU λi=>?p ?b)),@(Ui J g tc te D ?a ?iM ?b),@(Rep ?u H ?a ?b),@(Nat.lt_succ_self ?a),@(MtR X ?E0 (VT ?a n)),@(H b=?a->?gJ=?b),@((?sd).findIdx? ?pz=?a ?b),@(?a K ?b=true),@(?a (λq=>nomatch q)),@(?ee/\∀i m σ H,?dX → (?M2 ?a)\/(?Lh ?b ?c)),@(by ext mo;apply ?a ?yY;let ?dj:=_z;cases c with| true=>show ?b| false=>show ?c),@(St->?Lt Hp ?a),@(by intro Ae s σ H Q I hq;apply ?a ?Jr;ext Kg;apply(?Nl ?b);show ?c),@(Rd H a ?a ∨ ∃(o:Obj) (its:?bA) (n:Nat),?dl a=?w/\?b/\?wW),@(Q (.bl ?a) H),@(∀[?aC] (D:Ends),?W->?v2->?Lj (?a st ?r) ?Dk),@(λb H3=>if ?h2 then te τ2 H3 ?a else Pv ?I ?b τ2 H3),@(?av ?a ?r),@(sp ?Dn (?s (?s ?a dx ?jZ) x ?C9) ?At E),@(?a->(?Lv ?au H ?b)->?c),@(by ext a0;show ?a ?b),@(E6 (?Ls ?a ?b) ?c),@(Xs λ ?eu ?rV ?ls=>Ds ?Ge ?hj ?a ?jE ?b),@(?a=true),@(?a->Prop),@(∀p xs i v,?pa->?rU->?a->?nD->?lr->?b),@(?Fr/\?j ?y ?t (?t8 ?fE ?a r) (?Ni ?b) E ?c),@(λys' τ' H' p'=>?a),@(λys hy=>by rw[?a hy hq];show hx),@(λb u q n _=>by rw[Aj ?a];show n),@(?a { cls:=?b,data:=?aM ?c }),@(∀a b xs ys,?bn->?oy->?bF->?F5->?a),@((items.toList.drop ?iB).take ?a),@(#[?et,?vt,?nB,?GV,?a a _,?ol,?eW,q]),@(λxs H Q=>?a),@(PI X ?fE (?MZ (?di ?a p) ?b) (?c K ta)),@(PU C m sp ?a ?b ta ?c),@(?o (?Nc (x==(?a:Str))) ?e9),@(tb σ H1 λy H2=>?a),@(by subst hK;show(?a).imp ?Fa),@(by subst hK;show(?a).imp (?MK ?b ?c)),@(?dV/\∃(its:?Q) (n:Nat),?fw/\?a),@(?cP/\SqL ?a H p ?cv/\Q ?r1 H),@(?aX ?a TI ?hi ?iI),@(?a≠X.env.locals),@(?a->?b → ?Lj ?c ?bu),@(h Ae s σ H ?a ?b hw),@(TI K H v ?a),@(H1 ?a=none),@(?lt ?a ?b ?mD ?r=?lM),@(?au->?aw->?DZ->?a7 K H' us ?a->?b),@(∀σ' H',?lI->∃m',m'<m/\?a),@(∀i zs τ H,?eG->?hM->?a),@(PI X tg (?MZ ?IT ?a) (?b ta)),@(E6 ?r6 λu s2 ?lP =>E6 ?u8 ?a),@(?a<=xs.length),@(λσ' H' p'=>?a),@(qb3 _ ?a),@(newL H ?a (λj=>?b) Q),@(?eF ?a ?r),@(?aF (?kW ?a)),@((Q ?a (?ND l ?b))->?c),@(?a X Ae ?b ?c s'),@(?a (Db I q ?b)),@(?s H ?a ?b),@(λb o hb e=>?a),@(vs=[?K,?a]),@(V->V->?a->?Lt Hp ?aW),@(?l (qm0 ?a ?b ?kU)),@(?l (?a ?b)),@(?bC ?a=?h ?b),@(?Np ?a->?jJ → ∃t,?b/\?CC),@(?a[i]?=?b8),@(by rw[?a i ?i];show q),@(Q (?p ?a) H),@(∀p ys,?cP->?a->?b),@(λc o hc e=>?a),@(SqL K H ?a (VI ?b ?c)),@(E6 ?lX λus s1 ?kg=>?a),@(?W->?gN->?Lj ?a ?sF),@(#[?ai,_,I3,?g,hY ?ek,?a,hn3]),@(?a=ps.length),@(?a b o e),@(?Ml "__init__"=?a),@(?Nv [?a]=[[],[]]),@(?aF (eV ?jb ?a ?b)),@(?a->?Lt ?b ?c),@(?a K x lo hi H Q),@(?a Ae s1 σ H1 x v ?b I1 r1 q1),@(?a->?Q3 ?b),@(?JG (?Q0 h1 ?a ?vB)),@(?a<sizeLine),@(λb u e=>?a),@(?nf (t':=s1.toks) ?a),@(?fR ?a m apos),@(λh' eb=>#[?g,?MN ?a]),@(SqL ?u H ?a ?b),@((?a/\?Dz)\/(?b/\Q ?aB H)),@(_=(?R2 r ?a:Sem _))])
namespace Internal
def Zrr(_:True:=by rfl):True:=trivial
def Zdr(_:True:=by decide):True:=trivial
def Zcr(_:True:=by ac_rfl):True:=trivial
def Zir(_:True:=by intro _;rfl):True:=trivial
def Zer(_:True:=by show rfl):True:=trivial
def Zkr(_:True:=by ext ay):True:=trivial
#check[qa0,@List.getElem?_eq_getElem,qa1,@List.getD_eq_getElem?_getD,qa2,@List.getElem?_eq_some_iff,qa3,@Nat.le_refl,qa4,@Nat.le_trans,qa5,@List.length_map,qa6,@List.mem_of_getElem?,qa7,@PySem.wpAny_bind,qa8,@PySem.Heap.get?_push_of_some,qa9,@List.getElem?_map,qb0,@Option.some.inj,qb1,@Nat.zero_le,qb2,@List.map_append,qb3,@List.mem_cons_of_mem,qb4,@List.mem_cons_self,qb5,@Int.natAbs_mul,qb6,@Nat.lt_of_lt_of_le,qb7,@Bool.and_eq_true,qb8,@PySem.PassesOwn.never,qb9,@Int.natAbs_neg,qc0,@PySem.wpAny_pure,qc1,@Nat.lt_of_le_of_lt,qc2,@Nat.mul_le_mul_right,qc3,@List.length_append,qc4,@Int.toNat_natCast,qc5,@PySem.Heap.lt_size,qc6,@of_decide_eq_true,qc7,@PySem.Heap.get?_push_size,qc8,@List.map_cons,qc9,@List.size_toArray,qd0,@List.take_length,qd1,@List.length_take,qd2,@List.mem_map,qd3,@List.getElem?_append_left,qd4,@List.all_eq_true,qd5,@List.getElem?_append_right,qd6,@List.take_succ,qd7,@Int.mul_zero,qd8,@Int.one_mul,qd9,@List.length_cons,qe0,@List.mem_cons,qe1,@List.mem_range,qe2,@Int.mul_assoc,qe3,@Nat.pow_add,qe4,@Nat.pow_le_pow_right,qe5,@Nat.ne_of_lt,qe6,@Nat.le_of_lt,qe7,@decide_eq_true,qe8,@Option.map_eq_some_iff,qe9,@Bool.false_ne_true,qf0,@Int.zero_mul,qf1,@List.length_set,qf2,@List.getElem_mem,qf3,@Int.add_zero,qf4,@PySem.F.plainAttrs_list,qf5,@List.getElem?_set_ne,qf6,@Int.natAbs_add_le,qf7,@Int.mul_comm,qf8,@Nat.mul_le_mul_left,qf9,@List.getElem?_of_mem,qg0,@Nat.le_add_right,qg1,@Nat.mul_le_mul,qg2,@List.getElem?_set_self,qg3,@List.mem_singleton,qg4,@Nat.one_mul,qg5,@Nat.add_mul,qg6,@Int.fdiv_eq_ediv_of_nonneg,qg7,@List.nodup_cons,qg8,@List.getElem?_eq_none,qg9,@Int.natAbs_ediv_le_natAbs,qh0,@List.getElem_of_mem,qh1,@PySem.boot_len,qh2,@List.mem_append_right,qh3,@Decidable.byContradiction,qh4,@Nat.pow_succ,qh5,@List.take_of_length_le,qh6,@Nat.pow_lt_pow_right,qh7,@Nat.le_of_not_lt,qh8,@PyProof.Rows.callWith_type1,qh9,@Nat.sub_self,qi0,@Nat.lt_or_ge,qi1,@List.length_replicate,qi2,@PySem.wpAny_field,qi3,@PySem.F.type_list_append,qi4,@PySem.F.slot_list_append,qi5,@decide_eq_false,qi6,@List.range_succ,qi7,@List.mem_filter,qi8,@List.length_filter_le,qi9,@Nat.succ_le_succ,qj0,@Nat.le_mul_of_pos_right,qj1,@List.sum_cons,qj2,@PySem.Heap.size_push,qj3,@List.length_drop,qj4,@PySem.wpAny_setField_rec,qj5,@List.mem_map_of_mem,qj6,@List.length_singleton,qj7,@Int.mul_ediv_cancel_left,qj8,@PySem.W.mg_none_of,qj9,@Nat.le_antisymm,qk0,@Nat.lt_of_not_le,qk1,@List.not_mem_nil,qk2,@List.map_map,qk3,@List.length_eraseIdx_of_lt,qk4,@List.replicate_succ,qk5,@Int.mul_nonneg,qk6,@Nat.two_pow_pos,qk7,@Int.mul_le_mul_of_nonneg_right,qk8,@Nat.one_le_two_pow,qk9,@List.getElem?_take,ql0,@List.replicate_succ',ql1,@Int.eq_ofNat_of_zero_le,ql2,@Int.zero_add,ql3,@Nat.lt_trichotomy,ql4,@List.length_range,ql5,@List.foldl_append,ql6,@beq_eq_false_iff_ne,ql7,@List.mem_append,ql8,@Int.neg_mul,ql9,@PySem.wpAny_truthy_bool,qm0,@PySem.wpAny_mono,qm1,@Nat.mul_lt_mul'',qm2,@Nat.add_sub_cancel,qm3,@Int.emod_lt_of_pos,qm4,@List.mem_or_eq_of_mem_set,qm5,@Int.mul_one,qm6,@Classical.byContradiction,qm7,@PySem.wpAny_call_entry,qm8,@List.mem_of_mem_take,qm9,@List.flatten_cons,qn0,@Nat.ne_of_gt,qn1,@Nat.le_of_eq,qn2,@PySem.wpAny_newObj_type,qn3,@List.filter_cons,qn4,@Int.mul_le_mul_of_nonneg_left,qn5,@Nat.le_mul_of_pos_left,qn6,@Nat.min_eq_left,qn7,@List.length_nil,qn8,@Int.neg_neg,qn9,@Bool.eq_iff_iff,qo0,@PySem.wpAny_seqItems,qo1,@List.take_add_one,qo2,@List.map_take,qo3,@List.any_cons,qo4,@Int.le_of_dvd,qo5,@Int.add_assoc,qo6,@PySem.wpAny_pyIter_tuple,qo7,@Nat.add_le_add_right,qo8,@List.mem_append_left,qo9,@PySem.wpAny_passesOwn,qp0,@List.pairwise_iff_getElem,qp1,@Int.natAbs_lt_natAbs_of_nonneg_of_lt,qp2,@Nat.min_le_right,qp3,@PySem.wpAny_holding,qp4,@PySem.mem_of_lookup,qp5,@Nat.lt_two_pow_self,qp6,@Nat.add_le_add_left,qp7,@List.map_congr_left,qp8,@Int.add_mul,qp9,@Nat.add_comm,qq0,@Int.zero_sub,qq1,@PySem.F.slot_tuple_iterator_next,qq2,@PySem.W.kia_one,qq3,@Nat.lt_irrefl,qq4,@List.nil_append,qq5,@List.map_drop,qq6,@List.find?_cons,qq7,@List.filter_append,qq8,@Int.emod_nonneg,qq9,@decide_eq_true_eq,qr0,@Nat.le_succ,qr1,@List.nodup_append,qr2,@List.getElem?_set,qr3,@List.ext_getElem?,qr4,@Int.not_lt,qr5,@PySem.W.methodCall_KW,qr6,@List.map_nil,qr7,@List.all_map,qr8,@PySem.Calls.spliced_cons,qr9,@List.take_append_of_le_length,qs0,@List.lookup_cons,qs1,@List.any_eq_true,qs2,@PySem.Calls.callWith_builtin,qs3,@PySem.wpAny_pyIter_list,qs4,@Nat.add_assoc,qs5,@Nat.sub_le,qs6,@List.of_mem_zip,qs7,@List.foldl_cons,qs8,@List.filter_sublist,qs9,@Int.neg_mul_neg,qt0,@Int.mul_eq_zero,qt1,@Int.mul_add,qt2,@Int.ediv_mul_cancel,qt3,@PySem.F.slot_enumerate_next,qt4,@Bool.or_eq_true,qt5,@Nat.mul_lt_mul_of_pos_left,qt6,@Nat.le_of_mul_le_mul_right,qt7,@PySem.W.callWith_K,qt8,@Nat.zero_add,qt9,@List.getElem?_drop,qu0,@Int.le_trans,qu1,@Bool.false_eq_true,qu2,@Nat.le_of_mul_le_mul_left,qu3,@List.nodup_nil,qu4,@List.getElem?_zip_eq_some,qu5,@PySem.F.type_list_insert,qu6,@PySem.F.slot_list_insert,qu7,@PySem.F.args_tuple_add_2,qu8,@List.pairwise_map,qu9,@List.append_assoc,qv0,@Int.dvd_mul_of_dvd_right,qv1,@PySem.F.plainAttrs_dict,qv2,@PySem.F.entry_tuple_add,qv3,@List.getElem?_replicate,qv4,@List.getElem?_cons_zero,qv5,@List.filter_cons_of_pos,qv6,@List.filter_cons_of_neg,qv7,@Int.dvd_of_emod_eq_zero,qv8,@PySem.wpAny_Call_Name_kw,qv9,@Nat.succ_ne_self,qw0,@List.Sublist.map,qw1,@PySem.F.slot_tuple_add,qw2,@Int.fmod_nonneg_of_pos,qw3,@PySem.wpAny_pyIter_enum,qw4,@PySem.wpAny_dictEntries,qw5,@PySem.F.slot_dict_pop,qw6,@PySem.F.slot_dict_get,qw7,@Nat.min_le_left,qw8,@Nat.lt_trans,qw9,@Nat.le_of_ble_eq_true,qx0,@List.sum_append,qx1,@Int.zero_dvd,qx2,@Int.natAbs_dvd_natAbs,qx3,@Int.add_comm,qx4,@PySem.W.mg_of,qx5,@PySem.wpAny_pyIter_zip,qx6,@PySem.wpAny_isInstance,qx7,@Nat.add_le_add,qx8,@PySem.W.plainGet_of,qx9,@PySem.F.slot_dict_itemiterator_iter,qy0,@List.filterMap_cons,qy1,@Int.le_refl,qy2,@Array.length_toList,qy3,@PySem.wpAny_notOrdered_dict,qy4,@PySem.wpAny_execs_nil,qy5,@List.findIdx?_cons,qy6,@List.all_cons,qy7,@Int.fmod_lt_of_pos,qy8,@Int.dvd_trans,qy9,@Int.add_sub_cancel,qz0,@PySem.F.slot_zip_next,qz1,@PySem.wpAny_rule,qz2,@beq_iff_eq,qz3,@PyProof.Rows.slot_tuple_getitem,qz4,@List.take_sublist,qz5,@PySem.Calls.evalArgs_plain,qz6,@Nat.sub_zero,qz7,@Nat.pow_zero,qz8,@Nat.min_self,qz9,@List.map_set,za0,@Int.ofNat_le,za1,@Int.le_of_lt]
open PySem in def zn1(a x:Int):x.natAbs<=a.natAbs+(a-x).natAbs:=by let h:=Int.natAbs_sub_le a (a-x);rwa [Int.sub_sub_self]at h
def zn2{v:Int}{n:Nat}(h:¬v<0):?rR=?BI:=by let ?BU:=ql1 (qr4.mp h);rw[qc4];rcases Nat.le_total k n with q | q;{rw[qn6 q,Int.min_eq_left ?A3]};rw[?s2 q,Int.min_eq_right ?A3]
def zn3{v:Int}{n:Nat}(h:¬v<0):max 0 ?rR=?BI:=by rw[zn2 h];show Int.max_eq_right (Int.natCast_nonneg _)
def zn4{a b c N:Nat}(h:b+1+b<=N):min a b+1+(b-c)<=N:=qa4 (qx7 (qo7 ?jv 1) ?ln) h
def zn5{m X:Nat}(h:0<m)(h':m<=X):X-(m-1)=X-m+1:=by let ?BU:=Nat.exists_eq_succ_of_ne_zero (qn0 h);rw[Nat.succ_sub_one,Nat.sub_add_eq X k 1,?Dr (?x1 h')]
def zn6{a b c:Nat}:min (min a b-c) d<=a:=qa4 ?ue (qa4 ?ln ?ue)
def zn7{n w L:Nat}(h:L=n)(h2:¬(w:Int)<(L:Int)):((L:Int)).toNat=min n w:=?NV qn6 za0.mp qr4.mp
def zn8{n i s:Nat}(h:i<n)(h2:s<=i):min s (n-1)+(n-1-s+1)=n:=by rw[qn6 (Nat.le_sub_one_of_lt (qc1 h2 h))];ext d
def zn9(L l h:Nat):min (h-l) (L-l)<=L:=?x7
def zna{n w L:Nat}(h:L=n)(h2:(w:Int)<(L:Int)):((w:Int)).toNat=min n w:=?NV ?s2 qe6 Int.ofNat_lt.mp
def znb{L i n:Nat}(h:L-i=?a3):L-?I=n:=by rw[Nat.sub_add_eq,h,qm2]
def znc{L i:Nat}(h:i<L):L-i=L-?I+1:=by rw[Nat.sub_add_eq,?Dr (?x1 h)]
def znd{q:Int}{n:Nat}(h:q.natAbs<=n):(-q).natAbs<=n:=by rw[qb9];show h
def znz{x e:Int}(h0:0<=x)(h1:x<=e):x.natAbs<=e.natAbs:=by let ?we:=?s8;let#[b,?g]:=ql1 (qu0 h0 h1);show za0.mp h1
def zne{x e:Int}{n:Nat}(h:e.natAbs<=n)(h0:0<=x)(h1:x<=e):x.natAbs<=n:=qa4 (znz h0 h1) h
def znf{a b:Int}(h0:0<=a)(h:a<b):a.natAbs<=b.natAbs:=znz h0 (za1 h)
def znh{r i m:Nat}(h:?lf<=r-?I):?I+m<r:=by let:=Nat.add_lt_of_lt_sub h;rwa [qp9]at this
def zng{n k l:Nat}(h:l<n-1-k):?cF+l<n:=znh (by rwa [Nat.sub_sub,qp9]at h)
def zni{i m d:Nat}(h:m<=?I-(i-d+1)):m<=d:=Nat.le_trans h (Nat.sub_le_of_le_add (by rw[Nat.add_comm d,Nat.add_right_comm];show Nat.succ_le_succ (Nat.le_add_of_sub_le (Nat.le_refl _))))
def znj{m i:Nat}(h:i<m):?I+((m:Int)-?sU).toNat=m:=(?bz (?I+·) (Int.toNat_sub m ?I)).trans (Nat.add_sub_cancel' h)
meta abbrev LLInt:=?E ?R
open PySem in
meta abbrev Bl:=?E ?FV
open PySem in
meta abbrev Wc:=?fB ?iN
open PySem in
meta abbrev OAddr:=?cK ?eV
def Ap{Goal:Prop}(k:∀G:Prop,(Goal->G)->G):Goal:=k Goal id
namespace L2
open PySem PySem.Spec PyProof.Rows
meta abbrev Key:=Sum Int Str
abbrev gC:Key->?b3->?cO| ?x k,v=>Value.isInt k v| ?fo,v=>Value.isStrOf x v
abbrev B39(w:World):Key->Int| ?x k=>hashInt k| ?fo=>hashStr w x
def Ea:∀{k:Key}[?f6],gC k v=true->(∃i t,k=?mJ i/\v=Value.int i t)\/(∃x t,k=?mR x/\v=Value.str x t)| ?ly,v,h=>by let ?gM:=Value.isInt_shape (k:=i) (v:=v) h;show ?x #[i,t,?g,e]| ?fo,v,h=>by let ?gM:=Value.isStrOf_shape (x:=x) (v:=v) h;show ?q #[x,t,?g,e]
def tR(i:Int)(t:Tok):gC ?ly ?i4=true:=by simp[gC,Value.isInt]
def TQ(x:Str)(t:Tok):gC ?fo ?IH=true:=by simp[gC,Value.isStrOf]
def Ay7(a b:Int):?G ?DV=?jR:=by cases e:a=b;{subst e;simp};let h:¬?DV:=λq=>e (Sum.inl.inj q);rw[qi5 h];show(ql6.mpr e).symm
def Ay4(a b:Str):?G ?vx=?s0:=by cases e:a=b;{subst e;simp};let h:¬?vx:=λq=>e (Sum.inr.inj q);rw[qi5 h,qi5 e]
def Ay6(a:Int)(b:Str):?G (?w6=?mR b)=false:=?Pn qi5
def Ay5(a:Str)(b:Int):?G (?uk=?mJ b)=false:=?Pn qi5
abbrev mixKind[?tw]:PySem.KeyKind prog w Key where
 is:=gC
 hash:=B39 w
 inj:=λv a b ha hb=>by
  rcases Ea ha with⟨i,t,rfl,rfl⟩|⟨x,t,rfl,rfl⟩
  . ext Kx
    . injection e with e1 _;rw[e1]
    . show ?mM
  . ext Kx
    . show ?mM
    . injection e with e1 _;rw[e1]
 byValue:=λk v h=>by
  rcases Ea h with⟨i,t,rfl,rfl⟩|⟨x,t,rfl,rfl⟩<;>rfl
 pyHash:=λhv h=>by
  rcases Ea hv with⟨i,t,rfl,rfl⟩|⟨x,t,rfl,rfl⟩
  . show wpAny_pyHash_int h
  . show wpAny_pyHash_str h
 eqBool:=λhu hv h=>by
  rcases Ea hu with⟨i,t,rfl,rfl⟩|⟨x,t,rfl,rfl⟩
  . ext Kk
    . rw[Ay7]at h;show wpAny_eqBool_int h
    . rw[Ay6]at h;show SeqAt.EqAt.int_str i t y u _ _ _ _ h
  . ext Kk
    . rw[Ay5]at h;show SeqAt.EqAt.str_int x t j u _ _ _ _ h
    . rw[Ay4]at h;show wpAny_eqBool_str h
 «strs»:=λk x t v h=>by
  rcases Ea h with⟨i,u,rfl,e⟩|⟨y,u,rfl,e⟩
  . show ?mM
  . injection e with e1 _;subst e1;cases v<;>rfl
def lQ[?tw](i:Int)(t:Tok):?B9 ?ly ?i4=true:=tR i t
def LP[?tw](x:Str)(t:Tok):?B9 ?fo ?IH=true:=TQ x t
set_option genInjectivity true in inductive V where| non | bl (b:Bool) | int (i:Int) | str (x:Str) | byt (b:?Jf) | flt (b:UInt64) | ref [?b7] | ty (n:String) deriving DecidableEq
meta abbrev rS[?b7]:?iP:=?h ?K
meta abbrev iS(i:Int):?iP:=?h ?Z
abbrev RelV:?Lt V ?b3| ?O,u=>?on| ?bc,u=>u=?e5 b| ?Z,u=>?IW| ?dQ,u=>?IG| ?Ip,u=>?wd| ?Eh,u=>?v4| ?K,u=>?hB| ?rj,u=>u=Value.type n
meta abbrev Vals:?Lt ?B ?Q:=?i0 ?bs
def Vals.length[?bK][?aD](r:?bN):xs.length=us.length:=Paired.length r
def Vals.get:∀[?bK][?aD]{i:Nat}{x:V},?bN->?an->∃u,us[i]?=?aE/\?bq| _,_,_,_,?J,e=>?pv| _,_,0,_,?Y r _,e=>by simp at e;subst e;show ?DH| _,_,?I,x,?ju,e=>by let#[u,?a1]:=Vals.get (i:=i) (x:=x) t ?fg;show#[u,?lE,h2]
def Vals.set{x:V}[?aq](r:?bq):?Nn (xs.set i x) (us.set i u)| _,_,_,?J=>?J| _,_,0,?ju=>?g6| _,_,?I,?Y q t=>?Y q (Vals.set r i t)
def Vals.append:∀[?j1]{us ws:?Q},?bN->?aA ys ws->?aA ?nS (us++ws)| _,_,_,_,?J,s=>s| _,_,_,_,?g6,s=>?Y r (?z6 t s)
def Vals.take:?N8 xs.take us.take| _,_,0,_=>?J| _,_,_+1,?J=>?J| _,_,?a3,?g6=>?Y r (Vals.take n t)
def Vals.drop:?N8 ?lQ us.drop| _,_,0,r=>r| _,_,_+1,?J=>?J| _,_,?a3,?ju=>Vals.drop n t
abbrev Qj:?Lt ?iP ?iN| ?a2,?aE=>?cQ| none,none=>True| _,_=>False
abbrev KV{κ:Type}:?E ?BV->?E ?BL->Prop:=?i0 λ(p:?BV) (q:?BL)=>p.1=q.1/\?bs p.2 q.2
abbrev kV:Key->V| ?ly=>?Z| ?fo=>?dQ
inductive HO where| lst [?aQ]| tup [?aQ]| dK (kvs:?Om Key V) | dT (kvs:?E ?ES)| set (S:?IK) (n:Nat)| ins (C dx:Addr) (fs:?cH)| own (x:Addr)| xd (fs:?cH)| met (f x:Addr)| rng (lo hi:Int)| frz (o:Obj) (u:HO)| tbl (ps:?bA)| ext (φ:?id)
meta abbrev Hp:=?eV->?np
abbrev upd(H:Hp)[?b7](o:HO):Hp:=λb=>if b=a then ?w else H b
def Ab{H:Hp}[?aJ]{o:HO}:?s H a o a=?w:=by unfold upd;rw[?S ?g]
def Aj{H:Hp}{a b:Addr}{o:HO}(h:b≠a):?s H a o b=H b:=by unfold upd;rw[?gS]
def F6{H:Hp}{a b:Addr}{o u:HO}(h:?ih)(h':?oJ)(d:o≠u):a≠b:=by intro e;subst e;rw[h]at h';show d (qb0 h')
def Aq{H:Hp}{a b:Addr}{o:HO}(h:?ih)(h':?aN):a≠b:=by intro e;subst e;rw[h]at h';cases h'
abbrev Pd[?ba][?b7](items:?bA):Prop:=∃o,?kL/\?sD/\?p8/\∃n,o.data=?aM ?fc n
def Pd.tup[?az][?aJ][?LR]:?i5 h a ?fc:=let #[o,e,c,_,d]:=x;?p3
def Pd.lt[?az][?aJ][?LR]:?sE:=x.tup.lt
def Pd.new[?ba](items:?bA):Pd (?Q9 h.push ?bO ?fc) ?A6 ?fc:=?Bi
section
variable[?c3]
abbrev ObjOk(H:Hp)[?ba][?b7]:?Q3 HO| ?gF=>?QK (?br=?pd)| ?hX=>?dV/\∃its:?Q,?fw/\Pd h a ?a8| ?G0=>?HH/\?u9/\∃vs,KV kvs vs/\h.DictOf ?I5 a vs| ?Et=>?HH/\?u9/\∃xs:?E ?Ax,?i0 (λ(p:?ES) (q:?Ax)=>p.1=q.1/\H q.2.1=?h (?aV (p.1.map kV))/\?bs p.2 q.2.2) kvs xs ∧ ∃o es ep,?kL/\o.ExactDict/\?AW/\es.toList=?rC (entryOfKey (tupleKind ?I5))/\(?rC (·.1)).Nodup| ?ud=>h.SetOf (intKind P w) a S n| ?oZ=>?yl/\?Db/\dx≠a/\?br=?h ?nH ∧ ∃mA,?pw/\?ou/\?p2 mA (?lF (·.1))| .own _=>?Bs| .xd fs=>∃mA,h.Ns1 a mA/\?ou| .rng lo hi=>∃t u v,?br=?h ?pY| ?x2=>?kL/\?bx H h a u| ?HX=>?MW ?br| .met f x=>?br=?Oj ?cn| .ext φ=>φ h/\?Bs/\∀h1 h2:Heap,φ h1->(∀o,?l0 a=?w->h2.get? a=?w)->φ h2
abbrev V8(H:Hp)[?ba]:Prop:=∀a o,?ih->?qZ
universe e9
section
variable[?mx][?dA]{h h':Heap}[?aJ]{o:HO}
def ObjOk.lt(x:?qZ):?sE:=by cases o with| lst xs=>let#[_,_,_,_,e]:=x;ext bL| tup xs=>let#[_,_,_,p]:=x;show p.lt| dK kvs=>let ?J6:=x;ext bL| dT kvs=>let ?J6:=x;ext bL| set S n=>let#[o,_,_,_,e,_]:=x;ext bL| ins C dx fs=>let ?xu:=x;ext bL| own y=>let ?sf:=x;ext bL| xd fs=>let#[_,?xu,_]:=x;ext bL| rng lo hi=>let#[_,_,_,e]:=x;ext bL| frz ob u=>let#[e,_]:=x;ext bL| tbl ps=>show ?OH _| met f y=>show ?OH _| ext φ=>let#[_,?sf,_]:=x;ext bL
def Paired.mapP{α β:Type}{F G:?Lt α β}:∀{l₁:?dd}{l₂:?E β},?i0 F l₁ l₂->(∀a b,F a b->G a b)->?i0 G l₁ l₂| _,_,?J,_=>?J| _,_,?g6,f=>?Y (f _ _ r) (?z2 t f)
def ObjOk.stay(x:?qZ)(k:∀b u,(b=a\/H b=?mP)->?pN) (ho:∀b,?Pk ?mP ?mP) (ht:?l3):?bx P w H' h' a o:=by induction o with| lst xs=>let ?kO:=x;show#[z,?dC,?bi]| tup xs=>let#[z,its,r,ob,e,c]:=x;show#[z,its,r,ob,?bi,c]| dK kvs=>let(?OS vs e):=x;show(?OS vs ?bi)| dT kvs =>let(?OS xs e):=x;show#[z,y,xs,?z2 r λp q z=>#[z.1,ht _ _ z.2.1,z.2.2],ob,?aa,?bi,c]| set S n=>let#[ob,?aa,t,e,c]:=x;show#[ob,?aa,t,?bi,c]| ins C dx fs =>let#[d,z,ne,e,mA,(?PX e2),r]:=x;show#[ho _ d,z,ne,?bi,mA,(?PX (k _ _ (?q d) e2)),r]| own y=>let#[ob,e]:=x;show#[ob,?bi]| xd fs=>let#[mA,(?PX e),r]:=x;show#[mA,(?PX ?bi),r]| rng lo hi=>let#[t,u,v,e]:=x;show#[t,u,v,?bi]| frz ob u ih=>let#[e,q]:=x;show#[?bi,ih q]| tbl ps =>let e:?MW ?br:=x;exact ?MW (?dW a);show ?FH| met f y =>let e:?br=?Oj (?L y):=x;exact ?dW a=?Oj (?L y);show ?FH| ext φ=>let#[p,#[o,e],st]:=x;show#[st _ _ p λo q=>k _ _ ?b0 q,#[o,?bi],st]
def V8.lt[?j0](e:?ih):?sE:=(x a o e).lt
def V8.fresh[?j0](e:?nE):?hG:=by cases q:H a with| none=>rfl| some u=>show ?MT (x.lt q) e
def V8.kept[?j0][?mU]:?P1 H h':=λa o e =>(x a o e).stay (λb u _ q=>?jL) ?ri ?iL
def V8.laid[?j0][?mU](hp:?nE)(new:?bx P w ?ie h' a o):?P1 ?ie h':=?R9 (by let hn:=x.fresh hp;cases hb:b=a;{subst hb;rw[Ab]at e;cases e;show new};rw[Aj hb]at e;show(x b u e).stay (λc v _ q=>k c v q) (λc q=>?lR) λc xs q=>?lR)
universe e9
abbrev Rd(H:Hp)[?b7](u:HO):Prop:=H a=?aE\/∃o,H a=?su
def Rd.ok[?mx]{H:Hp}[?az][?aJ]{u:HO}(r:Rd H a u)[?j0]:?OR u:=by rcases r with r|⟨o,r⟩;{show x a u r};let#[_,q]:=x a _ r;show q
abbrev Mut:?Q3 ?np| ?h ?kR=>True| ?h (.dK _)=>True| ?h (.dT _)=>True| ?h (.set _ _)=>True| ?h (.ins _ _ _)=>True| ?h (.ext _)=>True| _=>False
section
variable[?mx]{H:Hp}{h h':Heap}{x e:Addr}{o':HO}
def V8.write(ok:?oH)[?KE] (new:?bx P w ?AP h' x o'):?P1 ?AP h':=λb u q=>by (let Bf5:∀c y,H c=?h (.own y)->c≠x:=λc y r z=>?Dl);(let B18:∀c xs,H c=?le->c≠x:=λc xs r z=>?Dl);cases hb:b=x;{subst hb;rw[Ab]at q;cases q;show new};rw[Aj hb]at q;cases hbe:b=e;{(let q':H b=?h ?jZ:=by rcases he with z | z;{show ?P (hbe.trans z) hb};rw[hbe];show z);rw[q]at q';cases q';let#[v,hv]:=heo;show#[v,by rw[hbe];show hv]};(apply(ok b u q).stay (λc v hc r=>k c v ?_ r) (λc r=>?Ot Bf5 b) λc xs r=>?Ot B18 xs);rcases hc with rfl | hc;{show hbe};rintro rfl;rcases he with z | z;{show Bf5 c b hc z};rw[hc]at z;cases z;show hb ?g
universe e9
structure Un(fs ex:?aL)(H H':Hp)(h h':Heap):Prop where
 keep:?Mb ?cW (?aN->b ∉ fs->?hx->?jk)
 slot:?Mb ?cW (?aN->b∈fs->?hx->?Bh)
 free:?Mb ?cW (?aN->?hx->?kS)
 there:?Mb ?cW (?hx->?Ia)
 tups:?l3
 frzs:?pF
 tbls:?uB
section
variable{fs fs' ex ex':?aL}{H H1 H2:Hp}{h h1 h2 h':Heap}{a x e:Addr}{o:HO}
def Un.any(u:?N3 H1 h1){b:Addr}{ob:Obj}(q:?iZ=?h ob)(n:?aN)(hx:?hx):∃sl,?l0 b=?h { ob with slots:=sl }:=by cases hb:b∈fs;{show ?Pa u.slot ob q};show#[?zB,?Pa ?oS ob q]
def Un.kept[?mU]:?N3 H h' :=#[λb ob q _ _ _=>?pp,λb ob q _ _ _=>#[?zB,?pp],λ_ _ _ n _=>n,λb ob q _=>#[ob,?pp],?iL,λ_ _ _ q=>q,λ_ ps q=>#[#v[],?pB]]
def Un.refl:?N3 H h:=?nM ?iL
def Un.laid[?mU](hp:?nE)(hn:?hG):?N3 ?ie h' where
 keep:=λb u q _ _ _=>?jL
 slot:=λb u q _ _ _=>#[u.slots,?jL]
 free:=?Q8 (?Na (qc5 q) hp)
 there:=λb u q _=>#[u,?jL]
 tups:=λb xs q=>?lR
 frzs:=λb u xs q=>?lR
 tbls:=?NH (Aq q hn)
def Un.write[?KE]:?N3 ?qx h':=by (let hx:∀b,?aN->b≠x:=λb n z=>by subst z;rw[n]at mu;show mu);(let hb:∀b,?aN->?kh:=λb n z=>by subst z;rcases he with r | r;{show hx b n r};rw[n]at r;cases r);(let hm:∀b u,?oJ->¬Mut ?aE->b≠x:=λb u q nm z=>by subst z;rw[q]at mu;show nm mu);apply#[λb u q n _ _=>?DN,λb u q n _ _=>#[u.slots,?DN],?Q8 (hx b n),λb u q _=>?_,λb xs q=>?uP,λb u xs q=>?uP,?NH (hm b _ q λz=>z)];cases hbe:b=e;{subst hbe;show heo};show#[u,k b u hbe q]
universe e9
abbrev trk[?ba](H:Hp):?aL:=(?cL ?A6).filter λa=>(H a).isSome
abbrev jG[?ba](H:Hp):Heap:=PySem.W.hideAll h ?l7
def tX[?ba](H:Hp):(jG h H).objs.size=h.objs.size:=PySem.W.hideAll_size _ _
def XO[?az]{H:Hp}[?gk](e:?cW)(n:?aN):?Nw ?w :=PySem.W.hideAll_get _ e λhm=>by let q:(H b).isSome=true:=(qi7.mp hm).2;rw[n]at q;simp at q
def Ab7[?az]{H:Hp}[?gk](e:?Nw ?w):?cW/\?aN:=by let e':?cW:=PySem.W.of_hideAll ?l7 e;apply#[e',?_];cases q:H b with| none=>rfl| some x =>let hm:b∈?l7:=qi7.mpr #[qe1.mpr (qc5 e'),by simp[q]];let z:?Nw none:=PySem.W.hideAll_none ?l7 hm;rw[z]at e;cases e
structure Mod[?k][?ds]:Prop where
 kin:?AO
 glob:?sJ
 blt:∃mb,base.Ns ?Ex mb/\?Gf
 nolimit:base.NoLimit
structure Cx where
 prog:Program
 w:World
 K:PySem.W.Frag
 mg:?bv
 base:Heap
 A:Around
 N:?X
 s₀:Shared
 H₀:Hp
 env:Env
 outer:?ca
 stack:?ca
 ex:?aL
 fn:Str->?cO
 calm:Bool
 pn:Bl
 xe:?ei
abbrev UY(l:?ca):?aL:=l.filterMap (·.frame)
meta abbrev Cx.fs(X:Cx):?aL:=UY ?lw
abbrev Vis(sc:Scope)(x:Str):Prop:=?h4 x=?cz\/?rk\/?h4 x=?cY
abbrev Loc(sc:Scope)(x:Str):Prop:=?vS
abbrev Ck0(env:Env)[?ba](m:?bv)(x:Str)[?cj]:Prop :=(?k1 x=?cz/\m x=?aE)\/((?k1 x=?b5\/?k1 x=?cY)/\∃c,?rY x=?bM/\h.IsCell c ?aE)
structure Cx.Ok(X:Cx):Prop where
 mod:?Hw
 kind:X.env.scope.kind=?g2
 glob:X.env.globals=mainGlobals
 blt:X.env.builtins=builtinsNs
 above:?M1 X.env.locals
 inj:∀x y c,?cs->?ky y=?bM->x=y
 has:∀x,?G2->∃c,?cs
 cab:∀x c,?sG->?cs->?M1 c
 hd:?jX->?BJ
 frames:X.A.frames=?h ?de
 stk:X.stack=X.outer\/(X.stack=X.env::X.outer/\X.env.frame=?h ?jD)
 exf:∀b∈X.ex,?g7/\?BE
 bs:?Mb ?hq (?q7/\?Js)
 bsz:X.base.objs.size<=X.s₀.heap.objs.size
 noex:?Mb ?hq ?yP
 exfs:∀b∈X.ex,?ld
 funs:?Gb ?bS ?lw
 frf:∀b∈X.fs,?Js
structure Bo[?c6](σ:?tD)(H:Hp)[?c9]:Prop where
 ok:X.Ok
 os:s.os=X.s₀.os
 bare:?GG
 base:Un X.fs X.ex X.H₀ H X.s₀.heap ?F
 loc:∃m,?uV/\∀(i:Nat) (x:Str) (v:V),?gs->?G4->?jl->∃u,?cQ/\Ck0 ?r ?F m x u
 cell:?NW (∃v,?lj c v)
 free:?NP ?jD
 freeC:∀x c,?cs->?NP c
 pin:∀p∈?qz,?vW
 hok:?OY H ?F
 len:σ.length=X.N.length
section
variable[?nA]{σ:?tD}[?dA][?aR]{h':Heap}
def Cx.Ok.nofr(ok:X.Ok)[?gk](e:?hq):?ld:=λhb=>by let:=(ok.funs.mem hb).1;rw[e]at this;cases this
def Bo.bs[?m]:?Mb ?hq ?BX:=λb o e =>#[?Ck b o (?lH).1 (?lH).2 (I.ok.nofr e) ?xB,?jT b o (?lH).1 (?lH).2 ?xB]
def Bo.bk[?m]:?Mb ?hq ?cM:=?Nh ((?Qz I.bs).1)
def Bo.mod[?m]:?Hw:=I.ok.mod
def Bo.kIn[?m]:X.K.In ?F:=I.ok.mod.kin.keeps I.bk
def Bo.lt[?m]:?Nm X.env.locals:=let #[_,hn,_]:=I.loc;hn.lt
def Bo.sz[?m]:?M1 s.heap.objs.size:=qa4 ?nq (qe6 I.lt)
def Bo.nofs[?m][?aJ](h:?A4):a ∉ X.fs:=λhb=>by let ?E3:=I.ok.funs.mem hb;show ?MT ?mN (qa4 I.sz h)
def Bo.cne[?m]:?NW (?QN c):=λx c e z=>by let ?wP:=?jC;let#[m,#[o',?aa,ho',hd',_],_]:=I.loc;rw[z,ho']at ho;cases ho;rw[hd']at hd;cases hd
def Bo.funs[?m]:?k6 ?bS ?lw:=by (let all:∀(l:?ca),(∀b∈UY l,?xS)->?Gb ?bS l->?k6 ?bS l:=by intro l;induction l with| nil=>intro _ _;trivial| cons env r ih =>intro hs hl;have#[hk,#[L,o,hf,hn,ho,hd],hr]:=hl;let hL:L∈X.fs:=hs L (by unfold UY;rw[qy0,hf];show qb4);let#[sl,e]:=?D2 L o ho (?EW L hL) hL λz=>?Bg L z hL;show#[hk,#[L,_,hf,hn,e,hd],ih (?OL (hs b (by unfold UY;rw[qy0,hf];show ?w9))) hr]);show all ?lw (λ_ hb=>hb) I.ok.funs
def Bo.stack[?m]:?k6 ?bS ?de:=by rcases I.ok.stk with e|⟨e,hf⟩;{rw[e];show I.funs};rw[e];let#[m,hn,_]:=I.loc;apply ?Y (by rw[I.ok.kind];decide) hf hn ?_ I.funs;show Heap.get?_none_of_le (qa4 ?pe ?nq)
def Bo.stkSub[?m]:∀b∈?iJ,b∈X.env.locals::X.fs:=?OL (by rcases I.ok.stk with e|⟨e,hf⟩;{rw[e]at hb;show ?w9};rw[e]at hb;unfold UY at hb;rw[qy0,hf]at hb;show hb)
def Bo.stkFree[?m]:∀b∈?iJ,?aN:=?OL (by rcases ?fQ (?Iw b hb) with e | hb;{rw[e];show I.free};let ?E3:=I.ok.funs.mem hb;show ?jT b o ho (?EW b hb) λz=>?Bg b z hb)
def Bo.step[?L5][?m] [?tM] (keep:?Mb ?g7 (?ld->?ha->?cM->?aN->?jk)) (slot:?Mb ?g7 (?xS->?ha->?cM->?aN->?Bh)) (free:?Mb ?ha (?cM->?aN->?kS)) (there:?Mb ?ha (?cM->?Ia)) (tups:?l3) (frzs:?pF) (tbls:?uB) (ns:∀m,?uV->h'.Ns ?jD m) [?tt] (hg:?kV g') : ?D4:=by let neL:?Mb ?q7 ?g7:=λb o e=>?zd;(let neC:?Mb ?q7 (?yP->?ha):=λb o e hx hb=>by rcases (hch b hb).1 with z | z;{show hx z};show ?MT ?es z);(let cellK:?NW (∀v,?lj c v->h'.IsCell c v):=λx c e v ?q2=>by let nch:c ∉ ch:=?uT;cases hc:c∈X.fs;{let#[sl,q]:=?Or slot;show#[_,q,hd]};show#[o,?Or keep,hd]);apply#[I.ok,I.os,hg,#[?jA,?jA,λb o e n hx=>?_,?Ic,λb xs e=>tups b xs (?zl b xs e),λb o xs e=>frzs b o xs (?Gl b o xs e),λb ps e=>?_],?_,?uU,?_,?uU,?rt,hok,?m5];{show keep b o ?x4 hb ?lK ?nP ?pl};{let ?p1:=?se;let ?D1:=slot b _ ?x4 hb ?lK e1 ?pl;show ?D1};{let ?kd:=?kP;show free b o' ?lK e1 ?pl};{let ?kd:=?kP;show there b o' ?lK e1};{let#[m1,e1]:=?wE b ps e;let#[m2,e2]:=tbls b _ e1;show#[m1++m2,by rw[e2,Array.append_assoc]]};{let ?rx:=I.loc;apply#[m,ns m hn,?uD];let ?pt:=hl i x v e1 e2 e3;apply ?up;rcases l with l|⟨k,c,e,z⟩;{show ?x l};show ?q #[k,c,e,cellK x c e _ z]};{let ?ow:=?jC;show#[v,cellK x c e v z]};{let#[m,#[o,_,_,ho,_],_]:=I.loc;show free _ o ?BS ho ?eM};{let ?wP:=?jC;show free c o ?uT ho ?r2};let ?sO:=?l5;let nch:p.1 ∉ ch:=λz=>(hch p.1 z).2.2.2 p hp ?g;show#[keep p.1 p.2 ne nf nch e n,free p.1 p.2 nch e n,ne,nf,d]
def Bo.un[?dB][?m](u:?Nu X.fs [] h')[?tt]:?Ll H' ?iG:=by let ?F3:=?t6;let ?Fw:=u.any ho ?eM ?v;show ?lv (g':=s.gens) (d':=s.drawn) (ch:=[]) (λ_ z=>?lU) (?NY ?oS) (?NY u.slot) (λb o _ e n=>u.free b o e n ?v) (λb o _ e=>u.there b o e ?v) u.tups u.frzs u.tbls ?F0 hok ?cm
def Bo.call[?L5][?m](u:?Nu ?iJ ch h')[?tt](hg:?kV g') [?tM] : ?D4:=by let ?F3:=?t6;let ?Fw:=u.any ho ?eM ?BS;show ?lv (ch:=ch) hch (λb o hL hb hc e n=>?oS b o e n (λz=>(?ov).elim hL hb) hc) (λb o _ _ hc e n=>u.any e n hc) (λb o hc e n=>u.free b o e n hc) (?PN (u.there b o e hc)) u.tups u.frzs u.tbls ?F0 hok hg
def Bo.turned[?dB]{it:Addr}[?m](k:∀b o,?DU)(hn:?NP it)(hL:?QN it) (h1:it∈X.ex\/?M1 it) (h2:?NW (c≠it)) (h3:∀p∈?qz,p.1≠it):?pW:=by (let nit:∀b u,?oJ->b≠it:=λb u e z=>by rw[z,hn]at e;cases e);apply ?lv (g':=s.gens) (d':=s.drawn) (ch:=[it]) ?eW (?Mj ?r9) (?Mj #[?qC,?r9]) ?Dc (?PN #[o,?r9]) ?Ff ?xL ?DX ?rZ ?C5 ?cm;{(ext md);subst e;show#[h1,hL,h2,h3]};{let ?w5:=hm;show#[o,?aa,k _ o (?fI hL) ho,r]};apply ?Hi (λc v hc q=>k c v ?_ q) ?ri ?iL;rcases hc with z | z;{rw[z];show nit b u e};show nit c _ z
def Bo.tok[?m](t:Nat):?Ll H ({ s with toks:=t }):=I.un (h':=s.heap) (t':=t) Un.refl ?bG
def Bo.kept[?dB][?m][?LC]:?pW:=I.un (?nM k) (I.hok.kept k)
def Bo.laid[?aJ]{o:HO}[?dB][?m][?LC](hp:?A4)(new:?Ok ?ie a o) : ?Ll ?ie ?iG:=I.un (Un.laid k hp (?g8 hp)) (?Eb k hp new)
def Bo.write{x e:Addr}{o:HO}[?dB][?m](mu:?AN)(he:?xF)(k:∀b u,?kh->?zF)(heo:?xj) (new:?Ok ?qx x o):?Ll ?qx ?iG:=I.un (Un.write mu he k heo) (I.hok.write mu he k heo new)
def Bo.pins_of{Ak8:Bl}[?m](h:∀p∈Ak8,?vW):?OB X Ak8 :=#[I.ok,?th,?PB ?Hs (h p),?bG,?m5]
def LK{N:?X}(hN:N.Nodup){i j:Nat}{x:Str}(a:?Qp N)(b:N[j]?=?b8):i=j:=by let#[h1,e1]:=?d3 a;let#[h2,e2]:=?d3 b;show(List.getElem_inj hN).mp (e1.trans e2.symm)
def fG{M:Model}[?aH][?aG][?dz]{v:V}[?aq][?it][?m][?mT][?e1] (h:∀s',?Ai->(∃a,?fK a ?F ?dG/\(a=X.env.locals\/?Ag))->?o6) [?ev]:?wA:=by let ?rx:=?t6;(let hcls:?Nc (X.env.scope.kind==.class || (X.env.scope.kind==.module&&X.env.locals != X.env.globals)):=by rw[I.ok.kind];rfl);(let hiσ:i<σ.length:=by rw[I.len];show ?hL);let cne:=I.cne;(let tracked:∀[?aJ]{h':Heap},(∃o,?Ol a/\?hG)->?fK a ?F h'->?OY H h':=λ{a h'} ha hs b ob e=>by let#[_,_,hfree]:=ha;apply(?bG b ob e).stay (λc w' hc q=>(hs.2 c ?_).trans q) ?ri ?iL;rintro rfl;rcases hc with rfl | hc;{rw[hfree]at e;cases e};rw[hfree]at hc;cases hc);rcases hx with hk | hk;{apply wpAny_storeName_local hk hn (λh' hn' hs=>?_) hcls;let#[oL,_,_,hoL,_]:=id hn;apply h _ #[I.ok,I.os,?cm,?Gj,#[_,hn',?zL],λy c e=>?_,?eM,?fk,?rt,tracked #[oL,hoL,?eM] hs,?Cv] #[_,hs,?b0];{show ?t4 ?nP};{let ?p1:=?se;show#[sl,?t4 e1]};{let ?kd:=?kP;show#[o',?t4 e1]};{cases hj:j=i;{subst hj;rw[hi]at e1;cases e1;rw[?HU]at e2;cases e2;show#[u,r,?x #[hk,?v]]};rw[qf5 (?fI hj)]at e2;let ?IO:=?Fc;apply ?Ir;rcases q with⟨k,e⟩|⟨k,c,e,z⟩;{apply ?x #[k,?_];let:y≠x:=λe=>hj (LK hN e1 (e▸hi));simp[this,e]};show ?q #[k,c,e,?Ez]};{let#[w',z]:=?fN y c e;show#[w',?Ez]};let ?sO:=?l5;show(?Nz ne)};(let hfn:?sG:=by rcases hf with z | z;{show z};rw[z]at hk;cases hk);let#[c,hc]:=I.ok.has x ?wq;let#[w',z]:=?fN x c hc;apply wpAny_storeName_cell ?f8 hk hc z (λh' hc' hs=>?_);let#[oc,hoc,B63]:=id z;apply h ?d1 #[I.ok,I.os,?cm,?Gj,#[m,?Hf hs (?fI (cne x c hc)),?zL],λy c' e=>?_,?eM,?fk,?rt,tracked #[oc,hoc,?fk x c hc] hs,?Cv] #[c,hs,?q hc];{show ?s7 ?nP};{let ?p1:=?se;show#[sl,?s7 e1]};{let ?kd:=?kP;show#[o',?s7 e1]};{cases hj:j=i;{subst hj;rw[hi]at e1;cases e1;rw[?HU]at e2;cases e2;show#[u,r,?q #[?wq,c,hc,hc']]};rw[qf5 (?fI hj)]at e2;let ?IO:=?Fc;apply ?Ir;rcases q with q|⟨k,c',e,z'⟩;{show ?rr};apply ?q #[k,c',e,z'.sameBut hs ?_];rintro rfl;show hj (LK hN e1 (?Ba _ _ _ e hc▸hi))};{cases hcc:c'=c;{subst hcc;show#[_,hc']};let#[w2,z2]:=?fN y c' e;show#[w2,z2.sameBut hs hcc]};let ?sO:=?l5;apply(?Nz ?_);intro q;rw[q,hoc]at e;let q':oc=p.2:=qb0 e;show d w' (by rw[←q'];show B63)
def KA{M:Model}[?aH][?aG][?dz]{v:V}[?aq][?it][?m][?mT][?e1] (h:∀s',?Ai->?o6) [?ev]:?wA :=fG I hN hi hx r (λs' I' _=>h s' I') hf
def Bo.call'{s':Shared}{ch:?aL}[?m](ho:?pP)(u:?Nu ?iJ ch ?dG)(hok:?z5)(hg:?kA) [?tM]:?m3:=by let#[h',g',d',t',o']:=s';let e:o'=s.os:=ho;subst e;show I.call (g':=g') (t':=t') (d':=d') u hok hg hch
universe e9
meta abbrev XK:=?b3->OAddr->?aW
meta abbrev St:=?tD
meta abbrev VK:=?eB
meta abbrev TE:=St->?k0
meta abbrev TT:=?Pq ?F8
meta abbrev TA:=?Pq ?p4
structure Ends where
 nx:?V
 rt:VK
 bk:?V:=?eo
 ct:?V:=?eo
meta abbrev TS:=Ends->?V
inductive EP[?c6](σ:St)(Q:VK)[?cj][?c8]:Prop| mk (v:V) [?mj] [?e1] (q:?ff):?C7
inductive TP[?c6](σ:St)[?gf](b:Bool)[?c8]:Prop| mk [?mj] (q:Q b H'):TP X Ae σ Q b s'
inductive AP[?c6](σ:St)(Q:?p4)[?cf][?c8]:Prop| mk [?ah] [?mj] [?n7] (q:Q vs H'):AP X Ae σ Q us s'
inductive NP[?c6](N:?V)[?c8]:Prop| mk [?LM] (q:?lI):?Nb N
inductive HP[?c6](σ:St)(Q:?aW)[?c8]:Prop| mk [?mj] (q:Q H'):?y3
inductive YP[?c6](σ:St)[?cj](Y:?eB)(T:Prop)[?n4](s2:Shared):Prop| mk (x:V) (H':Hp) (i:?IS) (r:?bq) (y:Y x H') (t:T) (f:?eZ):?Pe Y T
inductive RP[?c6](Q:VK)[?cj][?c8]:Prop| mk (v:V) [?LM] [?e1] (q:?ff):?Qf RP Q u
abbrev SP[?c6](D:Ends)(f:Flow)[?c8]:Prop :=match f with| .next=>?Nb ?fe| .brk=>?Nb D.bk| .cont=>?Nb D.ct| ?G7=>?Qf RP D.rt u
abbrev PE(X:Cx)(e:Expr)(t:TE):Prop :=∀[?aC] (Q:VK),?W->?gN->?Lj ?fM ?bu
abbrev PT(X:Cx)(e:Expr)(t:TT):Prop :=∀[?aC] [?gf],?Qw (?sB e ?r ?fM)
abbrev PW(X:Cx)(e:Expr)(t:TT):Prop :=∀(whole:Sem ?b3) [?aC] [?gf],?Qw ?E4
def PW.pt{X:Cx}[?cA]{t:TT}(h:PW X e t):PT X e t:=h _
abbrev PA(X:Cx)(es:?dM)(t:TA):Prop :=∀(pos:Pos) [?aC] (Q:?p4),?W->?gN->?Lj (spliced ?qb) (AP X Ae σ Q)
abbrev PS(X:Cx)(st:Stmt)(t:TS):Prop :=?Pu exec
abbrev rX(X:Cx)(st:?dk)(t:TS):Prop :=?Pu execs
def E6{α:Type}{t:Sem α}{Q Q':α->?ea}{M:Model}[?aH][?aG][?aR](h:?Lr M t)(hQ:∀a s,Q a s->Q' a s):?j M A t Q' E s:=qm0 h hQ λ_ _ x=>x
section
variable{X:Cx}
inductive Ao7(i:Nat)(σ:St)[?b6]:Prop| mk:∀v,?G4->?lr->?AJ
abbrev tVar(i:Nat):TE:=λσ H Q=>?AJ
abbrev tC(v:V):TE:=λ_ H Q=>?lr
def At8[?dz][?aI](hN:?gs)(hv:?jl)[?gZ][?Kh]:?Dh:=by ext a0;let#[v,e,h]:=h;let ?rx:=I.loc;let ?pt:=hl i x v hN e hv;let fin:?MG u s:=?rQ;rcases l with⟨hk,hm⟩|⟨hk,c,hc,hcell⟩;{show ?s5 (wpAny_loadName_local ?f8 hk hn hm fin) hd};rcases hk with hk | hk;{show ?s5 (wpAny_loadName_cell ?f8 hk hc hcell fin) hd};show ?s5 (wpAny_loadName_free ?f8 hk hc hcell fin hcd) hd
def Ah{i j pos}:?MV ?Z ?Z:=?MB (wpAny_Constant_int #[?Z,?go,h])
def Jr{b j pos}:?MV ?oL ?bc:=?MB (Constant_bool #[?bc,?f7,h])
def nU{j pos}:?MV ?aO ?O:=?MB (Constant_none #[?O,?f7,h])
def Q4{x j pos}:?MV ?dQ ?dQ:=?MB (Calls.Constant_str #[?dQ,?go,h])
abbrev Gl(X:Cx)(x:Str):Prop:=?ho x=?h .globalImplicit
def AU[?aG]{Ae:Bl}[?aR][?bZ]{x:Str}[?aq][?aI][?bJ][?m][?Le](h:Q u s) [?gZ]:?Bn :=?Fl ?f8 hg (Calls.loadGlobal_global ?By hm h) hd
def Oy[?aG]{Ae:Bl}[?aR][?bZ]{x:Str}[?aq][?aI][?bJ][?m][?L0](h:Q u s) [?mV] [?gZ]:?Bn:=by let#[mb,?a1]:=I.mod.blt;show ?Fl ?f8 hg (Calls.loadGlobal_builtin ?By hm (by rw[I.ok.blt];show h1.keeps I.bk) ((h2 x hn).trans hv) h) hd
def Mo{x:Str}{v:V}[?aq][?aI][?Le][?e1][?gZ]:?FG :=?MB (AU I hg hm ?rQ hd)
def Ik{x:Str}{v:V}[?aq][?aI][?L0][?e1][?mV][?gZ]:?FG :=?MB (Oy I hg hm hv ?rQ hn hd)
variable{a b:Expr}{ta tb:TE}[?aI]
def Bf6(b:Expr){op:CmpOp}(h:?Eo)(h2:?IC):?of:=by
 ext KR
 ext KK
 cases b<;>simp[behindInMarks,e1,e2]
inductive ItB[?gf](x:V)(H1:Hp):Prop| mk:?OW (Q c H1) ?va
abbrev tB(t:TE):TT:=?Li t ?va
def D8[?cA]{t:TE}(h:?Ma e t)(he:?o (∀whole,?E4=(do let v ←whole;?nw e.pos;?hS [v] (truthy v))) ?rs):PT X e (tB t):=by intro Ae s σ H Q I hw;apply isTrue_plain (E6 ?IE ?iH) (he _);ext bX;let#[d,?g,q]:=q1;cases r1;show ql9 #[?z,q]
variable{tA tB':TT}{rest:?dM}
abbrev Bz4(t u:TT):TT:=?Lp (λc H1=>if ?hD then ?Fi else Q ?bb H1)
abbrev tOr(t u:TT):TT:=?Lp (λc H1=>if ?hD then Q ?bw H1 else ?Fi)
abbrev Bz1(t:TT):TT:=?Lp ?A1
def aS[?iz]:PW X (?P4 [a]) tA:=by ext mo;apply ?Aw ?IF;cases c with| true=>show isTrue_and_nil e| false=>show e
def Q0[?iz]:PW X (?PU [a]) tA:=by ext mo;apply ?z7 ?IF;cases c with| false=>show isTrue_or_nil e| true=>show e
def iL[?iz](hb:PW X ?E2 tB'):PW X ?Iz (Bz4 tA tB'):=?Pp ?Aw ?w8 ?dj
def Pt[?iz](hb:PW X ?CL tB'):PW X ?Dw (tOr tA tB'):=?Pp ?z7 ?dj ?w8
def Em[?iz]:PT X ?Es (Bz1 tA):=?Pz isTrue_not (E6 (?Ls ha ?A1) λc s1 ?dj=>?dj)
inductive YR(tb:TE)(σ:St)[?gg]:Prop| mk:?OW (if ?hD then ?qf else Q ?m6 H1) ?HP
abbrev Bc5(ta tb:TE):TE:=?Li ta ?HP
inductive Ao8(tb:TE)(σ:St)[?gg]:Prop| mk:?OW (if ?hD then Q ?h6 H1 else ?qf) ?zU
abbrev Bz0(ta tb:TE):TE:=?Li ta ?zU
inductive yQ[?gg]:Prop| mk:?OW (Q ?Ae H1) ?vv
abbrev Bb8(ta:TE):TE:=?Li ta ?vv
def Lq{op}{t:TE}(h:?Ma a t):?Ma (?eY op [a] ?n) t:=?OM BoolOp_one
def Nf[?n5](hb:?Ma ?E2 tb):?Ma ?Iz (Bc5 ta tb):=by ext a0;apply BoolOp_and ?m8;ext bX;ext tj;apply ?pC;cases c with| true=>ext tk| false=>show#[?m6,?z,?g,q1]
def VZ[?n5](hb:?Ma ?CL tb):?Ma ?Dw (Bz0 ta tb):=by ext a0;apply BoolOp_or ?m8;ext bX;ext tj;apply ?pC;cases c with| false=>ext tk| true=>show#[?h6,?z,?g,q1]
def At9[?n5]:?Ma ?Es (Bb8 ta):=by ext a0;apply ?HZ ?m8;ext bX;ext tj;show not_of (ql9 #[?Ae,?z,?g,q1])
abbrev tIf(t:TT)(ta tb:TE):TE:=?Lp (λc H1=>if ?hD then ta σ H1 Q else ?qf)
def Pz{c:Expr}(hc:PT X c tA)[?ey]:?Ma (.IfExp c a b ?n) (tIf tA ta tb):=by ext a0;apply wpAny_IfExp ?DC;let ?dj:=_z;cases d with| true=>show ?Ly ha Q| false=>ext tk
universe e9
abbrev SqL[?k](H:Hp)[?b7][?aQ]:Prop :=?Ps ?gF (o.cls=?bE)
abbrev SqT[?k](H:Hp)[?b7][?aQ]:Prop :=?Ps ?hX ?sD
abbrev Ce2:?b3->?iP| ?aO=>?h ?O| ?oL=>?h ?bc| ?p i _=>?h ?Z| ?bU x _=>?h ?dQ| .bytes b _=>?h ?Ip| .float b _=>?h ?Eh| ?K=>?h ?K| ?pM=>?h ?rj| _=>none
def RelV.abs{x:V}[?aq](r:?bq):Ce2 u=?b8:=by cases x with| non=>cases r;rfl| bl _=>cases r;rfl| int _=>ext e0;rfl| str _=>ext e0;rfl| byt _=>ext e0;rfl| flt _=>ext e0;rfl| ref _=>cases r;rfl| ty _=>cases r;rfl
def RelV.inj{x y:V}[?aq](r:?bq)(q:?hl):x=y:=qb0 (r.abs.symm.trans q.abs)
def Vals.inj:∀[?j1][?aD],?bN->?aA ys us->xs=ys| _,_,_,?J,?J=>rfl| _,_,_,?g6,?Y r' t'=>by rw[?kE,Vals.inj t t']
section
variable{X:Cx}[?T][?aJ][?j1]
def SqL.of[?a5](h:H a=?oB):?cp:=?x ?hm
def SqT.of[?a5](h:H a=?le):?bF:=?x ?hm
def Bo.list[?m](h:?zs):∃its:?Q,?PH PlainL:=by rcases h with h|⟨o,its,n,hk,hc,hd,hs,hz,r⟩;{let ?kO:=?v9;show#[its,r,#[_,n,e,?C,?g],z]};apply#[?ot,r,#[o,n,?uN,hc,hd,?Ew],?_];let e:=r.length;simp only[qy2]at e;ext d
def Bo.tuple[?m][?u3]:∃its:?Q,?PH ?i5:=by rcases h with h|⟨o,its,n,hk,hc,_,hs,hz,r⟩;{let#[z,its,r,p]:=?v9;show#[its,r,p.tup,z]};apply#[?ot,r,#[o,?uN,hc,n,?Ew],?_];let e:=r.length;simp only[qy2]at e;ext d
def Bo.list_inj[?m](h:?zs)(h':?wg):xs=ys:=by
 let(?OU r #[o,n,e,_,_,d]):=?bI h;let(?OJ _):=?bI h';ext KC
 subst this;show ?kE
def Bo.tuple_inj[?m][?u3](h':SqT ?u H a ys):xs=ys:=by
 let(?OU r #[o,e,_,n,d]):=?b9 h;let#[?dY,r',#[o',e',_,n',d'],_]:=?b9 h';ext KC
 subst this;show ?kE
universe e9
meta abbrev Cx.wish(X:Cx)[?ir]:Cx:={ X with xe:=E }
meta abbrev Cx.nox(X:Cx):Cx:=X.wish ?eo
def Cx.Ok.wish{X:Cx}(ok:X.Ok)[?ir]:?Ih :=?vd
def Cx.Ok.unwish{X:Cx}[?aG](ok:?Ih):X.Ok :=?vd
section
variable{X:Cx}[?T][?aG]
def Bo.wish[?m][?ir]:?vf:=#[I.ok.wish E,?th,?fy,?bG,?m5]
def Bo.unwish(I:?vf):?W:=#[I.ok.unwish,?th,?fy,?bG,?m5]
def SP.unwish{D:Ends}{f:Flow}{s':Shared}(h:SP ?rG Ae D f s'):?Qf SP D f:=by cases f with| next=>ext tX| brk=>ext tX| cont=>ext tX| ret u=>let#[v,σ',H',I,r,q]:=h;show#[v,σ',H',?uI,r,q]
def rX.nox{st:?dk}{t:TS}(h:rX X.nox st t):rX X st t:=λAe s σ H D I hw =>qm0 (?QP D (I.wish _)) (λ_ _ q=>q.unwish) λ_ _ z=>?d2 z
universe e9
section
variable{X:Cx}{st:Stmt}{rest:?dk}{t u:TS}[?cA]{te:TE}[?aI]
abbrev Bb9:TS:=λD σ H=>?bl
abbrev As(t u:TS):TS:=λD σ H=>t ?HO σ H
def Bm:rX X [] Bb9:=λ_ _ σ H _ I h=>qy4 ?yR
private def Ad(h1:?Jh)(h2:rX X rest u):rX X (st::rest) (As t u):=by ext cd;apply ?R7 ?HO;cases f with| next =>let(?P8 I'):=q;show h2 Ae s1 σ' H' D I' q| ret v=>show q| brk=>show q| cont=>show q
def Ag(h1:?Jh):rX X [st] t:=by ext cd;apply ?R7 D;cases f with| next=>show qy4 q| ret v=>show q| brk=>show q| cont=>show q
def Bo.quiet[?T][?m]:interactive ?r=false:=by simp[interactive,I.ok.kind]
abbrev Bc2(te:TE):TS:=?Mg te (λ_ H1=>?Ca)
def B7[?f2](hs:?N5 (?QS e ?aT)):PS X (.Expr e ?n) (Bc2 te):=by ext cd;show wpAny_Expr_any (E6 ?la λv s1 ?fC=>#[σ,?z,q1]) I.quiet hs
abbrev By9(te:TE):TS:=?Mg te D.rt
def Bb[?f2]:PS X (.Return ?BD ?n) (By9 te):=by ext cd;show wpAny_Return_some (?Mv ?la #[x,σ,?z,r1,q1])
abbrev zP(c:TT)(t u:TS):TS:=?Mg c (λb H1=>if ?h2 then t D σ H1 else u D σ H1)
def Ci{c:Expr}{a b:?dk}{tc:TT}(hc:?vr)(ha:rX X a t)(hb:rX X b u):PS X (.If c a b ?n) (zP tc t u):=by ext cd;apply wpAny_If ?DC;let ?dj:=_z;cases d with| true=>show ?Ly ha D| false=>show ?Ly hb D
abbrev Ar8:TS:=?fA
def Yd:PS X st Ar8:=λ_ _ _ _ _ _ h=>h.elim
universe e9
meta abbrev TG:=V->?Pq ?V
meta abbrev zL:=?B->?Pq ?V
abbrev PG(X:Cx)(target:Expr)(t:TG):Prop :=∀[?aC] (v:V) [?cj] (Q:?V),?W->?cQ->t v σ H Q → ?Lj (?fU target ?r u) ?Fy
abbrev PGs(X:Cx)(ts:?dM)(t:zL):Prop :=∀[?aC] [?ah] [?cf] (Q:?V),?W->?eT->t vs σ H Q → ?j ?y ?t (assignInOrder ((?mH ts ?r).map (·.2)) us) ?Fy ?D s
meta abbrev A51:=?Qk V
abbrev Bo6(X:Cx)(t:A51):Prop :=∀[?aC] (o i v:V) (ov iv u:Value) (Q:?aW),?W->?bs o ov->?bs i iv->?cQ->t o i v H Q → ?Lj (setItem ov iv u) (λ_ s'=>?y3)
section
variable{X:Cx}[?aI]
abbrev gO(i:Nat):TG:=λv σ H Q=>Q ?xY H
def Aa4[?dz][?mT][?ev]:?AD:=by intro Ae s σ H v u Q I r h;show ?GB (KA I hN hi hx r (λs' I'=>#[_,H,I',h]) hf)
def Al[?dz](hN:X.N.Nodup)[?KN][?ev]:?AD:=Aa4 hN hi hx hf
structure Bp3[?ah][?tl]:Prop where
 mk::(left:?kJ) (right:Q σ H)
abbrev Cc4:zL:=λvs σ H Q=>Bp3 vs σ H Q
inductive yZ(t:TG)(u:zL)[?ah][?tl]:Prop| mk:∀v r,?Be->(t v σ H λσ' H'=>u r σ' H' Q)->?wr
abbrev Bl3(t:TG)(u:zL):zL:=λvs σ H Q=>?wr
def Cp:PGs X [] Cc4:=by intro Ae s σ H vs us Q I r h;let#[e,h]:=h;subst e;cases r;show assignInOrder_nil ?yR
def Ba[?cA][?aP]{t:TG}{u:zL}(h1:PG X e t)(h2:PGs X es u) (hs:?o ((?mH ?cN ?r).map (·.2)=?fU e ?r::(?qm).map (·.2)) ?A):PGs X ?cN (Bl3 t u):=by intro Ae s σ H vs us Q I r h;let#[v,vr,e1,h]:=h;subst e1;cases r with| cons r rr =>rw[hs];apply assignInOrder_cons (E6 (h1 Ae s σ H _ _ _ I r h) λ_ s1 _z=>?_);let#[σ1,?z,q1]:=_z;show h2 Ae s1 σ1 H1 _ _ Q I1 rr q1
inductive Aq0[?k](n:Nat)(t:zL)(v:V)[?tl]:Prop| mk:∀a xs,?dH->?bF->(xs.length=n)->(t xs σ H Q)->?Jk
abbrev Bl2[?k](n:Nat)(t:zL):TG:=λv σ H Q=>?Jk
def At7[?aP]{k:Nat}{t:zL}{n:Nat}[?bY](h:?yo) [?Kl] (hst:?o (?Bw (·.1)=none) ?A):?PG ?u:=by intro Ae s σ H v u Q I r hw;let#[a,xs,e1,hq,hl,hw]:=hw;subst e1;cases r;let(?OT rv ht):=?eR;apply assign_Tuple_tuple ?cG ht (by simp[hn,←hl,rv.length]) hst λh' hx=>?_;let I1:?sx:=?i7 (t':=s.toks) (?Nh (hx b o ?kc e));show h Ae _ σ H xs _ Q I1 ?DF hw
abbrev Cc3(to ti:TE)(t:A51):TG:=λv σ H Q=>to σ H λo H1=>ti σ H1 λi H2=>t o i v H2 λH3=>Q σ H3
def Hy{o i:Expr}{to ti:TE}{t:A51}(ho:?uY)(hi:?Ma i ti)(hs:Bo6 X t)
 (ha:?o (∀v,?fU ?wj ?r v=(do
   let ov ←?hS [v] ?eb
   let iv ←?hS [v,ov] (?Pw i)
   ?nw ?n
   ?hS ?vy (setItem ov iv v)
   release ?vy [])) ?rs):PG X ?wj (Cc3 to ti t):=by
 intro Ae s σ H v u Q I r h;rw[ha];apply ?Qm qp3 (E6 ?D8 λov s1 _z=>?_);ext bX;apply ?Qm qp3 (E6 (?Ly hi _) λiv s2 _z=>?_);let ?lP:=_z;apply ?Qm ?qP (?l (qp3 (E6 (hs Ae s2 σ H2 x y v ov iv u _ I2 r1 r2 r q2) λ_ s3 _z=>?_)));let ?FP:=_z;show wpAny_release #[σ,H3,I3,q3]
abbrev ZP(te:TE)(g:TG):TS:=?Mg te (λx H1=>g x σ H1 ?fe)
def Gb{tg e:Expr}{te:TE}{g:TG}[?f2](hg:?FB)(hs:?N5 (swapsWithSole [tg] e ?mD ?r=?lM))(hw:?N5 (swappedStores [tg] e ?r=?aF ?aT)) (h1:?o ((?mH [tg] ?r).map (·.2)=[?fU tg ?r]) ?A):?ON tg g:=by ext cd;apply wpAny_Assign_stores ?oK hs hw;ext bX;rw[h1];show E6 (?R5 hg _) λ_ s2 q=>q
def At3[?dz][?cA]{te:TE}{pos':Pos}[?mT][?f2][?KQ][?ev] : ?z3:=by ext cd;apply wpAny_Assign_Name ?oK hs;let#[y,?z,r1,q1]:=_z;show KA I1 hN hi hx r1 (λs2 I2=>#[_,H1,I2,q1]) hf
def Ao[?dz][?cA]{te:TE}{pos':Pos}(hN:X.N.Nodup)[?f2][?KN][?KQ][?ev]:?z3:=At3 hN hi hx he hs hf
universe e9
section
variable{X:Cx}[?aI]
abbrev Ar6(c:TT)(tb:TS):TS:=λD σ H=>∃W:?m2,(∃m,?B8)/\∀m σ H,?B8 → c σ H λb H1=>if ?h2 then ∃N:?V,(?QU (W m' σ' H'))/\tb ?HG σ H1 else ?Ca
private def Yc{c:Expr}{body:?dk}{tc:TT}{tb:TS}[?LH](hc:?vr)(hb:?DJ):PS X (.While c ?fx [] ?n) (Ar6 tc tb):=by
 intro Ae s σ H D I h;have#[W,#[m0,w0],turn]:=h;apply wpAny_While (codeAny_whileLoop (λn s'=>∃σ' H',Bo X Ae σ' H' s'/\W n σ' H') ?_ m0 #[σ,H,I,w0]);rintro n s1 ⟨σ1,H1,I1,w1⟩;apply qo9 hp (E6 (hc Ae s1 σ1 H1 _ I1 (turn n σ1 H1 w1)) λb s2 _z=>?_);let#[H2,I2,q2]:=_z;cases b with
 | true =>
   have#[N,hN,q2]:=q2;rw[if_pos rfl];apply qo9 hp (E6 (hb Ae s2 σ1 H2 _ I2 q2) λf s3 q3=>?_);cases f with
   | next =>
     ext KJ
   | cont =>
     ext KJ
   | brk=>show q3
   | ret v=>show q3
 | false =>
   rw[?M qe9];show qy4 #[σ1,H2,I2,q2]
universe e9
structure It where
 go:?FI
 yld:Nat->Hp->?eB
 stop:?FI
abbrev Pg[?c6](H:Hp)(b:Addr):Prop :=?aN/\?g7/\?ld/\?wV/\?HV
def Bo.fpOk[?nA]{σ:St}[?dA][?aR]{b:Addr}[?m](hb:?w1)(hn:?kS):?yj:=by apply#[hn,qn0 (qb6 I.lt hb),I.nofs hb,?q (qa4 I.sz hb),λx c e z=>?_,λp hp z=>?_];{let#[v,q]:=?jC;show ?MT q.lt ?ID};show ?MT (qc5 (?l5).1) ?ID
structure j9[?c3][?k](tg:Expr)(J:It)[?n4](it:Addr)(tn:?kB):Prop where
 mem:it∈fp
 obj:∀i h,tn i h->∀b∈fp,?AS
 keep:∀i h h',tn i h->(∀b∈fp,∀o,?cW->?jk)->tn i h'
 item:∀(X:Cx),?Fg->X.w=w->?nn->?jX->∀(i:Nat) [?aC] [?ir],?W->?ra->?q0->?og →
  ?j ?en ?t ?B2 (λr s1=>∃u,r=?aE ∧
   ?j ?en ?t ?AU (λ_ s2=>?Pe (J.yld i H) (tn ?I ?qB)) E s1) E s
 done:∀(X:Cx),?Fg->X.w=w->?nn->?jX->∀(i:Nat) [?aC] [?ir],?W->?ra->?q0->?nU →
  ?j ?en ?t ?B2 (λr s1=>r=none/\?Ll H s1) E s
 self:∀(A:Around) (i:Nat) [?ij],?q0->Q ?ct s->?Lr ?en (?sR ?ct)
meta abbrev TI:=?Pq ?oM
abbrev PIE[?c6](σ:St)(tg:Expr)[?dy](itv:Value)(s2:Shared):Prop :=∃(it:Addr) (fp:?aL) (tn:?kB) (J:It) (H':Hp),itv=?ct/\?IS/\?Fx/\tn 0 ?qB/\?GR/\R J H'
abbrev PI(X:Cx)(tg iter:Expr)(wi:TI):Prop :=∀[?aC] [?dy],?W->wi σ H R → ?Lj ?Hb (λv s1=>?j ?y ?t (?sR v) ?Fs ?D s1)
def lY{M:Model}[?aH][?aG][?aR]{tg:Expr}{it:Addr}[?aq]{o:Obj}{n:String}{vs:?bA}[?it](ho:?EQ)(hc:o.cls=?pM)(hd:o.data=?fY vs) (hn:?Lo n=false) (hQ:Q () s):?Lr M ?AU:=by unfold letOwnedTupleGo;cases tg<;>first| show ?rn| (cases u<;>first| show ?rn| (apply ?l (wpAny_load ho ?_);rw[hc,hd];exact ?j M A (if ?Q2 (?Lo n&&vs[0]?==?h (?nb _)) then _ else _) Q E s;rw[?M (by intro h;rw[hn,Bool.false_and]at h;cases h)];show ?rn))
abbrev Itl[?k][?b7]:It :=#[?NC ?cp,?No ?cp,?NX ?cp]
abbrev Itt[?k][?b7]:It :=#[?NC ?bF,?No ?bF,?NX ?bF]
abbrev Itr(lo:Int)(n:Nat):It:=#[λi _=>i<n,λi H x H'=>H'=H/\x=?iW,λi _=>n<=i]
def SJ[?c1]{tg:Expr}(a it:Addr):?Md ?eI ?wZ where
 mem:=?v
 obj:=λi h st b hb=>by
  ext md
  ext KZ
 keep:=?Ay
 item:=by
  ext cb;ext KM;ext ex;apply wpAny_pyNext_list_item st ?ad (x:=u) ?jS ?Aa;ext K7;show(?MX ?vA)
 done:=by
  ext cb;ext Kv;ext ex;let hl:=rv.length;show wpAny_pyNext_list_end ?cG st ?ad ?hc ?s9
 self:=?Mc wpAny_pyIter_listiter st
def mZ[?c1]{tg:Expr}(a it:Addr):?Md ?eq (h.IsTupleIter it a i) where
 mem:=?v
 obj:=λi h st b hb=>by
  ext md
  ext KZ
 keep:=?Ay
 item:=by
  ext cb;have ?vw:=hg;have ?fO:=?eR;have ?f9:=?fH hx;ext ex;apply wpAny_pyNext_tuple_item st ?xi (x:=u) ?jS ?Aa;ext K7;show(?MX (?Q7 ?uo))
 done:=by
  ext cb;have ?CY:=hg;have ?fO:=?eR;ext ex;let hl:=rv.length;show wpAny_pyNext_tuple_end ?cG st ?xi ?hc ?s9
 self:=?Mc wpAny_pyIter_tupleiter st
def MZ[?c1]{tg:Expr}(it:Addr)(lo:Int)(n:Nat):?Md ?fV (?y7 h it (lo+?pJ*1) (?bT-?pJ) 1) where
 mem:=?v
 obj:=λi h st b hb=>by
  ext md
  subst e
  show#[_,st,λv z=>by
   let z':?tH:=z;cases z']
 keep:=λi h h' st k=>k it ?v _ st
 item:=by
  ext cb;ext ex;let W:=Walks.range (prog:=X.prog) (w:=X.w) ?cG it lo 1 n;apply W.item i s _ _ hg st λv h' tk hv st' kk=>?_;let ?bd:=hv;let I1:?uA:=?kD (?Qi (kk b o ?ef e)) f0 f1 f3 f4 f5;apply#[?aS,lY (s:=?xz) (n:="range_iterator") st' ?g ?g ?ab #[?iW,H,I1,#[t,?_],?Jb,st',?lo]];rw[qm5]
 done:=by
  ext cb;ext ex;show wpAny_pyNext_range_end ?cG st (by let:n<=i:=hg;ext d) ?s9
 self:=?Mc wpAny_pyIter_rangeiter st
section
variable{X:Cx}{tg:Expr}
inductive yX[?k][?dy](x:V)(H1:Hp):Prop| mk:∀a,?bn->?qX->?On ?eI ?FF
abbrev An3[?k](tl:TE):TI:=?O7 ?FF
inductive Ap9[?k][?dy](x:V)(H1:Hp):Prop| mk:∀a,?bn->((∃xs,SqT K H1 a xs))->?On ?eq ?Ar
abbrev Bh9[?k](tl:TE):TI:=?O7 ?Ar
def Aa2{l:Expr}{tl:TE}[?n6]:?NL An3 ?u:=by
 ext ge;ext LD;ext bX;let ?CR:=q1;subst e;cases r1;let ?fO:=?k4 hq;apply qs3 ?ad ?_;apply(?QC SJ);ext LA
 ext tU
def At6{l:Expr}{tl:TE}[?n6]:?NL Bh9 ?u:=by
 ext ge;ext LD;ext bX;let ?CR:=q1;subst e;cases r1;let ?fO:=I1.tuple hq;apply qo6 (?PO s1.heap.IsTuple) ?_;apply(?QC mZ);ext LA
 ext tU
def kT[?T]{R:?oM}[?aG]{lo hi:Int}{t u v:Tok}{tk:Nat}[?m](h1:-?bg<=lo)(h2:lo<?bg)(h3:-?bg<=hi)(h4:hi<?bg) (q:R (Itr lo ?om) H):?j ?y ?t (?sR ?ai) ?Fs E ?Bc:=by apply wpAny_pyIter_range (IsRange.new ..) (small_one h1 h2 h3 h4) ?_;let I1:?Ll H ?Bc:=?i7 ?mO;apply#[?ru,[?ru],_,_,H,?g,?nf (t':=tk) ?mO,MZ _ lo ?om,?_,?eW,q];{(let e1:?GC=lo:=?v);(let e2:?Ds=Builtin.Range.rangeSize lo hi 1:=by rw[rangeSize_one];split<;>ext d);exact ?y7 _ _ ?GC ?Ds 1;rw[e1,e2];show ?cl};(let e:b=?ru:=?ef);ext tU
inductive YW[?dy][?ah](H1:Hp):Prop| mk:∀j:Int,(vs=[?fn])->?CV->(j<?bg)->?On (Itr 0 j.toNat) ?Hn
abbrev Bi1(ta:TA):TI:=?M6 ?Hn
inductive yW[?dy][?ah](H1:Hp):Prop| mk:∀i j:Int,(vs=?ne)->((-?bg<=i/\i<?bg/\?CV/\j<?bg))->?On (Itr i (j-i).toNat) ?vE
abbrev Bi0(ta:TA):TI:=?M6 ?vE
def Cr{a:Expr}[?Kr](ha:?BT)[?Kc]:?QW [a] Bi1:=by ext ge;apply ?Mt ?yb ?J7;let ?kg:=_z;let#[j,e,q1,q2,q]:=q1;subst e;cases r1 with| cons r rr =>cases rr;ext e0;show call_range_1 (kT I1 ?i ?i q1 q2 (by simpa using q))
def fU{a b:Expr}[?Kr](ha:?zD)[?K6] : ?QW ?bV Bi0:=by ext ge;apply ?Mt ?yb ?zX;let#[i,j,e,#[q1,q2,q3,q4],q]:=q1;subst e;cases r1 with| cons r rr =>cases rr with| cons r' rr =>cases rr;ext e0;let ?oE:=r';show call_range_2 (kT I1 q1 q2 q3 q4 q)
abbrev Bz2(wi:TI)(g:TG)(tb:TS):TS:=?Mg wi (λJ H1=>∃W:?dI,(∃m,W 0 m σ H1)/\∀i m σ H,?dX → (?nU/\?bl)\/(?og/\∃N:?V,?dg/\∀x H',?CH->?dR))
abbrev bX[?n4][?ba]:Bl:=fp.filterMap λb=>(?iZ).map λo=>?lD
def Q6[?cg][?az][?gk](hb:b∈fp)(e:?cW):?lD∈bX fp h:=List.mem_filterMap.mpr #[b,hb,by rw[e];rfl]
def TH[?cg][?az]{p:?FV}(hp:p∈bX fp h):p.1∈fp/\?cR p.1=?h p.2:=by let#[b,hb,e]:=List.mem_filterMap.mp hp;cases q:?iZ with| none=>rw[q]at e;cases e| some o =>rw[q]at e;let e':?lD=p:=qb0 e;subst e';show#[hb,q]
def Bo.pinned[?T][?cg][?m][?ez](ho:?Dp):?OB X (Ae++bX fp ?F) :=?xt (?PB ?D0 (λz=>by have#[hb,e]:=TH z;have#[f0,f1,f2,_]:=hf p.1 hb;have#[o,e',d]:=ho p.1 hb;rw[e]at e';cases e';show#[e,f0,f1,f2,d]))
def Bo.unpinned{Ae pl:Bl}[?bZ][?aR](I:?OB X (Ae++pl)):?W:=?xt λp hp=>?fy p (qh2 _ (qo8 _ hp))
def Ch{iter:Expr}{body:?dk}{wi:TI}{g:TG}{tb:TS}[?aI][?LH][?bY](hi:?HQ)(hg:?FB)(hb:?DJ) [?tS]:PS X (.For tg iter ?fx [] ?n) (Bz2 wi g tb):=by ext cd;apply wpAny_For ?nX hs;have#[?Ld,W,?FK,turn]:=h2;subst e;let NG:∀{H':Hp},?eZ->?GR:=?PL ((f2 b hb).2);apply codeAny_forLoop_any (λn s'=>∃i σ' H',?CG/\?Hr/\?eZ/\W i n σ' H') ?_ m0 #[0,σ,H2,I2,st2,?OL ((f2 b hb).1),w0];rintro n s3 ⟨i,σ3,H3,I3,st3,ZI,w3⟩;rcases turn i n σ3 H3 w3 with⟨stop,qn⟩|⟨go,N,hN,step⟩;{apply ?MO T.done stop;let ?vj:=_z;subst hr;show qy4 #[σ3,H3,I4,qn]};apply ?MO T.item go;let ?uf:=_z;subst hr;apply qo9 hp (E6 h4 ?FM);ext KO;apply qo9 hp (E6 (?Ns σ3) ?An);let#[σ6,H6,I6,q6]:=_z;apply qo9 hp (E6 (hb _ s6 σ6 H6 _ I6 q6) λf s7 q7=>?_);(let again:∀{σ7:St}{H7:Hp},Bo X (Ae++?x9) σ7 H7 s7->N σ7 H7->∃m,m<n/\∃i σ' H',Bo X Ae σ' H' s7/\?B5/\?eZ/\W i m σ' H':=λ{σ7 H7} I7 n7=>by have ?HB:=hN σ7 H7 n7;apply#[m',hm,?I,σ7,H7,?jQ,?ub,?eW,w7];have ?BK:=?Hm;ext Ky);cases f with| next=>let ?IN:=q7;show ?x5| cont=>let ?IN:=q7;show ?x5| brk=>let#[σ7,H7,I7,q7]:=q7;show#[σ7,H7,?jQ,q7]| ret v=>let#[x7,σ7,H7,I7,r7,q7]:=q7;show#[x7,σ7,H7,?jQ,r7,q7]
universe e9
def for_list[?du][?ii][?L3] [?K8] : ∃W:?dI,?Po ?eI ?eI ?eI:=?xD
def RA[?du][?ii](hl:?MY ?dS ?bF) [?K8] : ∃W:?dI,?Po ?eq ?eq ?eq:=?xD
def De{lo:Int}{n:Nat}[?ii] (hs:∀i σ H,i<n->?be->g ?iW σ H ?kI) (hd:?y8) : ∃W:?dI,?Po ?fV ?fV ?fV:=by ext KW;rintro i m σ H ⟨rfl,hi,p⟩;cases hlt:i<n;{apply ?MF hlt ?JH;let ?ji:=y;subst e y;show hs i σ _ hlt p};ext me;show ?x #[?a4,?Cn]
meta abbrev R2:=V->?hI
abbrev Xv(X:Cx)(f:?wK)(r:R2):Prop :=∀[?aC] (x y:V) (v u:Value) (Q:VK),?W->?dU->?QO ?hl ?xf ?rF
abbrev UnR(X:Cx)(f:?ng)(r:?hI):Prop :=∀[?aC] (x:V) (v:Value) (Q:VK),?W->?QO ?dU (r x H Q) (f v)
abbrev F3(X:Cx)(f:Value)(r:?cE):Prop :=∀[?aC] [?aQ] [?cf] (Q:VK),?W->?QO ?bN ?GW (call f us)
abbrev tOp(r:R2)(ta tb:TE):TE:=?Li ta (?QH (r x y H2 Q))
abbrev tUn(r:?hI)(ta:TE):TE:=?Li ta (r x H1 Q)
inductive IrI(C:?si)[?n3][?c2]:Prop| mk:∀i j,?jf->?ug->(C i j)->?F6->?wk
abbrev rI(C:?si)[?n3]:R2:=?M4 ?wk
inductive Bp2[?n3][?c2]:Prop| mk:∀i j,?jf->?ug->?F6->?BC
abbrev rI0[?n3]:R2:=?M4 ?BC
inductive IrU(g:?nI)(x:V)[?b6]:Prop| mk:∀i,?jf->(Q ?iC H)->?wp
abbrev rU(g:?nI):?hI:=λx H Q=>?wp
section
variable[?LZ][?aI]
def A47[?ey]{Ae:Bl}[?aR][?bZ]{R:V->?eB}[?m] (h:ta σ H λx H1=>?QH ?vH) [?bJ][?mn] (hf:∀v u s2 x y H2,?Ll H2 s2->?dU->?hl->?vH->?Ms ?rF ?D s2) : ?Lj ?JT (λv s₁=>?j ?y ?t ?z1 (λu s₂=>?j ?y ?t ?rF Q ?D s₂) ?D ?cU):=by apply ?m8;ext bX;apply E6 ?r6 λu s2 _z=>?_;let ?lP:=_z;show hf v u s2 x y H2 I2 r1 r2 q2
def Be{op:Operator}{r:R2}(ho:Xv X (?e4 op) r)[?ey]:?Ma (.BinOp a op b ?n) ?jW:=?Pz wpAny_BinOp ?C6
def L8{op:UnaryOp}{r:?hI}(ho:UnR X (unaryOp op) r)[?n5]:?Ma (?zP op a ?n) (tUn r ta):=?Pz ?HZ (?Mv ?fW (?R5 ho Q))
def opI[?mn]{C:?si}{g:?uC} (rule:∀[?u1] [?ij],C i j->?GY) : Xv X f (rI C ?A0):=by ext d4;let#[i,j,?C,hc,q]:=h;ext f1;ext U;show rule i j t t' s _ _ hc ?GL
def Bf2[?mn]{g:?uC} (rule:∀[?u1] [?ij],?GY) : Xv X f (rI0 ?A0):=?MP ?GL
def Au6[?mn]{g:Int->?IK} (rule:∀[?u1] [?ij],Q (?cw ?e7) s->?Gh) : ?MM f (.bl ?e7):=?MP #[.bl ?e7,?f7,q]
abbrev Ck8(i j:Int):Prop:=0<j/\?vV
abbrev A67(i j:Int):Prop:=(-?fF<i/\i<?fF)\/(-?fF<j/\j<?fF)
def A67.ok{i j:Int}(h:A67 i j):?qt:=by rcases h with⟨h1,h2⟩|⟨h1,h2⟩;{show .of_left ?xI};show .of_right ?xI
def C5:?MM ?fd (?p (i+j)):=?MA Bf2 add_int
def Gq:?MM (?e4 .Sub) (?p (i-j)):=?MA Bf2 sub_int
def Ky:?Me ?Cd Ck8 (i / j):=?Oe (by let h1:?h9<j:=hc.1;let h2:?vV:=hc.2;show ?F2 ?i (?Qq qg6) (?x (PyProof.noPylong_small ?i)))
def Fy:?Me (?e4 .Mod) (λ_ j=>0<j) (i%j):=?Oe (by let h1:?h9<j:=hc;show mod_int' ?i (?Qq Int.fmod_eq_emod_of_nonneg))
def unI{f:?ng}{g:?Ek} (rule:∀(i:Int) (t:Tok) [?ij],Q (?p ?iC ?ht) ?fz->?Ms (f ?i4) E s) : ?Pf f ?iC:=by intro Ae s σ H x v Q I rx h;let ?wM:=h;ext f1;show rule i t s _ _ #[?p ?iC,?go,q]
def Hr:?Pf (unaryOp .USub) (-i):=unI λ_ _ _ _ _ q=>neg_int q
universe e9
abbrev scal:V->V->?cO| ?O,?O=>true | ?O,?co=>true | ?co,?O=>true | ?O,?dK=>true | ?dK,?O=>true | ?O,?bo=>true | ?bo,?O=>true| ?co,?co=>true | ?dK,?dK=>true | ?bo,?bo=>true | .byt _,.byt _=>true| ?co,?bo=>true | ?bo,?co=>true | ?dK,?bo=>true | ?bo,?dK=>true| _,_=>false
structure Ck4[?c2]:Prop where
 mk::(left:?u7) (right:?Pt ?xe)
abbrev rEq:R2:=?M4 (Ck4 x y H Q)
structure Ck3[?c2]:Prop where
 mk::(left:?u7) (right:?Pt (! ?xe))
abbrev rNe:R2:=?M4 (Ck3 x y H Q)
def RG{i j:Int}:?P6 i j=?pm:=?rO
def yC{i j:Bool}:?G (V.bl i=V.bl j)=?pm:=?rO
def rG{i j:Str}:?G (V.str i=V.str j)=?pm:=?rO
def rH{i j:?Jf}:?G (V.byt i=V.byt j)=(i.toList==j.toList):=by rw[qn9];cases i;cases j;simp
section
variable[?LZ][?aI]
def Db[?T]{Q:VK}{k k':Bool}[?m](q:Q ?jG H)(e:k=k'):?MG (?cw k') s:=by subst e;show#[?jG,?f7,q]
def Eh:Xv X (?cq .Eq) rEq:=by
 intro Ae s σ H x y v u Q I rx ry h;let#[hs,q]:=h;cases x with
 | non =>
   cases rx;cases y with
   | non=>cases ry;show PySem.EqNone.eq_none_none ?a6
   | bl j=>cases ry;show PySem.EqNone.eq_none_bool ?a6
   | int j=>ext U;show PySem.EqNone.eq_none_int ?a6
   | str j=>ext U;show PySem.EqNone.eq_none_str ?a6
   | _=>ext cc
 | bl i =>
   cases rx;cases y with
   | non=>cases ry;show PySem.EqNone.eq_bool_none ?a6
   | bl j=>cases ry;show ?Qg eq_bool yC
   | str j=>ext U;show PySem.EqMixed.eq_bool_str ?a6
   | _=>ext cc
 | int i =>
   let#[t,rfl]:=rx;cases y with
   | non=>cases ry;show PySem.EqNone.eq_int_none ?a6
   | int j=>ext U;show ?Qg eq_int RG
   | str j=>ext U;show PySem.EqMixed.eq_int_str ?a6
   | _=>ext cc
 | str i =>
   let#[t,rfl]:=rx;cases y with
   | non=>cases ry;show PySem.EqNone.eq_str_none ?a6
   | bl j=>cases ry;show PySem.EqMixed.eq_str_bool ?a6
   | int j=>ext U;show PySem.EqMixed.eq_str_int ?a6
   | str j=>ext U;show ?Qg eq_str rG
   | _=>ext cc
 | byt i =>
   let#[t,rfl]:=rx;cases y with
   | byt j=>ext U;show ?Qg PySem.W.eq_bytes rH
   | _=>ext cc
 | _=>ext Km
def Ja:Xv X (?cq .NotEq) rNe:=by
 intro Ae s σ H x y v u Q I rx ry h;let#[hs,q]:=h;cases x with
 | non =>
   cases rx;cases y with
   | non=>cases ry;show PySem.EqNone.ne_none_none ?a6
   | bl j=>cases ry;show PySem.EqNone.ne_none_bool ?a6
   | int j=>ext U;show PySem.EqNone.ne_none_int ?a6
   | str j=>ext U;show PySem.EqNone.ne_none_str ?a6
   | _=>ext cc
 | bl i =>
   cases rx;cases y with
   | non=>cases ry;show PySem.EqNone.ne_bool_none ?a6
   | bl j=>cases ry;show ?Mi ne_bool yC
   | str j=>ext U;show PySem.EqMixed.ne_bool_str ?a6
   | _=>ext cc
 | int i =>
   let#[t,rfl]:=rx;cases y with
   | non=>cases ry;show PySem.EqNone.ne_int_none ?a6
   | int j=>ext U;show ?Mi ne_int RG
   | str j=>ext U;show PySem.EqMixed.ne_int_str ?a6
   | _=>ext cc
 | str i =>
   let#[t,rfl]:=rx;cases y with
   | non=>cases ry;show PySem.EqNone.ne_str_none ?a6
   | bl j=>cases ry;show PySem.EqMixed.ne_str_bool ?a6
   | int j=>ext U;show PySem.EqMixed.ne_str_int ?a6
   | str j=>ext U;show ?Mi ne_str rG
   | _=>ext cc
 | byt i =>
   let#[t,rfl]:=rx;cases y with
   | byt j=>ext U;show ?Mi PySem.W.ne_bytes rH
   | _=>ext cc
 | _=>ext Km
def Yi:?MM (?cq .Lt) (.bl (?G (i<j))):=?MA Au6 lt_int
def QF:?MM (?cq .LtE) (.bl (?G (i<=j))):=?MA Au6 le_int
def kZ:?MM (?cq .Gt) (.bl (?G (j<i))):=?MA Au6 gt_int
def Au4:Xv X (?cq .Is) (?M4 (y=?O/\?Pt (?G (x=?O)))):=by ext d4;let#[?g,q]:=h;cases ry;apply ?Qg is_none_gen ?_;cases x<;>first| (cases rx;rfl)| (ext f1;rfl)
def Bj(b:Expr){op:CmpOp}(h:?o ?Eo ?e9)(h2:?o ?IC ?e9):?of:=by
 ext KR
 ext KK
 cases b<;>simp[behindInMarks,e1,e2]
def Fq{op:CmpOp}{r:R2}[?tr][?ey][?Lf]:?Ma ?yT ?jW:=by ext a0;show wpAny_Compare1 ?C6 hm
inductive YO[?gf](x:V)(H':Hp):Prop| mk:∀k,(x=?jG)->(Q k H')->?I1
abbrev Bb7(t:TE):TT:=?Lp (λx H'=>?I1)
def Bh{op:CmpOp}{r:R2}[?tr][?ey][?Lf]:PT X ?yT (Bb7 ?jW):=by ext a0;apply wpAny_isTrue_Compare1 (?Mv ?fW (?QX (λc s3 ?DY=>?_))) hm;subst e;cases r3;show ql9 ?FP
inductive RY(r':R2)(tc:TE)(σ:St)(Q:VK)(y:V)(z:V)(H3:Hp):Prop| mk:∀k,(z=?jG)->((if ?Q2 k then tc σ H3 λw' H4=>r' y w' H4 Q else Q ?m6 H3))->?xq
abbrev As1(r r':R2)(ta tb tc:TE):TE:=?Li ta (?QH (r x y H2 λz H3=>?xq))
def WB{op op':CmpOp}{r r':R2}[?tr](ho':Xv X (?cq op') r')[?ey](hc:?Ma c tc) (hm:lastMarks ?FN ?mB=false:=by with_unfolding_all rfl):?Ma (?Fp a ?FN ?mB ?n) (As1 r r' ta tb tc):=by ext a0;apply Compare_chain (?Mv ?fW (chain_link (?QX (λd s3 ?DY=>?_)))) hm;subst e;cases r3;apply ?pC;cases k with| false=>show ite_ff #[?m6,H3,I3,?g,q3]| true=>show ite_tt (chain_last (E6 (hc Ae s3 σ H3 _ I3 q3) λw' s4 #[z',H4,I4,r4,q4]=>ho' Ae s4 σ H4 y z' u w' Q I4 r2 r4 q4))
def IZ:?sv<?dm:=?Gw
def Xy{x:V}[?aD](r:?Gn):?Ii:=by cases r with| cons r1 r2=>cases r2;show#[?aS,r1]
def BD{x y:V}[?aD](r:?aA [x,y] us):∃u w',us=[u,w']/\?bq/\?bs y w':=by cases r with| cons r1 r2 =>cases r2 with| cons r3 r4=>cases r4;show#[_,?aS,r1,r3]
def HB[?bY]:?Lw ?DB (∃i j,xs=?ne/\?Qr (if j > i then j else i)):=by ext dt;have ?vn:=h;have ?EH:=BD r;apply max_two_ints ?cG ?H5;cases hj:j > i;ext KP
def uL[?bY]:?Lw ?ww (∃i j,xs=?ne/\?Qr (if j<i then j else i)):=by ext dt;let ?vn:=h;let ?EH:=BD r;apply min_two_ints ?cG ?H5;cases hj:j<i;ext KP
universe e9
structure pI[?ba](x dx C:Addr)(mA:?bv):Prop where
 obj:?cR x=?h ?nH
 ns:?pw
 ne:?rc
private def TL[?az]{dx:Addr}[?ty](n:?pw):∃od,?cR dx=?wO/\?xw:=by have#[o,?aa,ho,hd,hk,_,hm]:=n;apply#[o,ho,λname=>?_];let e:=hm ?ac;unfold nsFind findBy at e;rw[←Array.find?_toList]at e;unfold PySem.W.lookIn;rw[hd];dsimp only;split;{rename_i y q;rw[q]at e;show ?wn};rename_i q;rw[q]at e;(let a:?Dm (·.refKey)=false:=by rw[List.any_eq_false];intro y hy;let#[z,t,hkey]:=hk y (Array.mem_toList_iff.mp hy);simp[DictEntry.refKey,hkey]);(let a':¬?Dm (·.refKey)=true:=by rw[a];show qe9);rw[?M a'];show ?wn
def pI.look[?az]{x dx C:Addr}[?ty](I:pI h x dx C mA):∃od,PySem.W.InstAt h x ?nH C ?wO/\?xw :=
 let #[od,ho,hl]:=TL I.ns
 #[od,#[I.obj,?C,ho],hl]
section
variable[?gb][?aG][?aR][?a5]{x dx C f:Addr}[?ty]{name:Str}[?f6]
def Ae4{expr:Bool}[?bJ][?Ka][?LY] (ha:?Ee=?iT) (hv:?qr=?a2) (hv':?ui v=true) (h:Q v ?fz) : ?Lr ?b4 (?o0 ?cn ?ac expr):=by let ?o9:=I.look;show PySem.W.get_value X J (qx8 hg).1 (PySem.W.findObj_own hh ha ?g (by rw[hl,hv])) hv' h
def XS[?L8][?Ka] (hf:?Ee=?je) (ht:?qg) (hv:?qr=none) (h:Q (?bD,[?cn]) s) : ?Lr ?b4 (?pi ?cn ?ac pl):=by let ?o9:=I.look;show PySem.W.method_fn X J (qx8 hg).1 (qx8 hg).2 hf (qz2.mp ht) (by exact(?JB).map (·.isSome)=?h ?bb;rw[hl,hv];rfl) h
def zT{ns:?X}[?it](X:?i2)(I:?yy) (hs:?MR K) (hp:?J3) (ht:?yL K C ?ac=?iT) [?LY] (hw:?p2 mA ns) (hsz:?xN) (h:∀h',pI h' x dx C (λy=>if y=name then ?a2 else mA y)->?fK dx ?F h'->Q () { s with heap:=h',toks:=s.toks+2 }) : ?Lr ?b4 (setAttr ?cn ?ac v):=by have ?o9:=I.look;apply PySem.W.set_plain X J hs (PySem.W.osa_open (s:=?fz) (r:=none) X J hp ht ?yE);have#[cd,hc,hd']:=PySem.W.any_some hh;let hx:?b1 x=?h #[?ax,?h dx,.plain,#v[]]:=I.obj;apply ?Qm qc0 (?l (?l (wpAny_loadPart hx (?l (PySem.W.Looks.here (s:=?fz) (PySem.W.looks_clsIn X hc) ?_)))));rw[hd'];apply qc0 (a:=?h dx) (?Qm qc0 ?e8);apply wpAny_nsSet1 (s:=?fz) I.ns λh' hn2 hs2=>?_;have#[oD,esD,epD,hoD,hdD,hcD]:=hn2.count (PySem.Within.cons ?ac v hw);apply ?l (wpAny_lookBehind hoD (by rw[hdD];show pastItsLine_dict (qa4 hcD (by rw[qd9];ext d))) ?_);show qc0 (h _ #[(hs2.2 _ (?fI I.ne)).trans I.obj,hn2,I.ne] hs2)
def WW{R:?nN}[?ix][?mr](X:?i2)(hm:?zJ) (hi:?R0 ?je) (hf:PySem.W.typeIn K ?bD=?h (?aj "function")) (h:?dZ ?b4 (?Nq vs) (?mL ?bD #[?L ?aK::vs,kw]) (PySem.W.InitBack ?aK R) ?JU) : ?dZ ?b4 A (?mL ?ax #[vs,kw]) R s:=by let#[hh,g,d,t,os]:=s;show PySem.W.make_core (PySem.W.makes_of X hm) (PySem.W.looks_findIn X hi) (λself=>PySem.W.bind_fn X self hf) ?b0 h
universe e9
abbrev putF(f:Str)(v:V):?cH->?cH| []=>[(f,v)]| (g,x)::r=>if g=f then(g,v)::r else(g,x)::?yS
def Ar(f g:Str)(v:V):∀fs:?cH,(?sj).lookup g=if g=f then ?a2 else ?rH g| []=>by exact List.lookup g [(f,v)]=_;cases h:g=f;{let hb:?Q2 ?yH:=qz2.mpr h;simp only[List.lookup,hb,?hr]};let hb:?Nc ?yH:=ql6.mpr h;simp only[List.lookup,hb,?gS]| ?kY=>by let ih:=Ar f g v r;ext tO;{rw[?fT];cases h:g=k;{let hb:?uL:=qz2.mpr h;simp only[List.lookup,hb,?S (h.trans hk)]};let hb:?AQ:=ql6.mpr h;simp only[List.lookup,hb,?M (λe:g=f=>h (e.trans hk.symm))]};rw[?eA];cases h:g=k;{let hb:?uL:=qz2.mpr h;simp only[List.lookup,hb,?M (λe:g=f=>hk (h.symm.trans e))]};let hb:?AQ:=ql6.mpr h;simp only[List.lookup,hb];show ih
def f7(f:Str)(v:V):∀fs:?cH,f∈?EP (·.1)/\∀g,g∈?lF (·.1)->g∈?EP (·.1)| []=>#[?HL,λg h=>?dO]| ?kY=>by let#[i1,i2]:=f7 f v r;ext tO;{rw[?fT];subst hk;show#[?v,λg h=>?pE]};rw[?eA];apply#[?_,λg h=>?_];{rw[qc8];show ?Qa i1};rw[qc8]at h ⊢;ext to;{show qe0.mpr ?o5};show ?Qa (i2 g e)
def Co(f:Str)(v:V):∀fs:?cH,?yG<=fs.length+1| []=>?HL| ?kY=>by let ih:=Co f v r;ext tO;{rw[?fT,qd9,qd9];ext d};rw[?eA,qd9,qd9];ext d
def Qj.some_of{v:V}{o:?iN}(r:Qj ?a2 o):∃u,o=?aE/\?cQ:=by cases o with| none=>show ?H8| some u=>show#[u,?g,r]
def Qj.none_of{o:?iN}(r:Qj ?aT o):o=none:=by cases o with| none=>rfl| some u=>show ?H8
def tZ{v:V}[?aq][?e1]:?ui u=true:=by cases v with| non=>cases (?ME ?on);rfl| bl b=>cases (?ME (u=?e5 b));rfl| int i=>let ?gM:=(?ME ?IW);cases e;rfl| str x=>let ?gM:=(?ME ?IG);cases e;rfl| byt b=>let ?gM:=(?ME ?wd);cases e;rfl| flt b=>let ?gM:=(?ME ?v4);cases e;rfl| ref a=>cases (?ME ?hB);rfl| ty n=>cases (?ME (u=Value.type n));rfl
section
variable[?mx][?dA]{h h':Heap}{a C dx:Addr}{fs fs':?cH}
def jE(hok:?oH)(e:H a=?lJ):∃mA,pI h a dx C mA/\?ou/\?p2 mA (?lF (·.1))/\?Db/\?yl:=by have#[d,z,ne,ob,mA,n,r,q]:=(show ?OR ?oZ from hok a _ e);show#[mA,#[ob,n,ne],r,q,z,d]
universe e9
structure Cls[?k](C:Addr):Prop where
 pg:?Oi Str.empty
 hd:?vR
 po:?J3
 sa:?MR K
def Cls.get[?a5]{C:Addr}(c:?nh)(f:Str):?Oi f:=c.pg
abbrev Ep[?k](C:Addr)(f:Str):Prop:=?Ml f=?iT
def Ep.taker[?a5]{C:Addr}{f:Str}(n:?oj):?yL K C f=?iT:=by unfold PySem.W.takerIn;rw[show ?Ml f=?iT from n];rfl
structure yN[?k][?iw](f:Addr):Prop where
 at_:?Ml m=?je
 fn:?qg
 kp:?hR
section
variable{X:Cx}[?T]{a C dx:Addr}{fs:?cH}{f:Str}{v:V}[?aH][?aG]
def oR{b:Bool}[?bJ][?m][?ta](n:?EJ)(l:?vK) (h:∀u s',?Ll H s'->?cQ->Q u s'):?Lr ?y (?o0 ?K f b):=by have ?EN:=?q9;let ?f9:=Qj.some_of (v:=v) (o:=mA f) (?PE f);show Ae4 ?ao O (c.get f) c.hd n hu (tZ ru) (h u _ ?jq ru)
def Xg{m:Str}{g:Addr}[?L8][?m][?ta](k:?JA)(l:?sr) (h:Q (?L g,?bW) s):?Lr ?y (?pi ?K m pl):=by have ?EN:=?q9;let hn:mA m=none:=Qj.none_of (?PE m);show XS ?ao O (c.get m) k.at_ k.fn hn h
def NJ{y:V}[?aq][?it][?m][?ta](n:?EJ)(hl:?xC)(ry:?hl) (h:∀s',?Ll (?Qh a ?JX) s'->?o6):?Lr ?y (setAttr ?K f u):=by have#[mA,O,r,wi,_,ho]:=?q9;(let hz:(?lF (·.1)).length<=sizeLine:=by rw[qa5,sizeLine_eq];ext d);apply zT ?ao O c.sa c.po n.taker c.hd wi hz λh' O' sb=>h _ ?_;let hd:∃o,?dW dx=?w:=let #[o,_,_,e',_]:=O'.ns;#[o,e'];apply ?rN (x:=a) (e:=dx) (by rw[e];show True.intro) (?q ho) (λb q hb z=>?vb z) hd ?_;apply#[by rw[Aj O.ne];show ho,?_,O.ne,O'.obj,_,O'.ns,λg=>?_,λg hg=>?_];{let:=Co f y fs;ext d};{exact Qj ((?Go).lookup g) ?Fq;rw[Ar];cases q:g=f;{rw[?S q,?S q];show ry};rw[?M q,?M q];show r g};cases q:g=f;{rw[q];show(?GH).1};apply(?GH).2 g (wi g λz=>hg ?_);exact ?Fq=none;rw[?M q];show z
def Bo.made[?m]:?Ll (?s (?Qh ?N ?yg) ?aK ?Hj) ?JU:=by let e1:(?gR).get? ?N=?h ?nr:=qc7 ?F ?g;(let e2:((?gR).push ?l8).get? ?aK=?h ?l8:=by let:=qc7 ?gR (o:=?l8) ?g;rwa [qj2]at this);let e3:(?gR).Ns ?N ?eh:=#[?nr,#v[],_,e1,?g,(λe he=>?P he ?v),?Fj];let I1:=?fv (a:=s.heap.objs.size) (o:=?yg) (h':=?gR) (t':=s.toks) ?y5 ?a4 #[_,e1];apply ?t0 (a:=?aK) (o:=?Hj) (t':=s.toks) ?y5 (qn1 (qj2 _ _)) ?_;let ne:?PC ?aK:=?J1;apply#[by rw[Aj ne,Ab],?gA,ne,e2,?eh,(Heap.Ns1.of_empty e3).at λo q=>?j8,λ_=>True.intro,λy hy=>?P ?g hy]
def Ag0{prog:Program}{w:World}{env:Env}[?cA]{f:Str}[?aI][?aR][?bJ](hb:?oa e f env ?t5=?t5) (h:?j ?b4 A ?t5 (λo s₁=>?j ?b4 A (?o0 o f ?bw) Q E ?cU) E s):?Lr ?b4 (?av ?qo env) :=Attribute_any_ h (by rw[arm_eval_Attribute,hb])
universe e9
inductive ItFld[?k](f:Str)[?gg]:Prop| mk:∀a C dx fs v,?bn->?qd->?nh->?oj->?vK->(Q v H1)->?xA
abbrev Bc1[?k](ta:TE)(f:Str):TE:=?Li ta ?xA
inductive Ao9[?k](f:Str)(D:Ends)(σ:St)(y:V)(x:V)(H2:Hp):Prop| mk:∀a C dx fs,?bn->(H2 a=?lJ)->?nh->?oj->?xC->(?fe σ (?s H2 a ?JX))->?HF
abbrev Bd1[?k](ta tv:TE)(f:Str):TS:=?Mg tv (λy H1=>ta σ H1 λx H2=>?HF)
section
variable{X:Cx}{o e value:Expr}{f:Str}{pos pos' tpos:Pos}{ta tv:TE}
def Au0(he:?Ie)(hb:?Ev):?Ma ?qo (Bc1 ?u ta f):=by ext a0;apply Ag0 hb ?Il;let(?PW v n):=_z;subst ex;obtain rfl:?hB:=rx;show oR I1 ea c n l λu' s2 I2 ru=>#[v,H1,I2,ru,q]
def At4[?LX](hs:?FQ):?Oa ?u:=by ext cd;apply plainObj_wpAny_Assign_Attribute (E6 (?Ls hv _) λu s1 #[y,?z,ry,q]=>E6 (ha Ae s1 σ H1 _ I1 q) λov s2 _z=>?_) hs;let#[x,H2,I2,?u6,ex,ea,c,n,l,q2]:=_z;subst ex;obtain rfl:ov=?ed a:=rx;show NJ I2 ea c n l ry λs3 I3=>#[σ,_,I3,q2]
def Am0{pl:?kC}{m:Str}{apos:Pos}{args:?dM}{Ae:Bl}[?aR][?bZ][?bJ]{te:TE}[?f2][?m]
 (h:te σ H λx H1=>∃a C dx fs g,?bn/\?qd/\?rl/\?JA/\?sr ∧
   ∀s1,?Ll H1 s1->?Ms (?ke ?n (?L g) ?bW ?xX ?lL) ?D s1)
 (ht:?Hx=(do
   let ov ←?fM
   ?gD
   let ?gU ←?g0
   ?NR ?xX)) :
 ?Lj ?Hx Q:=by
 apply ?uJ;let(?PW g k):=_z;subst ex;obtain rfl:?hB:=rx;show Xg I1 ea c k l (q s1 I1)
universe e9
section
variable{X:Cx}[?T][?aH][?aG][?bJ]{c:Value}{b:Bool}
universe e9
structure Ih(k:Nat)(A:Around):Prop where
 hd:?nT
 dp:A.depth+3*k+5<recursionLimit
 un:A.units+16*k+200<cLine
 gd:A.guards=?h []
def Ih.mono{j k:Nat}[?aH](r:?gr)(h:j<=k):Ih j A:=#[r.hd,?A2,?GN,r.gd]
def Ih.deeper{k:Nat}[?aH](r:?y2)(env:Env):Ih k (?l6 env) :=#[r.hd,by let:=r.dp;exact ?FU+3*k+5<_;ext d,by let:=r.un;exact A.units+3+16*k+200<_;ext d,r.gd]
def oJ[?aH]{C:Addr}[?aD][?mr]:(?gx).depth=?FU:=?wI
def lR[?aH]{C:Addr}[?aD][?mr]:(?gx).guards=A.guards:=?wI
def OI[?aH]{C:Addr}[?aD][?mr]:(?gx).units=?yU:=by first | rfl | simp[Around.under,Code.cUnits,Code.frames,Code.isFrame]
def Ih.make{k:Nat}[?aH](r:?y2)(C:Addr)[?cf](kw:?fZ):Ih k ?gx :=#[r.hd,by let:=r.dp;rw[oJ];ext d,by let:=r.un;rw[OI];ext d,by rw[lR];show r.gd]
def Ih.depth{k:Nat}[?aH](r:?gr):A.depth<recursionLimit:=?A2
def Ih.units{k:Nat}[?aH](r:?gr):?NQ 64:=?GN
def Ih.u8{k:Nat}[?aH](h:?gr):?NQ 8:=by let:=h.units;ext d
abbrev tNil:TA:=?Od []
abbrev tCons(ta:TE)(tr:TA):TA:=?Li ta (tr σ H1 λxs H2=>Q ?hW H2)
section
variable{X:Cx}[?cA][?aP]{te:TE}{t:TA}[?aI]
def Ac:PA X [] tNil:=λ_ _ _ _ H Q I h=>Calls.spliced_nil #[[],H,I,?J,h]
def Aa(ha:?sC)(hr:?rm)(hs:?mQ):PA X ?cN (tCons te t):=by intro pos Ae s σ H Q I h;rw[hs];exact ?Lq (spliced (?DL::?qb)) s;apply qr8 (E6 ?fW ?rS);ext bX;show E6 (?O1 hr ?n _) λus s2 #[xs,H2,I2,r2,q2]=>#[?hW,H2,I2,?Y r1 r2,q2]
structure Zs(Q:VK)[?aQ](H1:Hp):Prop where
 mk::(left:?dV) (right:?Lv ?zp H1 ?hX)
abbrev By7(t:TA):TE:=?Lp (λxs H1=>Zs Q xs H1)
structure Bp1(Q:VK)[?aQ](H1:Hp):Prop where
 mk::(left:?dV) (right:?Lv ?zp H1 ?gF)
abbrev Bc0(t:TA):TE:=?Lp (λxs H1=>Bp1 Q xs H1)
def Di{x1}(h:?rm):?Ma (?pc es x1 ?n) (By7 t):=?Pr wpAny_Tuple_spliced ?hX #[z,us,r,?Bi]
def Gc(h:?rm):?Ma (.List es ?n) (Bc0 t):=?Pr wpAny_List_spliced ?gF #[z,us,0,r,?cl]
universe e9
meta abbrev Sp:=?B->?R3 Hp VK XK
meta abbrev ZA:=?ca->Hp->Shared->XK->?ei
structure PK[?c3][?k][?ds](A:Around)[?n2][?c9](H:Hp):Prop where
 frames:A.frames=?h ?ar
 mod:Mod K mg ?b2
 bs:?Mb (base.get? b=?w) ?BX
 bsz:base.objs.size<=s.heap.objs.size
 funs:?k6 ?b2 ?ar
 frf:∀b∈?BO,?aN
 hok:?P1 H ?F
 bare:?GG
abbrev CE[?n2][?c3](H:Hp)[?c9](Q:VK)[?cj][?c8]:Prop :=∃v H',?pP/\?kA/\?Nu ?BO [] ?dG/\?P1 H' ?dG/\?cQ/\?ff
abbrev CR(CX:ZA)[?n2][?c3](H:Hp)[?c9](Q:VK)(E:XK)(r:Result)[?c8]:Prop :=match r with| .ok ?G7=>?AE| .ok _=>False| .error e=>?P2 e s'
structure Bs[?c3][?k][?ds](CX:ZA)(k:Nat)(f:Addr)(fd:FuncData)(ps:?X)(sp:Sp):Prop where
 len:?qO
 run:∀[?tY] (args:Args) [?cf] [?ah] (Q:VK) (E:XK),?gr->?pZ->?qv s fd ?d0 ?fD->?eT->?jJ →
  ?dZ ?en A (?mL ?bD ?d0) (CR CX ?ar P w H s Q E) s
def PK.make[?c1][?im][?aH]{outer:?ca}[?aR]{H:Hp}(e:?pZ)(C:Addr)[?cf](kw:?fZ) : ?OO ?gx:=#[by first | show e.frames | (simpa[Around.under,Code.envs,Code.isFrame,pushEnvs]using e.frames),e.mod,e.bs,e.bsz,e.funs,e.frf,e.hok,e.bare]
section
variable[?nA][?bZ]{s s':Shared}
def Bo.env0[?m]:PK ?ae X.w ?u ?bp ?bS ?t ?de s H :=#[I.ok.frames,I.ok.mod,I.bs,?wB,I.stack,I.stkFree,?bG,?cm]
def Bo.after{Q:VK}[?aq][?m](h:CE ?de ?ae X.w H s Q u s'):?C7:=by let#[v,H',os,bare,un,hok,r,q]:=h;let#[hh,g,d,t,os']:=s';obtain rfl:os'=s.os:=os;show#[v,H',I.call (h':=hh) (g':=g) (d':=d) (t':=t) (ch:=[]) un hok bare (λb z=>?P z ?v),r,q]
universe e9
abbrev tCall[?mp](t:TA):TE:=?Lp (λvs H1=>sp ?er H1 Q E)
inductive YQ[?iw][?mp](t:TA)(σ:St)[?gg]:Prop| mk:∀a dx fs,?bn->?qd->?sr->(t σ H1 λvs H2=>sp (x::?er) H2 Q E)->?FT
abbrev PU[?iw][?mp](ta:TE)(t:TA):TE:=?Li ta ?FT
abbrev Aj4(C:Addr)[?mp](t:TA):TE:=?Lp (λvs H1=>∀x dx,?QR x->?QR dx->?rc → ?Px H1)
abbrev Qn[?k](fd:FuncData)(ps:?X)(ds:?Q):Prop :=∀[?c9] [?cf],?i2->?Bk->?qv s fd ?kq (ps.zip ?ia)
def Qn.all[?a5][?ts](h:∀us:?Q,?Ov fd):?qh:=λs us _ hl=>by rw[List.append_nil]at hl ⊢;show .of_eq (h us hl)
abbrev Xq(CX:ZA)(X:Cx)(E:XK):Prop:=∀(Ae:Bl) (σ:St) (H:Hp) [?c9] (e:Value) [?c8],?W->CX ?de H s E e s'->?D e s'
section
variable[?Lc][?ts]{sp:Sp}{dvs:?B}{ds:?Q}{E:XK}{x m:Str}{p pos apos:Pos}{e o:Expr}[?aP]{ta:TE}{t:TA}
def iK[?T]{Q:VK}[?aD][?e2][?ga][?d5][?il] [?m] [?n7] (h:sp ?er H Q E):?Lj (call ?bD us) ?bu:=by let r2:?aA ?er ?ia:=?ED;(let hl:?Bk:=by rw[←r2.length];show ?Pb F.len h);apply ?Fo (?kf (F.run ?t ?de s H ?kq ?ia ?er Q E hr I.env0 (hb s us ?ao hl) r2 h) ?C3);cases r with| error e=>show hx Ae σ H s e s' I hq| ok fl =>cases fl with| ret u=>show I.after hq| next=>show ?sk| brk=>show ?sk| cont=>show ?sk
def Aa8[?ga][?d5](hg:?gP)(hm:?jn=?nW)(hk:?ql ?u ?bD=true)[?il] [?c4] [?gW] (hpl:?o (?ck (·.1)=false) ?A) : PE X ?hb (tCall sp dvs E t):=by ext a0;apply qv8 ?q5;apply ?NO hk;show iK F hr hb hd hx I1 r q
def Aa5[?mX](hm:?Iy)[?ga][?d5][?il][?c4]
 [?tP] (hpl:?o (?ck (·.1)=false) ?A)
 (ht:?o (?H7=(do
   let ov ←?eb
   ?gD
   let ?gU ←?g0
   ?pf)) ?A) :
 ?Ma ?sp (?QF dvs E t):=by
 ext a0;ext K5;apply qt7 (first:=?bW) (h₀:=X.base) ?l9 hm.kp (E6 (ha ?n Ae s1 σ H1 _ I1 q) λus s2 #[vs,H2,I2,r,q2]=>#[I2.kIn,?_]) hst hpl;show iK (us:=?K::us) (vs:=?K::vs) F hr hb hd hx I2 (?Y ?g r) q2
def wA[?mX](hm:?Iy)[?ga][?d5][?il]
 (ht:?o (?y9=(do
   let ov ←?eb
   ?gD
   let ?gU ←?g0
   ?I3)) ?A) :
 ?Ma ?re (?QF dvs E tNil):=by
 ext a0;ext K5;show PySem.W.callWith_K0 (first:=?bW) I1.kIn hm.kp (iK (us:=?bW) (vs:=?bW) F hr hb hd hx I1 ?EI q)
structure Mk[?k](C f:Addr):Prop where
 makes:?zJ
 init:?R0 ?je
 fn:?qg
 kp:?Pm ?ql ?ax
def VS[?T]{Q:VK}[?aD][?e2](M:?B6)[?ga](hr:?xH)(hb:?zA)(hd:?yr) (hx:?Fn) [?m] [?n7] (h:∀x dx,?NP x->?NP dx->?rc->?Px H) : ?Lj (call ?ax us) ?bu:=by let hq:=h ?aK ?N (?g8 ?jV) ?ek ?J1;let I2:=Bo.made (C:=C) I;let r2:?aA (?iO ?aK::?er) ?w3:=?Y ?g ?ED;(let hl:?Qy ((?nd++ds).length):=by let e:=r2.length;rw[?Pb F.len hq]at e;show e.symm);apply ?Fo (WW (f:=f) ?ao M.makes M.init (qz2.mp M.fn) (?kf (F.run _ ?de _ _ #[?nd,[]] ?w3 _ _ E (hr.make C us []) (I2.env0.make C us []) (hb _ ?nd I2.kIn hl) r2 hq) λr s' hq'=>?_));cases r with| error e=>show hx Ae σ _ _ e s' I2 hq'| ok fl =>cases fl with| ret u =>let#[v,H',I3,rv,ev,q3]:=I2.after hq';subst ev;show#[rv,#[?iO ?aK,H',I3,?g,q3]]| next=>show ?qU| brk=>show ?qU| cont=>show ?qU
def Aa6(M:?B6)[?ga](hr:?xH)[?tb][?il] [?c4] [?gW] (hpl:?o (?ck (·.1)=false) ?A) : ?Ma ?hb (Aj4 C sp dvs E t):=by ext a0;apply qv8 ?q5;apply ?NO M.kp;show VS M F hr hb hd hx I1 r q
universe e9
section
variable[?Lc]{fd:FuncData}{ps ks:?X}{sp:Sp}{E:XK}{x m:Str}{p pos apos kpos:Pos}{e o:Expr}[?aP]{kws:?pu}{te ta:TE}{t tk:TA}{nm:?cK Str}
variable{g:?Q->?Q->?Q}{gV:?B->?B->?B}
universe e9
structure FnScope(N P:?X)(sc:Scope):Prop where
 kind:?jg
 co:?IR
 gen:?GU
 nd:N.Nodup
 pre:N.take P.length=P
 par:?BG
 nofree:?y6
def HH[?mZ]:?Mn ?hg| [],_,_=>rfl| ?II,m,h=>by unfold bindL;rw[HH ?Cx];split;{(let:x≠n:=?Ad);simp[this]};rfl
def Bg{N P:?X}{sc:Scope}(h1:?o ?jg ?lO)(h2:?o ?IR ?lO)(h3:?o ?GU ?lO)(h4:?o (N.Nodup) ?qM)(h5:?o (N.take P.length=P) ?lO) (h6:?o ?BG ?qM) (h7:?o ?y6 ?qM):?t2 N P sc:=#[?a1,h3,h4,h5,h6,h7]
def HK[?mZ]:?Mn ?hs| [],_,_=>rfl| ?II,m,h=>by unfold bindC;rw[HK ?Cx];split;{rfl};(let:x≠n:=?Ad);simp[this]
def HJ[?mZ][?f6]:?MJ (?cX x=?cz) ?hg| [],_,_,_,_,h,_,_=>?dO| ?cS,[],_,_,_,_,h,_=>?dO| p::P,?kv,0,m,nd,h1,h2,hk=>by simp at h1 h2;subst h1;subst h2;exact ?OF ?hg p;unfold bindL;rw[HH ?AK,?fT];simp| p::P,?kv,?I,m,nd,h1,h2,hk=>by exact ?OF ?hg x;unfold bindL;show ?Nd HJ
def HM[?mZ][?f6]:?MJ (?cX x≠?cz) ?hs| [],_,_,_,_,h,_,_=>?dO| ?cS,[],_,_,_,_,h,_=>?dO| p::P,?kv,0,m,nd,h1,h2,hk=>by simp at h1 h2;subst h1;subst h2;exact ?OF ?hs p;unfold bindC;rw[HK ?AK,?eA];simp| p::P,?kv,?I,m,nd,h1,h2,hk=>by exact ?OF ?hs x;unfold bindC;show ?Nd HM
abbrev start(N:?X)[?ah]:St:=vs.map ?h++?bH (N.length-vs.length) ?aT
abbrev OX(CX:ZA)[?c3][?k][?ds](N:?X)(qual:Str)(scope:Scope)(f:Addr)(cd:Value)(A:Around)[?n2][?c9](H:Hp)(E:XK):Cx where
 prog:=P
 w:=w
 K:=K
 mg:=mg
 base:=base
 A:=?DS
 N:=N
 s₀:=s
 H₀:=H
 env:=?hv
 outer:=outer
 stack:=?hv::outer
 ex:=[]
 calm:=true
 fn:=λ_=>true
 pn:=[]
 xe:=λe s'=>?j ?en ?DS (leaving ?hv e) (λ_ s''=>?P2 e s'') (λe' s''=>?P2 e' s'') s'
def MH{sc:Scope}{n:Nat}{x:Str}(h:?rk):∃c,(?Jj n ?gO []).lookup x=?bM:=by let q:=?Fd ?gO n [] ?hm;show Option.isSome_iff_exists.mp q
def tS{CX:ZA}[?c1][?im]{N ps:?X}[?LL][?aH]{outer:?ca}{s s1:Shared}{H:Hp}{E:XK}[?aD][?e2] (S:?D5) (hd:?nT) (e0:?pZ) (hl:?I6) [?n7] (x:InCallC s ?N (?hg ?yt ?fD ?eh) ?JF (?hs ?yt ?fD ?eh) s1) : Bo ?wT [] ?mE H s1:=by (let hpl:ps.length<=N.length:=by let:=?bz ?xT S.pre;rw[qd1]at this;ext d);let#[h1,tk,?g,hk]:=x.done;let noA:∀b:Addr,b ∉ (?wT).ex:=λb z=>?Hy;apply#[#[e0.mod,S.kind,?C,?a4,λy z c h1 h2=>?_,λy hy=>?_,λy c _ h=>?_,λ_=>hd,Around.frames_deeper e0.frames,?q ?Jb,?Av,e0.bs,e0.bsz,λb _ _=>noA b,?Av,e0.funs,e0.frf],?g,e0.bare,?nM hk,#[_,x.toInCall.ns,λi y v h1 h2 h3=>?_],λy c h=>#[_,x.cell y c h],?vi ?a4,λy c h=>?_,λp hp=>?P (show p∈([]:Bl) from hp) ?v,e0.hok.kept hk,?_];{show name_of_addr x.apart (qp4 h1) (qp4 h2)};{let hy:?gy y=?b5\/?gy y=?cY:=hy;rcases hy with hy | hy;{show MH hy};show ?P ?g (S.nofree _ (qp4 hy))};{show ?Hd};{(let hi:?r7:=by unfold start at h2;cases hi:?r7;{show hi};rw[qd5 ?BH]at h2;rw[qv3]at h2;split at h2<;>cases h2);(let ha:?gv:=by unfold start at h2;rw[qd3 ?BH,qa9]at h2;cases e:?ps with| none=>rw[e]at h2;cases h2| some a=>rw[e]at h2;cases h2;rfl);let#[u,hu,rv]:=?eH ha;(let hp:ps[i]?=?gT:=by rw[←S.pre,List.getElem?_take_of_lt ?i];show h1);(let ndP:ps.Nodup:=by rw[←S.pre];show S.nd.sublist (qz4 _ _));apply#[u,rv,?_];rcases S.par y (qa6 hp) with k | k;{show ?x #[k,HJ ndP hp hu k]};let#[c,e]:=MH (n:=?aK) k;apply ?q #[?x k,c,e,?_];let q:=x.cell y c e;rw[HM ndP hp hu (by exact ?gy y≠_;rw[k];decide)]at q;show q};{show ?vi ?Hd};unfold start;exact _=N.length;rw[qc3,qa5,qi1];ext d
private def Bl7{CX:ZA}[?c1][?im]{k:Nat}{f:Addr}{name qual:Str}{params:Arguments}{body:?dk}{scope:Scope}{dV kV doc pm Do ct oc:Value}{an od:OAddr} {osl:Wc}{N ps:?X}{sp:Sp} (lk:?Mf ?zQ) (hcd:?qR) (S:?D5) [?L6] (hbody:∀[?tY] [?ah] (Q:VK) (E:XK),?Qo ?fa (rX ?r4 ?fx t)) : ?Mw CX ?cF ?zQ:=by apply#[len,λA outer s H args us vs Q E hr e0 hb r qV=>?_];let hl:=?Pb len qV;let KX:?i2:=e0.mod.kin.keeps ?G8;let lim:s.heap.NoLimit:=e0.mod.nolimit.keeps ?G8;(let hkind:∀y∈?fD,?gy y.1=?cz\/(?gy y.1=?b5/\((?JF).lookup y.1).isSome=true):=λ#[n,v] hy=>by rcases S.par n (qs6 hy).1 with q | q;{show ?rr};show ?q #[q,?Fd _ _ _ ?rr]);apply codeAny_call_function hr.depth (KX _ _ lk) ?g S.co S.gen ?g (PySem.W.codeRec_of KX hcd) (?Pb hb ?_);apply wpAny_newFunctionEnv_cells S.kind hkind λenv he s1 x=>?_;subst he;apply#[lim.keeps x.toInCall.keep,codeAny_func ?_];let#[t,ht,hq]:=hbody A ?ar s H vs Q E (hr.deeper _) qV;let I:Bo ?r4 [] ?mE H s1:=tS S hr.hd e0 hl r x;apply qm0 (ht [] s1 ?mE H _ I hq) (λfl s' hs=>?_) λe s' hs=>hs;let fin:∀{σ':St}{H':Hp}{v:V}[?aq],Bo ?r4 [] σ' H' s'->?cQ->?ff->?AE :=λ{σ' H' v u} J rv q=>#[v,H',J.os,J.bare,J.base,J.hok,rv,q];cases fl with| ret u =>let#[v,σ',H',J,rv,q]:=hs;show fin J rv q| next =>let(?P8 J):=hs;show fin (v:=V.non) (u:=Value.none) J ?g q| brk =>let ?DI:=hs;show ?d2 q| cont =>let ?DI:=hs;show ?d2 q
section
variable{X:Cx}{x:Str}{p pos:Pos}[?cA][?aP]{t:TA}{id T:String}{r:?cE}
abbrev tCB(r:?cE)(t:TA):TE:=?Lp (λvs H1=>r vs H1 Q)
def Av(hc:F3 X ?jM r)(hm:?sc)(hv:?lz=?GD)[?c4][?LQ][?mV][?gW] (hpl:?o (?ck (·.1)=false) ?A):?EU:=?MH PyProof.Rows.callWith_builtin1
def B8(hc:F3 X ?sK r)(hg:?gP)(hm:?sc)(hv:?lz=?h ?sK)[?c4][?mV][?gW] (hpl:?o (?ck (·.1)=false) ?A):?EU:=?MH qh8
universe e9
universe L2
namespace HT
open PySem PyProof.Rows
section
open PySem.SeqAt
open PySem.AutoSeq1 (wpAny_loadPart')
open PySem.MeetsSeq PySem.MeetsSeq2 PySem.MeetsSeq3
universe e9
section
variable[?gb][?aG][?aR]
def cat_tup{t b:Addr}{vs ws:?Q}[?bJ](ht:?i5 ?F t ?gB)(hb:?i5 ?F b ?oc)(hv:vs≠[]) (h1:ws=[]->Q ?gE s) (h2:ws≠[]->?OZ ({ cls:=?bO,data:=?aM ?zN })) (hsz:?Lx (vs.length+ws.length)):?Lr ?b4 (?e4 .Add ?gE ?as):=by have ?FC:=id ht;have ?xm:=id hb;ext L1;(let e:vs.toArray++ws.toArray=?zN:=?v);cases hw:ws=[];{show ?MQ (tuple_addW1 t b ?gB ?oc n n2 dd dd2 sl sl2 ?hJ (by simp[hw])) #[ho,ho2,h1 hw]};apply ?MQ (tuple_addW2 t b ?gB ?oc n n2 dd dd2 sl sl2 ?hJ (by simpa using hw) (by rw[qc9,qc9];show hsz)) ?vU;rw[e];show h2 hw
abbrev sIx(n d:Nat):?bj->Nat| none=>d| ?a2=>?sN
def sIx_none(n d:Nat):sIx n d ?aT=d:=rfl
def sIx_nat(n d k:Nat):sIx n d ?t9=min k n:=by exact(if ?fb<0 then(?fb+?bT).toNat else min (k:Int).toNat n)=min k n;rw[?dJ,qc4]
def As6(n d:Nat)(hd:d<=n)(o:?bj):sIx n d o<=n:=by cases o with| none=>show hd| some v =>exact ?sN<=n;cases hv:v<0;{rw[?S hv];ext d};rw[?M hv];show ?jv
def RL(v:Int)(n d:Nat):?HC=((sIx n d ?a2:Nat):Int):=by exact ?HC=((?sN:Nat):Int);cases hv:v<0;{simp only[?S hv];ext d};simp only[?M hv];first | show zn2 hv | ext d
def pF[?gh](n:Nat):?Iu=(?kt,?Ha):=by let h1:¬(?eQ<0):=?i;unfold Builtin.Slice.sliceAdjust;simp only[h1,if_false];apply Prod.ext ?_ ?_;{cases lo with| none=>rfl| some v=>show RL v n 0};cases hi with| none=>rfl| some v=>show RL v n n
def NT(i j:Nat):?sy ?hf ?qJ 1=j-i:=by unfold Builtin.Slice.slicePlaces;let h1:?eQ > 0:=?i;simp only[h1,if_true,Int.ediv_one];split<;>ext d
def bP[?f6]{o:?bj}{Q:?bj->?ea}(p:?kX v o)(h:Q o s):?Lr ?b4 (Builtin.Slice.slicePartIndex v):=by cases p with| none=>show ?Fe h| int i t=>show slicePart_int h
def Zy{sl:Addr}[?La]{n:Nat}{Q:Int × Int × Nat->?ea}[?Kd] (h:Q (?kt,1,?yZ-?JK) s):?Lr ?b4 (Builtin.Slice.sliceApplied ?k5 (?aF ?bT)):=by let ?I0:=id hs;unfold Builtin.Slice.sliceApplied Builtin.Slice.sliceFields;apply ?Qm ?l (qi2 hos hds (x:=vl) ?g (?l (qi2 hos hds (x:=vu) ?g (?l (qi2 hos hds (x:=?aO) ?g ?df)))));apply ?Qm ?Fe ?_;exact ?Lq (if ?Q2 (?eQ==0) then _ else _) s;rw[?M ?ab];apply ?l (bP pl (?l (bP pu ?JM)));exact ?Lq (match ?Iu with | (lo,hi)=>?aF (lo,?eQ,?sy lo hi 1)) s;rw[pF lo hi n];exact ?Lq (?aF (?kt,?eQ,?sy ?kt ?Ha 1)) s;rw[NT];show qc0 h
def VY(xs:?bA)(i k:Nat):((?cL k).filterMap ?yX).toArray=((xs.toList.drop i).take k).toArray:=by (let e:?yX=?I7:=by funext m;let:?z4=i+m:=?i;rw[this]);rw[e];let:=pick_run xs i k;rw[List.filterMap_map]at this;let e2:((λx=>xs[x]?) ∘ λx=>i+x)=?I7:=rfl;rw[e2]at this;rw[this]
def getItem_tuple_cut{t sl:Addr}{items:?bA}[?La][?bJ](ht:?i5 ?F t ?fc)[?Kd] (hw:¬(?iB=0/\?pq=items.size)) (h:?OZ ({ cls:=?bO,data:=?yA })) (hsz:?Lx items.size):?Lr ?b4 (?jF ?gE ?k5):=by (let QU:sizeOk ?yA:=by exact ?Lx ((?QB ?lC).toArray.size);rw[qc9,qd1,qj3,qy2];show qa4 ?jv (qa4 ?ln hsz));let hj:?pq<=items.size:=As6 _ _ ?a4 hi;let ?I0:=id hs;let hTs:?no ?k5 "slice":=#[os,hos,hcs];unfold getItem;(try with_reducible apply qp3 ?_);(first | apply ?JM | skip);apply ?l (wpAny_sequenceKey ?jc ?ab ?_);apply ?l (?vL (name:=?In ?vo) ?jc qz3 (qm7 qz3 ?jc entry_tuple_getitem ?_ (args_tuple_getitem _ _)));exact ?Lq (Builtin.Tuple.tupleItemsOf ?gE>>=_) s;apply ?l (tupleItemsOf_ ht ?_);apply ?l (wpAny_typeOf hTs ?_);rw[?S ?ab];apply ?l (Zy hs pl pu ?_);(let hno:¬?Fv:=by intro q;rw[qb7,qb7]at q;let q1:?zH=0:=?BN q.1.1;let q2:?lC=items.size:=?BN q.2;show hw #[?i,?i]);exact ?Lq (if ?Fv then _ else _) s;rw[?M hno,VY];first| show ?C0| show ?Lz (?l ?xn)| show ?l (?Lz ?xn)| show ?l ?C0
universe e9
universe HT
namespace L2
open PySem PySem.Spec PyProof.Rows
meta abbrev TO:=?Pq ?ph
abbrev PO(X:Cx)(e:?CN)(t:TO):Prop :=∀[?aC] (Q:?ph),?W->?gN → ?Lj (evalPart e ?r) (λu s'=>∃o H',?m3/\?kX u o/\Q o H')
abbrev iE:TO:=?Od ?aT
inductive yP(Q:?ph)(x:V)(H1:Hp):Prop| mk:∀i,?jf->(Q (?h i) H1)->?AV
abbrev vM(t:TE):TO:=?Li t ?AV
section
variable{X:Cx}[?cA]{te:TE}{lo hi:?CN}{tl th:TO}{pos p2:Pos}
def Fc:PO X ?aT iE:=by ext a0;rw[evalPart_none];show qc0 #[?aT,H,I,?aO,h]
def Dn(h:?sC):PO X ?BD (vM te):=by intro Ae s σ H Q I hw;rw[evalPart_some];apply E6 ?IE ?rS;ext bX;let ?wM:=q1;let ?bd:=r1;show#[?h i,?z,?i4,q]
abbrev SlR(X:Cx)[?LJ]:Prop :=∀[?aC] (x:V) (v vl vu:Value) [?gh] (sl:Addr) (Q:VK),?W->?dU->?CP->?wb->?wR->r x lo hi H Q → ∃T id,typeLookup ?sK ?vo=?aF ?GD/\?no v T/\?Lj (?jF v ?k5) ?bu
abbrev tSl[?LJ](te:TE)(tl th:TO):TE:=?Li te (tl σ H1 λl H2=>th σ H2 λu H3=>r x l u H3 Q)
def Dd{r:?he}(hr:SlR X r)[?f2](hl:PO X lo tl)(hu:PO X hi th):?Ma (?sV e ?JD ?n) (tSl r te tl th):=by ext a0;apply ?wF ?oK;ext bX;apply wpAny_Slice (E6 (?Ly hl _) λvl s2 #[l,H2,I2,pl,q2]=>E6 (hu Ae s2 σ H2 _ I2 q2) λvu s3 _z=>?_);let#[u,H3,I3,pu,q3]:=_z;rw[evalPart_none];apply ?df;let I4:?Ll H3 ?na:=I3.kept (t':=s3.toks) ?jI;let#[T,id,hT,ht,hg]:=hr Ae ?na σ H3 x v vl vu l u ?Fm Q I4 r1 (Heap.IsSliceOf.new ..) pl pu q3;exact ?j ?y ?t (?Bo e ?JD v ?BB) ?bu ?D ?na;show tail_any (ops:=[?BB,v]) ht hT hg (by with_unfolding_all rfl)
abbrev Fj[?aQ][?gh]:?B:=?OC ?lQ
def cutV_length[?aQ][?gh]:?QY ((?jh).length):=by unfold Fj;rw[qd1,qj3];show ?x7
inductive Ap0[?k][?te][?b6]:Prop| mk:∀a xs,?bn->?bF->?Py ?vT ?zu ?DO
abbrev B07[?k]:?he:=?O8 ?DO
def As4:?PP B07:=by
 ext tT;let ?ul:=h;cases rx;let ?uw:=?b9 hx;let hlen:?Oq its.toArray.size:=by rw[qc9];show r.length.symm
 apply#[?dE,_,qz3.lookup,?jc,?_];apply HT.getItem_tuple_cut ht hs pl pu (by rw[hlen];show hw) ?_ (by rw[hlen];show hz);rw[hlen];apply(?M3 ?zu ?rI);show#[?FE,_,?OC r.drop,?q6]
inductive YU[?k][?c2]:Prop| mk:?QA ((xs≠[])->?DA->((ys=[]->Q ?K H))->((ys≠[]->?Lv ?au H ?uy))->?Cy)
abbrev Be1[?k]:R2:=?M4 ?Cy
def Vals.nil_iff[?bK][?aD](r:?bN):us=[]↔xs=[]:=by cases r with| nil=>simp| cons _ _=>simp
def Ab2:?NK Be1 ?u:=by ext d4;let(?PY q1 q2):=h;cases rx;cases ry;let ?qk:=?b9 ha;let ?qQ:=?b9 hb;apply HT.cat_tup p1 p2 (λz=>hx (r1.nil_iff.mp z)) (λz=>#[?K,?f7,q1 (r2.nil_iff.mp z)]) ?Cz (by rw[←r1.length,←r2.length];show hz);apply(?M3 ?uy (q2 (λw=>z (r2.nil_iff.mpr w)) _ ?ek));show#[?yx,_,?AI,?q6]
universe e9
abbrev zF(n:Nat)(i:Int):?pS:=if ?e3 then(if i<n then ?h ?rL else none) else if ?oR then ?h ?xo else none
abbrev eX{α:Type}(xs:?dd)(i:Int):?cK α:=(?Bq).bind λj=>xs[j]?
def QS{n:Nat}{i:Int}{j:Nat}(h:zF n i=?cT):?D6 i n=?cT/\j<n/\?oR/\i<n:=by unfold zF at h;cases h0:?e3;{rw[?S h0]at h;cases h1:i<n;{rw[?S h1]at h;let e:?xh:=qb0 h;show#[by rw[?rf h0 h1,e],?i,?i,h1]};rw[?M h1]at h;cases h};rw[?M h0]at h;cases h1:?oR;{rw[?S h1]at h;let e:?xo=j:=qb0 h;show#[by rw[?q8 ?i h1,e],?i,h1,?i]};rw[?M h1]at h;cases h
def rQ{α:Type}{xs:?dd}{i:Int}{v:α}(h:?nD):∃j,?Dd=?cT/\xs[j]?=?a2/\?pj/\-?gw<=i/\?hK:=by unfold eX at h;cases e:?Bq with| none=>rw[e]at h;cases h| some j =>rw[e]at h;let ?HR:=QS e;show#[j,h1,h,h2,h3,h4]
def Bi{α:Type}{xs:?dd}{j:Nat}{v:α}(h:xs[j]?=?a2):eX xs ?qJ=?a2:=by let hj:?pj:=?J9;(let e:zF ?bh ?qJ=?cT:=by unfold zF;rw[?o7,?o7];simp);unfold eX;rw[e];show h
abbrev Ag6(b:Expr):Prop:=∀o i,?CK b ?bb o i=operate [o,i] (?jF o i)
abbrev IxR(X:Cx)(r:R2):Prop :=∀(value slice:Expr) [?aC] (x y:V) (v u:Value) (Q:VK),?W->?dU->?hl->?xf → ?CK slice ?bb v u=operate [v,u] (?jF v u)->?Lj (?Bo ?jd slice v u) ?bu
abbrev MtR(X:Cx)(id:String)[?mm]:Prop :=?Ac
section
variable{X:Cx}{a b:Expr}{ta tb:TE}[?aI]
def At{r:R2}(hr:IxR X r)[?ey](hs:Ag6 b):?Ma (?sV a b ?n) ?jW:=?Pz ?wF (?N4 (hr a b Ae s2 σ H2 x y v u Q I2 rx ry q (hs _ _)))
inductive Ap5[?k][?c2]:Prop| mk:?Q4 ?vs ?CM
abbrev Bd9[?k]:R2:=?M4 ?CM
inductive Ap4[?k][?c2]:Prop| mk:?Q4 (?OA p xs) ?C8
abbrev Bd8[?k]:R2:=?M4 ?C8
def Ad8:IxR X (Bd9 ?u):=by ext Kp;have ?w7:=h;cases rx;have ?bd:=ry;have ?AM:=?bk;have ?He:=rQ he;have ?Cq:=?eH h2;ext KU;cases h0:?e3;{(let hj:?xh:=?Nt h5);show item_listR ?fm h0 ?i ?xG fin hs};(let hj:(i+?wl).toNat=j:=?NJ h4);show ?Da (x:=w) ?wL ?H4 (wpAny_getItem_list_neg (Q:=?Fu) ?fm ?i ?zS ?i ?xG ?Cj) hs
def Ay9:IxR X (Bd8 ?u):=by ext Kp;let ?w7:=h;cases rx;ext gj;let ?AM:=?eR;let ?He:=rQ he;let ?Cq:=?eH h2;ext KU;show ?Da (x:=w) pl.typeIs slot_tuple_getitem.lookup (getItem_tuple (j:=j) (Q:=?Fu) pl ?i ?i (by ext f3;show h1) (by simpa using ew) ?Cj) hs
def OH[?n1](n j:Nat)[?cj]:?nV (·.setIfInBounds j u) ?sM={ cls:=?bE,data:=?aM (its.set j u).toArray n }:=by simp[Obj.mapSeq]
def Bo.lst[?T]{p:Addr}[?bK][?m](h:?sY) : ∃(its:?Q) (n:Nat),?fw/\?Bx/\?dV:=by let ?kO:=?bG p _ h;show#[?dC,e,z]
def Bo.lstUpd[?T]{p:Addr}[?j1]{its its':?Q}{n n':Nat}{f:Obj->Obj}[?m](h:?sY) (ho:?Bx) (hf:f ?sM=?vJ) (r:?y1) [?tv] (t:Nat) : ?Ll (?Qh p ?eC) ({ s with heap:=?kN p f,toks:=t }):=by (let e:(?kN p f).get? p=?h ?vJ:=by rw[?Fb f ho (by rw[hf]<;>rfl),hf]);apply ?rN (x:=p) (e:=p) (by rw[h];trivial) ?b0 (λb u hb q=>(?wS _ _ ?zZ).trans q) ?sf ?_;show#[hz,?dY,n',r,e]
inductive yT(o:V)(i:V)(v:V)(H:Hp)(Q:?aW):Prop| mk:∀p xs k j,(o=?aB)->(i=?jP)->?sY->(zF ?bh k=?cT)->(Q ?Je)->?CB
abbrev Bd6:?Qk V:=λo i v H Q=>?CB
def Es:Bo6 X Bd6:=by intro Ae s σ H o i v ov iv u Q I ro ri rv h;let#[p,xs,k,j,?C,hp,hj,q]:=h;cases ro;let ?bd:=ri;let#[?dC,ho,hz]:=I.lst hp;let ?HR:=QS hj;let hl:=r.length;let hn:=IZ;let I':Bo X Ae σ ?Je { s with heap:=?kN p (?nV (·.setIfInBounds j u)) } :=I.lstUpd hp ho (OH its n j u) (r.set rv j) (by rw[qf1];show hz) ?ht;cases h0:0<=k;{(let hk:k.toNat=j:=?Nt h4);show PySem.W.ki_setAt ho h0 ?i (by ext f3;show h4) ?yc};(let hk:(k+?wl).toNat=j:=?NJ h3);show PySem.W.ki_setBack ho ?i (by ext f3;show h3) ?i ?yc
def iF[?gh](n:Nat):(?oC).1=((?fJ n 0 lo:Nat):Int)/\(?oC).2.1=((?fJ n n hi:Nat):Int)/\(?oC).2.2=1:=by apply#[?_,?_,?g];{cases lo with| none=>simp[sliceBounds,HT.sIx]| some i =>ext K1};cases hi with| none=>simp[sliceBounds,HT.sIx]| some i =>ext K1
def EG[?n1][?gh]:slicePick ?a8 lo hi ?aT=((its.drop ?A5).take (?fJ ?qK ?qK hi-?A5)).toArray:=by let#[?a1,h3]:=iF lo hi ?hz;unfold slicePick;rw[h1,h2,h3];simp only[sliceRange_one,pick_run,qc9]<;>rfl
inductive Ap1[?k][?te][?b6]:Prop| mk:∀a xs,?bn->?Py ?cp ?xx ?wz
abbrev ZU[?k]:?he:=?O8 ?wz
def zS:?PP ZU:=by ext tT;let#[a,xs,?g,hx,q]:=h;cases rx;let ?uw:=?bI hx;let hlen:=r.length;apply#[?cy,_,?H4,ht.isList.typeIs,?_];apply wpAny_getItem_list_slice ht.isList hs pl pu ?aO ?v ?_ ?zS;rw[EG,←hlen];apply(?M3 ?xx ?rI);show#[?FE,_,0,?OC r.drop,?cl]
def jQ:?Lw ?C2 (∃p ys,?cP/\?Ea/\?x3):=by ext dt;let ?vP:=h;let ?st:=Xy r;cases rx;let hn:=IZ;rcases hq with hq | hq;{let ?lT:=?bk;let hlen:=r'.length;show Calls.call_len_list ?fm ?hy ?yN};ext tg;let hlen:=r'.length;show len_tuple pl ?hy ?yN
def JP:?Lw ?bE (∃p ys,?cP/\?Ea/\?Jm):=by ext dt;have ?vP:=h;have ?st:=Xy r;cases rx;let fin:∀[?n1],?E1->?ua->∀(h':Heap) (c':Nat),(∀b o',?b1 b=?h o'->?fL=?h o') → ?or=?h { cls:=?bE,dict:=none,data:=?aM ?a8 c',slots:=#v[] }->?MG ?ai ?d1:=λits r' hz h' c' kp e =>#[?ai,_,?fv (t':=s.toks) kp ?a4 (show ?Ok _ _ ?eC from#[hz,its,c',r',e]),?g,?rI];rcases hq with hq | hq;{apply ?hP;let ?lT:=?bk;let hlen:=r'.length;let ?Cf:=pl.isList;apply ?hN;show ?Oc ?b0};apply ?hP;ext tg;let hlen:=r'.length;let ?Cf:=pl;apply ?hN;show ?Oc ?rM
def EV:?Lw ?bO (∃p ys,?cP/\(?RE ?Aj ?Gk)):=by ext dt;let#[p,ys,?g,h]:=h;let ?st:=Xy r;cases rx;rcases h with⟨hq,q⟩|⟨hq,q⟩;{let ?lT:=?bk;let hlen:=r'.length;apply call_tuple_list ?fm (λh' kp=>?_) ?hy;let I1:?sx:=?i7 (t':=s.toks) kp;let I2:?Ll (?Qh ?ym ?o1) ({ s with heap:=?Q9 h'.push ?bO ?a8 }) :=?t0 (t':=s.toks) ?mO ?a4 (show ?bx ?ae X.w _ _ _ ?o1 from#[hz,its,r',?q6]);show#[?L ?ym,_,I2,?g,q _ ?oe]};ext tg;show call_tuple_same pl #[?aB,?f7,q]
abbrev tyV[?k](T:String)(x:V)(H:Hp):Prop:=match x with| ?bo=>T=?iA| ?co=>T=?cD| ?aB=>(T=?cy/\∃xs,?vs)\/(T=?dE/\∃o,?dl p=?w/\?sD/\?p8) ∨ (T=?l4/\((∃kvs,H p=?h ?G0)\/∃kvs,H p=?h ?Et))\/(T="set"/\∃S n,H p=?h ?ud)| _=>False
def Ar3[?T]{T:String}{x:V}[?f6][?m](r:?dU)(ty:tyV ?u T x H) : ?no v T/\∀a,?dH->∃ob,?b1 a=?h ob/\ob.dict=none:=by cases x with| str z =>ext e0;cases (show T=?iA from ty);show#[typeIs_str s z t,?HW]| int i =>ext e0;cases (show T=?cD from ty);show#[?ry s i t,?HW]| ref p =>cases r;rcases ty with⟨rfl,xs,hq⟩|⟨rfl,o,hk,hc,hd⟩|⟨rfl,hk⟩|⟨rfl,S,n,hk⟩;{let(?OU _ pl):=?bk;apply#[?wL,?Ho];cases e;let#[o,n,e,c,hd,_]:=pl;show#[o,e,hd]};{apply#[#[o,?ao p o hk,hc],?Ho];cases e;show#[o,?ao _ o hk,hd]};{(let z:∃o,?Ol p/\o.ExactDict:=by rcases hk with⟨kvs,hk⟩|⟨kvs,hk⟩;{let ?zM:=?ns;show ?s1};let ?zM:=?ns;show ?s1);let ?s1:=z;apply ?ur;cases e2;show ?yw};let#[o,_,_,_,e,ex,_]:=?ns;apply ?ur;cases e2;show ?yw| _=>show ?d2 ty
structure Ck1[?k](T:String)[?mm](t:TA)(σ:St)[?gg]:Prop where
 mk::(left:tyV K T x H1) (right:t σ H1 λxs H2=>r x xs H2 Q)
abbrev tBM[?k](T:String)[?mm](to:TE)(t:TA):TE:=?Li to (Ck1 K T r t σ Q x H1)
variable{o e:Expr}[?aP][?KX]
def Be7[?KD][?c4] [?Jw] (hplain:?o (?o4 (·.1)=false) ?A) : ?Ma ?zO (tBM ?u T r to t):=by ext a0;apply wpAny_Call_method_late hbase hfew hline ?g (E6 ?D8 ?iH);let#[x,?z,r1,ty,q1]:=_z;let ?cx:=Ar3 I1 r1 ty;apply#[T,id,pa,slot,hty,?a1,?_];let hA:=?O1 ha cpos _;rw[hs]at hA ⊢;apply qs2 (by exact(false || ?o4 (·.1))=false;rw[hplain]<;>rfl) (qz5 ?_);show E6 hA λus s2 #[vs,H2,I2,r2,q2]=>hm Ae s2 σ H2 x vs v us Q I2 r1 r2 q2
universe e9
abbrev MtM(X:Cx)(id:String)[?mm]:Prop :=?Ac
def Vals.one:∀{x:V}[?aD],?Gn->?Ii| _,_,?Y r ?J=>?DH
def Vals.eraseIdx:?Nn (?uG i) (us.eraseIdx i)| _,_,_,?J=>?J| _,_,0,?ju=>t| _,_,?I,?g6=>?Y r (Vals.eraseIdx i t)
def Vals.rep[?bK][?aD](h:?bN):∀k:Nat,?aA (?Hu).flatten (?bH k us).flatten| 0=>?J| ?cF=>by rw[qk4,qk4,qm9,qm9];show ?z6 h (Vals.rep h k)
def gA{α:Type}:∀(l:?dd) (i:Nat),(l.eraseIdx i).length<=l.length| [],_=>?a4| ?cS,0=>?jV| _::r,?I=>qi9 (gA r i)
def gP[?n1]:∀(k:Nat) (acc:?Q),?rT ?qS acc.toArray (?bH k ?a8)=(acc++?I2).toArray| 0,acc=>?v| ?cF,acc=>by (let e:acc.toArray++its.toArray=(?sS).toArray:=?v);(let e2:?sS++?I2=acc++(?bH ?cF its).flatten:=by rw[qk4,qm9,qu9]);rw[←e2,←gP its k ?sS,←e,qk4,qs7]
section
variable{X:Cx}[?T]{l b:Addr}{xs ys zs:?B}
def Bo.lset{its its':?Q}{n:Nat}{f:?bA->?bA}[?dB][?m](hH:?e6) (e:?zf) (hf:f ?a8=its'.toArray) (hv:?y1) [?tv] : ?Ll ?Ix ({ s with heap:=?kN l ?Eg,toks:=t' }):=by let q:=PySem.IsL.update e f;rw[hf]at q;apply ?rN (x:=l) (e:=l) (by rw[hH];show trivial) ?b0 (λb' u hb hu=>(?wS ?F ?Eg ?zZ).trans hu) #[_,q] ?_;show#[hz,?dY,_,hv,q]
def Bo.lnew{its:?Q}[?dB][?m](hv:?E1)[?tv] : ?Ll (?Qh ?N ?eC) ({ s with heap:=?Q9 ?el ?bE ?a8,toks:=t' }) :=?fv (λ_ _ q=>?j8) ?a4 #[hz,its,0,hv,?cl]
def Bo.fresh[?m]:?iQ:=?ek
def Bo.lstM[?m](hH:?e6):?QK (xs.length=its.length/\?zf):=by have ?kO:=?bG l _ hH;show#[z,?dC,r.length,e]
def WM{n:Nat}(h:?pb):?zr n=false:=by unfold Builtin.List.listTooLong;show qi5 ?i
universe e9
section
variable{X:Cx}
inductive MS(x:V)[?ah][?b6]:Prop| mk:∀l xs y,?hZ->?Cw->?e6->?IJ->?Qe ?O (xs++[y]) ?Jl
abbrev zX:?gK:=?Nr ?Jl
def Hg:MtM X "list.append" zX:=by ext mW;let#[l,xs,y,?C,hH,hz,q]:=h;cases rx;let ?kp:=rv.one;ext ma;apply ?fP F.slot_list_append ?g5 F.entry_list_append (F.args_list_append_2 _ _) (PySem.list_append l ?a8 n u ?qV) ?mI;apply#[?O,_,?sX (its':=its++[u]) hH e ?v (?yz (?Y ru ?J)) ?_,?g,q];rw[qc3,qj6];ext d
inductive RZ(x:V)[?ah][?b6]:Prop| mk:∀l xs i k y,?hZ->(vs=[?Z])->?e6->(-?dm<=i)->(i<?dm)->(?Dd=?h k)->(xs[k]?=?gT)->?Qe y (?uG k) ?EX
abbrev At1:?gK:=?Nr ?EX
def lO:MtM X "list.pop" At1:=by ext mW;let#[l,xs,i,k,y,?C,hH,?a1,hk,hy,q]:=h;cases rx;let ?kp:=rv.one;let ?bd:=ru;ext ma;let#[w,hw,rw']:=?eH hy;apply ?fP F.slot_list_pop ?g5 F.entry_list_pop (F.args_list_pop_2 _ _) (MeetsSeq.list_pop_at l ?a8 n i t k w ?vg (by ext f3;show hk) (by rw[←Array.getElem?_toList];show hw) ?qV) ?mI;apply#[y,_,?sX (its':=its.eraseIdx k) hH e ?_ (r.eraseIdx k) ?_,rw',q];{exact its.toArray.eraseIdxIfInBounds k=(its.eraseIdx k).toArray;rw[List.eraseIdxIfInBounds_toArray]};let:=gA xs k;ext d
inductive Ap2[?c2]:Prop| mk:∀l k xs,?hZ->(y=?jP)->?e6->(-?dm<=k)->(k<?dm)->?Py (?Lx (xs.length*k.toNat)) (?H (?bH ?mA xs).flatten) ?Gp
abbrev B08:R2:=?M4 ?Gp
def Ad4{α:Type}(xs:?dd)(k:Nat):(?Hu).flatten.length=k*xs.length:=by induction k with| zero=>simp| succ k ih=>rw[qk4,qm9,qc3,ih,Nat.succ_mul,qp9]
def wG:Xv X ?EF B08:=by ext d4;let#[l,k,xs,?C,hH,?a1,hz,q]:=h;cases rx;ext gj;ext ma;(let hlen:?Lx ?qL:=by ext f3;show hz);(let hcap:¬?qL > (?dm-1) / 8:=by (let:?sv<=(?dm-1) / 8:=?ab);ext d);(let hfit:¬?Q2 (! ?GP k):=by rw[?vg];show qe9);(let Bj7:¬?zr ?qL=true:=by rw[WM ?gQ];show qe9);(let hnew:?Mh (if ?Q2 its.toArray.isEmpty then 0 else k.toNat) ?mA:=by (let f0:∀m:Nat,?Mh m m:=λm=>by let:=gP its m [];rw[qq4]at this;show this);rw[f0];cases its with| nil=>simp| cons a r'=>rw[?iF]);apply wpAny_binaryOp_repeat_ref (T:=?cy) (U:=?cD) ?ab ?g5 (λs'=>?ry s' k t) noFill_list_mul F.fills_int_mul ?wv repeat_list F.slot_int_index.lookup (?fP ?wv (?ry s k t) F.entry_int_rmul (F.args_int_rmul_2 _ _) (int___rmul___int_list k t l ?a8 n) #[e,?g,?g5,?fP F.slot_list_mul ?g5 F.entry_list_mul (F.args_list_mul_2 _ _) (AutoListH.list___mul___list_int_3 l ?a8 n k t hfit hcap Bj7) ?mI]);rw[hnew];show(?Op (?L _) (r.rep ?mA) (by rw[Ad4,Nat.mul_comm];show hz))
universe e9
section
variable[?gb][?aG][?aR]
universe e9
section
variable{X:Cx}
universe e9
universe L2
namespace Att
open PySem PySem.W PySem.Calls PyProof.Rows
def aN{P:Params}[?az]:∀[?d6] (vs:?Q),WellAll P h vs ?km->?hF:=by intro ns;induction ns with| nil =>intro vs w;rw[qr6]at w;cases w;show ?J| cons n ns ih =>intro vs w;rw[qc8]at w;cases w with| cons a b =>cases a;show ?Y _ _ (ih _ b)
def script_of{l:OpenLaw}{n:Nat}[?u4]{P:Params}[?az]{args:?w4}{vals:?Q} (hpre:l.row.toRowW.claim.pre ?d0=true) (hwl:WellAll P h vals ?d0) : ∃a vs ns,vals=[?ed a]/\args=[?m9]/\?br=?h ?kl/\?hF/\?j5:=by let hsh:WShape.hasAll [] ?d0 [.list ?p]=true:=(?HN).1;let hc:l.pre.holds [] { args:=args }=true:=(?HN).2;let#[d,r,?g,?a1]:=hasAllW_cons hsh;obtain rfl:=hasAllW_nil h2;let#[xs,?g,h3]:=hasW_list h1;let#[ns,?g]:=items_int h3;(let hlen:?j5:=by unfold OpenLaw.pre at hc;(let h4:(WTm.not (.lt (.lit (?p ?bT)) (.len (.arg 0)))).holds [] { args:=[.list (?lS ?p)] }=true:=by let h4:=(holds_andW hc).1;rw[hn]at h4;show h4);let h5:=condW_of h4 (w_not (w_lt w_lit (w_len_list (w_arg ?g))));rw[qa5]at h5;apply qh7 λq=>?_;let q':?bT<((ns.length:Nat):Int):=?i;first| (rw[qe7 q']at h5;show ?P h5 ?ab)| (simp at h5;ext d));cases hwl with| cons w1 w2 =>cases w2;cases w1 with| list ho hall=>show#[_,_,ns,?C,ho,aN ns _ hall,?gQ]
def post_true(l:OpenLaw)(args:?w4):l.row.toRowW.claim.post ?d0 ?dL ?d0=true :=postW_of (r:=l.row.toRowW) (X:=?vF) (show WShape.has [] ?dL ?cw=true by first | rfl | decide | simp[WShape.has,WShape.arms,WShape.armsAll]) (show(WTm.eq .res (.lit ?dL)).value [] { args:=args,res:=?h ?dL,after:=args }=?h (?cw ?vF) from w_eq_bool (w_res ?g) w_lit) ?g
section
variable[?gb][?aG][?aR]{K:Frag}
universe e9
universe Att
namespace L2
open PySem PySem.Spec PyProof.Rows
def EZ:∀[?ix][?d7],?hF->?aA ?cv vs| _,_,?J=>?J| _,_,?Y n t h=>?Y ?bd (EZ h)
abbrev A55(H:Hp):Prop:=∀b,?aN\/∃o xs,H b=?h (.frz o ?gF)
def XD[?c1]{mg mb:?bv}{CX:ZA}{k:Nat}{fa a:Addr}{fd:FuncData}{x:Str}{sp:Sp}{s₁:Shared}[?ix][?d7] (KX:K.In ?gG) (hns:?sP ?qi mg) (hb:?sP ?Ex mb) (hbb:?Gf) (hlim:s₁.heap.NoLimit) (hg:?xK) (ha:?JJ) (hi:?hF) (hl:?xN) (hr:?AA) (F:∀base:Heap,?AO->?sJ->Bs P w K mg ?b2 CX k fa fd [x] sp) (hbind:?zq) (qV:∀H:Hp,A55 H->?iX->sp ?bW H ?Cr ?fA) (hCX:∀H e s',CX [] H ?cU ?fA e s'->False) : ?GO:=by let rv:=EZ hi;let B32:=hi.length;(let core:∀H:Hp,A55 H->?iX->?P1 H ?gG->(∀b,H b≠none->b=a)->(?sL->?dl a=none) → ?GO:=by intro H hO hS hok hA hK;let RO:∀[?gk],?ux->?aN->(?iK).get? b=?w:=λe n=>XO e n;(let noA:∀[?gk]{es:?fB DictEntry}{ep:Nat},?ux->?AW->?aN:=λ{b o es ep} e d=>by cases q:H b with| none=>rfl| some u =>let e':b=a:=?GM;subst e';rw[ha]at e;cases e;let d':?vC ?gB _=Data.dict es ep:=d;cases d');let nsK:∀{b:Addr}[?iu],?sP b m->(?iK).Ns b m:=λ{b m} #[o,?aa,e,d,r]=>#[o,?aa,RO e (noA e d),d,r];let hKb:K.In ?iK:=?Nh (RO (?Qz KX) (by cases q:H b with| none=>rfl| some u =>let e':b=a:=?GM;subst e';rw[hK ?pB]at e;cases e));let hM:Mod K mg ?iK:=#[hKb,?uu,#[mb,nsK hb,hbb],let #[mc,?a1]:=hlim;#[mc,nsK h1,h2]];let e0:PK P w K mg ?iK ?hw [] ?cU H:=#[?g,hM,?Nh (Ab7 e),qn1 (tX _ _),trivial,?OL (?P (show b∈([]:?aL) from hb) ?v),hok,.of_eq hg];apply ?kf ((F _ hKb ?uu).run ?hw [] ?cU H ?Eq ?bW ?bW _ _ hr e0 (hbind ?cU ?K) ?EI (qV H hO hS)) λr s' h=>?_;cases r with| error e=>show(hCX H e s' h).elim| ok fl =>cases fl with| next=>show ?d2 h| brk=>show ?d2 h| cont=>show ?d2 h| ret u =>have#[v,H',os,bare,un,B62,r',q]:=h;let q':v=?h6:=q;subst q';obtain rfl:u=?e5 ?bw:=r';apply#[?g,OldK.of_keep (?Nh ?_),os,bare];cases q:H b with| none=>show un.keep b o e q (by intro z;show ?Hy) ?v| some u =>rcases hO b with z|⟨ob,xs,z⟩;{rw[q]at z;cases z};let z2:=un.frzs b ob _ z;have#[e1,_]:=hok b _ z;have#[e2,_]:=B62 b _ z2;rw[e]at e1;cases e1;show e2);cases hk:?dl a with| some o =>let e:=KX a o hk;rw[ha]at e;cases e;apply core ?eh (λ_=>?b0) (?q #[_,?gB,_,hk,?C,?g,by rw[qc9,B32];show hl,?DF]) (λb u z=>by let z':(none:?np)=?aE:=z;cases z') (λb z=>?GQ) λz=>?GQ| none =>apply core (λb=>if b=a then ?h (.frz ?kl (?H ?cv)) else none) ?yE (?x (?q #[?kl,?S ?g])) (λb u z=>?_) (λb z=>?_) λ_=>hk;{cases hb:b=a;{show ?q #[_,_,?S hb]};show ?x ?r8};{cases hb:b=a;{let z':=(?S hb).symm.trans z;cases z';subst hb;show#[ha,?Hg,vs,_,rv,ha]};let z':=(?r8).symm.trans z;cases z'};cases hb:b=a;{show hb};show ?P ?r8 z
abbrev Fs(s:Stmt)(j:Nat):Stmt:=match s with| .ClassDef _ _ _ ?fx _ _ _ _ _ _ _=>body.getD j ?DM| _=>?DM
abbrev K3(s:Stmt):Arguments:=match s with| ?oW _ a _ _ _ _ _ _ _ _=>a| _=>{ posonlyargs:=[],args:=[],vararg:=none,kwonlyargs:=[],kw_defaults:=[],kwarg:=none,defaults:=[] }
abbrev Im(s:Stmt):?dk:=match s with| ?oW _ _ b _ _ _ _ _ _ _=>b| _=>[]
abbrev An(s:Stmt):Scope:=match s with| ?oW _ _ _ _ _ _ sc _ _ _=>sc| _=>{ kind:=?g2,names:=[],isGenerator:=false,isCoroutine:=false }
meta abbrev Ed:ZA:=λ_ _ _ _ _ _=>False
meta abbrev E0:XK:=?fA
def kX{X:Cx}:Xq Ed X E0:=λ_ _ _ _ _ _ _ h=>h.elim
structure Er[?k](x qual:Str)(st:Stmt)(f:Addr)(fd:FuncData):Prop where
 ex:∃(oc:Value) (od:OAddr) (kV doc pm:Value) (an:OAddr) (Do ct:Value) (osl:Wc),
  fd=?mK/\?Mf fd/\?qR
 kp:?hR
section
variable[?c1][?im]
def Er.ok[?KF][?L6] [?Jz]:?CO:=by have ?zj:=F.ex;apply Bl7 lk hcd S len λA outer s H vs Q E hr qV=>?_;have#[t,h,q]:=hbody Do A ?ar s H vs Q E hr qV;show#[t,h.nox,q]
def Er.okZ[?KF] [?Jz] (len:?qO:=by intro vs H Q E h;set_option tactic.hygienic true in(repeat (rcases h with⟨⟩;rename_i h));all_goals first | show ?bz ?xT (by assumption) | (subst_vars;rfl)):?CO:=F.ok S len hbody
def Er.binds[?Lg][?ts](F:?wY) (h:∀(kV doc pm:Value) (an:OAddr) (Do ct:Value) [?cf],?Ov ?mK):?qh:=by let ?zj:=F.ex;show .all (h kV doc pm an Do ct)
def jJ[?Lg]{oc:Value}{od an:OAddr}{osl:Wc}{kV doc pm Do ct:Value}(l:?Mf ?mK) (c:?qR) (k:?hR):Er K x ?bf st f ?mK:=#[#[?tz,l,c],k]
universe e9
section
variable{X:Cx}
def pv(i:Nat){x:Str}[?aI](hN:?uW)(hv:?jl:=by first | show ?AB | show ?nC ?AB | show ?nC (?nC ?g))[?gZ] [?Kh]:?Dh:=At8 hN hv hd hcd
universe e9
def ite2[?tu](h1:c->A)(h2:¬c->B):?qD:=by cases h:c;{rw[?hr];show h1 h};rw[?gS];show h2 h
abbrev Same(H H':Hp):Prop:=∀b o,?C4
def Same.refl(H:Hp):?bt H H:=λ_ _ h=>h
def Same.trans{H H1 H2:Hp}(a:?hO)(b:?rW):?bt H H2:=λc o h=>b c o ?En
def Same.free[?dA](e:?aw){l:Addr}(h:H' l=Option.none):H l=Option.none:=by cases q:H l with| none=>rfl| some o =>rw[e l o q]at h;cases h
def Same.seq[?a5][?dA][?aJ][?bK](e:?aw)(h:?cp):SqL K H' a xs:=?M5 ?wf ?wf
abbrev eV(cells:?eL):?lb->?eL->?eL| [],acc=>acc| ?qA,acc=>eV cells r (if ?rz then ?P7 ?kG else acc)
def DO{sc:Scope}{env:Env}(h:∀n,?oi->?FX):closureFor sc env=?R2 ?gO []:=by (let all:∀(l:?lb) (acc:?eL),(∀n,?rg∈l->?FX) → (forIn l acc λ(x:?uF) (cs:?eL)=>match x with| (?ac,kind)=>if ?Q2 (?NA kind) then(do let c ←cellOf env ?ac;?Qd ((?ac,c)::cs)) else ?Qd cs)=(?R2 l acc:Sem _):=by intro l;induction l with| nil=>intro acc _;rfl| cons x r ih =>intro acc hl;let#[n,k]:=x;rw[List.forIn_cons];ext tc;{(let hk':?yd:=?k9);subst hk';let#[c,hc]:=?Au;(let e1:cellOf env n=?aF c:=by unfold cellOf;rw[hc]);simp only[beq_self_eq_true,if_true,e1,pure_bind];rw[?FW];exact ?RF (if ?Q2 (?NA NameKind.free) then ?um else acc);rw[?qa,hc];rfl};(let hk2:?Nc ?nu:=?k9);simp only[hk2,qu1,if_false,pure_bind];rw[?FW];exact ?RF (if ?rz then ?um else acc);rw[?eA]);let:=all ?gO [] h;unfold closureFor;dsimp only;rw[this,pure_bind]
def Jb[?LU]{c:Addr}:∀[?L7],(∀n,?rg∈l->∃c,?kG n=?bM) → (acc.lookup x=?bM->?uZ)->?Nx x->?uZ| [],_,_,ha,h=>ha h| ?qA,acc,hl,ha,h=>by apply Jb (l:=r) ?Hh ?_ h;ext tc;{rw[?fT];(let hk':?yd:=?k9);subst hk';let#[d,hd]:=?Au;intro e;rw[qs0]at e;cases hx:?hT with| true =>rw[hx]at e;(let hxn:x=n:=?lp);subst hxn;rw[hd]at e ⊢;show e| false=>rw[hx]at e;show ha e};rw[?eA];show ha
def DP[?LU]:∀[?L7],(?sl∈l\/∃c,acc.lookup x=?bM)->∃c,?Nx x| [],_,h=>by rcases h with h | h;{show ?jY};show h| ?qA,acc,h=>by apply DP (l:=r) ?_;ext tc;{rw[?fT];cases hx:?Q2 ?hT;{show ?q #[(?kG n).getD 0,by rw[qs0,hx]]};(let hx2:?Nc ?hT:=?lp);rcases h with h|⟨c,h⟩;{rcases ?fX with e | e;{let e1:x=n:=?bz Prod.fst e;show ?P (by simp[e1]) hx};show ?o5};show ?q #[c,by rw[qs0,hx2];show h]};rw[?eA];rcases h with h | h;{rcases ?fX with e | e;{let e2:NameKind.free=k:=?bz Prod.snd e;show ?P (by simp[←e2]) hk};show ?o5};show ?q h
abbrev G9(X:Cx)[?tx](C:Addr)(s₀:Shared)(H₀:Hp)[?n4]:Cx where
 prog:=X.prog
 w:=X.w
 K:=X.K
 mg:=X.mg
 base:=X.base
 A:=X.A
 N:=N'
 s₀:=s₀
 H₀:=H₀
 env:=compEnvC sc ?po C ?r
 outer:=X.stack
 stack:=X.stack
 ex:=fp
 fn:=λ_=>false
 calm:=X.calm
 pn:=[]
 xe:=?eo
abbrev OZ[?ms](σ:St):St:=cap.map ?wu
structure aI(X:Cx)[?tx][?ms]:Prop where
 kind:?jg
 len:?ve
 nocell:?xp
 locals:∀x∈sc.names,?y0
 free:∀n,?oi->?ho n=?b5\/?ho n=?cY
 slots:∀(i j:Nat) (x:Str),?Qp N'->?OD cap ?cT->X.N[j]?=?b8/\?Bv/\?jl
section
variable[?ik][?T]{C:Addr}[?cg]
def aI.cells[?my](ok:X.Ok):∀n,?oi->∃c,?ky n=?bM:=λn hn=>ok.has n (c.free n hn)
def N5{env:Env}{x:Str}{k:NameKind}(hnc:?xp)(h:(relabel sc env).names.lookup x=?h k)(hk:k=?k3\/k=?hU):?F9:=by (let all:∀(l:?lb),(∀x∈l,?qp)->(l.map λ ?eO=>if (?nu&&?wo&&?HK) then ?oA else ?eO).lookup x=?h k->?sl∈l:=by intro l;induction l with| nil=>intro _ h;show ?jY| cons p r ih =>intro hn h;let#[n,q]:=p;rw[qc8,qs0]at h;cases hc:?Q2 (?NA q&&?wo&&?HK);{(let hq:q=NameKind.free:=by let:=hc;simp only[qb7]at this;simpa using this.1.1);simp only[hc,if_true]at h;cases hx:?hT with| true =>(let e:x=n:=?lp);rw[e,hq];show qb4| false =>rw[hx]at h;ext LG};simp only[hc]at h;cases hx:?hT with| true =>(let e:x=n:=?lp);simp only[qu1,if_false,hx]at h;(let e2:q=k:=?pE);rcases hk with z | z;{show ?P (e2.trans z) (hn (n,q) qb4)};rw[e,←z,←e2];show qb4| false =>simp only[qu1,if_false,hx]at h;ext LG);show all ?gO hnc h
def Af3[?my][?m](hC:?qw)[?ez][?LS]:(?Ch).Ok where
 mod:=I.ok.mod
 kind:=c.kind
 glob:=I.ok.glob
 blt:=I.ok.blt
 above:=hC
 inj:=λx y a hx hy=>?Ba x y a (?PQ hx) (?PQ hy)
 has:=λx hx=>by
  apply DP (?x ?_);rcases hx with hx | hx
  . show N5 ?hY hx ?b0
  . show N5 ?hY hx ?rM
 cab:=λ_ _ h=>?jY
 hd:=I.ok.hd
 frames:=I.ok.frames
 stk:=?b0
 exf:=λb hb'=>#[?Na ?Aq hC,λx a e=>(?li).2.2.2.2.1 x a ?os]
 bs:=I.bs
 bsz:=?wB
 noex:=λb o e hb'=>by
  rcases (?li).2.2.2.1 with z | z
  . show ?CS b o e z
  . show ?MT ?es (qa4 ?pe z)
 exfs:=λb hb' z=>by
  let#[_,f1,f2,_]:=?li;rcases ?ov with e | e
  . show f1 e
  . show f2 e
 funs:=I.stack
 frf:=I.stkFree
def YI[?my][?m]{D:Addr}{h1:Heap}{t:Nat}(hC:C=?aK)(hD:?Mq D)[?ez][?LS] (hn:h1.Ns C ?eh) (hl:?l0 D=?Ne 0) (k:?Mb ?cM (?l0 b=?w)) : Bo ?Ch [] ?iM ?pL { s with heap:=h1,toks:=t }:=by (let hCs:?qw:=?uM);(let hCD:C≠D:=by rw[hC,hD];show ?q3);let ok:=Af3 (C:=C) (fp:=fp) c I hCs hf hb;(let hDn:?fS:=by rw[hD];show I.fresh);let ltc:∀x a,(?po).lookup x=?lc->?Ag:=λx a e=>?os;let cel:∀a v,?lj a v->h1.IsCell a v:=λa v ?q2=>#[o,k a o ho,hd];(let ltD:∀a v,?lj a v->a≠D:=λa v ?q2=>by rw[hD];show qe5 ?mN);apply#[ok,?g,?cm,Un.laid k ?JV hDn,#[_,hn,?uD],?Ij,?_,?Ij,?un,?_,?_];{(let e2':cap[i]?.map ?wu=?o8:=by let:=e2;unfold OZ at this;rw[qa9]at this;show this);cases hc:cap[i]? with| none=>rw[hc]at e2';cases e2'| some o =>rw[hc]at e2';cases o with| none=>cases e2'| some j =>(let e4:?vk=?a2:=by simpa using e2');apply ?hP;let#[q1,q2',q3]:=c.slots i j x e1 hc;let q2:?F9:=q2'.elim (λz=>N5 ?hY z ?b0) λz=>N5 ?hY z ?rM;let#[m,hm,hl']:=I.loc;(let e5:?pG=?o8:=by cases z:?pG with| none=>rw[z]at e4;cases e4| some y=>rw[z]at e4;cases y with| none=>cases e4| some y'=>cases e4;rfl);let ?pt:=hl' j x v q1 e5 q3;apply ?hN;apply ?up;let#[a,ha]:=DP (cells:=X.env.cells) (l:=sc.names) (acc:=[]) (x:=x) (?x q2);let kd:?G2:=c.free x q2;rcases l with⟨hk,_⟩|⟨hk,a',ha',hcell⟩;{rcases kd with z | z<;>rw[z]at hk<;>cases hk};(let e6:a'=a:=by let:=ltc x a ha;rw[ha']at this;show ?DK);apply ?q #[q2',a,ha,?_];rw[←e6];show cel _ _ hcell};{let ?ow:=?zx;show#[v,cel a v z]};{exact ?s H D ?i1 C=none;rw[Aj hCD];show ?g8 hCs};{exact ?s H D ?i1 a=none;let ?ow:=?zx;rw[Aj (ltD a v z)];show ?fk x a ?w2};{show ?Eb k ?JV #[?gA,[],0,?J,hl]};exact(?iM).length=N'.length;unfold OZ;rw[qa5,c.len]
universe e9
abbrev Af5(osc:Scope)(N:?X)[?tx][?ms]:Bool :=?G ?jg&&?G ?ve&&?OP ?qp&&?OP ?y0 && ?OP (x.2=NameKind.free->(?hd x.1=?b5\/?hd x.1=?cY)) && (?rB).all (λp=>match p.2 with| none=>true| ?cT=>?G (N[j]?=?h p.1)&&?G ((?Lu ?b5) ∨ (?Lu ?cY)) && ?G (?rb=?cz\/?rb=?b5\/?rb=?cY))
def rN[?ik](h:?Cl):?lq:=by unfold Af5 at h;rw[qb7,qb7,qb7,qb7,qb7,qd4,qd4,qd4,qd4]at h;let#[#[#[#[?cx,h3],h4],h5],h6]:=h;apply#[qc6 h1,qc6 h2,?PA h3,?PA h4,λn hn=>qc6 (h5 _ hn) ?g,λi j x e1 e2=>?_];(let hm:(x,?cT)∈?rB:=by (let e:?OD ?rB (x,?cT):=by rw[qu4];show#[e1,e2]);show qa6 e);let h7:=h6 _ hm;dsimp only at h7;rw[qb7,qb7]at h7;let#[#[h8,h9],h10]:=h7;show#[qc6 h8,qc6 (p:=?Bv) h9,qc6 (p:=?M7 ?cz\/?M7 ?b5\/?M7 ?cY) h10]
abbrev PTs(X:Cx)(ifs:?dM)(t:TT):Prop :=∀[?aC] [?gf],?W->?gN → ?Lj (forIn ifs ?bw λc r=>if ?Q2 r then do let ok ←?sB c ?r (?Pw c);?Qd ok else ?Qd r) ?sF
abbrev sQ:TT:=?Od ?bw
def Bv{X:Cx}:PTs X [] sQ:=?MB (wpAny_tests_nil #[H,I,h])
def AS{X:Cx}{c:Expr}{t:TT}(h:PT X c t):PTs X [c] t:=?OM wpAny_tests_one
abbrev Ui(J:It)(g:TG)(tc:TT)(te:TE)(D:Addr)(Q:?aW)(τ:St)(H:Hp):Prop :=∃W:Nat->?Gy,(∃m,W 0 m [] τ H)/\∀i m ys τ H,W i m ys τ H → (?nU/\Q H) ∨ (?og/\∃N:?GK,(∀ys' τ' H',N ys' τ' H'->∃m',m'<m/\W ?I m' ys' τ' H') ∧ ∀x H',?CH->g x τ H' λτ2 H2=>tc τ2 H2 λb H3=>if ?h2 then ?O3 τ2 H3 τ2 else N ys τ2 H3)
section
variable[?ik][?LW][?aI][?gm]{te:TE}
def uJ{Y:Cx}{J:It}[?cg]{it D:Addr}{tn:?kB}{R:?nN}{Q:?aW}{τ:St}{H:Hp}[?aR] (hx:Y.xe=?eo) (hc:?Q2 Y.calm) (hg:PG Y tg g) (ht:PTs Y ifs tc) (he:PE Y elt te) (T:j9 Y.prog Y.w Y.K tg J fp it tn) (st:?I8) (hf:∀b∈fp,Pg Y [] H b) (I:Bo Y [] τ H s) (h:?Lm J tc) (hR:∀τ' H' s',?GA->Q H'->R ?Dt s') : ?dZ (?gz Y.prog Y.w) Y.A (?P9 ?AF) R s:=by let#[W,?FK,turn]:=h;let NG:∀{H':Hp},?eZ->∀b∈fp,Pg Y [] H' b:=?PL ((?jB).2);(let no:∀{P:Prop}{e:Value}{s':Shared},Y.xe e s'->P:=λz=>by rw[hx]at z;show z.elim);apply codeAny_loop ?g (λn s'=>∃i ys τ' H',?GA/\?Hr/\?PI n) ?_ m0 #[0,[],τ,H,I,st,?lo,w0];rintro n s3 ⟨i,ys,τ3,H3,I3,st3,ZI,w3⟩;exact ?j _ Y.A ((?P9 compTurn).onRaise (λx=>do noteFrame x Y.env;theTreesLotGoes x)) _ _ s3;apply wpAny_noted ?_;rw[compTurn_list];apply ?Qm ?qP ?e8;rcases turn i n ys τ3 H3 w3 with⟨stop,qn⟩|⟨go,N,hN,step⟩;{apply ?MS T.done stop;let ?vj:=_z;subst hr;show qc0 (hR _ _ _ I4 qn)};apply ?MS T.item go;let ?uf:=_z;subst hr;apply ?l (qm0 h4 ?FM ?tE);ext KO;(let again:∀{τ7:St}{H7:Hp}{ys7:?B}{s7:Shared},Bo Y ([]++?x9) τ7 H7 s7->N ys7 τ7 H7->∃m,m<n/\∃i ys τ' H',Bo Y [] τ' H' s7/\?B5/\?PI m:=λ{τ7 H7 ys7 s7} I7 n7=>by let ?HB:=hN ys7 τ7 H7 n7;apply#[m',hm,?I,ys7,τ7,H7,?jQ,?ub,?eW,w7];let ?BK:=?Hm;ext Ky);apply ?Ql (?Ns τ3) ?An;let#[τ6,H6,I6,q6]:=_z;apply ?Ql (ht _ s6 τ6 H6 _ I6 q6) (λok s7 _z=>?_);let#[H7,I7,q7]:=_z;cases ok with| false =>(let q8:N ys τ6 H7:=?wU);show qc0 #[?g,again I7 q8]| true =>(let q8:?O3 τ6 H7 τ6:=?wU);apply ?l (?Ql (he _ s7 τ6 H7 _ I7 q8) (λy s8 _z=>?_));let#[v8,H8,I8,r8,hD,hl,n8]:=_z;apply ?l (qm0 (Hg _ s8 τ6 H8 ?bm [v8] ?bm [y] (λ_ H9=>N (ys++[v8]) τ6 H9) I8 ?g (?Y r8 ?J) #[D,ys,v8,?C,hD,hl,n8]) (λ_ s9 _z=>?_) ?kU);let#[_,H9,I9,_,n9]:=_z;show qc0 (qc0 #[?g,again I9 n9])
def dO[?T]{J:It}[?cg]{it:Addr}{tn:?kB}{RR:?b3->?eV->?nN}{Q:?eV->?aW}[?aG] [?my] [?bY] [?tV] [?tN] [?m] (T:?Fx) (st:?I8) [?ez] (h:∀D,?fS->?Pg (Q D) ?pL) (hR:∀D C s' H' m',?fS->?qw->?pP->?kA->?Nu ?iJ fp ?dG->?z5->s'.heap.Ns C m'->H' C=none->C ∉ fp->Q D H'->RR ?bm C ?Dt s') : ?j ?y ?t ?JZ (λacc s₃=>?j ?y ?t (newFunctionEnv sc X.env.globals ?po [] X.env.qual ?aT ?aO (?h ?r)) (λcenv s₄ =>?dZ ?y ?t (.compStart ?da 0 ?ct acc { cenv with scope:=?qj }) (RR acc cenv.locals) s₄) E s₃) E s:=by (let hb:?HT:=?OL (by let ?G6:=T.obj _ _ st b hb;ext bL));apply qn2 (wpAny_newFunctionEnv ?hY (by intro y hy;simp at hy) (λh₁ A02 Ae1=>?_) ?nQ);dsimp only at A02 Ae1 ⊢;generalize hH2:?el { cls:=?bE,dict:=none,data:=?aM ([]:?Q).toArray }=H2 at A02 Ae1 ⊢;(let hC:H2.objs.size=?aK:=by rw[←hH2,qj2]);(let hCl:?ML H2.objs.size:=?uM);(let hCn:?PC H2.objs.size:=by rw[hC];show(?q3).symm);(let old:?Mb ?cM (?D7 b=?w):=λb o e=>by let l1:=?es;show ?Bp b o (?Na l1 hCl) (qa8 _ (hH2▸ ?gH)));let hl:?D7 ?N=?Ne 0:=?Bp _ _ hCn (qa8 _ (hH2▸ ?cl));(let B64:h₁.Ns ?nm ?eh:=by simpa using A02);let I4:Bo ?m0 [] ?iM ?Cg ?zK:=YI c I hC ?g hf hb B64 hl old;let hfr:?iQ:=I.fresh;(let f4:∀b∈fp,Pg ?m0 [] ?Cg b:=λb hb'=>by let ?Im:=?li;let lb:=?Aq;apply#[by rw[Aj (qe5 lb)];show f0,(?Na lb hCl:b≠H2.objs.size),?Cz,?x hb',λx a e=>f4 x a ?os,?un];rcases ?ov with e | e;{show f1 e};show f2 e);let st4:tn 0 h₁:=T.keep _ _ _ st λb _ o e=>?Qz old;(let loop:∀s₅:Shared,s₅=?zK → ?dZ ?y ?t (?AF ?da 0 ?ct ?ai (?m0).env) (RR ?ai ?nm) s₅:=by rintro s₅ rfl;apply uJ (Y:=?m0) (J:=J) (fp:=fp) (tn:=tn) (Q:=Q ?N) ?g hc (hg _ _ _ _) (ht _ _ _ _) (he _ _ _ _) T st4 f4 I4 (h _ hfr) λτ' H' s' I' q'=>?_;let#[m',hn',_]:=I'.loc;show hR _ _ s' H' m' hfr hCl I'.os I'.bare I'.base I'.hok hn' I'.free (λz=>?MT (hb _ z) hCl) q');show codeAny_compStart_list ?x6 (T.self _ 0 _ _ _ st4 ?x6)
abbrev Aj5(wi:TI)[?ms](g:TG)(tc:TT)(te:TE):TE:=λσ H Q=>wi σ H λJ H1=>∀D,?QR D->?Pg (λH'=>?lh) (?s H1 D ?i1)
def Bo.fpCh{Ae:Bl}{H:Hp}[?cg][?ez]:∀b∈fp,?vz :=?OL (let #[_,f1,_,f3,f4,f5]:=?jB;#[f3,f1,f4,f5])
def Bu{wi:TI}[?bY][?Ki][?tV][?tN] [?tS]:?Ma ?da ?yD:=by ext a0;let c:?lq:=rN hcap;rw[eval_ListComp];apply ?vu (use:=none) ?g hs ?v6 ?nQ ?C1 ?nX;ext Ku;apply dO (RR:=?O9 ?aT ?bu) (Q:=λD H'=>?lh) c hc hg ht he I2 T st2 f2 hW ?_;intro D C s' H' m' hD hC hos hbare hun hok hn hHC hCf q;apply#[m',hn,λh' Vp=>?_];ext K9;let I4:?Ll H' ({ s' with heap:=h' }):=I3.turned (t':=s'.toks) (λb o hb e=>?M9 b hb e) hHC k1 k3 k4 k5;show#[?bm,H',I4,?g,q]
private def IL{wi:TI}[?dz]{px spos:Pos}(hN:X.N.Nodup)(hi':?gs)(hx:?sW)[?bY][?Ki] [?tV] [?tN] (hsw:?N5 (?lt ?da (?h ?k7) spos.line ?r=?aF ?bw)) [?tS] [?ev] : PS X (?mG [?k7] ?da spos) (ZP ?yD ?ss):=by ext cd;let c:?lq:=rN hcap;rw[?Pb exec_Assign_Name_used hsw];apply ?Qm ?qP ?e8;exact ?j _ ?t (do let _ ←comprehension ?da sc ?r _ ?JZ ?bb ?Hb ?qH) _ _ s;apply ?l (E6 (?vu (use:=?qH) (Q:=?vI) ?g hs ?v6 ?nQ ?C1 ?nX) λ_ s' hq=>qc0 (qc0 hq));ext Ku;apply dO (RR:=?O9 ?qH ?vI) (Q:=λA H'=>gO i ?ka σ H' ?fe) c hc hg ht he I2 T st2 f2 hW ?_;intro A C s' H' m' hD hC hos hbare hun hok hn hHC hCf q;ext K9;exact ?j _ ?t (?fU ?k7 ?r ?ka) _ _ s';apply ?GB (fG I3 hN hi' hx (v:=?ka) ?g (λs'' I'' _z=>?_) hf);let#[a,Vp,ha]:=_z;(let hCa:C≠a:=by rcases ha with z | z;{rw[z];show k1};show λz'=>k4 x a z z'.symm);apply#[m',?Hf Vp hCa,λh' B53=>?_];let I4:Bo X Ae (σ.set i (?h ?ka)) H' { s'' with heap:=h' }:=I''.turned (t':=s''.toks) (?Qi ((B53.2 b hb).trans e)) hHC k1 k3 k4 k5;show#[_,H',I4,q]
universe e9
section
variable[?gm][?dp]
def HA[?du][?c0][?tW] [?K0]:?Lm ?eI tc:=?Bu
def yI[?du][?c0][?Ko] [?K0]:?Lm ?eq tc:=?Bu
def Xi{lo:Int}{n:Nat}[?c0] (hs:?NM ?s4) [?LT]:?Lm ?fV tc:=by apply#[?OX n ?eG,?oG,?_];rintro i m ys τ H ⟨rfl,hi,p⟩;cases hlt:i<n;{apply ?MF hlt ?HJ;let ?ji:=y;subst e y;show hs i ys τ _ hlt p};ext me;show ?x #[?a4,?Cm]
universe e9
universe L2
namespace L2
open PySem PySem.Spec PyProof.Rows PySem.SeqAt
inductive D where| non | bl (b:Bool) | int (i:Int) | str (x:Str) | tup [?j4] | lst [?j4]
mutual abbrev Rep[?k](H:Hp):?Lt V D| v,?O=>v=?O| v,?bc=>v=?bc| v,?Z=>v=?Z| v,?dQ=>v=?dQ| v,?ec=>∃a vs,?dH/\?OA a vs/\?dc| v,?hV=>∃a vs,?dH/\?MC a vs/\?dc abbrev Reps[?k](H:Hp):?Lt ?B ?am| vs,[]=>?kJ| vs,?ep=>∃v r,?Be/\?dP/\?Mm r ds end
mutual abbrev imm:?qY| ?kR=>false| ?ec=>?o3| _=>true abbrev imms:?JL| []=>true| ?ep=>imm d&&?o3 end
mutual abbrev dep:D->Nat| ?hV=>?dh+1| ?ec=>?dh+1| _=>0 abbrev deps:?am->Nat| []=>0| ?ep=>max ?rq ?dh end
mutual abbrev eqD:D->?qY| ?O,?O=>true| .bl a,?bc=>?jR| .bl a,?g1=>(if a then 1 else 0)==b| ?p a,?bc=>a==(if b then 1 else 0)| ?p a,?g1=>?jR| ?bU a,?bU b=>?jR| ?aV a,?aV b=>?fr| ?H a,?H b=>?fr| _,_=>false abbrev eqDs:?am->?JL| [],[]=>true| a::r,b::q=>eqD a b&&eqDs r q| _,_=>false end
mutual def DA(d:D):eqD d d=true:=by cases d with| non=>rfl| bl b=>simp[eqD]| int b=>simp[eqD]| str b=>simp[eqD]| tup ds=>ext gl;show ?q1 ds| lst ds=>ext gl;show ?q1 ds def eqDs_refl[?j4]:eqDs ds ds=true:=by cases ds with| nil=>rfl| cons d r=>simp only[eqDs,qb7];show#[DA d,?q1 r] end
def eqDs_len:∀{a b:?am},?Q2 ?fr->?kb| [],[],_=>rfl| [],?cS,h=>?zk| ?cS,[],h=>?zk| x::a,y::b,h=>by simp only[eqDs,qb7]at h;rw[qd9,qd9,?x0 h.2]
def CZ:∀(a b:?am),?kb->?fr=(?cL a.length).all λj=>match a[j]?,b[j]? with | ?b8,?gT=>eqD x y | _,_=>true
 | [],[],_=>by simp[eqDs]
 | [],?cS,h=>?dO
 | ?cS,[],h=>?dO
 | x::a,y::b,h=>by
   let h':?kb:=?pE
   rw[qd9,List.range_succ_eq_map,qy6,qr7];simp only[eqDs,CZ a b h']
   congr 1
structure Zo(H H':Hp):Prop where
 tup:?l3
 frz:?pF
section
variable[?a5]{H H' H1 H2:Hp}{a l p:Addr}[?bK]{o:HO}
def Same.t[?n9]:?hQ:=#[λb xs h=>x b _ h,λb o u h=>x b _ h]
def Zo.lst(h:?e6):Zo H ?CX:=#[λb ys e=>?JP,λb ob u e=>?JP]
def Same.new(h:?m7):?bt H ?CX:=?R9 (by rw[Aj ?tI];show e)
def Same.turn(x:?hO)(h:?m7):?bt H (?s H1 l o):=?R9 (by rw[Aj ?tI];show x b u e)
def SqT.t(x:?hQ)(h:?bF):?xc:=?M5 (x.tup _ _ h) (x.frz _ _ _ h)
def Same.seqT[?n9](h:?bF):?xc:=h.t x.t
mutual def Rep.t(x:?hQ){v:V}{d:D}(hi:imm d=true)(h:?dP):?vD:=by cases d with| non=>show h| bl b=>show h| int i=>show h| str x=>show h| tup ds =>ext iv;show#[a,vs,e,q.t x,Reps.t x (by simpa[imm]using hi) r]| lst ds=>simp[imm]at hi def Reps.t(x:?hQ)[?f0](hi:?Q2 ?o3)[?u2]:?Gv:=by cases ds with| nil=>show h| cons d r =>let ?xk:=h;simp only[imms,qb7]at hi;show#[v,q,e,Rep.t x hi.1 h1,Reps.t x hi.2 h2] end
mutual def Rep.same[?n9]{v:V}{d:D}(h:?dP):?vD:=by cases d with| non=>show h| bl b=>show h| int i=>show h| str x=>show h| tup ds =>ext iv;show#[a,vs,e,x.seqT q,?qn x r]| lst ds =>ext iv;show#[a,vs,e,x.seq q,?qn x r] def Reps.same[?n9][?f0][?u2]:?Gv:=by cases ds with| nil=>show h| cons d r =>let ?xk:=h;show#[v,q,e,?zR x h1,?qn x h2] end
def Reps.length:∀[?f0],?dc->vs.length=ds.length| vs,[],h=>by ext tp;rfl| vs,?ep,h=>by let ?vm:=h;rw[qd9,qd9,Reps.length h2]
def Reps.get:∀[?f0]{i:Nat}{d:D},?dc->?rE->∃v,?gv/\?dP| vs,[],i,d,h,e=>?pv| vs,?oX,0,d,h,e=>by let#[v,r,?g,h1,_]:=h;simp only[qv4,Option.some.injEq]at e;subst e;show#[v,?v,h1]| vs,?oX,?I,d,h,e=>by let ?vm:=h;let ?FO:=Reps.get (i:=i) h2 ?fg;show#[u,by simpa using e1,e2]
def Reps.getV:∀[?f0]{i:Nat}{v:V},?dc->?gv->∃d,?rE/\?dP:=λ{vs ds i v} h e=>by let hl:=h.length;let hi:?r7:=?Hl;obtain⟨d,hd⟩:∃d,?rE:=#[ds[i]' ?i,?bQ];let ?FO:=h.get hd;rw[e]at e1;cases e1;show#[d,hd,e2]
def Reps.append:∀{vs ws:?B}{ds es:?am},?dc->?Mm ws es->?Mm ?xr (ds++es)| vs,ws,[],es,h,h'=>by ext tp;show h'| vs,ws,?ep,es,h,h'=>?PF (r++ws) (Reps.append h2 h')
def Reps.one{v:V}{d:D}(h:?dP):?Mm [v] [d]:=#[v,[],?g,h,?g]
def Reps.snoc[?f0]{v:V}{d:D}[?u2](h':?dP):?Mm (vs++[v]) ?qT:=h.append (.one h')
def Reps.take:∀[?f0] (n:Nat),?dc->?Mm (vs.take n) (ds.take n)| vs,ds,0,h=>by simp[Reps]| vs,[],?a3,h=>by ext tp;simp[Reps]| vs,?ep,?a3,h=>?PF (r.take n) (Reps.take n h2)
abbrev F4[?d6]:?am:=?lS D.int
meta abbrev tI[?d6]:D:=?aV ?gp
def GF:∀ns:?R,imms ?gp=true| []=>rfl| ?kT=>by exact ?Q2 (imm ?dD&&imms ?gp);rw[GF ns];rfl
def xJ[?d6]:imm ?vq=true:=GF ns
def cO:∀xs:LLInt,imms ?cr=true| []=>rfl| ?hW=>by exact ?Q2 (imm ?qu&&imms ?cr);rw[cO xs,xJ];rfl
def gR:∀a b:?R,?yF=?s0| [],[]=>?sh| [],?cS=>?sh| ?cS,[]=>?sh| x::a,y::b=>by exact(eqD ?oD (?p y)&&?yF)=_;rw[gR a b];ext gl;cases e:x=y;{subst e;cases e2:a=b<;>simp[e2]};simp[e]
def XX(a b:?R):eqD (tI a) (tI b)=?s0:=by ext gl;show gR a b
def Kj:∀[?e2][?d7],?Mm vs ?gp↔vs=?cv| vs,[]=>Iff.rfl| vs,?kT=>by constructor;{rintro ⟨v,r,rfl,h1,h2⟩;let mV:v=?dD:=h1;rw[mV,Kj.mp h2];rfl};rintro rfl;show#[?dD,?cv,?C,?xb]
universe e9
section
variable{X:Cx}[?T]
def QH[?m][?aJ][?j1][?u3](h':?wg):False:=by
 let(?OU r #[o,e,c,n,d]):=?b9 h;let(?OJ c'):=?bI h';rw[e]at e';cases e';rw[c]at c';let z:(?dE:String)=?cy:=by injection c'
 show ?P z ?ab
mutual
def Rep.inj[?m]{v:V}{d e:D}(h:?Ph v d)(h':?pk):d=e:=by
 cases d with
 | non=>cases (?NZ ?O);cases e<;>first | rfl | (exfalso;first | (cases (?Mu V.non)) | ext mh)
 | bl b=>cases (?NZ ?bc);cases e<;>first | (cases ?EA;rfl) | (exfalso;first | (cases ?EA) | ext mh)
 | int b=>cases (?NZ ?g1);cases e<;>first | (cases ?yB;rfl) | (exfalso;first | (cases ?yB) | ext mh)
 | str b=>cases (?NZ (?bU b));cases e<;>first | (cases ?EO;rfl) | (exfalso;first | (cases ?EO) | ext mh)
 | tup ds =>
   let#[a,vs,rfl,q,r]:=h;cases e with
   | tup es =>
     ext mb;let e1:=?uo q q';subst e1;rw[?wh]
   | lst es =>
     ext mb;show(QH I q q').elim
   | non=>ext dr
   | bl _=>ext dr
   | int _=>ext dr
   | str _=>ext dr
 | lst ds =>
   let#[a,vs,rfl,q,r]:=h;cases e with
   | lst es =>
     ext mb;let e1:=?jm q q';subst e1;rw[?wh]
   | tup es =>
     ext mb;show(QH I q' q).elim
   | non=>ext dr
   | bl _=>ext dr
   | int _=>ext dr
   | str _=>ext dr
 def Reps.inj[?m][?e2]{ds es:?am}(h:?hH)(h':?a7 ?u H vs es):ds=es:=by
 cases ds with
 | nil =>
   cases (show vs=[] from h);cases es with
   | nil=>rfl
   | cons e es=>ext ip
 | cons d ds =>
   let#[v,r,rfl,h1,h2]:=h;cases es with
   | nil=>cases (show v::r=[] from h')
   | cons e es =>
     let#[v',r',z,mV,h2']:=h';cases z;rw[?oV I h1 mV,?uh I h2 h2']
end
abbrev EqD(X:Cx)(H:Hp)[?c9](d:D):Prop:=∀(A:Around) (x y:V) (u v:Value) (e:D),?NQ ?rq->?sQ->?Ph y e->?bq->?oz->RcAt A s u v ?yk/\EqAt A s u v ?yk
def VO[?m]{ds es:?am}{vs ws:?B}{us us':?Q}[?aH](hu:?Cp)(r:?hH)(r':?a7 ?u H ws es)(rv:?eT)(rv':?aA ws us')
 (ih:?zC) (hdm:∀d∈ds,?wQ):∀j (h1:j<us.toArray.size) (h2:j<us'.toArray.size),EqAt A s ?zg ?v1 (match ds[j]?,es[j]? with | ?b8,?gT=>eqD x y | _,_=>true):=by
 intro j h1 h2;ext tQ;let mV:j<us.length:=?lE
 let h2':j<us'.length:=?sw
 let e1:?PJ ds ?Am:=?bQ
 let e2:?PJ es (es[j]' ?i):=?bQ
 have#[v,ev,rd]:=?eH e1;have#[w,ew,re]:=r'.get e2;have#[u,eu,ru]:=?fH ev;have#[u',eu',ru']:=rv'.get ew
 let f1:?zg=u:=by
  let:?PJ us (us[j]):=?v
  rw[eu]at this;let:=?oh;ext dx
 let f2:?v1=u':=by
  let:?PJ us' (us'[j]):=?v
  rw[eu']at this;let:=?oh;ext dx
 rw[f1,f2,e1,e2];let hm:?Am∈ds:=qf2 _;show(ih _ hm A v w u u' _ (by let:=hdm _ hm;ext d) rd re ru ru').2
def aY:∀{ds:?am}{d:D},d∈ds->?wQ| ?oX,d,h=>by simp only[deps];rcases ?fX with rfl | h;{ext d};let:=aY h;ext d
def fS{a b:?am}(h:¬?kb):?Nc ?fr:=by cases q:?fr with| false=>rfl| true=>show ?P (?x0 q) h
mutual
def xY[?m](d:D):?vZ:=by
 intro A x y u v e hu hx hy rx ry;cases d with
 | non =>
   cases (show x=.non from hx);cases (show u=Value.none from rx);cases e with
   | non=>ext gY;show#[.none_none,?q4]
   | bl b=>ext gX;show#[.none_bool b,.none_bool b]
   | int i=>ext gc;ext gj;show#[.none_int i t,.none_int i t]
   | str z=>ext gd;ext gj;show#[.none_str z t,.none_str z t]
   | tup es=>ext dq;ext mi;show#[?Bm,?Bm]
   | lst es=>ext dq;ext mk;show#[?Ej,?Ej]
 | bl c =>
   cases (show x=.bl c from hx);cases (show u=Value.bool c from rx);cases e with
   | non=>ext gY;show#[.bool_none c,.bool_none c]
   | bl b=>ext gX;show#[.bool_bool c b,.bool_bool c b]
   | int i=>ext gc;ext gj;show#[?v3,?v3]
   | str z=>ext gd;ext gj;show#[?B7,?B7]
   | tup es=>ext dq;ext mi;show#[?zE,?zE]
   | lst es=>ext dq;ext mk;show#[?zb,?zb]
 | int c =>
   cases (show x=.int c from hx);let#[t,rfl]:=rx;cases e with
   | non=>ext gY;show#[.int_none c t,.int_none c t]
   | bl b=>ext gX;show#[?J5,?J5]
   | int i=>ext gc;ext U;show#[?B0,?B0]
   | str z=>ext gd;ext U;show#[?DE,?DE]
   | tup es=>ext dq;ext mi;show#[?xV,?xV]
   | lst es=>ext dq;ext mk;show#[?J2,?J2]
 | str c =>
   cases (show x=.str c from hx);let#[t,rfl]:=rx;cases e with
   | non=>ext gY;show#[.str_none c t,.str_none c t]
   | bl b=>ext gX;show#[?uc,?uc]
   | int i=>ext gc;ext U;show#[?DW,?DW]
   | str z=>ext gd;ext U;show#[?zT,?zT]
   | tup es=>ext dq;ext mi;show#[?H9,?H9]
   | lst es=>ext dq;ext mk;show#[?Cu,?Cu]
 | tup ds =>
   ext LE;let ?jt:=?b9 q;ext Kb
   cases e with
   | non=>ext gY;show#[?JC,?JC]
   | bl b=>ext gX;show#[?Cs,?Cs]
   | int i=>ext gc;ext U;show#[?zz,?zz]
   | str z=>ext gd;ext U;show#[?HS,?HS]
   | lst es=>ext mY;let ?AY:=?bI q';show#[?B3,?B3]
   | tup es =>
     let hy':=hy;ext mY;let ?AG:=?b9 q'
     let main:?OI ?ec ?aV:=by
      let:=RcAt.tuples (A:=A) p p' ?i ?HY;ext tQ;ext Kq
      ext Kn
      rw[e1,e2]at this;ext gl;cases hl:?BQ
      . rw[?Dv];rw[←hl,qz8]at this;ext dx
      . rw[fS hl];let z:?Nc (ds.length==es.length):=by simpa using hl
        rw[z,Bool.and_false]at this;show this
     apply ?vN;cases hab:a=b
     . subst hab;let e3:D.tup ds=D.tup es:=?BZ;rw[e3,DA];show ?q4
     . show ?F4
 | lst ds =>
   ext LE;let ?jt:=?bI q;ext Kb
   cases e with
   | non=>ext gY;show#[?Df,?Df]
   | bl b=>ext gX;show#[?vM,?vM]
   | int i=>ext gc;ext U;show#[?uK,?uK]
   | str z=>ext gd;ext U;show#[?JQ,?JQ]
   | tup es=>ext mY;let ?AY:=?b9 q';show#[?CI,?CI]
   | lst es =>
     let hy':=hy;ext mY;let ?AG:=?bI q'
     let main:?OI ?hV ?H:=by
      ext tQ;ext Kq
      ext Kn
      ext gl;cases hl:?BQ
      . let:=RcAt.lists (A:=A) ?ad ?t3 ?i ?i ?HY;rw[e1]at this;rw[?Dv];show this
      . rw[fS hl];show RcAt.lists_lengths ?ad ?t3 (by simpa[e1,e2]using hl) ?i
     apply ?vN;cases hab:a=b
     . subst hab;let e3:D.lst ds=D.lst es:=?BZ;rw[e3,DA];show ?q4
     . show ?F4
 def eqDs_ok[?m][?j4]:?zC:=by
 cases ds with
 | nil=>show λ_ h=>?jY
 | cons d0 r =>
   intro d h;rcases ?fX with e | h
   . show e▸xY I d0
   . show eqDs_ok I r d h
end
universe e9
universe L2
namespace L2
open PySem PySem.Spec PyProof.Rows PySem.SeqAt
section
variable{X:Cx}
abbrev eqF(X:Cx)(H:Hp)(d:D)[?cj]:Bool:=@decide (∃v e,?cQ/\?pk/\?Q2 ?lB) ?lu
def OV[?T][?m]{d e:D}{v:V}[?aq][?e1](h:?pk):eqF X H d u=?lB:=by cases q:?lB with| true=>show @qe7 _ ?lu #[v,e,r,h,q]| false =>apply @qi5 _ ?lu ?_;rintro ⟨v',e',r',h',q'⟩;let:=?kE;subst this;rw[?oV I h h']at q;rw[q]at q';cases q'
def oW[?T][?m][?aH]{x:V}[?f6]{d:D}[?e2][?aD]{ds:?am}(hu:?Cp)(hx:?sQ)(rx:?dU) (r:?hH) (rv:?eT):∀y,y∈us.toArray->EqAt A s y v (eqF X H d y):=by intro y hy;(let hy':y∈us:=by simpa using hy);let ?qG:=qf9 hy';let hlt:i<us.length:=?hL;let l1:=rv.length;obtain⟨w,hw⟩:∃w,?ps=?fh:=#[vs[i]' ?i,?bQ];let#[u,hu2,ru]:=?fH hw;rw[hi]at hu2;cases hu2;let#[e,he,re]:=r.getV hw;rw[OV I ru re];let hm:e∈ds:=qa6 he;show(xY I e A w x y v d (by let:=aY hm;ext d) re hx ru rx).2
def RQ[?T][?m]{d:D}:∀[?e2][?aD]{ds:?am},?hH->?eT->us.any ?h3=?jz| vs,us,[],r,rv=>by cases (?ME ?kJ);cases rv;rfl| vs,us,e::ds,r,rv=>by let#[v,q,?g,?a1]:=r;cases rv with| cons r1 r2=>rw[qo3,qo3,OV I r1 h1,RQ I h2 r2]
abbrev Bo4[?k](H:Hp)(y:V)[?j4]:Prop:=?MI y ?hV\/?MI y ?ec
inductive Ap6[?k](n:Nat)(neg:Bool)[?c2]:Prop| mk:∀d ds,?iU->(Bo4 K H y ds)->?yq->(?Pt (if neg then ! ?jz else ?jz))->?wi
abbrev Be0[?k](n:Nat)(neg:Bool):R2:=?M4 ?wi
def SY{n:Nat}[?mt]:?Ou ?u:=by ext d4;let#[d,ds,hx,hs,hn,q]:=h;let fin:∀[?aD][?e2],?hH->?eT->?MG (?cw (!us.toArray.any ?h3)) s:=λr rv =>#[.bl (! ?jz),H,I,by exact ?e5 _=?e5 _;rw[List.any_toArray,RQ I r rv],q];rcases hs with⟨a,vs,rfl,hq,r⟩|⟨a,vs,rfl,hq,r⟩;{cases ry;let ?jt:=?bk;show notIn_listAt ?h3 ?ad ?Ja ?IM};cases ry;let ?jt:=?eR;show notIn_tupleAt ?h3 p ?Ja ?IM
inductive sA[?k](n:Nat)(x:V)[?ah][?b6]:Prop| mk:∀ds y d j,?Cw->(?MI x ?hV)->(?MI y d)->?yq->(ds.findIdx? ?Gz=?cT)->(Q ?yO H)->?zi
abbrev VT[?k](n:Nat):?gK:=?Nr ?zi
def WU{n:Nat}[?mt]:?Pj ?u:=by ext mW;have#[ds,y,d,j,?g,#[a,ws,?g,hq,r],hy,hn,hj,q]:=h;cases rx;apply ?hP;let ?kp:=rv.one;let(?OT rw' p):=?bk;let l1:=r.length;let l2:=rw'.length;let#[hlt,hit,hno]:=List.findIdx?_eq_some_iff_getElem.mp hj;(let at':∀m (hm:m<its.toArray.size) (hm':m<ds.length),eqF X H d ?BM=eqD ds[m] d:=λm hm hm'=>by let#[w,hw,re]:=?eH (i:=m) (d:=ds[m]) ?v;let#[u',hu',ru']:=rw'.get hw;(let e1:?BM=u':=by (let hm2:m<its.length:=by simpa using hm);(let:its[m]?=?h its[m]:=?v);rw[hu']at this;let:=?oh;ext dx);rw[e1];show OV I ru' re);let#[o,k,ho,hc,hdn,hd]:=id p;let ?rd:=o;apply ?hN;simp only at hc hdn hd;subst hc hdn hd;let hsz:?Lx ds.length:=?i;(let big:?sv<?bg:=?Gw);apply ?fP PySem.F.slot_list_index ?iY PySem.F.entry_list_index (PySem.F.args_list_index_2 _ _) (list_indexAt a ?a8 k ?aT sl u ?h3 j ?bQ ?i ?_ ?_) #[ho,?Oz hy ru rw',?_];{rw[at' j ?bQ hlt];show hit};{intro m hm hmj;rw[at' m hm ?i];let:=hno m hmj;simpa using this};show#[?yO,?go,q]
abbrev TR(n:String):?qY| ?O=>false| ?dK=>n==?cD || n==?fi| ?co=>n==?cD| ?bo=>n==?iA| ?aV _=>n==?dE| ?kR=>n==?cy
abbrev tyD:D->String| ?O=>"NoneType"| ?dK=>?fi| ?co=>?cD| ?bo=>?iA| ?aV _=>?dE| ?kR=>?cy
def Ay2[?a5]{n:String}{d:D}(hn:?nt):PySem.W.kitOne K (?aj (tyD d)) ?pM=?h ?rw:=by rcases hn with rfl | rfl | rfl | rfl | rfl | rfl<;>cases d<;>(unfold PySem.W.kitOne PySem.W.kitCls PySem.W.subIn tyD TR;first | rfl | ext ay)
def MI:?Lw ?oO (∃x n d,?uR/\?nt/\?sQ/\?wa):=by ext dt;let#[x,n,d,?g,hn,hx,q]:=h;let#[u,v,?g,rx,rt]:=BD r;cases rt;let k:=Ay2 (K:=X.K) (d:=d) hn;let fin:∀tk,?MG (?cw ?rw) ({ s with toks:=tk }):=λtk=>#[?BW,H,I.tok tk,?g,q];cases d with| non=>cases (?NI ?O);cases (show ?on from rx);show ?M8 PySem.W.kitx_none ?kz| bl b=>cases (?NI ?bc);cases (show u=?e5 b from rx);show ?M8 PySem.W.kitx_bool ?kz| int b=>cases (?NI ?g1);ext f1;show ?M8 PySem.W.kitx_int ?kz| str b=>cases (?NI (?bU b));ext f1;show ?M8 PySem.W.kitx_str ?kz| tup ds =>let ?ya:=hx;cases rx;let(?OU _ #[o,e,c,_]):=?eR;show ?M8 PySem.W.kitx_tuple ?xd| lst ds =>let ?ya:=hx;cases rx;let(?OU _ #[o,_,e,c,_]):=?bk;show ?M8 PySem.W.kitx_list ?xd
inductive yU[?k][?c2]:Prop| mk:?QA (?DA->?Nk ?nS ?J8)
abbrev Ak7[?k]:R2:=?M4 ?J8
def Ab1:?NK Ak7 ?u:=by ext d4;let#[a,b,xs,ys,?C,ha,hb,hz,q]:=h;cases hx:xs=[];{subst hx;cases rx;cases ry;let ?qk:=?b9 ha;let ?qQ:=?b9 hb;cases r1;let ?FC:=id p1;let ?xm:=id p2;simp only at hc hd hc2 hd2;subst hc hd hc2 hd2;show ?MQ (tuple_addW0 a b _ _ n n2 dd dd2 sl sl2 ?v) #[ho,ho2,#[?as,?f7,q b H ?Ik ?ef]]};apply Ab2 Ae s σ H ?K ?as v u Q I rx ry (?PY (λe=>?_) (λe p hp=>?_));{subst e;show q a H ?Ik (by simpa using ha)};show ?z9
inductive YS[?k][?te][?b6]:Prop| mk:∀a xs,?bn->?bF->?vT->?Nk ?jh ?Dg
abbrev Ak5[?k]:?he:=?O8 ?Dg
def ZR:?PP Ak5:=by ext tT;let ?ul:=h;show As4 Ae s σ H ?K v vl vu lo hi sl Q I rx hs pl pu #[a,xs,?g,hx,hw,λp hp=>?z9]
inductive SD[?k][?c2]:Prop| mk:∀l b xs zs,?hZ->?oy->(?MC l xs)->(?MC b zs)->?Py (?Lx (xs.length+zs.length)) (?H (xs++zs)) ?yp
abbrev IK[?k]:R2:=?M4 ?yp
def WG:?NK IK ?u:=by ext d4;have#[l,b,xs,zs,?C,hl,hb,hz,q]:=h;cases rx;cases ry;have ?qk:=?bI hl;have ?qQ:=?bI hb;have#[?rd,n,ho,hc,hdd,hd]:=id p1;have#[?JN,n2,ho2,hc2,hdd2,hd2]:=id p2;ext L1;apply ?kH ?iY ?m1 noFill_list_add seq_list_add PySem.F.slot_list_add PySem.F.entry_list_add (PySem.F.args_list_add_2 _ _) (list_addW l b ?a8 its2.toArray n n2 dd dd2 sl sl2 (by rw[qc9,qc9,←r1.length,←r2.length];show hz)) ?vU;rw[show its.toArray++its2.toArray=(its++its2).toArray by simp];show(?Op ?ai ?AI ?yx)
def uM[?bY]:?Lw ?sm (∃(p:Addr) (bs:?E ?cO),?cP/\?RD p ?BP/\?EM):=by ext dt;let#[p,bs,?g,hq,q]:=h;ext KG;(let rel:?N2 (∃b,?jH=?h b/\v=?oL):=λi v e=>by ext KL;ext tf;(let hb:?jH=?h ?HA:=?bQ);let ?f9:=?PT V.bl ?HA;rw[e']at hu;cases hu;show#[_,hb,ru]);apply call_all_walk ?xJ;apply#[?N,?I4,?yi,?hz,_,_,?Gs,?g,?As,?yh,?_,λh' tk k=>?_];ext KS;{intro i v s' Q' E' hv hQ;let#[b,hb,?g]:=rel i v hv;dsimp only at hQ;rw[hb]at hQ;show ql9 hQ};(let e:(?cL ?hz).all ?Gs=?CZ:=by ext tf;rw[qc9,←l1];rw[qn9,qd4,qd4];constructor;{intro hx b hb;let ?qG:=qf9 hb;let:=hx i (qe1.mpr ?hL);rw[hi]at this;show this};intro hx i hi;let hlt:=?yC;(let hb:?jH=?h bs[i]:=?v);rw[hb];show hx _ (qf2 _));rw[e];ext KB;show#[?ER,H,I1,?g,q]
universe e9
structure Has[?c3][?k][?ds](x:Str)[?ml]:Prop where
 ex:∃(f:Addr) (fd:FuncData),mg x=?nW/\?hR/\?m4
section
variable{X:Cx}[?Kw][?aP]{t:TA}
def Ai(h:?OK Has x)[?d5][?c4][?LQ][?mc][?gW] (hpl:?o (?ck (·.1)=false) ?A):?Ma ?hb ?vh:=by have#[f,fd,?a1,h3,h4]:=h.ex;show Aa8 h4 ?gt hg h1 h2 h3 ?J kX ha hdb he hpl
universe e9
def boot_intT:?N7 ?cD ?cD:=?bB
def dS:?N7 ?fi ?fi:=?bB
def Lh:?Qn ?dE ?bO:=?bB
def Cy:?Qn ?cy ?bE:=?bB
def Dz:?N7 ?l4 ?l4:=?bB
def HF:?Qn "max" ?DB:=?bB
def UN:?Qn "min" ?ww:=?bB
def Ff:?Qn "all" ?sm:=?bB
def B9:?Qn ?vY ?oO:=?bB
universe L2
namespace L2
open PySem PySem.Spec PyProof.Rows
section
variable{X:Cx}[?a5]{tg l:Expr}{tl:TE}{n:Nat}
def F3.imp{X:Cx}{f:Value}{r r':?cE}(h:F3 X f r)(i:∀xs H Q,r' xs H Q->?GW):F3 X f r':=λAe s σ H xs us Q I v q=>h Ae s σ H xs us Q I v (i xs H Q q)
inductive YT[?k][?aQ][?b6]:Prop| mk:?Qs ?CQ (?x3->?EL)
abbrev Bd7[?k]:?cE:=?QD ?EL
inductive MQ[?k][?aQ][?b6]:Prop| mk:?Qs ?CQ (?Jm->?xg)
abbrev QC[?k]:?cE:=?QD ?xg
inductive rZ[?k][?aQ][?b6]:Prop| mk:?Qs ((?RE ?Gm ?Ep)) ?FA
abbrev At0[?k]:?cE:=?QD ?FA
inductive mR[?k][?aQ][?b6]:Prop| mk:∀x n d,?uR->?nt->?iU->?wa->?AT
abbrev zV[?k]:?cE:=?QD ?AT
inductive yV[?k][?aQ][?b6]:Prop| mk:∀(p:Addr) (bs:?E ?cO),?cP->(?MC p ?BP)->?EM->?IP
abbrev Be2[?k]:?cE:=?QD ?IP
def Ys[?a9]:?NK Ak7 K:=by subst hK;show Ab1
def Hh[?a9]:?NK IK K:=by subst hK;show WG
def P3[?a9]:SlR X (Ak5 K):=by subst hK;show ZR
def Fi[?a9]:SlR X (ZU K):=by subst hK;show zS
def Ay[?a9]:IxR X (Bd9 K):=by subst hK;show Ad8
def Ax[?a9]:IxR X (Bd8 K):=by subst hK;show Ay9
def Aw[?a9]:?Oh ?C2 Bd7:=?QI jQ
def Dg[?a9]:?Oh ?bE QC:=?QI JP
def Nj[?a9]:?Oh ?bO At0:=?QJ EV ?xv ?xv
def Gd[?a9]:?Oh ?oO zV:=?QJ MI ?Dq ?Dq
def Eo[?bY][?a9]:?Oh ?sm Be2:=by subst hK;show(uM hc).imp (?MK ?DR ?DR)
def Q9[?mt][?a9]:?Ou K:=?MU SY hu
def tQ[?mt][?a9]:?Pj K:=?MU WU hu
def B6[?n6][?a9]:?NL An3 K:=?MU Aa2 hl
def Yr[?n6][?a9]:?NL Bh9 K:=?MU At6 hl
variable{o e:Expr}[?aP][?KX]
def Jw[?KD][?c4][?a9] [?Jw] (hplain:?o (?o4 (·.1)=false) ?A) : ?Ma ?zO (tBM K T r to t):=by subst hK;show Be7 pa slot hty hm ho ha hbase hfew hline hs hplain
def Cq[?aP]{k:Nat}{t:zL}{n:Nat}[?aI][?bY](h:?yo)[?a9] [?Kl] (hst:?o (?Bw (·.1)=none) ?A):?PG K:=by subst hK;show At7 hc h hn hst
universe e9
universe L2
namespace Hb
abbrev Au[?c7][?d9]:LLInt :=if ?hC then(if w.length<2 then [] else(?cL w.length).map λi=>w.take i++?pg ?I) else if ?Ed then [] else if ?cV then(if ?xP then [[],[]] else w.map λl=>[l]) else ?pg 1::((?cL ?px).map λi=>w.take i++[(w.getD i 0+w.getD ?I 0)%fam]++?pg (i+2))++[w.take ?px]
abbrev Gz[?d9][?c7]:Prop :=(?hC/\1<=w.length/\w.length<=4)\/(?cV/\(?Ed\/?xP\/?FD))\/(?g4/\w.length<=3)
abbrev lv[?d9][?c7]:Nat:=if ?hC then ?px else if ?cV then(if ?FD then 2 else w.length) else w.length
def Wd[?f5][?f4](h:?af) : (?hC/\(?qs\/?wH\/?pn\/∃a b c d,w=?sb)) ∨ (?cV/\(w=[]\/?qs\/?pn)) ∨ (?g4/\(w=[]\/?qs\/?wH\/?pn)):=by rcases h with⟨h0,h1,h2⟩|⟨h0,h1⟩|⟨h0,h1⟩;{left;apply ?nY;match w,h1,h2 with| [a],_,_=>show ?pU| ?bV,_,_=>show ?uS| ?eK,_,_=>show ?q (?q (?x ?wt))| ?sb,_,_=>show ?q (?q (?q #[a,b,c,d,?g]))| _::?od,_,h=>simp at h};{right;left;apply ?nY;match w,h1 with| [],_=>show ?b0| [a],_=>show ?q ?pU| ?bV,h=>simp at h| ?eK,_=>show ?H1| ?od,h=>simp at h};right;right;apply ?nY;match w,h1 with| [],_=>show ?b0| [a],_=>show ?q ?pU| ?bV,_=>show ?q ?uS| ?eK,_=>show ?q ?H1| ?od,h=>simp at h
def Bm0(a:Int):Au [a] 0=[]:=rfl
def Bl9(a b:Int):Au ?bV 0=[[b],[a]]:=rfl
def A40(a b c:Int):Au ?eK 0=[?mB,[a,c],?bV]:=rfl
def A39(a b c d:Int):Au ?sb 0=[[b,c,d],[a,c,d],[a,b,d],?eK]:=rfl
section
variable[?f5]
def Bl8(h:?cV):?Nv []=[]:=?GX
def XU(h:?cV)(a:Int):?R1 a:=by unfold Au;rw[?dJ,?iF,?hr,?qa]
def A36(h:?cV)(a b c:Int):?CU=[[a],[b],[c]]:=by unfold Au;rw[?dJ,?iF,?hr,?iF];rfl
def Bl6(h:?g4):?Nv []=[]:=?GX
def xT(h:?g4)(a:Int):?R1 a:=?tC
def JJ(h:?g4)(a b:Int):?Nv ?bV=[[b],[?v0],[a]]:=?tC
def A35(h:?g4)(a b c:Int):?CU=[?mB,[?v0,c],[a,(b+c)%fam],?bV]:=?tC
def Rh{w f:?R}(h:?af)(hf:f∈?aU):Gz fam f/\lv fam f+1=?ft:=by ext tL;{subst h0;rw[Bm0]at hf;show ?p9};{subst h0;rw[Bl9]at hf;simp only[qe0,qk1,or_false]at hf;rcases hf with rfl | rfl<;>simp[Gz,lv]};{subst h0;rw[A40]at hf;simp only[qe0,qk1,or_false]at hf;rcases hf with rfl | rfl | rfl<;>simp[Gz,lv]};{subst h0;rw[A39]at hf;simp only[qe0,qk1,or_false]at hf;rcases hf with rfl | rfl | rfl | rfl<;>simp[Gz,lv]};{rw[Bl8 h0]at hf;show ?p9};{rw[?ig]at hf;simp only[qe0,qk1,or_false,or_self]at hf;subst hf;let e:?i3:=?i;simp[Gz,lv,h0,e]};{rw[?oq]at hf;let e:?i3:=?i;simp only[qe0,qk1,or_false]at hf;rcases hf with rfl | rfl | rfl<;>simp[Gz,lv,h0,e]};{rw[Bl6 h0]at hf;show ?p9};{rw[?iR]at hf;let e:?i3:=?i;let e':¬?cV:=?i;simp only[qe0,qk1,or_false,or_self]at hf;subst hf;simp[Gz,lv,h0,e,e']};{rw[?fj]at hf;let e:?i3:=?i;let e':¬?cV:=?i;simp only[qe0,qk1,or_false]at hf;rcases hf with rfl | rfl | rfl<;>simp[Gz,lv,h0,e,e']};rw[?nk]at hf;ext tq;ext tn;simp only[qe0,qk1,or_false]at hf;rcases hf with rfl | rfl | rfl | rfl<;>simp[Gz,lv,h0,e,e']
def Mz[?f4](h:?af):?JE=(if ?lg then 0 else ?ft+1)/\?ft<=3:=by ext tL;{subst h0;simp[Bm0,lv]};{subst h0;simp[Bl9,lv]};{subst h0;simp[A40,lv]};{subst h0;simp[A39,lv]};(all_goals ext tq);{simp[Bl8 h0,lv,e,h0]};{simp[?ig,lv,e,h0]};{simp[?oq,lv,e,h0]};(all_goals ext tn);{simp[Bl6 h0,lv,e,e']};{simp[?iR,lv,e,e']};{simp[?fj,lv,e,e']};simp[?nk,lv,e,e']
def BG{i j:Nat}(h:i<j)(hj:j<3):?xs :=?Nf 3 ?xs
def rA{i j:Nat}(h:i<j)(hj:j<4):?Cb :=?Nf 4 ?Cb
def faces_agree{w f g:?R}{i j:Nat}(h:?af)(hl:2<=?ft)(hij:i<j)(hf:?PJ ?aU f)(hg:?OD ?aU g):?If[i]?=(?Nv g)[j-1]?:=by let hj:j<?JE:=(?d3 hf).1;ext tL;{subst h0;simp[lv]at hl};{subst h0;simp[lv]at hl};{subst h0;rw[A40]at hf hg hj;let hc:=?r3;rcases hc with⟨rfl,rfl⟩|⟨rfl,rfl⟩|⟨rfl,rfl⟩;{obtain rfl:=?aZ;obtain rfl:=?aY;rfl};{obtain rfl:=?aZ;obtain rfl:=?aY;rfl};obtain rfl:=?aZ;obtain rfl:=?aY;rfl};{subst h0;rw[A39]at hf hg hj;let hc:=?CF;rcases hc with⟨rfl,rfl⟩|⟨rfl,rfl⟩|⟨rfl,rfl⟩|⟨rfl,rfl⟩|⟨rfl,rfl⟩|⟨rfl,rfl⟩;{obtain rfl:=?aZ;obtain rfl:=?aY;rfl};{obtain rfl:=?aZ;obtain rfl:=?aY;rfl};{obtain rfl:=?aZ;obtain rfl:=?aY;rfl};{obtain rfl:=?aZ;obtain rfl:=?aY;rfl};{obtain rfl:=?aZ;obtain rfl:=?aY;rfl};obtain rfl:=?aZ;obtain rfl:=?aY;rfl};(all_goals ext tq);{simp[lv,e,h0]at hl};{simp[lv,e,h0]at hl};{rw[?oq]at hf hg hj;let hc:=?r3;rcases hc with⟨rfl,rfl⟩|⟨rfl,rfl⟩|⟨rfl,rfl⟩;{obtain rfl:=?aZ;obtain rfl:=?aY;simp[?ig]};{obtain rfl:=?aZ;obtain rfl:=?aY;simp[?ig]};obtain rfl:=?aZ;obtain rfl:=?aY;simp[?ig]};(all_goals ext tn);{simp[lv,e,e']at hl};{simp[lv,e,e']at hl};{rw[?fj]at hf hg hj;let hc:=?r3;rcases hc with⟨rfl,rfl⟩|⟨rfl,rfl⟩|⟨rfl,rfl⟩;{obtain rfl:=?aZ;obtain rfl:=?aY;simp[?iR]};{obtain rfl:=?aZ;obtain rfl:=?aY;simp[?iR]};obtain rfl:=?aZ;obtain rfl:=?aY;simp[?iR]};rw[?nk]at hf hg hj;let hc:=?CF;rcases hc with⟨rfl,rfl⟩|⟨rfl,rfl⟩|⟨rfl,rfl⟩|⟨rfl,rfl⟩|⟨rfl,rfl⟩|⟨rfl,rfl⟩;ext mS;ext mS;ext mS;{skip;obtain rfl:=?aZ;obtain rfl:=?aY;simp only[?fj,List.getElem?_cons_succ,qv4,Nat.add_one_sub_one];congr 2;rw[Int.add_emod_emod,Int.emod_add_emod,qo5]};ext mS;obtain rfl:=?aZ;obtain rfl:=?aY;simp[?fj]
universe e9
abbrev lev[?j3]:Nat:=p.length-1
structure Bp5[?d8][?j3]:Prop where
 cnt:?PD 0\/?PD 2\/?PD 3\/?PD 4
 low:∀f∈p,0<=f
 bel:∀f∈p,∃q,?CE/\lev q+1=lev p
 agr:3<=p.length->∀(i j:Nat) (f g:Int) (q r:?R),i<j->?PJ p f->?OD p g->?CE->xs[g.toNat]?=?h r->q[i]?=r[j-1]?
abbrev Bn[?d8]:Prop:=∀(k:Nat) [?j3],xs[k]?=?h p->Bp5 ?nR p
abbrev RX[?d9][?ch]:Prop:=∀(k:Nat) [?c7],ws[k]?=?fh->?af/\∀f∈?aU,f∈ws.take k
def RX.nil[?f5]:RX fam []:=λk w h=>?dO
def RX.snoc[?f5][?ci][?f4][?n8](hw:?af)(hf:?qW):RX fam ?nj:=by intro k v hk;cases hlt:k<ws.length;{rw[qd3 hlt]at hk;rw[qr9 ?i];show h k v hk};let hk':k<(?nj).length:=(?d3 hk).1;(let e:k=ws.length:=by simp at hk';ext d);subst e;simp at hk;subst hk;rw[qr9 ?a4,qd0];show#[hw,hf]
def RX.mem[?f5][?ci][?n8][?f4](hw:w∈ws):?af/\?qW:=by let#[k,hk]:=qf9 hw;let ?cx:=h k w hk;show#[h1,λf hf=>qm8 ?kn]
abbrev Gh[?ch]:?xQ| []=>ws| ?eg=>Gh ?nl r
def DY:∀(rows ws:LLInt),?PV ?h0 rows.length| [],ws=>by simp[Gh]| ?eg,ws=>by let h1:=DY r ?nl;(let h2:?PV ?nl 1:=by split;{ext d};simp);simp only[Gh,qd9];ext d
def dY[?f5]:∀(rows ws:LLInt),?Gr->(?M0 rows (f∈rows.take k))->RX fam ?h0| [],ws,h,_=>h| ?eg,ws,h,hr=>by let h0:=hr 0 w ?g;let hw:?qW:=λf hf=>(h0.2 f hf).resolve_right ?v;simp only[Gh];apply dY r _ ?_ λk v hk=>?_;{split;{show h};show h.snoc h0.1 hw};let ?cx:=hr ?cF v ?k9;apply ?F7;rcases ?kn with z | z;{left;split;{show z};show ?Hs};rw[List.take_succ_cons]at z;rcases ?fQ z with z | z;{left;subst z;split;{assumption};simp};show ?q z
abbrev D5[?ch]:?sa| acc,[]=>acc| acc,f::r=>D5 ws ?tA r
def dW[?ci][?gn]:∀[?iy],?p0->?iS\/x∈fs| [],acc,h=>?hm| f::r,acc,h=>by rcases dW r _ h with z | z;{split at z;{rcases ql7.mp z with z | z;{show ?eN};show ?q (by simp at z;simp[z])};show ?eN};show ?q (?Qa z)
def Ue[?ci][?gn]:∀[?iy],?iS->?p0| [],acc,h=>h| f::r,acc,h=>Ue r _ (by split;show qo8 _ h;show h)
def DW[?ci][?gn]:∀[?iy],x∈fs->?qI\/?p0| f::r,acc,h=>by ext to;{subst e;cases h1:?qI;{show ?x h1};right;apply Ue r _ ?_;cases h2:?iS;{rw[?M (by simp[h2])];show h2};rw[?S ?cx];simp};show DW r _ e
def Xn[?ci]:∀[?iy],?NG ?h1 fs.length| [],acc=>by simp[D5]| f::r,acc=>by let h1:=Xn (ws:=ws) r ?tA;(let h2:?NG ?tA 1:=by split;{simp};ext d);simp only[D5,qd9];ext d
abbrev below[?ch][?d9]:?sa| acc,[]=>acc| acc,?eg=>?Nj ?Hp r
def U9[?dw][?gn]:∀[?j2],?oP->?iS\/∃w∈l,x∈?aU| [],acc,h=>?hm| ?eg,acc,h=>by rcases U9 r _ h with z|⟨v,hv,z⟩;{rcases dW _ _ z with z | z;{show ?eN};show ?q #[w,qb4,z]};show ?q #[v,?DQ,z]
def dU[?dw][?gn]:∀[?j2],?iS->?oP| [],acc,h=>h| ?eg,acc,h=>dU r _ (Ue _ _ h)
def HQ[?dw]{x w:?R}:∀[?j2],w∈l->x∈?aU->?qI\/?oP| v::r,acc,h,hx=>by ext to;{subst e;rcases DW (ws:=ws) _ acc hx with z | z;{show ?eN};show ?q (dU r _ z)};show HQ r _ e hx
def Qd[?dw]:∀[?j2],(∀w∈l,?af)->?NG ?ny ?Ao| [],acc,_=>by simp[below]| ?eg,acc,h=>by let h1:=Qd (ws:=ws) r ?Hp λv hv=>h v ?DQ;let h2:=Xn (ws:=ws) ?aU acc;let h3:=Mz (h w qb4);simp only[below,qd9];split at h3<;>ext d
def aG[?ch](f:?R):∀[?iy],D5 ws acc (fs++[f])=(if ?Ef/\f ∉ ?h1 then ?h1++[f] else ?h1)| [],acc=>rfl| g::fs,acc=>aG ws f fs _
def DT[?ch][?d9][?c7]:∀[?j2],?Nj acc (l++[w])=D5 ws ?ny ?aU| [],acc=>rfl| v::l,acc=>DT ws fam w l _
def AG[?c7]:∀(rows ws:LLInt),Gh ws (rows++[w])=(if w∈?h0 then ?h0 else ?h0++[w])| [],ws=>rfl| v::rows,ws=>AG w rows _
abbrev Q7[?ch][?d9]:Nat->?sa| 0,layer,rows=>rows| ?a3,layer,rows=>Q7 ws fam n (?Nj [] layer) (layer++rows)
def GB[?dw]:∀(n:Nat) (layer rows:LLInt),(∀w∈layer,?af/\?ft<n) → (?M0 rows (f∈layer\/f∈rows.take k)) → ?M0 ?vO (f∈(?vO).take k)| 0,layer,rows,hl,hr,k,w,hk=>by let ?cx:=hr k w hk;ext KY;{show ?P (hl f z).2 ?i};show ?q z| ?a3,layer,rows,hl,hr,k,w,hk=>by apply GB n _ _ ?_ ?_ k w hk;{intro v hv;rcases ?FZ with z|⟨u,hu,z⟩;{show ?lU};let#[q1,q2]:=?yV;let#[q3,q4]:=Rh q1 z;show#[q3,?i]};intro m v hm;cases hlt:m<layer.length;{rw[qd3 hlt]at hm;let hv:v∈layer:=qa6 hm;apply#[(hl v hv).1,?Io];rcases HQ (ws:=ws) layer [] hv hf with z | z;{show ?eN};show ?q ?eN};rw[qd5 ?i]at hm;let ?cx:=hr _ v hm;ext KY;{right;right;rw[List.take_append];apply qo8 _ ?_;rw[qh5 ?i];show z};right;right;rw[List.take_append];show ?D0
abbrev Uk[?ch][?c7][?d9]:LLInt:=Gh ws ?us
def EF[?ci][?f4][?f5][?n8](hw:?af):RX fam ?J4:=by apply dY _ _ h (GB 4 [w] [] ?_ ?_);{intro v hv;(let e:v=w:=?hJ);subst e;show#[hw,by let:=(Mz hw).2;ext d]};intro k v hk;simp at hk
abbrev JE[?ch](f:?R):Nat:=?pT (·==f)
def Ad9[?ci]{f:?R}(h:?fq):ws[?gq]?=?h f:=by unfold JE;let hl:?pT (·==f)<ws.length:=List.findIdx_lt_length_of_exists ?Hk;rw[qa0 hl];let:=List.findIdx_getElem (xs:=ws) (p:=(·==f)) (w:=hl);ext dx
private def Az4[?ci]{f:?R}{k:Nat}(h:f∈ws.take k):?gq<k:=by unfold JE;let ?qG:=qf9 h;let hlt:i<(ws.take k).length:=?hL;rw[qk9]at hi;split at hi;{rename_i hik;let hl:i<ws.length:=?hL;(let e:ws[i]=f:=by rw[qa0 hl]at hi;show qb0 hi);(let hle:?pT (·==f)<=i:=by refine qh7;intro hgt;let:=List.not_of_lt_findIdx hgt;simp[e]at this);ext d};cases hi
abbrev Qp[?ch][?d9]:LLInt:=ws.map λw=>?JR
def kL[?dw]{k:Nat}[?f4](h:ws[k]?=?fh):?oF[k]?=?h ?JR:=by unfold Qp;rw[qa9,h];rfl
def EH[?dw][?n8]:Bn ?oF:=by intro k p hp;unfold Qp at hp;rw[qa9]at hp;cases hw:ws[k]? with| none=>rw[hw]at hp;cases hp| some w =>rw[hw]at hp;(let hp':?nF ?E8=p:=by simpa using hp);subst hp';let ?cx:=h k w hw;let#[n1,n2]:=Mz h1;(let look:∀f∈?aU,((?oF).take k)[((?gq:Nat):Int).toNat]?=?h ((?If).map λg=>(JE ws g:Int)):=λf hf=>by let hm:=?kn;let hlt:=Az4 hm;rw[qc4,qk9,?S hlt];show kL (Ad9 (qm8 hm)));apply#[?_,?_,?_,?_];{rw[qa5];cases hz:?lg;{rw[?S hz]at n1;ext d};rw[?qF]at n1;ext d};{intro f hf;let#[g,?aS]:=?HI;ext d};{intro f hf;let#[g,hg,?g]:=?HI;apply#[_,look g hg,?_];let#[w1,l1]:=Rh h1 hg;let#[m1,_]:=Mz w1;unfold lev;rw[qa5,qa5];let hz:¬?lg:=?i;rw[?qF]at n1;cases hy:lv fam g=0;{rw[?S hy]at m1;ext d};rw[?M hy]at m1;ext d};intro hl i j f g q r hij hf hg hq hr;rw[qa5]at hl;rw[qa9]at hf hg;cases ef:?aU[j]? with| none=>rw[ef]at hf;cases hf| some F =>cases eg:?aU[i]? with| none=>rw[eg]at hg;cases hg| some G =>rw[ef]at hf;rw[eg]at hg;(let ef':((JE ws F:Nat):Int)=f:=by simpa using hf);(let eg':((JE ws G:Nat):Int)=g:=by simpa using hg);subst ef' eg';rw[look F (qa6 ef)]at hq;rw[look G (qa6 eg)]at hr;cases hq;cases hr;(let hz:¬?lg:=by intro z;rw[?S z]at n1;ext d);rw[?qF]at n1;rw[qa9,qa9,faces_agree h1 ?i hij ef eg]
def ON[?dw][?f4](hw:?af):(?us).length<=85:=by (let step:∀l:LLInt,(∀v∈l,?ro)->(?xR).length<=?Ao/\∀v∈?xR,?ro:=λl hl=>by apply#[by let:=Qd (ws:=ws) l [] hl;ext dx,λv hv=>?_];rcases ?FZ with z|⟨u,hu,z⟩;{show ?lU};show(Rh ?yV z).1);(let s0:∀v∈[w],?ro:=λv hv=>by (let e:v=w:=?hJ);subst e;show hw);let#[a1,b1]:=step _ s0;let#[a2,b2]:=step _ b1;let#[a3,b3]:=step _ b2;simp only[Q7,qc3,qn7,qd9]at a1 a2 a3 ⊢;ext d
section
variable{xs:LLInt}
universe e9
universe Hb
namespace L2
inductive Ex{A0:Type}(p:?Q3 A0):Prop| mk (x0:A0) (x:p x0):Ex p
inductive Hm{A0 A1:Type}(p:?Lt A0 A1):Prop| mk (x0:A0) (x1:A1) (x:p x0 x1):Hm p
inductive Nv{A0 A1 A2:Type}(p:?R3 A0 A1 A2):Prop| mk (x0:A0) (x1:A1) (x2:A2) (x:p x0 x1 x2):Nv p
inductive Xs{A0 A1 A2 A3:Type}(p:A0->?R3 A1 A2 A3):Prop| mk [?mg] (x:p x0 x1 x2 x3):Xs p
inductive EC{A0 A1 A2 A3 A4:Type}(p:A0->A1->?R3 A2 A3 A4):Prop| mk [?mg] (x4:A4) (x:p x0 x1 x2 x3 x4):EC p
inductive Ex6{A0 A1 A2 A3 A4 A5:Type}(p:A0->A1->A2->?R3 A3 A4 A5):Prop| mk [?mg] (x4:A4) (x5:A5) (x:p x0 x1 x2 x3 x4 x5):Ex6 p
inductive Ex7{A0 A1 A2 A3 A4 A5 A6:Type}(p:A0->A1->A2->A3->?R3 A4 A5 A6):Prop| mk [?mg] (x4:A4) (x5:A5) (x6:A6) (x:p x0 x1 x2 x3 x4 x5 x6):Ex7 p
inductive ZL{A0 A1 A2 A3 A4 A5 A6 A7:Type}(p:A0->A1->A2->A3->A4->?R3 A5 A6 A7):Prop| mk [?dn] (x:p x0 x1 x2 x3 x4 x5 x6 x7):ZL p
inductive Ex9{A0 A1 A2 A3 A4 A5 A6 A7 A8:Type}(p:?Lk (?Q3 A8)):Prop| mk [?dn] (x8:A8) (x:p x0 x1 x2 x3 x4 x5 x6 x7 x8):Ex9 p
inductive MT{A0 A1 A2 A3 A4 A5 A6 A7 A8 A9:Type}(p:?Lk (?R6 A8 A9)):Prop| mk [?dn] (x8:A8) (x9:A9) (x:p x0 x1 x2 x3 x4 x5 x6 x7 x8 x9):MT p
inductive pK{A0 A1 A2 A3 A4 A5 A6 A7 A8 A9 mU:Type}(p:?Lk (A8->?R6 A9 mU)):Prop| mk [?dn] (x8:A8) (x9:A9) (Va:mU) (x:p x0 x1 x2 x3 x4 x5 x6 x7 x8 x9 Va):pK p
inductive Ah3{A0 A1 A2 A3 A4 A5 A6 A7 A8 A9 mU zC:Type}(p:?Lk (A8->A9->?R6 mU zC)):Prop| mk [?dn] [?mf] (x:p x0 x1 x2 x3 x4 x5 x6 x7 x8 x9 Va x11):Ah3 p
inductive Ah2{A0 A1 A2 A3 A4 A5 A6 A7 A8 A9 mU zC A12:Type}(p:?Lk (A8->A9->mU->?R6 zC A12)):Prop| mk [?dn] [?mf] (x12:A12) (x:p x0 x1 x2 x3 x4 x5 x6 x7 x8 x9 Va x11 x12):Ah2 p
inductive Bp8{A0 A1 A2 A3 A4 A5 A6 A7 A8 A9 mU zC A12 A13:Type}(p:?Lk (A8->A9->mU->zC->?R6 A12 A13)):Prop| mk [?dn] [?mf] (x12:A12) (x13:A13) (x:p x0 x1 x2 x3 x4 x5 x6 x7 x8 x9 Va x11 x12 x13):Bp8 p
inductive Bp7{A0 A1 A2 A3 A4 A5 A6 A7 A8 A9 mU zC A12 A13 A14 A15 A16 A17 A18:Type}(p:?Lk (A8->A9->mU->zC->A12->A13->A14->A15->A16->?R6 A17 A18)):Prop| mk [?dn] [?mf] (x12:A12) (x13:A13) (x14:A14) (x15:A15) (x16:A16) (x17:A17) (x18:A18) (x:p x0 x1 x2 x3 x4 x5 x6 x7 x8 x9 Va x11 x12 x13 x14 x15 x16 x17 x18):Bp7 p
inductive Ee(p0 p1 p2:Prop):Prop| mk [?mw]:Ee p0 p1 p2
inductive Br(p0 p1 p2 p3:Prop):Prop| mk [?mw] (x:p3):Br p0 p1 p2 p3
inductive Ds(p0 p1 p2 p3 p4:Prop):Prop| mk [?mw] (x:p3) (x:p4):Ds p0 p1 p2 p3 p4
inductive Kb(p0 p1 p2 p3 p4 p5:Prop):Prop| mk [?mw] (x:p3) (x:p4) (x:p5):Kb p0 p1 p2 p3 p4 p5
inductive L6(p0 p1 p2 p3 p4 p5 p6:Prop):Prop| mk [?ew]:L6 p0 p1 p2 p3 p4 p5 p6
inductive Zt(p0 p1 p2 p3 p4 p5 p6 p7:Prop):Prop| mk [?ew] (x:p7):Zt p0 p1 p2 p3 p4 p5 p6 p7
inductive eE(p0 p1 p2 p3 p4 p5 p6 p7 p8:Prop):Prop| mk [?ew] (x:p7) (x:p8):eE p0 p1 p2 p3 p4 p5 p6 p7 p8
inductive sI(p0 p1 p2 p3 p4 p5 p6 p7 p8 p9:Prop):Prop| mk [?ew] (x:p7) (x:p8) (x:p9):sI p0 p1 p2 p3 p4 p5 p6 p7 p8 p9
inductive zB(p0 p1 p2 p3 p4 p5 p6 p7 p8 p9 p10:Prop):Prop| mk [?ew] (x:p7) (x:p8) (x:p9) (x:p10):zB p0 p1 p2 p3 p4 p5 p6 p7 p8 p9 p10
inductive Aq4(p0 p1 p2 p3 p4 p5 p6 p7 p8 p9 p10 p11 p12 p13:Prop):Prop| mk [?ew] [?L4]:Aq4 p0 p1 p2 p3 p4 p5 p6 p7 p8 p9 p10 p11 p12 p13
inductive Aq3(p0 p1 p2 p3 p4 p5 p6 p7 p8 p9 p10 p11 p12 p13 p14 p15:Prop):Prop| mk [?ew] [?L4] (x:p14) (x:p15):Aq3 p0 p1 p2 p3 p4 p5 p6 p7 p8 p9 p10 p11 p12 p13 p14 p15
universe L2
namespace Hb
open PySem L2
abbrev DQ[?d6](k:Int):Int:=?rp ?mA 0
meta abbrev LT[?k](H:Hp)(v:V)[?d8]:Prop:=?MI v (?H ?cr)
meta abbrev TI[?k](H:Hp)(v:V)[?d6]:Prop:=?MI v ?vq
section
variable[?a5][?dA]
def TI.sq{v:V}[?d7](h:?nv):∃a,?dH/\?zY:=?vQ
def TI.mk[?aJ][?d7](h:?zY):TI K H ?K ns:=?DD
def TI.same{v:V}[?d7](s:?aw)(h:?nv):?Ei:=?zR s h
def TI.t{v:V}[?d7](s:?hQ)(h:?nv):?Ei:=Rep.t s (xJ ns) h
def T9[?aQ](k:Nat):Fj xs ?aT ?t9=?nR:=by unfold Fj;rw[HT.sIx_none,HT.sIx_nat,qz6,List.drop_zero,List.take_eq_take_iff];ext d
def Np[?aQ](k:Nat):Fj xs ?t9 ?aT=?lQ k:=by unfold Fj;rw[HT.sIx_none,HT.sIx_nat];cases h:?Bd;{rw[qn6 h,qh5 ?Gx]};rw[?s2 ?i,List.drop_length,List.drop_of_length_le ?i];simp
def sW{D:Addr}{ys:?B}{v:V}{d:L2.D}{ds:?mF}(hD:H D=?h ?eC)(r:?Mm ys ds)(rv:?dP)(hi:imms ?qT=true):?a7 K ?zn ?ok ?qT :=(r.snoc rv).t (Zo.lst hD) hi
def Q2{D:Addr}{ys:?B}{v:V}{xs:LLInt}[?gn](hD:H D=?h ?eC)(r:?Mm ys ?cr)(rv:?QQ x):?a7 K ?zn ?ok ?vG:=by
 let e:?vG=?cr++[?qu]:=?v
 let h:=cO ?Ht;rw[e]at h ⊢;show sW hD r rv h
abbrev SameX(B:Addr)(H H':Hp):Prop:=?Mb (b≠B) ?C4
def SameX.refl(B:Addr)(H:Hp):?fG B H H:=λ_ _ _ h=>h
def SameX.trans{B:Addr}{H H1 H2:Hp}[?n0](b:?fG B H1 H2):?fG B H H2:=λc o n h=>b c o n (a c o n h)
def SameX.of[?u5](a:?hO):?G3:=λc o _ h=>?En
def SameX.upd[?u5]{o:HO}[?n0]:?fG B H (?s H1 B o):=λc u n h=>by rw[Aj n];show a c u n h
def SameX.t[?u5]{us:?B}[?n0](h:H B=?rD):Zo H H1 :=#[λb xs e=>?zw,λb o u e=>?zw]
def SameX.same{B:Addr}{H0 H H1:Hp}[?n0](s:?uz)(h:H0 B=none):?bt H0 H1:=?Nh (a b o ?tI (?Qz s))
def j4:∀ns:?R,?JS=0| []=>rfl| ?kT=>by exact max (dep ?dD) ?JS=0;rw[j4 ns];rfl
def T4:∀xs:LLInt,?Iv<=1| []=>?gA| ?hW=>by let h1:=T4 xs;(let h2:?Eu=1:=by exact deps (F4 x)+1=1;rw[j4]);exact max ?Eu ?Iv<=1;ext d
def Xm(f:?R):∀xs:LLInt,(?cr).any ?pz=?G (f∈xs)| []=>rfl| ?hW=>by rw[qc8,qo3,Xm f xs,XX];cases h:x=f;{subst h;simp};let h':¬f=x:=λz=>h z.symm;simp[h,h']
def aV[?tu](hc:c)(h:A):?qD:=?Pd ?S
def Nk[?tu](hc:¬c)(h:B):?qD:=?Pd ?M
def neI{a b:Int}(h:¬a=b):?Fh:=?rK
def eqI{a b:Int}(h:a=b):¬?Fh:=?rK
def isI{a b:Int}(h:a=b):?P6 a b=true:=?rK
def Ck{g:TG}[?dp][?du][?c0][?tW] [?K2]:?Lm ?eI sQ:=?OE HA ?wy
def j5{g:TG}[?dp][?du][?c0][?Ko] [?K2]:?Lm ?eq sQ:=?OE yI ?wy
def Le{g:TG}[?dp]{lo:Int}{n:Nat}[?c0] (hs:?NM ?H6) [?LT]:?Lm ?fV sQ:=Xi Pv h0 (λi ys τ H e p=>hs i ys τ H e p) hd
def Ak{t u:TS}{D:Ends}[?bZ](P:?V)[?td][?KV]:?jj:=h hu
def za2{t u:TS}{D:Ends}[?bZ](P:?V)[?KV][?td]:?jj:=h hu
def Iz{t u:TS}{D:Ends}[?bZ](P:?V)[?td](h:?Gq->?jj):?jj:=h hu
def oU{f:?R}:∀[?ci],?fq->?Pl ?h ?gq:=λ{ws} h=>by (let e:?Pl ws.findIdx? ?Ah:=by rw[List.findIdx?_map];congr 1;funext w;exact eqD (tI w) ?JO=(w==f);rw[XX];cases z:w=f;{subst z;simp};simp[z]);rw[e,List.findIdx?_eq_some_of_exists (xs:=ws) (p:=?Ah) ?Hk];rfl
def small{n:Nat}(h:?IX):?R8 n:=qc1 h ?ab
def Bx{n:Nat}(h:?IX):?pb:=qe6 (small h)
universe e9
section
variable[?k]
abbrev NI:Sp:=?Ln (Nv λ ?eS ?pr ?fb=>Ds (?Qj ?jP) ?iX (0<=k) ?p6 (?Qr (DQ ns k)))
abbrev kG:Sp:=?Ln (Nv λ ?eu (w:?R) ?El=>Br (vs=[v,?nz]) ?uO ?af (∀(p:Addr) (us:?B) (H':Hp),?QT (?nF tI) ?ic))
abbrev NH:Sp:=?Ln (Nv λ(c fam letters:Int)=>Ds (vs=[?p c,?nz,?p letters]) (0<letters) (letters<100) (fam<100) (∀(v:V) (H':Hp) [?c7],?aw->TI K H' v w->?af->?ff))
abbrev eG:Sp:=?Ln (Ex6 λ(l:Addr) (us:?B) ?eu (ws:LLInt) (w:?R) ?El=>L6 (vs=[?kr,v,?nz]) (H l=?rD) (?a7 K H us ?sd) ?uO ?af (ws.length<=100) (∀(p:Addr) (us':?B) (H':Hp),?au->?aw->H' p=?h (?H us')->?a7 K H' us' ((?J4).map tI)->?ic))
abbrev KC:Sp:=?Ln (Xs λ ?eS ?pr (kind most:Int)=>Kb (vs=[?p kind,?K,?p most]) ?iX ?p6 (0<=most) (most<=100) (∀(p:Addr) (us:?B) (H':Hp) [?d8],?QT ?cr (Bn xs->?gw<=most->?ic)))
universe e9
abbrev We(d:L2.D):Bool:=TR ?cD d&&!TR ?fi d
abbrev belowD(d:L2.D)(b:Int):Bool:=match d with| ?Z=>?G ?e3&&?G (i<b)| _=>false
abbrev Cc(n:Nat):Int:=if ?h9 > ?bT-1 then 0 else ?bT-1
abbrev Et[?d8](d:L2.D)(l:Int):Bool:=match d with| ?Z=>?G ?e3&&?G (i<?gw)&&?G (Cc (?Iq).length=l)| _=>false
abbrev Zj[?d8][?j3](j i:Nat):Bool:=?G (?Ny j i=?Ny i (j-1))
abbrev Pb[?d8][?j3]:Bool:=(?cL p.length).all λj=>(?cL j).all λi=>Zj xs p j i
abbrev toI:L2.D->Int| ?Z=>i| _=>0
abbrev jO(n:Nat):Bool:=n==0 || n==2 || n==3 || n==4
abbrev cZ[?d8](d:L2.D):Bool:=match d with| ?ec=>?It| _=>false
def U2[?d8](ds:?mF):cZ xs ?ec=?It:=rfl
def Af4{n:Nat}(h:jO n=true):n<=4/\n≠1:=by unfold jO at h;simp only[qt4,qz2]at h;ext d
section
variable[?k]
abbrev K7:Sp:=?Ln (Hm λ ?jr ?ki=>Ee ?CW ?iU (?Pt (We d)))
abbrev Jj:Sp:=?Ln (Nv λ ?jr ?ki (b:Int)=>Ee (vs=[x,?g1]) ?iU (?Pt (belowD d b)))
abbrev F5:Sp:=?Ln (Hm λ ?jr (ds:?mF)=>Ee ?CW (Bo4 K H x ds) (?Qr ?pK))
abbrev G7:Sp:=?Ln (EC λ ?eS ?jr ?ki (l:Int) ?nK=>Br (vs=[?K,x,?p l]) ?ib ?iU (?Pt (Et xs d l)))
abbrev Sh:Sp:=?Ln (Xs λ ?eS ?eu ?nK (p:?R)=>Kb (?Qj v) ?ib ?x8 (p.length<=4) ((∀f∈p,0<=f/\f<?gw/\(?lN f.toNat []).length+1=p.length)) (?Pt (Pb xs p)))
abbrev pY:Sp:=?Ln (Xs λ ?eS (th:V) ?ki ?nK=>Br (?Qj th) ?ib (Rep K H th d) (∀H',?aw->Q (.bl (cZ xs d)) H'))
meta abbrev X5:Sp:=NI K
meta abbrev Oj:Sp:=kG K
meta abbrev X4:Sp:=NH K
meta abbrev Rs:Sp:=eG K
meta abbrev Vg:Sp:=KC K
universe e9
section
variable[?a5]{H:Hp}
def MX{d:L2.D}(h:We d=true):∃i,d=?Z:=by cases d<;>simp[We,TR]at h;show ?gI
def LT.get[?aJ]{xs:LLInt}{i:Int}(h:?ib)(h0:?e3)(h1:i<?gw):∃us v,?lx/\eX us i=?a2/\?QQ ?Iq:=by let ?Jq:=h;cases e;let ?FJ:=?s8;let hj:?pj:=?i;(let e:?PJ ?cr (tI xs[j]):=by rw[qa9,?pO];rfl);let#[v,hv,tv]:=?eH e;apply#[us,v,hq,Bi hv,?_];rw[qc4,qa1,?pO];show tv
def LT.len[?aJ]{xs:LLInt}(h:?ib):∃us,?lx/\?Oq us.length:=by let ?Jq:=h;cases e;show#[us,hq,?Bf]
def TI.get{v:V}{p:?R}{i:Int}(h:?x8)(h0:?e3)(h1:i<(p.length:Int)):∃a,?dH/\?OA a ?Hc/\eX ?Hc i=?h (?p (?t7 ?rL 0)):=by let#[a,e,hq]:=h.sq;apply#[a,e,hq,?_];let ?FJ:=?s8;let hj:j<p.length:=?i;apply Bi ?_;rw[qa9,?pO];simp[hj]
def JA(n:Nat):Cc n=((n-1:Nat):Int):=by unfold Cc;split<;>ext d
def mO{xs:LLInt}{l:Int}:∀{ds:?mF},?Og l=true->ds=F4 ?p7| [],_=>rfl| ?ep,h=>by simp only[qy6,qb7]at h;cases d with| int i =>exact L2.D.int i::ds=L2.D.int i::F4 ?p7;rw[←mO h.2]| _=>simp[Et]at h
universe e9
universe Hb
namespace L2
open PySem PySem.Spec PyProof.Rows
section
variable[?ik]{xc:Str}[?T]{C c:Addr}[?cg]
universe e9
section
variable[?ik]{xc:Str}[?LW][?aI][?gm]{te:TE}
universe e9
section
variable{fs:?aL}[?dA]{h B h' h2:Heap}
universe e9
meta abbrev XJ:=?b3->OAddr->?V
section
variable[?nA]{σ:St}[?dA]{s s':Shared}{e:Addr}{cls a0:Value}{dx:OAddr}
universe e9
section
variable[?c1][?im]{N:?X}[?LL][?aH]{outer:?ca}[?aR]{H:Hp}{E:XK}
universe e9
section
variable{X:Cx}{J:XJ}[?Kw][?aP]{t:TA}
universe e9
universe L2
namespace L2
open PySem PySem.Spec PyProof.Rows PySem.W
section
variable{X:Cx}{Ae pn:Bl}[?bZ][?aR]{J:XJ}
universe e9
section
variable{X:Cx}{th:Ends->XJ}
universe e9
section
variable[?gb][?aG][?az]{g:?fB GenState}{d:Drawn}{t:Nat}{os:OsState}{a C:Addr}{o:Obj}{K:Frag}
universe e9
section
variable{X:Cx}{K:Frag}
universe e9
universe L2
namespace L2
open PySem PySem.Spec PyProof.Rows
def Bo.tupN{X:Cx}[?T]{h':Heap}[?dB][?cg]{x y:V}{u v:Value}[?m](kk:∀c o,?CJ->?z8)[?ez](hl:?Dp) (ht:?or=?h { cls:=?bO,data:=?aM #v[u,v] }) (ru:?bq) (rv:?oz):?Ll ?sz ?iG/\∀b∈fp,?s H ?N ?kk b=none:=by let hfresh:?iQ:=?ek;ext KH;let wM:∀c o,H c=?w->?s H ?N ?kk c=?w:=λc o e=>(Aj (Aq e hfresh)).trans e;apply#[Bo.step (s:=s) (h':=h') (t':=t') (H':=?sz) I (g':=s.gens) (d':=s.drawn) (ch:=fp) ?zv (?PM ?sZ) (?PM #[?qC,?sZ]) (λc o hc e n=>?_) (?Qt #[o,?sZ]) (λc zs e=>?nL) (λc o w' e=>?nL) (λc ps e=>#[#v[],by rw[?nL];simp]) ?rZ (λc w' e=>?_) ?cm,?zv];{let f:=hf c hc;show ?yM};{rw[Aj ?kc];show n};{let ?Ey:=hm;show#[o,es',ep,kk _ o (λq=>(hf _ q).2.1 ?g) ho,r]};{cases hcs:?Mq c;{subst hcs;rw[Ab]at e;cases e;show#[(by exact ?Lx ((2:Nat));decide),[u,v],?Y ru (?Y rv ?J),#[_,ht,?C,?aS]]};rw[Aj hcs]at e;apply(?bG c w' e).stay (λc' y' hc' q=>?_) (λc' q=>?Fk) λc' zs q=>?Fk;rcases hc' with rfl | hc';{show kk _ _ ?vX q};show kk _ _ ?uQ q};let ?G6:=hl c hc;rw[Aj ?kc];show(hf c hc).1
def My[?az]{j t:Addr}{n:Nat}(g:?eD j t n):∃o,?NF j:=by let#[o,q,_,d]:=g;show#[o,q,?Bz]
def DB[?az]{e it:Addr}{i:Int}{old:Value}(h1:?NE h i)(h2:∃o,?NF it):∀b∈?gu,?AS:=?OL (by rcases ?fQ hb with rfl | hb;{show#[_,h1,λv z=>by cases (show ?tH from z)]};rw[?xM];show h2)
def Bo.fp2{X:Cx}[?T][?m]:∀b∈[?aK,s.heap.objs.size],?i8:=?OL (by (let lb:?w1:=by rcases ?fQ hb with rfl | hb;{show ?jV};rw[?xM];show ?a4);show I.fpOk lb (?g8 lb))
abbrev IteG(S:?js)[?b7]:It :=#[?NC ?cu,λi H x H'=>∃p v,?au/\?pa/\H'=?Qh p (?aV [?Z,v])/\∀xs,?cu->xs[i]?=?a2,?NX ?cu]
def GR{X:Cx}[?T][?aG][?aP][?gi]{e it:Addr}{i:Nat}{old:Value}{x:V}[?aq][?LN] (hne:e≠it) [?m] (hf:∀b∈?gu,?i8) (h1:?NE ?F ?hf) (h2:∃o,?EQ/\?cJ) (ru:?bq) (hout:IsEnumOut h' e it ?sU u ?N) (htup:?or=?N0 i) (hk:?Mb ?kh ?DU) (hT:∀h3,?AZ->(∃old,?NE h3 ?sU)->T h3) (hY:?iQ->Y ?ai (?Qh ?N ?Di)) : ∃r,?Q5 ?Gu ?gu ({ s with heap:=h',toks:=?l1 }):=by apply#[?aS,wpAny_letOwnedTupleGo_enum hout λh3 hen Vp=>?_];replace Vp:?AZ:=Vp;let lte:?Nm e:=qc5 h1;let ht3:h3.get? ?N=?N0 i:=?M9 _ (qn0 lte) htup;let ?FS:=I.tupN (t':=?l1) (fp:=?gu) (x:=?Z) (y:=x) (λb o hb z=>?M9 b ?Do (hk b o ?Do (λq=>hb (q▸ ?HD)) z)) hf (DB h1 h2) ht3 ?gI ru;show(?Qx (hT h3 Vp ?Cc))
section
variable[?gm][?dp]{S:?js}
def OY[?aJ][?bK][?c0](hl:?Mr ?cu) [?Jy]:?Lm ?jK tc:=by apply ?GZ;rintro i m ys τ H ⟨rfl,hi,pp⟩;let q:=?P0 ys pp;cases hlt:?hK;{apply ?MF ?kF (?Q6 ?jp);let ?yn:=y;show hs i v ys τ _ p ?k8 pp hp};let e:?jx:=?i;subst e;show ?P3 (hd ys τ H pp)
def GO[?aJ][?bK][?ii](hl:?MY ?dS ?cu) [?K4] : ∃W:?dI,?Po ?jK ?jK ?jK:=by apply ?Bj;rintro i m σ H ⟨rfl,hi,pp⟩;let q:=?Ab;cases hlt:?hK;{apply ?MF ?kF (?QZ ?jp);let ?yn:=y;show hs i v σ _ p ?k8 pp hp};let e:?jx:=?i;subst e;show ?P3 ?zG
universe e9
abbrev Ite[?k][?b7]:It:=IteG ?wJ a
def SM[?c1][?aP][?gi](a e it:Addr)(hne:e≠it):j9 P w K ?fE ?fl ?gu e (λi h=>(∃old,?NE h ?hf)/\?wZ) where
 mem:=?hn
 obj:=λi h ?hk=>DB h1 ?kx
 keep:=λi h h' ?hk k=>#[#[old,k e ?hn _ h1],h2.at λo z=>k it ?HD o z]
 item:=by
  ext cb;have ?hk:=st;ext KM;show wpAny_pyNext_enum_item h1 h2 ?ad (x:=u) ?jS hne λh' hout TV htup hsz hk=>GR (i:=i) (Y:=(Ite ?u a).yld i H) (T:=λh=>(∃old,?NE h (((?I:Nat):Int)))/\?eD it a ?I) hne I hf h1 ?kx ru hout htup hk (λh3 Vp he=>#[he,TV.at λo z=>?M9 it hne.symm z]) λhn=>#[_,x,hn,?C,?vA]
 done:=by
  ext cb;have ?hk:=st;ext Kv;ext ex;let hl:=rv.length;show wpAny_pyNext_enum_end ?cG h1 h2 ?ad ?hc (?RC (λb o hb z=>eb b o hb z))
 self:=λ_ _ _ _ _ st h=>by
  have ?hk:=st;show qw3 h1 h
inductive yY[?k][?dy][?ah](H1:Hp):Prop| mk:∀a,?G1->?qX->?On ?fl ?Hv
abbrev Bi3[?k](ta:TA):TI:=?M6 ?Hv
def aO:?N7 ?em ?em:=?bB
def Mn{X:Cx}[?a5][?aP][?gi]{a:Expr}{ta:TA}{p pos:Pos}(hg:Gl X ?em)(hm:?bp ?em=none)(ha:?BT)[?a9][?Kc]:?QE ?em [a] Bi3:=by subst hK;ext ge;apply ?Mt aO ?J7;let ?kg:=_z;let#[l,e,?E9,q]:=q1;subst e;cases r1 with| cons r rr =>cases rr;cases r;let ?D3:=?k4 hq;apply call_enumerate_list ?fm λh' hen hit hsz hk=>?_;apply qw3 hen #[?ox,[?ox,s1.heap.objs.size],?nB,?EV,SM l _ _ ?q3,#[?Cc,hit],I1.fp2,q]
section
variable[?gm][?dp]
def Qb[?du][?c0][?tW] [?Jy]:?Lm ?fl tc:=?OE OY hs
def Y0[?du][?ii][?L3] [?K4] : ∃W:?dI,?Po ?fl ?fl ?fl:=?OE GO hs
universe e9
def Bo.turnedN{X:Cx}[?T]{h':Heap}[?dB][?cg][?m](k:?Mb (b ∉ fp) ?Dy)[?ez] : ?pW:=by ext KH;apply ?lv (g':=s.gens) (d':=s.drawn) (ch:=fp) ?eW (?Mj ?tG) (?Mj #[?qC,?tG]) ?Dc (?PN #[o,?tG]) ?Ff ?xL ?DX ?rZ ?C5 ?cm;{let f:=?jB;show ?yM};{let ?Ey:=hm;show#[o,es',ep,k _ o (?PK hf) ho,r]};apply ?Hi (λc y hc' q=>?_) (λc q=>q) λc ys q=>q;rcases hc' with rfl | hc';{show k _ _ ?vX q};show k _ _ ?uQ q
def Av0{c z TI TO i1 i2:Addr}(h:c ∉ ?dF):?hh/\c≠TI/\c≠TO/\?pA/\?sg:=by simpa only[qe0,qk1,or_false,not_or]using h
def Bo0{p:?hE}[?u0](h1:p z)(h2:p TI)(h3:p TO)(h4:p i1)(h5:p i2):?GE:=λc hc=>by simp only[qe0,qk1,or_false]at hc;rcases hc with rfl | rfl | rfl | rfl | rfl<;>assumption
def of5{p:?hE}[?u0](h:?GE):p z/\p TI/\p TO/\p i1/\p i2:=#[?hp,?hp,?hp,?hp,?hp]
def HY[?az][?u0]{a b c d e:Value}(h1:?NT h e)(h2:?aX h TI a b)(h3:?Gg)(h4:∃o,?NF i1)(h5:∃o,?NF i2):∀c∈?dF,∃o,?NF c :=Bo0 #[_,h1,λv q=>by cases (show ?tH from q)] #[_,h2,?yv] #[_,h3,?yv] h4 h5
def JV{X:Cx}[?T][?aG][?aP][?gi]{a b z TI TO i1 i2:Addr}{x y:V}{u v u0 v0:Value}[?LN] [?Lb] [?m] (hf:∀b∈?dF,?i8) (hz:?NT ?F ?aO) (hTI:?QM ?F) (hTO:?aX ?F TO u0 v0) (h4:∃o,?Ol i1/\?cJ) (h5:∃o,?Ol i2/\?cJ) (ru:?bq) (rv:?oz) (hz':?NT h' ?EG) (xR:?aX h' TO u v) (htup:?aX h' ?N u v) (hk:?O6 TO ?yI) (hT:∀h3,?Du->?NT h3 ?aO->?QM h3->(∃c d,?aX h3 TO c d)->T h3) (hY:?iQ->Y ?ai ?sz) : ∃r,?Q5 ?fs ?dF ?d1:=by apply#[?aS,wpAny_letOwnedTupleGo_zip hz' λh3 hz3 Vp=>?_];replace Vp:?Du:=Vp;let ltz:=qc5 hz;let ?FS:=I.tupN (t':=s.toks) (fp:=?dF) (x:=x) (y:=y) (h':=h3) (?Qt (let #[n1,_,n3,n4,n5]:=Av0 hc;?M9 c n1 ?ET)) hf (HY hz hTI hTO h4 h5) (?M9 _ (qn0 ltz) htup) ru rv;show(?Qx (hT h3 Vp hz3 (?M9 TI D.TIz (hk _ _ D.TIz D.TITO D.TIi1 D.TIi2 hTI)) #[_,_,?M9 TO D.TOz xR]))
def Bo.fp5{X:Cx}[?T][?m]:∀b∈[?Mo 4,?Mo 2,?Mo 3,s.heap.objs.size,?aK],?i8:=λc hc=>by let lc:=Bo0 (p:=λc=>?ML c) ?ku ?ku ?ku ?a4 ?ku c hc;show I.fpOk lc (?g8 lc)
abbrev uS(S:?js)(N:?F1)(a b:Addr):It :=#[λi H=>∃xs ys x y,?cu/\?jo/\?an/\?hA,λi H v H'=>∃p x y,?au/\v=?aB/\H'=?ks/\(∀xs,?cu->?an)/\∀ys,?jo->?hA,λi H=>∃xs ys,?cu/\?jo/\N xs ys i]
abbrev Itz[?k](a b:Addr):It:=uS ?wJ ?oQ a b
def vJ[?c1][?aP][?gi](a b z TI TO i1 i2:Addr)[?Lb] :
 j9 P w K ?fE ?eP ?dF z (λi h=>?v5/\?O4 i i) where
 mem:=?hn
 obj:=λi h ?Ct=>HY hz hTI hTO ?zm ?kx
 keep:=λi h h' ?Ct k=>by
  have#[k1,k2,k3,k4,k5]:=of5 k;show#[k1 _ hz,k2 _ hTI,#[u,v,k3 _ hTO],h1.at λo q=>k4 o q,h2.at λo q=>k5 o q]
 item:=by
  ext cb;have ?Ft:=st;have#[xs,ys,x,y,AN,tT,hx,hy]:=hg;ext Ke;have ?f9:=ra.get hx;have#[v,hv,rv]:=rb.get hy
  show wpAny_pyNext_zip_item D hz hTI hTO h1 h2 ?nx ?qc (x:=u) (y:=v) ?jS ?hJ λh' hz' xR mV h2' htup hsz hk =>
   JV (Y:=(Itz ?u a b).yld i H) (T:=λh=>?v5/\?O4 ?I ?I) D I hf hz hTI hTO ?zm ?kx ru rv hz' xR htup hk (λh3 Vp q1 q2 q3=>#[q1,q2,q3,mV.at λo e=>?M9 i1 D.i1z e,h2'.at λo e=>?M9 i2 D.i2z e]) λhn=>#[_,x,y,hn,?C,λzs q=>by rw[?jm q AN];show hx,λzs q=>by rw[?jm q tT];show hy]
 done:=by
  ext cb;have ?Ft:=st;have#[xs,ys,AN,tT,hx]:=hg;ext Ke;let la:=ra.length;let lb:=rb.length;apply wpAny_pyNext_zip_end ?cG D hz hTI hTO h1 h2 ?nx ?qc ?_ λh' hk=>#[?g,I.turnedN (t':=s.toks) (fp:=?dF) (?Qt ?_) hf]
  . rcases hx with q | q
    . show ?x ?hc
    . show ?q ?hc
  . have#[n1,n2,n3,n4,n5]:=Av0 hc;show ?ET
 self:=?Mc qx5 (st.1)
inductive Ap8[?k][?dy][?ah](H1:Hp):Prop| mk:∀a b,(?Qj ?as)->?qX->((∃ys,SqL K H1 b ys))->?On ?eP ?Hq
abbrev B42[?k](ta:TA):TI:=?M6 ?Hq
def UM:?N7 ?eX ?eX:=?bB
def b8{X:Cx}[?a5][?aP][?gi]{a b:Expr}{ta:TA}{p pos:Pos}(hg:Gl X ?eX)(hm:?bp ?eX=none)(ha:?zD)[?a9][?K6] : ?QE ?eX ?bV B42:=by subst hK;ext ge;apply ?Mt UM ?zX;let#[la,lb,e,#[xs,AN],#[ys,tT],q]:=q1;subst e;cases r1 with| cons ra rr =>cases rr with| cons rb rr =>cases rr;cases ra;cases rb;let#[ia,_,pa,_]:=?k4 AN;let#[ib,_,pb,_]:=?k4 tT;(let a1:?PZ la:=by let ?uv:=pa.isList;ext bL);(let a2:?PZ lb:=by let ?uv:=pb.isList;ext bL);apply call_zip_2 ?nx ?qc λh' hz hTI hTO hi1 hi2 hsz hk=>?_;apply qx5 hz #[?AC,[?AC,?Mk 2,?Mk 3,s1.heap.objs.size,?ox],?nB,?EV,vJ la lb _ _ _ _ _ (zipApart_new a1 a2),#[hz,hTI,#[_,_,hTO],hi1,hi2],I1.fp5,q]
section
variable[?gm][?dp]
def GZ[?Ks][?io][?LB][?c0](hl:?QV ?A7) [?Jx]:?Lm ?jO tc:=by apply#[λi m zs τ H=>m=n-i/\?eG/\?hM,?oG,?_];rintro i m zs τ H ⟨rfl,hi,pp⟩;let ?FY:=?P0 zs pp;cases hlt:i<n;{apply ?MF ?AL ?HJ;apply ?hP;let ?yQ:=y;apply ?hN;show hs i u v zs τ _ p ?H3 ?G9 pp hp};ext me;show ?x #[?Fz,hd zs τ H pp]
def XT[?Ks][?io]{g:TG}{tb:TS}{D:Ends}[?bZ][?LB][?LP](hl:?MY ?eG ?A7) [?K3] : ∃W:?dI,?Po ?jO ?jO ?jO:=by ext KW;rintro i m σ H ⟨rfl,hi,pp⟩;let ?FY:=?Ab;cases hlt:i<n;{apply ?MF ?AL ?JH;let ?yQ:=y;show hs i u v σ _ p ?H3 ?G9 pp hp};ext me;show ?x #[?Fz,?zG]
def MG[?a5][?io][?ti][?c0][?Kf] [?Jx]:?Lm ?eP tc:=?NU GZ
def Ae6[?a5][?io]{g:TG}{tb:TS}{D:Ends}[?bZ][?ti][?LP](hl:?MY ?eG ?Jc) [?K3] : ∃W:?dI,?Po ?eP ?eP ?eP:=?NU XT
universe e9
def preSum_sum[?d6]:∀k,k<=ns.length->?pR ?s6 k=(ns.take k).sum| 0,_=>by simp[preSum]| ?cF,h=>by exact ?pR _ k+?rp k 0=_;rw[?xZ ns k ?i,qd6,qa0 ?i,qx0,qa1,qa0 ?i];simp
def UK{X:Cx}[?bY]:?Lw ?rh (∃(p:Addr) (ns:?R),?QL ?u):=by ext dt;let#[p,ns,?g,hq,q]:=h;ext KG;ext tf;(let rel:?N2 (∃t,v=?p ?Gt t):=λi v e=>by ext KL;(let hb:?OD ns ?zh:=?bQ);let ?f9:=?PT ?ak ?zh;rw[e']at hu;cases hu;rw[qa1,hb];show ru);apply call_sum_walkG ?xJ;apply#[?N,?I4,?yi,?hz,_,_,?s6,?g,?As,?yh,?_,rel,λh' tk t' k=>?_];ext KS;{intro b hb;(let hb':?Mq b\/b=p:=?ef);rw[qj2];rcases hb' with rfl | rfl;{show ?Pi _};let ?zt:=pl;show Nat.lt_succ_of_lt ?mN};ext KB;apply#[?r1,H,I1,#[t',?_],q];(let e:?pR ?s6 ?hz=ns.sum:=by rw[qc9,←l1,?xZ ns _ ?a4,qd0]);rw[e]
def oO{X:Cx}[?a5][?bY][?a9]:?Lw ?rh (∃(p:Addr) (ns:?R),?QL K):=?MU UK hc
def uN:?Qn "sum" ?rh:=?bB
def Js{X:Cx}:?Me ?EF ?gC (i*j):=?Of (mul_int q hc)
private def RN{i:Int}{m:Nat}(h:?jU):?rv i<=m:=by unfold Builtin.Int.intBits;split;{show ?gA};rename_i h0;(let hne:i.natAbs≠0:=by intro z;show h0 (by let:i=0:=?i;simp[this]));show(?p5 hne).mpr h
def Hq[?Kt](h:m+n<=134217728):?qt:=by let h1:=RN hi;let h2:=RN hj;(let h3:¬((?rv i:Nat):Int)+((?rv j:Nat):Int) > ((bitsLine:Nat):Int):=by (let:bitsLine=134217728:=?ab);ext d);unfold IntMulOk;intro hz;simp only[qb7]at hz;let h4:=hz.2;unfold Builtin.Int.intTooBig at h4;show h3 (by simpa using h4)
def Ow{i j:Int}(h1:-?fF<i)(h2:i<?fF):?qt:=A67.ok (?x ?cx)
universe L2
namespace L2
open PySem PySem.W PySem.Calls PyProof.Rows
abbrev Ub:Nat:=1048576
def bB:∀[?d7]{x:Int},x∈ns->?rJ ?oD<=WData.weightAll ?km| ?kT,x,h=>by rw[qc8];simp only[WData.weightAll];rcases ?fX with rfl | h;{ext d};let:=bB h;ext d
def UJ[?d7](h:WData.layableAll [?m9]=true):?kZ:=by intro x hx;(let h1:?G (?rJ ?m9<=2 ^ 20)=true:=by (let:WData.layable ?m9=true:=by simpa[WData.layableAll]using h);unfold WData.layable at this;show(Bool.and_eq_true_iff.mp this).2);(let h2:WData.weightAll ?km<=1048576:=by let:=qc6 h1;simpa only[WData.weight]using this);let h3:=bB hx;cases h0:x.natAbs=0;{rw[h0];show Nat.pow_pos ?ab};(let h4:?rJ ?oD=x.natAbs.log2+1:=by simp only[WData.weight];rw[?M λz=>h0 (by rw[show x=0 by simpa using z];rfl)]);(let h5:x.natAbs.log2<Ub:=by exact _<1048576;ext d);show(?p5 h0).mp h5
def JS{l:OpenLaw}{n:Nat}[?KI] [?u4] (hdf:?BY) (call:∀(w:World) (s₀ s₁:Shared) (mg mb:?bv) (fa:Addr) (o:Obj) (pm cd doc:Value) [?b7] (vs:?Q) [?d6],?kZ → Ground q loose [] XP w s₀ mg mb ?gG->YP w ?gG → ?o2 fa=?w->o.data=?ll (docDef ?qN d.params d.body d.scope pm cd doc)->s₁.heap.CodeRec cd ?qN->?Jo → ?JJ->?hF->?j5->?xK → ?P5 (?gz l.prog w)) : ?O5 WalkO:=by intro w s₀ s₁ mg mb G Y fa o pm cd doc dV kV ho hd hcd hD hmg hg args vals as hpre hlay hrd hwl hlo;obtain rfl:dV=?aO:=Dflts.none hD hdf;obtain rfl:kV=?aO:=Dflts.noKw hD;let#[a,vs,ns,?C,hobj,hints,?gQ]:=Att.script_of hn hpre hwl;apply enter_call (?kf (call w s₀ ?cU mg mb fa o pm cd doc a vs ns (UJ hlay) G Y ho (fd_plain hd) hcd hmg hobj hints ?gQ hg) ?C3);let#[?g,h2,h3,h4]:=hq;show#[?x #[?dL,?dL,[],?g,?Fj,?dL,Att.post_true l _,λ_=>#[List.Pairwise.nil,λ_ hm=>(nomatch hm)]],h2,h3,h4]
def walk_ofB{l:PySem.W.OpenLaw}{n k:Nat}[?KI]{K:Params->PySem.W.Frag}{CX:World->ZA}{sp:World->Sp}{x:Str} [?u4] (hn2:?pb) (hdf:?BY) (hr:?AA) (hY:∀(w:World) [?ba],YP w h->?rP h) (F:∀(w:World) (mg:?bv) (fa:Addr) [?ba],?rP h->h.Ns ?qi mg->?Jo → ∃fd:FuncData,?zq ∧ ∀base:Heap,?rP ?b2->?sJ->Bs l.prog w ?ni mg ?b2 (CX w) k fa fd [x] (sp w)) (qV:∀(w:World) (H:Hp) [?b7] [?d6],?j5->?kZ->A55 H->SqL ?ni H a ?cv->sp w ?bW H ?Cr ?fA) (hCX:∀(w:World) (H:Hp) [?c9] (e:Value) [?c8],CX w [] H s ?fA e s'->False) : ?O5 PySem.W.WalkO:=by apply JS hn hdf λw s₀ s₁ mg mb fa o pm cd doc a vs ns A08 G Y ho hd hcd hmg hobj hints hlen hg=>?_;let KX:=hY w _ Y;let#[fd,hb,hF]:=F w mg fa _ KX G.T.g hmg;show XD KX G.T.g G.T.b G.T.builtins G.T.nolimit hg hobj hints (qa4 ?gQ hn2) hr hF hb (λH hO hS=>qV w H a ns ?gQ A08 hO hS) λH e s'=>hCX w H ?cU e s'
universe L2
namespace Hb
abbrev sumN(f:?ag):?ag| 0=>0| ?a3=>?iD
def Af{f g:?ag}:∀{n:Nat},(∀k,k<n->f k=g k)->?fu=?sq| 0,_=>rfl| ?a3,h=>by exact ?iD=?v7;rw[Af ?Ib,?DG]
def Um:?N1 ?rA 0| 0=>rfl| ?a3=>by exact ?iE+0=0;rw[Um n];rfl
def C3(f g:?ag):?N1 (λk=>f k+g k) (?fu+?sq)| 0=>rfl| ?a3=>by exact ?iE+(?eJ+g n)=?iD+?v7;rw[C3 f g n];ext d
def Bc(c:Int)(f:?ag):?N1 (λk=>c*f k) (c*?fu)| 0=>by exact ?h9=c*0;rw[qd7]| ?a3=>by exact ?iE+c*?eJ=c*?iD;rw[Bc c f n,qt1]
def E4(c:Int)(f:?ag)(n:Nat):?al (λk=>f k*c) n=?fu*c:=by rw[qf7,←Bc];show Af λk _=>qf7 ..
def Cm[?mz](m:Nat):?N1 (λi=>?al ?eU m) (?al (λj=>?ws) m)| 0=>(Um m).symm| ?a3=>by exact ?iE+?al ?eJ m=?al (λj=>?ws+f n j) m;rw[Cm f m n,C3]
def El(f:?ag)(i:Nat):?N1 (λk=>(if k=i then 1 else 0)*f k) (if i<n then ?eU else 0)| 0=>by simp[sumN]| ?a3=>by exact ?iE+(if n=i then 1 else 0)*?eJ=_;rw[El f i n];cases h:n=i;{subst h;simp};cases h2:i<n;{rw[?S h2,?gS,?o7];ext d};rw[?M h2,?gS,?dJ];ext d
abbrev Jh[?dv]:?R:=(?cL n).map f
def Jv[?dv]:(?ej).length=n:=by unfold Jh;rw[qa5,ql4]
def Uu[?mv](h:i<n):?OD ?ej ?eU:=by unfold Jh;rw[qa9,?Bb h];rfl
def CH[?dv]:?z0=?ej++[?eJ]:=by unfold Jh;rw[qi6,qb2];rfl
def fY[?LK]:?ej=Jh n g:=by unfold Jh;apply qp7 λi hi=>h i ?yC
def Ad1(n:Nat):(?bH n [?h9]).flatten=?ze:=by induction n with| zero=>rfl| succ n ih =>rw[CH,←ih];clear ih;induction n with| zero=>rfl| succ n ih =>rw[qk4,qm9,ih];let ih':=ih;rw[qk4,qm9]at ih';rw[←qu9,ih']
def jS[?Kt]:(i*j).natAbs<?EE:=by rw[qb5,qe3];show qm1 hi hj
def A48{i j:Int}{m:Nat}(hi:?jU)(hj:j.natAbs<?jw):(i+j).natAbs<2 ^ ?lf:=by let h:=qf6 i j;rw[qh4];generalize ?jw=q at *;ext d
def Af9{i:Int}{m n:Nat}(hi:?jU)(h:m<=n):i.natAbs<2 ^ n:=qb6 hi (qe4 ?ab h)
def Xl{f:?ag}{m:Nat}:∀{n:Nat},(∀k,k<n->(f k).natAbs<?jw)->(?fu).natAbs<?EE| 0,_=>by exact(0:Int).natAbs<_;show Nat.pow_pos ?ab| ?a3,h=>by let h1:=Xl (n:=n) (f:=f) ?Ib;exact(?iD).natAbs<2 ^ (m+n+1);show A48 h1 (Af9 ?DG (qg0 m n))
universe Hb
namespace Hb
open PySem L2
meta abbrev VI[?dv]:?B:=?Oo ?ej
abbrev dL[?dv]:L2.D:=?H (F4 ?ej)
abbrev dT(h w:Nat)[?mz]:L2.D:=?H ((?cL h).map ?qE)
section
variable[?a5]{H H' H1 H2:Hp}
def Bw[?dv]:?CA=n:=by rw[qa5,Jv]
def C6[?mv](h:i<n):?OD ?dN ?tK:=by rw[qa9,Uu h];rfl
def Bo3[?mv](h:i<n):eX ?dN (?pJ:Int)=?h ?tK:=Bi (C6 h)
def j8[?mv]{u:V}(h:?dN[i]?=?aE):i<n/\u=?tK:=by let h1:i<?CA:=?J9;rw[Bw]at h1;rw[C6 h1]at h;show#[h1,(qb0 h).symm]
def Zn[?dv]:VI ?a3 f=?dN++[?p ?eJ]:=by exact ?Oo ?z0=_;rw[CH,qb2];rfl
def Uh[?LK]:?dN=VI n g:=by exact ?Oo ?ej=(Jh n g).map ?ak;rw[fY h]
def A50(n:Nat):(?bH n [?ak 0]).flatten=VI n ?rA:=by exact _=?Oo ?ze;rw[←Ad1,List.map_flatten,List.map_replicate];rfl
def Bn4{v:V}{n:Nat}{f:?ag}(h:?MI v ?Hz):∃a,?dH/\?nJ:=?vQ
def yF[?aJ]{n:Nat}{f:?ag}(h:?nJ):?MI ?K ?Hz:=?DD
def J6{v:V}{h w:Nat}[?ce](r:?hj):∃a us,?dH/\?lx/\?sn/\∀i u,us[i]?=?aE->i<h/\∃b,u=?as/\?Al:=by
 have#[a,us,e,q,r]:=r;let hl:?sn:=?Bf
 apply#[a,us,e,q,hl,λi u hu=>?_];let hi:i<h:=by let:=(?d3 hu).1;ext d
 have#[d,hd,rd]:=r.getV hu;rw[qa9,?Bb hi]at hd;let e2:d=?wm:=(qb0 hd).symm;subst e2;show#[hi,Bn4 rd]
structure Rows(H H1:Hp)(D:Addr)(as:?aL)(w:Nat)[?mz]:Prop where
 same:?hO
 free:?fS
 «at»:H1 D=?My ?pI
 row:∀j a,as[j]?=?lc->?hG/\a≠D/\H1 a=?My (VI w (f j))
def Rows.nil{D:Addr}{w:Nat}[?ce](h:?fS):?NS ?pL []:=#[?uj h,h,Ab,?Ox ?pv]
def Rows.push{D b:Addr}{as:?aL}{w:Nat}[?ce][?is](hb:?QR b)(s:?rW)(h2:H2 b=?My (VI w (f as.length))):?NS (?s H2 D (?H (?pI++[?as]))) ?vl:=by (let hne:b≠D:=λz=>by rw[z,R.at]at hb;cases hb);apply#[(R.same.trans s).turn ?h5,?h5,by rw[Ab,qb2];rfl,?EC];cases hj:j<as.length;{rw[qd3 hj]at e;let#[h1,h2',h3]:=?hu;show#[h1,h2',by rw[Aj h2'];show s _ _ h3]};let hl:j<(?vl).length:=?Hl;(let ej:j=as.length:=by simp at hl;ext d);subst ej;(let eb:b=a:=?fg);subst eb;show#[R.same.free hb,hne,by rw[Aj hne];show h2]
def Rows.rep[?mu]{h w:Nat}[?ce][?is](hl:?r5):Rep K H1 ?bm ?lV:=by apply#[D,?aS,.of R.at,?_];subst hl;(let go:∀(bs:?aL) (n:Nat),(∀j a,bs[j]?=?lc->H1 a=?My ?ye)->?a7 K H1 ?wD ((?GT n bs.length).map ?qE):=by intro bs;induction bs with| nil=>intro n _;rfl| cons b bs ih =>intro n hr;apply#[?as,?wD,?g,yF ?oo,?_];{let:=hr 0 b ?g;simpa using this};apply ih ?a3 ?EC;let:=hr ?k2 a ?fg;rw[?B1];show this);(let:=go as 0 (?Ox (by rw[qt8];show ?oI)));rw[List.range_eq_range'];show this
def Rows.later[?mu]{w:Nat}[?ce][?is](s:?rW):?NS H2 as :=#[R.same.trans s,?h5,s _ _ R.at,?Ox #[(?hu).1,?Jp,s _ _ ?oI]]
def Rows.earlier{H0:Hp}[?mu]{w:Nat}[?ce](s:?uz)[?is]:?fp H0 H1 D as w f :=#[s.trans R.same,?sA ?h5,R.at,?Ox #[?sA (?hu).1,?Jp,?oI]]
def U6{g:TG}[?dp][?a5][?io][?ti][?c0][?Kf] (hs:?MD te ?D9) (hd:?Em):?Lm ?eP sQ:=MG hn Pv h0 hl (λi x y zs τ H p e1 e2 pp hp=>hs i x y zs τ H p e1 e2 pp hp) hd
universe e9
abbrev newL(H:Hp)[?dv](Q:?eB):Prop:=∀(D:Addr) (H':Hp),?fS->?aw->H' D=?My ?dN->?lh
abbrev Ac3(H:Hp)(h w:Nat)[?mz](Q:?eB):Prop:=∀(D:Addr) (as:?aL) (H':Hp),?r5->?NS H' as->?lh
section
variable[?k]
abbrev FL:Sp:=?Ln (EC λ ?eu (h w j:Nat) ?ls=>Ds (vs=[v,?fn]) ?hj ?ko (j<w) (newL H h ?GF Q))
abbrev Ke:Sp:=?Ln (?Q1 ?ko (Ac3 H w h (λi j=>f j i) Q))
universe e9
section
variable[?k]
abbrev Mi:Sp:=?Ln (Hm λ ?eS ?pr=>Ds ?G1 ?iX ?p6 ?kZ (∀H',?Ji))
abbrev X0:Sp:=?Ln (Ex7 λ(a b:Int) (x y:Addr) (n:Nat) (p q:?ag)=>Kb (vs=[?p a,?cn,?g1,?L y]) (?Qu x n p) (?Qu y n q) ?j6 ((∀j,j<n->?gC a (p j)/\?gC b (q j))) (?Qb n (a*p j+b*q j)))
abbrev Vf:Sp:=?Ln (Ex6 λ(x:Addr) ?eu ?rV (a:?ag) ?ls=>L6 (vs=[?cn,v,?p w]) (?Qu x h a) ?hj ?ko ?jE ((∀k j,k<h->j<w->?gC (a k) (f k j))) (?Qb w (?al (λk=>a k*f k j) h)))
abbrev Wf:Sp:=?Ln (Ex7 λ(u v:V) (h d w:Nat) (f g:?g3)=>Zt (vs=[u,v,?p w]) (Rep K H u (dT h d f)) (Rep K H v (dT d w g)) ?ko (d<=1000) ?jE ((∀i k j,i<h->k<d->j<w->?gC (f i k) (g k j))) (Ac3 H h w (λi j=>?al (λk=>f i k*g k j) d) Q))
abbrev BJ(_K:W.Frag):Sp:=?Ln (∃n i:Nat,vs=[?dD,?Z]/\?j6/\?Qb n ?zI)
abbrev IE(_K:W.Frag):Sp:=?Ln (∃n:Nat,vs=[?dD]/\?j6/\Ac3 H n n (λi j=>?zI) Q)
universe e9
universe Hb
namespace L2
open PySem PySem.Spec PyProof.Rows
structure Mu[?c3][?k][?ds][?iw][?ml]:Prop where
 ex:∃(f:Addr) (fd:FuncData),yN K C m f/\?m4
structure mT[?c3][?k][?ds](C:Addr)[?ml]:Prop where
 ex:∃(f:Addr) (fd:FuncData),Mk K C f/\?m4
section
variable{X:Cx}[?a5][?LO]{x m f:Str}{p pos apos pos':Pos}{e o value:Expr}[?aP]{ta tv:TE}{t:TA}
def Eu[?mX][?LI][?d5][?c4][?mc]
 [?tP] (hpl:?o (?ck (·.1)=false) ?A)
 (ht:?o (?H7=(do
   let ov ←?eb
   ?gD
   let ?gU ←?g0
   ?pf)) ?A) :
 ?Ma ?sp (?QF [] E0 t):=by
 ext tm;show Aa5 he c h1 h3 ?gt h2 ?J kX ha hst hpl ht
def Px[?mX][?LI][?d5][?mc]
 (ht:?o (?y9=(do
   let ov ←?eb
   ?gD
   let ?gU ←?g0
   ?I3)) ?A) :
 ?Ma ?re (?QF [] E0 tNil):=by
 ext tm;show wA he c h1 h3 ?gt h2 ?J kX ht
def Py(h:?OK mT C)[?d5][?tb][?c4](hk:?o (?k2<=k) ?e9)[?gW] (hpl:?o (?ck (·.1)=false) ?A):?Ma ?hb (Aj4 C sp [] E0 t):=by ext tm;show Aa6 h1 h3 ?gt hg hm h2 ?J kX ha hdb he hpl
def Bd(he:?Ie)[?a9](hb:?N5 ?Ev):?Ma ?qo (Bc1 K ta f):=by subst hK;show Au0 he hb
def Fr[?LX][?a9](hs:?N5 ?FQ):?Oa K:=by subst hK;show At4 ha hv hs
universe e9
meta abbrev TJ:=?Pq ?aW
section
variable{X:Cx}{e v₁ v₂:Expr}{es rest:?dM}{te:TE}{tj:TJ}[?aI]
universe e9
universe L2
namespace Hb
open PySem L2
inductive Tn where| mi (i:Nat) | sw (i j:Nat) | ad (i j:Nat) (n:Int)
abbrev zK:Tn->L2.D| .mi i=>?aV [?bU "minus",?Z]| .sw i j=>?aV [?bU "swap",?Z,?fn]| ?l2=>?aV [?bU "add",?Z,?fn,?dD]
abbrev ZN:Tn->?g3->?g3| .mi i,f=>λr c=>if r=i then -?ob else f r c| .sw i j,f=>λr c=>if r=j then ?ob else if r=i then f j c else f r c| ?l2,f=>λr c=>if r=i then 1*?ob+n*f j c else f r c
abbrev tnB:Tn->Tn| ?l2=>.ad i j (-n)| t=>t
abbrev tnA:Tn->Tn| ?l2=>.ad j i (-n)| t=>t
abbrev tB(B:Nat):?Q3 Tn| .ad _ _ n=>n.natAbs<2 ^ B| _=>True
def Pw{f:Str}{v:V}:∀{fs:?cH}{x:V},?pX=?b8->?yG=fs.length| [],x,h=>by cases h| (g,y)::r,x,h=>by unfold putF;cases e:g=f;{rw[?S e];rfl};rw[?M e,qd9,qd9];rw[qs0]at h;(let e2:?Nc (f==g):=by simpa using λz=>e z.symm);rw[e2]at h;rw[Pw h]
abbrev Yw(H:Hp)(Z:?hE):Hp:=λa=>@ite _ (Z a) ?lu ?aT (H a)
section
variable[?a5]{H H' H1:Hp}{Z:?hE}
def Yv[?aJ](h:¬Z a):?wx=H a:=?Pc ?gS
def cQ[?aJ](h:Z a):?wx=none:=?Pc ?hr
def P5:?bt ?IV H:=λa o e=>by cases h:Z a;{rw[cQ h]at e;cases e};rw[Yv h]at e;show e
def gI(h:∀a o,¬Z a->?ih->H' a=?w):?IB:=λa o e=>by cases hz:Z a;{rw[cQ hz]at e;cases e};rw[Yv hz]at e ⊢;show h a o hz e
def vR(s:?aw):?IB:=gI λa o _ e=>s a o e
def mF[?aJ]{us:?B}{h w:Nat}[?ce](hq:?lx)(hl:?sn)(hr:∀i,i<h->∃b,?OD us ?as/\?Al):?MI ?K ?lV:=by apply#[a,us,?g,hq,?_];subst hl;(let go:∀[?ah] (n:Nat),(∀j,j<vs.length->∃b,?PJ vs ?as/\?MC b ?ye)->?Mm vs ((?GT n vs.length).map ?qE):=by intro vs;induction vs with| nil=>intro n _;rfl| cons v vs ih =>intro n hv;let#[b,e,hb]:=hv 0 ?v;(let ev:v=?as:=?fg);subst ev;apply#[?as,vs,?g,yF ?ef,?_];apply ih ?a3 λj hj=>?_;let#[b',e',hb']:=hv ?k2 (by simpa using hj);apply#[b',by simpa using e',?_];rw[?B1];show hb');(let:=go us 0 λj hj=>by rw[qt8];show hr j hj);rw[List.range_eq_range'];show this
def Rows.hid[?mu]{h w:Nat}[?ce][?is](hl:?r5)(hz:∀a,Z a->?sL):Rep K (Yw H1 Z) ?bm ?lV:=by let nz:∀a,?hG->¬Z a:=λa e z=>hz a z e;apply mF (us:=?pI) ?oo ?Hg λi hi=>?_;{rw[Yv (nz D ?h5)];show R.at};let hi':i<as.length:=?i;let#[h1,_,h3]:=R.row i as[i] ?I9;apply#[as[i],by rw[qa9,?I9];rfl,?oo];rw[Yv (nz _ h1)];show h3
universe e9
section
variable[?k]
abbrev K8:Sp:=?Ln (Nv λ ?eS (n:Nat) (f:?ag)=>Br (?Qj ?dD) ?nJ ?j6 ?FL)
abbrev n6:Sp:=?Ln (?Q1 (h<=40) ?FL)
abbrev FN:Sp:=?Ln (Hm λ(u:V) (t:Tn)=>Ee (vs=[u]) (Rep K H u (zK t)) (∀(v:V) (H':Hp),?aw->Rep K H' v (zK (tnA t))->?ff))
variable(CL CT:Addr)
universe e9
section
variable[?a5][?Kj][?ce]{ds:?Om Bool Tn}
abbrev Ls(H H':Hp):Prop:=∀c q,H c=?My q->H' c=?My q
abbrev Kp(H H':Hp):Prop:=∀a,?sL->H' a≠none
def Kp.trans{H H1 H2:Hp}(x:?oT)(y:Kp H1 H2):Kp H H2:=λa e=>y a (x a e)
def Kp.of{H H1:Hp}(s:?hO):?oT:=λa e z=>e (?sA z)
def Kp.upd{H:Hp}{p:Addr}{o:HO}:Kp H (?Qh p o):=λa e z=>by cases hap:a=p;{rw[hap,Ab]at z;cases z};rw[Aj hap]at z;show e z
def Kp.x{H H1:Hp}{p:Addr}{o:HO}(s:?fG p H H1)(hp:H1 p=?w):?oT:=λa e z=>by cases hap:a=p;{rw[hap,hp]at z;cases z};cases q:H a with| none=>show e q| some o'=>rw[s a o' hap q]at z;cases z
universe e9
section
variable[?k]
universe e9
section
variable[?a5][?Kj][?ce]{ds:?Om Bool Tn}
universe e9
universe Hb
namespace L2
open PySem PySem.Spec PyProof.Rows PySem.W
section
variable{X:Cx}
abbrev Xt(_i j:Int):Prop:=j≠0/\j.natAbs.log2<9000
def Xt.of{i j:Int}(h0:j≠0)(h:j.natAbs<2 ^ 9000):Xt i j:=#[h0,(?p5 ?i).mpr h]
def Jt:?Me ?Cd Xt (i.fdiv j):=?Of (?F2 hc.1 q (?x (PyProof.noPylong_of_log2 hc.2)))
abbrev insAt(k:Nat)(y:α)(xs:?dd):?dd:=?nR++y::?lQ k
inductive mS(x:V)[?ah][?b6]:Prop| mk:∀(l:Addr) [?aQ] (k:Nat) (y:V),?hZ->(vs=[?jP,y])->?e6->?Bd->?IJ->?Qe ?O (insAt k y xs) ?wC
abbrev zW:?gK:=?Nr ?wC
def d6:MtM X "list.insert" zW:=by ext mW;let#[l,xs,k,y,?C,hH,hk,hz,q]:=h;cases rx;let#[u1,u2,?g,r1,r2]:=BD rv;let ?bd:=r1;ext ma;(let hsl:((k:Nat):Int)<?dm:=by let h1:?Lx k:=?i;(let h2:sizeLine<=?bg:=?bB);let h3:=qa4 h1 h2;ext d);(let hfit:¬?Q2 (! ?GP ?fb):=by rw[?Ec ?i hsl];show qe9);(let hsz:?Lx its.toArray.size:=?qV);obtain⟨ki,hki⟩:∃ki:Int,ki=?fb:=?gI;rw[←hki]at hfit ⊢;let hm:=AutoSeq1.list_insert_list_int_val_1 l ?a8 n ki t u2 hfit hsz;apply ?fP F.slot_list_insert ?g5 F.entry_list_insert (F.args_list_insert_3 _ _ _) hm ?mI;apply#[?O,_,?sX (its':=insAt k u2 its) hH e ?_ ?_ ?_,?g,q];{let hkl:k<=its.length:=?i;let hkn:ki.toNat=k:=?i;simp only[qc9,hkn];rw[?dJ,qn6 hkl];refine Array.ext';simp only[insAt,Array.toList_append,Array.toList_push,Array.toList_extract,List.extract_eq_drop_take,List.drop_zero,qz6];rw[qu9,qh5 (i:=its.length-k) ?Gx];rfl};{show(r.take k).append (?Y r2 (r.drop k))};unfold insAt;rw[qc3,qd9,qd1,qj3];ext d
structure Bp9(K:Frag)(D:Addr)(m:Str)(f:Addr):Prop where
 rd:readsIn K D ?yf=true
 fc:findCls K ?bm ?yf m=?h (.val ?bD)
 ga:specialIn K ?bm "__getattribute__"=?h (?h (?bP "type.__getattribute__"))
 kp:?hR
structure A62[?c3](K:Frag)[?ds][?iw][?ml]:Prop where
 ex:∃(f:Addr) (fd:FuncData),Bp9 K C m f/\?m4
def Aa7[?LO]{x m:Str}{np apos pos:Pos}[?cA][?aP]{t:TA}{pl:?kC}(h:?Ng A62)[?d5][?tb][?c4][?mc]
 (hdb:?so) [?tP] (hpl:?o (?ck (·.1)=false) ?A)
 (ht:?o (?Pw ?Er=(do
   let ov ←?Pw ?IZ
   ?gD
   let ?gU ←?g0
   ?pf)) ?A) :
 ?Ma ?Er ?vh:=by
 have#[f,fd,B,hb,F]:=h.ex;ext a0;apply qr5 (pl:=pl) ?q5 ht;apply method_cls ?ao B.ga (cls_value ?ao B.rd B.fc ?g ?_);apply qt7 (h₀:=X.base) ?l9 B.kp (E6 (ha ?n Ae _ σ H _ ?jq h) ?xl) hst hpl;show iK F ?gt hb ?J kX I1 r q
universe e9
universe L2
namespace L2
open PySem PySem.Spec PyProof.Rows
section
variable[?gb][?aG][?aR]
def Lu[?LV]{x:Value}[?bJ][?L2](gx:vs[n]?=?b8) (k:∀h',?nc j t ?a3->?fK j ?F h'->Q x ?d1):?wX:=by ext Jt;simp only[qc4,gx];apply ?PS (qc0 #[x,?g,qc0 (k _ ?_ ?wc)]);show#[_,?Fb _ q1 (Obj.isFreed_of_fields (?xa q3 _)),(Obj.cls_mapFields ..).trans q2,by rw[?xa q3];simp[rawInt]]
def Tg[?LV][?bJ](hn:?nT)[?L2](gx:vs[n]?=none) (k:∀h' e,Heap.ExtBut j ?F h'->(∃o,?dW e=?w/\o.cls=?uE)->E ?Gu ?d1):?wX:=by ext Jt;simp only[qc4,gx];apply ?Qm qz1 (?PS ?_);exact ?Lq (newExc ?uE []>>=_) _;apply ?e8;simp only[newExc,newTuple];apply ?l ?Ak;apply ?l (m:=firstArgMember _ _) (wpAny_of_eq (a:=Value.none) (by first | rfl | (simp only[firstArgMember];rfl)) ?_);apply ?Ak;simp only[raiseNew];apply ?Qm wpAny_handled ?_;(first | rw[show A.in1.handled=none from hn] | rw[hn]);apply ?Qm qc0 (wpAny_throw ?_);show k _ _ (((?wc).extBut.push _).push _) #[_,?cl,?g]
def SI{z a b i1 i2 t1 t2:Addr}{n m:Nat}{xs ys:?bA}{x y u v:Value}[?bJ](D:?Is z a b i1 i2 t1 t2)(gz:?N6 ?F ?aO)(ga:?aX ?F a ?hi ?iI)(gb:?aX ?F b u v) (g1:?pD i1 t1 n) (g2:?pD i2 t2 m) (e1:?lk t1 xs) (e2:?lk t2 ys) (gx:xs[n]?=?b8) (gy:ys[m]?=?gT) (k:∀h',?N6 h' ?EG->?aX h' b x y->?nc i1 t1 ?a3->?nc i2 t2 ?lf->?aX h' ?N x y->h'.objs.size=?aK → (?O6 b ?yI)->Q ?ai ?d1) : ?j ?b4 A (Builtin.«zip.__next__» #[[?fs],[]]) (λfin s'=>∃r,fin=.done (.ret r)/\Q r s') E s:=by exact ?Lq (?lG ?fs 2>>=_) _;apply ?l (qi2 gz ?g (x:=?cw ?bb) ?g ?_);exact ?Lq (?lG ?fs 3>>=_) _;apply ?Mx ?K ?_;apply ?N9 ga;exact ?Lq (Builtin.SmallTypes.ownedTupleIsFree ?fs>>=_) _;apply ?e8;unfold Builtin.SmallTypes.ownedTupleIsFree;apply ?Mx ?aO ?df;simp only[if_true];apply ?Qm qz1 ?_;apply ?Mx ?as ?_;apply ?l (qj4 gz ?v λk1 gz1 w1=>?_);replace gz1:?N6 k1 ?op:=gz1;apply ?e8;simp only[List.zipIdx_cons,List.zipIdx_nil,List.forIn_cons,List.forIn_nil];apply ?OQ ?_;exact ?Lq (?qy ?hi>>=_) _;apply ?l (Lu (g1.extBut ?g9 D.i1z) (e1.extBut ?g9 D.l1z) gx λk2 f1 w2=>?df);let gb2:?aX k2 b u v:=?i9 _ _ D.TOi1 (?g9 _ _ D.TOz gb);apply ?N9 gb2;apply ?l (?Af gb2 λk3 gb3 w3=>?_);replace gb3:?aX k3 b x v:=gb3;apply ?Qm ?HE ?df;apply ?OQ ?_;exact ?Lq (?qy ?iI>>=_) _;apply ?l (Lu (((g2.extBut ?g9 D.i2z).extBut ?i9 D.i12.symm).extBut ?iV ?Gi) (((e2.extBut ?g9 D.l2z).extBut ?i9 D.l2i1).extBut ?iV D.l2TO) gy λk4 f2 w4=>?df);let gb4:?aX k4 b x v:=?j7 _ _ D.TOi2 gb3;apply ?N9 gb4;apply ?l (?Af gb4 λk5 gb5 w5=>?_);replace gb5:?aX k5 b x y:=gb5;apply ?Qm ?HE (qc0 ?df);apply ?N9 gb5;apply ?Qm wpAny_newTuple ?_;(let sz:?Mq k5.objs.size:=by rw[w5.1,w4.1,w3.1,w2.1,w1.1]);let gz5:?N6 k5 ?op:=?lY _ _ ?De (?j7 _ _ D.i2z.symm (?iV _ _ ?De (?i9 _ _ D.i1z.symm gz1)));let kp:?O6 b (?pA->?sg->?EZ->k5.get? c=?w):=λc o c1 c2 c3 c4 e=>?lY _ _ c2 (?j7 _ _ c4 (?iV _ _ c2 (?i9 _ _ c3 (?g9 _ _ c1 e))));let f15:?vp i1 t1 ?a3:=((f1.extBut ?iV ?GI).extBut ?j7 D.i12).extBut ?lY ?GI;let f25:?vp i2 t2 ?lf:=f2.extBut ?lY ?Gi;let lz:z<k5.objs.size:=qc5 gz5;exact ?Lq (Builtin.SmallTypes.ownedTupleHandOut ?fs ?xE>>=_) _;apply ?e8;unfold Builtin.SmallTypes.ownedTupleHandOut;let gz6:?N6 (k5.push { cls:=?bO,data:=?aM #v[x,y] }) ?op:=qa8 _ gz5;apply ?l (qj4 gz6 ?v λk7 gz7 w7=>?_);replace gz7:?N6 k7 ?vc:=gz7;apply qj4 gz7 ?v λk8 gz8 w8=>?_;replace gz8:?N6 k8 ?vc:=gz8;let up:∀c o,?hh->k5.get? c=?w->k8.get? c=?w:=λc o c1 e=>?Jg _ _ c1 (?IA _ _ c1 ?gH);let gt:?aX k8 ?s3 x y:=?Jg _ _ ?DT (?IA _ _ ?DT ?cl);(let s8:k8.objs.size=k5.objs.size+1:=by rw[w8.1,w7.1,qj2]);rw[sz]at gz8 gt s8;apply qc0 #[?aS,?_];exact Q ?xE _;rw[sz];show k k8 gz8 (up _ _ D.TOz gb5) (f15.at λo e=>up _ o D.i1z e) (f25.at λo e=>up _ o D.i2z e) gt s8 λc o c1 c2 c3 c4 e=>up c o c1 (kp c o c1 c2 c3 c4 e)
end
mutual
#check(4,[?a,?b,?c,.(by first|with_reducible(first|assumption|show Nat.le_trans ‹_› (Nat.le_of_ble_eq_true rfl)|show Nat.lt_of_lt_of_le ‹_› ‹_›|show Nat.le_of_lt ‹_›|show Nat.lt_of_lt_of_eq ‹_› ‹_›|show Nat.lt_of_lt_of_eq ‹_› (Eq.symm ‹_›)|show Nat.lt_of_le_of_lt ‹_› ‹_›|show Nat.succ_le_of_lt ‹_›|show Nat.le_of_not_lt ‹_›|show Nat.sub_le _ _|show Nat.le_of_succ_le ‹_›|show Nat.lt_succ_of_lt ‹_›|show Nat.le_add_right _ _|show Int.toNat_sub _ _|show Nat.le_trans (Nat.min_le_right _ _) ‹_›|show Nat.le_trans (Nat.sub_le _ _) (Nat.le_trans (Nat.le_of_eq ‹_›) ‹_›)|show Nat.sub_succ_lt_self _ _ ‹_›|show znb ‹_›|show znc ‹_›|show Nat.succ_sub ‹_›|show Int.natAbs_neg _|show znd ‹_›|show zne ‹_› ‹_› ‹_›|show znf ‹_› ‹_›|show znh ‹_›|show zng ‹_›|show zni ‹_›|show znj ‹_›|show Nat.add_sub_of_le (Nat.succ_le_of_lt ‹_›))|lia),.(by first|(apply Hb.let12 ?_;intro _ _ _ _ _ _ _ _ _ _ _ _)|(apply Hb.let11 ?_;intro _ _ _ _ _ _ _ _ _ _ _)|(apply Hb.let10 ?_;intro _ _ _ _ _ _ _ _ _ _)|(apply Hb.let9 ?_;intro _ _ _ _ _ _ _ _ _)|(apply Hb.let8 ?_;intro _ _ _ _ _ _ _ _)|(apply Hb.let7 ?_;intro _ _ _ _ _ _ _)|(apply Hb.let6 ?_;intro _ _ _ _ _ _)|(apply Hb.let5 ?_;intro _ _ _ _ _)|(apply Hb.let4 ?_;intro _ _ _ _)|(apply Hb.let3 ?_;intro _ _ _)|(apply Hb.let2 ?_;intro _ _)),.(by first|(apply Hb.letG6 ?_;intro _ _ _ _ _ _)|(apply Hb.letG4 ?_;intro _ _ _ _)|(apply Hb.letG3 ?_;intro _ _ _)|(apply Hb.letG2 ?_;intro _ _)|(apply Hb.letG1 ?_;intro _)),.(by ext d),spot,sumN,rfl,i+1,qa3 _,some,n+1,det,if_neg,∀{t:?C},a,?p ?g,qa4,Nat->Int,if_pos,prodN,?u ?j,t j,i<n,spot+1,w+n,.int,Nat->Nat,wpAny,.ref,j+1,∀(t:?C),a,k+1,addR,qb1 _,t l,j<n,2 ^ b,this,List,?u ?g,.(by intro z;cases z),f i,.inr,.inl,.(by grind),m+1,(-1),.(by decide),2 ^ c,.(nomatch h1,h2),Lat.Mat × Lat.Mat,2 ^ π,sumN_all0,t k,∀{f:?t},a,In.row,d+1,f j,blendR,c+1,sumN_one,Bits,beside,?u z,shrS,?E p,#[x,hx],r<=j,moveR,∀(n w:Nat),a,?E a,ih ?g,.(by simp),i-d,∀(f:?t),a,∀(R B:Mat),a,.(nomatch ?j,?j),s.heap.objs.size,h.pos,.lst,p.1=k,kt j,∀(I:?yd),a,none,?NJ ?_,D9 ?g,model prog w,?m o,∀{n W w i:Nat}{G:?az},a,.(by split<;>ext d),∀{K:W.Frag},a,T k k,p+1,?aN+1,decide,funext,.(by ext Q),R j ?x,Mat × Mat,X.env,z.symm,?aC w T P,s.heap,Good,r<=n,_,(R,B),r+1,r<=i,Cz ne,h.zero,?QA Nat,w+a,unit,RelV,i-?z,s l,kt i,.none,∀(hp:p<n)(hq:q<n)(ne:?eJ),a,∀{P:Program}{w:World},a,2 ^ β,.nil,?p e1,kv.1,?Tg D j hj,?cB t ?h st,A p,A.fdiv B,.dK kvs,∀(ms:?ch),a,∀(s:?a0),a,∀{kvs:?bj},a,∀{n w:Nat},a,?p z,.type,false,Q .non H',j<=i,R r c,i-?e3,gH ?_,absurd,t i,Nat->?t,f+d,t ?h,.(by ext ad),2 ^ ?yf,?cB t i ?b5,∀{G:?az}{M B0 R B:Mat},a,∀{s:?am},a,∀{R B:Mat},a,A p c,V.int,T k c,.cons,?O ?qK,H.hi,?v f m,?Ta A,spot<=i,h.old,R j c,I.hok,j=spot,∀{A:Around}{E:?Hi},a,∀{kt t:?C}{hd:?t},a,∀(K:W.Frag)(CL CS CW:Addr),a,∀{ms:?ch},a,∀(x:?xP),a,.(by simpa using hb),_,.(by rw[Bw];ext d),.(by unfold moveR),∀{H H':Hp},a,∀(hi:?y),a,(?al).natAbs,T' k k,s c,?m v,η+1,R p c,?aI R i s,Io ne,insT,?p e,?u e,downS,λ_=>0,mixKind ?iL X.w,.ins,lookI,?p h1,?H+m,h.inc,∀{X:Cx}{Ae:Bl}{σ:St}{H:Hp}{s:Shared}{a:Addr},a,.(by rw[?r]),∀{C:?az}{δ:Nat},a,.(nomatch l1,l2,l3,l4,l5,l6,l7),.(by rw[this];simp),.(by rw[?bM]),∀(n W:Nat),a,?E b,mvI i s r,?p h2,H p=none,R k ?a3,Sc kvs k,eval,?NP ne,r-1,i≠j,(1:Int),?Ny ?_,#[a,b],Same H H',?O ?le,?c7+?cm,?SK h,?z+d,fs.lookup,Fl π b r,λy x=>?Ee,w+c,π+1,A q,?QZ hx,?O V,(H0:Hp),R i c,Vs ?bq e,∀{Q:?Hi},a,∀{v:?t},a,∀{n p q:Nat},a,∀(i j:Nat),a,∀(hp:p<n),a,keep,i+d,?SR t d,.tup,#[z,hd,vs,rel,dd],λ_ _=>rfl,β-?c7,(-q),?O Expr,λc=>c<w,λl=>?dx,IsPair,?cI ms k,kV k,model ?iL X.w,?I R p q k,h.low,autoParam,(?dx).natAbs,?Sp f,put2,?rN-1,λz=>?_,[it],tr T,?p e2,spot<l,Part,.(by ext bx),hd j,j-1,?u h1,kvs.map,Option.none,n+w,qh7 ?dN,cS π i,s.1 i ?bY,mixKind P w,(?Pz ?_),T i c,?Mz ?_,λk hk=>h k ?g,(k,v),.(by intro X hP hw hK hc i Ae s σ H E I hf st hg;subst hP hw hK),∀(H:?qa)(h:?pS),a,∀{R0 B0 R B:Mat},a,∀(s:?am),a,∀(a b c d:Int),a,_,∀(hs:?hg),a,∀(K:W.Frag),a,.(nomatch tv,dx,fs),?E ?aR,cM π i,By e,n-k,?v f n,R l ?K,R k c,?QA Addr,K.zero,I.ok.hd hc,Wy f ne,e+1,.builtin,?O Addr,f<=j,Ap λgG gH=>?_,.fields,λr c=>R r ?c5,?R / g,β+c,Iq R p,λj=>T j ?x,cpos,call,addS,addR_row_ne,Q c,p≠q,Itm d o,?v f k,Zrr._auto_1,a*d-b*c,.(by ext es),#[h1,h2],Value.ref,λp=>?ai ?aU,hst.zero,R' p ?K,T j c,c<?A,?p q,r≠p,?p ne,?O Key,λj=>?h6,r<=w,(pb R t k ?dv).natAbs,r1.fdiv r2,ObjOk,m<=n,(?dU).natAbs,?Tc ?_,λr l=>R r ?K,∀{kvs:?g2}{vs:?Of κ Value}(r:?ey),a,∀(h:?yA),a,∀(bb:?D6),a,∀{prog:Program}{w:World},a,.(by apply qr4.mp λy=>?_),.(by apply qk0 ?dN),∀(hi:?y)(hs:s<=i),a,∀(R:Mat)(p q:Nat),a,∀(ry:?b2 y u),a,.(by simpa using q),∀(h:Kt i R t),a,∀{s:Shared},a,?R5 a,R ?cK ?AC,(?P0 R),KV kvs vs,A r c,?Sq p q,-(b*q),d<=?k,h.st.lt,Pv ?k,A / g,?fF+i*?cp,?u a1,(n w:Nat),?Sl s',2 ^ δ,value,(0:Int),Pv i σ H,λa=>a=nm,b+i+3+?fe,?m x,?p a1,?u q,H.part.inc,K.head,x.2.1,kvs[i]?=?nz,Pv i zs τ H,By ?g,(?bR).natAbs,.(by ext bz),hst.lt,Rep.same,?cu=0,(i:Nat),λ_ _ _=>rfl,(?m9).1,.(by simpa using e),m+d,h.red,if p<i then p else p-1,"zip",x.nu,?E it,2*π,IsZip,Sum.inl k,R l c,cK ms,c<=?bY,?v ?Bf r,.bool,Lat.shrS,K.inc,Ql ?aq a ms,?QA Shared,#[y,hy],?E z,AI s r c,Value.isInt,y4 n r kt,(s:?a0),s.1 ?h ?bY,-r2,2 ^ η,x=?aK,x.2.2,?eG i ?h ?d8 ?au,?O ?Cs,s2.1,ms.map,blendS ?h i x y z u ?au,V r c,k+m<i,?qC&&?rE,v ?a3,s.heap.IsTuple,spot<r,?No ?_,?u h2,(n W:Nat),R ?h c,S.same,BB.bo,kt ?h,?hO V,qc0 ?_,h.gc,?O Int,λx a=>R x ?b0,T r ?c5,insAt,Itk d o,?NJ ?g,∀(_K:W.Frag)(CL CS CW:Addr),a,∀(n W w i:Nat)(G:?az),a,.(by rw[move_row];unfold mvI),∀(l r:?a0),a,∀{R:Mat}(h:?OV b R),a,.(by apply ?e7),∀(h:?iK),a,.(by clear hz2;ext d),∀(ok:?xN),a,∀{n W w r i:Nat},a,∀{G:?az},a,∀(s:?C),a,hst.ge,?QA ?a0,call_meetsIn,#[u,hu,ru],0<?al,pT n B R a b,b*f x,qc7 _ ?j,H a=?m ?bH,(?hC).congr,λk=>x k*?bh,upd H' a ?bH,Ic A i,m<=w,blend_row_p ne,?v ?dB i,#[t,?j],s.heap.get?,K.red,?Rn k T,kvs.length,.(by simpa using e1),Q1 kvs p.1 p.2,starEach,?Kv n w T,x1*y2-x2*y1,h.IsTupleIter,?So i,T j j,?So ?k,p+d+1,t ?bX,Ek w r T' t,?ck<=i,?a5 hj,?n-1-k,.dK [],?Sl ?au,dd.typeIs,?Of ?eZ V,(?rf).get?,?OU k c,2 ^ i,r+d,?vM<0,i-r,Option,as.map ?ly,λj=>?al,Array ?lV,R' p ?x / ?al,.(by decide +kernel),h1.symm.trans e,?TE ?g,.(by simp;ext d),2 ^ ?cp,?RH ?DH,?Q2 H',λc=>?oJ,K.pos,?QV st j,h.st.pos,λb hb=>?_,R' p c,spot<i,H' a=?lH,?bN ?hp,r1-?ed*r2,R j ?K,2 ^ ?eB,?eA*?a7,D.nx σ H,H d=?lH,"dict",?SE (?Ha*?FC) ?n,L+2,beside_lo,(?oa,Lat.one),Ph π b η r n,tr Qh,t m,h'.get?,h.ker,Z r c,?u e1,Rd H a ?bH,pb R t k m,qj0 _ ?g,R r x,qe4 ?X ?g,St->?kK,β+(π+2),k-1,v ?x,h x y hx hy,"range",.frz o ?bH,?u e2,hx c ?g,?I P i j 1,?Sg u,j<spot,x c*T c c,spot-r,Gx n w r E e T,X.prog,β+?lp,?lj ry,Qh k k,ChainAt,f+m,?aI R i ?h,?hO ?lV,β+?dt,b+c+1,?SI ?aS,h.st.inc,R7 es ms,?m _,a m*U m c,λi hi=>?_,tr R,s.1 i c,congrArg,.Call,_,?Of TE TE,x k*?cX,S1.same,∀(K:?zm)(h:?yZ)(hi:?aw),a,.(by unfold insT;rw[?r,?w]),.(by intro Ae s σ H xs us Q I r h),∀{A B r1 x1 y1 r2 x2 y2:Int},a,_,∀(kvs:?g2)(k:κ),a,∀{kt:?C}{hd:?t},a,∀{n w r:Nat}{E:Nat}{e:Int},a,∀{R B:Mat}(h:?FO),a,.(by rw[←Bc,←Bc,←C3]),∀(e:?gm),a,.(by apply Af ?ia),∀{es:?O ?jP},a,∀(g:?iK),a,.(by rw[←rel.length]),∀{w r:Nat}{R:Mat},a,∀{π b spot:Nat},a,∀(h:?JV),a,∀(u v:?t),a,∀{i:Nat}{R:Mat},a,∀{y:V}{u:Value},a,.(nomatch x.fr,x.ne,x.sm),∀{CL CW:Addr},a,∀{o:?gJ},a,∀{u:?t},a,?Nd 1,(M:Lat.Mat),?bS+1,n<=1000,?R∣ ?a7,tr S,?p y,?hO Lat.Mat,A.handled=none,M a ?x,?af=0,PB k a,bs[i]?,qa7 ?_,W<=1000,h'.IsTupleIter,Shares,DictEntry,SameX,?k+m,Int.mul_pos,?NP e,?v ?vI m,[e,f],?ew*?i2,Kp H H',?RW f m,-?sy,yO K a b,j<?k,?bC=k,?SH r c,2 ^ e,r≠i,?ST ?aS,s2.bwd,h.good.rest,.(by kernel_rfl),H b=?m u,(M:?dz),?v f' m,?R3 c b,?NT H s',λa=>a=nm\/a=r2\/a=b2,lx.nb,I.tok _,{ s with heap:=h',toks:=tk },lo<=n,?E D2,?bN ?fb,#[_,?gl,?aQ],?SA a ?iC,base l h1 h2,?EC t ?h st,(l r:?a0),λx=>M x (s 0),Je ?N,if i=j then 1 else 0,st.inc,y=?cT,λk=>?mA,?S (?T z),vs=[?aF],?NF r (?h6∣e),?dw*f n,?NF i (?x<W),Ql ?aq b ns,qk7 ?g ?g,λk=>B k a*?pY,?i _ ?n,y k i,?p ?X,List.range,Ku n w r e T,?QA Hp,(?sF).2.2,tr A,Itd hi n,P x,?aE t p f s m,λc=>?eV,bb.mono,?b2 ?dE u,bb.2.1,?QV ?gI j,?u hi,M i i,R i x,Sum.inl p.1,?gv b=?ab,R j,u l,h.st.red,AI s j c,?NF r (?x<w),?m (w:Int),(?bO,?Sb b),?t7 vs k,?p ?HT,?S (?S z),.dK ?wG,s.heap.push ?D8,lx.nr,?SR ?bb d,β+?cm,i<=kvs.length,?v f ?fY,?E D1,kvs.any ?q2,?E D,h c hc,I.laid,Nat->?t->?EN,qg8 ?fQ,λl hl=>?_,?i ?kE i,h.good.trans,?hg->st<?bY,?a9<=k/\k<r,w<=60,C6 ?g,U k c,Lat.Shares,[a,b],Ni R t i ?bS,h n ?g,2 ^ ?fe*h,(?r5).natAbs,.(by ext my),?xA n w M,c-w,n-r,?ST st.lt,?m ?iC,?fa+1,?B i,?i _ m,A-?bG*B,?bm=0,if r<i then r else ?av,λx hx=>?_,{ s with heap:=h' },h1.2.2.2.1,?k-d,?N3 i j 0,r1*r2,u ?a9,Value,#[?sX,[]],(p L R nm:Addr),λr l=>R r ?He,slice,?u hj,?O ?IP,Rd H a (.dK ?fi),h.st.zero,Int × Int,qa2.mp,λd hd=>?_,?TK j*?dJ,-y1*r2,kV_is,#[q1,q2],?Gh ?l,st.zero,.(by unfold cM;ext d),?m ob,Hs π b i,s1.heap.push,2 ^ Y,?Oa e,s.1 j ?x,qh6 ?X ?g,?x<?a3,?Ow kvs.length,Fl π b i,V.ref,?O α,intKind prog w,hst.pos,qt0.mp,?u y,(t:?C),h _ ?g,?NF i (?x<?A),?p a2,(p q:Addr),?aE t p f ?au d,(x k).natAbs,?i f j,its.toArray,Good.refl ..,#[as,a1,a2],(K:Int),h.tab,?u a2,?PQ ?lF,-(?Ni m ?AC),2 ^ 61,?aE t p ?z ?au d,Gy f n,t ?sA,?ON n,?m y,?hs hc,?a1*?dJ,?Nx ?_,n-1-k,this.table,?ST ?m1,r-k-1,?a3=k,qc5 e,.(by rw[h,qd8]),?fF+spot*?cp,λj c hj=>?g,(v:V),(z▸hN),moveS,.(by have#[ho,hsys,hl,vs,es',zJ,rel,hd',hsz,ex,hm]:=j3 I hz;rw[hd]at hd';cases hd'),∀{kvs:?hH}{xs:?sK}(r:?yG),a,.(by repeat (first | rw[?w] | rw[?eY] | rw[?p ne'])),∀{C p r b:Addr}{sv:?gJ}{n W:Nat}{s:?a0},a,.(by let hn:es.size=vs.length:=by rw[hsz,rel.length]),∀{ns:?gM}(x:?xK),a,∀(hp:?xe)(sx:?qk),a,∀(K:?vt),a,∀{p C dx:Addr}{fs:?Of Str V},a,.(by apply#[?aY,?aY]),.(by show(show False from r).elim),∀(hz:?NR ?bY ?fT),a,∀(x:?rb),a,∀(kt:?C)(hd:?t),a,∀{a b c d:Int}(h:?eN=1),a,∀{n w r:Nat}{e:Int}{T:Mat},a,∀(he:0<e)(h:?kJ),a,∀{vs:?lb},a,.(by intro Ae s σ H R I h),.(by rw[e];show True.intro),∀{D:Nat}(hD:R9 m G M D),a,.(by let p:=?OO ?hb),∀(he:?th),a,∀(e:?i1),a,∀(h:?H2),a,∀(hGW:∀c,G c->c<W),a,∀(h:Heap)(a b:Addr),a,∀{R:Mat}{p q r:Nat},a,∀(R:It->?kK),a,∀{n p:Nat}{A:Mat},a,∀{R B R' B':Mat},a,∀{X:Cx}{pos:Pos},a,∀{n W w i m:Nat},a,∀{M B0 R B:Mat},a,∀{N:?dz},a,∀{n W w lo:Nat},a,∀(s:?cg),a,.(nomatch r1,b1,r2,b2),?aC n S ?sa,if ?l2 then x k*?bh else 0,?Rf D,pT n B0 M a ?x,I ?h s',(?hF).1,(?gt).natAbs,(?af).natAbs,?SN h k hk,#[bs,b1,b2],λk _=>?_,?SR t 0,?cI ns j,hf it ?aM,?aE t p f s d,qj7 _ g0,getItem,∀c o,c≠z->c≠b->c≠i1->c≠i2->?zx,π<=8990,Same H0 H,Lat.downS,?Nw n (0<f k),tPairs,?T ?j,r-?a6,?u ?X,?me i ?h x,λj hj hne=>?_,y1-q*y2,?N2 (?kG*?jJ) n,?hK*μ,?p x2,I1.kept,?Na (?rT*?us) i,λk=>x k*?dy,qc0 h,λ_ _ _ q=>q,s.eqv n ?l,?yj+1,qf7 ..,.(by ext ix;show z),P.zero,DC kvs k,KT × Value,?m ?di,?ST ?f3,M k ?aV,s.TypeIs,?Nv EuA r2,I.bare,?o i ?C1,Int.le_trans,?m M',LZ ?bq e,hb.typeIs,Gy ?k6 j,po x x1 x2,tupleKind_room_in1 hu,?E b2,n<=60,qp1 m0 m1,h.st.next,?cs->Hp->?QA VK,Qh k l,a*u c+b*v c,r2≠0,X.calm=true,β+i*?dt,i-1-j,λz=>e (?pV z),?So ?H,.bl true,Ne.symm,?a7*?R,h.back x hx,Int.lt_trans,In.zero,I2.thaw e2 hb,HT.sIx,Rd H a ?sD,#[_,?j,h],Lat.one,?Sb e,UU i M,let #[q,_,_,hq,_]:=vA;#[q,hq],?l6 ?R ?a7 g a b,f p-g p,y1*y2,?i ?KW m,Builtin.Dict.samePairs,x2*r1+?t1,?SJ a,h.partOf,Lat.Mat->?EN,Nat->?t8,?B (hi-i),?So r,D j j hi hi,D9 (by ext gZ),P' x a,?SL h.pv,λr x=>?_,λ_ _ _ _=>rfl,λa c=>?y0,?c7<=β,?bN "tuple",?u e3,a∈as,r-?k,T i d*X d j,?N2 (a k*?Ta (?Sg (U k))) m,B.fdiv r2,#[T',s1,s2],st.red,λk=>x k*?l5,[a,b,c],"keys",qp3 ?_,BO n W s,Lat.beside,.(by ext uJ;ext ad),?xT i c ?l,?Mv (?iU=(c+b)+1),.Attribute,?SJ D,.(λM' e=>by cases e),g.sq.row0,λc=>c<W,h.st.pg,RB l a-?Fa,λr x hr hx=>?_,?O6 p,?O Str,?Pe ?hj r2.natAbs,?R2 x ?a7,?My ?h R B,2 ^ (z-2),kk b ob hb z,h1.trans,t1 j,?SI hp,R k ?x,D6 e c,?NF i ((B j a).natAbs<=2 ^ j*m),-(B / g),?E r,(?dd).is,?N2 (x k*Sb n w A (U k) q) m,?aC w R ?gN,?Rf y.natAbs,?NH R' B',λσ2 H2=>tb { D with nx:=?f4,ct:=?f4,bk:=D.nx } σ2 H2,?cE ?bE i ?f9 ?k,?OO ?fK,?Nd 3,?Pk H' f,blend_row_ne,#[a1,a2],Lat.addS,"__ne__",?PS ?k R0,?Nd 2,{ cls:=?bN "dict_items",data:=?e8 #v[?E d] },?RJ q,?Sn ?U,2 ^ ?vf,RE ?bq e,values,?a7 / g,h.detsD,#[hp,g,d,tk,os],λkv=>?ai ?jc,JD ?bq eb,Int.natAbs,?pn e2 e3,#[c,hc,h0],x.same _ _ e,(! ?g8),?mM+f n,#[ok,ov,hit],o.data=.dict es ep,ms.length==ns.length,x.keep,(i:Int),?t9 hx k kr v0,#[?j,?_],eU.zero,Fk n w T T',#[kvs,kvs[i].1,kvs[i].2,q,?rA],Key × V,λx=>M x (s y0),?Rf x.natAbs,shF i j g f,?Mv (l≠i),2 ^ b0,(N:?dz),?E i1,ih ?g ?g,i*D<=?M,.(by rw[x.1];show hi),e.symm,?T h,ha.typeIs,?Sc t ?d3 m,?m p.2,?OD G R0 B0,KL T s k,?E l,qg0 _ _,#[r1,r2],zz+π+1,Array ?jP,xs=[?aF],?b1 e j j,?bo l _ ?g h2,?jQ p H H',?u hr,?NF r (?x=j),c<?x->?bp=0,.(by rw[←qe3];congr 1;ext d),λk hk hne=>?_,β+?D7,λy=>hne y.symm,λk c _ hc=>?mQ,?SA p ?F1,?p hne,Lat.blendS,(?hF).2,A ?lN ?a9,#[i,hi,?j],?p e4,h.st.s0,g x σ H' λσ2 H2=>tb { D with nx:=N,ct:=N,bk:=D.nx } σ2 H2,?S7 ?h ?g5,#[λj k _=>?iW j k,λj c _=>?ld j c,λj _=>?hd j,λk j _=>?kc k j],x1-q*x2,?v ?dB j,λx H' y=>?_,I.turnedN,fs.findIdx?,?B (w:Int),.(by simp[hlt]),Iq B p,st.pos,λc xs q=>?zL,ms.all λp=>?ai ?Jz,A ?CN ?a9,#[b1,b2],(sv:?gJ),ZS i j g a b f r,(?Ni ?dv c).natAbs,?a2 ?ky,(?cX).natAbs,r=spot,(n:Int),?m ?yW,Af ?de,W i m σ H,b2 a ha,sumN_cut,?i9*?r5,Q1 kvs k v,jT n w i j f l r,"list",?E r1,?wZ ?eR,λk=>?nI,∃q,?hx a=?m q,LX H C p r b sv n W s N,?QZ hGW,0<=?pY/\?pY<?al,U m M' l' r',zt5 ?aq a b,Qj.some_of,?SD y1,stored,?fl ?bO,∃m,W 0 m σ H,?aI B i ?h,qn1 ?_,?i ?go m,?ON d,sq.flip,λc q=>?zL,?O ?lV,(f k).natAbs,#[w',hw,rw'],?B 0 0,x1*x2,?JL i,?k+Y+2,#[kr,ht],?A<=W,2 ^ d*?nt,Gy g n,?P1 ?_,x k-?tk,?aI B i s,?P5 R v,h.get?,β+(c+i+3),i-1-k,(?mL).1,if l<k then l else l+1,.(by ext ik),B≠0,.dT kvs,h.skip,a2 a ha,?p e3,j-?z,y kvs q,run d hd,?Of ?eZ (Addr × Value),f q-g q,(-r1).fmod ?fx,?Na (a j*U j c) m,?O (?hO Expr),#[kvs.length-?k,?g,?j,hlt,p'],w1.extBut,?a8 R ?h i x y z u,Lat.insS i ?h st s',?k*(?k+?f6+2),Nat.le_trans,h.col0,R i ?co,[?aK,?cT],?v ?ea r<=E,?lR<=r/\r<i,λx a=>S x (n+a),j<=spot,?v ?ea k,s.1 j ?kU,?v f ?n,?v _ m,U m M l r,In.sum,?E L,?N2 (?jJ*?hJ) n,?Rf q.natAbs,?Nd 4,#[y,H2,I2,ry,q2],IntMulOk,π+zz,?Po ts t,I ?h s,?Sp (λc=>?OL (?pM*R l ?co)*RB i c),λ_ _ x=>x,one j c,c<=k/\k<r,?i ?p7 m,?E t,R0 r c,b*?a7 / g,Ca (Ca R j (R ?F)) ?F ?ka,?o i ?Kq,-x1*r2,?e4 "any",x.same.trans,λy a=>R y ?b0,J9 W ?L4 st,?SD y2,valueAt,Nat->?i6,hst.lead,h.prod,.Subscript,T' k c,#[p,eA],(zt4 ?aq a b).objs.size,?bN ?rW,?a8 B p q d (-c) (-b) a,r=?fa,R1 r c,?m M,.bl ?xH,id hin,s _ _ e,?o2 ?aK ?hp,Ty hA hB,?NF i (G ?x),κ*D,?SK ?gL,#[r,t,OP,hst,hz],Af ?nR,?Sg v,?S h,H b=?Q8 (k.map kV),-?pz,?Tg D i hi,"dict.update.loop",Ir kvs more,shL i j g b f l,?I B q p (-k),∀σ' H',N σ' H'->∃m',m'<m/\W ?k m' σ' H',?ST ?rC,?p ?CM,C=CL\/C=CS,?Rf e.natAbs,?N2 (x k*?aC w T P k ?aV) j,?Ni m ?K,if k=j then 1 else 0,r1≠0,?p x1,?H+l,"__eq__",(EA▸hi),#[h1,_,h3],2 ^ ?lF,h.s0.inc,x m*U m c,?NQ (?bY<?K),2 ^ ?sH*μ*?M,?b1 ?h7 i d,Fa (?Mv (l≠spot)) ?qO,?Pz ?g,R i ?a3,(?hC).mix,hst.inc,?k*?rx,Ni R t i r,∀(D:?KT z a b i1 i2 t1 t2)(gz:?Qy ?aq ?b6)(ga:?dC ?aq a ?qR ?HH)(gb:?dC ?aq b u v) (g1:?Ab i1 t1 n) (g2:?Ab i2 t2 m) (e1:?gA t1 xs) (e2:?gA t2 ys),a,.(by(let t2:?cB t i ?b5 i=?b5:=?sB)),.(by let D:?R8 ?Bd:=h),.(by rw[?r,?r,?r]),∀{p L R nm:Addr}{n w:Nat}{M:?jF}{l r:?a0},a,∀(h:?NQ ?yX),a,∀{x y z u:Int}(e:SH π ?Aq ?Gl x y z u),a,.(by let#[σ',H',I2,e2,q]:=hq;show#[σ',_,?oW,q]),.(by show ?PO x0),∀{i:Nat}{T:Mat}(h:?Nh i (r<c->T r c=0))(s:?C),a,∀{z a b i1 i2 t1 t2:Addr}{n m:Nat}{xs ys:?hR},a,∀(hG:?Pf (r<i->G c->?zJ)),a,∀(hq:?Nw i ((Ni R t i k).natAbs<?Y))(hi:?y),a,∀{te:TE}{D:Addr}{Q:?kK}{τ:St}{H:Hp},a,.(by let e':¬q.1=k:=?oO),.(by unfold mvI;split;ext d;split;ext d),∀{C:?az}{R:Mat}(h:?Qs b R),a,∀(hu:X.A.units+1<cLine)(ho:?vs),a,.(by show ?lu),∀(hq:q<n){k:Int}(hk:?F6),a,∀{x:?am}(h:?Mw β x),a,.(by rw[?HX]),∀(x:?Dh),a,.(by let z:b=it:=?dT),.(by let#[u,?j,ru]:=Xy r;cases ru),∀{Q:?iS->?fp},a,.(by let ne:spot≠i:=?g),∀(A B r1 x1 y1 r2 x2 y2:Int),a,∀(h:?Ou n G),a,∀(spot i:Nat)(A B g a b:Int),a,.(by rcases qi0 i k with z | z),∀(hn:?y)(hp:p<=spot\/p=i),a,∀(ms ns:?ch),a,∀{T Qh:Mat}(s:?xS),a,∀{T T':Mat}(s:?qI),a,∀(tp nm r1 D1 D2 b2:Addr),a,∀(G:?az)(M B0:Mat),a,∀(P:?RW ?z i),a,∀(xs:?cs)(H:Hp)(Q:VK),a,.(nomatch ?g,?g,?g,?g,?g),.(nomatch z,hd,vs,rel,o,es,ep),∀(K:?zm),a,∀(ns:?ch),a,∀(hu:A.units+1<cLine),a,∀(p:Nat)(u:?t),a,∀(hA:0<A)(hB:?sC),a,∀(hij:i<j)(hj:j<m),a,∀{b p spot μ:Nat},a,?NT H ?js,(?Qn (h _ ?_)),V3 R t j ?oN c,entryFor,zs++[y],#[?Z,h3],Sc (p::r) k,B.natAbs<L9,hk1 _ _ hoD,qn5 _ gn,Value.bool,?GJ h2,tab j z,qa7 fin,λk=>?Hm,i<its.length,atKey xs k,e.key=?zR,Ic A p,.(by rw[eA];show ?nW),I1.tuple,?SN ?G5 j hj,qa6 e,dk_empty ?aq I.big,?ST ?hd,#[z,hd,xs,rel,dd],?v ?hQ r,#[x,H1,I1,rx,q1],?R2 x y,(p dx:Addr),l8 n w T ?jD,Array.getElem?_eq_getElem,?SH ?h st,I.tuple_inj,λkv=>(kV ?bC,kv.2),?Mv (?hD=?dv),λhr=>?_,k*R q ?b4,#[_,e,_],(←isInstance other ?hi),β+?lx,?aC w A one,?N i ?g,qk5 ?g m0,.(by simp[hl]),(?c8).natAbs,?Ni m ?c5,EB K H H' tp nm r1 D1 D2 b2 n w k f l r,?ff h z TI TO ?b6,.(by rw[qd1];ext d),ly.keep s,zz-2,?TE r1p,hx k hkn,(?rR).2.2,∀r c,?eX->?Bt,.Tuple tes x1 tpos,?QB h3,i.natAbs<L9,e.val=?B v t',?B x t,?So ?a6,show ?gA a ?x3 from pa,?Rp H o,PE X o td,?Nb ?A ?ap,SE R x H1,b+e+1,if a=b then 1 else 0,{ s1 with heap:=?lq ?pt },wpAny_callSpecial?_slot,hM a _ ha ?o0,Ap3 x y H Q,.Tuple es x1 tpos,UR n w r L m T,?pd k u=true,?gP k y xs,(?v6).map,?N2 (f k+-1*g k) n,?Po prs p,?aC n ?ib Q,?Of V V->?kK,?aE t i ?z ?r2 ?b3,λl=>f ?tn,?Td e,#[?J,?J,?gR,?mb,λi j _ hj=>?g],eU.pos k kq2,Kd ms k,Ir [] kvs,h.s0.pos,I.nodupK,?Fa*?fh,?hK*?ba,.bl (! ?yE),λ_=>False,hd p hp,#[ob,h1,h2.2.1],Nat.add_le_add_right,#[kvs,q,?l],h _ _ ?bZ ?g,{ s with heap:=?kl },.(by ext LN),Paired.snoc,[z,TI,TO,i1,i2],(?i ?kE j+?z0).natAbs,SA xs H Q,λb ob z=>?Oa z,ms.findIdx?,?Pz ?KN,λc=>?J0,r≠spot,λl=>?hk,?a8 R p q x y z u,.(λb u q n z=>by rw[z,e]at q;show n (qb0 q).symm),?ai (q.1≠k)=true,#[(λx=>nomatch x),h],?gA b ys,.(λc _=>by rw[By ne,Bq,Bq]),?Oa ?zB,.dK ?nx,?Oa ?gl,2 ^ 9000,h Ae s σ _ _ I' (hw (?wI (?T ea)) o),?Ow ((?wG).length),(?JY).1=_,#[q,u,hqw,eU,xM],?I R' p j (-?hS),?Mv (?z-r=?iJ+1),xs[n]?=none,?b9<=?hl,?OU i c,?T e,?cc->T i j=0,Mm f e1 e2,?Sg w,F.args_zip_next_1 _,?SN ?ay j hj,ia.toArray,(?kz).natAbs,qi8 _ _,#[ok,ov,h1],J9 W u st,?bo j c ?g hji,?Rm (wM c _ q),Lat.Straight,?NZ t d s,λc=>?va,?PQ ?iJ,?Mv (0<=-B),?Ql t s s,ys[i]?=?mP,bs.any id,[?Cg,?rX,?kr,?ju,?oD],b1.mono ?ln,?Mx H M ns,fW TY hs,Gy ?cF m,V8 P w H h,#[dx,fs,e _ _ h1,h2],?Pk H f,.(by rw[qg5];ext d),E6 (?OP he) λv s1 _z=>?_,l8 n w T Qh,h.st.good.rest,VI ?A f,Heap.SameBut,λc=>y c*?rn,?QU j,?Mw (β+?a6*?u2) ?qY,(?NP hj),"starts",R7 es.toList ms,∀spot,?bn->Ew n W w i G R B t π b ?h R B,?RD m f,H p=?m ?ye,?Ni m ?a3,Gy ?k6 ?hL,?v ?wB ?dv,H a=?m ?sD,?I R i ?h ?d8,Fa h1 h2,?cI ns k,?Sp ?go,(?kY:Key),?e4 ?Bp,#[o,q1,q2],?Nc ?Kp,hk1 _ _ ho1,y.natAbs*?fA,?Q0 (eU.ge k kq2),PySem.F.slot_dict_items,hx k ?g,.(by rw[Jk,Jk]),R' j c=?bp,Int.neg_dvd.mpr,λx y=>?Nq 0,if c<w then T a c else 0,#[ob,_,_,?Z,_],?Tg h j hj,?pp i j 1 l,Classical.choose,?ST h.hd,r1-q*r2,?ii l _ ?g,t ?ck,∀j c,j<i->?qn,?Ou i G,?NA H i s,?Oc s N,?N2 (?s3*?dy) n,sameC ms ns,.(by simp[valueAt,qq6,e']),KT H kvs xs,?S2 T ?kO ?eI,?S6 i p ?bB,r.repl k ry,?v f' l,λxs _ i=>xs.length<=i,?Ta (AM ?Jv j),r*?hr,c<w->?df=0,(x,y)::ps,?SR ?bb ?k,richCompare_meets_room,Int.mul_neg_of_neg_of_pos,?Rn k Qh,#[ha,hb,h],q::qs,?E q,(R p ?K).natAbs<=μ*?dJ,?a5 hq,?NV i G M,Shared.heap,?g0 i _ (qa0 hi),p*f x-q*?R,?NT H s,?cH C dx fs,?fe+1,-?u3*?kX,∃x y,x<k/\y<k/\x≠y/\r x=r y,λp=>if ?aU then(p.1,v) else p,?ON r,attributeBase,.(by simp[e]),Heap.DictOf.new,?dC h TI ?qR ?HH,IsRangeIter,λh' eb=>#[?j,?O1 ?dO (?TB (eb b ob ?dT z))],?cE ?bE i ?hF ?k,λc=>?bf+k*A q c,(zt3 ?aq a b).objs.size,?OV b' R,?n*jK n,λb u q=>?_,?fR i ?g,(←?z7 other),Ew n W w i G R0 B0 t π b ?h s.1 s.2,hnew.typeIs,B j a*?al,(?lf hi).1,∀ob u,X.H₀ a≠?m (.frz ob u),#[e1,e2,e3,e4,e5],λy x=>?Nq 0,show ?gA b ?EZ from pb,?RW 0 i,Builtin.Dict.addrOf,?SA a ob,D.s0.pos,?NF i ?gi,?Oa ?wm,YH ?l,#[?V,?l,?NJ (by ext MH),?AP],Same H H1,Rep K H u (zK t),skip_prod,?SO ?A ?vU s,In W n R v,?fP<=?M,?QZ hs,up c _ q ?ak,?Sy I.big,.ellipsis,λl=>?OJ (T l ?bV*?h5) l 1,t ?iQ,?Tg D p hp,?B k t,hx ?b0 ?g,PE X e td,"dict_itemiterator",c1.2.2.2.1,#[P,inc,hG],λj c hj hcw hne=>?_,λj _ h=>?g,?b1 e j,#[kvs,hz,hx],Nat.le_sub_of_add_le,Pv 0 [] τ H,?QX x2.natAbs/\?QY y2.natAbs,(?l0 g).trans,compareOp,"StopIteration",?OC ?lR ?d3 ?d3,?ai (p.1≠k)=true,?Sa v,?Nz 1,.(λx=>by rw[h.rows,?r]),?Nb W M,(a*x+k*y).natAbs,?oV ..,Builtin.Dict.dictSlotArgs,λx=>M x x,#[a,kvs,?j,e,q],?Sg ?bF,I.turned,?NP q,k2 ?z ?l,?Mz (qb6 ?cj ?G0),?gv c=?ab->?hx c=?ab,∀kvs,?ho->?fM,hrep M' e,Fl π b ?k,(self,other),λd _=>?_,y1-?ed*y2,?cY=none,ob.slots,?a5 (R:=Iq R j) hj,λe=>?ft k e.key,?O3 (r<=c->?yO),if j=i then 1 else 0,ns.findIdx?,.(by simpa using q1),t ?cK,?H+?dv,PySem.F.entry_dict_pop,?Sp ?rZ,#[#[_,h],this.1,this.2.1],?v ?dB k,?v ?wB ?mT,?S7 i ?g1,?Te ?ag ?ag*?BZ,0<=?eT/\?eT<?dx,Builtin.Range.rangeSize,Ic A 0,rV n w k Qh,?Nx ?g,show X.A.in1.handled=none from hh,∃c d,?dC h TO c d,qh8 (E6 (ha pos Ae s σ H _ I h) λus s1 #[vs,H1,I1,r1,q1]=>?_) (by rw[hs,hs2]) (by rw[hs2];rfl),.(by rw[l];show rel.val k),?dM+?DN*?W,.(by let:=h.pos;ext d),pD n w R B i j,#[kv',e1,e2],{ s with heap:=h1 },Vc c η r e,?gG j _ e,s.heap.IsTupleIter,.(by rw[qh4];grind),Ox kvs [],?bC=p.1,λk=>?QI k k k,qf6 (a*x) (k*y),h'.DictOf,p-q-1,?Sq p j,?So m,?b1 e l k,Nat->?am,AM A j,I.idict ha,λa ha=>?_,R ?h ?bY,A57 i t R,λj=>(?ow) j j,{ cls:=?Ru ?bN,data:=?Qz ?aK },?Sp (λl=>?pM*?fh),i<kvs.length,a*R p k+b*R q k,VA.start,.(by unfold Iq;rw[Bq];ext d),.(by rw[h.a.e1,h.a.e2];grind),?N2 (T c k*X k i) r,.(λc _=>by ext c0;rw[?i0]),?Mv ?jb,kvs++more,D q j hq hj,dT n n l.1,h.objs.size,?v ?pR m,?eg<=?fy,r1.fmod r2,(?Rx t).objs.size,if k=a then 1 else 0,if ?hM then Iq ?rl ?h else ?rl,?Nz 4,?Qp (u=?eQ b),(as.set i D1).set j D2,?bo ?h _ ?l hs,Int.mul_le_mul,?a5 ?g,∀m,?ef->∃r,r<=m/\?ke/\∀j,?aH->j<m->w<=?x,λτ2 H2=>tc τ2 H2 λb H3=>if b=true then te τ2 H3 ?Ea else Pv ?k zs τ2 H3,(←?z7 self),tnA t,?ci+?iJ*?c7+spot+3,?ON ?n,?Tg h 0 ?g,?Mw ?oM ?hF,tr T',?NO p q,?lw/\?ev ∧ ∃xs,?yG/\h.DictOfH ?ID a xs,e' j _ ?g ?lG,Q1 kvs k y,?OT ?pf RB,?xA n w M',F.entry_zip_next,?Ta (Ic A ?ag),?d4 ?FL,?N0 ?gF ?M,PE X i ty,?Pi (R i) (B j),β+(2*n+π+2),λj=>T' j ?x,Lat.ChainTo,?NF r (0<?h6),λc=>?Bs,q-p-1,Fa e e2 a b c d k,?SN zero j hj,(v c).natAbs,Qh (u k) k,B q x*R q y,"dict.pop",λc=>?oh,ms.any ?eR,1*?c8+k*R q c,R' r c=?bR,?P6 i ?F2/\?SO ?A (?ko+?Fo) s/\?Ct,λc=>- ?bf,?xl=?c6,x=?E d,#[kvs,k,v,hz,hx],R ?h ?K,Ap7 x y H Q,LN V Z k,?v ?As i,c<w->T' i c=0,Fin k f l r,qe6 hi,h.s.same,λc _=>?_,?Nc (By ?g c),Int.ediv_nonneg,?OT ?ap PB,?O Keyword,qt6 c ?g,?S7 p ?au,qp9 c β,.(by simp at e),?i g ?n,Nat.mul_comm,?aA hr ?qp,Good.add,Nat->?gf,Rd H b (.dK (cK ns)),?NP hne,if r<p then r else ?av,Q ?si H',?PD (by ext Ll),?ko+?xD+?BN,?E3<=?yj,qb6 ?LA ?i5,?o i ?qb,(?lf e').1,R1 l ?K,?me i ?h ?au,.(by simp<;>ext d),qb4 ..,one x,hst.s0.low,?fK i hi hn,dd.mapOf,b1.same e,e0.step ?bG,ChainTo m i f,?E nm,#[?po,b1,b2],?fR l hl2,X.A.handled=none,?OD G R B,?cI ms j,?PH R1 B1 t1,upd H p (?d4 [x,y]),k r c hr,bs.map V.bl,?s ?g (qe6 qp5),(r-k)*?hr,κ × V,?NF i ((?lt).natAbs<L9),D j i hj hi,#[kq,hu],Nat->Bool,?QB key,?b2 v w'->Q w' s',?PU hk k,Mm f z hne,(?Bz).natAbs,?Og hf,(?E8).natAbs,.(by rw[HT.sIx_nat];ext d),(?xn,?bg p.2),?Mw β ?au,spot*?dt,{ cls:=?hi,data:=.dict #v[] },?QT V r,hp k ?g,?I R j q k,Pv 0 σ H,dT n w M,yS D σ v x y H3,?fZ k j h1 h2 h3,(?hP).set,?y->?C3,(?R6 hp _),[?aK,u,r],?e4 "len",?GJ h1,?ar n ?A w n ?ap PB R RB,((0:Nat):Int),sD xs H Q,VI k f,s2.keep h1.flip,(zt1 ?aq a).objs.size,?Nc ?_,IsItemIter,YX R x H1,λx y=>?Ee,?Oj H',?iM<=big,(?o1).natAbs,.(by ext MI),subscripted,IsD H1 a,?x=?aV/\?al=?dU,#[g1,_,g3],YY R vs H1,?B y u,#[i-1,?g],?NA H cnt s,?d1 j c ?g,Nat.add_le_add_left,?SA p ?bH,AM A ?F,.(by ext MS),i<=a/\a<?d2,?ge k hlt,β+?a9,Int.mul_neg_of_pos_of_neg,Yw H ?fE a,.(by rw[qa9,hb];rfl),D j j hj hj,λc=>1*P i c+1*P j c,?Q1 ?aZ,hst.only,λc hcw hne=>?_,insAt_get,?Sb o,-q*?hk,?P5 R u,?i ?Af w,Gy ?k6 r,dT n w f,its.toArray.size,β-δ,s _ _ ?fc,Ni R ?bb i k,?v ?As m,λc=>?lU,(2*a).log2,Lat.insT,if x=y then f x else 0,?v ?ea i,#[hz,hTI,#[u,v,hTO],?Z],?t7 ?yV k,?QX x1.natAbs,(?i9).natAbs,(EA▸hj),?OO hη,?OT ?ap B,?I B ?h i q,?a0->?gf,?SA p ?hE,Nz ?de,#[p,k,v,hp,?aQ,y],H.hd l h2,D9 h4,(?AH).natAbs,Y k d f l r,#[o,ho,r],DecidableEq,.(by ext ME),?OP ho,ib.toArray,λy H4=>H4 D=?NI zs/\zs.length<sizeLine/\Pv ?k ?uu τ2 (upd H4 D (?aT ?uu)),?Sg ?cq,.(by simp at hl),Nat.log2_self_le ?g,M x (s y),qg6 _ ?g,qe6 (hq r z.2),?SJ r',?Rd i,?Sp ?LE,?NR w (u c=v c),?i ?xW w,AO hs',b≠s.heap.objs.size,(B i x).natAbs,∃r,?as/\?ke/\?N9 (w<=?x),Unit->?fp,Q (?E tp) H',Zl _ n,?SJ b',zt3 h a b,λc=>?sv,?ST ?wH,?aK::u::more,#[p1,p2],#[oi,h1,c1,d1],?Mw ?HC ?d3,?d4 [?dE,v],?ci+?hN*?c7,?TI ?wY,tab k z,h1.DictOf,k.natAbs<?Y,?SK bd,?Mv (i<?k),z+π+1,?mG j h1 ?g,items[i],?Ta ?gq,h _ _ ?jr ?_,if i=j then e else 0,λi H=>∃kvs,?ho/\kvs.length<=i,fs.length<=10,?SA nm (?aT (ns'.map ?bg)),(?i4).natAbs,.(by simp[atKey,qq6,e']),(?bm).natAbs,ks.map kV,G0 w n ?nH SB,#[r0,r1],?OT R B,H1 d=?lH,Io ne a b c d k,Gy (a 0) r,V3 R t j ?oN ?hw,λb u q n=>?Rm (ne b u q n),?S ?j,yR Q x y H2,PE X e ty,VI W ?R,#[q1,q2,q3,q4],?h8+1,?N2 ?G1 n,?RK R,kvs.length<sizeLine,λ_=>?fC,typeLookup,?t->?t->Int,h w' _ ?jr rw',qa7 (qw4 hob hdb ?_),a≠r/\a≠b/\¬N a,.(by let:=?u1 k l hl1 hl2;ext d),x m*T m c,(?lq ?pt).objs.size,show(-0:Int)=0 from rfl,if ?hM then Iq ?iR ?h else ?iR,?PQ ?hN,?Mv (spot<?k),?Rd ts.length,PE X f tx,Ca ?iG q v,Xu j*A 0 j,?Ng H ?aX r,?OE H ?aX,min n w,kvs++[p],Int.natAbs_mul_self,?Sq j q,qe4 ?X hb,y k l*?jJ,(?hf).natAbs,(?v6).isSome,?O6 r,h.s0.zero,bootBuiltins,(?df).natAbs,Eq.trans,?NJ ?hC,?Nc (by ext gU;ext u7),(?R).natAbs,x a u n1 n2 e,h.good.eqv n ?l,Meets.of_wp,?jO A B g a b,?NF r (In w n T ?zZ),?TE he,?SI t1,tup_cell,#[a,b,c],?ND r,vs=[?aF,r,b],p*y2-1,bb.1 r x hr hx,?RH ?KC,h.step h2,?Ph ?_,.(by rw[Int.neg_fmod_neg];ext d),?Ta ?v8,(?a7).natAbs,?NK ?dA ?ap PB,?Nd 5,o.getD d,?Nc ?JB,#[?gy,?aM,?J,h0],?ay j c h1 h2 h3,?RK M,.(λkvs' q=>by rw[hz]at q;cases q;show hx),.(by simpa using z),h.good.restB,e.hash=hashInt k,λj c h1 h2 h3=>?_,I.hok.fresh,∀l,l<k->T k ?K=0,(z▸x.mq),vs.any ?q2,R i ?bY,h.2 b hb ?g,c<w->i<c->?df=0,?RX B,upd H a ?bH b,?N9 ?B8,?dH (j:=?cK) (l:=l) ?g ?g,WX K CL CW H0 H p L R nm n w ?aX l r (Jh m f),#[j,?Z,?j],?fW ?bX ?h9,R9 r ?dA T E,YV K R vs H1,x.natAbs<?Y,qn4 ?g ?g,Nat->?C->?gf,?AI*f k,?lw/\?ev/\∃vs,?ey/\h.DictOf ?dd a vs,?Mw β s,?rN-?DN,?QY y1.natAbs,?Q1 ?C5,backTo ?eE (?h1 ?jV ?an),Int.lt_or_gt_of_ne,?i ?kE ?d2,λp hp=>?_,?SR t ?a6,zt2 h a b,β+d*?u2,.(by rw[←hz2];show ?qd),?Mv (A+1<=-?bG),atKey ?yV k,i<=a/\a<n,?E i2,(?Nj ?c9).congr,λ_ _ e=>e,?N1 ?aa (pyNext ?fr),?Sg _,?Nk he,A a b*q b,?gt*v c+?W*?no,wpAny_Call_method,k<m->x k=0,(b4 a ha).2.2,R0 j ?x,?NP e2,hh d ?g j ?g,xH hkey,ts[i]' ?g,?xT i _ ?l,#[hz,hTI,#[u0,v0,hTO],?Z],PySem.F.entry_dict_get,?Te i i,s.2 i x,?PQ (?hN+1),Value.int,FP t k c l,qc0 ?v3,λb hb=>(hf b hb).1,(?bO,?Sb a),?lV->?fp,tupleKind,hst.mono,A53 n W i t s I,c*R p k+d*R q k,LX H CS p r b ?rO n W s M,.(by simp[Sc,qq6,e]),#[x,λ_=>hx],∀l,l<i->G ?b4,g3 q u hqw eU xM,?dX (?OB (?bC,y)),?gv b=?lo,k3 c hcw,its.toArray[i]?,Bool->?fp,λk=>?Aw,λ_ _ q=>qa8 _ q,qf6 ?dK (f n),?Ny ?g,x1-?ed*x2,#[e1,e2,e3],.(by rw[F9];show d),(M r c).natAbs<=?qP,x.natAbs*?fA,H a≠none,∀a∈?KX,?p0,#[dx,fs,?Z],?QB c3,λi H=>∃kvs k v,?ho/\?fM,?SI ht,putF "backs" b ?Jy,?Hj ?dd,h.2.2 r c hr hc,λi=>(?jK).getD ?bO,(h a z).elim,λk j h1 h2 h3=>?_,Gx w n r E e ?ib,dT n n λi j=>l.2 j i,Nat->?C->?QA ?am,I.base.frzs,?bq a _ e,?Nb ?A R,bb.2.2 r x hr hx,Key × Value,.(by rw[Aj (wM b _ z)];show z),?bi ?_ ih,#[?g,?g,?ne,λd h1 h2=>?eP],Paired.length,putI ms k v,h q x hq hx,?Nw j (?g9=0),g.pos k hk,?N0 ?z0 (2 ^ j*m*?c3),?NF r (u j=j),S j (u j),(?hS).natAbs,?Te p p*?GT,wpAny_typeOf,λc _=>?Ay,Nat->?cs->?i6,?Ta (Ic ?Dl i),fdiv_small,ItDGet2 ty tx σ Q x H1,?tB o i pos',?O6 b,?RH (?y->?Kj),#[h1,λj k a b=>?iW j k a ?g,λj c a b=>?PP ?ld b,λj a=>?SI ?hd,λk j a b=>?kc k j a ?g],Ca A q v,Nat->?om,B p x*R p y,?NA H' cnt s',?N2 (X l k*U k i) ?jR,bs[i]' ?g,Kt ?k R t,?NT H' s',?b1 e j c,#[k1,k2,k3],?N n ?l,?v (λk=>f ?H) n,hz c ?g,R ?cK ?c5,R1 ?aN ?K,?SN h p hp,?i ?np r,qo4 pk d2,λa=>p a*?i (λb=>?HN) w,rV n w k T,.(by ext MO),λ_ hc=>hc,(?JY).2=_,(?ez).natAbs,Fa ?g ?g _ _ _ _ c,?Pt H,?pp i ?h (-k) s,s _ _ hp,?H+?mT,?aC n ?ib one,R k ?aV,?B ?gy,?OE H' ?dY,?OO ?hy,prs.drop,?Nv EuR r2,(apos.endLine==cpos.line)=true,?aC n ?dP Q,PySem.F.args_dict_get_3 _ _ _,w3.extBut,Xu ?F*A 0 ?F,0<=?df/\?df<=e,jK n*B ^ n,In w r R v,Ek w r R t,h.move hi hs,λspot st s' hs hI hB hex=>?_,if ?hM then tK ?h ?CW else ?CW,?Sk i,?O Bool,.(by exact ?fC<1;decide),#[?g,?_],(x / h).natAbs,?QM m3,(?rU).length,?OZ h hp h,E6 ?EY λu s1 _z=>?_,Heap.IsTuple,(?dK).natAbs,tr R x c,?SI hs9,?Sp (λu=>?i (λa=>?os*PB u a) n*P u c),?Sk i1,(-9223372036854775808:Int),run d ?g,Fk n w T R,I.idict hb,(?hq).natAbs,∃t,u=Value.str x t,Fa e1 e2,Ic A ?k,?cE ?bE i ?hF d,e.natAbs.log2<=L,putF "rows" r [],?cI ns p.1=?qZ,tl _ ?l,.(by rw[eB];show ?nW),dT w w λi j=>r.1 j i,rO n w A,(?No (?SL h)),?cl m=none,λj=>?Ia,?SH ?h c,#[?hG,λb q=>?_,hd],λi c a b d=>?ld i c b (by let:=h2 i a b;ext d),∃t,u=?Hd i t,Ak4 ok e,?y->?yO,∀a∈as,∀o,?QS a a,s1.heap.IsTuple,a1.same e,Int.lt_trichotomy,?SN h q hq,h.st.st.red,dT w w r.2,(?bO,?Sb c),show 1<=?Y from qk8,#[f0,f1,f2,f3,f4,f5],?aS k hk,pT n B R a ?x,?bq b _ e,?Na (g ?F) n,?Po as c,λa=>f ?b0,ZipApart,?gA a xs,Int.dvd_add,λk=>a k*?l5,?gP s ci (as.eraseIdx i),Lat.Bits,?nb t i s d,if c<j then c else ?a9,?k-?a6,(zt2 ?aq a b).objs.size,A.natAbs<L9,?QZ ?gL,?Mv (?lR=?ah),Classical.choose_spec,.(λz=>nomatch z),?SI hx,c<w->?fT,?I B' j p ?hS,∀(i:Nat) t,?sp->∃kv:?qK,?Po kvs kv/\H t=?Q8 [kV ?bC,kv.2],?SA ?aR ?F1,?T5 ?a9,(?ID).is,D6 ?g c,?P0 T,.(by rw[←l];show rel.val k),?Pr T,Be5 j hj e,Int.mul_fdiv_add_fmod,Straight,PySem.F.args_dict_pop_3 _ _ _,#[?j,?j],j.natAbs<L9,(?t4) c,Gy (a 0) m,Vc c η r d,items[i]?,qc5 ho,s'.1 i,X.A.units+n<cLine,ex k,∀j,?L->?al<=D,λb o e=>?ls,.(by rw[qd8]),h r x hr hx,wpAny_attempt,?i (λj=>(?i (λd=>?p2) r-?FE)*?eU) r,s.1 i,λk=>B k a*R k b,.bl ?yE,Ek w r T t,MR xs H Q,.(by unfold Builtin.Dict.dictSlotArgs;apply qa7 (?Pa qy3 ?qX);apply qa7 ?gK;apply ?gK;apply qa7 (qx6 (T:=?hp) (b:=true) ?o9 isSubtype_dict_dict ?_);rw[?kH];apply qa7 (qc0 (qa7 (qc0 (qa7 (Yb ha hb ?_)))))),.(by(let hp:(keyPart u).isSome=true:=by cases k with| inl i=>let#[t,q]:=(?Qp ?KA);subst q;rfl| inr x=>let#[t,q]:=(?Qp ?Jt);subst q;rfl)),.(by(let b:=IM (f:=?kE) (m:=m) (h:=?c3) (j:=j) λk hk=>by rw[qb5];let ?qe:=P.red k j ?J hk hj;show qg1 (ih k hk ?g) ?g)),.(by apply#[λi m σ H=>?Qf ?fD,?GZ,?_];rintro i m σ H ⟨rfl,hi,pp⟩;let q:=hl i σ H hi pp;cases hlt:?Av),.(by intro hj;let pj:=P.pos j ?J hj;let hs:=?ST h;rw[?rS (j:=?F) ?g λk h1 h2=>by rw[?nw k _ ?J h2 (P.inc j k ?J ?g h2)];simp]at hs),.(by rcases h with(h|⟨o,h⟩) | h;{show ?T (?T ?Jg)};{show ?T (?S #[o,?Jg])};show ?tV),.(by intro i s acc hn hi hz hd hit hb k;apply codeAny_builtin y7 ?_;rw[Around.under_plainId N6];let hLs:s.heap.IsList l items:=let ?EV:=hL;#[o,hb _ _ nld nli ho,r]),.(by let ?FN:=H.part.red ?h l ?J h1 h2;rw[←?BG,←?qj]at r1;rw[←?BG]at r0;let p:=?aS l h2),∀(g:?iK)(K:?vt)(s:?DM)(st:Ek ?A n R t)(tab:?ke)(ker:?N9 ?Dc),a,∀{K:W.Frag}{a b:Addr}{xs ys:?cs}{n:Nat}(hn:xs.length=n/\ys.length=n)(Pv:?If)(h0:?zc)(hl:∀i zs τ H,i<=n->?fN->?JC/\SqT K H b ys),a,.(by let#[x,H1,I1,r1,d,o,kvs,ex,hz,q]:=_z;subst ex;obtain rfl:v=?eQ d:=r1;have#[ho,hsys,hl,vs,es,ep,rel,hd,hsz,exd,hm]:=j3 I1 hz),.(by cases e1:r<s;{rw[?i0]};rw[?bB];cases e2:r=s;{rw[?iD,e2,show i=s by ext d]};rw[?dQ,?r]),.(by(let:(?eg:Int)<=((?fy:Nat):Int):=by rw[Int.natAbs_of_nonneg ?g];exact_mod_cast q);exact_mod_cast this),.(by let#[x,H1,I1,rx,a,ex,d,q1]:=_z;subst ex;obtain rfl:u=?eQ a:=rx;let#[t1,t2,_]:=XH I1 d;apply#[t1,t2,?_];rw[m.trees]),.(by apply ?rK;cases e:l<k;{rw[x0 l e];simp};rw[?Py ?eS ?Hk];simp),.(by show(?bq b u q).stay ?nr ?rq ?rD),∀{g:TG}{tb:TS}{D:Ends}{σ:St}{H:Hp}(Pv:?t8)(h0:?DC)(hl:∀i σ H,?kp->?fD->?ho),a,.(by(. show#[1,by rw[z];ext d]);let#[g,hg]:=ihm ?g;show#[g*T m ?hw,by exact ?sf*T m ?hw=_;rw[hg,qe2]]),∀(hs:?bn)(h0:?NR st ?fT)(h1:R i st≠0)(hW:st<W)(hG:G st)(hpg:?tP)(hex:?l1),a,∀{A:Around}{s:Shared}{a b:Addr}{ms ns:?ch}(ha:?fo)(hb:?kC)(hu:A.units<cLine),a,.(by let z:?TX q:=λw=>Hl hp hq ne ?wj),.(by(let zb:?fF+?z*?cp=?ma+π+1:=?xQ);rw[zb]),.(by exact ?ew*?tj+?mJ*R ?cK ?K=0),.(by intro Ae s σ H x y v u Q I rx ry h;let#[a,b,ms,ns,?aQ,ha,hb,q]:=h;cases rx;cases ry),.(by show#[r,?g,b,?Nx (by cases q:j=m;{rw[q];ext d};show c j h1 ?g)]),.(by have(?R6 hp hrep):=x.ob;have#[?nG,lx,ly,f]:=x.li),.(by let e0:EuA A B A 1 0 B 0 1:=?IS),.(by let e:=pH (w:=w) (n:=n) (f:=f) (g:=?KS) (h:=f) ?d6 ?d6),.(by let f1:?cd-?bG*0=x2:=?g;let f2:?fC-?bG*1=y2:=?g),.(by unfold beside;split;{rename_i h;show ?Tg hT c h};show ?Tg hP ?lE ?g),.(by rw[show ?oI=0 from ?Py ?qH eU.mono];simp),.(by(let g0:g≠0:=?AV);(let k1:?f5=p:=?v9)),.(by let e:?Ei:=?g;subst e;show ?T #[?wQ,hd σ H pp]),.(by subst ey;cases ?BE;have ?vF:=?o8),∀(hr:?as)(hst:?hA)(hz:?hY)(s2:Fk w n ?BR ?hv),a,∀{x y z u:Int}(hx:x.natAbs<?je)(hy:y.natAbs<?je)(hz:z.natAbs<?je)(hu:u.natAbs<?je),a,.(by rcases h with h|⟨hB,e1,e2,e3,e4,e5,e6⟩|⟨hB,e1,e2,e3,e4,e5,e6⟩),.(by have ?I8:=x.ob;have ?mE:=x.rw;have ?nQ:=x.bk),.(by rw[Hl (p:=j) (q:=k) ?g hk hne ?C7,qd7];rw[Bq,By hne]),∀{i:Nat}{T V Z:Mat}(h:∀r c,r<i->c<i->?g6=?Na (T r j*Z j c) ?av),a,.(by intro _;show#[0,?l,?gR,λj _ hj=>?g]),.(by let e1:=a2 hlt;rw[htk]at e1;let pk:=?m1 k hlt;rw[htk]at pk),.(by let hl:?Ow ?Jf:=by let:=Tk kvs k v;ext d),.(by(. rw[?cD,?u ?qV]);rw[?cC,?p ?jT]),∀(d it:Addr)(o:Obj){es:?qg}{ep:Nat}(hd:?qB),a,∀(hc:?A8)(N8:?GG),a,∀{n w:Nat}{A Q T P:Mat}(h:?SX (?bh=?NO (P k) ?eI)),a,.(by have#[ia,ra,pa,_]:=I.tuple AN;have#[ib,rb,pb,_]:=I.tuple tT),.(by let he:0<?fk:=?TH ?mV),∀(hM:?Nh n (c<W->?I4))(hD:R9 n ?pK M D),a,.(by rw[←?ax,←?ax,←?ax,←?ax,z u,z v]at e0;ext d),.(by let ht:?o2 ?fr ?fb:=#[_,gz,?j];unfold pyNext),.(by let t1:?NF i (?cB t i ?b5 j=?x):=?NJ ?la),.(by rw[e0,jM _ hk,?aA (j:=k) ?g ?ni]),.(by rcases g with⟨kvs,k,e,ey,l⟩|⟨kvs,k,b,e,ey,eb,l⟩),∀(h:?Qm m ?yX),a,.(by intro hm;let#[r,a,b,c]:=?aL;cases z:?hw<w),.(by let:=?fJ j ?h ?J ?g hs;ext d),.(by rw[?bo ?h c ?l hs];show ?SN H.rw ?h hs),.(by have ?DI:=x.ob),.(by rw[?kx,?kx]),.(by cases q:j=m;{rw[q];show z};show ?SI b),.(by rw[←qe3,←qe3];show ?or),∀(hst:?LG)(hz:?GP),a,∀(h1:?nJ)(h2:?qT)(h3:b0<=π)(h4:b0<=b),a,.(by apply qj9 a (qh7 λy=>?_);let:=c r ?l y),.(by exact _=?sc*?af*_;rw[qe2]),.(by exact ?D _ _ (pyNext ?fd>>=_) _ _ s),.(by rw[Aj (F6 h hn ?ak)];show h),.(by unfold insS;cases z:?hM),.(by let d1:?c4∣ ?af:=#[x k,by rw[e1,qf7]]),.(by let#[o,I']:=I.freeze ea;let hb:=I.notfrz ea),.(by rw[Aj (λz=>by rw[z,e]at n;cases n)];show n),.(by show I2.fpOk ?l (I2.hok.fresh ?l)),∀(h0:?IW)(h1:?i9=?al),a,∀(h:Xo n w r E L m e A T P PB Q QB kl kr hl hr),a,∀{w n:Nat}{R:Mat}{u v:?t}(hu:?E1),a,∀(f3:?OH H0 r2)(f4:?OH H0 b2),a,∀(hp:p<lo)(hm:m<=lo)(hn:?jt)(hpf:p<f\/m<=p),a,∀(hd:?Qb ?gy),a,∀{i j:Int}(hi:?vm)(hj:?Ky),a,∀{g a b:Int}(S:?jO ?R ?a7 g a b),a,∀(hp:p<lo)(hq:q<lo)(hn:?jt)(ne:?eJ),a,∀(h:?Ou i ?pK),a,∀(ts:?e5) (kvs:?bj),a,∀(h:?yZ),a,∀(he:?Gl=q*?Aq),a,∀{a:Addr}{xs:?cs}(h:?JC),a,∀{p:?Cs}{r:?g2}{k:κ},a,∀{tp nm r1 D1 D2 b2:Addr}{n w k:Nat},a,∀(h4:b0<=b)(hβ:b<β)(hβ2:n+b0<β),a,∀(hK:?dI (X.K=K) ?eM),a,∀(hη:?N9 (?dU<=?fy)),a,∀(hd:?PV n),a,∀{es:?d9}{x1:Nat}{tpos:Pos},a,∀(e:H a=?lH),a,∀{n w m E:Nat}{A P PB Q QB:Mat},a,∀(H:?qa),a,∀(dl:?CA),a,∀(h:?Nv EuI r2),a,∀(h:?JM),a,@(show ?a by ext d),@(BB n W C δ ?a ?b),@(WX K CL CW H0 ?a p L R nm n w ?b l r ?c),@(Ew n W w i G R0 B0 t π b ?a ?b ?c),@(λr c hr hc=>?a),@((?a).natAbs<=?b),@(?D ?a A ?b Q E s),@(?i (λk=>?a) ?b),@((if ?a=?b then ?cd else 0)=?c),@(?a λi c h1 h2 h3=>?b i c h1 h2 h3),@((?a i ?b).natAbs<=?c),@((?a).go i H/\∃N:?i6,?td/\∀x H',(?b).yld i H x H'->?r1),@(by intro m;induction m with| zero=>intro h;(ext d)| succ m ihm =>intro h;cases z:?a=?V;ext LZ),@(?o n (Ca ?a ?b ?c)),@(∀j,?aH->?L->?a),@(SX CS H0 ?a p q M n W t ?b ?c),@(?D _ _ ?a _ _ _),@(∀l,?dR->l<i->(?a8 R ?h i x y z u ?a ?K).natAbs<=?ba*(?a8 R ?h i x y z u l ?K).natAbs),@(show ?a=0 by ext d),@(fr _ _ (λz=>?a ?k7) (λz=>?b ?kj) e),@(∀j,j<?a->?b),@(λvs H Q _=>?a),@(?ar n W w lo R B ?a ?b),@(?m (?aT ?a)),@(λj hj=>?a),@(Ct n ?A w r i ?a ?b ?c kt hd t s.1 s.2),@(qa7 (?LB (?vy (name:=Str.ofString "__next__") ht qz0 (qm7 qz0 ht ?BY ?a ?x1)))),@(eY n W w i G R B t b p ?h μ ?a ?b ?c),@((if ?a=?b then 1 else 0)*?c),@(Sb n w A ?a ?b),@(λz=>?a ?ao),@(∀l,?dR->l<i->?a),@(∀c,c<?a->?b),@(F3 X ?t2 (λxs H Q=>∃(p:Addr) (bs:?Ja),?qh/\SqL ?a H p ?Cp/\Q ?tK H)),@(Bo X Ae σ ?a ?b),@(VA n W w lo R B t p f m ?a μ ?b ?c),@(Ct n W w r ?a ?b ?c B0 kt hd t R B),@(qa7 (qi2 gz ?j (x:=?a) ?j ?b)),@(?a2 λk hk=>?a),@(by ext MP;{rw[?aD];exact ?a;rw[?aD];rfl};ext cR;exact ?b;ext cR;rfl),@(Rn n i β c ?a R B ?b ?c),@(?i (λj=>?a) ?b),@(Vd n ?a w r kt hd ?b),@(λr c hr=>?a),@(s.heap.objs.size+?a),@(?cl (?a:Str)=?m ?b),@(Meets (?a ?lW) (λA R s=>?fo/\?kC/\R (.ok (.ret (?fl ?b))) s)),@(LX ?a CL R r2 b2 ?b w w ?c ?fE),@(∀r c,r<?a->?b),@(V3 R t k ?a ?b),@(?a5 (R:=?a) hj),@(?a Ae s1 σ H1 _ I1 q1),@(λl hl=>by exact T' ?kb ?a=0;rw[hu l hl];show ?lQ l ?b hl ?c ?g),@(by ext en;let:=?a ?b ?c;ext d),@(by ext Lf;show ?a ?Ao ?Jr ?g ?iL X.w X.xe _ #[?b,H,I,?j,q]),@(λl h1 h2=>?a),@(by let:?a=0:=?b;ext cQ),@(M x (s (if y=0 then y0 else if y=y0 then ?a else y))),@(#[ha,hb,show ?v0 ?a≠Value.notImplemented/\_ from ?wh]),@(td σ H λx H1=>?a),@(λm hm=>?a R ?g ?g ne ?b),@(WX K CL CW H0 H' p L' R' nm n w ?o7 l' r' ?a->?bP),@(?a A B r1 x1 y1 ?b x2 y2),@(∀k,k<?a->?b),@(λj h1 h2=>?a),@(λc hc=>?a),@(s1.heap.objs.size+?a),@(Ins n W w i G R0 B0 ?bE ?f6 ?a ?b),@(?r7 (t':=s.toks) (fp:=?a) ?b hf),@(by let:=?a k ?b ?g ?c;ext d),@(∀i c,?y->?a),@(λd hd=>(?a d hd).mono ?ln),@(PE X (?ie (?pG o ?a apos) ?jV [] ?eE) (?b td ty tx)),@(H0 ?a=none),@(?dI (?h1 ?a ?an=?b) ?eM),@(?kv (a:=s.heap.objs.size) (o:=?a) (t':=s.toks) ?b ?l ?c),@(?a<s.heap.objs.size),@(λσ' H'=>?hh/\?a σ' ?gp),@(λkv=>if ?jc then ?a else kv),@(R8 n W w i R B t ?a (?b).1 (?c).2),@(Mg n W w i ?a ?b ?c t π b),@(LX ?a CL L r1 b1 ?b n n l ?jp),@(Ct n W w r ?k G M B0 kt hd ?a ?b ?c),@(?ol H (R1:=?a) λr c h1 h2=>?b),@(?a ?b=Option.none),@(by rw[show ?a=?b+2 by ext gZ,qe3];simp;try ext d),@(?a*(if d=?b then ?c else 0)),@(λk c hk hc=>?a k c hk (by rw[?b k hk];show hc)),@(?i (λl=>?a) n),@(?aj λc=>?a),@(2 ^ ?a*e.natAbs),@(?a j h1 h2),@(?a Ae s σ H _ I h),@(ret (?fl ((←?oi s!"dict.{?a}" ?BL ?yx)==?b))),@(∀a b ms ns,?fz->?k5->?lc->?CL->(Q ?a H)->?b),@(Rep K H ?a ?b),@(G0 n w ?a ?b),@(?aC w T P ?a ?b),@(?aB n W ?a ?b),@(Gg ?a u v 1 1 ?b),@(∀x c,x<w->c<n->?Jk=Sb w n ?kM ?a ?Kz),@(∀k c,k<n->c<w->?a=?b k c),@(sx _ _ (F6 ?a ?b ?ak) ?c),@(qa8 _ ?a),@(by rw[qe3];show ?a ?b ?c),@(LX H' C p r b sv n W ?a ?b),@(Ins n W w i G ?a ?b ?c Y R1 B1),@(?a8 R p q a b c d ?a k),@(?O (?a × ?b)),@(?a Ae s2 σ H2 _ I2 q2),@(by (let:?a=(-?b)*?lT:=?U);rw[this];show qk5 ?c h.rr),@(WX K CL CW H0 H' p L R nm n w ?dY ?a ?b ns),@(V9 K ?a tp nm r1 D1 D2 b2 n w k f l r),@(JL n w r M B0 kt hd π b η β ?a t s),@(∀j k,j<k->k<?a->?lv),@(λi hi=>(?a i hi).cols ?b λc hc=>?c i c hi hc),@(λa u n1 n2 e=>by rw[Aj ?a];show ?GC),@(vB W n R ?a),@(by unfold dot;ext is;show Af λc _=>?a),@(by rw[?a];show ?b),@(by exact ?ft ?a ?b=true;simp[Value.isInt]),@(Vd w ?dZ n r kr hr ?a),@(In n w ?dP (?b1 ?a i)),@(E3 n W w ?a ?b M B0 t R B),@(?ee P w H h a ?a),@(?a<=sizeLine),@(∀b u,?jk->u≠?a->?b),@(∀j,?bQ->?a),@(λx c hx hc=>?a),@(λr l=>?a r ?b4),@(λm hm=>?a),@(λa o e=>fr _ _ (Aq e ?a) (Aq e ?b) ?q7),@(λ_ _ _ _ _ st h=>?a ?b h),@(qa7 (?a hoa hda ?b)),@(In w n ?a ?b),@(HX n r ?a kt ?b s.1),@(?vc/\?yn/\?AR/\?h4 i1 a ?a/\?h4 i2 b ?b),@(?a8 R p q a b c d ?a),@((λj=>T' j ?a3) ?a=0),@(?a*(if c=?b then e else 0)),@(?a #[?qJ,?f4,λσ' H' p'=>?sP,?r6]),@(by let:=?Ku ?a ?b;rw[qf7]at this;ext d),@(λi c hi hc=>?a),@(by rw[Aj ?a];show e),@(by ext ML;let:=?a r m y ?g;ext d),@(R8 n W w i R0 B0 t ?a ?b ?c),@(R8 n W w i ?a ?b ?c 0 R2 B2),@(?fJ ?a ?i8 ?J ?g ?g),@(?HP m.base m.few m.line qv1 ?a ?b ?Jh),@(?a A B r2 x2 y2 ?hj ?I1 ?A3/\?pQ),@(pT n ?a ?b a b=?gj),@(by rw[m,qb9,←qb9 ?a];show ?oF),@(_*(if m<w then T m m else 0)=?a),@(?a2 λl hl=>by rw[?a l ?g];simp),@(?a j c ?g ?b),@(Vc ?ci η r ?a),@(Ui ?a g ?b te D Q τ H),@(?ar n W w ?a ?b B0 R B),@((?a).stop i H/\?hn),@(?a ?b ?g ?g),@(∀zs τ H,Pv ?a zs τ H->Q H),@(∀d o kvs,?Bx->?FP->(R ?a H1)->?b),@(λσ H R=>ta σ H λvs H1=>?a),@(rule s!"dict.{?a}.not-a-dict"),@(qc0 #[plainId_quiet N6 ?a,?_]),@(qa7 (?a ?b ?_)),@(Gg (Ca A q ?a) ?bF ?cq a b hp),@((Vp.2 ?a ?b).trans ?c),@((?a).push { cls:=?oy,data:=.seq #v[?b,?c] }),@((?a).natAbs<?b),@(∀r c,?gB->?a),@(λr j h1 h2 h3=>?a),@(λi j hi hj hne=>?a),@(dot n w ?a ?b),@(Uo hp hq ne (λj _ h1 h2=>?a) ?_),@(TA ?a r as n W ?b),@(Ins n W w i G R B ?bb ?a R B),@(?I ?iF j i ?f1 ?a),@(#[?cF,λz=>?bU z ?a]),@(?a[i]?=?m ?b),@(?a t #v[key,p.2]/\?b p.1 key=true),@(?a j c ?g hcw hne),@(λi j=>?a j i),@(λc _=>by ext c0;rw[?bB,?dQ,?a]),@(SqT K ?a a xs),@(Gw n R ?a),@(?m { cls:=?tF,data:=.seq ?a ?b }),@(?kz+(if ?a then ?jH else 0)),@(?ay k _ hk (?cL ?a k ?g hk)),@(?a l k hl (qb6 z (?b k l ?g hl))),@(λk hk=>?a),@(qj9 ?da ?a),@(qc2 _ ?a),@(l9 r b H ?a),@(LX ?a CL q r b ?aX m m s N),@(El (λ_=>?a) ?b ?c),@(Data.fields _=Data.cell ?a),@(Classical.axiomOfChoice ?a),@(AY I ?lC hs he (DE ?a hd ?b vA)),@(?m (?d4 ?a)),@(?dL f i j x y ?a),@(?a->Prop),@(?a r t OP hst hz),@(λa ha=>#[(?a).1,(?b).2.1,?dN]),@(dZ n W w i G R B t b p ?h μ ?a ?b),@(Xp n w M l r (λM' l' r'=>?a)),@(List.find?_cons_of_pos ?a),@(List.find?_cons_of_neg ?a),@(Call_ (Oy I hg hm ?a ?AS)),@((if ?a<r then X ?b i else 0)*T c ?c),@(?a t ?h i ?fw ?dc g a b s),@(∀k j,k<j->j<?a->?b),@(∀b o,?kZ->?a),@(λd hd=>?gH (?a d ?g) ?g),@(qe5 (qc5 ?a)),@(j9 P w K tg ?a ?dO it (λi h=>?b)),@(Rep K H' ?a ?b),@(LX H' CS p ?a ?b ?rO n W s' M),@(I2.kept (t':=s1.toks) ?a),@(H ?a=?ab->H' ?b=?ab),@(?v (λj=>?a j j) ?b),@(?iP m i ?a f),@(?cB t ?h ?a ?b),@(1*(-q*0+p*f ?a)),@(?a<=B.natAbs),@(?a<=A.natAbs),@(?a c hc),@(?a ?h st s' hs hI hB hex),@(∀σ H,Pv ?a σ H->?hn),@(∀m,?a<=m->?b),@(∀j,?L->In W ?a R' ?ka),@(rv.get (i:=i) (x:=?a ?b) ?Ds),@(m=kvs.length-i/\?kp/\?a),@(h.imp λ{a b} n z=>n ?a),@(QK ?a ?b (?jy).1 ?ot (?jy).2),@(?a (λz=>?b ?md) λa ha z=>?c ?md),@(?a (p:=i) (q:=j) ?g ?g ne ?b),@(∀r c,?aw->G c->?fP<=?a),@(∀m,m<d->?aE ?a ?aN ?ah ?b m=?c),@(∀l,f<=l->l<?a->?b),@(λh' vA hs=>?a),@(λa ha=>kp a (?a a ha)),@(show ?a from ry),@(qg1 ?a (qe6 ?b)),@(qb6 ?a ?aZ),@(Wa n C δ ?a ?b),@(M2 X o ?a apos e f ?eE),@(?rg (v:=v) (o:=?kh) ?a),@(?i (λc=>A k c*?a c) w),@(?hI ?a=?iY),@(?fm t ?a ?z ?b ?b3),@(?ff ?a z a b ?b),@(?e8 #v[?a,?ru]),@(?e6->j<m->?a),@(?e0 k _ ?g ?a (?fn j k h1 ?b ?c)),@(?dL f i j ?a ?b),@(2 ^ (?a+?b)),@((λc=>?i ?a ?V)=λc=>1*(?b) c+?c),@((?a==sysModules)=false),@(#[?dr,?a,?cP,?b]),@(?a<9223372036854775808),@(∀i j,?y->?L->?a=?k3),@(λb ob _ _ hb z _=>?a),@(qa7 (?a ?_)),@(kk _ _ (ntr _ _ ?a) q),@(_=if r<?av then ?a else ?b),@(Iw n w ?a E A P PB Q QB ?b),@(?q0 hD ?a (s:=t) h.pg),@(?ie (.Name ?a p) ?b [] pos),@(∀i j,?y->j<?a->?wy),@(∀i c,?aw->?a),@(λl hl=>?a l ?g),@(up b _ ?a ?ak),@(uR n w A Q ?a),@(le9 (?s ?a ?b) ?g),@(kvs.length+?a),@(hx _ (h.lt ?a ?b)),@(Vd n ?A w r kl hl ?a),@(PPs X pos ?a ?b ?c),@(Gg A ?bF ?bF ?a 0 hp),@(Calls.spliced_nil ?a),@(Af λl _=>?a),@(?gw ?a j h1 ?b h2),@(?gg qw6 ?hG ?HZ ?JP ?a ?b),@(?gH (k2 ?a ?g).2 hbd),@(?dS R t ?a ?b),@(?aB n n β ?a),@(?DT ?a it d i ?b ep ok ov),@(2 ^ ?b3*?a*?M),@((rel.val ?a).getD rd),@((?a ?g).cols ?qs ?ov),@(#[k,v,t,t',?a,?Z,?b]),@(?a=kvs.length),@(?a<s1.heap.objs.size),@(?a<=?a1),@(∀a kvs,(xs=?a)->?i1->?b->?c),@(∀a b,a<n->b<n->?a=?vw),@(λv H'=>?hh/\?a v ?gp),@(λj c hj=>?a j c ?g),@(z λc=>1*u c+1*v ?a),@(h Ae s σ H ?a I hw),@(by rw[Aj ?a];show q),@(Qm n w ?a ?b),@(K4 R p ?a a b c d k),@(DGet ?a a y ?b),@(?rV/\(?jC->?a)/\∀g a b,?oe->?b),@(?fM->?a->?cW->g ?aF ?b ?qt ?c),@(?a i _ hi (?b k i ?g hi)),@(?a a=?m (?cH C d f)),@(?a "tuple_iterator"),@(?rk/\∀i m σ H,?rQ → (?PT ?a)\/(?N6 ?b ?c)),@(λt1 Y R1 B1 R2 B2 I1 D1 j hj=>by let:=(?a I1 D1).headD dets ?b ?B2;show ?RL ?N ?c),@(?lq { cls:=?bN ?iB,data:=?e8 #v[?B ?dM ?a,?B ?W t',?B ?W t''] }),@(∀d,?hB->?Mw ?iT (?aE t ?a ?z ?b d)),@(∀i x y zs τ H p,xs[i]?=?fG->?xG->?fN->?cW->g ?aF τ ?Cn ?a),@(by exact _=1*?o i ?a;rw[qd8];show Ej (?Mz (by exact _=?b;ext cN))),@(qs2 ?j (qz5 (qr8 (E6 ?HM λiv s2 ?sm =>qr8 (E6 ?D2 ?a))))),@(∀x c,x<n->c<w->?a x c=?NO ?b ?c),@(∀{m:Nat},?g7->?a),@(?m (?cH ?a dx ?b)),@((if r<?a then ?fs else ?gO)=?b),@(show ?N3 ?a ?b 0 from ?c),@(?aE t ?a ?z ?b ?b3),@(?a<n->(?NR n (?bf=?b))->?lM),@(?a (if r<?b then r else ?av) ?c),@(upd H ?a ?b),@(∀H',SX CS H0 H' p q M n W t ?a ?b->?bP),@(By (?Mv (?a≠?b))),@(?p (?NP ?a)),@(?i (λi=>?a) ?b),@(ty σ H1 λy H2=>tx σ H2 λz H3=>?a),@(by let:A k 0=0:=qh3 λz=>?a ?b;ext cQ),@(?aI R i ?h ?a ?b),@(?a j ?g),@(H ?a=none),@(?a r c hr hc),@(?a l ?g h2),@(?a ?b=?NI ?c),@(?a ?b c ?c hc),@(BB n ?a ?fu ?d7 ?b ?c),@(SqT K H' L [?B g,?B a,?B ?a]),@(?p (?Mv (¬?a))),@(?cE ?a i ?au ?b),@((?o k ?a).natAbs=(?o k ?b).natAbs),@(?a j hj),@(λk _ hne=>?Np (one ?a k) ?tf),@((if ?a<=c/\c<r then _ else 0)=?b),@(∀x y,x<n->y<w->?a),@(∀k c,k<n->c<w->?a),@(∀j,j<i->?N0 ?a ?b),@(show ?lS from ?a),@(In W i R ?a),@(?cZ ?a ?an),@(?aE ?a ?aN ?ah ?b ?c),@((?a:Shared).TypeIs ?b ?c),@(λi j hi hj=>?a),@(by exact ?a=?b+?c;ext d),@(Ca A p ?a),@(Ca ?a k λc=>?Na (T k j*?b) ?H),@(?qH c k ?a (?O2 eU.inc c ?b)),@(λi c h1 h2 h3=>?a),@(ms.length-?a),@(insS i ?h st ?a),@(HV n W t ?a ?z i ?b),@(Af λk _=>?a),@(?v ?eD ?a),@(?i ?a n),@(?a8 R ?a ?b a b c d),@((?a r c hr).trans (?b r c hr)),@(show ?Ov ?a from ?KB),@((if r<?a then ?hz else ?g6)=?b),@(∀spot s,?a->?sq->?b),@(∀i t s,?a i t s->?m6),@(∀(i:Nat) (x:Value),?a=?fG->?b),@(λxs H Q=>?a),@(ql6.mpr (?oR (qe5 ?a))),@(qc1 (?Q1 ?a) ?b),@(h'.objs.size=?a → ?b->Q ?c ?lP),@(a*?Pi u x+b*?Pi ?a ?b),@(?ar n W w ?a R B R' B'),@(2 ^ ?a*m*h),@(qh3 λy=>z #[c,hc,?a]),@(Gy (a ?a) n),@((if k=?a then 1 else 0)*?b),@(?a r c ?g),@(∀r t,?as->?hA->?hY->?a),@(∀k,k<=i->?o i ?a=?sc*?b),@(∀i,?y->?P5 ?a (?b i)),@(λb ob hb z=>?a),@(λAe s σ H Q I h =>?a ?b),@(r<i->G c->?N0 ?a ?M),@(qf8 _ ?a),@(l<i->?N5 ?a ?K ?a1),@(a m*?N8 A p (U ?a)),@(Dv (?NJ ?a)),@(?nn (t':=s1.toks) ?a),@(?N2 (?a k a*?b k b) ?c=dl a b),@(2 ^ (?a-f)*μ),@((?Nh n (c<n->?a))->?b),@((?a m hm).trans (?b m hm)),@(?a ?b ?c ?g ?g),@(∀c,c<w->?a=?N2 (X ?b k*?c) r),@(by rw[x0 k ?a];simp),@(?s (h.rowD hD ?a ?b ?c hc) h2),@(?I R i ?h ?d8 ?a ?K),@(?PA (T i d) d=?a),@((?Nj ?a).congr λc _=>?b),@(?o i (Ca ?e9 k ?a)),@(Af λk hk=>by rw[?SN ?a k ?b]),@(H p=?S4 ?a []),@(∀w:?t,?N8 ?x0 ?a w=0),@(λj hj1 hj2=>?a),@(?o ?n ?a),@(?o n ?a),@(∀c,?eV->?a),@(λj c hj hc=>?a),@(∀i,i<r->?Ot ?a),@(Xu ?a*A ?b 0),@(?Fc/\H'=?SA a ?a),@(?a i ?b hi ?c)])
def VC[?uE]{u v:Value}{Q:PySem.Fin->?fp}(hn:?jG)[?u4] (gx:?wu) (k:∀h' e,?nY->(∃o,?hx e=?ab/\o.cls=?bN ?zg)->E (?E e) ?lP) : ?N1 ?aa (Builtin.«zip.__next__» #[[?fr],[]]):=by exact ?NB (field ?fr 2>>=_);apply ?NW ?rj ?_;exact ?NB (field ?fr 3>>=_);apply ?NW ?aK ?_;apply qa7 (qo0 ga ?j ?_);exact ?NB (Builtin.SmallTypes.ownedTupleIsFree ?fr>>=_);apply ?jL;unfold Builtin.SmallTypes.ownedTupleIsFree;apply ?NW ?b6 ?gK;simp only[if_true];apply ?RA qz1;apply ?NW ?cT ?_;apply qa7 (qj4 gz ?aM λk1 gz1 w1=>?_);replace gz1:?Qy k1 ?zN:=gz1;apply ?jL;simp only[List.zipIdx_cons,List.zipIdx_nil,List.forIn_cons,List.forIn_nil];apply qa7 (?RA wpAny_onRaise);exact ?NB (Builtin.SmallTypes.nextOf ?qR>>=_);apply qa7 (Tg hn (g1.extBut ?sQ D.i1z) (e1.extBut ?sQ D.l1z) gx λk2 e w2 he=>?_);let#[oe,ge,ce]:=he;let gz2:?Qy k2 ?zN:=w2 _ _ D.i1z.symm gz1;(let ne:e≠z:=λq=>by subst q;rw[gz2]at ge;cases ge;simp at ce);apply qj4 gz2 ?aM λk3 _ w3=>k k3 e (λc o c1 _ c3 _ q=>?JQ _ _ c1 (w2 _ _ c3 (?sQ _ _ c1 q))) #[oe,?JQ _ _ ne ge,ce]
def CD[?uE]{x y u v:Value}[?uT][?u4] (gx:xs[n]?=?fG) (gy:ys[m]?=?mP) (k:∀h',?Qy h' (rawInt ?aR)->?dC h' b x y->?jN i1 t1 ?n->?jN i2 t2 ?V->?dC h' ?aR x y->?T0 ?j8 ?nY (?m ?ds)):?HK:=by ext M7;show ?NL (SI D gz ga gb g1 g2 e1 e2 gx gy λh' a1 a2 a3 a4 a5 a6 a7=>qc0 (k h' a1 a2 a3 a4 a5 a6 a7))
def ET[?uE]{u v:Value}[?uT](hn:?jG)[?u4] (gx:?wu) (k:∀h',?nY->Q ?aX ?lP):?HK:=by ext M7;apply ?NL (VC hn D gz ga gb g1 g2 e1 e2 gx λh' e kp he=>?_);let ?xp:=he;show qa7 (qx6 (T:=?zg) (b:=true) ?xp isSubtype_stop (qc0 (k _ kp)))
universe e9
meta abbrev zt1(h:Heap)(a:Addr):Heap:=h.push ?At
meta abbrev zt2[?n5]:Heap:=(zt1 h a).push { cls:=?Ru ?bN,data:=?Qz ?cT }
meta abbrev zt3[?n5]:Heap:=?Pd ?HB (?E ?B6) (?E (zt1 h a).objs.size)
meta abbrev zt4[?n5]:Heap:=?Pd ?Eu ?b6 ?b6
meta abbrev zt5[?n5]:Heap:=(zt4 h a b).push { cls:=?jv,data:=?e8 #v[?b6,?rj,?rj,?E (?HB).objs.size,?E (?Eu).objs.size] }
def vC(a b:Addr)(xs ys:?hR):Meets (Builtin.«zip.__new__» #[[?jv,?aK,?cT],[]]) (λ_ R s=>?KU/\?wi/\R (.ok (.ret (?E ?tE))) { s with heap:=?rf }) :=.of_wp λprog w A R s h=>by let ?q1:=s;let#[?Z,h]:=h;let hsub:=sub_zip;let g1:?Ji (?ya ?q1) a xs:=h1;let g2:?Ji (?ya #[hp.push ?At,g,d,tk,os]) b ys:=Heap.IsTuple.push h2 _;wp_walk using qo6 g1,qo6 g2;show ?oZ
section
variable[?em][?bs][?eu]
def uK{a b:Addr}{xs ys:?hR}[?cw](h1:?KU)(h2:?wi) (k:∀h',?ff h' ?sl ?ps ?pl ?b6->?dC h' ?ps ?ds (?E ?j8) → ?dC h' ?pl ?b6 ?b6->?jN ?aR a 0->?jN ?j8 b 0->?T0 ?GW (∀c o,?zx) (?E ?sl)):?N1 ?aa (?eF ?jv ?sX):=by apply callType_new F.called_zip ?X (F.typeCall_zip_2 _ _) (F.newCall_zip_2 _ _) (λobj=>F.args_object_init_3 obj _ _) F.entry_zip_new (vC a b xs ys) #[?Z,?_];let z1:?DR=?j8:=qj2 ..;(let z2:?Kc=?ps:=by rw[qj2,z1]);(let z3:?ys=?pl:=by rw[qj2,z2]);(let z4:?tE=?sl:=by rw[qj2,z3]);(let z5:(?rf).objs.size=?GW:=by rw[qj2,z4]);let q5:?Qw ?tE:=?gl;let q4:?Qw ?ys:=?wm;let q3:?Qw ?Kc:=?zB;let q2:?Qw ?DR:=?wk;let q1:?Qw ?aR:=?Oa ?wk;exact _/\_;rw[z2,z3,z4]at q5;rw[z1,z2]at q3;rw[z3]at q4;rw[z1]at q2;rw[z4];show#[#[_,q5,?j],k _ q5 q3 q4 #[_,q1,?aQ] #[_,q2,?aQ] z5 λc o x=>?Oa (qa8 _ (qa8 _ (qa8 _ (qa8 _ x))))]
universe e9
def tup_cell{h:Heap}{j t:Addr}{n:Nat}(g:?h4 j t n):∃o,?s6 j=?ab/\∀v,o.data≠.cell v:=by let#[o,q,_,d]:=g;show#[o,q,λv z=>by rw[d]at z;cases z]
abbrev yO[?dq](a b:Addr):It:=uS (SqT K) ?yL a b
def sJ[?b8][?ae][?Mo](a b z TI TO i1 i2:Addr)(D:?KT z TI TO i1 i2 a b) :
 j9 P w K ?w1 ?ja ?wV z (λi h=>?P7 i i) where
 mem:=?CY
 obj:=λi h ?EF=>HY hz hTI hTO ?DL ?v1
 keep:=λi h h' ?EF k=>by
  have#[k1,k2,k3,k4,k5]:=of5 k;show#[k1 _ hz,k2 _ hTI,#[u,v,k3 _ hTO],h1.at λo q=>k4 o q,h2.at λo q=>k5 o q]
 item:=by
  ext dj;have ?HY:=st;have#[xs,ys,x,y,AN,tT,hx,hy]:=hg;ext M3;have ?gh:=ra.get hx;have#[v,hv,rv]:=rb.get hy
  show CD D hz hTI hTO h1 h2 ?vq ?z5 (x:=u) (y:=v) (by simpa using hu) (by simpa using hv) λh' hz' xR mV h2' htup hsz hk =>
   JV (Y:=(yO X.K a b).yld i H) (T:=λh=>?P7 ?k ?k) D I hf hz hTI hTO ?DL ?v1 ru rv hz' xR htup hk (λh3 Vp q1 q2 q3=>#[q1,q2,q3,mV.at λo e=>?Pc i1 D.i1z e,h2'.at λo e=>?Pc i2 D.i2z e]) λhn=>#[_,x,y,hn,?aQ,λzs q=>by rw[?vN q AN];show hx,λzs q=>by rw[?vN q tT];show hy]
 done:=by
  ext dj;have ?HY:=st;have#[xs,ys,AN,tT,hx]:=hg;ext M3;let la:=ra.length;let lb:=rb.length;apply ET ?e1 D hz hTI hTO h1 h2 ?vq ?z5 ?_ λh' hk=>#[?j,?O1 ?wV (λc o hc e=>?_)]
  . simp;ext d
  . have#[n1,n2,n3,n4,n5]:=Av0 hc;show hk c o n1 n3 n4 n5 e
 self:=?P3 qx5 (st.1)
inductive YV[?dq][?n7](vs:?cs)(H1:Hp):Prop| mk:∀a b,(vs=?sX)->((∃xs,?Pt H1))->((∃ys,SqT K H1 b ys))->(R ?ja H1)->?Gw
abbrev Bh8[?dq](ta:TA):TI:=?PX ?Gw
def pC:?G6 ?fb=?m ?jv:=?hT
def Aa1{X:Cx}[?ae][?Mo]{a b:Expr}{ta:TA}{p pos:Pos}(hg:Gl X ?fb)(hm:X.mg ?fb=none)(ha:PA X ?l7 ta)[?Ml](hs:?O7 ?l7 [?Hh,?kg])(hs2:?O7 [b] [?kg]) : PI X ?w1 (?RF ?fb ?l7) (Bh8 K ta):=by subst hK;ext mx;apply ?QH pC;let#[la,lb,e,#[xs,AN],#[ys,tT],q]:=q1;subst e;cases r1 with| cons ra rr =>cases rr with| cons rb rr =>cases rr;cases ra;cases rb;let#[ia,_,pa,_]:=?vA AN;let#[ib,_,pb,_]:=?vA tT;(let a1:?Re la:=by let ?vS:=pa;show ?mY);(let a2:?Re lb:=by let ?vS:=pb;show ?mY);apply uK (show ?KE la ?x3 from pa) (show ?KE lb ?EZ from pb) λh' hz hTI hTO hi1 hi2 hsz hk=>?_;apply qx5 hz #[?BD,[?BD,?Nz 2,?Nz 3,s1.heap.objs.size,?zk],_,_,H1,?j,?TI hk,sJ la lb _ _ _ _ _ (zipApart_new a1 a2),#[hz,hTI,#[_,_,hTO],hi1,hi2],I1.fp5,q]
section
variable{g:TG}{tc:TT}[?uH]
def UI[?LR] (hs:?Rz ?BK) [?Mn]:?PR ?ja tc:=GZ (NE:=?yL) ?g ?g ?g Pv h0 hl hs hd
universe e9
section
variable{κ:Type}[?EW κ]
abbrev Sc[?io]:?gJ:=(kvs.find? ?q2).map (·.2)
abbrev Q1[?io](v:V):?g2 :=if ?ks=true then ?dX (?OB (?bC,v)) else kvs++[?di]
abbrev DC[?io]:?g2:=kvs.filter λkv=>?ai (?bC≠k)
def BE[?Mi](e:?aU):?uw=?qZ:=?Ho
def bF[?Mi](e:¬?aU):?uw=Sc r k:=?Ho
def JX(k:κ):∀kvs:?g2,?ks=(?cY).isSome| []=>rfl| p::r=>by rw[qo3];cases e:?aU;{simp only[BE e,qe7 e,Bool.true_or,Option.isSome_some]};rw[bF e,qi5 e,Bool.false_or];show JX k r
def Tk[?io](v:V):?Jf<=?RM 1:=by unfold Q1;split;{rw[qa5];ext d};rw[qc3,qd9,qn7];ext d
def Qj.isSome_eq[?j6]{u:?iS}(r:Qj o u):o.isSome=u.isSome:=by
 cases o with
 | none=>cases u with
   | none=>rfl
   | some _=>ext mp
 | some _=>cases u with
   | none=>ext mp
   | some _=>rfl
def Qj.getD[?j6]{u:?iS}{d:V}{d':Value}(r:Qj o u)(rd:?b2 d d'):?b2 ?GX (u.getD d'):=by
 cases o with
 | none=>cases u with
   | none=>show rd
   | some _=>ext mp
 | some _=>cases u with
   | none=>ext mp
   | some _=>show r
def KV.val[?ej](k:κ):Qj ?cY ?kh:=by unfold KV at r;induction r with| nil=>show True.intro| @cons p q ps qs h t ih =>let ?eP:=h;cases e:?aU;{let e':q.1=k:=?hU;(let b:?EG=?m q.2:=?yF);rw[BE e,b];show h2};ext uI;(let b:?EG=?t7 qs k:=?yF);rw[bF e,b];show ih
def KV.any[?ej](k:κ):?ks=?Gk:=by unfold KV at r;induction r with| nil=>rfl| cons h t ih=>rw[qo3,qo3,ih,h.1]
def KV.repl[?ej](k:κ)[?j3][?er] : KV ?Hs (vs.map (?OB (?bC,u))):=by unfold KV at r ⊢;induction r with| nil=>show ?bA| @cons p q ps qs h t ih =>rw[qc8,qc8];apply ?IR;let ?eP:=h;cases e:?aU;{rw[?cD,?u ?hU];show#[h1,ry]};rw[?cC,?p ?oO];show ?eP
def KV.put[?ej](k:κ)[?j3][?er]:KV ?BV (?ri vs k u):=by unfold Q1 stored;rw[r.any k];cases e:?Gk=true;{rw[?cD,?cD];show ?yJ};rw[?cC,?cC];show ?wU r #[?j,ry]
def KV.drop[?ej](k:κ):KV ?nx (without vs k):=by unfold KV at r ⊢;unfold DC without;induction r with| nil=>show ?bA| @cons p q ps qs h t ih =>let ?eP:=h;rw[qn3,qn3];cases e:?aU;{(let a:¬?zi:=?yl);(let b:¬?wg:=by simp[?hU]);rw[?p a,?p b];show ih};ext uI;(let a:?zi:=?yl);(let b:?wg:=by simp[e']);rw[?u a,?u b];show ?bi ?eP ih
def KV.keys[?ej]:?dX (·.1)=vs.map (·.1):=by unfold KV at r;induction r with| nil=>rfl| cons h t ih=>rw[qc8,qc8,ih,h.1]
def KV.length[?ej]:kvs.length=vs.length:=?IT r
def XZ[?io]:(?nx).length<=kvs.length:=?x5
universe e9
def kV_is[?b8]{k:Key}{u:Value}(r:?kS):?w3:=by cases k with| inl i=>let#[t,e]:=(show ?KA from r);subst e;show lQ P w i t| inr x=>let#[t,e]:=(show ?Jt from r);subst e;show LP P w x t
def gD[?b8]:∀{ks:?eZ}{us:?rr},Vals ?FL us->ItemsAre ?dd ks us| [],_,r=>by rw[qr6]at r;cases r;show ?bA| k::ks,_,r=>by rw[qc8]at r;cases r with| cons h t=>show ?bi (?lj h) (gD t)
meta abbrev KT(H:Hp):?hH->?sK->Prop:=Paired λp q=>p.1=q.1/\H q.2.1=?Q8 (p.1.map kV)/\?b2 p.2 q.2.2
def KT.val{H:Hp}[?mg](k:?eZ):Qj ?cY (?w5 (·.2)):=by induction r with| nil=>show True.intro| @cons p q ps qs h t ih =>let#[h1,_,h2]:=h;cases e:?aU;{let e':q.1=k:=?hU;(let b:?HF=?m q.2:=?FJ);rw[BE e,b];show h2};ext uI;(let b:?HF=atKey qs k:=?FJ);rw[bF e,b];show ih
def KT.repl{H:Hp}[?mg](k:?eZ)[?j3][?er] : KT H ?Hs (xs.map (putAt k u)):=by induction r with| nil=>show ?bA| @cons p q ps qs h t ih =>rw[qc8,qc8];apply ?IR;let ?uv:=h;unfold putAt;cases e:?aU;{rw[?cD,?u ?hU];show#[?Z,ry]};rw[?cC,?p ?oO];show ?uv
def KT.put{H:Hp}[?mg](k:?eZ){b:Addr}[?j3](hb:?tW)[?er] : KT H ?BV (storedH xs k b u):=by (let e:?ks=?G3:=by rw[JX,(r.val k).isSome_eq,Option.isSome_map]);unfold Q1 storedH;rw[e];cases q:?G3=true;{rw[?fI,?fI];show ?yJ};rw[?eW,?eW];show ?wU r #[?j,hb,ry]
def KT.keeps[?c1][?mg](ht:∀b ys,H b=?Q8 ys->H' b=?Q8 ys):KT H' kvs xs :=Paired.mapP r λ_ _ z=>#[z.1,ht _ _ z.2.1,z.2.2]
section
variable[?b8]{H:Hp}{h:Heap}{a:Addr}
def Ak4{u:HO}[?ga](e:Rd H a u):?Ov u:=e.ok ok
def Vs[?bK][?ga][?n2]:?H1 :=?Ss ?bH
def RE[?bK][?ga][?it]:?H1:=Vs ok ?wx
def JD{ks:?eZ}[?ga](e:H a=?m ?Ba):?Ko h ks a:=by have#[_,its,r,o,?Z,_,n,h3]:=(show ?Ov ?Ba from ok a _ e);show#[o,?mC,n,?Z,h3,by simpa using gD r]
def LZ{kvs:?hH}[?ga](e:?oY):?BT:=by have#[z,y,xs,r,o,es,ep,?Z,h3,h4,h5]:=(?Ss ?sD);apply#[z,y,xs,r,o,es,ep,?Z,h3,h4,?lO,h5];(let all:∀{l:?hH}{m:?sK},KT H l m->∀x∈m,?Ko h x.1 ?fL:=by intro l m q;induction q with| nil=>intro x hx;show nomatch hx| @cons p q ps qs hq t ih =>intro x hx;rcases qe0.mp hx with e | hx;{subst e;show JD ok (by rw[←hq.1];show hq.2.1)};show ih x hx);show all r x hx
def Bn1{kvs:?hH}[?ga](e:?xi):?BT:=LZ ok ?wx
universe e9
abbrev DGet(H:Hp)(a:Addr)(y:V)(r:?gJ):Prop :=(∃kvs k,?i1/\y=?dE/\r=?cY)\/∃kvs k b,?oY/\?k5/\?tW/\r=?cY
abbrev A66(H:Hp)(a:Addr)(y v:V)(H':Hp):Prop :=(∃kvs k,?gm/\y=?dE/\?Tf (.dK ?rU)) ∨ ∃kvs k b,?xi/\?k5/\?tW/\?Tf (.dT ?rU)
section
variable[?cM]{y v:V}{u r:Value}[?j6][?bs]
def Bo.big[?aW]:?O9 sysModules:=by let h:?O9 mainGlobals:=(I.mod.glob.keeps I.bk).lt;show qw8 ?X h
def uI[?cw][?ul][?aW](g:?Rp H ?c6)[?er](h:∀w' s',?jo->?Cy) : ?N1 ?dF (?nX ?aK u):=by ext MA;{subst ey;apply ?e7;let ?d5:=?cv;apply ?bT;let ?rt:=?Qu ?AT;show wpAny_getItem_of ?iN ?Cc hw ?Fg};ext Lp;let ?rt:=?rg (v:=v) (o:=?w5 (·.2)) ?AT;have#[p,hp,hp2]:=qe8.mp hw;apply wpAny_getItem_heap ?oC ?q3 dd hp ?_;rw[hp2];show ?Fg
def AY{h':Heap}{t':Nat}{ob:HO}[?aW](mu:Mut (H a))(hs:?xV a ?aq h')(he:?ra)(new:?ee ?iL X.w ?z8 h' a ob) : ?NT ?z8 ({ s with heap:=h',toks:=t' }) :=I.write (x:=a) (e:=a) mu ?ne (λb q hb z=>(hs.2 b hb).trans z) he new
def DE[?b8]{H':Hp}{h':Heap}[?bK][?mw](z:?lw)(hd:?ev)(rel:?ey)(dd:?Ah ?dd a vs) : ?ee P w H' h' a ?bH:=?d5
def UH{H':Hp}{Q:?Eq}[?ul][?aW](g:A66 H a y v H')[?er](rv:?b2 v r)(h:∀s',?Iu->Q () s') : ?N1 ?dF (setItem ?aK u r):=by rcases g with⟨kvs,k,e,ey,l,eH⟩|⟨kvs,k,b,e,ey,eb,l,eH⟩;{subst ey eH;apply ?e7;let ?d5:=?px;apply ?bT;(let hz:?Ow vs.length:=?nv);(ext Ly);apply wpAny_setItem_pairs (hsz:=hz) ?iN dd ?ur;let he:?ra:=?od;show ?Q7 hl (rel.put k rv)};subst ey eH;cases ?BE;have ?vF:=Bn1 ?bq e;(let hz:?Ow xs.length:=by rw[←?IT rel];show z);(ext Ly);apply wpAny_setItem_heap (hsz:=hz) ?oC ?q3 dd ?ur;have#[q,es,ep,hq,h2,h3,h4,_,h5]:=vA;apply AY I ?lC hs #[q,hq] #[hl,hd,_,(rel.put k eb rv).keeps λc ys ec=>?_,q,es,ep,hq,h2,h3,h4,h5];rw[Aj (F6 ec e ?Kh)];show ec
universe e9
section
variable[?cM][?bK]{k:Key}{u:Value}[?bs]
def Bn2{v:V}{more:?rr}[?cw][?aW][?it](ry:?kS)(l:?cY=?c6)(hm:more=[]\/∃x,more=[x]) (h:∀w' s',?NT (?SA a ?wl) s'->?Cy):?N1 ?dF (?eF ?xo ?Ex):=by let ?d5:=?px;let ?rt:=?Qu ?Kr;ext LJ;(let ha:argsOk ?Bp #[?Ex,[]]:=by rcases hm with q|⟨x,q⟩;{subst q;show PySem.F.args_dict_pop_2 _ _};subst q;show ?Kw);apply ?gg qw5 ?hG ?AE ha (meets_dict_pop_there ?cG a ?iN more hm hp) #[vs,w',dd,?nv,hw,?Qn (h w' _ ?_ rw')];let he:?ra:=?od;show ?Q7 (?s (XZ kvs k) z) (rel.drop k)
def A42{r:Value}[?cw][?aW][?it](ry:?kS)(l:?A4)(h:∀s',?jo->Q r s') : ?N1 ?dF (?eF ?xo ?DJ):=by let ?d5:=?px;let hn:?kh=none:=Qj.none_of ?Kr;ext LJ;show ?gg qw5 ?hG ?AE ?Kw (meets_dict_pop_default ?cG a ?iN hd hp r) #[vs,dd,hn,h _ ?jr]
def Bn3[?cw][?aW][?n2](h:∀t s',?jo->Q (?B ?gy t) s'):?N1 ?dF (?eF ?DK [?aK]):=by let ?d5:=?cv;apply call_len_dict hd dd (by ext ix;rw[sizeLine_eq]at z;ext d) ?_;ext ix;show h _ _ ?jr
universe e9
abbrev NoSl(i:Expr):Prop:=∀ov iv,?Da i ?bO ov iv=operate [ov,iv] (?nX ov iv)
def zQ[?em][?bs][?eu]{env:Env}{value slice:Expr}{pos:Pos}{T id:String}[?cw] (hl:?Fe (?bN T) "__getitem__"=pure (?m (?e4 id))) (hs:NoSl ?lZ) (h:?D ?aa A (?cZ ?fB env) (λo s₁=>?D ?aa A (?cZ ?lZ env) (λi s₂=>s₂.TypeIs o T/\?D ?aa A (?nX o i) Q E s₂) E s₁) E s) : ?N1 ?aa (?cZ (?tB ?fB ?lZ pos) env):=by apply Subscript_ (qm0 h (λo s₁ h₁=>qm0 h₁ (λi s₂ h₂=>?_) ?ss) ?ss);let#[hT,h₂]:=h₂;unfold subscriptTail;apply ?jL;rw[getitemInPython_of_ne hT.not_modules];apply qa7 (wpAny_specialOf hT hl ?_);(let fin:?D ?aa A (?Da ?lZ ?bO o i) (λr s₃=>?D ?aa A (letTemporaryGo ?fB o r>>=λ_=>pure r) Q E s₃) E s₂:=by rw[hs o i];show wpAny_operating (qm0 h₂ (λr s₃ h₃=>qa7 (wpAny_letTemporaryGo (qc0 h₃))) ?ss));first| show ?Hf| show qa7 ?Hf| show ?v3
def MA[?cM]{y:V}[?j6][?aW](g:?vr):?tN:=by rcases g with⟨kvs,k,e,_,_⟩|⟨kvs,k,b,e,_,_,_⟩;{let#[_,_,vs,_,dd]:=?cv;show dd.typeIs};let#[_,_,xs,_,dd]:=?o8;show dd.typeIs
inductive yR(Q:VK)(x:V)(y:V)(H2:Hp):Prop| mk:∀a v,?fz->(?Rp H2 ?c6)->(Q v H2)->?FV
abbrev Bc4(td ty:TE):TE:=λσ H Q=>?Ns (ty σ H1 λy H2=>?FV)
inductive yS(D:Ends)(σ:St)(v:V)(x:V)(y:V)(H3:Hp):Prop| mk:∀a H4,?fz->(A66 H3 a y v H4)->(D.nx σ H4)->?DE
abbrev Bd2(td ty tv:TE):TS:=λD σ H=>tv σ H λv H1=>td σ H1 λx H2=>ty σ H2 λy H3=>?DE
section
variable{X:Cx}{o i e value:Expr}{pos pos' tpos:Pos}{td ty tv:TE}
def Ur[?uL](hi:?Bc)(hs:NoSl i):PE X (?tB o i pos) (Bc4 td ty):=by intro Ae s σ H Q I h;apply zQ PySem.F.slot_dict_getitem.lookup hs (E6 ?EY λu s1 ?vH=>E6 (?Nk hi) λiv s2 _z=>?_);let#[y,H2,I2,ry,a,v,ex,g,q2]:=_z;subst ex;obtain rfl:u=?eQ a:=rx;show#[MA I2 g,uI hu I2 g ry λw' s3 I3 rw'=>#[v,H2,I3,rw',q2]]
def Ye[?uL](hi:?Bc)(hv:PE X ?fB tv)(hs:swapsWith ?fB (?m ?Ij) pos.line ?an=pure ?bO) : PS X (.Assign [?Ij] ?fB pos) (Bd2 td ty tv):=by intro Ae s σ H D I h;apply wpAny_Assign_Subscript (E6 (?OP hv) λr s1 #[v,H1,I1,rv,q1]=>E6 (?Nk ho) λu s2 #[x,H2,I2,rx,q2]=>E6 (?Og hi) λiv s3 _z=>?_) hs;let#[y,H3,I3,ry,a,H4,ex,g,q3]:=_z;subst ex;obtain rfl:u=?eQ a:=rx;show UH hu I3 g ry rv λs4 I4=>#[σ,H4,I4,q3]
universe e9
def dk_empty[?b8]{H:Hp}(h:Heap)(hb:sysModules<h.objs.size):?ee P w H (h.push ?D8) ?B6 ?hE :=#[?J,?Sy hb,[],?bA,?ym h]
abbrev tDNewK:TE:=λ_ H Q=>∀p,?cW->Q ?aF ?EO
section
variable[?nA]
def Fx:PE X (.Dict [] [] pos) tDNewK:=?TC wpAny_Dict_empty #[?ds,_,?O8 ?hE ?Hy ?vD,?j,h _ ?ll]
universe e9
abbrev tPairs:?ig->St->Hp->?w9->Prop| [],_,H,Q=>Q [] H| (tk,tv)::r,σ,H,Q=>tk σ H λx H1=>tv σ H1 λy H2=>?nd r σ H2 λps H3=>Q ?yP H3
meta abbrev VV:?Of V V->?Of Value Value->Prop:=Paired λp q=>?b2 p.1 q.1/\?b2 p.2 q.2
abbrev PPs(X:Cx)(pos:Pos)(keys:?sO)(values:?d9)(ZM:?ig):Prop :=∀(Ae:Bl) (s:Shared) (σ:St) (H:Hp) (Q:?w9),?yd->?nd ZM σ H Q → ?D ?dF X.A (evalPairs (pairTrees keys ?py ?an pos)) (λvs s'=>∃ps H',?Iu/\VV ps vs/\Q ps H') X.xe s
def iM[?nA]:?RP [] [] []:=λAe s σ H Q I h=>pairTrees_nil_walk #[[],H,I,?bA,h]
def BW[?nA]{k v:Expr}{ks:?sO}{vs:?d9}{tk tv:TE}{ZM:?ig}(hk:PE X k tk)(hv:PE X v tv)(hr:?RP ks vs ZM) : ?RP (?m k::ks) (v::vs) ((tk,tv)::ZM):=?TC pairTrees_cons_walk (E6 (?OP hk) λu s1 ?vH=>E6 (?Nk hv) λw2 s2 ?sm =>E6 (?Og hr) λws s3 #[ps,H3,I3,rel,q3]=>#[?yP,H3,I3,?bi #[rx,ry] rel,q3])
abbrev Ir(kvs more:?bj):?bj:=more.foldl (λacc kv=>Q1 acc ?bC kv.2) kvs
def KV.merge:∀{more:?bj}{rs:?lb}[?bK][?mw],KV more rs->?ey->KV ?ta (merged vs rs):=by intro more rs kvs vs r;unfold KV at r;induction r generalizing kvs vs with| nil=>intro q;show q| @cons p q ps qs h t ih =>intro r0;(let e:KV ?h0 (?ri vs q.1 q.2):=by let:=r0.put p.1 h.2;rw[←h.1];show this);show ih e
def Ox:∀(more kvs:?bj),(?ta).length<=?RM more.length| [],kvs=>by exact kvs.length<=?RM 0;(ext d)| p::r,kvs=>by let h1:=Ox r ?h0;let h2:=Tk kvs p.1 p.2;exact(Ir ?h0 r).length<=_;rw[qd9];ext d
def dR[?b8]:∀[?bK]{ws:?Of Value Value},VV (?dX ?vO) ws->∃rs,Carries ?dd ws rs/\KV kvs rs| [],_,r=>by rw[qr6]at r;cases r;show#[[],True.intro,?bA]| p::kvs,_,r=>by rw[qc8]at r;cases r with| @cons a b as bs h t =>let#[rs,c,q]:=dR (P:=P) (w:=w) t;let ?rG:=b;show#[(p.1,b2)::rs,#[?lj h.1,?j,c],?bi #[?j,h.2] q]
abbrev Bc3(ZM:?ig):TE:=λσ H Q=>∀p,?cW->?nd ZM σ ?EO λps H2=>H2 p=?m ?hE/\∃kvs:?bj,ps=?dX ?vO/\kvs.length<=15/\Q ?aF (upd H2 p ?kk)
def iP[?nA]{keys:?sO}{values:?d9}{ZM:?ig}(h:?RP keys ?py ZM)(hall:keys.all (·.isSome)=true)(hl:keys.length=values.length)(h0:keys≠[]) (h15:keys.length<=15):PE X (.Dict keys ?py pos) (Bc3 ZM):=by intro Ae s σ H Q I q;let hn:=?Gh (qa3 ?aR);let I1:=?kv (a:=s.heap.objs.size) (o:=?hE) (h':=?kl) (t':=s.toks) ?Hy ?l ?vD;apply wpAny_Dict_walk (knd:=?cG) hall hl h0 h15 (E6 (h Ae _ σ _ _ I1 (q _ hn)) λws s2 _z=>?_);let#[ps,H2,I2,rel,e,kvs,ep,lk,q2]:=_z;subst ep;have#[rs,c,rk]:=dR (P:=X.prog) (w:=X.w) rel;have#[z,hd,vs0,r0,dd]:=RE I2.hok e;cases r0;apply#[rs,c,dd,?Qn #[?ds,_,?_,?j,q2]];(let hz:?wp:=by let h1:=?Ad;rw[qn7]at h1;rw[sizeLine_eq];ext d);let he:∃q,?hx ?aR=?m q:=?od;show AY I2 ?lC hs he (DE hz hd (rk.merge ?bA) vA)
structure M2(X:Cx)(o:Expr)(m:Str)(apos:Pos)(e f:Expr)(cpos:Pos):Prop where
 base:?yk o m ?an ?Dz=?Dz
 few:((?H6).all (λx=>!x.1)&&(backToKw ?eE (keywordEach [] ?an)).all (λx=>x.1.isSome)
  && ?ai ((?jV:?d9).length+([]:?CB).length+(if ([]:?CB).isEmpty then 0 else 1)<30))=true
 line:?JN
 trees:?H6=[(?bO,?ob),(?bO,?Sb f)]
abbrev IsD(H:Hp)(a:Addr):Prop:=(∃kvs,?i1)\/∃kvs,?oY
def XH[?cM][?aW](d:IsD H a) : ?tN/\(∀b,?eQ a=?cT->∃ob,?Ht/\ob.dict=none)/\?ev:=by rcases d with⟨kvs,e⟩|⟨kvs,e⟩;{let#[_,hd,vs,_,dd]:=?cv;apply ?K8;cases q;let ?y1:=dd;show ?wO};let#[_,hd,xs,_,dd]:=?o8;apply ?K8;cases q;let ?y1:=dd;show ?wO
section
variable[?cM]{y d:V}{u r:Value}[?j6][?bs]
def A43[?cw][?ul][?aW](g:?vr)[?er](rd:?b2 d r)(h:∀w' s',?jo->?b2 ?GX w'->Q w' s') : ?N1 ?dF (?eF (?e4 "dict.get") ?DJ):=by ext MA;{subst ey;apply ?e7;let ?d5:=?cv;apply ?bT;apply ?RU (meets_dict_get_default ?cG a ?iN hd r) #[_,?Cc,?FD];rw[l];show ?Ra k};ext Lp;apply ?RU (meetsH_dict_get_default (?Hj ?cG) a b hd r) #[?oC,k,xs,?q3,dd,?FD];rw[l];show ?Ra k
universe e9
inductive ItDGet2(ty:TE)(tx:TE)(σ:St)(Q:VK)(x:V)(H1:Hp):Prop| mk:∀a,?fz->?Db->(?SF (∃o,?Rp H3 o/\Q (o.getD z) H3))->?Ii
abbrev As0(td ty tx:TE):TE:=λσ H Q=>?Ns ?Ii
abbrev Ar9(td ty tx:TE):TE:=λσ H Q=>?Ns (∃a,?fz/\?Db/\?SF (∃kvs k,H3 a=?m ?bH/\y=?dE ∧ (∀v,?cY=?c6->Q v (upd H3 a ?wl))/\(?A4->Q z H3)))
section
variable{X:Cx}{o e f:Expr}{apos cpos:Pos}{td ty tx:TE}
def P0[?uL](he:?FW)(hf:?Fr)(m:?Qt "get"):?O5 "get" As0:=by intro Ae s σ H Q I h;apply ?PJ qw6 PySem.F.type_dict_get;ext LV;apply ?S1 (λfv s3 #[z,H3,I3,rz,ov,g,q3]=>?RR ?_);show A43 hu I3 g ry rz λw' s4 I4 rw'=>#[_,H3,I4,rw',q3]
def WA(ho:?vs)(he:?FW)(hf:?Fr)(m:?Qt "pop"):?O5 "pop" Ar9:=by intro Ae s σ H Q I h;apply ?PJ qw5 PySem.F.type_dict_pop;ext LV;apply ?S1 (λfv s3 #[z,H3,I3,rz,kvs,k,ea,ey,q3,q4]=>?RR ?_);subst ey;cases l:?cY with| some v=>show Bn2 I3 ea ry l (?S #[fv,?j]) λw' s4 I4 rw'=>#[v,_,I4,rw',q3 v l]| none=>show A42 I3 ea ry l λs4 I4=>#[z,H3,I4,rz,q4 l]
universe e9
section
variable[?cM][?bK][?bs]
def YE[?cw][?aW][?n2](h:∀p s',?cW->?NT ?Dk s'->Q ?aF s'):?N1 ?dF (?eF ?hi [?aK]):=by let ?d5:=?cv;apply kt_call_dict hd dd ?nv (?Qn ?_);apply h _ _ ?ll (?O8 ?bH (λb q hq=>?_) (DE z ?zM rel vA));show(hs.2 b (?QN hq)).trans (?Oa hq)
universe e9
section
variable[?cM][?j3][?bs]
universe e9
section
variable{X:Cx}
def HC:F3 X ?DK (?Sx (∃a kvs,xs=[?ly a]/\?gm/\Q ?JI H)):=by ext il;let#[a,kvs,?j,ha,q]:=h;ext uS;show Bn3 I (?T ha) λt s' I'=>#[?JI,H,I',?gu,q]
universe e9
universe L2
namespace L2
open PySem PySem.Spec PyProof.Rows PySem.SeqAt
abbrev cK[?bI]:?bj:=?g4 λp=>(?kY,?bg p.2)
abbrev lookI[?bI](k:Int):?hO Int:=(ms.find? ?eR).map (·.2)
inductive R7:?O ?jP->?QA ?ch| nil:R7 [] []| cons {e:DictEntry}{k v:Int}[?iv][?bv]{t t':Tok}:?v7->?Gf->?vn->?iX->R7 (e::es) (?di::ms)
def R7.length[?iv][?bv](h:?iX):es.length=ms.length:=by induction h with| nil=>rfl| cons _ _ _ _ ih=>simp[ih]
def R7.get[?iv][?bv](h:?iX):∀{i:Nat}{e:DictEntry},?Po es e->∃k v t t',ms[i]?=?nz/\?v7/\?Gf/\?vn:=by induction h with| nil=>intro i e q;simp at q| @cons e0 k v es ms t t' h1 h2 h3 _ ih =>intro i e q;cases i with| zero =>(let:e0=e:=?eO);subst this;show(?Rc ?aM h3)| succ i =>let#[k',v',t1,t2,q1,q2]:=ih (i:=i) (e:=e) ?eO;show#[k',v',t1,t2,?AB,q2]
def R7.find[?iv][?bv](h:?iX)(k:Int):es.findIdx? ?A7=?wZ ?eR:=by induction h with| nil=>rfl| @cons e0 k0 v es ms t t' h1 h2 h3 _ ih =>rw[qy5,qy5,h1,ih];(let e:?ft k (?B k0 t)=?ai (k0=k):=by cases q:k0=k;{subst q;simp[Value.isInt]};simp[Value.isInt,q];try show ?zu);rw[e]
structure Ql(h:Heap)(a:Addr)[?bI]:Prop where
 ex:∃o es ep,?s6 a=?ab/\o.ExactDict/\?qB/\?xb
 sys:?ev
 nd:(?g4 (·.1)).Nodup
def Ql.typeIs[?eu]{a:Addr}[?bv](x:?fo):?tN:=let #[o,_,_,ho,hc,_]:=x.ex;#[o,ho,hc.1]
def oK[?bv]{k:Int}(h:?rY=none):?dD=none:=by unfold lookI;rw[List.findIdx?_eq_none_iff]at h;rw[List.find?_eq_none.mpr (λp hp=>by let:=h p hp;simpa using this)];rfl
def OJ[?bv]{k:Int}{j:Nat}(h:?rY=?m j):∃v,ms[j]?=?nz/\?dD=?c6:=by induction ms generalizing j with| nil=>simp at h| cons p ms ih =>rw[qy5]at h;cases q:?aU;{rw[qe7 q,?w]at h;cases h;apply#[p.2,by simp[←q],?_];unfold lookI;rw[?QF ?eO];rfl};rw[qi5 q,?kH]at h;cases h2:?rY with| none=>rw[h2]at h;cases h| some j' =>rw[h2]at h;(let e:j=j'+1:=by simpa using h.symm);subst e;let#[v,h3,h4]:=ih h2;apply#[v,by simpa using h3,?_];unfold lookI at h4 ⊢;rw[?QG ?eO];show h4
def Ag1(fs:?qg)(p:?jP->Bool):?r8 p=fs.toList.findIdx? p:=by cases fs;simp
def Bh7[?em][?bs][?eu]{x y:Int}{t u:Tok}{Q:?Hw}(h:Q (?ai (x=y)) s):?N1 ?aa (eqBool ?vo ?Df) :=(?m0).eqBool (?Or x ?vo) (?Or y ?Df) h
def Ay3[?em]{es:?qg}[?bv](h:?xb):KeysOf ?m0 es:=by intro e he;let ?qy:=Array.mem_iff_getElem.mp he;let(?Rc _ _):=h.get (i:=i) (e:=es[i]) (by simp[hi]);show#[k,by exact ?ft k _=true;rw[h1];simp[Value.isInt],h2]
def Yb[?em][?bs][?eu]{id:String}{a b:Addr}{ms ns:?ch}{Q:?Hw}(ha:?fo)(hb:?kC) (h:Q ?g8 s):?N1 ?aa (?oi id a b):=by let#[oa,es,ep,hoa,_,hda,hea]:=ha.ex;let#[ob,fs,zJ,hob,_,hdb,heb]:=hb.ex;(let la:es.size=ms.length:=by rw[←hea.length];simp);(let lb:fs.size=ns.length:=by rw[←heb.length];simp);unfold Builtin.Dict.samePairs;(let sh:∀{c:Addr}{Q:?Eq},?R5 c->Q () s->?N1 ?aa (Builtin.Dict.showsAll c):=λ{c Q} hc hq=>by unfold Builtin.Dict.showsAll;rw[?p (by rw[hc];show qe9)];show qc0 hq);apply qa7 (sh ha.sys (?Pa sh hb.sys));apply ?P4 qw4 ?Fh;cases hl:ms.length=ns.length;{rw[?p (by simp[la,lb,hl])];(let e0:?qC=true:=?vY);rw[e0,Bool.true_and]at h;apply ?P4 wpAny_dictEpoch ?_;rw[Std.Legacy.Range.forIn_eq_forIn_range'];apply qa7 (qm0 (wpAny_forIn_list _ (λrest r s'=>s'=s/\r=(?aX,())/\∃i,rest=List.range' i ?JZ 1/\i<=ms.length/\∀p∈ms.take i,?Jz) (λr s'=>s'=s/\((r=(?aX,())/\?rE=true)\/(r=(?m ?bO,())/\?rE=false))) ?_ ?_ _ _ #[?aQ,0,?_,?J,?aM]) (λr s' hr=>?_) ?HJ);{rintro i rest r s' ⟨rfl,rfl,i1,hr,hi,hd⟩;(let hlt:i1<ms.length:=by ext eo;rw[?Mv (?Jn=0)]at hr;cases hr);rw[?Mv (?Jn=(?Sk (i1+1))+1),List.range'_succ]at hr;cases hr;let hie:i<es.size:=?g;let(?Rc hm h3):=hea.get (i:=i) (e:=es[i]) (by simp[hie]);(let hmi:ms[i]=?di:=by rw[qa0 hlt]at hm;show qb0 hm);apply ?P4 qw4 ?_;rw[?vL hie];dsimp only;apply qa7 (qm0 (Q:=λsame s''=>s''=s'/\same=?ai ?Bw) ?pA (λsame s'' hs=>?_) ?HJ);{rw[h1,h2];apply qa7 (wpAny_dictFind_of (knd:=?m0) (k:=k) (show ?ft k ?zR=true from by simp[Value.isInt]) hob hdb (Ay3 heb) ?_);(let ef:(?r8 λe=>(?m0).is k e.key)=?AA ?eR:=by rw[←heb.find k];exact ?r8 ?A7=_;show Ag1 _ _);rw[ef];cases hf:?AA ?eR with| none =>dsimp only;apply qc0 ?qG;rw[oK hf];rfl| some j =>let#[v',hj,hl2]:=OJ hf;let hjn:j<ns.length:=(?lf hj).1;let hjf:j<fs.size:=?g;let#[k2,v2,t2,t2',hm2,g1,g2,g3]:=heb.get (i:=j) (e:=fs[j]) (by simp[hjf]);rw[hj]at hm2;cases hm2;dsimp only;apply ?Fh;rw[?vL hjf];dsimp only;apply ?pA;rw[h3,g3];apply Bh7 ?qG;rw[hl2];cases q:v=v';{subst q;simp};let q':¬v'=v:=?zu;simp[q,q']};let#[?j,hs]:=hs;cases q:?Bw;{rw[qe7 q]at hs;subst hs;rw[?kH];apply ?P4 wpAny_dictEpoch ?_;rw[?p ?aM];apply qc0 #[?aQ,?k,?j,hlt,?H9];rw[qd6,qa0 hlt,hmi]at hp;rcases ql7.mp hp with hp | hp;{show ?wN};(let:p=?di:=by simpa using hp);subst this;show q};rw[qi5 q]at hs;subst hs;rw[?ng];apply qc0 #[?j,?S ?qG];rw[List.all_eq_false];show#[?di,by rw[←hmi];show qf2 hlt,?eO]};{rintro r s' ⟨rfl,rfl,i,hr,hi,hd⟩;(let e1:i=ms.length:=by apply qj9 hi ?da;rw[?Mv (?JZ=(?Sk ?k)+1),List.range'_succ]at hr;cases hr);subst e1;rw[qd0]at hd;show#[?j,?T #[?j,qd4.mpr λp hp=>qe7 ?wN]]};{simp[Std.Legacy.Range.size,la]};obtain⟨rfl,⟨rfl,e2⟩|⟨rfl,e2⟩⟩:=hr;{rw[e2]at h;show ?nq};rw[e2]at h;show ?nq};rw[?u (by simp[la,lb];show hl)];(let e0:?qC=false:=?vY);rw[e0,Bool.false_and]at h;show qa7 (qz1 ?nq)
universe L2
namespace L2
open PySem PySem.Spec PyProof.Rows
section
variable[?em][?bs]
def iZ:?Fe ?tF ?p9=pure ?aX:=am_miss_of_fast ?jj
def cL[?eu]{a:Addr}{xs:?hR}{k:Nat}[?uT] (hx:?gv a=?Pv xs k) (hA:?jG) (h:∀h' tk,(?QL (?hx b=?ab))->Q ?aX ?js) : ?N1 ?aa (getAttr? ?aK ?p9):=by let ?q1:=s;let hT:∀tk',?Sd #[hp,g,d,tk',os] ?aK ?rW:=λ_=>#[_,hx,?j];let f1:=sub_AttributeError;let f3:=F.slot_list_getattribute.lookup;let f4:=F.slot_list_getattribute.bind ?aK;let f5:=am_list_getattr_none;unfold getAttr? getAttrBy? getAttrBy;(repeat (any_goals (first | assumption | show hT _ | ((with_reducible exact ?NB (?eF (Value.builtin "list.__getattribute__") _ _));apply call_meets F.slot_list_getattribute (hT _) am_entry_list_getattribute (F.args_list_getattribute_2 _ _) (meets_getattribute_miss_list a xs k #v[] ?p9 _ iZ ?hT) #[hx,hA,λh' tk' e hx'=>?_]) | wp_step)));let#[t',u',he]:=hx'.there;exact ?NB (getattributeRaised _ _ _ _ _ _ _);unfold getattributeRaised;(repeat (any_goals (first | assumption | wp_step)));show h _ _ hx'.keeps
def N6:plainId ?tZ=true:=?hT
def y7:?ut table ?tZ=?m Builtin.«dict.update.loop»:=entryFor_of_fast ?jj
variable{KT:Type}[?EW KT]{knd:KeyKind prog w KT}
abbrev Bq0(d it:Addr)(h0 h:Heap):Prop:=∀b o,b≠d->b≠it->h0.get? b=?ab->?s6 b=?ab
def UG(hh:?jG){d it l:Addr}{items:?hR}{prs:?O ?ny}(hl:prs.length=items.size)(ndi:d≠it)(nld:l≠d)(nli:l≠it){h0:Heap}(hL:h0.IsList l items) (hP:?Sw ?L2 (∃(p:?ny) (t:Addr) (key:Value),?w7/\x=?sw/\t≠d/\t≠it/\?Pp h0.IsTuple knd.is)) {R:Result->?fp} : ∀(n i:Nat) (s:Shared) (acc:?O ?ny),prs.length-i=n->i<=prs.length->?Ow (acc.length+n)->s.heap.DictOf knd d acc->s.heap.IsListIter it l i->Bq0 d it h0 ?aq → (∀h' tk,?Ah knd d (merged acc ?rw)->Bq0 d it h0 h'->R (.ok (.ret ?b6)) ?js) → codeAny ?aa A (?e4 ?tZ #[[?E d,?fd,rawInt i,?b6],[]]) R s:=by intro n;induction n with| zero =>ext LO;(let hx:?L2=none:=?hW);ext MN;apply qa7 (wpAny_pyNext_list_end hh hit hLs hx λh' he=>?_);exact ?NB (Builtin.Dict.addKeywords d []>>=_);apply qa7 (qc0 ?gK);(let e:?rw=[]:=?hW);let k':=k h' s.toks (by rw[e];show hd.extBut he ndi) λb o n1 n2 q=>he b o n2 (hb b o n1 n2 q);show k'| succ n ih =>ext LO;let hlt:i<items.size:=?g;let#[p,t,key,hp,ex,ntd,nti,hT,hkey]:=hP i ?FB ?rA;ext MN;apply qa7 (wpAny_pyNext_list_item hit hLs (x:=?FB) ?rA λh1 B72 hs1=>?_);rw[ex];let hT1:h1.IsTuple t #v[key,p.2]:=let ?EV:=hT;#[o,(hs1.2 t nti).trans (hb _ _ ntd nti ho),r];let hd1:?F5 knd d acc:=hd.sameBut hs1 ndi;have#[o,ho,hc,m,hdat]:=hT1;apply qa7 ?pA;apply ?RA wpAny_tryCatch;unfold Builtin.Dict.pairItems;apply ?Pa ?Id (show(?Sd ?AY ?sw "tuple") from#[o,ho,hc]);rw[?ng];apply qa7 (qo0 ho hdat ?gK);exact ?NB (holding [key,p.2] (dictSet d key p.2));apply qp3 (wpAny_dictSet_pairs (s:=?AY) hkey hd1 (λh2 hd2 hs2=>?_) ?g);apply ?PZ _;(let e2:?rw=p::?JL ?k:=by rw[List.drop_eq_getElem_cons ?g];congr 1;rw[qa0 ?g]at hp;show qb0 hp);let hl2:=stored_length_le acc p.1 p.2;apply ih ?k { s with heap:=h2,toks:=s.toks+1 } (?ri acc p.1 p.2) ?g ?g ?g hd2 ?_ (λb o' n1 n2 q=>?_) (λh' tk hd' hb'=>k h' tk (by rw[e2];show hd') hb');{apply ?e7;let#[oi,hoi,ri]:=B72;apply ?bT;show#[oi,(hs2.2 it (?oR ndi)).trans hoi,ri]};show(hs2.2 b n1).trans ((hs1.2 b n2).trans (hb b o' n1 n2 q))
universe e9
def vals_pair{x y:V}{us:?rr}(r:Vals [x,y] us):∃a b,us=?l7/\?b2 x a/\?b2 y b:=by cases r with| cons h1 r =>cases r with| cons h2 r =>cases r;show#[_,_,?j,?Z]
def kY[?b8]{H:Hp}{h:Heap}(hok:?xN):∀[?Me],?Fq->?Kl → ∃prs:?lb,KV kvs prs/\prs.length=ts.length/\∀(i:Nat) t,?sp->∃(p:?IP) (key:Value),?w7/\?Pp h.IsTuple ?pd| [],[],_,_=>#[[],?bA,?j,λi t e=>?CF]| [],_::_,hl,_=>?Ec| _::_,[],hl,_=>?Ec| t::ts,kv::kvs,hl,hk=>by ext gX;(let#[prs,?Z,h3]:=kY hok ts kvs (by simpa using hl) λi t e=>by let ?AX:=hk ?k t ?fX;show#[kv',?gz,e2]);let ?AX:=hk 0 t ?j;apply ?bT;(let e1':kv=kv':=?gz);subst e1';have#[_,its,rv,o,ho,hc,hdn,n,hd]:=hok t _ e2;have#[a,b,?j,ra,rb]:=vals_pair rv;apply#[(?bC,b)::prs,?bi #[?j,rb] h1,by simp[h2],λi t' e=>?_];cases i with| zero =>(let:t=t':=?fX);subst this;show#[(?bC,b),a,?j,#[o,ho,hc,n,hd],?lj ra]| succ i =>let#[p,key,q1,q2,q3]:=h3 i t' ?fX;show#[p,key,?AB,q2,q3]
inductive SA[?ug]:Prop| mk:∀(p:Addr) [?Me],?qh->(?SM H p (ts.map ?ly))->?Fq->?Kl->(∀D,?pH->Q ?kt (?SA D ?kk))->?wX
abbrev At2:?oH:=?Sx ?wX
def DR{X:Cx}(hc:?oL):F3 X ?hi At2:=by ext il;let#[l,ts,kvs,?j,hl,hlen,hk,q]:=h;ext uS;let hh:?Cj:=?e1;let#[hz,its,n,rv,ho]:=?bq l _ hl;rw[qa5]at hz;(let hil:its.length=ts.length:=by rw[←rv.length,qa5]);let#[prs,hkv,hpl,hP]:=kY ?bq ts kvs hlen hk;(let at_:?Sw ?Hv (∃t,?sp/\x=?sw):=λi x e=>by (let e':its[i]?=?fG:=?fX);let hlt:?v5:=?CU;(let hb:?Po ts ?HW:=?CX);let ?gh:=?Qe ?ly ?HW;rw[e']at hu;cases hu;cases ru;show#[_,hb,?j]);apply callType_codes (Q₁:=λobj s₁=>obj=?ds/\s₁=?wS) PySem.F.kt_called_dict (PySem.F.kt_typeCall_dict_1 _) PySem.F.entry_dict_init (kt_code_dict_new _ ?Kx) ?_;rintro obj s₁ ⟨rfl,rfl⟩;let hnew:(?kl).DictOf ?cG ?aR []:=?ym ?aq;apply#[?yz,PySem.F.args_dict_init_2 _ _,?_];unfold Builtin.«dict.__init__»;apply ?jL;unfold Builtin.Dict.selfAndRest;apply ?Pa qy3 ?yz;exact ?NB (pure (?aR,[?eQ l]));apply ?gK;exact ?NB (Builtin.Dict.updateFrom "dict.__init__" ?aR ?qc [] ?b6);unfold Builtin.Dict.updateFrom;let ho1:(?kl).get? l=?Pv ?mC n:=?Oa ho;apply ?Pa ?Id (show(?Sd ?wS ?qc ?rW) from#[_,ho1,?j]);rw[?ng];apply qa7 (cL ho1 hh λh1 tk hk1=>?_);rw[?u (show(none:?iS).isNone=true from rfl)];apply ?RA qz1;let hl1:h1.IsList l ?mC:=#[_,?xr,?j,n,?j];apply ?Pa qs3 hl1;apply ?PZ _;let lt0:?O9 l:=?L3;let nD:?QL ?En:=λb o e=>qe5 ?mY;let up:?QL (h1.get? b=?ab):=λb o e=>hk1 _ _ ?ls;let nI:?QL (b≠h1.objs.size):=λb o e=>?QN (up b o e);let#[oD,esD,epD,hoD,rD]:=id hnew;let Eb:?F5 ?cG ?aR []:=#[oD,esD,epD,?uy,rD];let ndi:s.heap.objs.size≠h1.objs.size:=?QN ?uy;apply UG (knd:=?cG) ?AQ (prs:=prs) (items:=its.toArray) (l:=l) (d:=s.heap.objs.size) (it:=h1.objs.size) (h0:=h1.push { cls:=?bN "list_iterator",data:=?Qz ?qc }) ?hW ndi (nD _ _ ho) (nI _ _ ho) #[_,?Oa ?xr,?j,n,?j] (λi x e=>?_) prs.length 0 _ [] ?g ?g ?_ (Eb.push _) ?jw (λb o _ _ e=>e) (λh' tk' hd' hb'=>?_);{let#[t,e1,?j]:=at_ i x e;let#[p,key,e2,#[o,ho',r'],e4]:=hP i t e1;show#[p,t,key,e2,?j,nD _ _ ho',nI _ _ ho',#[o,?Oa (up _ _ ho'),r'],e4]};{let e0:([]:?lb).length=0:=rfl;ext d};apply#[?j,?ds,?SA ?aR ?kk,?_,?j,q _ ?ll];(let hzz:?wp:=by let h1:=?Ad;rw[qn7]at h1;ext d);apply ?kv (a:=s.heap.objs.size) (o:=?kk) (t':=tk') (λb o e=>hb' b o (nD _ _ e) (nI _ _ e) (?Oa (up _ _ e))) ?l (DE hzz ?zM (hkv.merge ?bA) ?_);simpa using hd'
def Q5:∀(more kvs:?bj),((?B3).map (·.1)).Nodup->?ta=?B3| [],kvs,_=>by simp[Ir]| p::more,kvs,h=>by (let hnot:(kvs.any λkv=>?ai ?Ae)=false:=by rw[List.any_eq_false];intro kv hkv hd;(let e:?Ae:=by simpa using hd);rw[qb2,qr1]at h;show h.2.2 ?bC (qj5 hkv) p.1 ?aM e);(let e:?h0=?Fx:=by unfold Q1;rw[?p (by rw[hnot];decide)]);exact Ir ?h0 more=_;rw[e,Q5 more ?Fx (by simpa using h)];simp
universe L2
namespace L2
open PySem PySem.Spec PyProof.Rows PySem.SeqAt
def CG(a b:Addr)[?ua]:?Nf Builtin.«dict.__eq__» ?g8 :=
 ?GE λprog w A R s hs=>by
  let ?yU:=hs
  exact ?D ?aa A.in1 (do
   let ?A1 ←?zp ?to ?lW
   if ! ?vT then ?PY ?to;return ←ret .notImplemented
   ?OQ ?to true) _ _ s
  ext LI;let e:∀b:Bool,(b==true)=b:=?X
  rw[e];show qc0 ?oZ
def RcAt.dicts[?Lb] : RcAt A s ?aK ?cT ?g8:=λprog w E Q h =>?yR (op:=.Eq) ?qX ?o9 PySem.F.slot_dict_eq PySem.F.entry_dict_eq (PySem.F.args_dict_eq_2 _ _) (CG a b ms ns) (?Nr ?g8) hu
universe L2
namespace L2
open PySem PySem.Spec PyProof.Rows
section
variable[?cM][?bK]
def Bo.freeze[?aW][?it]:∃o,?NT ?jx s:=by let#[z,y,vs,r,o,es,ep,ho,c]:=id ?IM;apply#[o,?_];(let ne:?Ox ?bH (b≠a):=?wf);(let up:?Ox ?bH (upd H a ?iC b=?m u):=?FT);apply I.step (g':=s.gens) (t':=s.toks) (d':=s.drawn) (h':=s.heap) (H':=?jx) (ch:=[]) (λ_ q=>nomatch q) (λb ob _ _ _ q _=>q) (λb ob _ _ _ q _=>#[?A5,q]) (λb ob _ q n=>?Dm) (λb ob _ q=>#[ob,q]) (λb xs q=>?pu) (λb ob u q=>?pu) (λb ps q=>#[#v[],by rw[?pu];simp]) (λm q=>q) ?yv ?o4;cases hb:b=a;{subst hb;rw[Ab]at q;cases q;show#[ho,(?KP).stay ?nr ?rq ?rD]};rw[Aj hb]at q;ext LX
def Bo.thaw{o:Obj}[?aW][?Mp](hb:?z2):?NT (?SA a ?bH) s:=by (let ne:?Ox ?iC (b≠a):=?wf);(let up:?Ox ?iC (?Gp=?m u):=?FT);(let no:∀b,?SJ b->?Gp=none:=λb n=>?Dm);apply#[I.ok,I.os,?o4,#[I.base.keep,I.base.slot,λb ob q n x=>no b (I.base.free b ob q n x),I.base.there,λb xs q=>?RJ (I.base.tups b xs q),λb ob u q=>?_,λb ps q=>?_],I.loc,I.cell,no _ I.free,λx c q=>no _ (I.freeC x c q),?H9,?yv,I.len];{let hne:b≠a:=λz=>hb ob u (z▸q);rw[Aj hne];show ?IL b ob u q};{let#[m,q']:=I.base.tbls b ps q;show#[m,?RJ q']};{let#[p1,p2,p3]:=I.pin p hp;show#[p1,no _ p2,p3]};cases hba:b=a;{subst hba;rw[Ab]at q;cases q;let#[_,q']:=?KP;show q'.stay ?nr ?rq ?rD};rw[Aj hba]at q;ext LX
def Bo.notfrz[?aW][?it]:?z2:=λob u q=>by let:=?IL a ob u q;rw[e]at this;cases this
def Bo.nodupK[?aW][?n2]:(?dX (·.1)).Nodup:=by have#[?ui,_,_,_,_,_,hn]:=?cv;rw[rel.keys];show hn
universe e9
abbrev tFrz(t:TE):TE:=λσ H Q=>t σ H Q\/∃(a:Addr) (kvs:?bj),?gm/\((?dX (·.1)).Nodup->∀o:Obj,t σ ?jx (?Ri Q))
abbrev Bz9(t:TS):TS:=λD σ H=>t D σ H\/∃(a:Addr) (kvs:?bj),?gm/\((?dX (·.1)).Nodup->∀o:Obj,t #[?OA D.nx,?Ri D.rt,?OA D.bk,?OA D.ct] σ ?jx)
def NU{X:Cx}{e:Expr}{t:TE}(h:PE X e t):PE X e (tFrz t):=by intro Ae s σ H Q I hw;rcases hw with hw|⟨a,kvs,ea,hw⟩;{show ?Rl Q};ext MR;apply E6 ?wo λu s' #[v,H',I2,r,e2,q]=>#[v,_,?oW,r,q]
def Q3{X:Cx}{st:Stmt}{t:TS}(h:PS X st t):PS X st (Bz9 t):=by intro Ae s σ H D I hw;rcases hw with hw|⟨a,kvs,ea,hw⟩;{show ?Rl D};ext MR;apply E6 ?wo λf s' hq=>?_;cases f with| next=>ext uB| brk=>ext uB| cont=>ext uB| ret u=>let#[v,σ',H',I2,r,e2,q]:=hq;show#[v,σ',_,?oW,r,q]
def j3[?cM][?bK]{o:Obj}[?aW][?Mp] : ?gv a=?ab/\?ev/\?lw/\∃vs es ep,?ey/\?qB/\?Rd es.size/\o.ExactDict/\s.heap.DictAt ?cG a vs ep:=by have#[ho,z,y,vs,r,o',es,ep,ho',ex,hd,hk,hp,hn]:=?IM;rw[ho]at ho';cases ho';apply#[ho,y,z,vs,es,ep,r,hd,?_,ex,#[o,es,ho,ex,hd,hk,hp,hn]];rw[r.length,←hp.length];simp
def KV.getV:∀[?bK][?mw]{i:Nat}{k:Key}{v:V},?ey->?fM->∃u,?Po vs (k,u)/\?b2 v u| _,_,i,k,v,?bA,e=>?CF| _,_,0,k,v,?bi (b:=q) r t,e=>by simp only[qv4,Option.some.injEq]at e;subst e;let#[k',u]:=q;let e1:k=k':=r.1;subst e1;show#[u,?aM,r.2]| _,_,?k,k,v,?bi r t,e=>by let#[u,e1,e2]:=KV.getV (i:=i) t ?fX;show#[u,?gz,e2]
def xH[?b8]{k:Key}{u:Value}(h:?w3):?kS:=by rcases Ea h with⟨i,t,rfl,rfl⟩|⟨x,t,rfl,rfl⟩;{show ?gu};show ?gu
abbrev Itm(d:Addr)(o:Obj):It :=#[?IA,λi H x H'=>∃p k v,?cW/\x=?aF/\H'=?qt/\?zy,?FF]
def AJ[?em][?bs][?eu]{it d:Addr}{i n ep:Nat}{ok ov:Value}[?cw](hit:?RY ?aq n)(h:Q ?fd s):?N1 ?aa (pyIter ?fd):=by let hT:?o2 ?fd ?zU:=#[_,hit,?j];apply wpAny_pyIter_slot hT qx9 (qm7 qx9 hT (entryFor_alias (id':="dict_keyiterator.__iter__") ?jj ?j ?hT ?jj:?ut table "dict_itemiterator.__iter__"=?m Builtin.«dict_keyiterator.__iter__») ?_ (PySem.F.args_dict_itemiterator_iter_1 _));exact ?D _ _ (ret ?fd) _ _ s;show qc0 #[_,?j,?zU,_,hT,PySem.F.slot_dict_itemiterator_next.lookup,h]
def NB[?b8][?ae]{tes:?d9}{x1:Nat}{tpos:Pos}[?M0] :
 j9 P w K ?vk ?eK ?dO it (λi h=>∃ok ov,?RY h es.size) where
 mem:=?aM
 obj:=λi h st b hb=>by
  have ?x6:=st;ext uR
  subst z;show#[_,h1,λv q=>by cases (show ?Q5 v from q)]
 keep:=λi h h' st k=>by
  have ?x6:=st;show#[ok,ov,k it ?aM _ h1]
 item:=by
  ext dj;have ?qA:=st;have ?By:=hg;ext mf;have ?gh:=rel.getV hx;ext mj
  let fi:=?nU;let lti:?O9 it:=qc5 hit;let hfresh:?SJ ?aR:=?ll;rw[hn]at hit;apply wpAny_pyNext_items_item hit hm hu λkey h' hkey hout htup hsz' hk=>?_;apply#[_,?j,wpAny_letOwnedTupleGo_items hout λh3 hen Vp=>?_]
  replace Vp:?xV it h' h3:=Vp
  let kk:∀b ob,b ∉ ?dO->?Ht->h3.get? b=?lo:=λb ob n z=>by
   let n1:b≠it:=by simpa using n
   show ?Pc b n1 (hk b ob n1 z)
  let ht3:h3.get? ?aR=?m { cls:=?oy,data:=.seq #v[key,u] }:=?Pc _ (qn0 lti) htup;let ntr:∀c ob,H c=?lo->c ∉ ?dO:=λc ob e hm=>by rw[(hf c hm).1]at e;cases e
  let wM:∀b ob,H b=?lo->?En:=λb ob z=>Aq z hfresh;apply#[?ds,?Km,?_,?j,#[?aR,k,v,hfresh,?aQ,?Gc],#[_,_,by rw[hn];show hen],?he]
  . apply Bo.step (s:=s) (h':=h3) (t':=s.toks) (H':=?Km) I (g':=s.gens) (d':=s.drawn) (ch:=?dO) ?he (?R9 ?pU) (?R9 #[?A5,?pU]) (λb ob hb z n=>?_) (?TB #[ob,?pU])
     (λb ys z=>?IQ) (λb ob w' z=>?IQ) (λb ps z=>#[#v[],by rw[Aj (wM b _ z),z];simp]) ?s2 (λb w' z=>?_) ?o4
    . let f:=hf b hb;show#[f.2.2.2.1,f.2.1,f.2.2.2.2.1,f.2.2.2.2.2]
    . rw[Aj (?QN z)];show n
    . have#[ob,es',zJ,hob,r]:=hm;show#[ob,es',zJ,kk _ ob (λq=>(hf _ q).2.1 ?j) hob,r]
    . cases hb:b=s.heap.objs.size
      . subst hb;rw[Ab]at z;cases z;show#[(by exact ?Ow ((2:Nat));decide),[key,u],?bi ?HV (?bi ru ?bA),#[_,ht3,?aQ,_,?j]]
      . rw[Aj hb]at z;apply(?bq b w' z).stay (λc y hc' q=>?_) (λc q=>?x9) λc ys q=>?x9
        rcases hc' with rfl | hc'
        . show ?RB z
        . show ?RB hc'
  . ext uR
    subst z;rw[Aj (qe5 lti)];show(hf b hb).1
 done:=by
  ext dj;have ?qA:=st;have ?za:=hg;ext mf;ext mj
  let hl2:=rel.length;rw[hn]at hit;show wpAny_pyNext_items_end ?e1 hit hm ?hW ?yp
 self:=λ_ _ _ _ _ st h=>by
  have ?qA:=st;show AJ hit h
inductive SE[?n7](x:V)(H1:Hp):Prop| mk:?PW ?eK ?vu
abbrev Az5(td:TE):TI:=λσ H R=>?Ns ?vu
def Nd{X:Cx}{tes:?d9}{x1:Nat}{tpos apos cpos:Pos}{e:Expr}{td:TE}(he:?zT) (hbase:?dI (?yk e "items" ?an ?ob=?ob) ?eM) (hline:?dI ?JN ?eM):PI X ?vk (?ie (?pG e "items" apos) [] [] ?eE) (Az5 td):=by ext mx;apply wpAny_Call_method0_late hbase hline ?xR;ext LS;apply#[?hp,"dict.items",qv1,?xu,PySem.F.type_dict_items,#[o,ho,exd.1],λb e=>by cases e;show#[o,ho,exd.2.1],qs2 ?j (PySem.evalArgs_none ?_)];apply ?gg ?xu hm.dictOf.typeIs PySem.F.entry_dict_items (PySem.F.args_dict_items_1 _) (meets_dict_items ?cG d hsys) #[#[vs,hm.dictOf],?_];let I2:?NT H1 ?vx:=?F3;let hm2:=hm.push ?pt;apply wpAny_pyIter_items (s:=?vx) (v:=s1.heap.objs.size) (d:=d) ?jw hm2 ?_;let hsz2:?Fl=?zk:=qj2 ..;apply#[_,[_],_,?eK,H1,?j,?QR ?wY,NB d _ o hd,#[?b6,?b6,?_],?he,q];{rw[hsz,rel.length];show ?gl};(let z:b=?Fl:=?dT);subst z;ext MT
abbrev Itk(d:Addr)(o:Obj):It :=#[?IA,λi H x H'=>H'=H/\∃k v,x=?dE/\?zy,?FF]
def SK[?b8][?ae]{tg:Expr}[?M0] :
 ?QO ?gQ (h.IsKeyIter it d i es.size ep) where
 mem:=?aM
 obj:=λi h st b hb=>by
  have ?Ez:=st;ext uR
  subst z;show#[oi,h1,λv q=>by rw[d1]at q;cases q]
 keep:=λi h h' st k=>st.at λob z=>k it ?aM ob z
 item:=by
  ext dj;have ?By:=hg;ext mf;have ?gh:=rel.getV hx;ext mj
  rw[hn]at st;apply wpAny_pyNext_dict_item st hm hu λkey h' hkey TV hs'=>?_;apply#[_,?j,?_];have ?Ez:=id TV;apply lY h1 c1 d1 ?X #[?dE,H,?_,?HV,#[?j,k,v,?j,?Gc],by rw[hn];show TV,?Hg];show ?O1 ?dO (?TB ((hs'.2 b ?dT).trans z))
 done:=by
  ext dj;have ?za:=hg;ext mf;ext mj
  let hl2:=rel.length;rw[hn]at st;show wpAny_pyNext_dict_end ?e1 st hm ?hW ?yp
 self:=?P3 wpAny_pyIter_keyiter st
inductive YX[?n7](x:V)(H1:Hp):Prop| mk:?PW ?gQ ?DU
abbrev Bi2(td:TE):TI:=λσ H R=>?Ns ?DU
def Yg{X:Cx}{tg e:Expr}{td:TE}(he:?zT):PI X tg e (Bi2 td):=by ext mx;apply ?xR;ext LS;apply wpAny_pyIter_dict hsys hm ?_;apply#[_,[_],_,?gQ,H1,?j,?F3,SK d _ o hd,?_,?he,q];{rw[hsz,rel.length];show ?jw};(let z:b=s1.heap.objs.size:=?dT);subst z;show I1.fpOk ?l (I1.hok.fresh ?l)
section
variable{g:TG}{tc:TT}[?uH]
def Xj{d:Addr}{o:Obj}[?bK](Pv:?If)(h0:?zc)(hl:∀i zs τ H,?kp->?fN->?ho) (hs:∀i k v zs τ H p,?Rr ?fN τ ?BK) (hd:?PV ?gy):?PR ?eK tc:=by apply#[λi m zs τ H=>?Qf ?fN,?GZ,?_];rintro i m zs τ H ⟨rfl,hi,pp⟩;let q:=hl i zs τ H hi pp;cases hlt:?Av;{apply ?S #[?qJ,?f4,λys' τ' H' p'=>?sP,?r6];apply ?e7;let ?EQ:=y;apply ?bT;show hs i k v zs τ _ p ?sI pp hp};let e:?Ei:=?g;subst e;show ?T #[?wQ,hd zs τ H pp]
def U1{d:Addr}{o:Obj}[?bK][?LY] (hs:∀i k v σ H p,?Rr ?fD σ ?pi) [?MZ] : ∃W:?on,?Rv ?eK ?eK ?eK:=by ext LL;{apply ?PB ?S;let ?EQ:=y;show hs i k v σ _ p ?sI pp hp};ext Lo
def Tx{d:Addr}{o:Obj}[?bK][?LY] (hs:∀i k v σ H,?fM->?fD->g ?dE σ H ?pi) [?MZ] : ∃W:?on,?Rv ?gQ ?gQ ?gQ:=by ext LL;{apply ?PB ?S;let#[?j,k,v,?j,y]:=y;show hs i k v σ _ ?sI pp};ext Lo
universe e9
universe L2
namespace L2
open PySem PySem.Spec PyProof.Rows PySem.SeqAt
def xK[?b8][?iv][?mw](hp:Pairs ?dd es vs):∀[?bv],(∀e∈es,∃k,?pd k e.key=true/\e.hash=(?dd).hash k)->KV ?fi vs->?iX:=by
 induction hp with
 | nil =>
   intro ms _ r;cases ms with
   | nil=>show ?bA
   | cons p ms=>cases r
 | @cons e kv es kvs h1 h2 _ ih =>
   intro ms hk r;cases ms with
   | nil=>cases r
   | cons p ms =>
     cases r with
     | cons r0 r1 =>
       let#[k,v]:=kv;let#[e1,t',e2]:=r0;let e1':?kY=k:=e1;subst e1';let#[t,ek]:=(show ∃t,e.key=?Hd p.1 t from xH h1)
       let#[k',hk1,hk2]:=hk e ?CY
       let ek':k'=?kY:=by
        rw[ek]at hk1;rcases Ea hk1 with⟨i,t2,z1,z2⟩|⟨x,t2,z1,z2⟩
        . cases z2;show z1
        . cases z2
       subst ek';let ?Ey:=p;show ?bi ek hk2 (h2.trans e2) (ih (λe' he=>hk e' (qb3 _ he)) r1)
def Ng[?bv]:((?fi).map (·.1)).Nodup↔(?g4 (·.1)).Nodup:=by unfold cK List.Nodup;rw[qk2,qu8,qu8];constructor;{intro h;show ?Qg (by simp[z])};intro h;show ?Qg ?Gd
section
variable[?cM][?bv]
def Bo.nodupC[?aW](e:?lc):(?g4 (·.1)).Nodup:=Ng.mp (?wI e)
def Bo.idict[?aW](e:?lc):?fo:=by have#[?ui,ho,ex,hda,hk,hp,hn]:=?cv;show#[#[o,es,ep,ho,ex,hda,xK hp (λe he=>hk e (by simpa using he)) rel],hd,I.nodupC e]
universe e9
abbrev sameC[?ua]:Bool:=?g8
inductive Ap7(x:V)(y:V)(H:Hp)(Q:VK):Prop| mk:?OR ?LF ?C0
abbrev B10:R2:=λx y H Q=>?C0
section
variable{X:Cx}{n:Nat}[?ae]
def Au5(hu:?L5):Xv X (?zf .Eq) B10:=?Nn RcAt.dicts ?LF
inductive MR[?ug]:Prop| mk:?Rg [?aK,.ty ?hp] (Q ?oQ H) ?LH
abbrev ZV:?oH:=?Sx ?LH
def mJ:F3 X (?e4 "isinstance") ZV:=by ext il;have ?zr:=h;have#[u,v,?j,rx,rt]:=BD r;cases rt;cases rx;have#[?ui,ho,ex,_]:=?cv;show PySem.IsiPair.dict_dict ho ex.1 #[?oQ,H,I,?j,q]
universe e9
universe L2
namespace L2
open PySem PySem.Spec PyProof.Rows
inductive sD[?ug]:Prop| mk:?Rg [?aK] (∀p,?cW->Q ?aF ?Dk) ?DO
abbrev vU:?oH:=?Sx ?DO
def Fn{X:Cx}:F3 X ?hi vU:=by ext il;let ?zr:=h;let#[u,?j,rx]:=Xy r;cases rx;show YE I e λp s' hp I'=>#[?aF,_,I',?j,q p hp]
def u1{n c:Nat}(h:n+8<c):?n<c:=?g
abbrev Am[?bI](k:Int):Int:=(?dD).getD 0
abbrev putI[?bI](k v:Int):?ch:=if ?Br=true then ?g4 ?yi else ms++[?di]
abbrev Kd[?bI](k:Int):?ch:=ms.filter λp=>?ai (p.1≠k)
def A46[?bI](k v:Int):Q1 ?fi ?fg (?bg v)=cK ?IU:=by unfold Q1 putI cK;(let e:((?g4 λp=>?D5).any λkv=>?ai (?bC=?fg))=?Br:=by rw[List.any_map];congr 1;funext p;simp);rw[e];split;{rw[qk2,qk2];congr 1;funext p;simp only[Function.comp];cases q:?aU;{simp[q]};let q':¬?xn=?fg:=λz=>q ?Gd;simp[q]};simp
def Af6[?bI](k:Int):DC ?fi ?fg=cK ?wF:=by unfold DC Kd cK;rw[List.filter_map];congr 1;congr 1;funext p;simp
def pB[?bI](k:Int):Sc ?fi ?fg=(?dD).map ?bg:=by unfold lookI cK Sc;rw[List.find?_map,Option.map_map,Option.map_map];(let e:((λp:?qK=>?ai (p.1=?fg)) ∘ λp:?le=>?D5)=λp:?le=>?ai ?aU:=by funext p;simp);rw[e];rfl
def U7[?bI](k:Int):((?dD).map ?bg).getD (?bg 0)=?bg (Am ms k):=by unfold Am;cases ?dD<;>rfl
def En(p:?le)[?bI](k:Int):?cI (p::ms) k=if ?aU then ?qZ else ?dD:=by unfold lookI;cases q:?aU;{rw[?QF ?eO,?fI];rfl};rw[?QG ?eO,?eW]
def fZ[?bI](k v j:Int):?cI ?IU j=if j=k then ?c6 else ?Cl:=by (let hs:∀[?uk],?cI (ns.map ?yi) j=if j=k then(?nT).map (λ_=>v) else ?nT:=by intro ns;induction ns with| nil=>simp[lookI]| cons p ns ih =>rw[qc8,En,En,ih];cases e1:?aU;{cases e2:j=k;{simp[e1,e2]};let e3:¬k=j:=?HT;simp[e1,e2,e3]};cases e2:j=k;{simp[e1,e2]};simp[e1,e2]);(let hn:∀[?uk],(ns.any ?eR)=(?xl).isSome:=by intro ns;induction ns with| nil=>rfl| cons p ns ih =>rw[qo3,En,ih];cases e1:?aU<;>simp[e1]);(let ha:∀[?uk],?cI (ns++[?di]) j=(?nT).or (if k=j then ?c6 else none):=by intro ns;induction ns with| nil=>simp[En,lookI]| cons p ns ih =>rw[List.cons_append,En,En,ih];cases e1:p.1=j<;>simp[e1]);unfold putI;rw[hn];cases q:?dD with| some z =>simp only[Option.isSome_some,if_true];rw[hs];cases e:j=k;{subst e;simp[q]};simp[e]| none =>simp only[Option.isSome_none,qu1,if_false];rw[ha];cases e:j=k;{subst e;simp[q]};let e':¬k=j:=?jT;simp[e,e']
def OL[?bI](k j:Int):?cI ?wF j=if j=k then none else ?Cl:=by unfold Kd;induction ms with| nil=>simp[lookI]| cons p ms ih =>rw[qn3,En];cases e1:?aU;{rw[?p ?gz,ih];cases e2:j=k;{simp[e2]};let e3:¬p.1=j:=λz=>e2 (by rw[←z,e1]);simp[e2,e3]};rw[?u ?gz,En,ih];cases e2:j=k;{subst e2;simp[e1]};simp[e2]
section
variable[?b8][?ae]{mg:Str->?iS}{base:Heap}
universe e9
section
variable{X:Cx}{x:Str}{ps:?pP}{j k:Nat}{sp:Sp}{p pos:Pos}{e:Expr}{es:?d9}{t:TA}
universe e9
abbrev upN(n:Nat):?gM:=(?kI n).map λ ?fU=>?qE
def pS(n:Nat):(upN n).length=n:=by simp[upN]
abbrev Itd(hi:Int)(n:Nat):It:=#[λi _=>?y,λi H x H'=>H'=H/\x=?oo,λi _=>n<=i]
def S0(a b:Int):?AM a b ?W=if b<a then a-b else 0:=by unfold Builtin.Range.rangeSize;rw[?kH];split;{exact(a-b-1) / 1+1=a-b;rw[Int.ediv_one];ext d};rfl
def nJ{a b:Int}(ha:-?mK<=a)(ha':a<?mK)(hb:-?mK<=b)(hb':b<?mK):Builtin.Range.small a b ?W=true:=by unfold Builtin.Range.small;rw[S0];simp only[Builtin.Range.rangeFitsLong,qb7,qt4,qq9,qz2];let b1:?Jo<=b:=?o6 ?X hb;let b2:?R7 b:=?oU hb' ?X;let a1:?Jo<=a:=?o6 ?X ha;let a2:?R7 a:=?oU ha' ?X;split<;>simp;{show#[#[?Ch,?o6 ?X (Int.sub_le_sub ha (Int.le_of_lt hb')),?oU (Int.sub_lt_sub_of_lt_of_le ha' hb) ?X],?S ?rG]};show ?Ch
def SN[?b8][?ae]{tg:Expr}(it:Addr)(hi:Int)(n:Nat):?QO ?kN (?yo h it (hi+?fU*?W) (?rN-?fU) ?W) where
 mem:=?aM
 obj:=λi h st b hb=>by
  let e:b=it:=?dT
  subst e
  show#[_,st,λv z=>by
   let z':?Q5 v:=z;cases z']
 keep:=λi h h' st k=>k it ?aM _ st
 item:=by
  ext dj;have ?KM:=?nU;let W:=Walks.range (prog:=X.prog) (w:=X.w) ?e1 it hi ?W n;apply W.item i s _ _ hg st λv h' tk hv st' kk=>?_;let ?gu:=hv;let I1:?uq:=?zt (λb o hb e=>kk b o ?dT e) f0 f1 f3 f4 f5;apply#[_,?j,lY (s:=?js) (n:="range_iterator") st' ?j ?j ?X #[?oo,H,I1,#[t,?_],?Kx,st',?Hg]];rw[?Mv (hi+?qE*?W=hi-i)]
 done:=by
  ext dj;have ?KM:=?nU;show wpAny_pyNext_range_end ?e1 st (by let:n<=i:=hg;ext d) λh' eb=>#[?j,?zt (t':=s.toks) (λb o hb e=>eb b o hb e) f0 f1 f3 f4 f5]
 self:=?P3 wpAny_pyIter_rangeiter st
inductive YY[?n7](vs:?cs)(H1:Hp):Prop| mk:∀(n:Nat),(vs=[?B ?dM,?B ?W,?B ?W])->(n<=1000000)->(R (Itd ?dM n) H1)->?De
abbrev Bi4(ta:TA):TI:=?PX ?De
def Aa3{X:Cx}{tg:Expr}{a b c:Expr}{ta:TA}{p pos:Pos}(hg:Gl X ?iB)(hm:X.mg ?iB=none)(ha:PA X ?p8 ta)(hs:?O7 ?p8 [?Hh,?kg,?KK])(hs2:?O7 [b,c] [?kg,?KK]) : PI X tg (?RF ?iB ?p8) (Bi4 ta):=by ext mx;apply ?QH boot_range;let#[n,e,hn,q]:=q1;subst e;cases r1 with| cons r rr =>cases rr with| cons r' rr =>cases rr with| cons r'' rr =>cases rr;let ?gu:=r;let#[t',?j]:=r';let#[t'',?j]:=r'';apply call_range_3 ?X ?_ (Or.inl (PyProof.noPylong_small ?g));apply wpAny_pyIter_range (IsRange.new ..) (?TN nJ ?g ?g) ?_;let I2:?NT H1 ({ s1 with heap:=?Rx t,toks:=s1.toks }):=?nn ?L8;apply#[?BA,[_],_,_,H1,?j,?QR ?L8,SN _ ?dM n,?_,?he,q];{(let e1:?AU=?dM:=?aM);(let e2:?H3=?AM ?dM ?W ?W:=by rw[S0];ext ad);exact ?yo _ _ ?AU ?H3 ?W;rw[e1,e2];show ?gl};(let e:b=?BA:=?dT);subst e;ext MT
def xU{hi:Int}{n:Nat}{g:TG}{tb:TS}{D:Ends}{σ:St}{H:Hp}(Pv:?t8)(h0:?DC) (hs:∀i σ H,?y->?fD->g ?oo σ H ?pi) (hd:?Qb n) : ∃W:?on,?Rv ?kN ?kN ?kN:=by apply#[λi m σ H=>m=n-i/\i<=n/\?fD,#[n,?aM,?J,h0],?_];rintro i m σ H ⟨hm,hi',hp⟩;cases hlt:?y;{apply ?S #[hlt,?f4,λσ' H' h=>#[n-?k,?g,?j,?g,h],?_];rintro x H' ⟨rfl,rfl⟩;show hs i σ _ hlt hp};apply ?T #[by exact n<=i;ext d,hd σ H (by let:i=n:=?g;subst this;show hp)]
universe L2
namespace Lat
open Hb
meta abbrev Mat:=?bW
def sumN_all0[?a4]{n:Nat}(h:?Nw n (f k=0)):?dK=0:=by rw[Af h,Um]
def sumN_one[?a4]:∀{n j:Nat},?L->(?Nw n (k≠j->f k=0))->?dK=?a7| ?n,j,hj,h=>by exact ?dK+f n=?a7;cases e:j=n;{subst e;rw[?NX (h k ?g ?g)];ext d};rw[?aA (n:=n) (j:=j) ?g ?dh,h n ?g ?jT];ext d
abbrev In(w n:Nat)(R:Mat)(v:?t):Prop:=∃x:?t,?NR w (v c=?Sp ?np)
def In.row{w n:Nat}{R:Mat}{j:Nat}(hj:?L):?P5 R ?ka:=#[λk=>?tk,λc _=>by rw[El (λk=>?dy) j n,?la]]
def In.zero(w n:Nat)(R:Mat):?P5 R ?cF:=#[?cF,λc _=>by rw[sumN_all0];intro k _;simp]
def In.mix[?MW](hv:?s5)(a b:Int):?P5 R ?ha:=by let ?aG:=hu;let ?fq:=hv;apply#[λk=>a*x k+b*y k,?ce];exact ?oJ=_;rw[?cr,?QZ hy,←Bc,←Bc,←C3];apply ?tT;rw[qp8,qe2,qe2]
def In.congr[?MW](h:?Ek):?s5:=by let ?aG:=hu;show#[x,?Ny (by rw[←?ku];show ?cr)]
structure Ek(w r:Nat)(R:Mat)[?G]:Prop where
 lt:?ke
 inc:?Ol r
 zero:∀j c,j<r->?qn
 pos:?NF r ?gi
 red:?QK r ?rd
def Ek.mono[?iy][?q][?j0]:∀j k,j<=k->k<r->?x<=?a3:=λj k h1 h2=>by rcases qi0 j k with z | z;{show qe6 (?cL j k z h2)};rw[show j=k by ext d];show ?l
def Ek.ge[?iy][?q][?j0]:?NF r (j<=?x)| 0,_=>?J| ?F,hj=>by let:=?SI h.ge;let:=?cL j ?F ?g hj;ext d
def Ek.lead[?iy][?q][?j0]{v x:?t}(hx:?NR w (v c=?J3)) : ∀j,j<=r->?IW->(?Nw j (x k=0))/\(j<r->?i9=x j*?al):=by intro j;induction j with| zero =>intro _ _;apply#[?ty,?vQ];rw[?RN 0 hr,?CI];rw[?Px 0];simp| succ j ih =>intro hj hv;let ?eP:=ih ?g λk hk=>hv k ?g;(let hxj:x j=0:=by let e:=h2 ?g;rw[?SI hv]at e;rcases ?m2 ?qV with z | z;{show z};let:=?iV;ext d);(let hall:?Nw ?F (x k=0):=?Pz (by cases e:k=j;{rw[e];show hxj};show h1 k ?g));apply#[hall,?vQ];rw[?RN _ hr,?CI];cases e:k<?F;{rw[hall k e];simp};rw[?Px ?F];simp
def Ek.only[?iy][?q][?j0][?cx](hv:?JU){j:Nat}(hj:j<r)[?MU](h2:∀k,j<k->k<r->?g9=0):?NR w (v c=?bp):=by let ?aG:=hv;let ?po:=h.lead hx j ?g h0;(let xj:x j=1:=by let e:=a2 hj;rw[h1]at e;let p:=?jg;(let:(x j-1)*?al=0:=by rw[Int.sub_mul];ext d);rcases ?m2 ?N with z | z<;>ext d);(let rest:∀m,m<=r->∀k,j<k->?HQ:=by intro m;induction m with| zero=>intro _ k _ hk;(ext d)| succ m ih =>intro hm k hjk hk;cases e:k<m;{show ih ?g k hjk e};let ek:k=m:=?g;subst ek;let hv2:=h2 k hjk ?g;(let e2:?g9=R j ?a3+?ih:=by rw[?RN k ?g];(let:?SE (x i*?tz) r=?SE ((?k3*?tz)+(?NN i k ?ih)) r:=by ext iu;cases e1:i=j;{subst e1;rw[xj,?w,?r];simp};rw[?bB];cases e3:i=k;{subst e3;rw[?w];simp};rw[?sG];cases e4:i<j;{rw[a1 i e4];simp};cases e5:i<k;{rw[ih ?g i ?g e5];simp};rw[?Rs ?ay ?cL];simp);rw[this,C3,El (λi=>?tz) j r,?la,?Q4 ?ih k r,?P]);rw[hv2]at e2;let ?FN:=?fZ j k hjk ?g;let p:=?aS k ?g;rcases ?KG (x k) 0 with z | z | z;{let:?ih<=-1*?cX:=?kD;ext d};{show z};let:1*?cX<=?ih:=?kD;ext d);intro c hc;rw[?cr,?aA hj ?qp,xj,qd8];cases e:k<j;{rw[a1 k e];simp};rw[rest r ?l k ?g hk];simp
structure Fk[?aJ](T T':Mat):Prop where
 fwd:?TA T T'
 bwd:?TA T' T
 st:∃r t,?as/\?hA/\?hY
def In.sub{w n r:Nat}{R:Mat}[?cx](h:?s5)(hr:?as)(hz:?Il):?JU:=by let ?aG:=h;apply#[x,?ce];rw[?cr];(let:?Qc r (?ef->?i ?np m=?J3):=by intro m;induction m with| zero=>intro h1 _;rw[?GL]| succ m ih =>intro h1 h2;cases e:r=?V;{rw[e]};exact ?lK+x m*R m c=_;rw[?qS,hz m c ?g ?g hc];simp);show ?N n hr ?l
abbrev Qm(n w k:Nat)(T:Mat):Prop:=k<=n/\k<=w/\(?NF k (0<?h6))/\(∀j c,j<k->c<w->c≠j->?eU=0)/\(?RG k)
def Qm.flip{n w k:Nat}{T:Mat}(h:?gx):Qm w n k ?Ks:=#[h.2.1,h.1,h.2.2.1,λj c hj hc hne=>h.2.2.2.2 c j hc hj hne,?Ph (h.2.2.2.1 j i hj hi hne)]
abbrev rV(n w k:Nat)(T:Mat):Prop:=?gx/\k<n/\k<w/\0<?af/\?NR w (c≠k->?bh=0)
def Fk.keep[?bL][?uc]:∀{k:Nat},?gx->?Rn k T'/\(∀j c,j<k->c<w->T' j c=?eU)/\?T8 (k<=r/\?NF k (?x=j)):=by intro k;induction k with| zero =>intro h;show#[?wD,?mb,λr t _ _ _=>#[?J,?gR]]| succ k ih =>intro h;let#[hn,hw,hp,hr,hc]:=h;let#[c1,c2,c3]:=ih #[?g,?g,?NJ ?pX,?Rj hr,?Se (?Tg hc j ?g)];(let key:?T8 (k<r/\?mX/\(?NR w (?tC=?bh))):=by intro r t OP hst hz;let ?ry:=?I9;let hin:=(s.bwd k ?g).sub OP hz;let ?aG:=?tL;(let v0:?Gi:=λl hl=>by rw[ht l hl];show hc k l ?g ?g ?g);let#[x0,_]:=?qF;let hpk:=?DA;(let hlt:k<r:=by ext eo;(let:?jI:=by rw[?xv];ext uC);ext d);(let htk:?mX:=by let g:=?Do;apply ?Q0 g;(let:?jI:=by rw[?xv];ext LW);ext d);let#[_,a2]:=?qF;ext Lx;let ?fq:=s.fwd k ?g;(let e2:?c4=y k*?af:=by rw[hy k ?g];show ?aA ?g λl hl hne=>by rw[hc l k hl ?g hne];simp);(let same:?af=?c4:=by ext MQ;let d2:?af∣ ?c4:=#[y k,by rw[e2,qf7]];show Int.le_antisymm ?J4 (qo4 hpk d1));apply#[hlt,htk,λc hcw=>?_];show(?Dw hin hlt v0 (by rw[htk];show same) (λl hl1 hl2=>hr k ?K ?g ?Ci ?Fj) c hcw).symm);let ?tS:=s.st;let ?Iw:=?Cx;apply#[#[hn,hw,?aY,?zX,?GR],λj c hj hcw=>?_,λr t OP hst hz=>?_];{cases e:j=k;{subst e;rw[?SI k3];show ?pX};show c1.2.2.1 j ?g};{cases e:j=k;{subst e;rw[?Hu];show ?Pq hr};show ?Pq ?zV};{cases e:j=k;{subst e;cases e2:i<j;{show ?zV i j e2 ?g ?g};cases e3:i<r;{show ?eS i j e3 (by let:=?u1 j i ?g e3;ext d)};show hz i j ?g hi ?g};show c1.2.2.2.2 i j hi ?g hne};{cases e:j=k;{subst e;show ?Hu};show ?PP c2 hcw};let#[a,b,_]:=?Cx;let#[_,ht]:=?I9;apply#[a,?aY];cases e:j=k;{rw[e];show b};show ?IB
abbrev l8[?aJ](T Qh:Mat):Prop:=∃T',?qI/\Fk w n (?Pr T') (?Pr Qh)
abbrev Straight[?aJ](T:Mat):Prop:=?RG w
def l8.next{n w k:Nat}[?ub](h:?gx):?yT/\(?Kv n w Qh\/?AO):=by have ?p5:=s;have ?tq:=s1.keep h;have ?Dd:=?DQ;let hc:?yT:=g1.flip;apply#[hc,?_];have ?tS:=s1.st;have ?wr:=s2.st;have ?ry:=?vl;have ?Cv:=?Hr;cases e:k<r;{right;let p:=?m1 k e;let tw:=?fR k e;let tk:k<=?a3:=?ge k e;let hin:=(?jh ?a3 tw).sub hqw xM;apply ?e7;let ?aG:=?tL;(let v0:∀l,l<k->?P9 ?kb:=?Nl ?a3 ?a3 tw);let#[x0,_]:=eU.lead hx k kq v0;apply ?bT;let hkn:k<n:=?g;(let kq2:k<q:=by ext eo;(let:T' k ?a3=0:=by exact ?P9 k;rw[?vh];ext uC);ext d);(let huk:u k=k:=by apply ?xt;(let:T' k ?a3=0:=by exact ?P9 k;rw[?vh];apply ?rK;cases e2:l<k;{rw[x0 l e2];simp};exact x l*?oI=0;ext Lm);ext d);let p2:=?wE;rw[huk]at p2;apply#[hc,hkn,?g,p2,?Dx];rcases qi0 c k with z | z;{show hc.2.2.2.2 k c hkn z ?g};cases e3:c<q;{show ?Si e3 e3};show xM c k ?g hcw hkn};left;let T'0:∀i c,k<=i->?DH:=λi c hi hin hcw=>hz i c ?g hin hcw;intro i j hi hj hne;ext uY;{show hc.2.2.2.1 i j z hj (λw=>hne w.symm)};let ?fq:=?ST s2.fwd;let:Qh i j=?i (λl=>y l*T' i l) w:=hy i hi;rw[this];show ?a2 λl hl=>by rw[T'0 i l z hi hl];simp
private def l8.less{n w k:Nat}[?ub](h:?J6):?Rn ?H Qh\/(?AO/\?iO∣ ?af/\?iO<?af):=by ext gX;let#[hcl,hn,hw,hp,hr]:=h;let s0:=s;let ?p5:=s;let ?tq:=s1.keep hcl;let ?tS:=s1.st;let ?ry:=?vl;let hin:=(s1.bwd k hn).sub OP hz;let ?aG:=?tL;apply ?bT;(let v0:?Gi:=λl hl=>by rw[ht l hl];show ?PU hr l);let#[x0,a2]:=?qF;(let hlt:k<r:=by ext eo;(let:?jI:=by rw[hx k hw];ext uC);ext d);(let htk:?mX:=by apply ?Q0 ?Do;(let:?jI:=by rw[hx k hw];ext LW);ext d);ext Lx;ext MQ;let le1:=qo4 hp d1;(let below:∀i,?y->i≠k->T' i k=0:=λi hi hne=>by ext uY;{show ?lQ i k z hw ?g};cases e3:i<r;{show ?eS i k e3 (?O2 ?u1 i e3)};show hz i k ?g hi hw);cases same:?c4=?af;{left;let row:?NR w (?bh=?tC):=?Dw hin hlt v0 (by rw[htk];show same.symm) (λl hl1 hl2=>hr ?K ?Ci ?Fj);(let cl':?Rn ?H T':=by apply#[?g,?g,?aY,?zX,?GR];{cases e:j=k;{subst e;show pk};show h1.2.2.1 j ?g};{cases e:j=k;{subst e;rw[←row c hcw];show hr c hcw hne};show ?Pq ?lQ};cases e:j=k;{subst e;show below i hi hne};show h1.2.2.2.2 i j hi ?g hne);show(s2.keep cl'.flip).1.flip};right;let lt1:?c4<?af:=?g;ext gX;let#[hc2,q2]:=s0.next hcl;let ?Dd:=?DQ;let ?wr:=s2.st;let ?Cv:=?Hr;let B73:=(?jh k hw).sub hqw xM;let ?fq:=id B73;(let w0:∀l,l<k->(λj=>T' j k) ?kb=0:=?Nl k k hw);let#[y0,b2]:=eU.lead hy k kq w0;apply ?bT;let hyk:?c4=?i (λl=>y l*?oI) q:=hy k hn;(let kq2:k<q:=by ext eo;(let:?c4=0:=by rw[hyk];show ?PO y0);ext d);(let huk:u k=k:=by apply ?xt;(let:?c4=0:=by rw[hyk];apply ?rK;cases e2:l<k;{rw[y0 l e2];simp};ext Lm);ext d);let e3:T' (u k) k=y k*?Bn:=b2 kq2;rw[huk]at e3;let p2:0<?Bn:=?wE;rw[huk]at p2;let d2:?iO∣ ?c4:=#[y k,by rw[e3,qf7]];let le2:=?J4;apply#[#[hc2,hn,hw,p2,?Dx],qy8 d2 d1,?g];rcases qi0 c k with z | z;{show hc2.2.2.2.2 k c hn z ?g};cases e4:c<q;{show ?Si e4 e4};show xM c k ?g hcw hn
abbrev Xu(i:Nat):Int:=if i%2=0 then 1 else -1
def bQ(i:Nat):Xu ?k=- Xu i:=by unfold Xu;cases h:i%2=0;{rw[?r,?u h]};rw[?P,?p h];rfl
def aR(i:Nat):(Xu i).natAbs=1:=by unfold Xu;split<;>rfl
abbrev Ic(A:Mat)(i:Nat):Mat:=λr c=>?qx
abbrev det:Nat->Mat->Int| 0,_=>1| ?n,A=>?hq
def Ej:∀{n:Nat}{A B:Mat},?TL (?ez=B r c) (?bm=?Ta B)| 0,_,_,_=>rfl| ?n,A,B,h=>by ext iu;rw[?BP,Ej (n:=n) (A:=?gq) (B:=Ic B i)];intro r c hr hc;show ?wR
abbrev Ca(A:Mat)[?um]:Mat:=λr c=>if r=p then u c else ?ez
def Bq(A:Mat)[?um](c:Nat):Ca A p u p c=u c:=?w
def By{A:Mat}{p r:Nat}[?j7](h:?eX)(c:Nat):Ca A p u r c=?ez:=?p h
def Yo{A:Mat}{p i:Nat}[?j7](h:i≠p):Ic ?iG i=Ca ?gq ?fa ?EA:=by funext r c;exact(if ?lN=p then ?lU else ?qx)=if ?tH then ?lU else ?qx;(let e:(?lN=p)↔ ?tH:=by split<;>split<;>ext d);cases z:?tH;{rw[?aD,?u (e.mpr z)]};rw[?bM,?p λw=>z (e.mp w)]
def Kz{A:Mat}{p:Nat}[?j7]:Ic ?iG p=?v8:=by funext r c;exact(if ?CN=p then ?lU else ?rF)=?rF;rw[?p ?bZ]
def Gg:∀{n p:Nat} (A:Mat) [?j1] (a b:Int),p<n->?N8 A p ?ha=a*?Ta ?iG+b*?Ta ?tU| ?n,p,A,u,v,a,b,hp=>by exact ?kF=a*?kF+b*?kF;ext is;ext iu;cases e:i=p;{subst e;rw[Bq,Bq,Bq,Kz,Kz,Kz];grind};rw[?du,?du,?du,Yo e,Yo e,Yo e];rw[Gg ?gq ?EA (λc=>v ?a9) a b ?bZ];grind
private def Jk(A:Mat)(p:Nat):?zs=A:=by funext r c;unfold Ca;split;{rename_i h;rw[h]};rfl
def Cz{A:Mat}{p q:Nat}(h:?eJ)[?j1]:?Fs=Ca ?In p u:=by funext r c;unfold Ca;cases e:r=q;{rw[?cD,?r,?cD]};rw[?cC,?cC]
def jN:∀[?n8],?S8 ?ag (A ?ag c)| ?n,p,A,hp,h=>by exact ?hq=0;(let same:?GT=?BZ:=Ej (?Mz (by exact ?rF=?S9 A ?ag ?a9;cases e:r=p;{subst e;rw[?r,?P];show(?m5).symm};cases e2:r<p;{rw[?iD,?P]};rw[?dQ,?r])));(let two:?hq=?SE ((?NN i p ?Ic)+(?NN i ?ag ?AK)) ?n:=by ext iu;cases e1:i=p;{subst e1;rw[?w,?r];simp};cases e2:i=?ag;{subst e2;rw[?r,?w];simp};rw[?bB,?dQ];(let z:?FC=0:=by apply jN (p:=?fa) ?bZ ?ce;exact A (if ?fa<i then ?fa else ?lI) ?a9=A (if ?lI<i then ?lI else ?lI+1) ?a9;cases e3:p<i;{rw[?oz,?oz,?P];show ?m5};rw[?sG,?r,?r,?Mv (p-1+1=p)];show ?m5);rw[z];simp);rw[two,C3,?Q4 ?Ic p ?n,?P,?Q4 ?AK ?ag ?n,?P];rw[bQ,←same,←h 0 ?g];grind
def GS[?n8](hp:?ag<n)[?j1]:?N8 ?iG ?ag v=- ?N8 ?tU ?ag u:=by let ne:p≠?ag:=?g;(let z:?TX ?ag:=λw=>jN hp ?wj);let e0:=?Rk c;rw[?OW ?HL hp,?ax,?ax,?OW (Ca A ?ag u) ?g,?OW (Ca A ?ag v) ?g]at e0;ext M6
def jL:∀(d:Nat) [?n8],?S8 ?h8 (A ?h8 c)| 0,n,p,A,hp,h=>jN hp h| ?a6,n,p,A,hp,h=>by (let e:A=Ca (Ca A ?h8 (A ?h8)) ?FZ (A ?FZ):=?xw);rw[e,GS ?g];rw[jL d (p:=p) ?g ?ce];{rfl};rw[?fO,?fO,?fO,Bq];show ?ku
def Hl[?cy]{A:Mat}[?d0](hq:q<n)(hne:?eJ)(h:?NR n (?bf=A q c)):?lM:=by rcases qi0 p q with z | z;{show jL ?Bj (p:=p) ?g (by rw[?Mv (p+?Bj+1=q)];show h)};show jL ?Ai (p:=q) ?g (by rw[?Mv (q+?Ai+1=p)];show ?Ny ((?ku).symm))
def Ae9[?cy](A:Mat)[?d0](hq:q<n)(hne:?eJ)(k:Int):?N8 A p ?yr=?bm:=by let:=Gg A ?bF ?cq 1 k hp;rw[Jk,Hl (A:=?Eb) hp hq hne λc _=>by rw[Bq,By ?CM]]at this;rw[←show(λc=>1*?bf+k*A q c)=?yr from ?OM ?L9,this];ext d
def MB[?cy]{A:Mat}[?b7][?j1]:?Ta ?Fs=- ?N8 ?tU q u:=by
 ext Lc
 let e0:=?Rk c;rw[?OW ?HL hq,?ax,?ax,?OW (Ca A q u) hp,?OW ?In hp]at e0;ext M6
def Ae8{n p:Nat}(A:Mat)[?d0]:?N8 A p ?Bv=- ?bm:=by let:=?RQ ?W;rw[Jk]at this;rw[show ?Bv=λc=>-1*?bf+0*?bf from ?OM ?g,this];ext d
def uH[?cy](A:Mat)[?b7][?dn](h:?eN=1) : ?Ta (Ca (?Sg (λk=>a*A p k+b*A q k)) q λk=>c*A p k+d*A q k)=?bm:=by (ext Lc);(let e:?N8 ?zs q ?cq=?bm:=?xw);let e2:=MB (A:=A) hp hq ne ?bF ?cq;rw[Gg _ ?bF ?cq c d hq,?ax,?ax,?Pb ?bF,?Pb ?cq];rw[←?ax,←?ax,←?ax,←?ax,z ?bF,z ?cq];rw[e]at e2 ⊢;let e3:?N8 ?Eb q ?bF=- ?bm:=?g;rw[e3];grind
abbrev prodN[?aO]:?t| 0=>1| ?n=>?kA
def v5[?aO]:∀n,?se=f 0*?Iy| 0=>by simp[prodN]| ?n=>by exact ?se*f ?n=f 0*(?Iy*f ?n);rw[v5 f n,qe2]
def AX:∀{n:Nat}{A:Mat},(?Nh n (c<r->?ez=0))->?bm=?QT A n| 0,_,_=>rfl| ?n,A,h=>by exact ?hq=_;rw[?aA (j:=0) ?g λk hk hne=>by rw[h k 0 hk ?g];simp,v5];rw[AX (n:=n) (A:=?AN) (?Mz (by exact ?S9 A 0 ?a9=0;ext cN;show ?TN h _ _))];exact 1*A 0 0*?v (λj=>A (if j<0 then j else ?F) ?F) n=_;rw[qd8];rfl
abbrev jK:?C| 0=>1| ?n=>?yu
def Sf[?a4]{M:Nat}:∀{n:Nat},(?Nw n (?rs<=M))->?Jj<=n*M| 0,_=>by simp[sumN]| ?n,h=>by let a:=Sf (n:=n) ?dh;let b:=?l9;let c:=?Hz;exact(?dK+f n).natAbs<=?n*M;rw[qg5,qg4];ext d
def YA:∀{n:Nat}{A:Mat}{B:Nat},?TL (?JA<=B) (?FK<=?JT)| 0,_,_,_=>by simp[det,jK]| ?n,A,B,h=>by exact ?N0 ?kF (?yu*B ^ ?n);(let:?Js<=?n*(B*?JT):=by apply Sf ?ia;rw[qb5,qb5,aR,qg4];show qg1 ?BP (YA (?Mz ?wR)));apply ?s ?N ?rm;rw[qh4];grind
structure Kt(i:Nat)(R:Mat)[?G]:Prop where
 inc:?Ol i
 zero:?y9
 pos:?zA
def Ek.s0[?iy][?q][?j0]:Kt r R t:=#[?cL,?ay,?aS]
def Kt.low[?j2][?q][?et]{j l:Nat}(hj:j<i)(hl:l<j):?hk=0:=?ay j _ hj (?cL l j hl hj)
private def Y3:∀[?n8],?S8 p 0:=λ{n p A} hp h=>by let:=?RQ 0;rw[show(λc=>0*?bf+0*?bf)=?Fd from ?OM ?g]at this;rw[show ?bm=?N8 A p ?cF from Ej (?Mz (by unfold Ca;split;{rename_i e;rw[e];show ?ku};rfl)),this];ext d
def Dv[?a4]:∀{n:Nat},?nc->0<?dw| 0,_=>?Jb| ?n,h=>?jS (Dv ?dh) ?l9
abbrev pb(R:Mat)[?G](k:Nat):?t| 0=>1| ?V=>?jW
abbrev V3(R:Mat)[?G](k:Nat):Nat->?t| 0=>R k| ?V=>λc=>?ew*?Ni m c+?mJ*R ?cK c
section
variable[?j2][?q][?et]
include h
def wC{k:Nat}:?S3 (0<?i2)| 0,_=>?Jb| ?V,hm=>?jS (?aS _ ?g) (wC ?g)
def jP{k l:Nat}(hl:l<k):?S3 (?tj=0)| 0,hm=>?dH hm hl| ?V,hm=>by ext Le;rw[jP hl ?g,?Gr];simp
def mH{k:Nat}:?S3 (?xf=?i2*?cX)| 0,_=>by exact ?cX=1*?cX;(ext d)| ?V,hm=>by exact ?ew*?xf+?mJ*R ?cK ?a3=?jW*?cX;rw[mH ?g,?dH (j:=?cK) (l:=k) ?g ?g,qe2];simp
def JO{k:Nat}:∀{m l:Nat},?g7->k<l->l<=k+m->?tj=0| 0,l,_,h1,h2=>?g| ?V,l,hm,h1,h2=>by ext Le;cases e:l=?cK;{subst e;rw[qf7,ql8];ext d};rw[JO ?g h1 ?g,?Gr];simp
def YJ{W:Nat}{k:Nat}:?S3 (In W i R (V3 R t k m))| 0,hm=>?a5 hm| ?V,hm=>(YJ ?g).mix ?BI _ _
def RK{k:Nat}[?gd]:?S3 (?TU ?xC=?i2*?o i ?e9)| 0,hm=>by exact ?TU ((?e9) k)=1*_;rw[Jk];(ext d)| ?V,hm=>by exact ?TU (λc=>?ew*?va+?mJ*?J0)=_;rw[Gg ?e9 ?xC ?wb _ _ ?g,RK s ?g];rw[Hl (p:=k) (q:=?cK) (A:=Ca ?e9 k ?wb) ?g ?g ?g λc _=>by rw[Bq,?fO]];exact _=?jW*_;rw[qe2];ext d
universe e9
def skip_prod[?a4]{k:Nat}:∀(n:Nat),k<=n->?v (λl=>f ?sA) n=?eL*?xh| 0,h=>by let:k=0:=?g;subst this;simp[prodN]| ?n,h=>by cases e:k=?n;{subst e;rw[?Mv (?n-?n=0)];exact ?v _ ?n=?se*1;(let:∀m,m<=?n->?v (λl=>f (if l<?n then l else l+1)) m=?bl:=by intro m;induction m with| zero=>intro _;rfl| succ m ih =>intro hm;exact ?sf*f (if m<?n then m else ?V)=?bl*f m;rw[?aL,?P]);rw[?N _ ?l];ext d};exact ?v _ n*f (if n<k then n else ?n)=_;rw[?zG n ?g,?r,?Mv (?n-k=?dv+1)];exact _=?eL*(?xh*f ?AD);rw[?Mv (?AD=?n),qe2]
def IP(R:Mat)[?G](k:Nat):∀m,?i2=?v (λl=>R ?tn (t ?tn)) m| 0=>rfl| ?V=>by exact ?jW=?sf*?ew;rw[IP R t k m,qf7]
abbrev FP[?G](k c:Nat):?C| 0=>c| l+1=>?mN
def A44[?j2][?q][?et]{k c:Nat}(hk:k<i){D:Nat}(hD:?N5 ?o ?lY D):(?Ni ?s8 c).natAbs<=D:=by
 let hm:k+?s8<i:=?g
 let e1:=RK h (k:=k) (FP t k c) hm
 let hu0:∀l,l<i->l≠k->?Ni ?s8 ?K=0:=λl hl hne=>by
  rcases qi0 l k with z | z
  . show jP h z hm
  . show ?TN JO h hm
 obtain⟨n,rfl⟩:∃n,i=?n:=?Dg
 let e2:?TZ (Ca ?lY k λl=>?Ni ?hD ?He)=Xu k*?Ni ?hD c*?v (λl=>R ?sA ?mN) n:=by
  exact ?Na (Xu j*Ca _ k _ j 0*?Ta (Ic (Ca _ k _) j)) ?n=_;rw[?aA (j:=k) hk ?ni]
  . rw[Bq,Kz]
    congr 1
    apply AX λr l hr hl=>?_;exact ?S9 R k ?mN=0;apply ?dH ?bZ ?_;split<;>split<;>ext d
  . rw[Yo hne,Y3 (p:=if k<j then k else ?i8) ?bZ ?ky]
    . simp
    . rw[Bq];exact ?Ni ?hD ?mN=0;show hu0 _ ?bZ ?bZ
 rw[e1]at e2;rw[?zG (f:=?dB) n ?g,←IP,?vP]at e2;rw[?vP];let pp:=wC h (k:=k) (m:=?dv) ?g;let qp:0<?AH:=?TH ?iV;let e3:=?id ?q4 e2;rw[qb5,qb5,qb5,qb5,aR,qg4]at e3;let p1:0<?ec:=?g
 let q1:1<=?ET:=?g
 let:?ec*?rJ<=?ec*D:=by
  calc ?ec*?rJ<=?rJ*(?ET*?ec):=by
        rw[?CH ?ec];show ?TE (qn5 _ q1)
   _=?ec*(?TZ ?lY).natAbs:=e3.symm
   _<=_:=?TE hD
 show qu2 ?N p1
def GJ[?j2][?q][?et]:?o i ?ei=?gt:=AX (?Mz (?dH hr hc))
def bW[?a4]:∀{n j:Nat},?nc->?L->?a7<=?dw| ?n,j,h,hj=>by let p:=Dv (n:=n) ?dh;let q:=?l9;exact ?a7<=?kA;cases e:j=n;{subst e;let:1*?a7<=?v f j*?a7:=?kD;ext d};let ih:=bW (n:=n) (j:=j) ?dh ?g;let:?dw*1<=?kA:=?Gy;ext d
def Ae3[?j2][?q][?et]{D:Nat}(hD:?N5 ?o ?ei D){j:Nat}(hj:j<i):?al<=D:=by rw[GJ h]at hD;let a:=bW (f:=?dB) ?wa hj;let b:=Dv (f:=?dB) (n:=i) ?wa;ext d
def Kt.none{W i:Nat}{R:Mat}[?q][?et](ht:?kB)[?cx](hv:?zj)(h0:?NF i (?i9=0)):?NR W (v c=0):=by let ?aG:=hv;(let x0:∀m,m<=i->?NF m (x j=0):=by intro m;induction m with| zero=>intro _ j hj;(ext d)| succ m ih =>intro hm j hj;cases e:j<m;{show ih ?g j e};let ej:j=m:=?g;subst ej;let e1:=hx ?x ?IB;rw[?SI h0,?aA (j:=j) ?g ?qp]at e1;{rcases ?m2 e1.symm with z | z;{show z};let:=?iV;ext d};cases e2:k<j;{rw[ih ?g k e2];simp};rw[?dH hk ?g];simp);intro c hc;rw[?cr];show ?NX (by rw[x0 i ?l k hk];simp)
def In.sum{W i:Nat}{R:Mat}{a:?t}{U:Mat}:∀{m:Nat},(?NF m (?Sa (U j)))->?Sa (λc=>?sN)| 0,_=>?oV W i R| ?V,h=>by let:=(?sh (a:=a) (U:=U) (m:=m) λj hj=>?SI h).mix (h m ?g) 1 (a m);show this.congr λc _=>?Sf (1*?sN+?iZ) ?sN ?iZ
def W1[?aO]:∀(n k:Nat),k<n->?dw=?eL*?H0| ?n,k,h=>by cases e:k=n;{subst e;rw[?Mv (?H-1-k=0)];exact ?eL*f k=?eL*(1*f k);rw[qd8]};exact ?kA=_;rw[W1 f n k ?g,?Mv (?hD=?mT+1)];exact _=?eL*(?v _ ?mT*f ?JF*f k);rw[?Mv (?JF=n)];grind
def Bg8[?a4]:∀{n k:Nat},(∀l,l<n->0<f l)->k<n->?eL*f k<=?dw:=λ{n k} h hk=>by rw[W1 f n k hk];let a:=Dv (n:=k) (?RI h);let b:0<?AI:=Dv λl hl=>?m5;let c:=h k hk;let d:1*f k<=?H0:=?kD;rw[qd8]at d;show qn4 d ?g
def zR{W i:Nat}{R:Mat}[?q][?et](ht:?kB)[?cx](hv:?zj){κ D c:Nat}(hc:c<W)(hκ:?NF i (?EI<=κ*?c3))
 (hD:∀k,k<i->?N5 ?o ?lY D):?Bm<=i*?tQ:=by
 let hp:∀l,l<i->0<(?dB) l:=λl hl=>?aS l hl;let EP:=Dv (n:=i) hp
 let key:?gt*v c=?no:=by
  let hin:?Sa (λc=>?HO) :=
   hv.mix (?sh (a:=λj=>?rT) (U:=λj=>V3 R t j ?oN) λj hj=>YJ h ?g) _ _
  let:=h.none ht hin ?s2 c hc
  . exact _=_;let t:?HO=0:=this;ext d
  . exact ?gt*v ?hw+?W*?Na (?rT*?FS) i=0;rw[?aA (j:=m) hm ?ni]
    . rw[mH h ?g,IP,W1 ?dB i m hm]
      grind
    . let:?FS=0:=by
       rcases qi0 m j with z | z
       . show jP h z ?g
       . show ?TN JO h ?g
      ext cQ
 let e:=?id ?q4 key;rw[qb5]at e
 let le:?N0 ?no (i*(?nN*?tQ)):=by
  apply Sf ?aY;rw[qb5,qb5];let a1:=?ST hκ;let a2:=A44 h hj (?ST hD);let a3:=Bg8 hp hj;let a4:=Dv (n:=j) (?RI hp);let a5:=?ST hp
  let a6:?lB*?c3<=?nN:=by
   rw[←qb5];let:0<?r5*?al:=?jS a4 a5;ext d
  calc ?EI*?lB*(?us).natAbs
   ≤ κ*?c3*?lB*D:=qg1 (?Q1 a1) a2
   _=?lB*?c3*?tQ:=?U
   _<=_:=?Q1 a6
 rw[←e]at le;let E1:0<?nN:=?g
 apply qu2 (?s le ?rm) E1
 grind
def In.trans{W n m:Nat}{R R':Mat}[?cx](hv:?zI)(h:?Qd m):In W m R' v:=by let ?aG:=hv;show(?sh (a:=x) (U:=R) h).congr λc hc=>(?cr).symm
abbrev vB(W n:Nat)(R R':Mat):Prop:=(∀j,?L->In W n R (R' j))/\(?Qd n)
def vB.refl(W n:Nat)(R:Mat):?Oo R:=#[?G9,?G9]
def vB.trans{W n:Nat}{R S T:Mat}(h1:?Oo S)(h2:vB W n S T):?Oo T:=#[?NJ ((h2.1 j hj).trans h1.1),?NJ ((h1.2 j hj).trans h2.2)]
abbrev Gw(n:Nat)(R R':Mat):Prop:=∀s:?C,(?o n (?P0 R')).natAbs=(?Ta ?ex).natAbs
def Gw.refl(n:Nat)(R:Mat):?Pu R:=λ_=>rfl
def Gw.trans{n:Nat}{R S T:Mat}(h1:?Pu S)(h2:Gw n S T):?Pu T:=λs=>(h2 s).trans (h1 s)
def Pr(R:Mat)[?um][?gd]:(λr l=>Ca R p u r ?b4)=Ca ?ex p (λl=>u ?b4):=by funext r l;unfold Ca;split<;>rfl
abbrev addR[?eq](k:Int):Mat:=Ca R p ?Bi
def C0[?eq](k:Int)(c:Nat):?I R p q k p c=?Bs:=Bq ..
def D6[?n6]{k:Int}(h:?eX)(c:Nat):?I R p q k r c=?bR:=By h c
def Ag3[?cy](R:Mat)[?b7](k:Int):?Pu ?dG:=λs=>by unfold addR;rw[Pr];let:=Ae9 ?ex hp hq ne k;rw[show(λl=>1*R p ?b4+?vR)=λl=>R p ?b4+?vR from ?aj λl=>?L9,this]
def Ag2{W n p q:Nat}(R:Mat)[?b7](k:Int):?Oo ?dG:=by ext mo;{cases e:j=p;{subst e;show(?u0 ?yY 1 k).congr λc _=>(C0 R j q k c).symm};show ?gn λc _=>(?pZ).symm};cases e:j=p;{subst e;apply((?Nj ?DB).mix (?a5 (R:=?DB) hq) 1 (-k)).congr ?C7;rw[C0,D6 ?ca];exact 1*(1*?bp+k*R q c)+-k*R q c=?bp;rw[ql8];ext d};show ?TT ?dG ?pZ
abbrev Iq(R:Mat)(p:Nat):Mat:=Ca R p λc=>- ?c8
def Ac5{n p:Nat}(R:Mat)[?d0]:?Pu ?eC:=λs=>by unfold Iq;rw[Pr,Ae8 ?ex hp,qb9]
def Ac4{W n p:Nat}(R:Mat)[?d0]:?Oo ?eC:=by ext mo;{cases e:j=p;{subst e;show(?u0 ?hC ?W 0).congr ?Ie};show ?gn λc _=>(By e c).symm};cases e:j=p;{subst e;show((?A6).mix ?A6 ?W 0).congr ?Ie};show ?TT ?eC (By e c)
abbrev blendR[?eq][?dn]:Mat:=Ca (Ca R p ?Hx) q ?v4
def Io{R:Mat}{p q:Nat}(ne:?eJ)[?dn](k:Nat):?Oe p=?Aw:=by unfold blendR;rw[By ne,Bq]
def K4[?eq][?dn](k:Nat):?Oe q=?Hm:=by unfold blendR;rw[Bq]
def Fa[?n6](h1:?eX)(h2:r≠q)[?dn](k:Nat):?Oe r=R r k:=by unfold blendR;rw[By h2,By h1]
def UP[?cy](R:Mat)[?b7][?mt]:?Pu ?f0:=λs=>by unfold blendR;rw[Pr,Pr];rw[uH ?ex hp hq ne a b c d h]
def uP{W n p q:Nat}(R:Mat)[?b7][?mt]:?Oo ?f0:=by ext mo;{cases e:j=p;{subst e;show(?u0 ?yY a b).congr λk _=>(?FQ).symm};cases e2:j=q;{subst e2;show((?a5 hp).mix ?hC c d).congr λk _=>(?Ro j).symm};show ?gn λk _=>(?Bk).symm};cases e:j=p;{subst e;apply((?Nj ?Fz).mix (?a5 (R:=?Fz) hq) d (-b)).congr ?nR;rw[?cA,K4];(let:R j k=?eN*R j k:=?mZ);grind};cases e2:j=q;{subst e2;apply((?a5 (R:=?Aj) hp).mix (?Nj ?Aj) (-c) a).congr ?nR;rw[?cA,K4];(let:R j k=?eN*R j k:=?mZ);grind};show(?Nj ?f0).congr λk _=>?Bk
abbrev moveR(R:Mat)(i s:Nat):Mat:=λr c=>if r<s then ?bR else if r=s then ?cu else if ?aw then R ?cb c else ?bR
def LO{n:Nat}:∀(d:Nat) (R:Mat) {i s:Nat},?y->i=s+d->?Pu ?c9| 0,R,i,s,hi,e=>by (let:?c9=R:=by funext r c;ext c0;ext LT);rw[this];show Gw.refl n R| ?a6,R,i,s,hi,e=>by obtain⟨j,rfl⟩:∃j,i=?F:=?Dg;(let h1:?Pu ?sz:=λt=>by rw[Pr,Pr,GS ?g,qb9];rw[show Ca (Ca ?ei j ?wd) ?F (λl=>R ?F ?K)=?ei from by let:=Jk ?ei j;rw[show ?wd=(?ei) j from rfl,this];show Jk ?ei ?F]);let h2:=LO (n:=n) d ?sz (i:=j) (s:=s) ?g ?g;(let e3:?aI ?sz j s=?aI R ?F s:=by funext r c;ext c0;cases e1:r<s;{rw[?i0,?i0,?fO,?fO]};rw[?bB,?bB];cases e2:r=s;{rw[?iD,?iD,?SC j ?F,Bq]};rw[?dQ,?dQ];cases e4:?aH;{rw[?u e4,?u (?Mv (r<=?F)),?SC ?cb ?F,?SC ?cb j]};rw[?qz];cases e5:r=?F;{subst e5;rw[Bq,?P];rfl};rw[?SQ (r<=?F),By e5,?SC r j]);rw[e3]at h2;show ?pV h2
def wV{W n:Nat}(R:Mat){i s:Nat}[?ep]:?Oo ?c9:=by ext mo;{cases e1:j<s;{show ?gn ?B1};cases e2:j=s;{show(?a5 hi).congr λc _=>by ext c0;rw[?bB,?iD]};cases e3:?bQ;{show(?a5 (R:=R) (j:=?dV) ?g).congr (?Ps ?oz)};show ?gn (?Ps ?sG)};cases e1:j<s;{show ?HI ?B1};cases e2:j=i;{show(?a5 (R:=?c9) (j:=s) ?g).congr λc _=>by ext c0;rw[?r,?w,e2]};cases e3:j<i;{show(?a5 (R:=?c9) (j:=?F) ?g).congr λc _=>by ext c0;rw[?r,?r,?P];rfl};show ?HI λc _=>by ext c0;ext u7
def Uo{f g:?t}[?cy][?b7](h:?Nw n (k≠p->k≠q->f k=g k))(e:f p+f q=g p+g q):?dK=?Sp g:=by (let z:?w6=?of+?sL:=by (let e1:?w6=?N2 (?T6 p ?of+?T6 q ?sL) n:=by apply ?rP;cases e1:k=p;{subst e1;rw[?w,?eY];ext d};rw[?bB];cases e2:k=q;{subst e2;rw[?w];ext d};rw[?dQ,h k hk e1 e2];ext d);rw[e1,C3,?Q4 ?of p n,?u hp,?Q4 ?sL q n,?u hq]);rw[C3,Bc]at z;ext d
abbrev pT(n:Nat)(B R:Mat)(a b:Nat):Int:=?Ej
def nW[?cy](B R:Mat)[?b7](k:Int)(a b:Nat):?PL ?tc ?dG:=by apply ?Pj (by rw[D6 h2,D6 h1]);rw[D6 (r:=p) (p:=q) ne,C0 R p q k,C0 B q p (-k),D6 ?ca];grind
def Au1{n p:Nat}(B R:Mat)(a b:Nat):?PL ?rB ?eC:=by apply ?tT;cases e:k=p;{subst e;unfold Iq;rw[Bq,Bq,qs9]};unfold Iq;rw[?du,?du]
def KY[?cy](B R:Mat)[?b7][?mt](x y:Nat):pT n ?tG ?f0 x y=pT n B R x y:=by
 apply ?Pj (by rw[?xk,?xk]);rw[?cA,?cA,K4,K4];let e1:?Ip=?eN*?Ip:=?mZ
 let e2:?Bo=?eN*?Bo:=?mZ
 grind
def FF[?aO]:∀(d:Nat) {n i s:Nat},?y->i=s+d->?Sp (λr=>if r<s then f r else if r=s then ?R else if ?aw then f ?cb else f r)=?dK| 0,n,i,s,hi,e=>Af λr _=>by ext LT| ?a6,n,i,s,hi,e=>by rw[←FF f d (n:=n) (i:=i) (s:=s+1) hi ?g];apply Uo (p:=s) (q:=s+1) ?g ?g ?g (λr _ h1 h2=>?_) ?_;{cases e1:r<s;{rw[?i0,?P]};rw[?bB,?cJ,?SQ (r<s+1),?cV]};rw[?r,?w,?r,?r,?P,?P,?r,?w];exact ?R+f (s+1-1)=f s+?R;rw[?Mv (s+1-1=s)];ext d
def Aa9{n:Nat}(B R:Mat){i s:Nat}[?ep](a b:Nat):?PL ?s4 ?c9:=by exact ?N2 (?aI B i s k a*?aI R i s k b) n=?Ej;rw[←FF ?LE (i-s) (n:=n) (i:=i) (s:=s) hi ?g];apply Af λr _=>?_;ext c0;split;{rfl};split;{rfl};split<;>rfl
abbrev pD[?aJ][?aP][?cz]:Int:=?Sp (λc=>?sW*B j c)
abbrev G0[?aJ][?aP]:Prop:=?R8 ?AW
abbrev dot[?aJ][?j1]:Int:=?Sp (λc=>u ?co*v c)
def E9[?aJ](u v x:?t)(a b:Int):?Pi ?ha x=?T1 v x:=?Op (by rw[qp8,qe2,qe2])
def Ie[?aJ](u x y:?t)(a b:Int):?Pi u (λc=>a*x c+b*y c)=?T1 u y:=?Op ?U
def bY[?aJ][?aP][?cz]:?AW=?Bd:=rfl
def Qf[?eq](k:Int):?I R p q k p=?Bi:=?OM (C0 ..)
def addR_row_ne[?n6]{k:Int}(h:?eX):?I R p q k r=R r:=?OM (D6 h c)
def blend_row_p{R:Mat}{p q:Nat}(ne:?eJ)[?dn]:?P8 p=?Hx:=?aj λk=>?FQ
def blend_row_q[?eq][?dn]:?P8 q=?v4:=?aj λk=>?Ro q
def blend_row_ne[?n6](h1:?eX)(h2:r≠q)[?dn]:?P8 r=R r:=?aj λk=>Fa h1 h2 a b c d k
def G0.add{n w p q:Nat}[?ir][?b7](k:Int):?OT ?dG ?tc:=λi j hi hj=>by ext u6;rw[bY];cases e1:i=p;{subst e1;rw[Qf];cases e2:j=q;{subst e2;rw[Qf,Ie,E9,E9,?bD,?Dt,?tY,?Cu];rw[?eY,?w,?w,?p ?ca];ext d};rw[?eH e2,E9,?bD,?B4,?S6 q j ?ki];ext d};rw[?eH e1];cases e2:j=q;{subst e2;rw[Qf,Ie,?bD,?zQ,?yI];ext d};rw[?eH e2];show ?bD
def G0.neg{n w p:Nat}[?ir][?d0]:?OT ?eC ?rB:=λi j hi hj=>by ext u6;(let s1:∀(R:Mat),Iq R p p=λc=>-1*?c8+0*?c8:=λR=>?OM ?Ay);let s2:∀(R:Mat) {r:Nat},?eX->Iq R p r=R r:=λR r hr=>?OM (By hr c);rw[bY];cases e1:i=p;{subst e1;cases e2:j=i;{subst e2;rw[s1,s1,Ie,E9,?oq];rw[?w];ext d};rw[s1,s2 B e2,E9,?bD,?ki];ext d};cases e2:j=p;{subst e2;rw[s1,s2 R e1,Ie,?bD,?bB];ext d};rw[s2 R e1,s2 B e2];show ?bD
def G0.blend{n w p q:Nat}[?ir][?b7]{a b c d:Int}(h1:?eN=1):?OT ?f0 ?tG:=λi j hi hj=>by ext u6;let ne':q≠p:=?ca;rw[bY];cases e1:i=p;{subst e1;rw[?gs];cases e2:j=i;{subst e2;rw[?gs,Ie,E9,E9,?oq,D q j hq hi,D j q hi hq,D q q hq hq];(ext mh);grind};cases e3:j=q;{subst e3;rw[blend_row_q,Ie,E9,E9,?tY,D j i hq hi,?Tg D j hq,D j j hq hq];(ext mh);grind};rw[?q5,E9,?bD,?B4,?SZ ?ki,show ?N3 q j 0 from ?SD e3];ext d};cases e4:i=q;{subst e4;rw[blend_row_q];cases e2:j=p;{subst e2;rw[?gs,Ie,E9,E9,?Dt,?bD,?Cu,?tY];(ext mh);grind};cases e3:j=i;{subst e3;rw[blend_row_q,Ie,E9,E9,D p p hp hp,D j p hi hp,D p j hp hi,?oq];(ext mh);grind};rw[?q5,E9,D p j hp hj,?bD,?S6 p j ?ki,show ?lS from ?SD e3];ext d};rw[?pn e1 e4];cases e2:j=p;{subst e2;rw[?gs,Ie,?bD,?Tg D q hq,?SZ ?bB,?S6 i q ?qz];ext d};cases e3:j=q;{subst e3;rw[blend_row_q,Ie,?zQ,?bD,?yI,?SZ ?qz];ext d};rw[?q5];show ?bD
abbrev mvI(i s r:Nat):Nat:=if r<s then r else if r=s then i else if ?aw then ?cb else r
def move_row(R:Mat)(i s r:Nat):?aI R i s r=R ?cU:=by funext c;unfold moveR mvI;split;{rfl};split;{rfl};split<;>rfl
def lN{i s:Nat}(hs:s<=i)(r:Nat):(if ?cU<s then ?cU else if ?cU=i then s else if ?cU<i then ?cU+1 else ?cU)=r:=by unfold mvI;cases a1:r<s;{rw[?f7,?f7]};rw[?fH];cases a2:r=s;{rw[?mH,?p (Nat.not_lt.mpr hs),?w];show a2.symm};rw[?m7];cases a3:?aw;{rw[?u a3,?r,?r,?P];ext d};rw[?p a3,?fH,?r,?r]
def G0.move{n w i s:Nat}[?ir][?ep]:?OT ?c9 ?s4:=λx y hx hy=>by rw[bY,move_row,move_row];(let l:∀r,r<n->?cU<n:=λr hr=>?pD);let:=h _ _ (l x hx) (l y hy);rw[bY]at this;rw[this];let inj:(mvI i s x=mvI i s y)↔x=y:=#[λe=>by rw[←lN hs x,e,lN hs y],?id _];cases e:x=y;{rw[?cD,?u (inj.mpr e)]};rw[?cC,?p λz=>e (inj.mp z)]
structure Good(n W w lo:Nat)(R B R' B':Mat):Prop where
 eqv:?Qc lo (vB W m R R')
 det:?Qc lo (Gw m R R')
 pt:∀a b,?PL B' R'
 dual:?FO->?OT R' B'
 rest:∀r c,lo<=r->?Bt
 restB:∀r c,lo<=r->B' r c=B r c
def Good.refl(n W w lo:Nat)[?aP]:?NH R B:=#[λm _=>vB.refl W m R,λm _=>Gw.refl m R,?d6,id,?fV,?fV]
def Good.trans[?nE]{R B R' B' S C:Mat}(h1:?ph)(h2:?ar n W w lo R' B' S C):?NH S C :=#[?P1 (?TM h1.eqv h2.eqv),?P1 (?TM h1.det h2.det),λa b=>(h2.pt a b).trans (h1.pt a b),λd=>h2.dual (h1.dual d),?Nc (?Sr h2.rest h1.rest),?Nc (?Sr h2.restB h1.restB)]
def Good.mono{n W w lo lo':Nat}[?n9](h:?ph)(hl:lo<=lo'):?T2 lo':=#[?P1 (h.eqv m ?g),?P1 (h.det m ?g),h.pt,h.dual,?Nc (?T7 h.rest),?Nc (?T7 h.restB)]
def Good.add{n W w lo p q:Nat}[?aP][?Mc](k:Int):?NH ?dG ?tc :=#[?Nt Ag2 k,?Nt Ag3 k,λa b=>nW B R ?g ?g ne k a b,λd=>d.add ?g ?g ne k,?xq,?xq]
def Good.neg{n W w lo p:Nat}[?aP](hp:p<lo)(hn:?jt):?NH ?eC ?rB :=#[?P1 (Ac4 R ?g),?P1 (Ac5 R ?g),λa b=>Au1 B R a b,λd=>d.neg ?g,?C8,?C8]
def Good.blend{n W w lo p q:Nat}[?aP][?Mc][?mt]:?NH ?f0 ?tG :=#[?Nt uP h,?Nt UP h,λx y=>KY B R ?g ?g ne h x y,λe=>e.blend ?g ?g ne h,?GY,?GY]
def Good.move{n W w lo i s:Nat}[?aP](hi:i<lo)(hs:s<=i)(hn:?jt):?NH ?c9 ?s4 :=#[?P1 (wV R ?g hs),?P1 (?TN LO (i-s) R),λa b=>Aa9 B R ?g hs a b,λd=>d.move ?g hs,?GA,?GA]
def G0.row{n w i:Nat}[?ir][?c2]:∃c,c<n/\?sW≠0:=by apply qh3 ?dN;let e:=?Tg h i hi;rw[?w]at e;unfold pD at e;rw[?a2 ?ce]at e;{cases e};let:?sW=0:=?T4 y;ext cQ
def rC{x h:Int}{K:Nat}(hh:0<h)(hx:x.natAbs<=K*h.natAbs):?Jd<=K:=by let e:(h.natAbs:Int)=h:=?g;(let hx':(x.natAbs:Int)<=?mF*h:=by rw[←e];exact_mod_cast hx);(let u1:x / h<=?mF:=by let:x<=?mF*h:=?g;show Int.ediv_le_of_le_mul hh ?N);(let u2:-?mF<=x / h:=by apply(Int.le_ediv_iff_mul_le hh).mpr ?_;rw[ql8];ext d);ext d
structure Part(R:Mat)[?G](f m:Nat):Prop where
 inc:∀j k,?e6->j<k->k<m->?lv
 zero:∀j c,?R0 ?qn
 pos:∀j,?R0 ?gi
 red:∀k j,f<=k->k<j->j<m->?rd
structure VA(n W w lo:Nat)[?aP][?G](p f m j μ:Nat)(R' B':Mat):Prop where
 good:?ph
 same:?vj
 left:∀c,(?Qm m (c<?K))->?hf=?c8
 red:?Qm j ?AL
 rel:∀l,j<=l->l<m->?N0 ?eT ?lh
 ins:∀W',∃v:?t,In W' lo R v/\∀c,?hf=?c8+v c
def VA.start[?nE][?be][?q]{p f m μ:Nat}[?MB]:?NU f R B :=#[?mD,?fV,?d6,?No ?g,?No (by rw[qh9,qz7,qg4];show h l h1 h2),λW'=>#[?cF,?oV W' lo R,λc=>?Sf ?c8 ?c8 0]]
def HS[?eq]:?I R p q 0=R:=by funext r c;cases e:r=p;{subst e;rw[C0];ext d};show ?pZ
def VA.step[?nE][?n9][?q]{p f m j μ:Nat}(h:?NU j R' B')(P:?jY)(hf:?e6)(hj:j<m)[?MY] : ?Ib<=?TK j/\?NU ?F ?ws ?Kk:=by let hh:=P.pos j hf hj;let ne:p≠j:=?g;let q1:=rC hh (h.rel j ?l hj);apply#[q1,?_];generalize hq:?hS=q at q1;let rj:∀c,?xx:=λc=>h.same j c ?ca;apply#[?l0 ?_,?DS,?ce,?gC,?gC,λW'=>?_];{let:=?CJ (n:=n) (W:=W) (w:=w) (lo:=lo) R' B' hp (?Mv (j<lo)) hn ne ?d8;rw[qn8]at this;show this};{rw[D6 hr];show h.same r c hr};{rw[C0,?QZ h.left,rj,?nw j c hf hj (hc j hf hj)];simp};{rw[C0,rj];cases e:l=j;{subst e;let d1:=qq8 ?eT (?Mv (?dx≠0));let d2:=qm3 ?eT hh;let d3:=Int.mul_ediv_add_emod ?eT ?dx;rw[hq]at d3;let d4:?dx*q=q*?dx:=?nu;rw[ql8];ext d};let z:?hk=0:=?nw j _ hf hj (P.inc l j h1 ?g hj);rw[z,qd7,qf3,qd8];show ?fZ l h1 ?g};{rw[C0,rj];let a:=?SL h.rel;let ?rG:=P.red j l hf ?g h2;let b:?N0 ?hk ?dJ:=?g;let c:=qf6 (1*?eT) ?E0;rw[qd8]at c;rw[qd8];(let d:?N0 ?E0 ?lh:=by rw[qb5,qb9];show qg1 q1 b);rw[?Mv (?F-f=(j-f)+1),qh4];(let e:2 ^ (j-f)*2*μ*?dJ=?lh+?lh:=?U);ext d};let#[v,hv,hc]:=h.ins W';apply#[λc=>1*v c+?d8*?bp,hv.mix ?BI 1 ?d8,λc=>?_];rw[C0,hc c,rj];grind
abbrev Bits(n W b:Nat)(R:Mat):Prop:=?Nh n (c<W->?fP<?M)
def ML{x y a k:Int}{b c:Nat}(hx:x.natAbs<?M)(hy:y.natAbs<?M)(ha:a.natAbs<?Y)(hk:?F6):?zn<2 ^ ?iU:=by
 let e:=?Ag;rw[qb5,qb5]at e;let u:a.natAbs*x.natAbs<?jn:=?Ob qm1 ha hx
 let v:k.natAbs*y.natAbs<?jn:=?Ob qm1 hk hy
 rw[?pF,qh4];ext d
def Bits.mono{n W b b':Nat}[?gW](hb:b<=b'):?yt:=?zw
def Bits.add{n W b c p q:Nat}[?gW][?d0][?uN]:?OV ?iU ?dG:=λr x hr hx=>by cases e:r=p;{subst e;rw[C0];(let h1:(1:Int).natAbs<2 ^ ?a9:=by let:1<=?Y:=qk8;rw[qh4];exact 1<_;ext d);let e1:=qf6 (1*?i4) (k*R q x);rw[qd8,qb5]at e1;rw[qd8];(let u:k.natAbs*(R q x).natAbs<?jn:=?Ob qm1 hk ?IV);let v:?FI<?jn:=?CS;rw[?pF,qh4];ext d};rw[D6 e];show ?CS
def Bits.blend{n W b e p q:Nat}[?gW][?b7][?Lr]:?OV ?vv ?we:=?Mz (by cases e1:r=p;{subst e1;rw[?cA];show ML ?cj ?KH hx hy};cases e2:r=q;{subst e2;rw[K4];show ML ?J2 ?cj hz hu};rw[?Ju];show qb6 ?cj ?i5)
def Bits.neg{n W b p:Nat}[?gW]:?OV b ?eC:=?Mz (by unfold Iq;cases e:r=p;{subst e;rw[Bq,qb9];show ?cj};rw[?du];show ?cj)
def Bits.move{n W b i s:Nat}[?gW][?ep]:?OV b ?c9:=?Mz (by rw[move_row];show ?SN h _ ?pD)
structure Ew[?gT](R0 B0:Mat)[?G](π b:Nat)(spot:Nat)[?aP]:Prop where
 good:?pr
 zero:?y9
 pos:?zA
 old:∀j c,spot<=j->j<i->?bp=R0 j c
 pass:∀j c,?iH->c<=?x->?fT
 pv:∀l,spot<=l->?TF R
 gc:?Qk (2 ^ ?ma)
structure Mg[?gT](R0 B0:Mat)[?G](π b:Nat):Prop where
 hi:?y
 part:?dS R0 t 0 i
 lt:?kB
 hd:?SY ?HS ?a1
 rw:∀r c,?TD ?sx
 ri:∀c,G c->?N5 R0 c ?M
 rp:∀l,?TF R0
def Part.sub{R:Mat}[?q]{f f' m:Nat}(h:?jY)(hf:f<=f'):?RW f' m:=#[λj k h1=>?cL j k ?g,λj c h1=>?ay j c ?g,λj h1=>?iV,λk j h1=>?fZ k j ?g]
def Part.congr{R R':Mat}[?q]{f m:Nat}(h:?jY)(e:∀j c,?R0 ?xx):?dS R' t f m :=#[?cL,λj c h1 h2 h3=>by rw[e j c h1 h2];show ?Ga,?Nx (by rw[e j _ h1 h2];show ?aS j h1 h2),λk j h1 h2 h3=>by rw[e k _ h1 ?g,e j _ ?g h3];show ?DF]
def two_le(k:Nat):1<=2 ^ k:=qk8
def Ew.start[?ac]{R0 B0:Mat}[?q]{π b:Nat}(h:?qa):?My 0 R0 B0:=by apply#[?mD,?Tc (h.part.zero j c ?J hj hc),?NJ (h.part.pos j ?J hj),?ov,?mb,λl _ hl=>h.rp l hl,?dg];let e:?M<=2 ^ (?fF+0*?cp):=?i5;cases z:r=i;{subst z;show ?s (?QZ h.ri) e};show ?s (?SN h.rw r ?g) e
def Ew.skip[?ac][?dl][?q][?iz](h:?pS)(hz:∀c,?fj->?fT):?My ?z R B:=by apply#[h.good,?ay,?aS,?Rj ?bo,?eh,?RI h.pv,?Mz (?s ?tR (qe4 ?X ?_))];{cases e:?br;{subst e;show ?QZ hz};show ?PP h.pass hc};rw[qg5];ext d
structure dZ[?gT][?aP][?G](b p spot μ:Nat)(R' B':Mat):Prop where
 good:?T2 ?k
 same:?vj
 left:∀c,?fj->?hf=?c8
 red:?NQ ?AL
 gc:∀c,G c->?G2<=?vZ+?RZ μ
structure eY[?gT][?aP][?G](b p spot μ j:Nat)(R' B':Mat):Prop where
 s:VA n W w ?k R B t p ?z i j μ R' B'
 gc:∀c,G c->?G2+μ*?M<=?vZ+?tv
def eY.start[?ac][?be][?q][?up][?u9]:?NM ?z R B :=#[?Ax ?K4,λc _=>by rw[qh9,qz7,qg4];show ?l]
def eY.step[?ac][?n9][?q]{b p spot μ j:Nat}(h:?NM j R' B')[?uf][?uF](hf:spot<j)(hj:j<i)[?uZ] : ?Ib<=?nl/\?NM ?F ?ws ?Kk:=by let#[q,s]:=h.s.step P ?g hj ?g ?g ?g ?g;apply#[?s q (?Q1 ?i5),s,?ce];let ne:p≠j:=?g;rw[C0,?C6 j c ?ca];let a:=?Ke;let e:=qf6 (1*?hf) (-?hS*?bp);rw[qd8,qb5,qb9]at e;rw[qd8];let m:=qg1 q (hG j c hf hj hc);rw[?Mv (?F-?z=?sH+1),qh4];(let z:2 ^ ?sH*2*μ*?M=?tv+?tv:=?U);ext d
def eY.done[?ac][?n9][?q][?up](h:?NM i R' B')(P:?tu):?QD R' B' :=#[h.s.good,?C6,λc hc=>h.s.left c (?No (by let:=?SL P;ext d)),?No (?SL h.s.red),?Ny (by let:=?Ke;ext d)]
def D9{a b:Nat}(h:a<=b):2 ^ a<=?M:=qe4 ?X h
def Ac8{x y a b:Nat}(hx:x<=2 ^ a)(hy:y<=?M):x*y<=?R3 a b:=?Ob qg1 hx hy
def Ew.addPre[?ac][?dl][?q][?iz][?dk][?dp]{q:Int}(hq:?sk) : ?NQ ((?TR i).natAbs<=?hX*(?TR l).natAbs):=λl h1 h2=>by rw[C0,D6 ?qO];ext LP;let a:=?ot;let e:=qf6 (1*R i ?K) (-q*?Bz);rw[qd8,qb5,qb9]at e;rw[qd8];let m:q.natAbs*?D1<=?mR:=qg1 hq ?g;let m2:?a1*1<=?mR:=?hV;rw[qh4];(let z:?a1*2*?dJ=?mR+?mR:=?U);ext d
def Ew.metAdd[?ac]{R0 B0 R B R2 B2:Mat}[?q][?iz][?dk][?dp]{q:Int}(hq:?sk)[?mq][?Mg] (S:dZ n W w i G ?xj ?EM t b i ?h ?hX R2 B2):?My ?z R2 B2:=by let ne:i≠spot:=?g;(let keep:∀r c,?jf->R2 r c=?bR:=?Nc (by rw[?gG r c hr,D6 hr]));apply#[?_,λj c hj hc=>?Oq ?Di ?x2,?NJ (by rw[?d1 j _ ?g];show ?jg),λj c hj hji=>?Oq ?Di ?x8,?eh,?gC,?dg];{let g:=?CJ (n:=n) (W:=W) (w:=w) (lo:=?k) R B ?F8 ?Fp ?bk ne ?d8;rw[qn8]at g;show ?ze S.good};{(let ts:?fj:=by cases e:?br;{rw[←e];show hc};ext MD);rw[S.left c ts,C0];cases e:c=?bY;{rw[e,he,qd8,ql8];ext d};rw[?Iz,?ay ?h c hs ?g];simp};{let#[a,c]:=?SL S.red;rw[D6 ?qO]at c;let d:=?ER;rw[←?qj]at d;ext d};ext Ld;generalize hz2:?ma=z;(let hzb:?fF<=z:=?HD);cases e:r=i;{subst e;let a:=?QZ S.gc;let g:=?SN ?gL r ?l;rw[hz2]at g;(let rs:?Bb:=?EX);let e1:=qf6 (1*?bR) (-q*?gF);rw[qd8,qb5,qb9]at e1;rw[C0,qd8]at a;let m1:=Ac8 hq rs;(let m2:2 ^ (r-?z)*?hX*?M<=?pT:=?DZ);let m3:?R3 π b<=?pT:=?or;(let m4:4*?pT=2 ^ z:=?OI z (z-2));(let m5:2*2 ^ z<=2 ^ ?F9:=by rw[?Mv (?F9=1+(z+π)),qe3];show qg1 ?X ?aZ);ext d};rw[?d1 r c e];let g:=?tR;rw[hz2]at g;show ?s g ?aZ
structure SH(π:Nat)(h0 o0 x y z u:Int):Prop where
 one:x*u-y*z=1
 hd:0<x*h0+y*o0
 ot:z*h0+u*o0=0
 lx:?qM
 ly:?pg
 lz:?Rf z.natAbs
 lu:?Rf u.natAbs
def QK{x y a c:Int}{π h:Nat}(hx:?qM)(hy:?pg)(ha:a.natAbs<=h)(hc:?Rf c.natAbs)(h1:1<=h):(x*a+y*c).natAbs<=?ba*h:=by
 let e:=qf6 (x*a) (y*c);rw[qb5,qb5]at e;let m1:x.natAbs*a.natAbs<=?lA:=qg1 (?s hx ?aZ) ha;let m2:y.natAbs*c.natAbs<=?lA:=?s (Ac8 hy hc) (by rw[?Mv (π+π=?fe)];show qj0 _ h1);rw[qh4];let z:2 ^ ?fe*2*h=?lA+?lA:=?U
 ext d
def Ew.blendPre[?ac][?dl][?q][?iz][?dk][?dp][?uA] : (?NC ?h)/\(?NC i):=by ext uU;(let base:?NQ (?D1<=?dJ/\1<=?dJ):=?No (by ext LP;ext d));apply#[?gC,?gC];{rw[?cA,?tx];show ?Qh e.lx e.ly};rw[K4,?tx];show ?Qh e.lz e.lu
def Ew.metBlend[?ac]{R0 B0 R B R2 B2 R3 B3:Mat}[?q][?iz][?dk][?dp][?uA][?mq] (S1:dZ n W w i G ?sR (?a8 B ?h i u (-z) (-y) x) t b ?h ?h ?ba R2 B2) (S2:dZ n W w i G R2 B2 t b i ?h ?ba R3 B3):?My ?z R3 B3:=by ext uU;(let keep:∀r c,?jf->?wc->R3 r c=?bR:=λr c h1 h2=>by rw[S2.same r c h1,?ii r c h2,Fa h2 h1]);let rs:∀c,R3 ?h c=R2 ?h c:=λc=>S2.same ?h c ne;(let r2i:∀c,R2 i c=z*?gF+u*?cu:=λc=>by rw[?ii i c (λw=>ne w.symm),K4]);let gz:?NR ?bY (?gF=0):=?Ny (?SN ?ay ?h hs);apply#[?_,?eh,?aY,λj c hj hji=>by rw[?PP ?d1 ?g];show ?x8,?eh,?gC,?dg];{let g:=Good.blend (n:=n) (W:=W) (w:=w) (lo:=?k) R B ?Fp ?F8 ?bk ne e.one;show(?ze S1.good).trans S2.good};{cases e1:?br;{subst e1;rw[rs,S1.left c ?g,?cA,?QZ gz,?QZ hz];simp};rw[?PP ?d1 e1];show ?x2};{cases e1:?br;{subst e1;rw[rs,S1.left _ ?l,?cA];show e.hd};rw[?d1 j _ ?g e1];show ?jg};{(let ts:?fj:=by cases e1:?br;{rw[←e1];show hc};ext MD);rw[S2.left c ts,r2i];cases e1:c=?bY;{rw[e1];show e.ot};rw[?Iz,gz c ?g];simp};{let#[a,c]:=?SL S2.red;rw[?y7,?tx]at c;let d:=?ER;rw[←?qj]at d;ext d};ext Ld;let g0:=?SN ?gL ?h ?g;let gi:=?SN ?gL i ?l;let gr:=?tR;generalize hz2:?ma=zz at g0 gi gr;(let hzb:?fF<=zz:=?HD);(let rsb:?Bb:=?EX);(let bnd:∀{x y:Int},?qM->?pg->(x*?gF+y*?cu).natAbs+?RZ ?ba<=2 ^ ?qf:=λ{x y} hx hy=>by let e1:=qf6 (x*?gF) (y*?cu);rw[qb5,qb5]at e1;let m1:=Ac8 hx rsb;let m2:=Ac8 hy gi;(let m3:?RZ ?ba<=?pw:=?DZ);let m4:?R3 π b<=?pw:=?or;(let m5:4*?pw=2 ^ zz:=?OI zz ?vf);let m6:2 ^ zz<=2 ^ ?so:=?aZ;(let m7:2 ^ ?qf=2*2 ^ ?so:=by rw[?Mv (?qf=1+?so),qe3,Nat.pow_one]);ext d);cases e1:r=i;{subst e1;let a:=?QZ S2.gc;rw[r2i]at a;show ?s a (bnd e.lz e.lu)};cases e2:?rM;{subst e2;let a:=?QZ S1.gc;rw[?cA]at a;rw[rs];show ?s a (bnd e.lx e.ly)};rw[?d1 r c e1 e2];show ?s gr ?aZ
abbrev insT[?G](s st:Nat):?C:=λr=>if r<s then t r else if r=s then st else t ?cb
structure Ins[?gT](R0 B0:Mat)(t1:?C)(Y:Nat)[?aP]:Prop where
 good:?pr
 s0:Kt ?k R t1
 lt:?Oy (?pW<W)
 pg:?Oy (G ?pW)
 gc:?Qk ?lr
def Ew.ins[?ac][?dl][?q]{π b spot st:Nat}[?dk][?La] : ?O0 ?Fn ?BC:=by (let row:∀c,?K7=?cu:=λc=>by ext gU;rw[?r,?w]);(let lo:?Nh spot (?jd=?bR):=?Nc (by ext gU;rw[?ql]));(let up:?Pf (?aw->?jd=R ?cb c):=λr c hr hi=>by ext gU;rw[?r,?r,?kV]);let gm:?ar n W w ?k R0 B0 ?iR ?rl:=?l0 (Good.move R B ?g hs ?bk);(let tl:∀j,?iH->?x<st:=?NJ (by apply qk0 λz=>h1 (h.pass j st hj z)));(let inc:∀j k,j<k->k<?k->?hc<?QV st k:=λj k hjk hk=>by unfold insT;cases a1:?iH;{rw[?f7];cases b1:k<spot;{rw[?u b1];show ?fJ j k ?J hjk ?g};rw[?p b1];cases b2:k=spot;{rw[?u b2];show tl j a1};rw[?p b2];show ?PI j};rw[?fH,?SQ (k<spot),?SQ (k=spot)];cases a2:?br;{rw[?mH];let e:=hex ?g;cases e2:?i8=spot;{rw[e2];show e};show qw8 e (?PI ?h)};rw[?m7];show ?PI ?dV);(let zero:∀j c,?jb->c<?hc->?SH j c=0:=?Tc (by unfold insT at hc;cases a1:?iH;{rw[?f7]at hc;rw[lo j c a1];show ?PP ?ay hc};rw[?fH]at hc;cases a2:?br;{rw[?mH]at hc;rw[a2,row];show ?QZ h0};rw[?m7]at hc;rw[?PP up ?g];show ?SN ?ay ?dV ?g));(let Be5:∀j,?jb->j≠spot->0<?SH j ?hc:=λj hj hne=>by unfold insT;cases a1:?iH;{rw[?f7,lo j _ a1];show ?iV};rw[?fH,?qu,?TN up j _];show ?aS ?dV ?g);(let ts:?QV st ?h=st:=?sB);(let bd:∀r c,?aw->G c->?N0 ?jd (2 ^ ?f6):=?Mz (by rw[move_row];(let lm:mvI i ?h r<=i:=by unfold mvI;cases a1:r<spot;{rw[?f7];ext d};rw[?fH];cases a2:?rM;{rw[?mH];ext d};rw[?m7,?ql];ext d);apply ?s (?SN ?gL _ lm) (D9 ?_);let:=qc2 ?cp hs;ext d));(let lt:?Oy (?hc<W):=?NJ (by unfold insT;split;{show ?SI H.lt};split;{show hW};show H.lt ?dV ?g));(let pg:?Oy (G ?hc):=?NJ (by unfold insT;split;{show ?SI hpg};split;{show hG};show hpg ?dV ?g));cases neg:?hM;{rw[?u neg,?u neg];let nr:∀c,Iq ?iR ?h ?h c=- ?K7:=λc=>Bq ..;let nn:∀r c,?wc->Iq ?iR ?h r c=?jd:=?Nc (By hr c);apply#[gm.trans (Good.neg _ _ ?g ?bk),#[inc,?eh,?aY],lt,pg,?dg];{cases e:?br;{let z:=?Bl;rw[e]at z ⊢;rw[nr,z];rfl};rw[nn j c e];show ?Bl};{cases e:?br;{rw[e,nr,ts];ext d};rw[nn j _ e];show ?Kt};cases e:?rM;{let z:=?F7;rw[e]at z ⊢;rw[nr,qb9];show z};rw[nn r c e];show ?F7};rw[?p neg,?p neg];apply#[gm,#[inc,zero,?aY],lt,pg,bd];cases e:?br;{rw[e,ts];(let:?vM≠0:=by rw[row];show h1);ext d};show ?Kt
structure R8(n W w i:Nat)(R0 B0:Mat)[?G](k:Nat)[?aP]:Prop where
 good:?pr
 s0:?It
 old:?Nh k (?bR=?sx)
 red:∀r j,k<=r->r<j->?bQ->0<=R r ?x/\R r ?x<?al
 hd:?Oy (?al=?HS)
def R8.start{n W w i:Nat}[?be][?q](h:?It):R8 n W w i R B t ?k R B:=#[?mD,h,?fV,?Pg ?g,?d6]
def R8.part{n W w i:Nat}[?dl][?q]{k:Nat}(h:?PG k R B):?RW k ?k:=#[λj l _ h1 h2=>?ts j l h1 h2,λj c _ h1 h2=>?G5 j c h1 h2,λj _ h1=>?wH j h1,?Pg (?fZ r j h1 h2 ?g)]
def R8.next{n W w i:Nat}{R0 B0 R B R' B':Mat}[?q]{k μ:Nat}(h:?PG ?H R B)(hk:k<=i)(S:VA n W w ?k R B t k ?H ?k ?k μ R' B'):?PG k R' B':=by (let tl:∀c,c<=?a3->R' k c=?dy:=λc hc=>S.left c (?No (by let:=?ts k l ?g h2;ext d)));apply#[?l0 S.good,#[?ts,?eh,?aY],?DS,?Pg ?_,?aY];{cases e:j=k;{subst e;rw[tl c ?g];show ?vB};rw[?gG j c e];show ?vB};{cases e:j=k;{subst e;rw[?K0];show ?Ew};rw[?Aa];show ?Ew};{rw[?T7 ?gG];show ?T7 ?bo};{rw[?gG j _ (?Mv (j≠k))];cases e:r=k;{subst e;show ?PU S.red j};rw[?gG r _ e];show ?fZ r j ?g h2 h3};cases e:j=k;{subst e;rw[?K0];show ?y5};rw[?Aa];show ?y5
structure E3[?gT](M B0:Mat)[?G][?aP]:Prop where
 good:?PS i M
 st:Ek W i R t
 pg:?tP
def E3.start(n W w:Nat)[?ue][?G]:E3 n W w 0 G M B0 t M B0:=#[?mD,#[?gR,λj k _ hk=>?g,?mb,?gR,λk j _ hj=>?g],?gR]
def E3.next[?ac]{M B0 R B R1 B1 R2 B2:Mat}{t t1:?C}{Y:Nat}[?ek](I:?Od R B t1)(D:?Cm):E3 n W w ?k G M B0 t1 R2 B2 :=#[((h.good.mono ?g).trans I.good).trans D.good,#[?NJ (?SI I.lt),D.s0.inc,D.s0.zero,?z9,λk j h1 h2=>D.red k j ?J h1 ?g],?NJ (?SI I.pg)]
def E3.rows{n W w:Nat}[?bc][?q][?uW](hw:w<=W):Fk n w M R:=by let e:=?GD;let cut:∀{S:Mat}[?cx],In W n S v->?P5 S v:=λ ?aG=>#[x,?Ny ?iE];apply#[λi hi=>cut (e.1 i hi),λi hi=>cut (e.2 i hi),?_];(obtain⟨r,hr,h1,h2⟩:?Ep:=by (let:?BJ:=by intro m;induction m with| zero=>ext Lw| succ m ih =>ext MC;{(let hrm:r=m:=?PF ?iW);show ?zD};ext Lg);show ?Ix);show#[r,t,hr,?Im,?K9]
abbrev unit(e:Int)(j:Nat):?t:=λc=>if c=j then e else 0
meta abbrev tr(T:Mat):Mat:=?Ks
structure Ku(n w r:Nat)(e:Int)(T:Mat):Prop where
 rn:?as
 rw:?eb
 row0:?GP
 col0:?A8
 rows:?GG
 cols:?wC
def Ku.flip[?mu](h:?kJ):Ku w n r e ?dP:=#[h.rw,h.rn,?Sj (?sV c i h3 h1 h2),?Sj (h.row0 c i h2 h3 h1),h.cols,h.rows]
def Xz{n w r r':Nat}{e:Int}{T:Mat}[?q](he:0<e)(hr:?eb)(hr':r'<=n)(hst:Ek w r' T t)(hz:∀i c,r'<=i->?KC)[?M1] : r'=r/\?qm/\?k9:=by (let tl:?NF r' (?x<r):=?NJ (by ext eo;let p:=?mV;rw[hc j ?x ?g z (?ST ?fR)]at p;ext d));(let main:∀j,j<=r->j<=r'/\(?Nw j ?mX)/\?Nw j (?af∣e):=by intro j;induction j with| zero=>intro _;show#[?J,?ty,?ty]| succ j ih =>intro hj;let ?GK:=?aL;let ?aG:=(?SI N8).sub hr' hz;(let v0:?Nw j (?b1 e j ?a3=0):=?Pz (by rw[b k hk];show ?r));let#[x0,x1]:=?t9 hx j a v0;let ej:?qi=e:=?w;(let lt:j<r':=by ext eo;(let:?qi=0:=by rw[?Ki];show ?NX (?TP ?g));ext d);(let tj:?x=j:=by apply ?Q0 (?ge j lt);(let:?qi=0:=by rw[?Ki];apply ?a2 ?de;cases e1:k<j;{rw[x0 k e1];simp};rw[?eS k j hk (qb6 z (?Hk j k ?g hk))];simp);ext d);let d:=x1 lt;rw[tj,ej]at d;apply#[lt,?de,?de];{cases e1:k=j;{rw[e1];show tj};show b k ?g};cases e1:k=j;{rw[e1];show#[x j,by rw[d,qf7]]};show c k ?g);let ?GK:=main r ?l;apply#[?Q0 a,b,c];let:=tl r z;let:=?ge r z;ext d
def BI[?mu][?q](OP:?as)(hrw:?eb)[?MJ][?M1]:?wC:=by (let ch:∀j,∃x:?t,j<r->?NR w (?Iv=?i ?go r):=λj=>by cases hj:j<r;{let ?aG:=(?ST N8).sub OP hz;show ?Hp};show(?Pn hj));obtain⟨X,hX⟩:∃X:?bW,∀j,j<r->?TO ?Iv j ?bh:=?Q6 ch;(let key:∀i,i<r->?NF r (?i (λc=>?df*X c j) r=?FE):=by intro i hi;(let hz0:?NR w ((?Fd) c=?LC):=by intro c hcw;(let e1:?LC=?Na (?i (λd=>?p2*?eU) r+?W*(?A9*(e*?eU))) r:=by apply Af λj _=>?_;rw[Int.sub_mul,←E4];cases z:i=j;{subst z;rw[?w,?w];ext d};rw[?bM,?p λy=>z y.symm];ext d);rw[e1,C3,Bc,El (λj=>e*?eU) i r,?kV,Cm];(let e2:?i (λd=>?Na (?p2*?eU) r) r=?i (λd=>T i d*?b1 e d c) r:=by apply Af ?lg;rw[hX d hd c hcw,←Bc];show Af λj _=>qe2 ..);rw[e2];exact ?fC=_;cases hcr:c<r;{rw[?aA (j:=c) hcr λd hd hne=>by exact ?TS 0;rw[?p ?qr];simp];exact ?fC=?PA ?df c+-1*(e*?df);rw[?w,qf7];ext d};rw[?a2 λd hd=>by exact ?TS 0;ext cN;simp,hc i c ?g ?g hcw];simp);let#[a,_]:=?t9 hz0 r ?l ?d6;intro j hj;let:=?ST a;ext d);intro i hi;apply#[λc=>if c<r then X c i else 0,λc hcn=>?_];exact ?b1 e i c=?E2;(let e1:?E2=?B0:=by (let:?Qc r (?gr->?i ?Af m=?B0):=by intro m;induction m with| zero =>intro h1 _;let:r=0:=?g;subst this;rfl| succ m ih =>intro h1 h2;cases q:r=?V;{subst q;apply ?rP;rw[?u hk,qf7]};exact ?lK+?QI m m m=_;rw[?qS,?r];simp);show ?N w hrw ?l);rw[e1];cases hcr:c<r;{rw[key c hcr i hi];rfl};rw[?NX (by rw[hz c k ?g hcn ?g];simp)];show ?r
def Fk.square{n w r:Nat}{e:Int}[?uc][?mv]:Ku n w r e T'/\∃t,?hA/\?qm/\?NF r (T' j j∣e):=by ext gX;let#[r',t,hr',hst,hz]:=s.st;(let hc:?O3 (r<=c->?C3):=λi c hi h1 h2=>by let ?aG:=s.fwd i hi;rw[hx c h2];show ?NX (by rw[?sV k c hk h1 h2];simp));let N8:?NF r (In w n T' ?zZ):=?NJ ((?ST h.rows).trans s.bwd);let ?I2:=Xz he h.rw hr' hst hz hc N8;apply ?bT;subst e1;show#[#[h.rn,h.rw,hz,hc,N8,BI h.rn h.rw hst hz hc N8],t,hst,e2,e3]
def sR[?mu][?q][?mv](hst:?LG)(ht:?qm)(hd:?k9){i c:Nat}[?c2](hc:c<w):?JS:=by cases a:i<r;{cases b:c<r;{let l:=qo4 he (hd c b);rcases ql3 i c with z | z | z;{let:=hst.red i c z b;rw[ht c b]at this;ext d};{subst z;let:=?m1 i a;rw[ht i a]at this;ext d};rw[?eS i c a (by rw[ht i a];show z)];ext d};rw[?sV i c hi ?g hc];ext d};rw[h.row0 i c ?g hi hc];ext d
def OT{n w r:Nat}{T:Mat}[?q](OP:?as)[?MJ]:?Td ?op:=by (let main:∀m i,i<m->m<=r->?Ot ?h7:=by intro m;induction m with| zero=>intro i hi;(ext d)| succ m ih =>intro i hi hm;cases q:i<m;{show ih i q ?g};let qi:i=m:=?g;subst qi;(let up:∀k,k<=i->In n w ?dP (λd=>?i ?zO k):=by intro k;induction k with| zero=>intro _;show ?zo| succ k ihk =>intro hk;let hk2:=?PU ih k;(obtain⟨g,hg⟩:∃g,?h5=?oP*g:=by (let:?Qc ?H (∃g,?Ak=?oP*g):=?N7 ?H);show ?vW);apply((ihk ?g).mix hk2 1 (T k ?bV*g)).congr ?A2;exact 1*?i _ k+?OJ (T k ?bV*g) k ?oP=?i _ k+?OJ (T k ?bV*?h5) k 1;rw[hg];cases z:d=k;{rw[?aD,?aD];grind};rw[?bM,?bM];ext d);let col:In n w ?dP (tr T ?bV):=?a5 ?yw;apply(col.mix (up i ?l) ?h5 ?W).congr ?lg;exact ?h5*T d ?bV+-1*?i ?zO i=?tw;cases z:d<i;{rw[?aA (j:=d) z λl hl hne=>by rw[?p ?qr];simp,?w];rw[show ?tw=0 from ?r];grind};rw[?a2 λl hl=>by ext cN;simp];cases z2:d=i;{subst z2;rw[show ?b1 ?vp d d=?vp from ?w];exact _=?So d*T d (t d);ext d};rw[show ?tw=0 from ?p z2];(let:T d ?bV=0:=by cases z3:d<r;{show ?Ca z3 ?g};show hz d _ ?g hd ?yw);ext cQ);intro i hi;(obtain⟨g,hg⟩:∃g,?op=?h7*g:=by (let:?Qc ?k (∃g,?Ak=?h7*g):=?N7 ?k);show ?N r hi);apply((main r i hi ?l).mix ?zo g 0).congr ?A2;exact ?OJ g i ?h7+0*0=if d=i then ?op else 0;cases z:d=i;{rw[?aD,?aD,hg];grind};rw[?bM,?bM];ext d
def l8.square[?bL]{T T' Qh:Mat}{r:Nat}[?q][?Lq]:?eb/\Ku n w r ?fk Qh/\∃u,Ek n r ?hv u/\?IZ/\?NF r (Qh j j∣ ?fk):=by ext M4;let#[q,u,hq,eU,xM]:=s2.st;(let hrw:?eb:=by cases z:r=0;{ext d};let:=?ge ?cb ?g;let:=?fR ?cb ?g;ext d);(let hc:∀i c,i<w->r<=c->c<n->tr Qh i c=0:=λi c hi h1 h2=>by let ?aG:=s2.fwd i hi;rw[hx c h2];show ?NX (by rw[show tr T' k c=0 from hz c k h1 h2 hk];simp));let N8:?NF r (In n w ?hv (?b1 ?fk j)):=?NJ ((OT hr hst hz j hj).trans ?jh);let ?I2:=Xz he hr hq eU xM hc N8;subst e1;let sq:Ku w n q (?v ?Bf q) ?hv:=#[hrw,hr,xM,hc,N8,BI hrw hr eU xM hc N8];show#[hrw,?rp,u,eU,e2,e3]
def vP:∀{n:Nat}{A:Mat},?TL (?JA<=1) ((∀c r r',c<n->r<n->r'<n->?ez≠0->A r' c≠0->r=r')->?FK<=1)| 0,_,_,_=>by simp[det]| ?n,A,h1,h2=>by exact ?Js<=1;cases e:∃r,r<?n/\A r 0≠0;{let#[r,hr,hne]:=e;rw[?aA (j:=r) hr λk hk hkr=>?SG hkr (h2 0 k r ?g hk hr z hne)];rw[qb5,qb5,aR,qg4];(let ih:=vP (n:=n) (A:=Ic A r) (?Oz (h1 _ _ ?bZ ?g)) λc x x' hc hx hx' a b=>by let:=h2 ?a9 (if x<r then x else x+1) (if x'<r then x' else x'+1) ?g ?bZ ?bZ a b;split at this<;>split at this<;>ext d);show ?s (qg1 (h1 r 0 hr ?g) ih) ?X};rw[?NX (?SG e #[k,hk,z])];decide
def jM{n p:Nat}(A:Mat)[?d0](a:?t)(U:Mat):∀m,?N8 A p ?Bq=?p3| 0=>by exact ?N8 A p (λc=>?fC)=0;show Y3 hp λc _=>Bq ..| ?V=>by (let e:?R4 ?KW ?Bq ?iZ:=?OM (?Sf (?oh+?iZ) (1*?oh) ?iZ));rw[e,Gg A _ _ 1 (a m) hp,jM A hp a U m];exact 1*?p3+?TG m=?p3+?TG m;rw[qd8]
abbrev AI[?gd]:Mat:=λr l=>if ?b4=r then 1 else 0
abbrev KL(T:Mat)[?gd](k:Nat):Mat:=λr l=>if r<k then AI s r l else T r ?b4
def sS[?uD]{k:Nat}(hk:k<i):?CT=?af*?o i (KL T s ?H):=by (let e0:?qb=?Sh ?qb ?kd:=by funext r c;cases z:r=k;{subst z;rw[Bq];exact ?S5 r _;rw[?r];cases y:?c5<?av;{rw[?aA (j:=?c5) y λj _ hne=>?Np ?kd ?tf];let:AI s ?c5 c=1:=?w;rw[this];simp};rw[?a2 λj hj=>?Np ?kd ?r];show h r ?c5 hk ?g};rw[By z]);ext M9;{congr 1;apply Ej ?dg;cases z:r=k;{subst z;rw[Bq];exact ?RC ?fs ?gO;rw[?P]};rw[By z];exact ?S5 k (if r<?H then ?fs else ?gO);cases y:r<k;{rw[?m3,?P]};rw[?jE,?r]};ext Lu;exact(if j<k then ?kd else T j ?c5)=_;rw[?P]
def pU[?uD]:?T9 ?Kq ?CT| 0,_=>?S0 (KL T s 0) (if r<0 then ?fs else ?gO)| ?H,hk=>by rw[pU h s k ?g,sS h s ?g];ext MM
def Ar4[?uD]:?N0 ?t0 ((?EE).natAbs):=by rw[pU h s i ?l,qb5];(let e:?N5 ?o (KL T s i) 1:=by (let k:?Nh i (KL T s i r c=if ?c5=r then 1 else 0):=?Nc (by exact ?S5 i _;rw[?ql];rfl));apply vP ?dg λc r r' hc hr hr' a b=>?_;{rw[?Co];split<;>decide};rw[?Co]at a;rw[k r' c hr']at b;split at a;{split at b;{ext d};show ?bU ?j b};show ?bU ?j a);show ?s (?TE e) ?g
abbrev R9(n:Nat)(G:?az)(M:Mat)(D:Nat):Prop:=∀i,i<=n->∀s:?C,?Hq->?N5 ?o (λr l=>M r ?b4) D
def E3.detsD[?nB][?bc][?q][?mz][?ek](hi:i<=m){s:?C}(hs:?Hq):?N5 ?o ?ex D:=by rw[h.good.det i ?l s];show hD i hi s hs
def E3.headD[?nB][?bc][?q][?mz][?ek](hi:i<=m){j:Nat}(hj:j<i):?c3<=D:=by let:=Ae3 ?r0 (?RE hi) hj;let p:=?vE;ext d
def E3.rowD[?nB][?bc][?q][?mz][?ek](hi:i<=m)[?n4]{r c:Nat}(hr:r<i)(hc:G c):?fP<=i*D:=by let:=zR ?r0 ?f3 (?a5 hr) (κ:=1) (D:=D) ?rc ?aY λk hk=>?q0 hD hi ?ky;{rw[qg4]at this;show this};{rw[qg4];rcases ql3 r j with z | z | z;{let ?cf:=?kc r j z hj;ext d};{rw[z];show ?l};rw[h.st.s0.low hr z];show ?J};cases l with| zero=>show hc| succ l=>show h.pg _ ?bZ
def E3.putD[?nB][?bc][?q][?mz][?ek](hm:i<=m)[?c2][?n4]{b0 π b:Nat}(hM:∀c,G c->?N5 M c ?qP)[?MK]:?Ck:=by apply#[hi,?r3,?f3,?NJ (?s (h.headD hD hm hj) h1),?Mz (?TQ hm hGW hr),?ce,?ky];{rw[?ji i c ?l];show ?s (?QZ hM) ?ES};rw[?ji i _ ?l];show ?s (hM _ (h.pg l hl)) (D9 h3)
def Ku.free[?mu][?mv]{m:Nat}(hm:m<=r){x:?t}(hx:?NR w (?rn=0)):∀k,?HQ:=by intro l hl;let ?fq:=h.cols l ?g;(let e1:?El=0:=?a2 λc hc=>by rw[?cr];simp);(let e2:?El=?N2 (x k*?Al) m:=by rw[show ?xW=λc=>?N2 (x k*(y c*?bh)) m from ?OM (by rw[←Bc];show ?pv)];rw[Cm];apply ?rP;rw[hy k (by let:=h.rn;ext d),←Bc]);rw[e2,?aA (j:=l) hl λk _ hne=>?Np ?Al ?qu]at e1;let:?b1 e l l=e:=?w;rw[this]at e1;rcases ?m2 e1 with z | z;{show z};ext d
def ZO[?gb]{e:Int}{T M B0 R B:Mat}[?mv](hM:?SX (M k c=?bh))(hi:i<r)(g:?PS ?k M)(hW:?rz)(d:?OT M B0):∃c,c<w/\?cu≠0:=by let rn:=h.rn;apply qh3 ?dN;let z0:∀c,?Kj:=?Ny (?T4 y);let ?aG:=(g.eqv ?k ?l).1 i ?g;(let x0:=h.free he (m:=?k) ?g (x:=x) λc hc=>by rw[←?QZ z0,?iE];show ?TV hM ?g);let#[c,hc,hne]:=(g.dual d).row (i:=i) ?g;apply hne ?_;rw[hx ?co ?g];show ?NX (?TP hk)
structure Vd(n W w r:Nat)[?ms](M:Mat):Prop where
 zero:∀j c,?aH->?L->c<?aV->M j c=0
 inc:∀j k,?aH->j<k->k<n->?aV<kt k
 ge:?N9 (w<=?aV)
 lt:?N9 (?aV<W)
 head:?N9 (M j ?aV=?dU)
 pos:?N9 (0<?dU)
 red:∀k j,?aH->k<j->?L->0<=?o1/\?o1<?dU
structure Ct(n W w r i:Nat)[?ue][?ms][?G][?aP]:Prop where
 st:?yA
 tab:?NF r (j<i->?x<w)
 ker:∀j,?aH->j<i->?Dc
def Ct.start(n W w r:Nat)[?ue][?ms][?G]:Ct n W w r 0 G M B0 kt hd t M B0:=#[E3.start ..,?zY,?zY]
private def Ct.next[?gb][?gc]{M B0 R B R1 B1 R2 B2:Mat}[?bt]{Y spot st:Nat}[?Mf](hi:i<r)(hst:st<w)(hs:?bn)(I:?Od R B ?bE)(D:?PH R1 B1 ?bE):?OF ?bE R2 B2:=by apply#[?oG I D,?mS,?AP];unfold insT;split;{show ?FA};split;{show hst};show ?PU ?mG ?dV
def Ct.skip[?gb][?bc][?bt][?ij](hn:?y){spot c:Nat}[?dp](hc:?fj):?fT:=by rw[?pE];apply ?e0 i c hi hn ?_;let g:=K.ge i hi hn;cases z:?gB;{let:=?mG ?h z hs;ext d};let:=(?hy ?h ?g hs).1;let:=?fn ?h i ?g hs hn;ext d
def Ut(R:Mat)(i:Nat):?aI R i i=R:=by funext r;ext gU;cases a:r<i;{rw[?u a]};rw[?p a];cases b:r=i;{rw[?u b,b]};rw[?p b,?r]
def Ct.ins[?gb][?bc][?bt]{π b:Nat}[?ij](H:?Ck)(hG:G ?b5):?Pl ?f6/\?xc:=by (let all:?xc:=by intro spot;induction spot with| zero=>intro _;show Ew.start H| succ s ih=>intro hs;show(?aL).skip λc hc=>?sE K hi ?bk ?g hc);apply#[?_,all];(let e:R i ?b5=hd i:=by ext uP;show ?fK i hi ?bk);let p:=?hb i hi ?bk;let:=(all i ?l).ins H ?l (st:=?b5) (?Ny (by rw[?pE];show ?e0 i c hi ?bk hc)) ?g (K.lt i hi ?bk) hG ?pL (λz=>?g);rw[Ut,Ut,?r,?r]at this;show this
private def Ct.nextK[?gb][?gc]{M B0 R B R2 B2:Mat}[?bt]{Y:Nat}[?ij](hn:?y)(I:?Pl Y)(D:?PH R B ?bb):?OF ?bb R2 B2:=by ext M8;ext u5;apply#[?oG I D,?Nx (by rw[?GI];show ?FA),?mS];rw[?SI D.hd];cases z:j=i;{rw[z,t2];show#[?j,by ext uP;show ?Cb]};rw[?GI];show ?hy j h1 ?g
def Ct.done{n W w r:Nat}[?bc][?bt][?uj](h:?NV n G M):?Nb W R:=by apply#[?Gg,?fn,K.ge,K.lt,?mS,?hb,?IH];{rw[←(?JK).1]at h3;show h.st.st.zero j c h2 h3};{let ?cf:=?JK;rw[←a];show b};let ?cf:=?hy j h1 h3;rw[←a,←b];show ?KI k j h2 h3
abbrev LN(V Z:Mat)(k:Nat):Mat:=λr l=>if r<k then Z r l else V r l
def tL[?Lv]{k:Nat}(hk:k<i):?o5=?af*?o i (LN V Z ?H):=by (let e0:?o5=?o i (?Sh ?C1 (Z j c)):=Ej (?Mz (by cases z:r=k;{subst z;rw[Bq];exact ?St r _;rw[?r];show ?cj};rw[By z])));ext M9;{congr 1;apply Ej ?dg;cases z:r=k;{subst z;rw[Bq];exact ?RC ?hz ?g6;rw[?P]};rw[By z];exact ?St k (if r<?H then ?hz else ?g6);cases y:r<k;{rw[?m3,?P]};rw[?jE,?r]};ext Lu;exact(if j<k then Z j c else V j c)=_;rw[?P]
def iC[?Lv]:?T9 V ?o5| 0,_=>?S0 (LN V Z 0) (if r<0 then ?hz else ?g6)| ?H,hk=>by rw[iC h k ?g,tL h ?g];ext MM
def GI{w r:Nat}{U V:Mat}(hw:?eb)(hU:∀k c,k<r->c<k->?l5=0)(hV:∀l,l<r->In w r U (V l))(h0:∀l i,l<r->i<r->l<i->V l i=0):?QT U r∣ ?D9:=by (let ch:∀l,∃x:?t,l<r->?NR w (V l c=?i ?p7 r):=λl=>by cases hl:l<r;{let ?aG:=hV l hl;show ?Hp};show(?Pn hl));obtain⟨X,hX⟩:∃X:?bW,∀l,l<r->?TO (V l c) l ?l5:=?Q6 ch;let e1:?o r (tr V)=?D9:=AX (A:=tr V) λi l hi hl=>h0 l i ?g hi hl;let e2:=iC (i:=r) (T:=tr U) (V:=tr V) (Z:=tr X) (λi l hi hl=>?_) r ?l;{rw[e1]at e2;show#[_,e2]};exact V l i=_;rw[hX l hl i ?g];(let:∀m,m<=?p1->?Ir=?Na (tr U i j*tr X j l) ?k:=by intro m;induction m with| zero=>intro _;show ?Sn ?nu| succ m ih =>intro hm;exact ?Ir+X l ?jR*U ?jR i=_;rw[?aL,?TN hU ?jR i];ext d);let:=?N ?p1 ?l;rw[?Mv (?k+?p1=r)]at this;show this
def BV[?a4]{n:Nat}(h:?nc):∀m,?ef->?bl<=?dw:=λm hm=>by (let:∀d,?fY<=n->?bl<=?kq:=by intro d;induction d with| zero=>intro _;show qy1 _| succ d ih =>intro hd;apply qu0 ?aL ?_;exact ?kq<=?kq*f ?fY;let p:=Dv (n:=?fY) ?dh;let q:=h ?fY ?g;let:=qn4 (?Mv (1<=f ?fY)) (?Mv (0<=?kq));rw[qm5]at this;show this);let:=?N (n-m) ?g;rw[?Mv (m+(n-m)=n)]at this;show this
def wZ{w r:Nat}{T:Mat}{E:Nat}(hp:?Bh)(h:∀i c,i<r->?Gn)(hE:?sY):?Gv:=λi hi s hs=>by let t:=Ar4 (i:=i) (T:=?ow) (λa c ha hac=>by exact ?y0=0;cases z:c<w;{rw[?aD];show h a c ?g z hac};ext cR) s;let e:?t0=?o i (?P0 (?ow)):=Ej λa c ha hc=>(?u ?zK).symm;rw[e];apply ?s t ?_;cases z:i<=w;{(let e2:?C2=?EE:=by (let:∀m,?gr->?E9=?v ?ea m:=by intro m;induction m with| zero=>intro _;rfl| succ m ih =>intro hm;exact _*_=_*_;rw[?aL];exact ?PN _;rw[?P]);show ?N i z);rw[e2];let a:=BV (n:=r) (f:=?ea) hp i hi;let b:=Dv (n:=i) (f:=?ea) (?Pz ?DA);ext d};(let e2:?C2=0:=by (let:∀m,w<m->?E9=0:=by intro m;induction m with| zero=>intro _;(ext d)| succ m ih =>intro hm;exact ?PN 0;cases y:w<m;{rw[ih y];simp};ext cN;simp);show ?vW);rw[e2];show ?J
structure Gx(n w r:Nat)(E:Nat)(e:Int)(T:Mat):Prop where
 sq:?kJ
 low:?O3 ?Gn
 pos:?Bh
 dvd:?k9
 prod:?sY
 le:?O3 (c<w->?JS)
 red:?QK r (0<=T j k/\T j k<?h6)
def lX[?iq]{T:Mat}{u:?C}(he:0<e)(sq:?kJ)(hst:Ek n r ?dP u)(hu:?IZ)(hd:?k9)(hE:?sY):?iK:=by apply#[sq,λi c hi hc hic=>?_,?aY,hd,hE,?PD (sR he ?rp hst hu hd hc hi),λk j hk hj=>by let:=hst.red k j hk hj;rw[?ST hu]at this;show this];{cases z:c<r;{show ?eS c i z (by rw[hu c z];show hic)};show sq.col0 i c hi ?g hc};let:=?mV;rw[?ST hu]at this;show this
def Fk.going[?iq][?uc](he:0<e)[?gY]:Gx w n r E e ?BR:=by
 let#[sq,t,hst,ht,hd]:=s.square he h.sq;let pos:?NF r (0<T' j j):=?NJ (by let:=?mV;rw[?ST ht]at this;show this)
 apply lX he ?rp hst ht hd ?_;let rn:=h.sq.rn;let rw':=h.sq.rw;let d:=GI (w:=w) (r:=r) (U:=T') (V:=T) rw' (?OK ?eS ht) (λl hl=>(s.bwd l ?g).sub rn sq.row0) (λl i hl hi hli=>?dH l i ?g ?g hli);let p:=Dv (n:=r) (f:=?ea) ?aS;show qu0 (qo4 p d) ?tA
def l8.going[?iq][?ub](he:0<e)[?gY]:Gx n w r E e Qh:=by let ?p5:=s;show s2.going he (s1.going he h)
def l8.first{n w r:Nat}{E:Nat}{T T' Qh:Mat}[?q][?Lq](hE:?fk<=E):Gx n w r E ?fk Qh:=by let#[hw,sq,u,hu,hu2,hd]:=l8.square (T:=T) hr hst hz s2;ext M4;apply lX he sq hu hu2 hd ?_;let d:=GI (w:=n) (r:=r) (U:=?hv) (V:=λl i=>T' i ?K) hr (?OK hu.zero hu2) (λl hl=>(?jh ?K (?fR l hl)).sub hw sq.flip.row0) (λl i hl hi hli=>?Ca hi hli);show qu0 (qo4 he d) hE
def Gx.dets[?iq]{T:Mat}[?gY]:?Gv:=wZ ?aS (λi c hi=>?dH i c (by let:=h.sq.rn;ext d)) ?tA
abbrev UR(n w r L m:Nat)(T:Mat):Prop:=?h2\/(∃k,k<=r/\?gx/\?Cr<=m)\/(∃k,k<r/\?J6/\?mW*?hr+(?af).natAbs.log2+1<=m)
def Gx.straight[?iq]{T:Mat}[?gY](c:?Rn r T):?h2:=?Ph (by cases z:i<r;{show c.2.2.2.1 i j z hj ?qr};show h.sq.row0 i j ?g hi hj)
def log2_lt{a b:Nat}(ha:0<a)(h:a∣b)(hlt:a<b):a.log2<b.log2:=by let#[k,hk]:=h;(let k2:2<=k:=by rcases k with _ | _ | k;{ext d};{ext d};ext d);(let b2:2*a<=b:=by rw[hk,?CH 2 a];show ?TE k2);let e:?EB=a.log2+1:=Nat.log2_two_mul ?g;(let m:?EB<=b.log2:=by rw[Nat.le_log2 ?g];show ?s ?Ed b2);ext d
def UR.start{n w r L:Nat}{E:Nat}{e:Int}{T:Mat}[?gY]:UR n w r L ?yN T:=?S (?T #[0,?J,?wD,by rw[qz6];show ?l])
private def Gx.next{n w r L m:Nat}{E:Nat}{e:Int}{T Qh:Mat}(he:0<e)(hL:?Jx)[?gY](s:?xS)(f:?w2)(ns:¬?h2):0<m/\UR n w r L (m-1) Qh:=by let g:=s.going he h;rcases f with f|⟨k,hk,c,hm⟩|⟨k,hk,c,hm⟩;{show ?bU f ns};{(let kr:k<r:=by apply Nat.lt_of_le_of_ne hk λz=>ns ?_;subst z;show h.straight c);(let e1:?Cr=?mW*?hr+?hr:=by rw[?Mv (r-k=?mW+1),qg5,qg4,qm2]);apply ?Jc;let#[c2,q]:=s.next c;rcases q with q | q;{show ?T q};apply ?S (?S #[k,kr,q,?_]);let d:=h.dvd k kr;let d2:=g.dvd k kr;let p:=g.pos k kr;(let l:(?iO).natAbs.log2<=L:=by apply ?s ?_ hL;rw[Nat.le_log2 ?g];apply ?s ?Ed ?_;let:=qo4 he d2;ext d);show ?zb (?sU (?Dj (?wP l 2) _) (?sU (Nat.le_of_eq e1.symm) hm))};apply ?Jc;rcases s.less c with q|⟨q1,q2,q3⟩;{apply ?S (?T #[?H,?g,q,?_]);rw[?Mv (r-?H=?mW)];ext d};apply ?S (?S #[k,hk,q1,?_]);let p:=?IX;let p0:=?KN;let:=log2_lt (a:=(?iO).natAbs) (b:=?nO) ?g (qx2.mpr q2) ?g;show ?zb (?sU (?wP (?Dj ?N _) 1) hm)
universe Lat
namespace Lat
structure EuA[?uV]:Prop where
 e1:r1=x1*A+y1*B
 e2:r2=x2*A+y2*B
 dt:?h3=1\/?h3=-1
 dv:∀d:Int,d∣r1->d∣r2->d∣A/\d∣B
structure EuR[?uV]:Prop where
 a:?o3
 rr:0<=?lT
 r0:?tl
 xx:?rv<=0
 yy:?og<=0
 lx:?EH
 ly:?H4
def pV{u v:Int}(h:0<=u*v):(u+v).natAbs=u.natAbs+v.natAbs:=by rcases ?KG u 0 with z | z | z;{(let:v<=0:=?Nm ?yS z y);ext d};{subst z;ext d};(let:0<=v:=?Nm ?Dq z y);ext d
def EuR.next_le[?im][?Mu]:?zd:=by (let r1p:1<=r1.natAbs:=by let:=h.r0;ext d);(let hA:A.natAbs=(y2*r1+?li).natAbs:=by (let e:?h3*A=y2*r1+?li:=?Az);rcases h.a.dt with d | d;{rw[d,qd8]at e;rw[e]};rw[d]at e;(let:A.natAbs=(-1*A).natAbs:=by rw[ql8,qd8,qb9]);rw[this,e]);(let hB:B.natAbs=(?oj).natAbs:=by (let e:?h3*B=-?oj:=?Az);rcases h.a.dt with d | d;{rw[d,qd8]at e;rw[e,qb9]};rw[d]at e;let:B=?oj:=?g;rw[this]);(let k1:0<=(y2*r1)*?li:=?Oh ((y2*r1)*?li) ?og (by let:=h.yy;ext d));(let k2:0<=(x2*r1)*?t1:=?Oh ((x2*r1)*?t1) ?rv (by let:=h.xx;ext d));rw[pV k1,qb5]at hA;rw[pV k2,qb5]at hB;let a1:x2.natAbs*1<=x2.natAbs*r1.natAbs:=?vg;let a2:y2.natAbs*1<=y2.natAbs*r1.natAbs:=?vg;ext d
def EuA.step[?im](h:?o3)(q:Int):EuA A B r2 x2 y2 ?y6 ?r4 ?nj:=by apply#[h.e2,?_,?_,λd h1 h2=>h.dv d ?_ h1];{rw[h.e1,h.e2];grind};{(let:x2*?nj-?r4*y2=-?h3:=?U);rw[this];rcases h.dt with z | z<;>rw[z]<;>ext d};let:=?KV h2 (qv0 (a:=d) (b:=q) h1);let e:?y6+q*r2=r1:=?g;rw[e]at this;show this
def GP{r1 r2:Int}(h:0<=?lT)(h2:?oK):0<=?ed/\?pQ/\0<=r2*?hj:=by (let e:?hj=?B9:=?PC r1 r2);rw[e];rcases ?H7 h2 with z | z;{(let r1n:r1<=0:=?Nm ?Dq y z);(let q:?ed=(-r1).fdiv ?fx:=by rw[Int.neg_fdiv_neg]);(let m:?B9=-?sM:=?GS);let m0:=qw2 (a:=-r1) (b:=?fx) ?g;let m1:=qy7 (-r1) (b:=?fx) ?g;apply#[?_,?PM r2,?_];{rw[q,?Ef];show ?C9 ?g ?g};rw[m];(let:r2*-?sM=?fx*?sM:=by rw[Int.mul_neg,ql8]);rw[this];show ?vX};(let r1p:0<=r1:=?Nm ?yS y z);let m0:=qw2 (a:=r1) (b:=r2) z;let m1:=qy7 r1 z;apply#[?_,?oF,?vX];rw[?Ef];show ?C9 r1p ?g
def EuR.step[?im][?Mu](h2:?oK):?PK EuR:=by let#[q0,q1,q2]:=GP h.rr h2;let#[l1,l2]:=h.next_le;generalize ?ed=q at *;apply#[#[h.a.step q,q2,h2,?_,?_,l1,l2],q1];{(let:x2*?r4=?rv-q*(x2*x2):=?U);rw[this];let a:=h.xx;let b:0<=q*(x2*x2):=qk5 q0 (by rw[←?Fy (a:=x2)];ext d);ext d};(let:y2*?nj=?og-q*(y2*y2):=?U);rw[this];let a:=h.yy;let b:0<=q*(y2*y2):=qk5 q0 (by rw[←?Fy (a:=y2)];ext d);ext d
abbrev EuI[?uV]:Prop :=?JM\/(B<0/\r1=A/\x1=1/\y1=0/\r2=B/\x2=0/\y2=1) ∨ (B<0/\r1=B/\x1=0/\y1=1/\r2=?lL/\x2=1/\y2=-?bG)
def EuI.start{A B:Int}[?un]:EuI A B A 1 0 B 0 1:=by rcases ?H7 hB with z | z;{show ?S (?T #[z,?aQ,?aQ,?aQ])};apply ?T #[?IS,qk5 ?g ?g,?uh]
def Ty{A B:Int}(hA:0<A)(hB:B<0):?bG<=-1/\-A<=?bG/\?lL<=0/\?Pe ?lL B.natAbs:=by (let e:?lL=A.fmod B:=?PC A B);(let m:A.fmod B=-((-A).fmod (-B)):=?GS);let m0:=qw2 (a:=-A) (b:=-B) ?g;let m1:=qy7 (-A) (b:=-B) ?g;let k:?bG*B=A-A.fmod B:=?g;rw[e];(let q1:?bG<=-1:=by ext en;let:=qk5 (?Mv (0<=?bG)) ?xE;rw[Int.mul_neg]at this;ext d);apply#[q1,?_,?g,?PM B];ext en;let h:=?TN ?BH ?HE (?Mv (1<=-B));(let h2:-?bG*-B=?bG*B:=by rw[qs9]);rw[h2]at h;let h3:=?TN ?BH ?HE (qy1 (-B));rw[h2,qp8]at h3;let h4:A*1<=A*-B:=?Gy;ext d
def EuI.step[?im](hA:0<A)[?Mt](h2:?oK) : ?PK EuI:=by ext Ls;{show#[?T (?GQ).1,(?GQ).2]};{subst e1 e2 e3 e4 e5 e6;let#[_,_,_,q]:=?tO;show#[?S (?S #[hB,?aQ,?aQ,?g,?g]),q]};let ?FY:=?tO;ext Li;let e7:=?Ce;rw[←e4]at e7 q3 q4;(let rr:0<=B*r2:=by let:=qk5 ?xE (?Mv (0<=?fx));rw[qs9]at this;show this);let#[p0,p1,p2]:=GP rr h2;(let p3:1<=?p4:=by ext en;let:?p4=0:=?g;rw[this]at p1;ext d);ext Lk;rw[f1,f2]at e7;let e8:=e7.step ?p4;subst e1 e2 e3;apply#[?T #[e8,p2,h2,?_,?_,?g,?g],p1];{subst e5;ext d};generalize ?ed=p at *;(let g1:y2*(1-p*y2)=-(?GN*y2):=?U);rw[g1];let g2:1*y2<=p*y2:=qk7 p3 ?g;let:=qk5 (?Mv (0<=?GN)) (?Mv (0<=y2));ext d
def EuI.all[?im][?un][?Mt] : ?o3/\?tl/\?EH/\?H4/\?zd:=by ext Li;ext Ls;{show#[h.a,h.r0,h.lx,h.ly,h.next_le.1,h.next_le.2]};{subst e1 e2 e3 e4 e5 e6;show#[e0,?uh]};let ?FY:=?tO;let e7:=?Ce;ext Lk;rw[f1,f2,←e4]at e7;subst e1 e2 e3;show#[e7,?uh]
structure Shares(A B g a b:Int):Prop where
 pos:0<g
 e:g=a*A+b*B
 dA:g∣A
 dB:g∣B
 la:?QX a.natAbs
 lb:?QY b.natAbs
def EuI.last{A B r1 x1 y1 x2 y2:Int}[?un](h:?Nv EuI 0) : (0<r1->?jO A B r1 x1 y1)/\(r1<0->?jO A B (-r1) (-x1) (-y1))/\?tl:=by have#[k,r0,a1,a2,_,_]:=h.all hA hB;have#[d1,d2]:=k.dv r1 (Int.dvd_refl _) (Int.dvd_zero _);apply#[λp=>#[p,k.e1,d1,d2,a1,a2],λp=>#[?g,?_,?xy d1,?xy d2,by rw[qb9];show a1,by rw[qb9];show a2],r0];rw[k.e1,ql8,ql8];ext d
def Shares.blend{A B g a b:Int}{π:Nat}(hA:0<A)(h:?GF)(lA:?Rf A.natAbs)(lB:?Rf B.natAbs):SH π A B a b ?pb ?f5:=by let ?tD:=h.dA;let#[q,eB]:=h.dB;ext Ln;(let k2:B / g=q:=?K1);(let gn:1<=g.natAbs:=?AV);(let n1:?QY p.natAbs:=by rw[eA,qb5];show ?uz);(let n2:?QX q.natAbs:=by rw[eB,qb5];show ?uz);rw[k1,k2];apply#[?_,by let:=h.pos;let:=h.e;ext d,?_,?s h.la lB,?s h.lb lA,by rw[qb9];show ?s n2 lB,?s n1 lA];{let e:=h.e;(let:g*(a*p-b*-q)=g*1:=by rw[qm5];apply ?G8 ?_ ?qV;rw[eA,eB];grind);show Int.eq_of_mul_eq_mul_left g0 ?N};rw[eA,eB];grind
universe Lat
namespace Lat
open Hb
abbrev Wa(n:Nat)(C:?az)(δ b:Nat)(R:Mat):Prop:=?Nh n (C c->?fP*?fA<?M)
def U8{x y a k:Int}{δ b c:Nat}(hx:?I5<?M)(hy:?xs<?M)(ha:a.natAbs<=?Y)(hk:k.natAbs<=?Y):?zn*?fA<2 ^ ?iU:=by let e:=?Ag;rw[qb5,qb5]at e;let e2:=qc2 ?fA e;rw[qg5,Nat.mul_assoc,Nat.mul_assoc]at e2;let p:0<?Y:=qk6 c;let u:a.natAbs*?I5<?Y*?M:=?Sz ha (qt5 hx p);let v:k.natAbs*?xs<?Y*?M:=?Sz hk (qt5 hy p);rw[?pF,qh4,qe3];ext d
def Wa.mono{n δ b b':Nat}[?uK](hb:b<=b'):?Qs b' R:=?zw
def Wa.add{n δ b c p q:Nat}[?uK][?uN]:?Qs ?iU ?dG:=λr x hr hx=>by cases e:r=p;{subst e;rw[C0];show U8 ?LA ?IV ?KL (qe6 hk)};rw[D6 e];show(h.mono ?g) r x hr hx
def Wa.blend{n δ b e p q:Nat}[?uK][?b7][?Lr]:?Qs ?vv ?we:=?Mz (by cases e1:r=p;{subst e1;rw[?cA];show U8 ?cj ?KH (qe6 hx) (qe6 hy)};cases e2:r=q;{subst e2;rw[K4];show U8 ?J2 ?cj (qe6 hz) (qe6 hu)};rw[?Ju];show ?SK (h.mono ?g))
variable[?cO]
abbrev BB[?cS](C:?az)(δ β:Nat)[?dm]:Prop:=?aB n W β s.1/\?aB n n β s.2/\Wa n C δ β s.1
def BB.mono{n W β β':Nat}[?bd][?n3](hb:β<=β'):?Mw β' s:=#[h.1.mono hb,h.2.1.mono hb,h.2.2.mono hb]
abbrev addS(p q:Nat)(k:Int)[?dm]:?am:=(?I s.1 p q k,?I s.2 q p (-k))
abbrev blendS(p q:Nat)(x y z u:Int)[?dm]:?am:=(?a8 s.1 p q x y z u,?a8 s.2 p q u (-z) (-y) x)
def BB.add{n W β c p q:Nat}[?bd][?n3][?d0][?uN]:?Mw ?Dp (?eG p q k s) :=#[(h.1.add hp hq hk).mono ?g,(h.2.1.add hq hp (k:=-k) (by rw[qb9];show hk)).mono ?g,(h.2.2.add hq hk).mono ?g]
def BB.blend{n W β c p q:Nat}[?bd][?n3][?b7]{x y z u:Int}(hx:?Gx)(hy:y.natAbs<?Y)(hz:z.natAbs<?Y)(hu:u.natAbs<?Y):?Mw ?Dp (blendS p q x y z u s) :=#[(h.1.blend hp hq ne hx hy hz hu).mono ?g,(h.2.1.blend hp hq ne (x:=u) (y:=-z) (z:=-y) (u:=x) hu (by rw[qb9];show hz) (by rw[qb9];show hy) hx).mono ?g,(h.2.2.blend hp hq ne hx hy hz hu).mono ?g]
abbrev shrS[?G](p f:Nat)[?dm]:?Am| 0=>s| ?a6=>?eG p ?bX (-((?nV).1 p ?h9 / (?nV).1 ?bX ?h9)) ?nV
def pZ[?nE][?be][?q]{p f m μ β c:Nat}(P:?jY)[?MB][?MY](hc:?TK m<?Y)(b:?D6) : ∀d,?bX<=m->?NU ?bX ?fW ((?m9).2)/\?Mw (β+d*?a9) ?m9/\∀l c,l≠p->?fW l c=?fh:=by intro d;induction d with| zero=>intro _;show#[?Ax h,b.mono ?g,?fV]| succ d ih =>intro hd;let#[i1,i2,i3]:=?aL;let ?lk:=i1.step P ?g (?Mv (?bX<m)) hp hm hn hpf;let e:?Gu=R ?bX ?h9:=i3 _ _ ?g;(let qb:(-(?fW p ?h9 / ?Gu)).natAbs<?Y:=by rw[qb9,e];apply qc1 q1 (qc1 ?_ hc);show ?Dv);apply#[?_,(i2.add ?g ?g qb).mono ?xQ,λl c hl=>?_];{exact VA n W w lo R B t p f m (?bX+1) μ (?I ?fW p ?bX _) (?I (?m9).2 ?bX p _);rw[e,qn8];show q2};exact ?I ?fW p ?bX _ l c=_;rw[D6 hl];show i3 l c hl
def vN[?ac][?be][?q][?up][?uf][?u9][?uF][?uZ] : ∀d,?hB->eY n W w i G R B t b p ?h μ ?ck ?s9 (?mL).2:=by intro d;induction d with| zero=>intro _;show eY.start h| succ d ih =>intro hd;let i1:=?aL;let ?lk:=i1.step P hG ?g (?Mv (?ck<i)) hn hp;let e:?s9 ?ck ?y8=R ?ck ?y8:=i1.s.same _ _ ?g;exact eY n W w i G R B t b p ?h μ (?ck+1) (?I ?s9 p ?ck _) (?I (?mL).2 ?ck p _);rw[e,qn8];show q2
def Wg[?ac][?be][?q]{b p spot μ β c:Nat}[?uf](inc:?tu)[?u9][?uF][?dp][?uZ](hc:?nl<?Y)[?el] : ?QD ((?CD).1) ((?CD).2)/\∀d,?hB->?Mw (β+i*?a9) ?mL:=by let r:=vN (W:=W) (w:=w) (B:=B) (b:=b) P h hG hn hp ?b3 ?g;rw[?Mv (?z+?b3=i)]at r;apply#[r.done inc,?lg];let:=(pZ (W:=W) (w:=w) (lo:=?k) (B:=B) P ?K4 ?g ?g ?g ?g (c:=c) (qc1 ?Dv hc) bb d hd).2.1;apply this.mono ?_;let:=qc2 ?a9 (?Mv (d<=i));ext d
universe Lat
namespace Lat
open Hb
variable[?cO]
meta abbrev cS(π i:Nat):Nat:=i+?fe+2
meta abbrev cM(π i:Nat):Nat:=π+2+2*(i*(?db+1))
def fX{x π:Nat}(h:?Rf x):x<?hX:=by let:?Rf 1:=qk8;rw[qh4];ext d
def YH{π i μ:Nat}(h:μ<=?ba):?nl<2 ^ ?db:=by (let e:2 ^ ?db=2*?wK:=by rw[show ?db=1+(i+?yf) by unfold cS;ext d,qe3,qe3,Nat.pow_one]);rw[e];let a:=qf8 ?hK h;(let b:1<=?wK:=by rw[←qe3];show qk8);ext d
variable[?ac][?dl][?q]{π b spot β:Nat}
def Ew.partOf[?dk]{R1:Mat}(e:?Pf (r<i->?tI=?bR)) : ?dS R1 t ?z i/\?tu/\∀r c,?gB->?TD ?tI:=by let k:?Pf (r<i->?tI=?sx):=λr c h1 h2=>(e r c h1 h2).trans (?bo r c ?g h2);apply#[(H.part.sub ?J).congr λj c h1 h2=>?PP k h2,?No (?fJ ?h l ?J h1 h2),λr c h1 h2 hc=>?_];rw[k r c h1 h2];show ?SN H.rw r h2
def Ew.meetAdd[?dk][?dp][?mq]{q:Int}[?Mg][?el] : ?My ?z ((?AJ).1) ((?AJ).2) ∧ ?Mw ?iT ?g1/\?Ry i ?g1:=by let hn:=H.hi;(let hq:?sk:=by let a:=h.pv ?h ?l hs;let p:=?aS ?h hs;rw[he,qb5]at a;show ?s ?i3 a);let b1:?Mw ?i7 ?g1:=bb.add hn ?g (c:=?cp) (by rw[qb9];show fX hq);let ?zW:=?OG ?xj ?Kp;let#[S,bs]:=Wg (n:=n) (W:=W) (w:=w) (G:=G) (B:=(?g1).2) (p:=i) (μ:=?hX) (β:=?i7) (c:=?db) P inc (h.addPre H hs hq) hG hs hn ?FU (YH ?aZ) b1;apply#[h.metAdd H hs hq hz he ?_,?xJ,?O4 bs];(let e:(?g1).2=?EM:=by exact ?I B ?h i (- -q)=_;rw[qn8]);rw[←e];show S
def Ew.meetBlend[?dk][?dp][?mq][?uA][?el] : ?My ?z ((?wA).1) ((?wA).2) ∧ ?Mw ?iT ?g5/\(?Ry ?h ?g5) ∧ ?Ry i ?r2:=by let hn:=H.hi;ext uU;let b1:?Mw ?i7 ?g5:=bb.blend ?g hn ne (c:=?cp) (fX e.lx) (fX e.ly) (fX e.lz) (fX e.lu);have ?Ey:=h.blendPre H hs e;have ?zW:=?OG ?sR ?JB;have#[S1,bs1]:=Wg (n:=n) (W:=W) (w:=w) (G:=G) (B:=(?g5).2) (p:=spot) (μ:=?ba) (β:=?i7) (c:=?db) P inc p1 hG hs hn (?T ?l) ?zC b1;let b2:=bs1 ?b3 ?g;generalize hs2:?r2=s2 at *;let B54:?S7 ?h (?sR,(?g5).2)=s2:=hs2;rw[B54]at S1 b2;ext gX;(let#[P2,B40,hG2]:=?OG ?g3 (by rw[?T7 ?ii,Fa ?g ?g]));(let p3:∀l,?dR->l<i->?N5 ?g3 ?K (?ba*(?g3 l ?K).natAbs):=?No (by rw[?ii i _ ?ca,?y7];show p2 l h1 h2));let#[S2,bs2]:=Wg (n:=n) (W:=W) (w:=w) (G:=G) (R:=?g3) (B:=s2.2) (p:=i) (μ:=?ba) (β:=?i7+i*(?db+1)) (c:=?db) P2 B40 p3 hG2 hs hn ?FU ?zC b2;apply ?bT;show#[h.metBlend H hs e hz S1 S2,?xJ,?O4 bs1,?O4 bs2]
universe Lat
namespace Lat
open Hb
variable[?cO]
abbrev downS[?G](i:Nat)[?dm]:?Am| 0=>s| ?a6=>?Sc t (?cE t i s d) d
private def dD[?ac][?dl][?q]{Y β:Nat}(I:Ins n W w i G R0 B0 t Y R B)[?c2][?el] : ∀d,?f2->?zh/\?F0 ∧ (d<=i->∀m,m<=d->?xY):=by intro d;(let nxt:∀d,d<=i->?zh->?F0 → ∀m,m<=d->VA n W w ?k (?d3).1 (?d3).2 t ?aN ?ah ?k (?ah+m) ?lr (?qY).1 (?qY).2/\?xY:=by intro d hd D b m hm;generalize hs:?d3=s at *;let#[R1,B1]:=s;let P:=D.part;rw[?Kf]at P D;(let rel:∀l,?ah<=l->l<?k->?N0 ?J1 (?lr*(?CV).natAbs):=?No (by let o:?J1=R ?aN ?K:=D.old ?aN ?K ?g;let p:0<?CV:=?z9 l h2;rw[o];apply ?s (I.gc ?aN ?K ?g (I.pg l ?g)) ?i3));let run:=pZ (n:=n) (W:=W) (w:=w) (lo:=?k) (R:=R1) (B:=B1) (p:=?aN) (f:=?ah) (m:=?k) (μ:=?lr) (c:=?k+Y+1) (β:=?HC) P rel ?g ?l hi (?T ?g) (by rw[←qe3];ext uM) b m ?g;apply#[run.1,run.2.1.mono ?_];rw[qg5 d 1,qg4];let:=qc2 ?rx (?Mv (m<=?k));let e:m*(?k+Y+1+1)=m*?rx:=rfl;ext d);induction d with| zero =>intro _;let D0:?OC (?k-0) ?nS ?nS:=R8.start I.s0;let b0:?Mw (β+0*?u2) ?nS:=?kR ?g;show#[D0,b0,λhd m hm=>(nxt 0 hd D0 b0 m hm).2]| succ d ih =>intro hd;let#[D,b,_]:=?aL;let#[S,b2]:=nxt d ?g D b d ?l;(let D2:?OC ?Kb ?HA ?HA:=by rw[?Mv (?Kb=?aN)];rw[?Kf]at D;rw[?Mv (?ah+d=?k)]at S;show D.next ?g S);show#[D2,b2,λh m hm=>(nxt ?a6 h D2 b2 m hm).2]
universe Lat
namespace Lat
open Hb
def sumN_cut[?a4]{j:Nat}:∀{i:Nat},?bQ->(∀k,j<=k->k<i->f k=0)->?i f i=?mB| 0,h,_=>by rw[?ND j]| ?k,h,hz=>by cases e:j=?k;{rw[e]};exact ?i f i+?R=_;rw[?rS ?g λk h1 h2=>hz k h1 ?g,?PU hz i];ext d
def IM[?a4]{m h:Nat}:∀{j:Nat},(?Nw j (?rs<=?T3 k))->(?mB).natAbs+m*h<=?T3 j| 0,_=>by exact(0:Int).natAbs+m*h<=?T3 0;simp| ?F,hf=>by let a:=IM (f:=f) (m:=m) (h:=h) (j:=j) λk hk=>hf k ?g;let b:=?SI hf;let c:=qf6 ?mB ?a7;exact(?mB+?a7).natAbs+m*h<=_;rw[qh4];(let e:2 ^ j*2*m*h=?T3 j+?T3 j:=?U);ext d
def AO{a b:Int}{m:Nat}(h:(a+b).natAbs<=m):b.natAbs<=m+a.natAbs:=by let h5:=Int.natAbs_sub_le (b+a) a;rw[qy9,qx3]at h5;show ?s h5 (qo7 h _)
def Ac7{x s m M K:Nat}(h1:x<=m+s)(h2:s+M<=K)(h3:m*1<=M):x<=K:=?g
def YK{i:Nat}[?be][?q](P:?z6){a m:Nat}(h:?NF i (?x4<=m)):?pa:=by intro j;induction j using Nat.strongRecOn with| _ j ih =>ext LM;let hs':?wW<=m:=hs;ext LK;(let c:?IY:=by show Ac7 ?Em b ?hV);rw[qb5]at c;show ?CC
def E3.backs[?ac][?nC][?q][?ek](hi:i<=n){a m:Nat}(hb:∀k,i<=k->B k a=?BB)(hM:?SY ?nK m)(hM2:?SY ?jH m)(ha:i<=a->a<n->?NF i (?nK=?jH)):?pa:=by apply YK ?r3 ?aY;let e:?KO=?nK:=h.good.pt a ?x;(let s:?KO=?Pw ?HG:=by (let:∀d,?d2<=n->?H8=?Pw ?Dn:=by intro d;induction d with| zero=>intro _;ext cN;exact ?i _ i=_;(ext d)| succ d ih =>intro hd;exact ?H8+B ?d2 a*R ?d2 ?x=_;rw[?aL,hb ?d2 ?g,?ji ?d2 _ ?g];cases z:?d2=a;{subst z;rw[?w,?r,?P];ext d};ext cR;cases y:?Dn;{rw[?m3,?P];ext d};rw[?jE,?r];ext d);let:=?N (n-i) ?g;rw[?Mv (i+(n-i)=n)]at this;show this);cases z:?HG;{rw[?aD,e,ha z.1 z.2 j hj]at s;let:?kz=0:=?g;rw[this];show ?J};rw[?bM,qf3]at s;rw[←s,e];show ?ST hM
def VM[?q][?bL](inc:?Ol n):?Ep:=by (let:?BJ:=by intro m;induction m with| zero=>ext Lw| succ m ih =>ext MC;{(let hrm:r=m:=?PF inc);show ?zD};ext Lg);show ?Ix
def E3.first{n W w D:Nat}[?bc][?q](hD:R9 n G M D)[?uW] : ∃r,?as/\?JV/\?Il/\Vd n W w r t ?hQ R/\?vG<=D/\?L7:=by have#[r,hr,?Z]:=VM (w:=w) ?iW;let pos:?Nw n (0<(?hQ) k):=?Pz (?hd k hk);apply#[r,hr,?Im,?K9,#[λj c _ a b=>?ld j c a b,λj k _ a b=>?iW j k a b,h2,λj _ a=>?f3 j a,λj _ _=>rfl,λj _ a=>?hd j a,λk j _ a b=>?kc k j a b],?_,?aY];{let a:=BV (n:=n) pos r hr;let b:=?RE ?l;rw[GJ ?r0]at b;let c:=Dv (n:=n) pos;ext d};let:=h.headD hD ?l hj;let:=?vE;ext d
variable[?cO]
def addS_zero(p q:Nat)[?dm]:?eG p q (-0) s=s:=by unfold addS;rw[?Fm,?Fm,HS,HS]
def kK[?q]{p f:Nat}[?bd]:∀m,(∀j,?e6->j<?iQ->s.1 p ?x / ?lt=0)->?kP=s| 0,_=>rfl| ?V,h=>by let ih:=kK (t:=t) (p:=p) (f:=f) (s:=s) m (?Nx (h j h1 ?g));exact ?eG p ?iQ (-((?kP).1 p ?zP / (?kP).1 ?iQ ?zP)) ?kP=s;rw[ih,?PU h ?iQ,addS_zero]
structure A57(i:Nat)[?G](R:Mat):Prop where
 inc:?NF i (?x<?bV)
 zero:∀x,x<?bV->?kX=0
 pos:?Oy ?gi
 red:?QK i ?rd
abbrev Ni(R:Mat)[?G](i k:Nat):Int:=R k ?bV / R i ?bV
structure Rn(n i β c:Nat)[?G][?aP](d:Nat)[?dm]:Prop where
 rows:∀r x,s.1 r x=if ?sZ then ?i4+?yg else ?i4
 old:∀r x,?jf->s.2 r x=B r x
 back:∀x,x<n->?N0 ?Hb (?hl*?a6)
def Rn.step{n i β c:Nat}[?q][?be]{d:Nat}[?bd](L:?Ar)(bb:?Go)[?uG](hd:d<?k)(h:?xB) : ?NZ t ?a6 (?Sc t s d)/\?xF:=by (let own:∀x,s.1 ?aN x=R ?aN x:=?zl);(let ri:∀x,s.1 i x=?kX:=?zl);(let hdj:?Oy (?lt=?al):=?NJ (by rw[h.rows];cases z:?lR<=j/\j<i;{rw[?aD,L.zero ?x (L.inc j z.2)];simp};ext cR));(let zq:∀m,m<d->∀j,?ah<=j->j<?ah+m->s.1 ?aN ?x / ?lt=0:=λm hm j h1 h2=>by rw[own,?SI hdj];let ?cf:=?TN L.red ?aN j;show Int.ediv_eq_zero_of_lt a b);let zs:?xF:=?P1 (kK m (zq m hm));apply#[?_,zs];cases d0:d=0;{subst d0;exact ?NZ t 1 s;apply#[?ou,?bo,λx hx=>?s ?oT ?hV];rw[h.rows,?r,?r]};obtain⟨e,rfl⟩:∃e,d=?e3:=#[d-1,?g];(let last:?aE t ?bS ?jA s ?e3=?eG ?bS i (-?l8) s:=by exact ?eG _ (?jA+e) _ (?aE t ?bS ?jA s e)=_;rw[zs e ?g,?Mv (?jA+e=i),own,hdj i ?l];rfl);rw[last];apply#[?ou,λr x hr=>?_,?lO];{exact ?I s.1 ?bS i _ r x=_;cases z:r=?bS;{subst z;rw[C0,own,ri,?P,qd8]};rw[D6 z,h.rows];cases y:?k-?e3<=r/\r<i;{rw[?m3,?P]};rw[?jE,?r]};{exact ?I s.2 i ?bS _ r x=_;rw[D6 hr];show ?bo r x hr};exact(?I s.2 i ?bS (- -?l8) i x).natAbs<=_;rw[C0,qd8,qn8,?bo ?bS x ?g];let a:=?oT;let b:=qf6 ?Hb (?l8*B ?bS x);rw[qb5]at b;let m:(?l8).natAbs*(B ?bS x).natAbs<=?Y*?b9:=?Qq (qe6 (hq _ ?g)) (bb _ _ ?g hx);rw[←qe3,?CE]at m;rw[Nat.mul_add _ (?e3+1) 1,Nat.mul_one];ext d
def xE{n W i β c:Nat}[?q][?be](L:?Ar)[?el][?uG] : ∀d,?f2->?NZ t d ?d3:=by intro d;induction d with| zero =>intro _;apply#[?ou,?fV,?lO];{rw[?r];rfl};exact ?Eo<=_;let a:?Eo<?b9:=?Tg ?kT x hx;let p:?wv:=?aZ;(ext d)| succ d ih =>intro hd;show((?aL).step L ?kT hq hi ?g).1
def Rn.bits{n W i β c:Nat}[?q][?be]{d:Nat}[?bd][?el][?uG](hd:?f2)(h:?xB):?Mw ?s7 s:=by apply#[?pN,?pN,?pN];{rw[h.rows];cases z:?sZ;{rw[?aD];let e:=qf6 ?i4 ?yg;rw[qb5,qb9]at e;let a:=?GO;let b:=bb.1 i x hi hx;let m:(?u3).natAbs*(?kX).natAbs<=?Y*?b9:=?Qq ?Eg b;rw[←qe3,?CE]at m;let p:?wv:=?aZ;(let q:4*?hl<=2 ^ ?s7:=by (let e4:4*?hl=?R3 2 ?eB:=by rw[qe3 2 2 ?eB]);rw[e4];show ?aZ);let a':?FI<?b9:=a;ext d};rw[?bM];show ?Qr ?GO};{cases z:r=i;{subst z;let a:=?oT;(let l:?a6<?R3 r 2:=by let:=qp5 (n:=r+2);ext d);apply qc1 a ?_;(let e4:?R3 β (c+r+3)=?hl*?R3 r 3:=?qo);rw[e4];apply qt5 ?_ qk8;show ?Qr l};rw[?bo r x z];show ?Qr (?kT r x hr hx)};rw[h.rows];cases z:?sZ;{rw[?aD];let:=U8 (a:=1) (k:=-?u3) (c:=c) ?IO (bb.2.2 i x hi hx) ?KL (by rw[qb9];show ?Eg);rw[qd8]at this;show ?Qr ?N};ext cR;show ?Qr ?IO
universe Lat
namespace Lat
open Hb
variable[?cO]
def fdiv_small{x h:Int}{c:Nat}(hh:0<h)(hx:?Gx):?Jd<?Y:=by let:=rC (x:=x) (h:=h) (K:=x.natAbs) hh ?i3;ext d
def E3.putB{n W w i β:Nat}[?bc][?q][?ek][?c2][?n4](bb:?OV β R):Mg n W w i G R B t β β :=#[hi,?r3,?f3,?NJ (qe6 (bb j _ ?g ?o0)),?Mz (qe6 (bb r c ?g ?rc)),?Ny (qe6 (?Tg bb c ?rc)),λl hl=>qe6 (?Tg bb _ (?f3 l hl))]
def Ct.last{n W w r i β c:Nat}[?bc][?bt][?ij](hn:?y)[?n4](hG:G ?b5)[?el](hc:?Nw i ((R k ?b5).natAbs<?Y)) : ?OF ?bb ((?yQ).1) ((?yQ).2) ∧ (∀d,?f2->?NZ ?bb d ?kn/\?Mw ?s7 ?kn) ∧ (∀d,d<?k->?Ql ?bb ?kn ?kn):=by let H:=h.st.putB hn hGW bb.1;let#[I,_]:=h.ins K hi H hG;let D:=(dD I hn bb ?k ?l).1;rw[qh9]at D;ext M8;ext u5;let L:A57 i ?bb R:=#[?NJ (I.s0.inc j i hj ?g),λx hx=>I.s0.zero i x ?g hx,?NJ (?SI I.s0.pos),λk j h1 h2=>by rw[t1 j h2];show ?KI k j h1 h2];let hq:?Nw i (?D3<?Y):=?Pz (?Ih (L.pos i ?l) (by rw[t2];show hc k hk));let run:=xE L bb hq hn;show#[h.nextK K hi hn I D,λd hd=>#[?sJ,(?sJ).bits bb hq hn hd],λd hd=>((?Jp).step L ?kT hq hn hd).2]
abbrev HX(n r i:Nat)(kt:?C)(c:Nat)(R:Mat):Prop:=∀k j,k<i->i<=j->?L->?Pe ?JH ?Y
def Ct.above{n W w r i β c η:Nat}[?bc][?bt][?bd][?ij](hn:?y)(hη:?Gq)(a:HX n r i kt c R)(l:?NZ ?bb ?k s):?P6 ?k (c+η+1):=λk j h1 h2 h3=>by ext u5;(let mi:(R i ?aV).natAbs<?fy:=by ext uP;let#[m1,m2]:=?gw i j ?g ?g h3;let:=hη j ?g h3;ext d);let p1:?fy<=?R3 c η:=?aZ;let p2:?Y<=?R3 c η:=?aZ;rw[l.rows,qh4];cases z:?k-?k<=k/\k<i;{rw[?aD];let e:=qf6 ?JH (-?E8*R i ?aV);rw[qb5,qb9]at e;(let q:?D3<=?Y:=by unfold Ni;rw[t2];(let p:0<R i ?b5:=by rw[?HX,?Cb];show ?hb i hi hn);show qe6 (?Ih p (a k i z.2 ?l hn)));let m:=?Qq q mi;rw[←qe3]at m;let b:=a k j z.2 ?g h3;ext d};ext cR;let:k=i:=?g;subst this;ext d
universe Lat
namespace Lat
open Hb
abbrev put2[?aO][?cz](x y:Int):?t:=λk=>if k=i then x else if k=j then y else f k
def Wz[?aO][?cz](x y:Int):?Q9 i=x:=?w
def Wy{i j:Nat}[?aO](h:?cc)(x y:Int):?Q9 j=y:=by unfold put2;rw[?SD h,?w]
def Mm{i j k:Nat}[?aO](h1:k≠i)(h2:k≠j)(x y:Int):?Q9 k=f k:=by unfold put2;rw[?cJ,?cV]
structure Bo5(o t g r:Int):Prop where
 go:g∣o
 gt:g∣t
 tr:t∣r
 pr:g*r=o*t
 all:∀d:Int,d∣o->d∣t->d∣g
def Shares.pair{A B g a b:Int}(h:?GF):Bo5 A B g (?f5*B):=by let ?tD:=h.dA;ext Ln;apply#[h.dA,h.dB,#[?f5,?nu],?_,λd h1 h2=>?_];{rw[k1,←qe2,←eA]};rw[h.e];show ?KV (qv0 h1) (qv0 h2)
abbrev ChainTo(m i:Nat)[?aO]:Prop:=∀a b,a<i->a<b->b<m->f a∣f b
abbrev ChainAt(m i j:Nat)[?aO]:Prop:=?Cf/\∀b,i<b->b<j->?R∣f b
def ChainAt.step{m i j:Nat}[?a4]{g r:Int}(h:?xX)[?uo](p:Bo5 ?R ?a7 g r):?iP m i ?F (?R2 g r):=by let ne:?cc:=?g;apply#[λa b ha hab hb=>?_,λb hb hbj=>?_];{rw[Mm f (?Mv (a≠i)) (?Mv (a≠j))];let d1:=h.1 a i ha ha ?g;let d2:=h.1 a j ha ?g hj;cases e1:b=i;{rw[e1,Wz];show p.all _ d1 d2};cases e2:b=j;{rw[e2,?e2];show qy8 d2 p.tr};rw[?wz];show h.1 a b ha hab hb};rw[Wz];cases e2:b=j;{rw[e2,?e2];show qy8 p.gt p.tr};rw[Mm f ?g e2];show qy8 p.go ?Gm
def ChainAt.skip{m i j:Nat}[?a4](h:?xX)(d:?jC):?QU ?F:=#[h.1,λb hb hbj=>by cases e:b=j;{rw[e];show d};show ?Gm]
def ChainTo.at{m i:Nat}[?a4](h:?Cf):?QU ?k:=#[h,λb h1 h2=>?g]
def ChainAt.next{m i:Nat}[?a4](h:?QU m):ChainTo m ?k f:=λa b ha hab hb=>by cases e:a=i;{rw[e]at hab ⊢;show h.2 b hab hb};show h.1 a b ?g hab hb
def a9{f f':?t}{i:Nat}:∀{m:Nat},i<m->(?Nw m (k≠i->f' k=f k))->?jm*?R=?bl*f' i| ?V,hi,h=>by exact ?jm*f' m*?R=?bl*f m*f' i;cases e:i=m;{subst e;(let:?v f' i=?v f i:=by (let:∀l,l<=i->?yK=?v f l:=by intro l;induction l with| zero=>intro _;rfl| succ l ih=>intro hl;exact ?yK*f' l=?v f l*f l;rw[?aL,?PU h l]);show ?N i ?l);rw[this];grind};let ih:=a9 (f:=f) (f':=f') (i:=i) (m:=m) ?g ?dh;rw[h m ?g ?jT];(let:?jm*f m*?R=?jm*?R*f m:=?U);rw[this,ih];grind
def SW[?a4]{i j m:Nat}{x y:Int}[?uo](h0:?R≠0)(hj0:?a7≠0)(e:x*y=?R*?a7):?jU=?bl:=by let ne:?cc:=?g;(let a:=a9 (f:=f) (f':=?pR) (i:=i) (m:=m) ?g λk hk hne=>by cases z:k=j;{rw[z,?e2]};show Mm f hne z ..);(let b:=a9 (f:=?pR) (f':=?vI) (i:=j) (m:=m) hj λk hk hne=>by cases z:k=i;{rw[z,Wz,Wz]};rw[?D0,?D0]);rw[Wz]at a;rw[?e2,?e2]at b;(let c:?jU*?oS=?bl*?oS:=by (let:?jU*?oS=(?jU*?a7)*?R:=?U);rw[this,b];(let:?B7*y*?R=(?B7*?R)*y:=?U);rw[this,a];(let:?bl*x*y=?bl*(x*y):=?U);rw[this,e];grind);show Int.eq_of_mul_eq_mul_right (Int.mul_ne_zero hj0 h0) c
structure Bil(β:?Ff):Prop where
 l:∀u v y a b,β ?ha y=a*β u y+b*β v y
 r:∀x u v a b,β x ?ha=a*β x u+b*β x v
def IF{β:?Ff}(hb:Bil β){P Q:Mat}[?a4]{i j n w:Nat}(ne:?cc)(hin:?y)(hjn:?L)(hiw:i<w)(hjw:j<w)(h:?SW (β ?kO (Q y)=?ED))[?Mb] : ?SW (β (?I ?iF j i ?jZ x) (?a8 Q i j a b ?tX ?eA y)=if x=y then ?dL f i j g ?hm x else 0):=by let ?tD:=S.dA;let#[q,eB]:=S.dB;(let g0:g≠0:=by let:=S.pos;ext d);(let k1:?eA=p:=?v9);(let k2:?pz=q:=?K1);(let k3:?sy=b*q:=by rw[eB,show b*(g*q)=g*(b*q) by grind];show ?nW);let e0:=S.e;let ne':j≠i:=?ca;rw[k1,k2,k3];(let pi:?Pm i=?Du:=by rw[?eH ne,Qf]);(let pj:?Pm j=λc=>1*P j c+?f1*(?Du) c:=by rw[Qf,?eH ne',Qf]);(let po:∀x,x≠i->x≠j->?Pm x=?kO:=λx h1 h2=>by rw[?eH h2,?eH h1]);let ii:=h i i hin hiw;let ij:=h i j hin hjw;let ji:=h j i hjn hiw;let jj:=h j j hjn hjw;rw[?w]at ii jj;rw[?eY]at ij;rw[?p ne']at ji;intro x y hx hy;cases y1:y=i;{subst y1;rw[?gs];cases x1:x=y;{subst x1;rw[?w,Wz,pi,hb.l,hb.r,hb.r,ii,ij,ji,jj];grind};rw[?tm];cases x2:x=j;{subst x2;rw[pj,hb.l,hb.l,hb.r,hb.r,ii,ij,ji,jj];(let:1*(a*0+?gk)+?f1*(1*(a*f y+b*0)+1*(a*0+?gk))=?gk-b*q*(a*f y+?gk):=?U);rw[this,←e0];(let:?gk=b*(g*q):=by rw[←eB]);rw[this];grind};rw[?oB,hb.r,?iA,h x j hx hjw,?tm,?nm];simp};cases y2:y=j;{subst y2;rw[blend_row_q];cases x1:x=i;{subst x1;rw[?eY,pi,hb.l,hb.r,hb.r,ii,ij,ji,jj];(let:1*(-q*f x+p*0)+?QW y=p*f y-q*f x:=?U);rw[this,eA,eB];grind};cases x2:x=y;{subst x2;rw[?w,?e2,pj,hb.l,hb.l,hb.r,hb.r,ii,ij,ji,jj];(let:?QW x+?f1*(1*(-q*?R+p*0)+?QW x)=p*f x-b*q*?yc:=?U);rw[this];(let:?yc=0:=by rw[eA,eB];grind);rw[this];ext d};rw[?nm,?oB,hb.r,h x i hx hiw,?iA,?tm,?nm];simp};rw[?pn y1 y2];cases x1:x=i;{subst x1;rw[?rh,pi,hb.l,?iA,h j y hjn hy,?rh,?t6];simp};cases x2:x=j;{subst x2;rw[?t6,pj,hb.l,hb.l,?iA,h i y hin hy,?t6,?rh];simp};rw[?oB,?iA];cases e:x=y;{rw[?cD,?cD,Mm f x1 x2]};rw[?cC,?cC]
abbrev Sb[?aJ](A:Mat)(p q:?t):Int:=?Sp ?J5
def rO[?aJ](A:Mat):Bil (Sb n w A):=by apply#[λu v y a b=>?_,λx u v a b=>?_];{unfold Sb;rw[←Bc,←Bc,←C3];show ?pv};unfold Sb;ext is;apply ?tT;(let:?i (λc=>A k c*?oJ) w=a*?Qv u+b*?Qv v:=by ext is;show Af λc _=>?U);rw[this];grind
def j7[?bL]{A:Mat}{p p' q q':?t}(hp:∀a,a<n->p a=p' a)(hq:∀b,b<w->q b=q' b):?BS=?NO p' q':=by unfold Sb;apply Af ?Ap;rw[hp a ha,Af λb hb=>by rw[hq b hb]]
def Qc[?aJ](A:Mat)(p q:?t):?BS=Sb w n ?kM q p:=by unfold Sb;rw[show ?J5=λa=>?i (λb=>p a*?HN) w from ?aj λa=>(Bc ..).symm];rw[Cm];apply Af λb _=>?_;rw[←Bc];show Af λa _=>?U
def JR[?bL]{A:Mat}{x:?t}{U:Mat}{q:?t}:∀m,?NO ?Ev q=?pe| 0=>by exact ?NO ?cF q=0;unfold Sb;show ?a2 λa _=>?aM| ?V=>by (let e:?R4 ?p7 ?Ev ?tt:=?OM (?Sf (?sv+?tt) (1*?sv) ?tt));rw[e,(?K3).l,JR m];exact 1*?pe+x m*?NO (U m) q=?pe+x m*?NO (U m) q;ext d
abbrev uR[?aJ](A Q M:Mat):Prop:=?SX (M k c=?NO (λa=>M k ?b0) ?eI)
def uR.rows{n w W:Nat}{A Q M R:Mat}(h:?Gb)(hW:?rz)(e:∀i,?y->In W n M (R i)):?Fb:=λi c hi hc=>by let ?aG:=e i hi;rw[?iE];let:?NO (λa=>R i ?b0) ?eI=Sb n w A (λa=>?N2 (x k*(λk a=>M k ?b0) k a) n) ?eI:=j7 (λa ha=>?zS) ?d6;rw[this,JR];show Af λk hk=>by rw[?nP]
def E3.told{n W w:Nat}[?gc]{A Q M B0 R B:Mat}[?q][?uW](hW:?rz)(k:?Gb):?Fb:=k.rows hW (?GD).1
abbrev beside(w:Nat)(T P:Mat):Mat:=λr c=>if c<w then T r c else P r ?lE
def beside_lo{w:Nat}{T P:Mat}{r c:Nat}(h:c<w):?OU r c=T r c:=?u h
def beside_hi(w:Nat)(T P:Mat)(r a:Nat):?OU r ?b0=P r a:=by unfold beside;rw[?r,Nat.add_sub_cancel_left]
def Sd[?M2]:?RK ?ap:=λk c hk hc=>by rw[?mQ,?nP];show j7 (λa _=>(beside_hi w T P k a).symm) ?d6
def Zw[?M2]:∀c k,c<w->k<n->tr T c k=Sb w n ?kM ?eI (P k):=λc k hc hk=>by exact ?bh=_;rw[?nP,Qc]
variable[?cO]
abbrev Hs(π b i:Nat):Nat:=i*?dt+?k*?sT
abbrev Fl(π b:Nat):?C| 0=>0| ?k=>?lx+?lp
abbrev Vc(c η r:Nat):?C| 0=>0| ?a6=>?L1+(c+d*?c7+?hL+3)
universe Lat
namespace Lat
open Hb
variable[?cO]
def Ct.wide[?gb]{G G':?az}[?nC][?bt][?Mf](hG:∀c,G c->G' c):?NV i G' M:=#[#[h.st.good,h.st.st,?NJ (hG _ (?ST ?pL))],?mG,?hy]
def YL{n W r β:Nat}{kt:?C}[?bd](b:?H2)(hr:?as)(hC:?N9 (C ?aV))(hδ:δ<=β):?P6 r ?E6:=λk j h1 h2 h3=>by
 let:=b.2.2 k ?aV ?g (hC j h2 h3);let e:?b9=2 ^ ?E6*?fA:=?qo
 rw[e]at this;show Nat.lt_of_mul_lt_mul_right ?N
abbrev moveS(i s:Nat)(x:?am):?am:=(?aI x.1 i s,?aI x.2 i s)
abbrev tK(p:Nat)(x:?am):?am:=(Iq x.1 p,Iq x.2 p)
def Ax5{n i s r:Nat}[?ep](hr:r<n):?cU<n:=?pD
def BB.move{n W β i s:Nat}[?uO][?ep]:?Mw β (?me i s x) :=#[h.1.move hi hs,h.2.1.move hi hs,?Mz (by exact(?aI x.1 i s r c).natAbs*_<_;rw[move_row];show h.2.2 _ c (Ax5 hi hs hr) hc)]
def BB.neg{n W β p:Nat}[?uO]:?Mw β (tK p x) :=#[h.1.neg,h.2.1.neg,?Mz (by exact(Iq x.1 p r c).natAbs*_<_;unfold Iq;cases e:r=p;{subst e;rw[Bq,qb9];show ?IE};rw[?du];show ?IE)]
abbrev insS(i spot st:Nat)(x:?am):?am:=if (?nh).1 ?h st<0 then tK ?h ?nh else ?nh
def Az1(i spot st:Nat)[?aP]:?nM=?Fn:=?NY ?wq ?wq
def Az0(i spot st:Nat)[?aP]:?qw=?BC:=?NY ?J9 ?J9
def BB.ins{n W β i spot st:Nat}[?uO][?c2](hs:?bn):?Mw β (?Sl x):=by unfold insS;split;{show(?JW).neg};show ?JW
def ZX{n W w i β:Nat}[?gc][?dl][?q]{π b spot st:Nat}[?Mr](p:?pS)[?La](bb:?Mw ?qq ?au) : ?O0 ?nM ?qw ∧ R8 n W w i ?nM ?qw ?bE 0 (?yq).1 (?yq).2 ∧ ?BQ ∧ (∀d,?f2->?Mw ?iM ?Jw) ∧ (∀d,d<=i->∀m,m<=d->?Mw ?iM (?Sc ?bE ?Jw m)):=by let I:=p.ins H hs h0 h1 hW hG hpg hex;rw[←Az1,←Az0]at I;let b1:?BQ:=(?kR (by let:=qc2 ?dt hs;ext d)).ins ?bk hs;let run:=dD (β:=?oM) I ?bk b1;(let up:∀d,?f2->?oM+d*?sT<=?iM:=λd hd=>by unfold Hs;let:=qc2 ?sT hd;ext d);apply#[I,?_,b1,λd hd=>(?sJ).2.1.mono (up d hd),λd hd m hm=>((?Jp).2.2 hd m hm).mono (up ?a6 ?g)];let D:=(run ?k ?l).1;rw[qh9]at D;show D
universe Lat
namespace Lat
open Hb
variable[?cO]
def AF{w m D:Nat}{T P:Mat}(h:R9 m ?dA T D):R9 m ?dA ?ap D:=λi hi s hs=>by let e:(?o i λr l=>?OU r ?b4)=?t0:=Ej λr c _ hc=>?hs ?zK;rw[e];show h i hi s hs
def In.cols{w n:Nat}{R R':Mat}{u v:?t}(h:?E1)(hR:?OY ?dy R')(hu:?Ek):?P5 R' v:=by let ?aG:=h;show#[x,?Ny (by rw[←hu c hc,?cr];show ?TV hR hk)]
def Fk.cols[?bL]{T T' S S':Mat}(h:?qI)(e:?OY ?bh S)(e':?OY ?tC S'):Fk n w S S':=by let#[r,t,hr,st,hz]:=h.st;apply#[?Om h.fwd e e',?Om h.bwd e' e,r,t,hr,#[st.lt,?k4,?eh,?aY,λk j hk hj=>?_],?Sj (by rw[←e' i c h2 h3];show hz i c h1 h2 h3)];{rw[←?PP e' (by let:=?lG;ext d)];show ?SN ?lm j hj};{rw[←?BU];show ?te};rw[←e' k _ ?g ?lG,←?BU];show ?p6 k j hk hj
def tP{n W w r i E π b:Nat}{e:Int}{T P B0 R B:Mat}[?bt][?iw](hW:w<=W)(h:?NV i ?dA ?ap)(hi:i<r)(hE:?Rf E)[?n1](hb:i*E<=?M)(hπ:π<=b):?OD ?dA R B:=by let rn:=g.sq.rn;apply h.st.putD (AF g.dets) ?g ?g ?I0 (b0:=π) ?ce hE hb ?l hπ;rw[?mQ];let ?po:=?SN g.le i ?g;ext d
def Q8{n w r E:Nat}{e:Int}[?gc]{A Q T P B0 R B:Mat}[?bt](he:0<e)[?iw][?mm](h:Ct n ?A w r n G ?ap B0 kt hd t R B)(k:?yH) : ?Jq/\?II/\?IN/\?S2 R (λa=>R x ?b0) ?eI:=by let s:?Jq:=?Rb h.st.rows;show#[s,s.going he g,h.done K,h.st.told ?l (Sd k)]
universe Lat
namespace Lat
open Hb
variable[?cO]
def UD{n W w i D π b b0:Nat}[?nC][?q][?M5][?Md][?c2][?MK]:?OD ?pK R B :=h.putD hD ?g hi ?J8 (?Ny (?SN hM i hi)) h1 h2 h3 h4
def Xh{n W w i D b b0 β:Nat}[?nC][?q][?M5](hB:∀k a,B0 k a=?BB)[?Md](hi:i<=n)(h2:?qT)[?Mk]:BB n W ?wM 0 β ?au:=by apply#[?dg,λr a hr ha=>?_,λ_ _ _ z=>z.elim];{(let le:?zJ:=by cases z:r<i;{show ?TQ hi ?J8 z};rw[?T7 ?ji];show ?s (?SK hM) ?ES);show qc1 le (qh6 ?X hβ)};(let pM:∀x,x<n->∀c,pT n B0 M x c=M x c:=λx hx c=>by exact ?N2 (B0 k x*M k c) n=M x c;rw[?aA (j:=x) hx λk _ hne=>by rw[hB,?qu];simp,hB,?w,qd8]);cases z:r<i;{let:=h.backs hi (a:=a) (m:=?qP) (?Pz (by rw[?Ge k a hk,hB])) (?NJ (by rw[pM a ha];show ?vz)) (?NJ ?vz) (λ_ _ j _=>pM a ha _) r z;rw[←qe3]at this;show qc1 ?N ?lu};exact(B r a).natAbs<?b9;rw[?Ge r a ?g,hB];let:1<?b9:=Nat.one_lt_two_pow ?g;split;{show this};show qw8 ?X ?N
universe Lat
namespace Lat
open Hb
def F9(w:Nat)(R:Mat):?aC w R (λr a=>R r ?b0)=R:=by funext r c;unfold beside;cases h:c<w;{rw[?u h]};rw[?p h];exact R r (w+?lE)=?bR;rw[?Mv (w+?lE=c)]
def Vd.table{n W w r:Nat}[?ip]{T T' P:Mat}(h:?Nb W ?ap)(hz:?hY):?Nb W (?aC w T' P):=by (let same:∀k c,w<=c->?aC w T' P k c=?hJ:=λk c hc=>by unfold beside;rw[?r,?r]);apply#[?Gg,?cL,h.ge,h.lt,?mS,?aS,?IH];{cases z:c<w;{rw[?hs z];show hz j c h1 h2 z};rw[same j c ?g];show ?Ga};{rw[same j _ (?OO h.ge)];show ?OO h.head};rw[same k _ (h.ge j h1 h3)];show ?DF
def Je{n w w':Nat}{T T' P B:Mat}(h:?EL):G0 n w' (?aC w' T' P) B:=?Se (by let:=?y2;unfold pD at this ⊢;rw[←this];show Af λc _=>by rw[beside_hi,beside_hi])
structure Xo(n w r E L m:Nat)(e:Int)(A T P PB Q QB:Mat)(kl kr:?C)(hl hr:?t):Prop where
 e0:0<e
 going:?iK
 kl:?RO ?ap
 kr:?Os ?JO
 told:?yH
 dl:?CA
 dr:G0 w n ?JO QB
 left:?w2
private def Xo.next{n w r E L m:Nat}{e:Int}{A T P PB Q QB R RB S SB:Mat}{kl kr tl ur:?C}{hl hr:?t}{G G':?az}(hL:?Jx)[?MV] (s1:Ct n ?A w r n G ?ap PB kl hl tl R RB) (s2:Ct w ?dZ n r w G' ?w8 QB kr hr ur S SB) : ?vK/\(¬?h2->0<m/\Xo n w r E L (m-1) e A ?jD ?gN RB ?sa SB kl kr hl hr):=by ext gX;let#[a1,a2,a3,a4]:=Q8 h.e0 h.going h.kl s1 h.told;let kr':?Os ?w8:=?N4 h.kr.table a2.sq.row0;let t2:?OX (Q x):=?Oz (Zw (T:=R) (P:=?t4) a4 x c hx hc);let#[b1,b2,b3,b4]:=Q8 h.e0 a2 kr' s2 t2;apply ?bT;let st:?vK:=#[R,a1,b1];apply#[st,λns=>?_];let#[m0,lf]:=h.going.next h.e0 hL st h.left ns;apply#[m0,h.e0,b2,?_,?_,?_,?_,?_,lf];{(let:?RO ?pf:=by rw[F9];show a3);show ?N4 ?mU b2.sq.row0};{(let:?Os ?nH:=by rw[F9];show b3);show ?N4 ?mU b2.sq.flip.row0};{intro x c hx hc;exact S c x=_;rw[b4 c x hc hx,Qc]};{let d:=s1.st.good.dual h.dl;(let:?BW:=?I3);show ?k2};let d:=s2.st.good.dual (Je h.dr);(let:?FM:=?I3);show ?k2
abbrev one:Mat:=λi j=>?k3
def Y1[?aJ](T:Mat):?OT (?aC w T one) one:=?Se (by unfold pD;rw[show(λc=>?aC w T one i ?co*?st)=λc=>?NN c i ?st from ?OM (by rw[beside_hi];exact(if i=c then ?cd else 0)*_=_;cases e:i=c;ext Lz)];rw[El (λc=>?st) i n,?kV];exact ?N3 j i _;cases e:i=j;ext Lz)
def vK[?bL](A:Mat):?S2 A ?CZ (one c):=λx c hx hc=>by unfold Sb;rw[?aA (j:=x) hx (?SU x)];rw[?aA (j:=c) hc (?SU c)];let e1:one x x=1:=?w;let e2:one c c=1:=?w;rw[e1,e2];simp
def mX{n w D D' L:Nat}{A R RB S SB:Mat}{t u:?C}{G G':?az}(hD:R9 n G ?vV D)(hD':R9 w G' ?JG D') (s1:E3 n ?A w n G ?vV one t R RB) (s2:E3 w ?dZ n w G' ?JG one u S SB) : ∃(r:Nat) (e:Int),?as/\?eb/\e<=D/\Xo n w r D L ?yN e A ?jD ?gN RB ?sa SB t u ?hQ ?K6 ∧ ?L7/\?NF w (?Ia<=D'):=by have#[r,hr,st,hz,K,pr,hd]:=s1.first hD;have#[r',hr',st',hz',K',_,hd']:=s2.first hD';let e0:0<?vG:=?TH ?te;let rs2:Fk w n ?ib (tr ?jD):=?Rb s2.rows;let g:=l8.first (T:=A) hr st hz rs2 pr;let rw':=g.sq.rw;(let er:r'=r:=by apply ?Q0 ?da;{let p:=st'.pos r z;let:S r (u r)=0:=g.sq.col0 (u r) r (st'.lt r z) ?l ?g;ext d};let p:0<S r' r':=g.pos r' z;let:S r' r'=0:=hz' r' r' ?l ?g ?g;ext d);subst er;let d1:=s1.good.dual (Y1 n w A);let d2:=s2.good.dual (Y1 w n ?ib);let tl:=s1.told ?l (Sd (vK (n:=n) (w:=w) A));let t2:?OX ?CZ:=?Oz (Zw (T:=R) (P:=?t4) (Q:=one) tl x c hx hc);let tl2:=s2.told ?l (Sd t2);apply#[r',_,hr,rw',pr,#[e0,g,?_,?_,?Oz ?_,?_,?_,UR.start g],hd,hd'];{(let:Vd n ?A w r' t ?hQ ?pf:=by rw[F9];show K);show ?N4 ?mU ?pJ};{(let:Vd w ?dZ n r' u ?K6 ?nH:=by rw[F9];show K');show ?N4 ?mU g.sq.flip.row0};{exact S c x=_;rw[tl2 c x hc hx,Qc]};{(let:?BW:=by rw[F9];show d1);show ?k2};(let:?FM:=by rw[F9];show d2);show ?k2
structure Iw(n w m:Nat)(E:Nat)(A P PB Q QB:Mat)[?aO]:Prop where
 mn:?ef
 mw:?gr
 diag:?SW (?NO ?kO (Q y)=?ED)
 pos:∀x,x<m->0<f x
 zero:∀x,m<=x->x<n->x<w->f x=0
 prod:?bl<=E
 dl:G0 n 0 P PB
 dr:G0 w 0 Q QB
def gS[?bL]{T P B:Mat}(h:?EL):G0 n 0 P B:=?Se (by rw[←?y2];unfold pD;show Af λc _=>by rw[beside_hi,qt8])
def Xo.diag{n w r E L m:Nat}{e:Int}{A T P PB Q QB:Mat}{kl kr:?C}{hl hr:?t}[?MV](s:?h2):?RD r (λx=>T x x):=by apply#[h.going.sq.rn,h.going.sq.rw,λx y hx hy=>?_,h.going.pos,λx h1 h2 h3=>h.going.sq.row0 x x h1 h2 h3,h.going.prod,gS h.dl,gS h.dr];rw[←h.told x y hx hy];cases z:x=y;{rw[?aD,z]};ext cR;show s x y hx hy z
def Iw.share[?Mq][?a4](h:?xd){i j:Nat}[?uo][?Mb] : Iw n w m E A (?I ?iF j i ?jZ) (?I (?I PB j i ?W) i j ?sy) (?a8 Q i j a b ?tX ?eA) (?a8 QB i j ?eA ?pz (-b) a) (?R2 g ?hm):=by let ne:?cc:=?g;let mn:=h.mn;let mw:=h.mw;let pi:=?aS i ?g;let pj:=?jg;let pg:=S.pos;let pr:=S.pair;let gz:?eA*g=?R:=qt2 S.dA;(let po:0<?hm:=by (let:0<g*?hm:=by rw[pr.pr];show ?jS pi pj);show Int.pos_of_mul_pos_right ?N ?g);apply#[mn,mw,IF ?K3 ne ?g ?g ?g ?g h.diag S,?lO,λx h1 h2 h3=>?_,?_,?_,?_];{cases e1:x=i;{rw[e1,Wz];show pg};cases e2:x=j;{rw[e2,?e2];show po};rw[?wz];show ?aS x hx};{rw[?PU Mm f];show ?ay x h1 h2 h3};{rw[SW hij hj ?g ?g pr.pr];show h.prod};{let d1:=?Qj h.dl.add 1;let d2:=d1.add (p:=j) (q:=i) ?g ?g ?ca ?jZ;rw[qn8]at d2;show d2};let B:=S.blend (π:=?GB+?GU) pi ?Cq ?Cq;let d:=?Qj h.dr.blend B.one;rw[qn8]at d;show d
def Iw.le[?Mq][?a4](h:?xd){x:Nat}(hx:x<m):f x<=E:=qu0 (bW ?aS hx) ?tA
abbrev y4(n r:Nat)(kt:?C):?az:=λc=>∃j,?aH/\?L/\c=?aV
def Vd.bits{n W w r β η:Nat}[?ip]{M B:Mat}[?uj][?Mm](b1:?OV β M)(b2:?Go)(hβ:?ox):?SO W β (M,B):=by apply#[b1,b2,λk c hk hc=>?_];let ?Gt:=hc;(let le:?DY<=?fy:=by ext n0;let q:=?EK;(let q':?B8:=by ext LU);rcases ql3 k j with z | z | z;{let ?cf:=?RT k z;ext d};{subst z;rw[?fK k h1 h2];show q'};rw[?R1 hk z hk];show ?J);exact ?DY*2 ^ ?d7<?b9;(let e:?b9=2 ^ ?c7*2 ^ ?d7:=?qo);rw[e];apply Nat.mul_lt_mul_of_pos_right ?_ (qk6 _);show fX le
abbrev Ph(π b η r n:Nat):Nat:=?cm+?mI
def JZ{β e t:Nat}(h:e<=β):β+t-(β-e)=e+t:=by rw[qp9 β t,Nat.add_sub_assoc (qs5 _ _),Nat.sub_sub_self h,qp9]
def Ag4{n W r β η π b:Nat}{kt:?C}[?bd](bb:?SO W ?ko s)(hr:?as)(hβ:?ox):?P6 r ?ci:=by let:=YL bb hr (kt:=kt) (?Nx ?Gt) ?g;rw[JZ hβ]at this;show this
def sP(π b:Nat){i r:Nat}(h:i<=r):?lx<=?cm:=by induction r with| zero=>rw[?ND i];show ?l| succ r ih =>cases e:i=?av;{rw[e];show ?l};let:=?aL;exact _<=?cm+Hs π b r;ext d
def uG(c η r:Nat){d e:Nat}(h:d<=e):?L1<=?AZ:=by induction e with| zero=>rw[?ND d];show ?l| succ e ih =>cases z:d=?e3;{rw[z];show ?l};let:=?aL;exact _<=?AZ+_;ext d
universe Lat
namespace Hb
open PySem L2
def oY{g:TG}[?uH][?LR] (hs:?Rz (λτ2 H2=>te τ2 H2 ?Ea)) [?Mn]:?PR ?ja sQ:=UI hn Pv h0 hl (λi x y zs τ H p e1 e2 q hp=>hs i x y zs τ H p e1 e2 q hp) hd
meta abbrev big:Nat:=67108864
def Ao5:∃n:Nat,n=?wn:=#[_,?j]
abbrev L9:Nat:=?y4 Ao5
def EA:L9=?wn:=?Kg Ao5
def OG{i j:Int}{n:Nat}(hi:?vm)(hj:j.natAbs<2 ^ n)(h:?dI (9000+n<=134217728) Zdr._auto_1):?sn i j:=Hq ?tp hj h
def iY[?Ma]:?sn i j:=Hq ?tp ?EJ ?X
def Xt.of9{i j:Int}(h0:j≠0)(h:?Ky):Xt i j:=Xt.of h0 (EA▸h)
def B27[?Ma]:(i*j).natAbs<2 ^ 18000:=by rw[qb5,show 18000=9000+9000 from rfl,qe3];show qm1 ?tp ?EJ
def le9{x π:Nat}(h:?Rf x)(hπ:π<=8999):x<L9:=by rw[EA];show qc1 h ?lu
abbrev BO[?cS][?bJ]:Prop:=?KY n W big s.1/\?KY n n big s.2
abbrev TA(H:Hp)(r:Addr)(as:?e5)[?cS](f:Lat.Mat):Prop:=as.length=n/\?SM H r ?hP/\∀i c,?KR->?SM H c ?FX
section
variable[?ae][?c1]{r:Addr}{as:?e5}{n W:Nat}{f g:Lat.Mat}
def TA.keep[?bw](h1:∀o,?QS r r)(h2:?KD):?pm:=#[x.1,h1 _ ?fL,λi c e=>h2 c ?vC _ (?g0 i c e)]
def TA.same[?bw][?nF]:?pm:=?qD (λ_ e=>?tM) λ_ _ _ e=>?tM
def TA.put{y:Addr}{o:HO}[?bw](h1:r≠y)(h2:∀a∈as,a≠y):?Pk (?SA y o) f:=?qD (λ_ e=>?PE h1) λa ha _ e=>?PE (h2 a ha)
def TA.row[?bw]{i:Nat}[?c2]:∃c,?KR/\?Po ?hP (?E c)/\c∈as/\SqL K H c ?FX:=by let ?tq:=x;let e:=qa0 (l:=as) (i:=i) ?g;apply#[as[i],e,by rw[qa9,e];rfl,qf2 _,.of (h3 i _ e)]
def TA.rep[?bw]:?OS ?pc (dT n W f):=by apply mF (us:=?hP) (.of ?fL) (by rw[qa5,x.1]) ?ia;let#[c,_,e,_,h]:=x.row (K:=K) hi;show#[c,e,h]
def TA.there[?bw]:H r≠none/\∀a∈as,?I6:=by apply#[?Oq ?fL ?Kh,?Ap];let ?qy:=qh0 ha;rw[?yb];show λz=>by cases z
def TA.of{D:Addr}{H1:Hp}{w h:Nat}(R:Rows H H1 D as w f)(hl:as.length=h):TA H1 D as h w f:=#[hl,R.at,λi c e=>(R.row i c e).2.2]
def TA.congr[?bw](e:?O3 (c<W->f i c=g i c)):?Pk H g:=by
 apply#[x.1,?fL,λi c ec=>?_];let hi:?y:=by rw[←x.1];show(?lf ec).1
 rw[?g0 i c ec,Uh λk hk=>?Tg e k hk]
def TA.x[?mn][?bw][?ml]:?pm:=by apply ?qD (λo e=>?OZ ?fL hp e) λa ha o e=>sx _ _ ?_ e;let ?qy:=qh0 ha;show F6 ?yb hp ?ak
def TA.made{H2:Hp}{L D:Addr}{i:Nat}[?bw](s2:Same H H2)[?c2](hL:?SM H2 L (?DG i ?kt))(hD:?SM H2 D (VI W (g i)))(e:∀r,?jf->g r=f r):TA H2 L (as.set i D) n W g:=by apply#[by rw[qf1,x.1],by rw[hL,qz9],λj c ec=>?_];rw[qr2]at ec;cases hj:i=j;{subst hj;rw[?w,?u ?qU]at ec;cases ec;show hD};rw[?p hj]at ec;rw[e j ?xZ];show s2 _ _ (?g0 j c ec)
def TA.two{i j:Nat}{D1 D2:Addr}[?bw][?c2](hj:?L)(hij:?cc)(h':?SM H' r ((?DG i ?kr).set j ?ju))(keep:?KD)(h1:?SM H' D1 (VI W (g i)))(h2:?SM H' D2 (VI W (g j)))(e:∀k,k≠i->k≠j->g k=f k):TA H' r ?BF n W g:=by apply#[by rw[qf1,qf1,x.1],by rw[h',qz9,qz9],λk c ec=>?_];rw[qr2,qf1]at ec;cases hkj:j=k;{subst hkj;rw[?w,?u (by rw[x.1];show hj)]at ec;cases ec;show h2};rw[?p hkj,qr2]at ec;cases hki:i=k;{subst hki;rw[?w,?u ?qU]at ec;cases ec;show h1};rw[?p hki]at ec;rw[e k (?NP hki) (?NP hkj)];show ?d1 c (qa6 ec) _ (?g0 k c ec)
def qL{i j:Nat}{D1 D2 a:Addr}(h:a∈?BF):?p0\/a=D1\/a=D2:=by rcases qm4 h with h | h;{rcases qm4 h with h | h;{show ?qW};show ?S ?qW};show ?S ?tV
def Gu{l i:Nat}(h:i<l):zF l (?fU:Int)=?m i:=by unfold zF;rw[?P,?P,qc4]
universe e9
abbrev mNames:?pP:=["turn","blend","put_in","meet","shrink","shrink_row"]
structure LX(H:Hp)(C p r b:Addr)(sv:?gJ)[?cS][?bJ](N:?dz):Prop where
 ob:Hm λdx fs=>?xe/\Ds (?Ne "rows" ?pc) (?Ne "backs" ?cT) (?cl (?xa:Str)=sv) ((∀m∈mNames,?K5)) ?FG
 rw:∃as,TA H r as n W s.1/\∀a∈as,?Fi
 bk:∃bs,TA H b bs n n s.2/\∀a∈bs,?Fi
 ne:r≠b
 nr:¬N r
 nb:¬N b
 nn:∀a,N a->?I6
def LX.keep[?c1][?mi][?nD][?mr](e:?cg):?yC:=by ext Lt;show#[?xO,#[as,?KF,a2],#[bs,?Cd,b2],x.ne,x.nr,x.nb,λa ha z=>x.nn a ha (e.free z)]
def LX.refs{H:Hp}[?mi][?nD][?mr]:p≠r/\p≠b:=by let#[dx,fs,h1,_]:=x.ob;let#[as,a1,_]:=x.rw;let#[bs,b1,_]:=x.bk;show#[F6 h1 a1.2.1 ?ak,F6 h1 b1.2.1 ?ak]
abbrev tnS(t:Tn)[?bJ]:?a0:=(ZN t s.1,ZN ?BM s.2)
abbrev Ax6[?cS](f:Lat.Mat):?QA Tn| .ad i j k=>?y/\?L/\?cc/\?NR W (?sn k (f j c))| .mi i=>?y| .sw _ _=>False
abbrev l9(r b:Addr)(H H':Hp):Prop:=∀x o,x≠r->x≠b->?QS x x
def l9.of{r b:Addr}[?c1][?nF]:?hZ:=λ_ _ _ _ e=>?tM
def l9.trans{r b:Addr}{H H1 H2:Hp}(x:?Q2 H1)(y:l9 r b H1 H2):?Q2 H2:=λa o n1 n2 e=>y a o n1 n2 (x a o n1 n2 e)
def l9.l{r b:Addr}[?c1]{o:HO}(x:?hZ):?Q2 (upd H' r o):=?On n1
def l9.r{r b:Addr}[?c1]{o:HO}(x:?hZ):?Q2 (upd H' b o):=?On n2
section
variable[?bu]
abbrev bO:Sp:=?NG (Ex7 λ(r:Addr) (u:V) (as:?e5) ?gE (f:Lat.Mat) (t:Tn)=>L6 (vs=[?pc,u]) ?xP ?zF (Ax6 n W f t) ?jB ?jM (∀(D:Addr) (as':?e5) (H':Hp),?pH->?cg->TA H' D as' n W (ZN t f)->(∀a∈as',(?p0\/?ok)/\a≠D)->Q ?kt H'))
abbrev Po[?gS]:Sp:=?NG (EC λ(p dx C:Addr) (r b:V)=>Br ?GM ?tg (?TW C) (∀H',(∀fs,fs=?IC->H'=upd (?SA p (?cH C dx ?Jy)) p ?ye->?bP)))
abbrev M5[?bu]:Sp:=?NG (pK λ(p:Addr) (u:V) (C r b:Addr) ?rH ?gE ?fv ?qQ (t:Tn)=>eE (vs=[?aF,u]) ?tg ?rb ?zF (Ax6 n W s.1 t) (Ax6 n n s.2 ?BM) ?jB ?jM (∀(r' b':Addr) (H':Hp),?qk->?Eh->?Et->LX H' C p r' b' sv n W (tnS t s) N->?bP))
abbrev v4:Sp:=?NG (∃A B:Int,vs=[?B A,?B B]/\0<A/\?sC/\?Kd/\?ux/\∀(L:Addr) (g a b:Int) (H':Hp),?cg->?SP b->?l6 A B g a b->?CO)
abbrev Pp[?bu]:Sp:=λvs H Q _=>Ah2 λ(p C r b:Addr) ?rH (n W i j:Nat) (A B:Int) ?fv ?qQ=>Aq4 (vs=[?aF,?lJ,?B j,?B A,?B B]) ?tg ?rb ?y ?L ?cc ?jB ?jM (0<A) ?sC ?Kd ?ux ?pB (∀(L:Addr) (g a c:Int) (H':Hp),?hZ->?jX->?SP c->?l6 A B g a c->?Oc (?qv i j a c ?pb ?f5 s) N->?CO)
universe e9
abbrev Hds(W:Nat)[?G](f m:Nat)(R:Lat.Mat):Prop:=∀j,?R0 (?x<W/\?gi/\?c3<L9)
structure SX(CS:Addr)(H0 H:Hp)(p q:Addr)(M:?dz)[?cS][?G](cnt:Nat)[?bJ]:Prop where
 ex:∃r b,?Hn/\?G4/\?Ik
 st:?SM H q (VI cnt λi=>((?bV:Nat):Int))
 same:?na
 fp:?pO
 fq:?O6 q
 mq:M q
 sm:n<=100/\W<=200/\cnt<=n
section
variable{CS:Addr}{H0 H H':Hp}{p q:Addr}{M:?dz}{n W cnt:Nat}[?q]{s s':?a0}
def SX.redo{H1:Hp}{r' b':Addr}[?uQ](e:?zE)(sx:?jQ p H1 H')(h1:H1 r'=none)(h2:H1 b'=none)(y:?QQ r' b'):?Iq:=by let s1:=?t3 e;have#[r,b,z,_]:=x.ex;have#[dx,fs,hp,_]:=z.ob;show#[#[r',b',y,s1.free h1,s1.free h2],?OZ x.st hp (e _ _ x.st),sx.same s1 x.fp,x.fp,x.fq,x.mq,x.sm]
def SX.redo2{r b:Addr}[?uQ](lx:?Hn)(f1:?G4)(f2:?Ik)(fr:?hZ)(_kp:?jX)(y:?QQ r b):?Iq :=#[#[r,b,y,f1,f2],fr _ _ (λz=>?km ?Gj) (λz=>?jq ?Gj) x.st,?P2 f1 f2,x.fp,x.fq,x.mq,x.sm]
def SX.re[?uQ](h:s=s'):?NA H cnt s':=h▸x
universe e9
def insAt_get{α:Type}(k:Nat)(y:α)(xs:?lz)(h:k<=xs.length)(j:Nat):?w4[j]?=if j<k then xs[j]? else if j=k then ?mP else xs[?dV]?:=by unfold insAt;cases h1:j<k;{rw[?dW,qd3 ?vd,qk9,?dW]};rw[?cJ,qd5 ?vd,qd1,qn6 h];cases h2:j=k;{rw[?gD,h2,qh9];rfl};rw[?cV];obtain⟨e,rfl⟩:∃e,j=?H+e:=#[j-?H,?g];rw[?Mv (?H+e-k=?e3),List.getElem?_cons_succ,qt9];congr 1;ext d
def fW{α:Type}{xs:?lz}{i s:Nat}{y:α}(hi:xs[i]?=?mP)(hs:s<=i)(j:Nat):(?gP s y (xs.eraseIdx i))[j]?=xs[Lat.mvI i s j]?:=by let hl:i<xs.length:=?z1;rw[?Dy _ _ _ (by rw[qk3 hl];ext d)];unfold Lat.mvI;cases h1:j<s;{rw[?dW,?dW,List.getElem?_eraseIdx,?P]};rw[?cJ,?cJ];cases h2:j=s;{rw[?gD,?gD,hi]};rw[?cV,?cV,List.getElem?_eraseIdx];cases h3:?bQ;{rw[?P,?u h3]};rw[?r,?p h3];congr 1;ext d
def gE{α β:Type}(g:α->β)(k:Nat)(y:α)(xs:?lz):(?w4).map g=?gP k (g y) (xs.map g):=by unfold insAt;rw[qb2,qc8,qo2,qq5]
def d8{α β:Type}(g:α->β):∀(xs:?lz) (i:Nat),(xs.eraseIdx i).map g=(xs.map g).eraseIdx i| [],_=>rfl| _::_,0=>rfl| x::xs,?k=>?id (g x::·) (d8 g xs i)
def TA.move{H H1:Hp}{r:Addr}{as:?e5}{n W i s:Nat}{f:Lat.Mat}{ci:Addr}[?bw][?ep](TY:?Po as ci)(h1:?SM H1 r (?gP s (?E ci) ((?hP).eraseIdx i)))(h2:∀a∈as,H1 a=H a) : TA H1 r ?KX n W (Lat.moveR f i s)/\?I7:=by (let mem:?I7:=λa ha=>by let#[j,hj]:=qf9 ha;rw[?xL]at hj;show qa6 hj);apply#[#[?_,?_,λj c e=>?_],mem];{unfold insAt;rw[qc3,qd9,qd1,qj3,qk3 ?qU,x.1];first | show zn8 hi hs | ext d};{rw[h1,gE,d8]};rw[?xL]at e;rw[h2 c ?vC,Lat.move_row];show ?g0 _ _ e
def nH{i s st:Nat}[?q](hs:s<=i):?gP s (?bg ((st:Nat):Int)) (VI i λk=>((?a3:Nat):Int))=VI ?k λk=>((?EC t s st k:Nat):Int):=by refine qr3;intro j;rw[?Dy _ _ _ (by rw[Bw];show hs)];cases hj:?jb;{rw[C6 hj];unfold Lat.insT;cases h1:j<s;{rw[?dW,?dW,?l4]};rw[?cJ,?cJ];cases h2:j=s;{rw[?gD,?gD]};rw[?cV,?cV,?l4]};rw[?r,?r,?kx,?kx]
def BP[?G](p f:Nat)[?bJ]:∀d l,l≠p->(?fm t p f s d).1 l=s.1 l| 0,_,_=>rfl| ?a6,l,h=>by rw[Lat.shrS];exact Lat.addR _ _ _ _ l=_;rw[Lat.addR_row_ne h];show BP t p f s d l h
abbrev HV[?cS][?G](i f m:Nat)[?bJ]:Prop:=∀d,d<=m-f->BO n W (?fm t i f s d)
abbrev pL[?cS][?G](i:Nat)[?bJ]:Prop:=∀d,d<=i->Hds W t ?ah ?k (?KZ).1/\HV n W t ?aN ?ah ?k ?KZ
abbrev Bg6[?G](spot i:Nat)(k:Int)[?bJ]:?a0:=?Qx i ?JD
abbrev cH[?uX][?bJ]:?a0:=?qv ?h i a b ?pb ?f5 s
abbrev WV[?G][?uX][?bJ]:?a0:=?Qx ?h (cH ?h i A B g a b s)
abbrev Bg5[?G][?uX][?bJ]:?a0:=?Qx i (WV t ?h i A B g a b s)
structure YN[?cS][?G](spot i:Nat)[?bJ](Nx:?gf):Prop where
 bo:?pB
 hd:Hds W t ?h i s.1
 oth:?dc≠0/\?Pe ?dc L9
 add:∀k,?dc=k*?fw->?Sm i ?JD/\Nx (Bg6 t ?h i k s)
 ble:∀g a b,?l6 ?fw ?dc g a b->?Sm ?h (cH ?h i ?fw ?dc g a b s)/\?Sm i (?QJ WV)/\Nx (?QJ Bg5)
structure A53(n W i:Nat)[?G](s0:?a0)(I:?CK):Prop where
 start:I 0 s0
 ok:?Su ?bn (∃c,c<W/\?ic≠0)
 skip:?Su ?hg ((∀c,?fj->?ic=0)->I ?z s)
 meet:?Su ?hg ((?NR ?bY (?ic=0))->?dc≠0->YN n W t ?h i s (I ?z))
abbrev J9(W:Nat)(u:?t)(st:Nat):Prop:=(?NR st (u c=0))/\u st≠0/\st<W
def J9.one{W W':Nat}[?j7]{a b:Nat}(h:J9 W u a)(k:J9 W' u b):a=b:=by rcases ql3 a b with e | e | e;{show ?bU (k.1 a e) h.2.1};{show e};show ?bU (h.1 b e) k.2.1
def J9.ex{W:Nat}[?j7](h:∃c,c<W/\u c≠0):∃st,?x7:=by let ?q6:=h;induction c using Nat.strongRecOn with| _ c ih =>cases z:∃d,d<c/\u d≠0;{let#[d,hd,hd0]:=z;show ih d hd ?g hd0};apply#[c,?lg,h0,hc];show qh3 λk=>z #[d,hd,k]
structure MP[?cS](J:?Gz):Prop where
 step:∀i t s,?y->J i t s->∃I,?Hl/\∀spot st s',?bn->?nL->?t5->?l1 →
  pL n W ?jz i ?sS/\J ?k ?jz (?nb ?jz i ?sS ?k)
def pH{w n:Nat}{f g:?t}{h:?t}(h1:?NR w (h c=f c))(h2:∀a,a<n->h ?b0=g a):VI w f++VI n g=VI ?A h:=by refine qr3;intro j;cases e1:j<w;{rw[qd3 (by rw[Bw];show e1),C6 e1,?l4,h1 j e1]};rw[qd5 ?fQ,Bw];cases e2:j<?A;{rw[?l4,C6 e2,←h2 (j-w) ?g,?Mv (w+(j-w)=j)]};ext MG
def Ag5{w n:Nat}[?a4]:Fj ?xU ?kf ?aX=VI n ?KS:=by
 ext Lj;let s1:?oX ?A 0 ?kf=w:=?D4
 unfold Fj;rw[Bw,s1,←e,List.drop_append_of_le_length ?fQ,List.drop_of_length_le ?fQ,qq4];refine qh5;rw[Bw];simp only[HT.sIx];ext d
def Bo2{w n:Nat}[?a4]:Fj ?xU ?aX ?kf=VI w f:=by
 ext Lj;let s1:?oX ?A ?A ?kf=w:=?D4
 let s2:?oX ?A 0 ?aX=0:=rfl;unfold Fj;rw[Bw,s1,s2,List.drop_zero,qz6,←e,qr9 ?fQ,qh5 ?fQ]
section
variable[?bu]
abbrev v3[?bu]:Sp:=λvs H Q _=>Ah3 λ ?mc (L r b:Addr) ?rH ?qQ ?f8 (T P PB:Lat.Mat) (J:?Gz)=>eE (vs=[v,?B w,?si]) (?OS v (dT n w T)) (LX H CL L r b sv n n (P,PB) N) ?oE ?l3 (MP n ?A J) ((∀t,J 0 t (?pC w T P,PB))) ((?Sv J)) (∀(tp D L' r' b':Addr) (as:?e5) [?G] [?bJ] (H':Hp),?cg->J n t s->SqT K H' tp [?kt,?E L']->TA H' D as n w s.1->LX H' CL L' r' b' ?aX n n (λx a=>s.1 x ?b0,s.2) N->?pH->?SJ L'->?Eh->?Et->?Er)
abbrev X6:Sp:=?NG (Xs λ(c:Addr) (W st:Nat) (u:?t)=>Ds (vs=[?E c]) (SqL K H c (VI W u)) ?x7 ?jM (Q (?B (st:Int)) H))
abbrev M4[?gS]:Sp:=?NG (pK λ ?ct ?m8 ?jl ?gE ?m4 (cnt:Nat) ?fv (i f:Nat)=>Zt (vs=[?aF,?lJ,?B f]) ?Dh ?y (f<=cnt) ((i<f\/cnt<=i)) (Hds W t f cnt s.1) (HV n W t i f cnt s) (?SB cnt (?fm t i f s (cnt-f))))
abbrev bN[?gS]:Sp:=λvs H Q _=>Ex9 λ ?ct ?m8 ?jl ?gE ?m4 ?fU ?fv=>Br ?k8 (?NA H ?k s) (pL n W t i s) (?SB ?k (?nb t i s ?k))
abbrev KG[?gS]:Sp:=λvs H Q _=>pK λ ?ct ?m8 ?jl ?gE ?m4 (?h i:Nat) ?fv (Nx:?gf)=>Kb (vs=[?aF,?B ?h,?lJ]) ?yB ?hg ?y (YN n W t ?h i s Nx) (∀H' s',?NA H' i s'->Nx s'->?bP)
abbrev BN[?gS]:Sp:=?NG (MT λ ?ct ?m8 ?jl ?gE ?m4 ?fU ?fv (I:?CK)=>Kb (vs=[?aF,?lJ]) ?yB ?y ?Hl ?kB (∀H' spot st s',?bn->?nL->?t5->?l1->SX CS H0 H' p q M n W ?jz ?k ?sS->?bP))
abbrev kH[?gS]:Sp:=?NG (Xs λ ?vJ (r b:V)=>Ee ?GM (?TW CS) (∀q H' fs,?SJ q->fs=putF ?xa ?yW ?IC->?qk->H' q=?m (?aT [])->H' p=?S4 CS fs->?bP))
universe e9
universe Hb
namespace L2
open PySem PySem.Spec PyProof.Rows PySem.SeqAt
def cG(a b:Addr)[?ua]:?Nf Builtin.«dict.__ne__» ?q8 :=
 ?GE λprog w A R s hs=>by
  let ?yU:=hs
  exact ?D ?aa A.in1 (do
   let ?A1 ←?zp ?pq ?lW
   if ! ?vT then ?PY ?pq;return ←ret .notImplemented
   ?OQ ?pq false) _ _ s
  ext LI;let e:∀b:Bool,(b==false)=!b:=?X
  rw[e];show qc0 ?oZ
def RcNeAt.dicts[?Lb] : RcNeAt A s ?aK ?cT ?q8:=λprog w E Q h =>?yR (op:=.NotEq) ?qX ?o9 PySem.F.slot_dict_ne PySem.F.entry_dict_ne (PySem.F.args_dict_ne_2 _ _) (cG a b ms ns) (?Nr ?q8) hu
inductive Ap3(x:V)(y:V)(H:Hp)(Q:VK):Prop| mk:?OR ?wL ?w0
abbrev B09:R2:=λx y H Q=>?w0
section
variable{X:Cx}{n:Nat}[?ae]
def Au3(hu:?L5):Xv X (?zf .NotEq) B09:=?Nn RcNeAt.dicts ?wL
def UL(hc:?oL):?NS X.K:=by ext il;let#[p,bs,?j,hq,q]:=h;ext uS;let#[its,rv,pl,hz]:=I.list hq;let hh:?Cj:=?e1;(let rel:∀(i:Nat) (v:Value),?Hv=?c6->∃b,?jK=?m b/\v=?fl b:=λi v e=>by (let e':its[i]?=?c6:=?fX);let hlt:?v5:=?CU;let l1:=rv.length;rw[qa5]at l1;(let hb:?jK=?m ?Is:=?CX);let ?gh:=?Qe V.bl ?Is;rw[e']at hu;cases hu;show#[_,hb,ru]);apply call_any_walk (qs3 pl.isList ?_);apply#[?aR,[s.heap.objs.size,p],[s.heap.objs.size],?E5,_,_,?IF,?j,Walks.list ?AQ ?aR p ?_ ?mC,#[?jw,?_],?_,λh' tk k=>?_];{let#[o,_,ho,_]:=pl;show qe5 ?L3};{show pl.isList.at λo e=>?ls};{intro i v s' Q' E' hv hQ;let#[b,hb,?j]:=rel i v hv;dsimp only at hQ;rw[hb]at hQ;show ql9 hQ};(let e:(?kI ?E5).any ?IF=?xH:=by let l1:=rv.length;rw[qa5]at l1;rw[qc9,←l1];rw[qn9,qs1,qs1];constructor;{rintro ⟨i,hi,hx⟩;let hlt:=qe1.mp hi;(let hb:?jK=?m bs[i]:=?aM);rw[hb]at hx;show#[_,qf2 hlt,hx]};rintro ⟨b,hb,hx⟩;let#[i,hi]:=qf9 hb;apply#[i,qe1.mpr ?z1,?_];rw[hi];show hx);rw[e];let I1:?uq:=I.kept (λb o e=>k b o (by simp;show qe5 ?mY) ?ls);show#[?tK,H,I1,?j,q]
def HG:?G6 "any"=?m ?t2:=?hT
def cN(hc:?oL)[?Ml]:?NS K:=by subst hK;show UL hc
universe e9
universe L2
namespace Hb
open PySem L2
abbrev Aq9:?pP:=["straighten","step","put_in_order","share"]
section
variable[?ae][?c1]
def CQ{nm a:Addr}(h:a≠nm):?Dr=H a:=Yv h
def tW{nm a:Addr}(h:a=nm):?Dr=none:=cQ h
def Aj8[?mn]{a:Addr}{xs:?cs}(h:SqL K H a xs)[?ml]:SqL K H' a xs:=?wT
def pW[?mn][?Mh][?ml]:?Pt H':=?wT
def Bd0{nm:Addr}{ys:?cs}{o:HO}[?Mh](hn:?SM H nm ys):?Pt (?SA nm o):=by rcases h with(h|⟨u,h⟩) | h;{show ?T (?T ?J7)};{show ?T (?S #[u,?J7])};show ?tV
def vO{m i:Nat}[?a4]{x:Int}(hi:i<m):(VI m f).set i (?B x)=(Jh m λk=>if k=i then x else f k).map ?bg:=by exact _=VI m _;refine qr3;intro j;rw[qr2,Bw];cases hj:i=j;{subst hj;rw[?w,?kV,C6 hi,?w]};rw[?p hj];cases h2:j<m;{rw[C6 h2,C6 h2,?p ?xZ]};ext MG
def Cd7[?mn]{v:V}[?bL]{f:?bW}(h:?OS v ?E4)[?ml]:?QP v ?E4:=by let#[a,us,?j,hq,hl,hr]:=J6 h;apply mF (Aj8 hq hp sx) hl ?ia;let e:=qa0 (l:=us) (i:=i) ?g;let#[_,b,eb,hb]:=hr i _ e;show#[b,by rw[e,eb],Aj8 hb hp sx]
universe e9
def LX.x[?c1][?mi][?nD]{q D dx:Addr}{fs:?Of Str V}[?mr](hq:H q=?S4 D fs)(hqp:q≠p)(sx:?jQ q H H')(kp:?jX):?yC:=by let ?I8:=x.ob;let ?mE:=x.rw;let ?nQ:=x.bk;show#[#[dx,fs,sx _ _ hqp.symm h1,h2],#[as,a1.x hq sx,a2],#[bs,b1.x hq sx,b2],x.ne,x.nr,x.nb,?Qo x.nn]
def LX.more[?c1][?mi]{N N':?dz}[?mr](e:?cg)(h:∀a,N' a->N a\/?ok)(hn:∀a,N' a->H' a≠none):?Oc s N':=by ext Lt;apply#[?xO,#[as,?KF,?QC ?sF ?sF],#[bs,?Cd,?QC ?rR ?rR],x.ne,?dN,?dN,hn];{show ?IG ?kL (a1.there.2 a ha)};{show ?IG ?vi (b1.there.2 a ha)};{show(h r z).elim x.nr a1.there.1};show(h b z).elim x.nb b1.there.1
structure WX[?dq](CL CW:Addr)(H0 H:Hp)(p L R nm:Addr)[?aJ](M:?jF)[?gV](ns:?gM):Prop where
 ob:Nv λtv dx fs=>H p=?S4 CW fs/\Zt (?Ne "table" tv) (?Ne "width" ?r9) (?Ne "left" ?si) (?Ne "right" (?E R)) (?Ne "numbers" ?Cg) ((∀m∈Aq9,?K5)) ?FG (∀M',M=?o7->Rep K (Yw H ?fE) tv (dT n w M'))
 li:Xs λr1 b1 r2 b2=>?Fv/\?Fu/\Br (?O6 r1) (?O6 b1) (?O6 r2) (?O6 b2)
 nu:?SM H nm (ns.map ?bg)
 same:?na
 fr:?pO/\?O6 L/\?O6 R/\?O6 nm
 ne:p≠L/\p≠R/\L≠R
 sm:?oE/\?l3
abbrev UU(m:Nat)(M:Lat.Mat):?gM:=((?kI m).map λi=>?kW).filter λx=>?ai (x≠0)
def WX.keep[?ae][?j5]{H0 H H':Hp}[?u8][?mk][?nF]:?Mx H' M ns:=by ext Lh;show#[(?R6 ?JE (λM' e=>?fS (vR s) ?zz)),#[?nG,lx.keep s,?ve,f],?E7,?t3 s,?j4]
def WX.num[?ae][?j5]{H0 H:Hp}[?u8]{ns ns':?gM}(x:?xK):?Mx ?FH M ns':=by ext Lh;let hpn:p≠nm:=F6 hp ?fc ?ak;(let go:∀{q r b:Addr}{m:Nat}{s:?a0}[?nD],?Q3 H->N nm->?Q3 ?FH:=λ{q r b m s N} y hN=>by have#[d2,f2,e1,e2]:=y.ob;have ?mE:=y.rw;have ?nQ:=y.bk;apply#[#[d2,f2,by rw[Aj (F6 e1 ?fc ?ak)];show e1,e2],#[as,?Qi a1.put y.nr ?kL,a2],#[bs,?Qi b1.put y.nb ?vi,b2],y.ne,y.nr,y.nb,λa ha z=>?_];cases e:a=nm;{rw[e,Ab]at z;cases z};rw[Aj e]at z;show y.nn a ha z);apply#[#[?dr,by rw[Aj hpn];show hp,?cP,λM' e=>?fS (gI λa o n e=>?PE n) ?zz],#[?nG,go lx ?ne,go ly ?j,f],Ab,λa o e=>by rw[Aj (Aq e x.fr.2.2.2)];show ?q7,?j4]
def WX.drop[?ae][?j5]{H0 H:Hp}[?u8][?mk]:?Mx H ?aX ns:=by let ?DI:=x.ob;show#[(?R6 hp ?pI),x.li,?fc,x.same,?j4]
def WX.left[?ae][?j5]{H0 H H1 H':Hp}{p L R nm r1 b1 r2 b2 r' b':Addr}[?bL]{M:?jF}{l r l':?a0}[?mk](lx:?Fv)(ly:?Fu)[?MX] (s:?zE) (sx:?jQ L H1 H') (h1:?OH H1 r') (h2:?OH H1 b') (y:LX H' CL L r' b' ?dY n n l' ?jp):?Oi l' r/\?Ng H' ?dY r:=by ext MF;have#[dl,fl,hL,_]:=lx.ob;have#[dl',fl',hL',_]:=y.ob;have#[n1,n2,n3]:=x.ne;let kp:Kp H1 H':=Kp.x sx hL';let lz:=(?ve).x (s _ _ hL) n3 sx kp;let s0:=?t3 s;show#[#[(?R6 (sx _ _ n1 ?JE) ?pI),#[r',b',r2,b2,y,lz,s0.free h1,s0.free h2,f3,f4],?OZ ?fc hL ?E7,sx.same s0 x.fr.2.1,?j4],lz]
def WX.right[?ae][?j5]{H0 H H':Hp}{p L R nm r1 b1 r2 b2:Addr}[?bL]{M:?jF}{l r r':?a0}[?mk](lx:?OE H ?dY)(ly:?Ng H ?dY r)(f1:?OH H0 r1)(f2:?OH H0 b1)[?MX] (fr:l9 r2 b2 H H') (kp:?jX) (y:?Ng H' ?dY r'):?Oi l r'/\?JJ:=by ext MF;have#[dl,fl,hL,hL2]:=lx.ob;have ?mE:=lx.rw;have#[bs,b3,b4]:=lx.bk;have#[PD,c1,_]:=ly.rw;have#[bs2,c2,_]:=ly.bk;let no:∀a C d f,?Rt H->?Rt H':=λa C d f e=>fr _ _ (F6 e c1.2.1 ?ak) (F6 e c2.2.1 ?ak) e;let lz:?JJ:=#[#[dl,fl,no _ _ _ _ hL,hL2],#[as,a1.keep (λo e=>?NE ?km ?km) λa ha o e=>?NE ?kL ?kL,a2],#[bs,b3.keep (λo e=>?NE ?jq ?jq) λa ha o e=>?NE ?HR ?HR,b4],lx.ne,?km,?jq,?Qo lx.nn];show#[#[(?R6 (no _ _ _ _ hp) ?pI),#[?nG,lz,y,f1,f2,f3,f4],fr _ _ (?NP ly.nr) (?NP ly.nb) ?fc,?P2 f3 f4,?j4],lz]
def Te(i:Nat)(M:Lat.Mat):UU ?k M=if ?kW=0 then ?oc else ?oc++[?kW]:=by unfold UU;rw[qi6,qb2,qq7];cases h:?kW=0<;>simp[h]
def Ab8(i:Nat)(M:Lat.Mat):(?oc).length<=i:=by unfold UU;apply ?s ?x5 ?_;rw[qa5,ql4];show ?l
structure Xp[?aJ](M:Lat.Mat)[?gV](Nx:?om):Prop where
 ex:∃J1,MP n ?A J1/\(∀t,J1 0 t (?pC w M l.1,l.2))/\(?Sv J1)/\∀t1 s1,J1 n t1 s1 →
  ∃J2,MP w ?dZ J2/\(∀t,J2 0 t (?pC n (λi j=>s1.1 j i) r.1,r.2))/\(∀i t s,J2 i t s->?NF i (?x<?dZ))/\∀t2 s2,J2 w t2 s2 →
    Nx (?Pr ?g3) (λx a=>s1.1 x ?b0,s1.2) (λx a=>?g3 x (n+a),s2.2)
section
variable[?bu]
abbrev Rt:Sp:=?NG (Xs λ ?mc ?f8 ?j9=>Kb (vs=[v]) (Rep K H v ?DD) ?jB (w<=1000) ((?lD->∀H',?cg->Q ?oQ H')) ((¬?lD->∀H',?cg->Q (.bl ?bO) H')))
abbrev kI[?bu]:Sp:=?NG (Ex7 λ ?ct ?vJ ?mc ?f8 ?j9=>Zt (vs=[?aF,v,?r9]) ?na ?pO (?TW CW) (Rep K H0 v ?DD) ?oE ?l3 (∀L R nm H',WX K CL CW H0 H' p L R nm n w ?tJ ?ht ?ht []->?bP))
abbrev KH[?bu]:Sp:=λvs H Q _=>Ah3 λ ?ct ?lX ?f8 ?j9 ?k0 (ns:?gM) (Nx:?om)=>Br ?k8 (?Mx H ?tJ ns) (Xp n w M l r Nx) (∀L' R' M' l' r' H',Nx M' l' r'->?Nu ns)
abbrev Sj[?bu]:Sp:=λvs H Q _=>pK λ ?ct ?lX ?f8 ?j9 ?k0 (U:?Io)=>Ds ?k8 (?Mx H ?tJ []) (?QE (∃m,?re)) ((∀m M' l' r',?re->¬?BX->Xp n w M' l' r' (λM2 l2 r2=>∃m',m'<m/\U m' M2 l2 r2))) (∀L' R' m M' l' r' H',?re->?BX->?Nu (UU ?Fw M'))
structure jT[?aJ][?cz][?aO][?gV]:Prop where
 p1:0<?R/\?GB<L9
 p2:?a7≠0/\?GU<L9
 bl:BO n n l/\BO n n ?y3
 br:BO w w r
abbrev shF[?cz](g:Int)[?aO]:?t:=Lat.put2 f i j g ?hm
abbrev shL[?cz](g b:Int)[?aO](l:?a0):?a0:=?pp j i ?jZ ?y3
abbrev ZS[?cz](g a b:Int)[?aO](r:?a0):?a0:=?qv i j a b ?tX ?eA r
abbrev fO[?bu]:Sp:=λvs H Q _=>Ah2 λ ?ct ?lX (n w m i j:Nat) ?k0 (f:?t)=>eE (vs=[?aF,?B ?qE,?B (j:Int)]) ?Gs (i<j) (j<m) ?ef ?gr ?rV ((?jC->Q .non H)) (∀g a b H',?oe->WX K CL CW H0 H' p L R nm n w ?aX ?tb ?rI (Jh m ?qN)->?bP)
abbrev FO[?bu]:Sp:=λvs H Q _=>Ah3 λ ?ct ?lX (n w m:Nat) ?k0 (f:?t) (V:?kw)=>L6 ?k8 ?Gs ?ef ?gr (V 0 f l r) ((∀d i j f l r,V d f l r->d<5*m+m*m->i<j->j<m->?Rq (V ?a6 f l r) (V ?a6 ?qN ?tb ?rI))) (∀d f' l' r' H',V d f' l' r'->?Bg m m f'->WX K CL CW H0 H' p L R nm n w ?aX l' r' (Jh m f')->?bP)
universe e9
structure ED[?aJ](A:Lat.Mat)(Fin:?kw):Prop where
 ex:∃(U:?Io) (Y:Nat->?kw),Xp n w A ?ht ?ht (λM l r=>∃m,?sg) ∧
  (∀m M l r,?sg->¬?lD->?QE (∃m',m'<m/\U m' M' l' r')) ∧
  (∀m M l r,?sg->?lD->∃k f,UU ?Fw M=Jh k f/\k<=n/\k<=w/\Y k 0 f l r) ∧
  (∀k d i j f l r,?EU->d<5*k+k*k->i<j->j<k->?Rq (Y k ?a6 f l r) (Y k ?a6 ?qN ?tb ?rI)) ∧
  ∀k d f l r,?EU->?C4
structure EB[?dq](H H':Hp)[?ud](n w k:Nat)[?aO][?gV]:Prop where
 same:?cg
 tup:SqT K H' tp ?xI
 num:?SM H' nm ?DP
 left:?QP ?rX ?B5
 lback:?QP ?kr ?IJ
 right:?QP ?ju ?K2
 rback:?QP ?oD ?KJ
 new:∀a,a=nm\/a=r1\/a=D1\/a=D2\/a=b2->?ok/\∃us,?SM H' a us/\us.length<=60
section
variable[?dq]
abbrev X7:Sp:=?NG (EC λ ?mc ?f8 (A:Lat.Mat) (Fin:?kw)=>Kb (vs=[v,?r9]) (Rep K H v (dT n w A)) (n<=40) ?l3 (ED n w A Fin) (∀[?ud] (k:Nat) [?aO] [?gV] (H':Hp),?C4->?Bg k k f->k<=n->k<=w->?vb->?Er))
universe e9
universe Hb
namespace Hb
open Lat
section
variable[?cO]
def BB.bo{n W β:Nat}[?bd][?n3](hb:β<=big):?pB:=#[(h.mono hb).1,(h.mono hb).2.1]
def jY[?ac]{R0 B0:Mat}[?q]{π b β:Nat}[?Mr](hW:W=?A)(dl:?OT R0 B0)(bb:?Mw β (R0,B0))(hb:?DX)(hπ:?nZ)(hpg:?tP) (hG:∀spot (s:?am) st,?bn->?yy->J9 W ?LD st->G st) (hd:∀t1 Y R1 B1 R2 B2,?Od R0 B0 t1->?Cm->?Oy ((R2 j ?pW).natAbs<L9)) : ∃I,A53 n W i t (R0,B0) I/\∀spot st s',?bn->?nL->?t5->?l1 → pL n W ?bE i ?f9/\G st/\?O0 ((?f9).1) ((?f9).2) ∧ R8 n W w i (?f9).1 (?f9).2 ?bE 0 (?pj).1 (?pj).2 ∧ ?Mw ?iM ?pj:=by let hi:=H.hi;(let Ao1:∀spot,?bn->?D7<=?lp:=λspot hs=>by unfold Hs;show ?s (?Q1 hs) ?qd);apply#[λspot s=>?yy/\?Mw ?qq s,#[#[Ew.start H,by rw[Nat.zero_mul];show bb],?_,?_,?_],?_];{rintro spot s _ ⟨p,_⟩;let ?q6:=(p.good.dual dl).row hi;show#[?co,?g,h0]};{rintro spot s hs ⟨p,q⟩ hz;apply#[p.skip hz,q.mono ?_];rw[qg5];ext d};{rintro spot s hs ⟨p,q⟩ hz h0;let qV:=Ao1 ?z hs;rw[qg5,qg4]at qV;(let en:β+?z*?dt=?qq+?dt:=by rw[qg5,qg4];ext d);(let lA:?N0 ?fw ?a1:=by rw[p.old ?h _ ?l hs];show H.hd ?h hs);let lB:=p.pv ?h ?l hs;apply#[?gH q ?g,?TY #[H.lt j hj2,p.pos j hj2,le9 (π:=π) ?_ ?g],#[h0,le9 lB ?g],?de,λg a b' sh=>?_];{rw[p.old j _ hj1 hj2];show H.hd j hj2};{let#[m1,m2,m3]:=p.meetAdd H hs hz hk q;apply#[?Je,m1,?_];rw[en];show m3 _ ?g};let#[m1,m2,m3,m4]:=p.meetBlend H hs hz (sh.blend (p.pos ?h hs) lA lB) q;apply#[?Je,?QM m4,m1,?_];rw[en];show m4 _ ?g};rintro spot st s' hs ⟨p,q⟩ hB hex;let hGs:=hG ?h s' st hs p hB;let ?z3:=ZX H p hs hB.1 hB.2.1 hB.2.2 hGs hpg hex q;apply#[λd hd'=>#[?TY ?_,?P1 (?gH (e5 d hd' m ?g) hb)],hGs,e1,e2,e4 _ ?l];let#[dn,_,_]:=dD e1 hi (e3.mono (qp6 (Ao1 i ?l) β)) d ?g;let hh:=hd _ _ _ _ _ _ e1 e2 j ?g;rw[?SI e2.hd]at hh;let hx:=?SI dn.hd;apply#[?SI e1.lt,(dn.s0).pos j ?g,?_];rw[hx];show hh
universe e9
meta abbrev JF[?aJ](M:Mat):?IK:=λi t s=>E3 n ?A w i ?kQ M one t s.1 s.2
private def y6{n w b0 D π b β:Nat}{M:Mat}(hM:?Nh n (?eV->?I4))(dets:R9 n ?kQ M D)(h1:?nJ)(h2:n*D<=?M)(h3:b0<=π)[?Mk](hbig:∀i,?y->?DX)(hπ:?nZ)(dl:?OT M one) : MP n ?A (JF n w M):=by apply#[λi t s hi hJ=>?_];let iD:?qT:=?s ?H5 h2;let H:=UD hM dets hJ hi h1 iD h3 h4;let bb:BB n ?A ?wM 0 β (s.1,s.2):=Xh hM dets (λk a=>rfl) hJ ?C5 iD h4 hβ hβ2;(let#[I,P,e]:=jY H ?j (hJ.good.dual dl) bb (hbig i hi) hπ hJ.pg (λ_ _ _ _ _ hB=>hB.2.2) (?Rw hJ.next (show ?k<=n from hi) h1));apply#[I,P,?JX];let#[e1,_,e3,e4,_]:=?Qa e;show#[e1,hJ.next e3 e4]
def JF.lt[?bL]{M:Mat}:∀i t s,JF n w M i t s->?m6:=λ_ _ _ h j hj=>?o0
abbrev JL(n w r:Nat)(M B0:Mat)[?ms](π b η β:Nat):?IK:=λi t s =>(i<=r/\?NK ?dA M B0/\?zH) ∨ (?aw/\?NK ?kQ M B0/\?Bu)
def JL.lt{n w r:Nat}{M B0:Mat}[?ip]{π b η β:Nat}:∀i t s,?Ok i->?m6:=λ_ _ _ h j hj=>by rcases h with⟨_,h,_⟩|⟨_,h,_⟩<;>show ?ST h.st.st.lt
private def v6{n w r E π b η β:Nat}{e:Int}{T P PB:Mat}[?ip][?iw](he0:0<e)[?mm][?Ms][?Mm] (hβ:?ox) (hbig:β+?hu<=big) (hE:?Rf E) [?n1] (hb:n*E<=?M) (hπb:π<=b) (hπ:?nZ) (hη9:η<=8990) : MP n ?A (JL n w r ?ap PB kt hd π b η β):=by let rn:=g.sq.rn;let dets:=AF (P:=P) g.dets;let A06:∀{i:Nat}[?q][?bd],i<=r->?GV->?Ct:=λhi h j hj=>?RL (h.st.headD dets hi hj) hE;(let hηN:?Gq:=?Nx (by ext n0;let q:=?EK;ext LU));apply#[λi t s hi hJ=>?_];cases hir:i<r;{(obtain⟨_,h,bb⟩:i<=r/\?GV/\?zH:=by rcases hJ with hJ|⟨h,_⟩;{show hJ};ext d);let H:=tP g (qg0 w n) h hir hE he (?s ?H5 hb) hπb;let tm:?A0<=?cm:=sP π b hir;let tm':?A0=?lx+?lp:=rfl;let tn:?cm<=?hu:=?qd;(let hG:∀spot (s':?am) st,?bn->Ew n ?A w i ?dA s.1 s.2 t π b ?h s'.1 s'.2->J9 ?A ?L4 st->st<w:=λspot s' st hs p hB=>by let ?q6:=ZO he0 g.sq ?qs hir ((h.st.good.mono (qr0 i)).trans p.good) ?l dl;rcases qi0 c st with z | z;{show ?bU (hB.1 c z) h0};show qc1 z hc);(let#[I,Pu,ev]:=jY (C:=?fu) (δ:=?d7) (β:=?vU) H ?j (h.st.good.dual dl) bb ?g hπ ?pL hG (?Rw ?oG (show ?k<=r from hir) hE));apply#[I,Pu,?JX];let ?z3:=?Qa ev;show#[e1,?T #[hir,h.next hir e2 hs e3 e4,by rw[tm',←qs4];show e5]]};let zH:?aw:=?g;(obtain⟨h,ab,bb,h9⟩:?NK ?kQ ?ap PB/\?Bu:=by rcases hJ with⟨h1,h,bb⟩|⟨_,h⟩;{let e:i=r:=?g;subst e;apply#[h.wide ?I0,?_,?_,A06 ?l h];{rw[qh9,Nat.zero_mul];show Ag4 bb rn hβ};rw[qh9];show bb};show h);let hsd:r+?hN=i:=?g;let row:∀c,?ic=?ww:=λc=>?pE;(let zero:?NR ?b5 (?ic=0):=?Ny (by rw[row];show ?e0 i c zH hi hc));(let hd0:0<s.1 i ?b5:=by rw[row,?fK i zH hi];show ?hb i zH hi);let ktW:=K.lt i zH hi;let bg:J9 ?A ?LD ?b5:=#[zero,?g,ktW];let em:?Hc=?Fo+(?F2+(r+?hN)+3):=rfl;let emo:?Hc<=?mI:=uG _ _ _ ?g;let tn:?hu=?cm+?mI:=rfl;rw[hsd]at em;apply#[λ_ s'=>s'=s,#[?j,?_,λ_ _ _ hs _=>hs,?_],?_];{rintro spot _ _ rfl;show#[?b5,ktW,?g]};{rintro spot _ hs rfl hz h0;show ?bU (?sE K zH hi hs ?l) h0};rintro spot st s' hs e hB hex;let e:=e.symm;subst e;let est:=hB.one bg;subst est;(let esp:spot=i:=by rcases qi0 ?h i with z | z;{show ?bU (?sE K zH hi z (qe6 (hex z))) hB.2.1};ext d);subst esp;(let Cd3:insS ?h ?h ?gI s=s:=by (let m1:?me ?h ?h s=s:=by exact(?aI s.1 ?h ?h,?aI s.2 ?h ?h)=s;rw[Ut,Ut]);rw[insS,m1,?r]);rw[Cd3];let ?Iw:=h.last K zH hi (λc hc=>hc) ktW (C:=?fu) (δ:=?d7) bb (?Pz (ab k ?h hk ?l hi));let hbd:?CQ<=big:=?g;let st':=k1.st.st;(let hh:∀d,d<=?z->∀j,?sb->(?cE (?cB t ?h ?gI) ?h s d).1 j ?kU=?sd:=λd hd j hj=>by let#[l1,_]:=k2 d hd;let:=l1.rows j ?kU;rw[this];split;{rename_i z;(let tl:?kU<?gI:=by let:=st'.inc j ?h z.2 ?g;(let e:?QV ?gI ?h=?gI:=?sB);ext d);rw[zero _ tl,qd7,qf3]};rfl);(let hs9:∀j,?sb->?Pe ?sd L9:=?NJ (by unfold insT;rcases qi0 j ?h with z | z;{rw[?aD];show h9 j z};let:?br:=?g;subst this;rw[?r,?w,row,?fK j zH hi];show le9 (hηN j zH hi) ?g));(let hpos:∀j,?sb->0<?sd:=?NJ (by let:=?SI st'.pos;rw[hh ?z ?l j hj]at this;show this));apply#[λd hd=>#[?TY #[st'.lt j hj2,by rw[?HU];show ?SI hpos,?Oq ?HU ?Jl],?s2],?S #[?g,k1,?_,?_,?NJ (by rw[hh ?z ?l j ?g];show ?Jl)]];{rcases qi0 m d with z | z;{let:=k3 d ?g m z;rw[this];show ?RV d};let e:m=d:=?g;subst e;show ?RV ?V};{let:=h.above K zH hi hηN ab (?zv).1;rw[?wt,qg5,qg4];let e:?ci+(?iJ*?c7+?c7)=?ci+?iJ*?c7+η+1:=?g;rw[e];show this};rw[?wt,em];let:=(?zv).2;rw[?Mv (?ko+(?xD+?BN)=?CQ)];show this
def wK{M:Mat}{k:Nat}(hp:∀x,x<k->0<M x x):?Qc k ((∀x,k<=x->x<m->M x x=0)->UU m M=Jh k ?zq):=by (let base:∀j,j<=k->UU j M=Jh j ?zq:=λj=>by induction j with| zero=>intro _;rfl| succ j ih =>intro hj;let:=?pX;rw[Te,?r,?aL,CH]);intro m;induction m with| zero=>intro h _;show base 0 ?J▸(by rw[?ND k])| succ m ih =>intro h hz;cases e:k=?V;{subst e;show base _ ?l};rw[Te,?u (?PU hz m),ih ?g λx h1 h2=>hz x h1 ?g]
meta abbrev Af8:Nat:=67000000
abbrev Pe(n:Nat)[?dm]:Prop:=?Rh (pT n s.2 s.1 a b)
def Pe.one(n:Nat):Pe n ?ht:=λa b ha hb=>by exact ?N2 (?oa k a*?oa k b) n=_;rw[?aA ha λk _ hk=>by unfold Lat.one;rw[?p hk,qf0]];unfold Lat.one;rw[?w,qd8]
def Pe.go[?bL]{T:Mat}{l:?am}[?be](h:Pe n l)(e:∀a b,?gj=pT n l.2 (?aC w T l.1) a b):Pe n (?gN,B):=λa b ha hb=>by let:=e a (w+b);rw[←h a b ha hb];apply ?G8 ?N ?_;show ?Sn (by rw[beside_hi])
def Au7[?cz]:?N5 one j 1:=by unfold one;split<;>decide
private def HN{n w W b:Nat}{T P:Mat}(hT:?O3 (c<w->?G7<=?M))(hP:∀i c,?y->c<W->?N5 P c ?M):∀i c,?y->c<w+W->?N0 ?ww ?M:=?CP
private def aE{n w W b:Nat}{T P:Mat}(hT:?O3 (c<w->?G7<?M))(hP:?OV b P):?aB n (w+W) b ?ap:=?CP
def AE{n w W b:Nat}{R:Mat}(h:?aB n (w+W) b R):?OV b ?gN:=?PD (?Tg h ?co ?g)
def Og{n W b b':Nat}[?gW](hb:b<=b'):?yt:=?PD (qb6 (?SN h i hi) ?G0)
def Ax8{e:Int}{D π:Nat}(h:e<=D)(hD:?nJ)(h0:0<e):e.natAbs.log2<=π/\?th:=by (let h1:?th:=by let:e.natAbs<=D:=?g;show ?s ?N hD);apply#[?_,h1];let:e.natAbs.log2<?cp:=(Nat.log2_lt ?g).mpr (qc1 h1 ?lu);ext d
def JL.done{n w r π b η β c:Nat}{M B0:Mat}[?ip][?q][?bd](rn:?as)(h:?Ok n)(hc:?hu<=c):(∃G,Ct n ?A w r n G M B0 kt hd t s.1 s.2)/\?aB n ?A ?eB s.1/\?aB n n ?eB s.2:=by let e:?hu=?cm+?mI:=rfl;rcases h with⟨h0,h,bb⟩|⟨h0,h,_,bb,_⟩;{let en:n=r:=?g;subst en;let:=?kR (?Mv (β+Fl π b n<=?eB));show ?AG};let:=?kR (?Mv (_<=?eB));show ?AG
universe Hb
namespace Lat
open Hb
abbrev Gy(f:?C):?C| 0=>0| ?n=>?q9
def Nz{f g:?C}:∀{n:Nat},(?Nw n (f k<=g k))->?mM<=?s1| 0,_=>?l| ?n,h=>qx7 (Nz ?dh) ?l9
def Zl[?aO]:∀n:Nat,?Jj<=Gy (λk=>?rs) n| 0=>?l| ?n=>?s ?Hz (qo7 (Zl f n) _)
def bI(f:?C)(c:Nat):∀n:Nat,Gy (λk=>f k*c) n=?mM*c| 0=>by exact 0=0*c;(ext d)| ?n=>by exact Gy _ n+f n*c=?q9*c;rw[bI f c n,qg5]
def PV{f g:?C}{c:Nat}:∀{n:Nat},c<n->f c=f c->(?Nw n (k≠c->f k=g k))->g c=0->?mM=f c+?s1| 0,h,_,_,_=>?g| ?n,h,e,hk,h0=>by exact ?q9=f c+(?s1+g n);cases z:c=n;{subst z;let:Gy f c=Gy g c:=qj9 (Nz λk hk'=>qn1 ?Cz) (Nz λk hk'=>qn1 (?Cz).symm);ext d};let:=PV (n:=n) ?g ?j (λk hk'=>hk k ?g) h0;let:=?PU hk n;ext d
def FG{i:Nat}[?be][?q](P:?z6){a m:Nat}(h:?NF i (?x4<=m*?c3)):?pa:=by intro j;induction j using Nat.strongRecOn with| _ j ih =>ext LM;let hs':?wW<=m*?c3:=hs;ext LK;let c:?IY:=?s ?Em (by rw[qp9];show b);rw[qb5]at c;show ?CC
section
variable{n w r E:Nat}{e:Int}{T P PB R RB:Mat}[?bt]
def wX[?iw]{x:?t}[?cx](hx:?NR w (v c=?xm))(hv:?NR w (?Bm<=e.natAbs)):?CR:=by let rn:=g.sq.rn;let rw':=g.sq.rw;have a:Nat->?C:=λc k=>if ?su then ?mA*?nO else 0;let step:?NR r (?T5 c=a c c+?Kn):=?Ny (PV ?g ?j (λk hk ne=>by exact(if ?su then _ else 0)=if ?l2 then _ else 0;cases z:?su;{rw[?aD,?u #[?g,z.2]]};rw[?bM,?r]) (by exact ?SV ?a9 0;ext cN));(let top:?NR r (a c c<=e.natAbs+?Kn):=λc hc=>by let h1:=?iE;let h2:=Uo (f:=?go) (g:=λk=>if k=c then ?iI else ?nI) (n:=n+2) (p:=c) (q:=?n) ?g ?g ?g;(let e1:?xm=?iI+?AF:=by (let:∀m,c<m->?ef->?rn=?iI+?i ?rZ m:=λm=>by induction m with| zero=>intro h;(ext d)| succ m ih =>intro h hm;exact ?lK+?Fk=?iI+(?lK+if ?a9<=m/\m<r then ?Fk else 0);cases z:c=m;{subst z;(let z1:?i ?go c=0:=?NX (by rw[g.low k c ?g ?g hk,qd7]));(let z2:?i ?rZ c=0:=?NX (by ext cN));rw[z1,z2,?r];ext d};rw[?qS];cases y:m<r;{rw[?u #[?g,y]];ext d};rw[?r,?pJ m c ?g ?g ?g,qd7];ext d);show ?N n ?g ?l);(let e2:?N0 ?iI (e.natAbs+(?AF).natAbs):=by let:=hv c ?g;rw[h1,e1,qx3]at this;show AO ?N);apply ?s ?rm (?s e2 (qp6 (?s ?Es ?EP) _));{exact ?SV c _;rw[?u #[?l,hc],qb5]};exact ?N0 ?nI (if ?l2 then ?mA*?nO else 0);cases z:?l2;{rw[?aD,?aD,qb5];let ?qe:=g.red c k ?g z.2;show ?hV};rw[?bM,?bM];show ?l);(let all:∀d,d<=r->?T5 (r-d)+e.natAbs<=?ro:=λd=>by induction d with| zero =>intro _;(let:?T5 (r-0)<=Gy ?cF n:=Nz λk _=>by exact(if r-0<=k/\k<r then _ else 0)<=0;ext cN;show ?l);(let z:∀m,?xM=0:=λm=>by induction m with| zero=>rfl| succ m ih=>exact ?xM+0=0;ext d);rw[z]at this;rw[qz7];(ext d)| succ d ih =>intro hd;let i1:=?aL;let s:=step ?nf ?g;let t:=top ?nf ?g;rw[?Mv (?nf+1=r-d)]at s t;(let p2:?ON ?a6=?ro+?ro:=?Ac);ext d);let fin:=all r ?l;rw[qh9]at fin;(let le1:?E3<=?FR:=Nz λk hk=>by exact _<=if 0<=k/\k<r then _ else 0;rw[?u #[?J,hk]];let:=?IX;show ?i3);(let le2:?Qc r (?FR<=?L0):=λm=>by induction m with| zero=>intro h;rw[?GL];show ?l| succ m ih =>intro h;cases z:r=?V;{rw[z];show ?l};let:=?aL;exact _<=?L0+a 0 m;ext d);let:=le2 n rn;ext d
def wY[?mm](he:1<=e.natAbs){x:?t}[?cx](rn:?as)(hx:?Tb (v c=?N2 (x k*?hJ) n))(hv:?N9 ((v ?aV).natAbs<=?eg))(h0:?CR):Gy ?k6 n<=?BO:=by (let one:?N9 ((x j).natAbs<=1+?oA):=λj h1 h2=>by ext n0;let e1:=hx ?aV (?OO K.lt);rw[?rS (j:=?F) ?g λk h3 h4=>by rw[?R1 h4 ?g h4,qd7]]at e1;(let e2:v ?aV=?ti+x j*?dU:=by rw[←?pk];show e1);(let e3:?N0 ?ti (?oA*?eg):=by rw[←bI];apply ?s (Zl _ j) ?EP;let ?qe:=?RT k hk;exact(x k*_).natAbs<=_;rw[qb5];show ?hV);let e4:=?OO hv;(let e5:(x j*?dU).natAbs<=(1+?oA)*?eg:=by rw[qg5,qg4];apply ?s (AO (a:=?ti) (m:=?eg) ?_) (qp6 e3 _);show ?s (qn1 (?id ?q4 e2.symm)) e4);rw[qb5]at e5;show qt6 e5 ?g);(let all:∀d,?hL<=n->?xg+1<=?s0:=λd=>by induction d with| zero=>intro _;rw[qz7];exact Gy _ r+1<=_;(ext d)| succ d ih =>intro hd';let i1:=?aL;let o:=?PU one ?hL;exact ?xg+(x ?hL).natAbs+1<=_;rw[qh4];(let:2 ^ d*2*?nt=?s0+?s0:=?U);ext d);let fin:=all ?lF ?g;rw[?Mv (r+?lF=n)]at fin;(let p1:?tr*?nt=?mO+?tr:=by rw[Nat.mul_add,Nat.mul_one,←Nat.mul_assoc,←qe3];congr 3;ext d);let p2:?tr<=?mO:=?s ?i5 (qj0 _ he);(let p3:?BO=?mO+?mO:=?Ac);ext d
def Vd.le{M:Mat}{W:Nat}[?uj]{i j:Nat}[?c2](h1:?aH)(h2:?L):?N5 M ?aV ?eg:=by ext n0;rcases ql3 i j with z | z | z;{let ?cf:=?RT i z;ext d};{rw[z,?pk];show ?l};rw[?e0 i _ ?g hi (?fn j i h1 z hi)];show ?J
def FA{π β:Nat}[?gc](he0:0<e)[?n1][?iw](g':?II)[?mm](K':?IN)(s:?DM)(b1:?RX P) : ?aB n n ?Be ?gN:=λi a hi ha=>by let ?aG:=(?ns).1 i hi;(let h0:=wX g (x:=x) (v:=R i) (?Ny (by rw[?iE];show ?Sn (by rw[?mQ]))) λc hc=>by let ?cf:=g'.le c i hc hi;exact(tr R c i).natAbs<=_;ext d);let h1:=wY K (e:=e) ?g g.sq.rn hx (?Nx (K'.le hi h1 h2)) h0;exact(R i ?b0).natAbs<_;rw[?zS];apply qc1 (?s ?Es (?s (Nz (g:=λk=>?mA*?b9) ?de) ?_)) (m:=2 ^ ?n*?a1*?b9) ?_;{exact(x k*_).natAbs<=_;rw[qb5,beside_hi];show ?TE (qe6 (b1 k a hk ha))};{rw[bI];show ?Q1 (?s h1 ?GH)};rw[←qe3,←qe3];ext uM
def BF{π β:Nat}(he0:0<e)[?n1][?LQ][?Ms](b2:?RX PB) : ?aB n n ?Be RB:=λi a hi ha=>by (let ex:∀k,∃y:?t,k<n->?Tb (?hJ=?SE (y i*?cu) n):=λk=>by cases hk:k<n;{let ?fq:=(?ns).2 k hk;show#[y,λ_=>hy]};show(?Pn hk));have y:?bW:=λk=>?y4 ?L6;let hy:?Nw n (?Tb (?hJ=?SE (?kG*?cu) n)):=λk=>?Kg ?L6;(let ybd:∀k,k<n->?N0 ?kG (?hK*e.natAbs):=λk hk=>by apply FG (R:=R) (B:=λi _=>?kG) (t:=t) (a:=0) (i:=n) #[λj l _=>?k4 j l,λj c _=>?lm j c,λj _=>?rC j,λl j _=>?p6 l j] ?aY i hi;rw[←hy k hk ?x ?lG];let p:=?te;cases z:j<r;{rw[?hs ?v2];let ?lk:=g.le k ?x hk ?v2;show ?s (show(T k ?x).natAbs<=e.natAbs by ext d) ?i3};let ?lk:=ker j ?g hj;rw[q2];rw[q1];show ?s (K.le hk ?g hj) (qn5 _ ?g));(let rel:RB i a=?nk:=by (let z:?Tb (?Au=0):=λc hc=>by let e1:?OL (RB l a*?fh)=?sj:=s.pt a c;(let e2:?sj=?OL ?wJ:=by (let:?sj=?N2 (?Sp (λl=>?G1*?fh)) n:=Af λk hk=>by rw[hy k hk c hc,←Bc];show ?RS ?U);rw[this,Cm];show ?RS (by rw[E4]));(let e3:?Au=?OL (RB l a*?fh+?W*?wJ):=?RS ?U);rw[e3,C3,Bc,e1,e2];ext d);let d:=s.dual dl;(let q:?sr=RB i a-?nk:=by (let:?sr=?Sp (λc=>?OL (?pM*(R l ?co*RB i c))):=Af λc _=>by rw[←E4];show ?RS (qe2 ..));rw[this,Cm];rw[?aA hi λl hl ne=>by rw[Bc];let:=d l i hl hi;unfold pD at this;rw[this,?eY,qd7]];rw[Bc];let:=?Tg d i hi;unfold pD at this;rw[this,?w,qm5]);(let q0:?sr=0:=?a2 λc hc=>by rw[z ?co ?g,qf0]);ext d);rw[rel];(let m1:?N0 ?nk (n*(?hK*?a1*?b9)):=Sf λk hk=>by rw[qb5];show ?Qq (?s (ybd k hk) ?GH) (b2 k a hk ha));apply qc1 m1 (?Sz (qe6 (qp5 (n:=n))) ?_);rw[←qe3,←qe3,←qe3];ext uM
def Ek.same{W n:Nat}{R:Mat}[?q](st:Ek W n R t)[?cx](hv:?zI){j:Nat}(hj:?L)[?MU](h2:∀k,j<k->k<n->0<=?g9/\?g9<?cX):?NR W (v c=?bp):=by let ?aG:=hv;(let hu:∀c,c<W->v c-?bp=?yD:=λc hc=>by (let e:?yD=?N2 (x k*?dy+?W*(?tk*?dy)) n:=?pv);rw[e,C3,Bc,El,?la,←?cr];ext d);(let all:?Nw n (?s3=0):=λk=>by induction k using Nat.strongRecOn with| _ k ih =>intro hk;let p:=?rC k hk;let e:=hu ?a3 (st.lt k hk);rw[?aA hk λi hi ne=>by ext uY;{rw[ih i z hi,qf0]};rw[?Rs ?lm ?k4,qd7]]at e;(let small:(?g9-R j ?a3).natAbs<?rL:=by rcases ql3 k j with z | z | z;{rw[h0 k z,?lm j _ hj (?k4 k j z hj)];ext d};{subst z;rw[h1];ext d};let a:=h2 k z hk;let b:=?p6 j k z hk;ext d);rw[e,qb5]at small;apply qh3 λne=>?_;let:1*?rL<=(?s3).natAbs*?rL:=?Q1 ?g;ext d);intro c hc;let:=?QZ hu;rw[?NX (by rw[all k hk,qf0])]at this;ext d
def sM[?LQ]{j:Nat}(h1:?aH)(h2:?L):?Tb (?bp=?OU j c):=?Ny (by apply(st.same ((?ns).2 j h2) h2 ?de ?_ (λk hk hn=>?_) c hc).symm;{cases z:k<r;{rw[?hs ?F4];show ?pJ j _ h1 h2 ?F4};rw[(ker k ?g ?g).1];show ?e0 j _ h1 h2 (?fn k j ?g hk h2)};{let ?cf:=ker j h1 h2;rw[b,a];show ?pk};let ?cf:=ker k ?g hn;rw[b,a];show ?gw j k ?g hk hn)
universe e9
universe Lat
namespace Hb
open Lat
section
variable{n w b0 D π b β D2 π2 b2 β2 C1 C2:Nat}{A:Mat}
universe e9
abbrev DV(n:Nat)(f:?Cw):Bool:=(?kI n).all f
def Nt{n:Nat}{f:?Cw}(h:DV n f=true):∀i,?y->?R=true:=λi hi=>qd4.mp h i (qe1.mpr hi)
universe Hb
namespace Lat
open Hb
def vY:∀(k:Nat) [?gd],(∀x y,x<=k->y<=k->s x=s y->x=y)->∃x,x<=k/\k<=s x| 0,s,_=>#[0,?l,?J]| ?H,s,h=>by refine qm6;intro no;(let lt:∀x,x<=?H->s x<=k:=λx hx=>by rcases qi0 k (s x) with z | z;{show ?bU #[x,hx,z] no};show z);(let#[x,hx,hk]:=vY k (λx=>if s x=k then s ?H else s x) λx y hx hy e=>by cases h1:s x=k;{cases h2:s y=k;{show h x y ?g ?g (?pV h2.symm)};rw[?dW,?cV]at e;let:=h ?H y ?l ?g e;ext d};cases h2:s y=k;{rw[?cJ,?gD]at e;let:=h x ?H ?g ?l e;ext d};rw[?cJ,?cV]at e;show h x y ?g ?g e);let l1:=lt x ?g;let l2:=lt ?H ?l;cases h1:s x=k;{rw[?dW]at hk;let:=h x ?H ?g ?l ?g;ext d};rw[?cJ]at hk;ext d
def zN{n:Nat}{P PB P':Mat}(h:?Rh (pT n PB P a b))(x:Nat):?NR n (P' x c=?Jm):=λc hc=>by (let e:?Jm=?Sp (λa=>?os*pT n PB P a c):=by rw[Af λu _=>(E4 _ _ _).symm,Cm];apply Af λa _=>?_;exact _=?os*?N2 (?jJ*P k c) n;rw[←Bc];show ?Sn (by rw[qe2]));rw[e,?aA hc λa ha ne=>by rw[?SN h a ha,?eY,qd7],?SN h c hc,?w,qm5]
universe Lat
namespace Hb
open PySem L2
abbrev Drawn(h w b0:Nat):Prop:=(h<=7/\w<=8/\b0=4)\/(h<=4/\w<=5/\b0=22)\/(h<=2/\w<=3/\b0=69)
structure V9[?dq](H:Hp)[?ud](n w k:Nat)[?aO][?gV]:Prop where
 tup:SqT K H tp ?xI
 num:SqL K H nm ?DP
 left:?OS ?rX ?B5
 lback:?OS ?kr ?IJ
 right:?OS ?ju ?K2
 rback:?OS ?oD ?KJ
def EB.r[?ae][?c1][?Mj][?a4]{l r:?a0}(x:?vb):?DW:=#[x.tup,.of x.num,x.left,x.lback,x.right,x.rback]
def V9.same[?ae][?c1][?Mj][?a4]{l r:?a0}(x:?Oj H)[?nF]:?DW:=#[s.seqT x.tup,s.seq x.num,?fS s x.left,?fS s x.lback,?fS s x.right,?fS s x.rback]
section
variable[?dq]
universe e9
structure Sta where
 T:?bW
 f:?bW
 l:?bW
 lb:?bW
 r:?bW
 rb:?bW
abbrev dot(x y:?t)(n:Nat):Int:=?N2 (x k*y k) n
abbrev dl(a b:Nat):Int:=if b=a then 1 else 0
structure Good(h w:Nat)(S:Sta):Prop where
 l1:∀r s,r<h->s<h->dot (S.l r) (S.lb s) h=dl r s
 l2:∀a b,a<h->b<h->?TJ S.lb S.l h
 r1:∀r s,r<w->s<w->dot (S.r r) (S.rb s) w=dl r s
 r2:∀a b,a<w->b<w->?TJ S.rb S.r w
 now:∀i j,i<h->j<w->S.f i j=dot (λb=>dot (S.l i) (λa=>S.T a b) h) (S.r j) w
abbrev unit:?bW:=λi j=>?A9
universe Hb
namespace Lat
open Hb
def BH(g:?t):∀n,?CG=g 0+?KQ| 0=>by exact ?i g 0+g 0=_;exact 0+g 0=g 0+0;(ext d)| ?n=>by exact ?CG+g ?n=g 0+(?KQ+g ?n);rw[BH g n,qo5]
abbrev AM(A:Mat)(j:Nat):Mat:=λr c=>A ?av ?Ka
def JM:∀(n:Nat) (A:Mat),?TZ A=?Na (?Ft*?Ta ?An) ?n| 0,A=>rfl| ?n,A=>by (let e:∀i j,i<?n->j<?n->?yM=?Ig:=λi j _ _=>Ej λr c _ _=>by exact A (if ?av<?k then ?av else ?av+1) (?Ka+1)=A (?lN+1) (if ?a9<?F then ?a9 else ?a9+1);congr 1;{split<;>split<;>ext d};split<;>split<;>ext d);exact ?SE (?Ha*?TZ ?gq) (?n+1)=_;rw[BH,BH (λj=>?Ft*?TZ ?An)];let e0:?TZ ?AN=?TZ (AM A 0):=rfl;rw[e0];congr 1;(let l:?SE (?Te ?k ?k*?TZ ?Jv) ?n=?i (λi=>?Na (?Te ?k ?k*(Xu j*A 0 ?F*?yM)) ?n) ?n:=Af λi _=>by rw[JM n,Bc];rfl);(let r:?Na (?JR*?TZ ?Dl) ?n=?Na (?SE (?JR*(?Te i ?k*?Ig)) ?n) ?n:=Af λj _=>by rw[Bc];rfl);rw[l,r,Cm];apply Af λj hj=>Af ?ia;rw[?Tg e j hj,bQ,bQ];grind
def Y4:∀(n:Nat) (A:Mat),?Ta (λr c=>A c r)=?bm| 0,_=>rfl| ?n,A=>by rw[JM n A];ext iu;rw[←Y4 n (AM A i)];rfl
abbrev Ag7[?aJ](A:Mat)(D:Nat):Prop:=∀(k:Nat) (r c:?C),(∀x,x<k->r x<n)->(∀y,y<k->c y<w)->(?o k λx y=>A (r x) (c y)).natAbs<=D
def OO(k:Nat)(r:?C):?yh\/∀x y,x<k->y<k->r x=r y->x=y:=by cases h:?yh;{show ?qW};show ?S λx y hx hy e=>qm6 λz=>h #[x,y,hx,hy,z,e]
def YB{k:Nat}(M:Mat)[?gd]{y0:Nat}(h0:y0<k):?SS ?xz ?DV:=by cases z:y0=0;{subst z;congr 1;show Ej λx y _ _=>by cases q:y=0;{rw[?fI,q]};rw[?eW,?eW]};rw[←Y4 k ?DV,←Y4 k ?xz];let e:=MB (A:=?cn) (show 0<k by ext d) h0 (λq=>z q.symm) ?k1 ?qL;(let e1:Ca (Ca ?cn 0 ?k1) y0 ?qL=?cn:=by rw[show Ca ?cn 0 ?k1=?cn from Jk ?cn 0];show Jk ?cn y0);(let e2:Ca (Ca ?cn 0 ?qL) y0 ?k1=?z4:=by funext y x;unfold Ca;cases q:y=y0;{rw[?fI,?r,?fI]};rw[?eW];cases q2:y=0;{rw[?u q2,?u q2]};rw[?p q2,?p q2,?eW]);rw[e1,e2]at e;exact ?SS ?z4 ?cn;rw[e,qb9]
end
mutual
#check(5,[?a,?b,?c,.(by first|with_reducible(first|assumption|show Nat.le_trans ‹_› (Nat.le_of_ble_eq_true rfl)|show Nat.lt_of_lt_of_le ‹_› ‹_›|show Nat.le_of_lt ‹_›|show Nat.lt_of_lt_of_eq ‹_› ‹_›|show Nat.lt_of_lt_of_eq ‹_› (Eq.symm ‹_›)|show Nat.lt_of_le_of_lt ‹_› ‹_›|show Nat.succ_le_of_lt ‹_›|show Nat.le_of_not_lt ‹_›|show Nat.sub_le _ _|show Nat.le_of_succ_le ‹_›|show Nat.lt_succ_of_lt ‹_›|show Nat.le_add_right _ _|show Int.toNat_sub _ _|show Nat.le_trans (Nat.min_le_right _ _) ‹_›|show Nat.le_trans (Nat.sub_le _ _) (Nat.le_trans (Nat.le_of_eq ‹_›) ‹_›)|show Nat.sub_succ_lt_self _ _ ‹_›|show znb ‹_›|show znc ‹_›|show Nat.succ_sub ‹_›|show Int.natAbs_neg _|show znd ‹_›|show zne ‹_› ‹_› ‹_›|show znf ‹_› ‹_›|show znh ‹_›|show zng ‹_›|show zni ‹_›|show znj ‹_›|show Nat.add_sub_of_le (Nat.succ_le_of_lt ‹_›))|lia),.(by first|(apply Hb.let12 ?_;intro _ _ _ _ _ _ _ _ _ _ _ _)|(apply Hb.let11 ?_;intro _ _ _ _ _ _ _ _ _ _ _)|(apply Hb.let10 ?_;intro _ _ _ _ _ _ _ _ _ _)|(apply Hb.let9 ?_;intro _ _ _ _ _ _ _ _ _)|(apply Hb.let8 ?_;intro _ _ _ _ _ _ _ _)|(apply Hb.let7 ?_;intro _ _ _ _ _ _ _)|(apply Hb.let6 ?_;intro _ _ _ _ _ _)|(apply Hb.let5 ?_;intro _ _ _ _ _)|(apply Hb.let4 ?_;intro _ _ _ _)|(apply Hb.let3 ?_;intro _ _ _)|(apply Hb.let2 ?_;intro _ _)),.(by first|(apply Hb.letG6 ?_;intro _ _ _ _ _ _)|(apply Hb.letG4 ?_;intro _ _ _ _)|(apply Hb.letG3 ?_;intro _ _ _)|(apply Hb.letG2 ?_;intro _ _)|(apply Hb.letG1 ?_;intro _)),.(by ext d),rfl,some,.(nomatch _,?h),sumN,.int,∀{xs:LLInt},a,.(nomatch _,_,?h,?h),∀(xs:LLInt),a,p.1,ChL,.inl,if_neg,i+1,decide,.ref,(k:Int),.(by decide +kernel),.(by ext x),.(by rfl),?av Str,pv 0,?av V,∀(φ:?cg),a,if_pos,.inr,.(nomatch _,?h,_,?h),∀(K:W.Frag),a,∀{ps:?bI},a,k+1,Same,G σ H,∀{G:?ly},a,base,?v a,xs.getD,pv 1,(xs:LLInt),?OB k,j+1,Nat->Int,∀(Ce:?bD),a,?E ?h,mainGlobals,?i ?an,qa3 _,?av Int,.(nomatch h1,h2),face,.lst,?K H H',W.nsIn,∀{f:Addr}{fd:FuncData},a,∀(hs:?bS),a,.(by ext a9),.(by simpa using h1),∀(lf:?c9),a,.(nomatch ?h,?h),λDo A outer s H vs Q E hr h=>?_,.(by decide),?OX ms,G σ,FnScope,F.okZ,∀(T:Fo K mg ?bs ?ap ?ae ?b3),a,∀{G:?NG St},a,W.findIn,zs k,qb1 _,∀{lf:?c9},a,absurd,row k qs h,∀{vs:?C},a,?s ?g,Bj _,?NG Hp,qa2.mp,Nat->Nat,LT K H ?O xs,∀(p:BPart),a,Ft p,Same.new,.tup,?Lg ms,?w+1,n+1,C_Work,∀(ps:?bI),a,∀{K:W.Frag},a,this,?OA k,pv 2,ms.map,?s h,?p=0,none,λ_ _=>rfl,C_Stairs,?E e,∀{ms:Ms}(h:?bB),a,.(nomatch ?an,?h),_,?s z,List,2 ^ n,V.int,gH ?_,Ap λgG gH=>?_,k<4,(i:Int),?E h,C_Book,Int × Int,mulV,.(nomatch Ab,?_),qd2.mp,.(by simp),q.toNat,bookF,nd ms,?E z,?R1 40,qa0 ?g,qb4 ..,?s e,cK ms,?av BPart,beside,(j:Int),k+i,∀(t:?HZ)(Ce:?bD),a,∀{hs:?cx},a,∀(_K:W.Frag),a,hs[k]?=?dw,(0:Int),(q:Int),Bn xs,ks j,p.2.2.2,p.2.2.1,k-1,?Rb i,lookI,.none,?i o,pv 3,∀(hs:?cx),a,∀{A:?c5}{H:Hp},a,∀(s:?a4),a,(?Nd ?_),sumN_one,.(by ext c1),ps.map,"number",wpAny,"place",H D=none,(a b:Addr),?Me ?aY,f i,T3 y,(n:Int),C_Lines,_::_,Q (?v D) H',?Pv p0,Dr xs q,∀{A0 A1:Type}{S:A0->A1->St},a,_,∀(ls:?cx),a,.(by ext e),.(by kernel_rfl),fs.getD i 0,?l k,Yu p,?NG Addr,?PH Jg i,xs.length,Lat.turnL,?av Ms,σ=?qC,(a:Addr),?OA ?w,"shape",p j,p::ps,?Ov Lg,λD hD=>?_,?hz f k0 i,(?NR ?_),Qo p,σ=?oF,Lat.Bits,∀{A0 A1 A2:Type}{S:?Pn St},a,∀{A0:Type}{S:A0->St},a,∀{v:V}{p:BPart},a,∀{α:Type},a,Ju hp hq,?OB ?w,?v ?bs,IsEnum,g.1.toNat,p::ms,List.range,?QP k v,C4 ms ns,σ=?l3,"__init__",G s H,?i ?JS,?Pv p1,min n w,Int->Int,(ms:Ms),?p=k,Bf xs ms,IntMulOk,zs j,?cf*?e7,?eP ms k v,?v e,Nat->?C->?ly,λ_ _ _ _=>Bv,Lr ps,?i q,.(by rw[qa1,?bE]),∀(fs:?a0)(n:Int),a,∀{us:?C},a,.(nomatch ?aD,?h),?av ?bI,sumN_all0,k+j,gB j,wk.e0,Ii n lf,?bK+1,ite2 ?zR ?zR,H' D,a.fdiv b,small,?v l,?ps m 0,Fp A H v p,(A:?c5),W.keepIn,?Qm Ax,?Oa φ,?b7 hp,L.ch,PartsA,2*n+π+2,"enumerate",?br+1,∀(hk:?KU),a,∀{f:?U},a,∀{p:BPart},a,∀{D:Addr},a,?aZ hD,chainB,Kd ms k,?l n,?PH EE j,s _ _ h1,Dr xs ?bR,Bx ?b8,?n0 ?fw [],r+1,?i v,sg j,λ_ z=>?CG,λφ=>?_,?v ?ae,?bQ+?b1,qa0 hj,?bY ms k,p.2.1,#[a,b],?aZ hp,?K H G,(j:Nat),Bits,Cb ?c7 ls,_,λq=>?_,ps.getD i dP,2 ^ b,2 ^ π,Cw xs ?w ?aL ?jy ?lX ?k3 ?t2 ?l8 ?mC i,?Q5 1000,p0 x0 x1,?i ps,Cn ms,λ_=>0,u1 Sa,2*w+π+2,p0 H,"row",vs=[?O,?eH],?v ?ap,P i j,?Pv p2,π+2,FY ms n ns i,(lf:?c9),∀{ls:?cx},a,∀(A:?c5)(H:Hp),a,.(by simpa using this),.(by simpa using e),.(by split<;>ext d),∀(f:?U),a,.(nomatch ps,h4,h1,?h),?v b,vs[i]?=?dZ,?v c,(?ai).length,k<=j,s.heap.objs.size,Ne.symm,Ks ms k n,putI,?Lg m,?Lg ?lh,?KB+1,?i p,Xr xs hs lf j,(w.length:Int),?QP k u,z.symm,qd5 ?Z,.type ?jY,?f5 hi,qk6 _,?K H H1,"law",turnL,r x,?ty a 0,?Mu ?gQ,.(by ext eD),.(by simp;ext d),"chain",?v p,?p=1,e.symm,Reps,H a=?hK,ns[i],#[i,hi,?h],ls.map Lr,?QY ?fw,?Ov Li,[(?bR,1)],?hz ?lJ ?bT i,fs.getD j 0,hs.set,h1.1,nB ?T,.of Ab,?ty j 0,?s q,"table",qe1.mp,?qj=?eT,?v t,nB j,Lat.sumN_all0,Nat->?ly,B a c,?Px ?i0,∀{zs ks:?aV}{Ls Gs:?z6}{fs:?s5}{lp rp:?Jv}{ls:?cx},a,∀(hp:?lK),a,.(nomatch t,a,b,c,e,h1,h2,h3,h4),∀{σ:St}{H:Hp},a,.(nomatch t,a,b,c,e),∀(hsh:?bS),a,∀{H H':Hp},a,∀x∈xs,x.length<=4,?v ?b3,G a c,kB n,(xs.length:Int),"rows",(k0:Int),?Le (?wQ*?pv) m,?F ?gP,qf2 _,sp.zip ns,H p=none,hs.getD,2 ^ 9000,qi7.mp,?E ?g,ChL.nil,h.ch,Heap.SameBut,?RT p0,"turn",A0->?QD A1 A2,(ps:?bI),?Pv p3,i<?bT,p.dπ,A0->?aT,Mh _ hp,A0->A1->?aT,0<=?p,Option,?cm+1,?gL-w,qa0 hi,?E hi,p0 x0,qg0 _ _,?Q3 p0,p.toNat,qe8.mp,let s:=?oF;?cc,?Qm P3,p1 x0 x1,let s:=?qC;G s,["thing"],λz=>?_,G i a,β2+?gA*?e0,i<k0,if ?cI=0 then [] else ?QP ?J (r.1 i),Dh.nd,ChL.bord,?cm-m,p0 x0 H,(?et).length,(hs:?cx),Value,p::c,w.map ?ax,?QW k,2*π+4,?hz ?t2 ?jy i,Cd H vs ps,s l,?aE+n,AQ n i,σ=S,#[_,?h],[(q,1)],(-1),lf.getD,.(by ext gi),Bf xs D,K.lookup,?bQ+?bK,"backs",p r,∀{k:Nat}(hk:?b0){p:Int}(hp:p∈?cC),a,∀{sp ns:?a0}(hl:ns.length=sp.length),a,.(by unfold nd at h;rw[qc8,qg7]at h),∀(h4:?fK),a,∀{A:?c5}{H H':Hp},a,∀(h:?jN),a,∀(h:?eU),a,∀{A A':?c5},a,∀(D:Addr) (H':Hp),a,.(by simpa using h2),∀(fs:?a0),a,∀(vs:?C),a,.(nomatch _,_,_,_),?RD 1,?RO p1,wk.going,gT m G B,this.1,?QD A0 A1,?r ?h,s' 0,nd ns,?NC Cf,?b7 hm,Wb A H,.(by rw[Bc]),"_law_script",Am ?aY,Go xs k,?Mu ?iZ,?bK%2,Ka H v p,?a3 ws,Lat.one,ns.length,?eN ne,σ=?qR,i<?jy,?E q,"other",ps.length<=40,(?ua).natAbs,let s:=?l3;?cc,(?hk).length,Cn (FY ms n ns ?h7),p1 x0 H,s.heap,?i ?iX,if i=j then 1 else 0,?Rb ?hS,H b=?hK,λj hj=>?_,Am ms j,ZF ms,?Pn ?aT,p.1.toNat,?Po p1,IteT K a,hm.ch,let s:=?qC;?cc,?Mu ?cj,p0  x0 H,Dm n ms,?l ?w,PySem.W.makesIn,ms.take i,?uY i c,2 ^ π2,h.b q,s1.trans,.(by ext ct;rfl),?QA i v ps,?ip E5 p',?QY ?sc,Kc ?_,?QA i v p,w-k,W7 ?et e,[?l a,?l x,?l y],lf j hj,?ps i 0,?RT p1,?Lg ?cK,Pf A H hd hs,.(by unfold nB;ext d),?Mu m,Bt hp,"list",Lat.numAt,?P q [],p1 H,#[?eG,e,lv],?l i,?Q3 p1,φ ?p,qa6 hp,p1  x0 H,(l.map F).sum,?Qx ?hj,(?q7).1,?I8 c 0,?RO p0,?OB ?bW,g::gs,.(by simpa using z),?Rp ?ji,s1.seq,?PX ?ol,sp.length,?d7 ?g,?ew=1,#[?z,?z,?z,?z],vs=[?O],?Po p0,β+?gA*?dI,O c=none,top 59,n*p.2,?mH i 0,Cj xs ?bW,Str->?fo ?gE,v::vs,.dK ?bH,?av α,[(p,1)],?v hd,?MP ?B Ah,π+1,?OB ?J,qe2 ..,_,?ii<2 ^ J8,λi hi=>?_,t.2.natAbs,W.fnOf,let s:=?oF;G s,qd2.mpr,rp j,_,top 64,ps.set,w.take,Nat->Ms,4*B,(us:?C),La fs e i,Ec ?sg H wu lf,(v:V),q∈?ai,?l v,∀{A0 A1 A2 A3:Type}{S:?Pn (A3->St)},a,∀{f:?U}{l r:?k9},a,∀{k:Int}{m:Ms}(h:?mI),a,∀(hD:H D=?cd),a,∀{k:Int}{u:?U},a,∀{l:?iY}{i:Nat},a,∀{ms:Ms}(h:?jz),a,∀{q:Int}(hq:0<=q),a,∀{es:?av Expr},a,∀(g:Kv A A' H),a,.(nomatch g,d,tk+1,os),∀{l:?a0},a,∀{O H H':Hp},a,∀{lu:?C},a,.(nomatch us,?h,hq),tCons,0<=f,Ro O H v p,sameC,0<=p,T3 e,p.2*?oE,q.2=0,?s hf,?PS H us,Ay (K:=K),TI.mk,H0=H,qf7 ..,"_law_total",bl.fin.dg.pos,?RE (0<=r.1) (r.1<?fO),p2  x0 H,.frz o ?Ck,qg3.mp,"tuple",Af ?hO,k+d,[?l ?oU,?l ?wH,?l ?xI],λk qs h q hq φ=>?_,?Pv p4,W.isFn,P i a,S4 Ce hq,?Qk ?Cv m,?Pl ?B,Cw xs ?bK ?cl ?bT ?sZ ?jq ?lJ ?mW ?im i,p1 x0,φ ?eg,?s h3,m.length,?OX [],Am ?vo q,Gs j,?M9 p1,?QY ?hS,?qh 1,this.2.1,Au w fam,([]:Ms),?fW k [],ks k,nz ms,La fs k i,H l=?cd,?fN+6,Gs k,wpAny_loadPart' q1,Str.empty,c hp hp2,ns[i].1,lf.length=xs.length,Lat.Mat × Lat.Mat,?Nj i,"hole",?Lc ?ed ?ed N4,?M4 (?pJ "object.__setattr__"),?v Jd,qx1.mp,wI ns ms,p∈?ai,qe0.mp,?p∈?ai,?v Gp,?NR (k p _ hp ?dj Ab),(?Nc h),((ds.length:Nat):Int),?Md ys,p.getD i 0,v=?eJ,W0.2.2.2.2.2.2.2,?OB 0,(?aU e1).1,Q ?el G,?i qs,lf.set,?LV (?J-1=k),Lr ?gv,Cf xs ?w ?aL ?jy ?lX ?k3 ?t2 ?l8 ?mC,((?T:Nat):Int),Pm xs k,#[p,hp,?h],p<?fO,.(by simpa using h),hp.objs.size,?r k,C4 ?uE ns,ns.take ?t,h.zero,0<=k,ps.take i,?Rc pJ,ms[i],?k (λy=>?tJ*?qe) w,?v R,Nat->α,W0.2.2.2.2.1,"bool","__setattr__",La fs k j,λl=>[l],Fb Ls _ ?g,Ix A H lu hs,?OB ?d3,"width",#[#[old,h1],h2],?ku+1,?mH i (0,0),S x0,w.length-1,uU p q,W0.2.2.2.2.2.2.1,.(by rw[?lu];show h),lp k,?Qj c ?bU,?es[k]?=?kV,?RT p2,qa4 (E7 _ _ _) Ce,?l q.2,#[?dP,Ab,?h,?as],?am\/1<?p,(wu:?C),?Po p2,?QP k (?c8 z l.1 G i),fs j,ps[E5]?=?eT,"_law_word",?m8 ?ax,ps++[p],Cd.put,?ND D o,?a3 vs,Cc (?P r.1.toNat []).length,Qo p2,wk.kl,?b7 z,?Lx (uU p q ?dt) ?aL,hm.ch.ok.n,Ls k,p.getD j 0,?i ?O,s3.seqT,Reps.same,PySem.W.plainGet,2 ^ bookF,?Qj a ?dh,#[h1,h2],‹_›,?Rb ?b9,let s:=?l3;G s,(?r0).2,?Qx ?n6,F7 hq,prodN,.(by grind),Ft p',"lifts",V r l,.(by simp[h]),(?sB ?pT).sum,α->Int,Aj ne,p.π9,(?aU hq).1,qe4 ?aD ?g,St->?aT,?Ln Jr,i<ms.length,Q ?ol H,?RO p2,?Ph m ?jn,dg.pos,?M9 p2,?bT+i,qf5 e,ns.map,(?mD).length,?fa xs _,?b7 h,rp k,?QY i,h.key,Ac9 hq,?jP ?_,ns.getD,?Li m,?l p,2*?mg,W0.2.2.2.1,PySem.W.hasDictIn,p2 x0 H,ps.foldl,?Qj b ?bV,?s ne,qd3 hi,λ_=>rfl,.func,h.ok.n,?gE->?rT,lp j,Fb zs _ ?g,h2.same s,.type ?dJ,a+b,W0.2.2.2.2.2.1,TI.get,q.symm,L4 hx,nd gs,?b1%2,?v p1,Fb Gs _ ?g,Pc n p,?hg s2,?M9 p0,Jh ?S v,p2 x0 x1,?Qw m,?Md wu,?Ps ?B7 m,PySem.W.plainOver,W.codeIn,?Q3 p2,kt j-n,W0.2.2.1,h.lb i q,b.2.2.1,qb3 _ hq,Mat × Mat,(?dn).getD,sp.map,b.g q,H t=?i (?aa [?l ?p,?O,?eH,?eJ]),(k,v),?Qx ps',(?hj).set ot eN,["parts"],2 ^ (?Hu+z),#[q,hq,?aB],cK cs,?v Hk,#[l,us,e,?a1],T.n_range,#[j,hj,ej],(?wb ?nu).sum,H1 D=?kO,[?pr],Cn ?hc,p::ns,lf i ?g,v=?f7,.(by apply ?pD;apply ?d4),∀(k:Int)(z k0:Nat)(L G:Lat.Mat)(f:?U)(l r:?k9),a,∀(A':?c5) (hs':?cx),a,∀(s:Qi b H H1)(hb:H b=?RU m),a,∀(L:?km)(hsh:?bS),a,.(by cases hi:i<vs.length),∀{P:Program}{w:World},a,∀(k:Int)(v:?U),a,∀(h:?PC H),a,∀(h:Hn D H vs ls),a,∀(h:?kx),a,∀{ms:Ms}{k v:Int},a,∀(h:Qk xs k ps),a,∀{ms:Ms}{k:Int},a,∀{p:?b4},a,∀{q:?b4},a,∀{fs:?a0},a,?k1/\?jN,0<=i,oZ Ce _ _,Ek m z L p,["spots",?ek],b.2.2.2,?Rs B6 ?B,?l (E5:Int),"_law_place",l.getD i d,?ee z PB L j c,?O5 (Ft b) e / b.1,?v ?eM,p2 H,Pe z (P,PB),(?De).n,?oh ?g,EU φ ?bw,i<l.length,?a3 [?kp],qa6 e,(?iU).getD,Aj nDa.symm,qa6 hq,let s:=?qR;?cc,?Nv L.b hk,bs.any id=true,qn0 le,2 ^ 10,1-?mK,[none,?i 1],Cn (?tj ?mm),H c=?cs->H1 c=?cs,rawInt,(ls:?cx),L.c _ _ h _ _ _ _ hi hj,ps[j]?=?cs,Am ms ?p,S x0 x1,"isinstance",Pe w (Q,QB),Af ?qJ,#[N,hN],?aZ hT1,?RT p3,"numbers_at",(?P7 ?pR),Q .non H',(?tZ s3).trans s4,(?Ou pr),["size","i"],λ_=>False,?a3 ?KD,a-?d6*b,Q ?bL,(a l:Addr),bl.fin.bl.1,["a","one","b",?hC],i<w.length,[?f4,"j"],.(by cases h),λk h4 q hq y=>?_,gs.foldl,["value",?bj],tVar i,H l=?mp,qe1.mpr,Pe w r,0<=g.1,FZ lf,.bl true,?RL p0,.(by unfold gB;ext d),H a=?cd,?ak λp=>(?p,?iS),?Li c,#[?j,q2],qo6 gt,nd ?bV,let s:=S;G s H0,Am gs,?Qs v i,?Oq ?tC ?c4,eF φ q p,z<=40,k D H1 hD s1 Eb,∀φ,?Lg ?m3=?mo,c.foldl,?Rc YM,(p:BPart),Xk Ce k v,"is_straight","levels",Cw xs k z k0 L G f l r i,"level_of",p.2.natAbs,?R1 1000,∀j c,?eL->j<w->c<w->(r.1 j c).natAbs<=?pm,#[?j,?h,?j,?_],ChL.ch Ce _ _,((?t:Nat):Int),?MJ H L0 [?dS,?rn,?l 0],#[j,hj,?h],?cV≠i,.builtin,?kW ?cV (plN ?IV ?Bu m),(?kG).natAbs,Mi K,"blend",p'.1=?p,Pe n l,f<?fO,hk x ?tc,(?cj).length,eF φ q,?cX n,jU K C B p xs ls,?rY*?eQ,W7 [x,y] e,"times",?p<?fO,"right",Bt (?mE p hp),p3 x0 H,eF φ q p',sX B n,IsEnumOut,ite2 ?z0 ?z0,sp _ _ Eb,upd ?qX p2 ?CX,?oj/\g.1<?br,#[k1,g,d,tk,os],if j=i then 1 else 0,2 ^ b2,.(by rw[Bw];ext d),LT K H v xs,"start_of",F.binds hb,"piece",sp.getD,?d5=?cd,[?l b,?l u,?iy],B a c',?Lg (Qo p'),"shared_divisor",?b1∈?cC,uZ ?u2 q,Am gs q.1,(?l8).2,"across",2 ^ jR,s _ _ h3,xs[f.toNat]?,λa ha=>?_,t.lv k hk,Array ?gE,(1:Int),wI ?aY c,#[hp,g,d,tk,os],?Pv S,Be Gq ?aj Ah,#[q0,q1,q2],WN p,?Ph ms ?tT,Kl k h4,ns.take i,λi _=>?_,?OV p,qd3 ?g,?Mj L.a p pm,"left",?Ps (?HW*?nn) m,λkey=>?_,L j ?gY,?Nk S,?a2 a ?b8,qQ f k0 z,?s (?PJ ne),sX ?uA n,q.1<?fO,?ND p1 ?CX,Lev q m z D L G,?Pn (A3->?aT),?Qm Ys,r.length,hm.b q,?OX ?dx,QB y c,∃k:Nat,Cc ?m9=?w,"_law_chain",w.drop,?a2 b ?b8,ps[i]?,λ_ _=>0,i<=ms.length,(?kY).map,fs.length,λi=>?ru,?b5 w B ?uR a,?Mu ?ev,(L r ?gY).natAbs,?Lw S,?Lt ?GD i,?aa vs,?E h.symm,if ?gJ=0 then [] else ?QP ?ac ((?mC).1 i),Fj lu ?an ?Jy,(?l8).1,"without_borders",ms.getD i (0,0),B 0*?qV,?a3 ?qx,"mixed",#[j,hj],jK i*?dr ^ i,?p≠1,?a2 xs ?HM ?iB,?v C,"_law_cell_at",?Dq/\?qW,PB i b,zt1 ?hJ t,qa6 hb,"_law_without_noughts",.(by rw[Jv]),#[i,hi],Go _ _,Af λb _=>?ln,?s hne,(?fY h).1,?QY f.toNat,["gauge",?ek],At ?jO ?B ?Q ?ao,2 ^ (n+10),?r ha,?Mu (?Rb q),(0:Int).natAbs,Am ?KJ,?NG Shared,"_law_family",h c hc,Ks ?c6 ?c2 ?gN,qp0.mp,wF ?h0 ?bw,Tj lf p,?Le (v a*QB y a) w,?eP _ _ _,Ec O H vs lf,Cn ?fU,Pb xs p,Am ?dT ?ex,this.2.2,?f5 hj,st.pos,"Lines.__init__",#[a,b,_],?Lg ?c4,?Ph m0 m0.length,?l 1,show ?gJ=0 from ?al,plN ?c4 ?p m,(ms ns:Ms),?d7 ?pn,qg9 _ _,(?dl:Int),?iq i++[?Dl]++?qh (i+2),(o4 o5:?fo V),Bs P w K mg ?N Ed k f fd ps sp,Gr ?g ?g (by rw[qc4];show hk),Ft p2,(?Ou p),(?im).1,t.lv j ?g,#[?m9-1,Kk _],Zr k w Q p,Ti t Ce p,Nat->?U,p3  x0 H,?s ?ah,?OA ?J,mQ xs k0 j ps m,(L N:Addr),(?jx).map,"faces_agree",?k _ i,i<sp.length,aU t Ce hk hp,["self",?bl],?N3 l x,[none],?i p2,?QR ?c4,us[i]?=?dZ,?M9 S,pv 4,[?gz,"_law_k"],(T i c).natAbs,?am->?bU=[],Eq.trans,Q y c',if ?c2=e then ?iu+1-?mK else ?iu,PB j b,[?l (-a),?l (-x),?l (-y)],#[q,hq,?h],w6.extBut,?F hq,Ls j,"_law_faces_by",qa6 hp2,(?r0).1.toNat,w5.extBut,b.r q,Nat.le_trans,λ_=>none,?OV p',.(show ?R9 ?mm=v j by rw[qa1,Uu hj];rfl),Lat.EuI,Q ?bL c,m+1,"lift",?eN e,?Qm Gd,?Md lu,"is_list_of_few",h.L.ch,?MR Cf k,Rd H a ?iX,"is_multiple",IV hp,?F ?gs,["self",?fP,?gX],H1 a=?i (.frz o ?iX),p.2*?i5,?RO p3,(?Mj h.b q hq).up,fs k,qa4 bl.zm ?lC,#[e1,e2,e3],L7 e t ps,?Mg p0,T.n_isinstance,?Rf Qk ps,Ng.mp hnd,σ=?qs,q.1.toNat,wI ?aY e / ?p,?Pu ns,.(show ?fW k0 []=ps by rw[qa1,hk];rfl),?v f,i*n.natAbs,AH A wu,?de+1,?Mr ?sS,?NU p m hm,blw k λj=>?xM,?jX hp,∀c,A c->A' c,Qo ?dq,"_law_weighed",qh6 ?aD ?g,σ=?sM,?wW Ma lf,ms.length,addL m (?kW _ _) gs,(Lr ?kZ).map,kP ?k2 ?cf,Mx e,?Nv L.b h,s2.trans,"_law_level",H1 D=?u3,qb3 _ hx,"weigh",ps[ot]?=?sJ,λe=>?_,(0:Nat),vs=[v],?Nv L.a hk,(?ai).zip,qa0 ha,2*?aw,Ma lf ps,?a3 (?qx++[?kp]),(?fY hp).1,Lat.mulV,?Mn φ q,2 ^ ?f8,"one_row",?NG A0,qe7 ?_,top 70,"is_whole",w7.extBut,(?ai).getD,[?bj,?ek],K2.st.good,top 56,?Ph [(?iB,1)] 1,?i ?zh,model prog w,λhnd o=>?_,h.diag,"pieces",l.set i y,?PJ h,λr=>B ?dY,b6 xs k n,?OB ?ac,List.replicate,Ks ms ?p p.2,?bD/\j<6,?Nj q,?oo/\?Ao,"column",#[ta,vs,?h,hT,rT],?Nv L.a h,?Po p3,?LV (?ac=((?J:Nat):Int)),?bJ n (λi j=>u1.1 j i) r.1,Kl j ?g,let s:=S;?cc,?l q.1,Q i,(?l2).1,#[?h,?h],?QY ?tB,ms[i]?,"add_at",?k f a,(?im).2,?Qs ?uR b,?Me m,jK n*?aw,?Q3 p3,?Lg c,.(by let hi2:=?kT;rw[qc3,qj6]at hi2;let ei:?EP:=?g;subst ei;rw[?eY,qh9]at e1),∀(st:?ng)(hB:?Iy)(b2:∀q c,q<m->c<w->?Qa B q c),a,.(by let old:=L.e k h4 q hq y;unfold HW at old ⊢;generalize ?bq=φ at old ⊢),.(by rcases this with z | z;{rw[?bC,z];simp};rw[?aR,z];ext d),.(by let eb:Qe hs (k0+1)=ps:=by unfold Qe;rw[?aR,qm2,qa1,hk];rfl),∀(ge:?NA ?hJ j n)(gj:s.heap.IsTupleIter j t n)(gt:?J9),a,.(by(let e:?r0=?kn:=?hh)),.(by(let hl:?MS ?mm ?eK:=?rF)),.(by let c:=?Mj ?sr p ?i6;let b:=?Mj h.b p ?i6),.(by cases z:c=a;{subst z;rw[ha]at e2;cases e2;show Ab};rw[Aj z]),∀(h:?qY)(tw:∀c,c<w->?MN ?BJ),a,∀{A0 A1 A2 A3 A4 A5 A6 A7:Type}{S:?LY (A6->A7->St)},a,.(by let h1:=?GV;unfold K9 at h1;rw[qb7]at h1),∀(mg:?iV)(C_Lines C_Stairs C_Work C_Book:Addr),a,∀{k:Int}{ms ns:Ms}(h1:?B9)(h2:?Li ns),a,∀{A0 A1 A2 A3 A4:Type}{S:?Pn (A3->A4->St)},a,.(by let e2:?d0<=gB ?T:=?on),∀{i:Nat}{q:?b4}(hq:?uV=?cs),a,∀(dg:?P2 z ?gp),a,∀{st:Stmt}{ps:?A}{k:Nat}{sp:Sp},a,∀{e j t:Addr}{n:Nat}{vs:?q8},a,.(by rw[←Bc];show ?QK ?ie),.(by let ?I2:=h),∀{prog:Program}{w:World}{A:Around},a,.(by rw[?qU,qf0]),∀(ns:?a0)(lo hi:?fo Int),a,∀{ms ns:Ms}(h1:Gm ms)(h2:Gm ns),a,.(by rcases ql7.mp hp with h | h),.(by unfold lev at la;simp at la),.(by unfold lev at lb;simp at lb),∀{z k0:Nat}{L G:Lat.Mat},a,∀(hc:YZ xs ?fQ p'),a,∀(D:Addr) (us:?C),a,∀{m:Ms}(h:Zq xs k0 m),a,∀{a:Addr}{xs:?C},a,∀{f:?s5},a,#[C,hc,gc,lc,cc],Fb ks _ e,s _ _ h4,λi=>?yt,h2.length,h.lift1 hf g,?Me ?ry-?bo*n,let u6:TS:=As t6 u7;?Bk,[?bl,?ek],?PB nDa,tup_cell h2,mG ns lo hi,h.ge j h1 h2,?LT p6 Va,?NK [o],?QJ 1,∀q∈ps,?R2 (Am (Ft q)) m=0,spN xs k i,?F ?Gn,hall2 i' ?g,"LEVELS",G6 y hc.r.ok.n,(?cX ?IJ).all,List.Nodup.sublist ?J5 h,setField,t.lv j hj,?Qe ?o8 e,?Qk ?fQ e,?Ln (Gc Ac),b.fin.il,As t2 t3,qc2 _ (qs5 _ _),blw k λj=>?Fp,n.natAbs<=100,H ld=?mp,.(by simp at z),?QP ?d3 (?s0 i),λp=>?ho,U0 hj,?jt::(?Cc ?qo),2 ^ 8000,?MT ?N f,?K G1 ?wT,?Mn ?HM p,?LV (?q9=?yH),GQ hsh,c.g.ok.n,VI w ?bp,Ec O H' vs lf,?ny x 0=e,qz4 ..,?OW ?zk,?bJ w A one,π<=8990,qc7 _ ?h,?Mn ?II ?iB,?NL ?S G,tVar j,?PW S x8,?Le (P x a*u a) n,?xW<2 ^ 1,Gr ?Hb ?CA ?IL,?n0 f.toNat [],Cc ?m9+1,Ii.first,x-?d6*u,k D ys H1 hD s1 Eb r1,?Ma (P y b*?AX),wpAny_callSpecial?_slot,.(by unfold bookF;ext d),h'.IsTupleIter,#[_,b,eb,hb],upd G1 B2 ?nw,{ cls:=?mZ,data:=.fields #v[?bZ,.bool false,?np,?oA 0,?bZ,?bZ] },?ee z P G i a,.Tuple es x1 tpos,Am ?e8 ?uS+n*(?l2).2,?MJ G1 T1 zs,.(by simpa using h6),(?aU hp).1,ls.foldl,tC ?rn,#[?eG,lv],h'.objs.size=?gm,.(by let:=dg.mn;let:=dg.mw;ext d),(Qe hs k).map,?n1 ?ax,Ur ?dz ?B ?aj ?ao,(?_:?QZ ?I4 ?d0),(?Me ?m3).natAbs,?M5 p0,#[a,vs,e,q,r],?cf+1,∀c q,c≠a->?o9,zA xs k p,Am ?cj e,addL m lf ?aY,λb=>∃f fd,?kC/\¬?I3,?Nc hl,#[p,hp,hf],?Me ?IS,(k E5:Nat),#[a,b2,?dp],Fb rp _ e,?Q4 ?c3 ?eH,?Q5 1000000,?Rc NV,?QS 1000,det k (Ic ?BW i),(Int.sub_zero _).symm,HB ?z,lfL φ q ps,CF h fs n i,DQ ns k,.(by rw[qa1,?fr];rfl),?Li t,?M5 p1,?LV (?de=((i:Nat):Int)),#[r,hr,?h],?aO h ?g,ht.plus h1,?Nk p2,h.2 i v e,"_law_gauge",#[#[?_,?_],?_],H=H2,?M9 p3,∀g∈gs,?pI,y-?d6*v,qa0 hq,λ_=>(?h6,Lat.one),Sb n w A (P y) v,?Lx (?hd*?jp) ?bT,?MR Cw k,?N7 ((?de).toNat=i),qr3 λi=>?_,?iq ?l4,SG K R vs H1,qf2 hj,?QG D N,hk p ?bF,λp h=>?ob,(1:Int).natAbs,#[n1,n2,n3,n4],s.heap.get?,∀ps∈ls,?BO,bl.fin.bl.2,.(by ext v7;ext d),?OA ?d3,(qf3 _).symm,Lat.Straight,λz=>?CG,jR+bookF,plN ?cK n ?lS,ys.length=i,blend_row_ne ?g ?g _ _ _ _,Pv i σ H,#[a,b,c,?h],?Nk p0,?ky-?bT,H c=none,t.nx j ?g,?N7 ((?ka-1).toNat=j),(?rC).push ?wP,.(by rw[qg5];ext d),?R3 a,?i ?ac,(?gW).toNat,L3 hp hj,?Lb p0,(hd:Addr),Ft eN,"starts",Lg xs m ?jn,U3 hsh hq f hf,.(by rw[qf1,qf1,h.1]),∀x0 x1,?ik,j<l.length,?Nm hk m hm,?PC H',"MOST_ROWS",[?e2,"j"],#[o,q1,q2],λT1 hT1=>?_,?k φ z,?Ph D D.length,w.length=1,?pJ ?oG,?LT p5 Va,((1:Nat):Int),let u2:TS:=?JR;?KG,λi j h1 h2 h3=>?_,hf _ ?vq,QB ?bL a,∀x0,?li,?QP k (?c8 z l.2 L i),?LT p0 Va,Am ns ?p,(?rC).objs.size,[rS ta,o1,o2],{ s with heap:=h',toks:=s.toks+1 },List.Pairwise.filter,let u3:TS:=?BT;?yI,show ?Gw a ?JC from p,h.IsTupleIter,?M5 p3,?R2 ?rS D,wF ?bq ?eh,?oj/\?cV<lf.length,?ab=?ab+n*0,T.n_dict,Cc n=((n-1:Nat):Int),λi=>f ?bL,Lw h1.ok.n h2.ok.n,w.getD i 0,?LT p3 Va,?mg=0\/?mg=1,bl.fin.br.1,.(by rw[qc3,qc3,h0];rfl),?dG _ _ h q hq,(?cX z).map,?Me ?eW,λk qs h q hq=>?_,?Ls ?cZ (?QJ ns.length),[?HQ,?lL],?pf h' e j ?dK x ?eM,sH.trans,?iq i++?qh ?t,?Mg p1,[?bl,?bj,?ek],2*π+1,Pc ?c7 p,qb6 hik bl.kw,plN ?cK 1 _,λh2=>?_,(?dq).2.2.1,(?mC).2 i d,?fM*L b d,λc q e2=>?_,?Lg ns,Nat->Lat.Mat,(?f2).toNat,ps.getD j dP,k≠k0/\hs[k]?=?kV,h.lv q hq,#[its,rv,p,hz],?ad*jK n,I.hok a _ ha,?ai++?OA l,?eP ?dT ?ex ?KV,(?QY ?CK).length,?ND D ?h5,#[ps,h1,?h],Ct.start _ _ _ _ _ _ _ _ _ _,?MX L.c hi2 hp,lu.set k ?kp,?Qu ?FG,?PW p0 H,k<lu.length,An Fw,let u2:TS:=?JR;?IN,λh1=>?_,?Le (?wQ*?fB) m,?K O H,?NT n,.(by rw[qa1,?df];show ?xS),(?hm).put,?Pv p6,Gk xs D _,As t5 u6,λj u q e1 e2=>?_,?RC i,?a2 c ?b8,λc r n1 e2=>?_,wF ?Bt c,qg9 ..,?Lw p0,?a3 zs,upd G3 B5 ?oT,#[_,c,hc,e],?Pl ?aj,.type "type","Lines.blend",Rq c t ps,?lm (λr=>f ?dY) m,?p2 ?ok acc,?Pc S x9,FZ lf acc p,2 ^ kB ?aL,?av Addr,?RW ls.length,h1.trans,if ?fi then ?hd*?jp else 0,Ma ?rZ ps,?QW i,h1.lv q hq,s1.heap.objs.size+1,?OU ds.length,.(by rw[qf1];show L.n4),Cg ?mw ?g,s _ _ h,?fM*L b c,h.pos j h1 h2,?Mg p2,?lm f ?sl,#[c,q1,e0,e],[?xD,?qg],.(by rw[←h.1];show hi),∃z L G,?QO 4,?Pd ?cL,?ny i 0,if ?ci then(?p,v) else p,?QO n,?k0+1-?mK,?ri r ?g,c hp2 hp2,?i5*p.2,p4 x0 H,(?eV-1).toNat,#[?G,?h,?j,?_],.(by let:=p.π9;ext d),λy=>W7 (?QY y.toNat) q,?RL p1,PJ D nm r1 D1 D2 b2,λr c _ z=>z.elim,?M5 p2,?LT p4 Va,?MX L.c hp hj2,?Lw p1,?uZ-?bp*?rB,?k f ?ma,?Lb p2,qa4 fb hbF,if x=e then ?bQ+1-2*(?DT%2) else 0,?QH (Cd H' vs ps),s _ _ h2,W7 (?QY ?z7) ?AE,?Mr ?CO,LU f k0 z,k3.push ?IG,λc h=>h,BasesN A H E vs hs,i<=ns.length,?LT p7 Va,?Mj L.b p pm,wF ?AP (?p8).2.2.2,Cd H us ps,?Qm Aw,λt ht=>?_,AM A j,T.n_tuple,π2<=8990,λk a=>rfl,?LT p2 Va,#[h0,h1],HT.sIx ?h7 0 lo,.(by unfold jR bookF nB;ext d),iN ns ms h1.n h1.z h2.n,s2.seq hb,?Me ?ni,?MJ H1 p [?Ho],?i ?cT,QB ?bL c,?Lv (?e5*L j c) z,["part"],?fM*?nn,#[h.1,h.2.1,h.2.2],?Li ms,Qk xs ?bK ps,?Ph ?iZ 1,cI hs hq,ns.length*?tl,?Mb j n,?Lg (Yu p'),Am c,"MOST_PIECES",[?cD,"faces"],λa=>?fB,?eP m p v,∀x,x<k0->0<f x,λh6=>?_,h.b k ps e p hp,∀p∈ps,?mj/\?ot,?Lt ?wm ?b9,I.tuple hq,ms.take ?t,?NS H1 a xs,As t3 u4,?OU ps.length,h.L.lc k _ hq,(?Re (s' y)),T3 y ?bR,oF h fs n j,h.nx k ps e,vs++[v],#[i,hi,e],Nh lf ?dV,ih ?g,det i (LN V Z i),?ak λp=>?AF,Jh ?S u,?P2 n A,?NS H2 aw ?gG,λe he=>Dq λz=>he ?_,let u5:TS:=?zZ;?Fc,Classical.epsilon,∀(D:Addr) [?nO] (H':Hp),?a4->?tN->Pf A' H' D hs'->?NJ hs' lf->?bu,Pe n (P,PB),∀p∈c,?Li ?hM,.(by rw[←Az7];show ?f1),#[hi,b,?h,hb],Am (?p8).2.1 q,?PW p2 H,Am ?mx,0-g.2,Be C5 ?sN Ah,#[i,?j],plN ?ry (0-n) ?aY,λk qs h i j q q2 hi hj=>?_,?u (d∣v),H h=?sp,λ_=>Lat.one,jK i*2 ^ i,?fW j [],wF ?rS c,hs[i]?=?dw,?LV (?tI=?pF),(Rj hq).1,b2.r q,?Le (v a*?yL) w,qc6 h2.1.2,hk1 c r n1 e2,F.bel f hf,∀(T:Addr) [?nO] (e9:?c9) (H':Hp),?a4->Zp A' H' T hs' e9->?NJ hs' e9->Q (?v T) H',.(by unfold lev at lc;simp at lc;ext d),?Oz K2.ker,.(by cases z),(ns:?a0),?NR (by cases hp),(?aU eg).1,ms[i].1.toNat,?ip E5 (XG p n p2),jD ms ?p p.2,.(by simp at e),?k (λy=>?Kc) w,λb hb=>?_,(?dq).2.1,Af8<=big,.(by rw[h.1];show hl),let u3:TS:=?BT;?zQ,?Oa ?bq,?R1 16,.(by rw[e]),?aa [],Reps.x s hb r,j<p.length,?d5=?i ?h5,k0+i,(?cX i).map,(?aE).natAbs,(hl p ?bF).times p.2,.(by simp[C4]),R9 n (λc=>c<w+n) ?w4 D,#[?n,?n,?n,?n,?h],upd G2 B4 ?tn,h2.lv q hq,.dK ?nA,?Q8 ?ca,?od (lift1 fl) lf,Aa ?bb Ac,p4  x0 H,#[?fF,h5,h6],(?DM).getD d 0,?cl-?bT,autoParam,#[r1,r2],hs.length=4,?fQ+1,#[?ol,H,I,?h,q],Dm p.2 ?hM,?Li acc,#[_,_,a],?MR US k,?Po p4,?Mu ?tO,?LT p1 Va,(a h l:Addr),λC=>qc2 _ (qr0 _),L5 hs ?w,As t4 u5,Ti t Ce f,if c=c' then 1 else 0,.(by simpa using e2.symm),Yh hp ?h,?RL p2,?da*φ ?ex,(?aU e2).1,?Mb i n,#[f,fd,a,b,F],[?qN,?pa,"a","b"],∃p,Zr k w r.1 p,β2+Hs π2 b2 i<=big,La fs f i,?Mj ?dG q hq,?OA ?ac,D.nx σ H,i<=w.length,Am ms,#[a,b,?h],lift1 fl lf g,hk ps ?bF,(?tg:Int),#[(Bt h).1,(Bt h).2.1],List.Nodup,?RO p4,∀p∈ps,?yx,#[u,hu,eu],let s:=?qR;G s,?K G G1,β+Hs π b i<=big,?N5 2 c gc,?R9 ?et,Xk Ce _ _,?MJ G2 pr [?l j,?l (M i j)],iX xs ms _,#[q,hq,e],?K H G',?da*?Jg,if ?d9=k then c else 0,(?yg+?G7)%fam,λz _=>?CW,Zrr._auto_1,L7 e t ?cF,?Li ?yD,0<=q.1,?Me ?yN,?cm-(m-1),#[Eb,sz,?Ee,?b6,?j],?bY ?fU sp[i],?i ?dd,qa4 sh.lb ?nK,.(by unfold Cc;ext eE),G6 q a.ok.n,h4 x ?nx,#[B,hb,gb,lb,cb],.(by unfold mB nB gB;ext d),?P3 2 c gc,b6 xs k ?ad,T.n_enumerate,(?Cc ?vH).map tI,.(by ext v6;ext d),.(by unfold bookF;decide),qa4 p.bπ2 p.πb2,.(by unfold one;ext v2),?Lv (?qQ*Z j l) ?dY,?PP ha1,?Rf ?dQ ms,w.length,ls.length=4,#[ht,?xd],IK K,#[?fF,ne],qk0 λq=>z #[y,hy,q],H b=?i ?tD,#[a,us,e,n,?a1],beside_lo,G6 y (Gk xs _ _),#[?j,?n,?j,?_],let s:=?sM;G s,i=vs.length,F.agr ?b8,k p [] _ hp ?dj Ab ?_,h ?T b hj ?g,#[D,?j,?r #[.of OQ,?yB]],∀p∈ps,?Rf zA p,?ps j 0,C6 ?g,?Mn φ p,qg3.mpr ?h,?Lw p2,?f8<=?f0,sa.seqT hq2,.seq vs n,?s0 ?m6,s1.turn hD,λt=>E3.start _ _ _ _ _ _ t,(one,one),Uv ?Z q hq,(?d6).natAbs,S5 xs hs lf q,sumN_cut,∃k:Nat,?b0/\?EC=true,hk1 c q z e2,uV φ q p,Am ?eW,O b=none,?OZ (pyNext ?co) Q,?cI≠1,KS hu ?h1,?Lw p3,c.f.ok.n,?LT p8 Va,?rB*?jf*?z3,?wM j t ?ad,let u7:TS:=As t7 u8;?vL,?Li ?cK,λk qs h=>L3 hk h,ZU K,?bJ w T one j ?gL,?dg=none,?OA (0-1),#[p,hp,e],(?qm (uZ (?Ph ?gQ 1) y)).sum,?Le (?g4*?fB) m,2 ^ kB z,gp _ _ Cu,let s:=?qs;?cc,(?aU hx).1,λi=>?C9*?sk,λp=>?u ?ci,#[x,hx,ex],q.2.natAbs,?xY b=?ba->h'.get? b=?ba,#[a,b,c,d,?h],st.lt j hj,#[ce,we,be],?Me ?dX,?Q3 p4,#[c,e1,e0,e2],qa4 p.b0π p.πb,?Qm Nj,?b5 m D (?ee z P L i) x,?uD n [],h.Ns ?X mg,#[q,hq,eq],?k (λj=>?da*?Le (u a*?Jg) m) n,?F ?h,?M9 p4,?MP ?aj Ah,(A i c).natAbs,?QJ i,?jH ms ns=true,qn1 ?_,sX (λr=>?qr) i,let u4:TS:=?D7;?CT,?Qe ?cY e,w2.extBut,Uy ht.ok h1.ok,?Ln ?aj,.(by rw[qa1,?df,ej];rfl),(?kZ).map,Rp H vs ls,?R3 b,s3.trans,(?P7 ?_),?QA i v qs,?Nk p1,?k ?Fw ?bT,H c=?ba->((∃l,o=?aa l)\/∃l,o=.dK l)->H' c=?ba,∀ps∈ls,?DX,p.2≠0,.(by ext ct;show ?fT),(?es).getD,?Ln ?Q,λi=>?hd*?s0 i d,(lu wu:?C),(?kG / d).natAbs,(?hc).map,s _ _ (λz=>by rw[z,hb]at h;cases h) h,{ s with heap:=h' },∀C,?cm*C<=?fp*C,λj=>?pl,?N7 (((q.toNat:Nat):Int)=q),?Oa (Am (Ft g)),w.length=0,w.getD ?t 0,?N5 1 b gb,?Ol i,?RT p4,#[c,?g,h2,h3],vs=[?el,?c3],addL m lf gs,λi=>?oV,hp p ?bF,λTm=>Tm _ _ ?uT,λi=>r.1 ?Cb,"Stairs",(?rL).length,?k (λy=>?ra*Q y c) ?ja,?m4 i ?g,Bool->?aT,dT h w f,?Me ?Bx,["old","new",?HJ],Zk A a,λj c h1 h2 h3=>?_,Q2 GK r4 t4,.(by rw[←Bc];show ?Lu ?ln),vs++[?v E],qd4.mp hcb r hr,#[h0,?a1],"FACE_COUNTS",?jI/\?kd,λh4=>?_,["j",?bj,"i"],?NU p ?gQ ?jg,c hp hj2,?NB D D2,?i ?e4,.(by simpa using h4),?ND E ?h5,#[a,us,e,?a1],F5 K,b.lev.filling (OM hs k) b.fin.dg ?vh hi a ha,let vI:TS:=As uT u11;?H3,#[?dP,Ab,?h,?an,?as],h.sublist,?F ?sw,#[?aM,?dP,Ab,?h,?as],Am (?QP ?bW u),?r ?gP,?OT ?hS ?js,(?R7 ?i9).sum,?Rf Hz ps,(?jj).2.2.1,wF _ ?g7,s.heap.IsTuple,?Pl Ah,?i ?fL,?jF/\f<40,(?cC).getD,c hi2 hp2,?Ov Gk,let u9:TS:=As t9 vI;?J6,Di Ac,.(by let:=?FB;ext eC),two_le ?hf,?NL ?S L,p3 x0 x1,.(by rw[qf5 hne];show hp2),bj.fin.ir,?q xs ?fQ ?m3,?Lc n q st,(h p qb4).times,(?iq i).map,Yu b,?MX L.c hp hp,L3 hp hi,["one",?hC],"quotient",(?Ni ta hT),Iw n w k D A l.1 l.2 r.1 r.2 f,λf=>?Me ?wE,?v Ae7,.(by ext eE),σ'=?Id,"_law_i",∀t∈ns,?ii<?aw,pb.f.ok.n,(ls.map (lfL φ q)).sum,kS n w,?b5 w B ?oV x,?ee z P G i c,(?gv).map,?PW p1 H,?NT 4,p[i]' ?g,qc6 h2.1.1,λpa Ha sa qa=>?_,Lat.sumN_one,.(by rw[qa1,?xJ];rfl),λk qs h p hp φ=>?_,j-ts.length,#[_,ge,?h],g.trans gp,as.drop k,.(λp hp=>by rw[?tM];exact ?q9≠0;decide),h.ok.z p hp,?M5 S,q.1∈?DM,?l w[i],sH.seqT hq,#[A,ha,ga,la,ca],F.args_enumerate_next_1 _,?QX (As t4 (As t5 t6)),?N1 e i m,bookF+bookF,?QX t4,(?Re (s y)),lv.rounds hs Ce,(?Om 1),?K H1 (?MJ H1 p [?uQ,?lD]),?Lg fl,(Pm xs k i j).natAbs,#[z,k0,L,G,f,l,r,bl,?h],?MT b f,Am ?aY ?b1,s1.seqT hq,List.map_id,?v p2,(?xc).getD,?OL ?c4,?Q0 S x5,L2.cutV_length,?Q5 40,hok q ?o0,Nat->?cg,"Book.lift",{ cls:=?eZ,data:=.seq #v[?K9,x] },.(by ext Kf),Am ?Gu,ps.length,?Pu gs,qc6 h2.2,?LT S Va,?Ny u2 D' H,plN ?lh (0-0) m,((Qe ?i9 k).map ?nu).sum,?Nm h m hm,?Oc K2.tab j hj,if ?ew=0 then [] else ?vo,?NS H a xs,[a,b,c,d],?Rb ?cV,G1 D=?u3,λr l=>?bJ w T one r ?gL,T3 q.1,.(by rw[qc3,qc3,h.1];rfl),#[p,hp,?ei],K2.st.st,beside_hi,[iS n,iS p,rS L,rS N,o4,o5],[?ek,?bl,?bj],w3.extBut,?QR ?cK,(?aU e).1,?M9 p5,qc0 ?_,P y b*?rB,?P8 φ lf,c.r.ok.n,ft.low f hf,?Oq ?qA ?cK,hk1 _ _ nab.symm h,?Lc n n st,?MJ G p [?i3,?eH],?Rr Eh ?Q Ah,?QG e 44,"numbers","Lines.turn",b.f q,?Lx (?c8 ?aL ?qy ?k3 i c*?c8 ?aL ?q1 ?lX i d) ?aL,∀q c,q<m->c<w->B q c=?Lx (L i q*T i c) z,λi=>r.2 ?Cb,?RW ps.length,?c8 ?aL ?qy ?k3 i,?OL ?cK,?Lb p1,[?lL,?rU],qw0 _ qs8,let u8:TS:=As t8 u9;?Ey,Bf xs c,tY H d,?Gw t vs,F.entry_enumerate_next,["j","i"],its.toArray,?QR m,K1.st.good,sg i*φ ?c2,[?bl,"old",?bj],?ND c ?jW,ind x e-ind y e,#[?aM,?cJ],?QA j u q,part k qs h p hp,?hz f k0 j,#[?aB,?h],Am ?c6 ?c2,Lat.ChainTo k0 k0 f,?MG Eh ?aj,As t2 u3,?a3 us,Kd ?cW k,?Me (?QP ?w (?c8 ?aL ?q1 ?lX i)),two k qs h p hp,.(λz=>by rw[z,hD]at h;cases h),λi q=>?_,Lw lc.ok.n ?lW,#[p,hp,hl],AW c.g q,?Lx (?HW*?ee z PB L i d) z,Nat.log2,?ND B1 ?r2,(?Nc hk),h.told tw,φ a ?Dd,UF n w D π β π2 β2 b2 A m M l r,Lw c2.g.ok.n ?vy,good P w K mg ?bs ?ap ?ae ?b3,#[?G,?g,?g,?cH],H hd=?sp,?OB ?dK-k0,m<sp.length,gT m G B j c',ok _ ?g,wF ?h0 m,ft.bel f hf,?OR ?_,λy a=>u1.1 y (w+a),At ?dD ?bb Ah ?ao,Nat->?k9,Am _ _*_,λj h1 h2=>?_,?i ?w,Ag7 n w A D,?Pv p5,?k (λx=>PB x b*?wB) n,Lat.gauge_edge,upd H1 D (?a3 [?mh]),Aa Ah ?Gx,w.length<2,Am b.2.1 q,.(by simpa using e1.symm),h p ?bF,?l n tk,?OX ?qI,5*?cf+?cf*?cf,λi j=>s1.1 j i,Fj lu ?xu ?an,Be Js ?aj ?Q,IA _ hnb hbk,?Lh u2 D',hs ?fw y hy,G D=?kO,(?dt).2.2.1,if i=y then ?bp else 0,b'*f j / g,?MJ ?pG N0 [?mJ,?l 0,?rn],?MX L.c hi2 hj2,(p:Addr),blw k λj=>(?qm (uZ ?BB q)).sum,wpAny_attempt,Program × World × PySem.W.Frag × ?iV × Addr × Addr × Addr × Addr,λj=>?u (?Ml j=k),E8 tU ?o0,hs[k0]?=?dw,?rf+AQ n j,(ms.any ?FD)=true,λj hj=>?g,?LV (?d3-1=j),Us t Ce hk hi,"_law_words",?K B H,?qe*?sS,.(by apply Dq λhm=>he ?_;let ?x8:=?gw;(let hcb:=Nq hs (k:=k) (ms:=?cY) λq hq=>by let:=Bt (Zd hq).1;show#[?gq,?ju,?rg]);let h1:=?GV;unfold K9 at h1;rw[qb7]at h1;let h2:?Mf ?jU (?lR=?bW):=?ez;rw[qb7,qb7]at h2;show ?wD),.(by apply#[?A2,?yo,L.ll,L.lc,?jc,?jc,?By,λk qs h q hq m hm=>?_,?oc]),.(by rcases h with(h|⟨o,h⟩) | h;{show ?r (?r ?G0)};{show ?ON o ?G0};show ?F h),.(by(. rcases ?aP with⟨rfl,rfl⟩|⟨_,h⟩;{rcases ?cR with rfl | hq;{show hc};show ?DL};show ?yl)),.(by let row:?N6 ?i9 ?hj:=?F0),.(by apply ?HK;apply Nk ?y ?_;show#[?j,k _ _ (Same.refl H) hu]),∀(p:?Gd)(hA:?No n w (?FX<=2 ^ b0))(dets:?Cg),a,.(by let ?di:=h.ch.edge hsh Ce;let b2:?p1:=λφ=>by rw[b,Ef]),.(by apply ?F #[a,?bH,ha,?u5];apply#[?j,a,o,?bH,?h,Ab,?cH];let#[UX,nDa]:=CY hD),.(by let h1:?NW (?R8 ?ai (Am (Cn (?tj ?Bg)))) (u j):=by rw[hb,Uu hj]),.(by intro Ae s σ H xs us Q I r h;let#[a,vs,?h,ha,q]:=h;let#[u,v,?h,rx,rt]:=BD r;cases rt;cases rx),.(by(let hi:?g6:=by cases h:?g6;{show h};unfold Lat.numAt at h1;rw[?al]at h1;ext d)),.(by exact ?Lo (field ?co 2) _;apply ?Og ge ?v j),.(by intro X hP hw hK hc i Ae s σ H E I hf st hg;subst hP hw hK;have ?l0:=st),.(by rw[qb7,qb7]at h2;show Gr ?Hb ?CA ((?IL).trans ?g)),.(by let hj:=?Ih;rw[t.len]at hj;let ?lf:=?vd;rw[h2]at e;cases e),.(by exact L7 e (if ?am then t else ?ox) ps=_),.(by(. rw[?nz];show Ab);{intro c q n1 e2;rw[Aj (Aq e2 UX),Aj n1];show e2}),∀{k:Int}{v:?U}(h0:?Nl v),a,∀(s:∀c o,?iQ->?Fq),a,.(by let ht:s.TypeIs ?co ?dJ:=?Hh;unfold pyNext),.(by obtain⟨y,hy⟩:∃y,?OT p.toNat y:=#[_,?bE]),∀{c:Addr}{m:Ms}(h:?rc)(e0:?iQ)(e:?Qj c m),a,.(by let hu:?MS ?Bg ?eK:=?rF),.(by rw[(?q7).2]at hp;cases hp;let ?er:=?b7 hb),.(by unfold pD at this;rw[←this];show ?QK (by rw[qt8])),.(by rw[qb5,qe3];show ?Nq h1 h2),.(by apply#[?IZ,λi v qs e1 e2=>?_]),∀{k0:Nat}{ps ps':?bI}(h:?KU)(k:Nat),a,.(by let ey:?et=y:=by rw[qa1,hy];rfl),.(by rw[h.1,?eY,qh9]at e2;cases e1;cases e2),.(by rw[qa9,?df]at h1;rw[qa1,?df];show qb0 h1),.(by rwa [?LV (?ka=?d3)]),.(by(. rw[Hl hx hy ne ?Dm];show ?aM)),.(by(ext uu)),.(by let hz:?oz:=?t3),∀{mg:?iV}{base:Heap}{ds:?av ?gE},a,∀{m0 e m:Ms}{i:Nat}{b:BPart}(hb:?qj=?i b),a,∀{X:Cx}{J:XJ}{j k:Nat}{C:Addr}{ps:?A},a,∀{fl:Ms}(h:?d2)(hf:Gm fl)(g:?b4),a,∀{q m z w k E:Nat}{D L G B P PB Q QB:Mat},a,∀(n w D π β π2 β2 b2:Nat)(A:Mat),a,∀{z m w:Nat}{L T B:Mat}{p:?aV},a,∀(b:?D0){i:Nat},a,∀{n w D:Nat}{A:Mat}(h:?Jz),a,∀{ot:Nat}{p2:BPart}(hne:E5≠ot),a,∀{Q:?fo ?gE->?rT},a,∀{ms ns:Ms}(h1:?bB)(h2:?gu),a,∀{n w k E:Nat}{A P PB Q QB:Mat},a,∀(hm:∀k,?Cd<=2),a,.(nomatch zs,ks,Ls,Gs,fs,lp,rp,t),@(Bs P w K mg ?N Ed 1 f fd ?a ?b),@(?a x0 x1 x2 x3 x4 x5 x6 x7 x8 x9 ?b),@(λ_ _ _ _=>(Cq (K:=K) (n:=2) ?z (Ba (Al (i:=0) ?a) (Ba (Al (i:=1) ?b) Cp)))),@(show ?a by ext d),@(∀σ H,?a->?L),@(As t1 (As t2 (As t3 (As t4 (As t5 (As t6 ?a))))) D σ H),@(A0->A1->A2->A3->A4->A5->?a),@(λvs H Q _=>?a),@(λ_ _ _ _=>?a),@(?a  x0 x1 x2 x3 x4 x5 x6 x7 H),@(Er K ?a ?b ?c f fd),@(∀σ,?a->?aF),@(?k (λa=>?a) ?b),@(?a5 K ?X ?a),@(wF φ ?a),@(g x σ H λσ1 H1=>As t1 ?a ?b σ1 H1),@(?q xs k ?a),@(?i (.dK (cK ?a))),@((Am ?a q).natAbs<?b),@(?aG ?a ?b (An ?c)),@(sg ?a*W7 (?P ?b []) e),@(Ag (Bb ?a)),@(?bk _ _ (?a>>=_) _ _ ?b),@(?aH ?a ?aC),@(∀h',?yr->?Ex->h'.get? ?eM=?i { cls:=?eZ,data:=.seq #v[?l n s.toks,x] }->?wZ → ?zM->Q ?a ?yS),@(?a  x0 x1 x2 x3 x4 x5 x6 x7 x8 x9 H),@((?a).length<=?b),@((?a).getD ?b []),@(Af λa _=>?a),@(?k (λj=>?a) ?b),@(?a x0 x1 x2 x3 x4 x5 x6 x7),@(?k (λi=>?a) ?b),@(#[h.1,λi v ps e1 e2=>let ?a:=?hi;?b]),@(?a K ?b=true),@(∀x0 x1 x2 H,?iO->?hT->?a),@(qa7 (?KQ (?wK (name:=Str.ofString "__next__") ht qt3 (qm7 qt3 ht ?JA ?a ?Hr)))),@(by rcases Lb (l:=xs) (i:=?a) (d:=[]) with z | z;{show h4 _ z};rw[z];show ?aM),@(by first | show qa4 ?a ?b | ext d),@(?i (?i ?a)),@(?a x0 x1 x2 x3 x4 x5 x6),@(good W0.1 W0.2.1 ?mv ?mL ?kr ?mb ?l6 ?a),@(Cs K ?a ?b),@(#[h.1,λi v p e1 e2=>?a]),@(?a x0 x1 x2 x3 x4),@(∀x0 x1 x2,?bv->?ce->?a),@(Xj (d:=a) (o:=o) (kvs:=?bH) ?a ?b (λi zs τ H1 _ hz=>by let ?c:=hz;show e) ?_ ?_),@(∀(k:Nat) ps,?bP->?a),@(∀p G,?fV->?dk->G p=?a->?kU),@(#[#[(by exact ?DV [?a];simp),?Hk,λp hp=>by rw[?tM];exact 0<=?b/\?c<40;ext d],?Bj]),@(∀x0 x1 H,?fv->?i4->?mt->?a),@(Bh ?a ?b Ah ?aS),@(?aK K ?a ?b=?Y),@(λr hr=>by ext uq;let h2:(?jU&&?u (?lR=?a-1))=true:=?ez;ext Kr),@(upd ?a ?b (?aa ?c)),@(mg ?a=none),@((?P (?lY).toNat []).getD i 0=(?P (?kP).toNat []).getD (j-1) ?a),@(Hm λo1 o2=>τ=[o1,o2,?a ?b]),@(∀x,x<q->?b5 m D ?a x=0),@(λq=>Cg ?a ?b),@(At ?dD ?a ?b ?ao),@(#[?j,?a,?h,#[_,?b],?cH]),@(?a xs ?b z k0 L G f l r),@((?a).length=?b),@(Bs P w K mg ?a Ed 14 ?b fd [?gz] ?pM),@(?i (?l ?a)),@(?a  x0 x1 x2 x3 x4 x5 x6 x7 x8 H),@(∀x0 H,?hY->?i7->?jV->?a),@(?a _ _ hk _ _ _ _ ?b ?c),@(?a  x0 x1 x2 x3 x4 x5 H),@(V9 K ?a tp nm r1 D1 D2 b2 ?b w ?c f l r),@(?k (λb=>?a) z),@(show ?a<?b by ext d),@(F3 X ?yF (λxs H Q=>∃a vs,xs=[?O,.ty ?a]/\H a=?i ?b/\?m1)),@(?i (?a3 ?a)),@(Am ?a q),@((?a&&?u ?b)=true),@(?a  x0 x1 x2 x3 H),@(Nq hs (k:=?a) (ms:=D) λq hq=>let h:=Bt (?b q hq);?B8),@(?q xs ?ac ?a),@(?a _ _ hk ?b ?c),@(by let ?a:=hz;show ?b ?c),@(Cc (?P ?a []).length),@(Ao (i:=?a) ?b ?c),@(?a2 xs ?a ?b),@(.of (?a _ _ ?b)),@((?a).natAbs<?b),@(?zu/\∀(i:Nat) v ps,?eI->?zy->∃a us,v=?O/\?a),@(?k (λc'=>?fR*?a) w),@(show _<=F from SQ ?a ?b ?c),@(by unfold Am;rw[E8 ?a ?b];rfl),@(Bf xs ?a),@(?dQ xs ?a ?b=true),@(∀(k:Nat) qs,?lA->∃ps,?b0/\?gH/\qs=?cr/\?a),@(λi ys τ H1=>Ds ?DO ?ec ?nG (?eo K H1 ys ?a) ?b),@(Af λj _=>?a),@(?bJ w A one ?ef ?a),@(show ObjOk X.prog X.w H ?hJ a ?a from ?zD),@(R6 xs k0 j ps m0 ?a ?b ?c),@(?q xs ?w ?a),@(?a[i]?=?i ?b),@(p0->p1->p2->?a),@(G 0 ?a ?b a _ _ ?aD ?h ?h ?c ga),@(∀(k:Nat) qs,?a[k]?=?kV->(k=k0/\qs=?b)\/?z9),@(show ?a by ext d),@(mg ?a=?lZ/\∀H,SqT K H a ((?b:?a0).map ?ax)),@(?lc K ?a ?k5=true),@(?cU ?a e ?b ?c old),@(RW n w b0 ?a π b β ?b π2 b2 β2 C1 C2 F),@(?a xs ?bK ?cl ?bT ?sZ ?jq ?lJ ?mW ?im),@(upd H ?a ?b),@(by unfold Au;rw[?jM,?jm,?E h5,?a h7]),@(?aK K ?a ?kt=?kD),@(?a->Prop),@(?a (λz=>by rw[z,UX]at e2;cases e2)),@(k x0 x1 x2 x3 x4 x5 ?a h0 h1 h2 h3),@(Xr xs ?a ?b ?T),@(Ex λo=>τ=?a),@(?cM z ?a ?bA ?b),@(#[h.1,λi v e=>let ?FM:=?xC;#[c,e1,e0,?a]]),@(?a  x0 x1 x2 x3 x4 H),@(∀(i:Nat) v ps,?a->?C5->∃l us,v=?d8/\?b),@(λi j hij hj=>?a ?bL ?cz ?g ?g ?g),@(∀x0 x1,?dv->?g0->?a),@(λp hp=>?a),@(SqT K ?a ?b ?c),@(Rm xs ?a zs ks Ls Gs fs lp rp ls),@(L.d _ _ hk ?a pm ?b ?c),@(Af λc hc=>by rw[tl ?a c ?b hc,←E4]),@(?a[j]?=?i ?b),@(k x0 x1 ?a h0 h1 h2 h3 h4 h5 h6),@(g x σ H λσ1 H1=>t1 ?a σ1 H1),@(by let ?a:=h;show ?b),@(?q xs ?J ?a),@((if ?kN > 1 then ?kN else 1)-?a),@(λq hq=>?a q ?my),@(λq hq=>?a),@(show ?a=?b from rfl),@(Aj (ne ?a ?db)),@(?cy λx hx=>by rw[?a x hx,qd7]),@(?cy λa ha=>by rw[?a a ha,qd7]),@(#[?j,?a,_,?n,?b,?aB,?j,?_]),@(?a<xs.length),@(?a x0 x1 x2 x3),@(∀x,x<?iD->?tp ?S ?kb ?a x=0),@(L.d _ _ ?a q hq ?b ?c),@(Hm λo1 o2=>Ee (?a=?yR) ?b (?xe ?c w M)),@(∀i c,i<?a->c<?b->?c),@(∀(k:Nat) qs,?lA->∀p∈qs,?a/\?b),@(qm1 (?a i j hi hj) (?b j c hj hc)),@(Rep K H ?a ?b),@(JN ?a ?b id hD zG),@(?sj n p ?a x y ?b u v),@(?a λb=>if b.1=1 then ?b ?c q b else 0),@(?a _ _ ?b q hq φ),@(wW (λr=>Ph ?fN ?k2 ?a r ?b) ?cf),@(Nu ?a ?b ?c ?g ?g),@(As t1 ?a ?b σ ?c),@(?a n w D π β π2 β2 b2 A),@(?a (K:=K) ?z T.n_zip (Aa ?b ?Cn)),@(?a ?b ?c h1 h2 h3),@(∀r,r<=n->r<=w->Ph π b ?a r ?b<=?c),@(φ ?d9*Am ?a ?d9),@(β2+?fp*?e0+C2+?eS*?e7<=?a),@(wF (Am ?a) ?b),@(qa7 (qj4 ?a ?b8 ?b)),@(by rw[qa1,?a ?b];rfl),@(by (let:¬?a:=?b);ext d),@(Ep K ?ae ?a),@(Cj xs ?a),@(C8 xs ?a),@(?s (?eN ?a)),@(?mc (i:=?a) ?b ?g ?g),@(∀{x:Addr}{o:HO},H x=?ba->?a),@(β+?fp*?dI+C1+?eS*?gI<=?a),@(qa7 (qi2 ?a ?h (x:=?bZ) ?h ?b)),@(k x0 x1 x2 x3 ?a h0 h1 h2),@(k x0 x1 ?a h0 h1 h2 h3 h4),@(by unfold Au;rw[?a,?E h3]),@(by rw[cell,?s λq=>?a ?b];simp),@(Am ?a y),@(Af λa ha=>by rw[?a a ha]),@(?r (?F #[?a,?b])),@(?ms K ?a ?b=true),@(?a (by rw[hzs,qd1];ext d)),@(∀x,x<n->?b5 w A ?a x=0),@(λk qs h p hp=>?a),@(λi hi=>qc6 (Nt ?a i hi)),@(xs[?a]?=?i ?b),@(us.length=?a),@(EU φ ?bw ?a),@(Cr ?z ?nD ?a),@(Am ?a k),@(?k (λc=>?a i c*?b j c) m=?hL),@(?bk ?u4 A ?a ?b E s),@(?a2 xs ?a),@(∀j,?eL->j<?a->?b),@(λj hj=>?a ?b ?c ?g),@(by unfold Kd;rw[?a ?ei]),@(?jt::((?cX ?a).map ?qo)),@(∀q,?hE<2 ^ ?a),@(qa7 (qi2 ?a ?h (x:=?b ?c) ?h ?_)),@(mg ?a=?i (?l ?b t)),@(k x0 x1 x2 ?a h0 h1 h2),@(k x0 x1 ?a h0 h1 h2 h3),@(by let:=?a ?b ?c;ext d),@(addL m lf (gs.take ?a)),@([none,none,?i ?a]),@(W9 K ?ap ?a ?b ?c),@(W9 K ?ae ?a ?b ?c),@(DV ?a (λi=>?u ?b)),@(C4 t (Dm ?a ?b)),@(?s λq=>?a ?md),@(?r #[_,?a]),@(#[?j,_,_,d,?h,?a,hx,?j,?_]),@(#[?a,?j,?f1,?h,_,?j,?n,?_]),@(?a xs ms i),@(∀i,(?a).length<=4*i),@(∀i j,k<=i->i<j->j<w->?a),@(∀(i:Nat) v p,?a->?f6->?b),@(λj hj hn=>?a j hj hn),@(qg7.mp ?a),@(p.length=?a),@(Iw ?a w k E ?b P PB Q QB f),@(G 1 ?a ?b b _ _ ?aD ?h ?h ?c gb),@(?r #[?h,?a,SqL.of Rf]),@(?ad*(B 0*(jK ?a*?qV))),@(?a (by rw[qa5];ext d)),@(λx hx=>?a),@(wF (uW ?a ?b) ?bw),@(qc6 (Nt ?a ?b ?g)),@(i'<?a->Zj xs p ?b i'=true),@(by rw[Aj ?a];show Eb),@(Gi O ?a vs ps),@(Dd ?fz ?B Fc (Dn ?a)),@(?pf ?a e j ?dK x ?kf),@(?cU ?a ?gm ?eM 0 ?bZ),@((?a _ _ _).length<=_),@(?a ms fs n ?b),@(?a P w K mg ?N ?b ps k sp),@(λz=>?a ?eX),@(k x0 x1 ?a h0 h1 h2),@(k x0 ?a h0 h1 h2 h3),@(ih _ (h.parts ?a) ?oN),@(by let#[?a,_]:=hz;show ?b),@(by exact ?a=?b+0;rw[qf3]),@(U5 (?F #[o,?a]) hat),@(Mn (K:=K) ?z ?E4 ?a),@(?gV ?a=?i ?b),@(?dH A ?a ?b ps),@((if ?a then ?b else _)=_),@((h2.grow g).same ?a),@(#[a,vs,e,?a s hb q,?CY]),@(?a x0 x1 x2 x3 x4 x5 x6 x7 ?b),@(∀H',?a4->Q ?a H'),@(∀[?gh],?bm->?a4->?d5=?a->?bu),@(Nv λx0 x1 x2=>?a),@(?Lg ((?a).getD ?b9 [])=?eR+?b),@(?Lf ?a=?Y),@(?a x0 x1 x2 x3 x4 x5 x6 x7 x8 ?b),@(Hm λx0 x1=>?a),@(?bQ+?Lm 0 a.toNat+?Lm ?a b.toNat),@(#[_,(Ag (Bb ?a)),?_]),@(Aa ?B (Aa (Ik (v:=.ty ?a) ?h ?b ?c ?h) Ac)),@(Cn (Li xs ?a ?b)),@(Al (i:=?a) ?b),@(Xs λx0 x1 x2 x3=>?a),@(?a x0 x1 x2 x3 x4 x5 H),@(Aa ?a Ac),@(?Lf ?a=?M4 ?b),@(A0->A1->A2->?a),@(?a  x0 x1 x2 H),@(∀x0 x1 x2 x3 x4 x5 x6 x7 H,?xx->?J3->?AZ->?a),@(λi zs τ G1=>Br ?Da ?IW (zs=(?a:?C).take i) ?b),@(As t7 (As t8 (As t9 ?a))),@(?k (λc=>?a) ?b),@(?aK K ?a ?b=?M4 ?c),@(.dK (cK ?a)),@(?a x0 x1 x2),@(∀x0 x1 x2 x3 H,?t6->?a),@(Cc (?a).length),@(A6->A7->A8->A9->?a),@(?x5->?Li ?a/\?OL ?b=?OL t+(?bi λp=>?c).sum),@(?a x0 x1 x2 x3 x4 ?b),@(SqL K H ?a ?b),@(?Le (?a a*QB ?b a) w*Q ?c c),@(?a  x0 x1 H),@(vs=[?O,?a,?b]),@(ms.length<=?a),@(?Lg ?a=_),@(∀x0 x1 x2 x3 x4,?ml->?jr->?m5->?a),@(Ex λx0=>?a),@(?a=if ?b=?c then 1 else 0),@(h.2 ?a ?b ?c e1 e2),@(At ?jO ?B (At ?dD ?Q ?a ?ao) ?ao),@(?Lg ?a=?ab+?b),@(?a->?NG ?b),@(?Me (Bf ?a ?dX)+(?tV ?l5).sum),@((∃old,?NA h it ?a)/\?yW it a ?b),@(∀q,?Lk ?a (2 ^ ?b)),@(∀[?aQ][?I],?gK->?a),@(∀(k:Nat),∀q∈?cC,?Mi ?a),@(ms.length+?a),@(Af λc _=>?a),@(?bm->?a4->?a->?b->?bu),@((det ?a ?b).natAbs<=?c),@(j<4/\?Mv ?bK ?a),@(Qg xs ?a ls z L G),@(Ji xs ?a ?b),@(Br ?ec ?nG (ys=?a) (?NK [o,iS ?b])),@(plN [] ?gR ?a),@(ns.length<=?a),@(lM H ?a Q),@(Am ?a ?eg*?jl),@(?g9 hsh Ce ?a),@(ls[?a]?=?dw),@(As t2 (As t3 ?a)),@(?P ?a []),@((0-?a).natAbs<2 ^ ?b),@((?a ?b ?c).natAbs<=2),@(∀(i j:Nat) p q,?f6->?oD->?a),@(Rep K G' (?v ?a) (dT z ?cS ?b)),@(Ds (p0) (p1) (p2) (p3) ?a),@(Am (?Mu ?a) ?b),@(∀{ms:Ms},?bB->?a),@(λi ys τ G=>Br ?dk ?KI ?a ?b),@(br.mono (?Ms f2 e2 ?a)),@(bl.mono (?Ms f1 e1 ?a)),@(H ?a=?Lj ?b),@(?q xs ?a ?b),@(?OL ?a=?OL ?b),@(?a (K:=K)),@(Iz (λσ' H'=>σ'=?a/\?b) ?_ ?GG),@(?OX ?a=?aE+?b*?c),@(∀e,Am ?a e=0),@(Ci (?MG ?a ?b) ?c Bm),@(?dG _ _ ?a p ?b),@(?b5 w ?gp ?a ?b),@(?Lg ((?a n ?b).getD ?b9 [])=?c),@(∀b o,b≠e->b≠j->?a),@(za2 (λσ' H'=>?a) ?qP ?_),@(wF ?dE ?a),@(?ey k0 ?a),@((?c8 ?a P M i c).natAbs<?b),@(#[?fH,?dU,?Ad,?q4,?vG,?a]),@(λi zs τ H1=>?a),@(xs.length<=?a),@(wF (?Oa ?a) ?b),@(gT m G B ?a c),@(Be ?a (P0 ?dz ?B ?b Ah ?iM) ?c),@(?p1/\∀q,?wf<2 ^ ?a),@(?Me ?a=?Me ?b),@((?Lt ?a k).map ?pT),@((?a).map ?b),@((?a).getD j 0),@(?a->let s:=?b;G s),@(?a ?b ?hk ?lj ?hG),@(wF ?ov (cs.take ?a)),@(s.heap.objs.size+?a),@(?u ?a&&?u ?b),@(?ck (Am ?a t.1) t.2),@(?Lf ?a=?i ?b),@(λ ?bn ?R ?ch=>L6 ?e3 ?aW ?hN ?a ?fK ?b ?c),@(#[_,(?Ln ?a),?_]),@(ZL λx0 x1 x2 x3 x4 x5 x6 x7=>?a),@(EC λ ?KO ?w (B:Hp) ?R ?oB=>Kb ?GC ?pV ?Kb ?kk ?a ?b),@(?a x0 x1 x2 x3 H),@(B7 (Jw (K:=K) qf4 qi4 qi3 Hg ?bb (?Pl ?a))),@(#[_,(Ad ?a ?b),?_]),@(?a x0 x1 x2 H),@(Hm λ ?iw ?R=>Ds ?th ?po ?bS ?bD ?a),@(EC λx0 x1 x2 x3 x4=>?a),@(Br (p0) (p1) (p2) ?a),@((?Q1 ?a us\/?NS H ?b us)/\?A1),@(?a x0 x1 H),@(?i (.dK ?a)),@(?Pe 1+?Lm ?a c.toNat),@(vs.length=?a),@(Al (i:=0) ?a),@(?n3/\?le/\?mP/\?a),@(Af λi _=>?a),@(by exact _=?a*?Ps (?b*?c) w;ext uz),@(?gS ?a []),@(?a xs hs lf),@(∀(gs:Ms) [?aN],?d2->?a),@(λx y=>?Mz ?a),@(?a xs ?w ?b),@(P0 ?dz ?a ?B Ah ?iM),@(B8 ?FO ?z ?As Lh ?a),@(Bu (N':=?a) (cap:=?o7) ?z ?bh ?nj (?La (?RX ?b)) ?cq (?La ?c)),@(Av ?so ?t7 B9 (?Pg ?a ?b ?c)),@(Dd ?fz ?a (Dn ?b) Fc),@(Ci ?a (?Ln ?b) Bm),@(Av ?x0 T.n_max HF (Aa ?a ?b)),@(Xs (?RH ?du ?El ?a)),@(B8 ?a ?z ?yc Dz (?Pl ?b)),@(Av ?Ap T.n_len qh1 ?a),@(Di (Aa ?a ?b)),@(Bh ?a ?b ?c ?aS),@(?a (K:=K) ?b)])
def aF[?LL]:∀(k:Nat) (r s:?aV),(∀x,x<k->?ef<n)->(∀y,y<k->s y<w+n)->?QM k ?Hw D| 0,r,s,hr,hs=>h 0 r s hr λy hy=>?g| ?J,r,s,hr,hs=>by rcases OO ?J r with⟨x,y,hx,hy,ne,e⟩ | inj;ext LA;cases z:∃y,y<?J/\w<=s y;{let#[y0,hy,q]:=z;rw[←YB (?Re y) s hy];(let first:∀s':?aV,w<=?gt->(∀y,y<?J->s' y<w+n)->?QM ?J ?BW D:=λs' h0 hs'=>by exact(?Lx (Xu i*?bJ w A one (r i) ?gt*?wy) ?J).natAbs<=D;let ih:∀i,i<?J->(?wy).natAbs<=D:=λi hi=>aF h k (λx=>r (if x<i then x else x+1)) (λy=>s' (y+1)) (?P7 (hr _ ?HO)) λy hy=>hs' _ ?g;(let cell:∀x,?Mz ?gt=if ?ef=?gt-w then 1 else 0:=λx=>by unfold beside one;rw[?aR]);cases z:∃i,i<?J/\r i=?gt-w;{let ?Bb:=z;rw[?bg hi λx hx ne=>?OK ne (inj x i hx hi (q.trans ?en))];rw[qb5,qb5,aR,qg4,cell,?aq];exact 1*_<=D;rw[qg4];show ih i hi};rw[?cy λx hx=>?OK z #[x,hx,q]];show ?aM);show first (λy=>s (if y=0 then y0 else if y=y0 then 0 else y)) q λy hy'=>hs _ (by split;ext d;ext eE)};let e:det ?J ?Hw=det ?J λx y=>A ?ef (s y):=Ej λx y _ hy=>?EL ?EI;rw[e];show h ?J r s hr λy hy=>?EI
def Ag7.dets[?LL]:?Cg:=λi hi s hs=>aF h i (λx=>x) s (?P7 ?g) hs
def few{n k:Nat}{f:?aV}(h:∀x,x<k->f x<n)(inj:∀x y,x<k->y<k->f x=f y->x=y):k<=n:=by rcases qi0 n k with z | z;{let#[x,?a1]:=vY n f λx y hx hy e=>inj x y ?g ?g e;let:=h x ?g;ext d};show z
def oH{n w B D:Nat}{A:Mat}(hA:?No n w (?FX<=B))(hD:∀i,i<=n->i<=w->jK i*B ^ i<=D):?Jz:=λk r c hr hc=>by rcases OO k r with⟨x,y,hx,hy,ne,e⟩ | h1;ext LA;rcases OO k c with⟨x,y,hx,hy,ne,e⟩ | h2;{rw[←Y4,Hl (A:=λr' c'=>A (r c') (c r')) hx hy ne ?Dm];show ?aM};show qa4 (YA λx y hx hy=>hA _ _ (hr x hx) (hc y hy)) (hD k (few hr h1) (few hc h2))
structure Zr(k w:Nat)(Q:Mat)(p:?aV):Prop where
 zero:∀j c,?eL->j<w->c<?cE->Q j c=0
 inc:?Ox (p i<?cE)
 lt:?Ob w (?cE<w)
 pos:?Ob w (0<Q j ?cE)
 red:?Ox (0<=Q i ?cE/\Q i ?cE<Q j ?cE)
def Vd.loops{n w r:Nat}{kt:?aV}{hd:?U}{T Q:Mat}(h:Vd w (n+w) n r kt hd (?bJ n T Q)):Zr r w Q λj=>?mu:=by (let at':∀i j,r<=j->j<w->Q i ?mu=?bJ n T Q i (kt j):=λi j h1 h2=>by let:=?vQ;rw[←?Ic n T Q i ?mu,?LV (n+?mu=kt j)]);apply#[?GR,?yJ,?Jx,?Jx,?yJ];{rw[←?Ic n T Q j c];show ?kj j _ h1 h2 ?g};{let:=?O1 h.inc i j;let:=h.ge i h1 ?g;ext d};{let:=h.lt j h1 h2;let:=?vQ;ext d};{rw[at' j j h1 h2,h.head j h1 h2];show ?A6};rw[at' i j ?g h3,at' j j ?g h3,h.head j ?g h3];show h.red i j ?g h2 h3
def Zr.congr{k w:Nat}{Q Q':Mat}{p:?aV}(h:?s3)(e:∀j,?eL->Q' j=Q j):Zr k w Q' p :=#[λj c h1 h2 h3=>by rw[e j h1];show ?O1 ?kj j c,h.inc,h.lt,λj h1 h2=>by rw[e j h1];show ?A6,λi j h1 h2 h3=>by rw[e i h1,e j ?g];show ?O1 h.red i j]
universe Lat
namespace Hb
open Lat
structure RW(n w b0 D π b β D2 π2 b2 β2 C1 C2 F:Nat):Prop where
 dπ:D<=?ds
 nb:n*D<=?dr
 wb:w*D<=?dr
 b0π:b0<=π
 πb:π<=b
 bβ:b<β
 nβ:n+b0<β
 st:∀i,i<n->?Db
 π9:?w5
 d2:∀i,i<=n->i<=w->?r5<=D2
 dπ2:D2<=?he
 wb2:w*D2<=?pm
 bπ2:b<=π2
 πb2:π2<=b2
 bβ2:b2<β2
 wβ2:w+b<β2
 st2:∀i,i<w->?DJ
 π92:?At
 c1:?O2 π n C1
 c2:?O2 π2 w C2
 f1:?OF F
 f2:?O4 F
 fb:F<=Af8
section
variable{n w b0 D π b β D2 π2 b2 β2 C1 C2 F:Nat}{A:Mat}
abbrev UF[?LI](m:Nat)(M:Mat)(l r:?mz):Prop:=∃(k:Nat) (e:Int) (kl kr:?aV) (hl hr:?U),Xo n w k D π m e A M l.1 l.2 r.1 r.2 kl kr hl hr/\m<=?cm/\e<=D/\(?Ob n (hl j<=?ds))/\(?Ob w (hr j<=?he)) ∧ ?dm n n ?iP l.1/\?dm n n ?iP l.2/\?dm w w ?g5 r.1/\?dm w w ?g5 r.2/\?pP/\?oi/\?pC
def A37[?Kj]:Xp n w A ?Eg ?Eg (λM l r=>∃m,?Jh):=by let o0:∀b i j,(one i j).natAbs<=?dr:=λb i j=>qa4 (Au7 i j) qk8;let hM:=HN (W:=n) hA λi c _ _=>o0 b0 i c;apply#[JF n w ?w4,y6 hM dets ?fj p.nb p.b0π ?FN p.bβ p.nβ p.st ?lv (Y1 n w A),?Ef,JF.lt,λt1 s1 h1=>?_];let hR:?No w n (((?KC) i c:Int).natAbs<=?dr):=λi c hi hc=>qa4 (h1.rowD dets ?Z ?Ai hc (?LV (i<w+n))) p.nb;let hM2:=HN (W:=w) hR λi c _ _=>o0 b i c;let rF:R9 w (λc=>c<n+w) (?bJ n (tr s1.1) one) D2:=(oH hR λi h1 h2=>p.d2 i h2 h1).dets;apply#[JF w n (?bJ n ?KC one),y6 hM2 rF p.dπ2 p.wb2 p.bπ2 ?E8 p.bβ2 p.wβ2 p.st2 p.π92 (Y1 w n _),?Ef,JF.lt,λt2 s2 h2=>?_];let bb1:=Xh hM dets ?Au h1 ?Z p.nb ?FN p.bβ p.nβ;let bb2:=Xh hM2 rF ?Au h2 ?Z p.wb2 ?E8 p.bβ2 p.wβ2;have#[k,e,kn,kw,he,wk,hl,hr]:=mX (L:=π) dets rF h1 h2;(let up:∀{x:Int}{a q:Nat},x<=a->a<=2 ^ q->x<=2 ^ q:=λ{x a q} h1 h2=>by show qu0 h1 (by exact_mod_cast h2));let km:k*?e7<=?cm:=qc2 _ ?g;show#[k*?e7,k,e,?gl,wk,km,he,λj _ h=>up (hl j h) ?fj,λj _ h=>up (hr j h) p.dπ2,Og (AE bb1.1) ?fu,Og bb1.2.1 ?fu,Og (AE bb2.1) ?fu,Og bb2.2.1 ?fu,(Pe.one n).go h1.good.pt,(Pe.one w).go h2.good.pt,λj c _ hj hc=>qa4 (h2.rowD rF ?Z ?Ai hj (?LV (n+c<n+w))) p.wb2]
def Bc9{β A C D F B a t y:Nat}(h1:t<=C)(h2:β+A+C+D<=F)(h3:F<=B)(h4:a+y<=A):β+a+t<=B :=qa4 (qx7 (qp6 (qa4 (qg0 a y) h4) β) h1) (qa4 (qg0 _ D) (qa4 h2 h3))
def SQ{β A C D F a d:Nat}(h2:β+A+C+D<=F)(h4:a<=A)(h5:d<=D):β+a+d<=F :=qa4 (qx7 (qa4 (qp6 h4 β) (qg0 _ C)) h5) h2
private def Ay0(p:?Gd){m:Nat}{M:Mat}{l r:?mz}(h:?Jh)(ns:¬Straight n w M):Xp n w M l r (λM' l' r'=>∃m',m'<m/\UF n w D π β π2 β2 b2 A m' M' l' r'):=by have#[k,e,kl,kr,hl,hr,wk,hm,he,ηl,ηr,q1,q2,q3,q4,v1,v2,sp]:=h;have#[lg,le]:=Ax8 he ?fj ?d1;let rn:=wk.going.sq.rn;let rw':=wk.going.sq.rw;let c1:=p.c1 k rn rw';let c2:=p.c2 k rn rw';let f1:=p.f1;let f2:=p.f2;let fb:=p.fb;(let hbF:?CR:=?aD);(let sC:∀C,?gA*C+C<=?fp*C:=λC=>by rw[qg5,qg4];show qo7 ?vj _);let s1:=sC ?dI;let s2:=sC ?e0;(let b1:?iP+Ph π b π k n<=big:=?M3 (Bc9 ?lg f1 fb s1) hbF);(let ZK:?g5+Ph π b π2 k w<=big:=?M3 (Bc9 ?lg f2 fb s2) hbF);(let β1:?ic<=?iP:=by let:=p.πb;let:=p.bβ;ext d);(let β1':π2+1<=?g5:=by let:=p.πb2;let:=p.bβ2;ext d);(let tb:∀{n' w':Nat}{T:Mat}{x:Nat},?ic<=x->Gx n' w' k D e T->?No n' w' (?sP<2 ^ x):=λ{n' w' T x} hx g i c hi hc=>by let#[g1,g2]:=g.le i c hi hc;let:?sP<=?ds:=?g;show qc1 ?ah ?tQ);let bl:=aE (tb β1 ?go) q1;apply#[JL n w k (?bJ w M l.1) l.2 kl hl π b π ?iP,v6 ?go ?d1 ?lT wk.dl ηl β1 b1 ?fj le p.nb p.πb ?lv ?lv,λt=>?r #[?aM,?zJ,wk.kl.bits ηl bl q2 β1],JL.lt,λt1 u1 j1=>?_];have#[#[G1,K1],_,_]:=JL.done rn j1 c1;have#[d1,d2,d3,d4]:=Q8 ?d1 ?go ?lT K1 wk.told;let z1:=FA (G:=G1) ?d1 le ?go d2 ?lT d3 ?JE q1;let z2:=BF ?d1 le ?go ?lT ?JE K1.st.st (?Oc K1.tab j hj) (?Oz K1.ker) wk.dl q2;let ker:Vd w (n+w) n k kr hr ?uN:=wk.kr.table λi c h1 h2 h3=>?O1 d2.sq.row0 i c;let dr:G0 w n ?uN r.2:=Je wk.dr;(let hπ2:?ic<=?g5:=by let:=p.πb;let:=p.bπ2;ext d);let br:=aE (tb hπ2 d2) q3;apply#[JL w n k ?uN r.2 kr hr π b π2 ?g5,v6 d2 ?d1 ker dr ηr β1' ZK ?fj le p.wb p.πb ?lv p.π92,λt=>?r #[?aM,?zJ,ker.bits ηr br q4 β1'],JL.lt,λt2 u2 j2=>?_];apply ?az;let#[#[G2,K2],_,_]:=JL.done rw' j2 c2;let#[_,nx]:=wk.next lg K1 K2;let#[m0,wk']:=nx ns;let k2:∀x c,x<w->c<n->tr u1.1 x c=Sb w n (tr A) (r.1 x) ((?Jt) c):=λx c hx hc=>Zw (T:=u1.1) (P:=?Jt) d4 x c hx hc;let#[?a1,h3,h4]:=Q8 ?d1 d2 ker K2 k2;apply ?ay;let y1:=FA (G:=G2) ?d1 le d2 h2 ker h3 ?u0 q3;let y2:=BF ?d1 le d2 ker ?u0 ?Ib ?IR ?CF dr q4;(let en:∀C,?Ds*C=?gA*C+C:=λC=>by rw[show ?Ds=?gA+1 by first | show zn5 ?lg ?lg | ext d,qg5,qg4]);apply#[m-1,?g,k,e,kl,kr,hl,hr,wk',?g,he,ηl,ηr,?_,?_,?_,?_,v1.go K1.st.good.pt,v2.go K2.st.good.pt,?GR];{rw[en,←qs4];show z1};{rw[en,←qs4];show z2};{rw[en,←qs4];show y1};{rw[en,←qs4];show y2};exact(u2.1 j (n+c)).natAbs<=_;rw[sM d2 ker ?u0 ?Ib ?IR ?CF h1 h2 (n+c) ?g,beside_hi];show ?O1 sp j c
abbrev YF[?LI](k d:Nat)[?eF](l r:?mz):Prop:=?HL/\d<=5*k+k*k/\BB n n ?oS 0 (β+?cm*?dI+d*?gI) l/\BB w w ?oS 0 (β2+?cm*?e0+d*?e7) r/\?pP/\?oi/\?DI/\?pC
structure A63(n w D F b2:Nat)(A:Mat)(k:Nat)[?eF](l r:?mz):Prop where
 dg:?HL
 il:?pP
 ir:?oi
 bl:?dm n n F l.1/\?dm n n F l.2
 br:?dm w w F r.1/\?dm w w F r.2
 lo:?DI
 sp:?pC
def Be6[?Kj]:ED n w A (A63 n w D F b2 A):=by apply#[?Nz UF,?Nz YF,A37 p hA dets,λm M l r h ns=>Ay0 p h ns,?_,?_,?_];{rintro m M l r ⟨k,e,kl,kr,hl,hr,wk,hm,he,ηl,ηr,q1,q2,q3,q4,v1,v2,sp⟩ hS;let dg:=wk.diag hS;let sC:∀C,?gA*C<=?cm*C:=λC=>?vj;let s1:=sC ?dI;let s2:=sC ?e0;apply#[k,λx=>M x x,wK ?m4 _ ?wa λx h1 h2=>dg.zero x h1 ?g ?g,dg.mn,dg.mw,dg,?aM,#[Og q1 ?g,Og q2 ?g,?AS],#[Og q3 ?g,Og q4 ?g,?AS],v1,v2,#[_,wk.kr.loops],sp]};{rintro k d i j f l r ⟨dg,hd,bl,br,v1,v2,⟨pl,lo⟩,sp⟩ hdk hij hj;let mn:=dg.mn;let mw:=dg.mw;(let lf:∀x,x<k->(f x).natAbs<=?ds:=?P7 (by let h1:=dg.le hx;let h2:=?m4 x hx;show qa4 ?g ?fj));(let kk:5*k+k*k<=?KB:=by let h:k<=?cf:=?g;let:=qg1 h h;ext d);let f1:=p.f1;let f2:=p.f2;let fb:=p.fb;(let hbF:?CR:=?aD);(let dm:∀X,d*X+X<=?eS*X:=λX=>by let:=qc2 X (?LV (d+1<=?eS));rw[qg5,qg4]at this;show this);let d1:=dm ?gI;let d2:=dm ?e7;let cm:?G2:=?D5;let e1:=cm ?dI;let e2:=cm ?e0;let b1:BB n n ?oS 0 (β+?cm*?dI+d*?gI+(1+1)) (addS i j 1 l):=bl.add ?g ?g (k:=1) (c:=1) ?aD;let lt1:∀{x:Nat},x<=?ds->x<2 ^ ?ic:=λh=>qc1 h ?tQ;apply#[#[#[?GL,le9 ?nK ?AO],#[?Ok ?m4 j hj,le9 ?hq ?AO],#[BB.bo bl (?M3 (SQ f1 e1 (qa4 ?fu d1)) ?Aa),BB.bo b1 ?g],BB.bo br (?M3 (SQ f2 e2 (qa4 ?fu d2)) ?Aa)],λQW=>#[dg,?g,bl.mono ?xs,br.mono ?xs,v1,v2,#[pl,lo],sp],λg a b' sh=>#[?_,?g,?_,?_,?_,?_,#[pl,lo.congr ?Fm],λx c h1 h2 h3=>?_]];{let:=dg.share hij hj sh;unfold shL ZS shF addS blendS;simp only[qn8];show this};{(let lb:?Mp ?KL (2 ^ ?yw):=by apply qc1 ?rs ?_;rw[qb5];apply qc1 (qg1 ?Dw ?hq) ?_;rw[←qe3];show ?tQ);let ZK:=b1.add (p:=j) (q:=i) ?g ?g (k:=-?KL) (c:=?yw) (by rw[qb9];show lb);apply ZK.mono ?_;rw[qg5,qg4];ext d};{let:=br.blend (p:=i) (q:=j) ?g ?g ?g (x:=a) (y:=b') (z:=-(f j / g)) (u:=?bp / g) (c:=?ic) (lt1 (qa4 sh.la ?hq)) (lt1 ?Dw) (lt1 (by rw[qb9];show qa4 ?rs ?hq)) (lt1 (qa4 ?rs ?nK));apply this.mono ?_;rw[qg5,qg4];ext d};{intro x y hx hy;rw[←v1 x y hx hy];show(nW _ _ ?BE ?DF ?g _ x y).trans (nW _ _ ?DF ?BE ?g _ x y)};{intro x y hx hy;rw[←v2 x y hx hy];show KY _ _ (?Mb i w) (?Mb j w) ?g (sh.blend (π:=π) ?GL ?nK ?hq).one x y};{show ?xj};let e:(ZS i j g a b' f r).1 x=r.1 x:=?xj;rw[e];show ?O1 sp x c};rintro k d f l r ⟨dg,hd,bl,br,v1,v2,lo,sp⟩;(let h:k<=?cf:=?wa);let kk:=qg1 h h;let f1:=p.f1;let f2:=p.f2;let dm:∀X,d*X<=?eS*X:=λX=>qc2 X ?g;let cm:?G2:=?D5;let d1:=dm ?gI;let d2:=dm ?e7;let e1:=cm ?dI;let e2:=cm ?e0;show#[dg,v1,v2,#[(?Qi d1).1,(?Qi d1).2.1],#[(?Qh d2).1,(?Qh d2).2.1],lo,sp]
universe e9
universe Hb
namespace Lat
open Hb
abbrev mulV(w:Nat)(A:Mat)(x:?U):?U:=λi=>?Lv (A i j*x j) w
def DS(n w:Nat)(A:Mat)(p x:?U):Sb n w A p x=?Le (p a*?b5 w A x a) n:=rfl
def yJ{w:Nat}{Q QB:Mat}(h:∀a b,a<w->b<w->?Q9 (pT w QB Q a b) a b)(x:?U):∀c,c<w->x c=?k (λy=>?Q2 x y y) w:=zN (P':=λ_=>x) h 0
abbrev numAt[?eF](k i:Nat):Int:=if i<k then ?bp else 0
section
variable[?LP][?dM]
universe e9
universe Lat
namespace Hb
open PySem L2
def Bf3(a b:Int):?u (?ax a=?ax b)=?u (a=b):=by cases z:a=b;{rw[z];simp};rw[qi5 z,qi5 (λq=>z (V.int.inj q))]
section
variable[?H]
abbrev Lk[?bO]:Sp:=?LZ (Hm λ(v d:Int)=>Ee (vs=[?iy,?l d]) (0<=d) (Q (.bl ?Bz) H))
universe e9
section
variable[?H]
universe e9
universe Hb
namespace Lat
open Hb
section
variable[?LP][?dM]
def PL{u:?U}(hl:?Bn)(hu:∀x,x<n->?wB=0):∀a,a<n->u a=0:=λb hb=>by (let e:?K1=u b:=by (let:?K1=?k (λx=>?Le (u a*(PB x b*P x a)) n) n:=Af λx _=>?GT);rw[this,Cm];rw[?bg hb λa ha ne=>by rw[Bc];let:=hl b a hb ha;unfold pT at this;rw[this,?Or ne,qd7]];rw[Bc];let:=hl b b hb hb;unfold pT at this;rw[this,?W,qm5]);rw[←e];show ?Ng hu
def Iw.spare(h:?Bh)(hl:?Bn){y:Nat}(h1:k<=y)(h2:y<w):?OQ (Q y) :=PL hl λx hx=>by let:=?u6 x y hx h2;rw[DS]at this;rw[this];cases z:x=y;{rw[?bC,z];show ?kj y h1 ?g h2};rw[?au]
def Iw.madeS(h:?Bh)(hr:?oH){v:?U}(hv:?OQ v):∀c,c<w->v c=?k ?FC ?hn:=λc hc=>by let mw:=h.mw;let mn:=h.mn;(let z:∀y,y<k->?ra=0:=λy hy=>by (let e1:?xL=0:=by rw[DS];show ?Ng hv);(let e2:?xL=f y*?ra:=by rw[j7 (p':=P y) (q':=λc=>?k (λu=>?Q2 v u u) w) ?ao (λb hb=>yJ hr v b hb),Qc,JR];rw[?bg (?Mb y w) λu hu ne=>by rw[←Qc,?u6 y u ?g hu,?Or ne,qd7]];rw[←Qc,?u6 y y ?g ?g,?W,qf7]);rw[e2]at e1;let p:=h.pos y hy;rcases qt0.mp e1 with q | q;{ext d};show q);rw[yJ hr v c hc];(let sp:∀d,?ja<=w->?GK=?k ?FC d:=λd=>by induction d with| zero=>intro _;show ?cy λy hy=>by rw[z y hy,qf0]| succ d ih =>intro hd;let i1:=?Bd;exact ?GK+?Q2 v ?ja ?ja=_;rw[i1];rfl);let:=sp ?hn ?g;rw[?LV (k+?hn=w)]at this;show this
universe e9
section
variable{n w m i:Nat}{d v:?U}{A:Mat}
universe e9
universe Lat
namespace Hb
open Lat
abbrev wD(n w b0 π b β π2 b2 β2 C1 C2 F:Nat):Bool :=(?u (n*?ds<=?dr/\w*?ds<=?dr/\b0<=π/\π<=b/\b<β/\n+b0<β)&&(?Op n ?Db&&(?u ?w5 && (?Op ?wi (?r5<=?he)&&(?u (w*?he<=?pm/\b<=π2/\π2<=b2/\b2<β2/\w+b<β2)&&(?Op w ?DJ&&(?u ?At && (DV ?wi (λr=>?u (Ph π b π r n<=C1/\Ph π b π2 r w<=C2)) && ?u (?OF F/\?O4 F/\F<=Af8)))))))))
def WC{n w b0 π b β π2 b2 β2 C1 C2 F:Nat}(h:wD n w b0 π b β π2 b2 β2 C1 C2 F=true):?NB ?ds ?he:=by unfold wD at h;simp only[qb7,qq9]at h;have#[#[h2,h3,h4,h5,h6,h7],h8,h9,k1,#[k2,k3,k4,k5,k6],k7,k8,k9,m1,m2,m3]:=h;show#[?Z,h2,h3,h4,h5,h6,h7,?OS h8,h9,λi h1 h2=>?P9 k1 i,?Z,k2,k3,k4,k5,k6,?OS k7,k8,λr hr hw=>(?P9 k9 r:_/\_).1,λr hr hw=>(?P9 k9 r:_/\_).2,m1,m2,m3]
universe Hb
namespace Lat
open Hb
abbrev sX:?aV->?aV| _,0=>1| B,?ad=>?r1
def y8:∀{n:Nat}{A:Mat}{B:?aV},(∀r c,r<n->c<n->(A r c).natAbs<=B r)->?QM n A (jK n*?pe)| 0,A,B,_=>by exact ?xW<=1*1;decide| ?ad,A,B,h=>by rw[JM];(let e:(?Lv (Xu j*A 0 j*det n ?Ar) ?ad).natAbs<=?P5 n:=Sf λj hj=>by (let d:=y8 (n:=n) (A:=?Ar) (B:=?uA) λr c hr hc=>by unfold AM;show h ?dY _ ?g ?HO);rw[qb5,qb5];(let s:(Xu j).natAbs=1:=by unfold Xu;split<;>rfl);rw[s,qg4];show qg1 (h 0 j ?g hj) d);apply qa4 e ?Fa;exact ?P5 n=?zC*?r1;grind
def zY(B:?aV):∀n,sX (λr=>2*B r) n=?aw*?pe:=λn=>by induction n generalizing B with| zero=>rfl| succ n ih =>exact 2*B 0*sX (λr=>2*B ?dY) n=2 ^ ?ad*?r1;rw[ih ?uA,qh4];grind
def ZY{B:?aV}:∀{n:Nat},(∀r,r<n->0<B r)->0<?pe:=λ{n} h=>by induction n generalizing B with| zero=>show Nat.one_pos| succ n ih=>show Nat.mul_pos (h 0 ?g) (ih λr hr=>h ?dY ?g)
def vV[?dM]:∀{n:Nat},(?lm f n).natAbs=sX (λr=>(f r).natAbs) n:=λ{n}=>by induction n generalizing f with| zero=>rfl| succ n ih =>(let e:∀m,?A8=f 0*?zo:=λm=>by induction m with| zero=>exact 1*f 0=f 0*1;(ext d)| succ m im =>exact ?A8*f ?sl=f 0*(?zo*f ?sl);rw[im,qe2]);rw[e n,qb5,ih];rfl
section
variable[?LJ]
def Zr.stair{k w:Nat}{Q:Mat}{p:?aV}(h:?s3):Ek w ?hn ?GE λi=>p ?bL :=#[?Oc h.lt ?cz ?g,?NP h.inc,λj c hj hc=>?kj ?cz c ?g ?g hc,?Oc h.pos ?cz ?g,?NP h.red]
def kC(st:?ng)(hB:?Iy){r c:Nat}(hr:r<z)(hc:c<w):B ?gY c=?k (λk=>L k ?gY*T k c) ?dY:=by rw[hB _ _ (st.lt r hr) hc];show ?Ek ?g λk h1 h2=>by rw[st.zero k _ h2 (st.inc r k ?g h2),qf0]
def PC[?uf]{i c:Nat}(hi:i<z)(hc:c<w):?sP<=2 ^ i*2:=by apply FG (R:=L) (B:=T) (t:=p) (a:=c) (i:=z) #[λj k _=>st.inc j k,λj c _=>st.zero j c,λj _=>?ri j,λk j _=>st.red k j] ?hO i hi;rw[show ?k (λk=>T k c*L k ?cE) z=B ?cE c by rw[hB _ _ ?FI hc];show Af λk _=>?jR];let:=?ri j hj;show qa4 (b2 _ _ ?FI hc) (qj0 _ ?g)
def UO[?uf]:∀i,i<=z->∀s:?aV,(∀l,l<i->?gL<w+z)->?QM i ?IX ?C2:=λi hi s hs=>by have Z:Mat:=?IX;have V:Mat:=λr l=>?EA;let e:det i V=?lm (λj=>L j ?cE) i*?Be:=iC (T:=λr j=>?qQ) (λr c _ _=>rfl) i ?Z;(let e2:?Be=det i Z:=Ej λr c hr _=>by exact(if r<i then Z r c else V r c)=Z r c;rw[?E hr]);rw[e2]at e;(let vle:∀r l,r<i->l<i->(?lq).natAbs<=2*?qr:=λr l hr hl=>by let pr:=?AI;cases c1:?gL<w;{(let:?lq=B ?gY ?gL:=by rw[kC st hB ?g c1];show ?My (by exact ?qQ*?F2=_;rw[?EL c1]));rw[this];show qa4 (b2 _ _ (st.lt r ?g) c1) ?g};(let zv:∀j,?Q9 (Z j l) j ?fq:=λj=>by exact ?F2=_;unfold beside;rw[?s c1];rfl);cases c2:?fq<?dY;{(let:?lq=L ?fq ?gY:=by exact ?EA=_;rw[?bg c2 λj _ ne=>by rw[zv,?mQ,qd7],zv,?W,qm5]);rw[this];rcases qi0 ?fq r with q | q;{let ?Ct:=st.red ?fq r q ?g;ext d};rw[?LV (?fq=r)];ext d};(let:?lq=0:=?cy λj hj=>by rw[zv,?aR,qd7]);rw[this];show ?aM);let big:=y8 (B:=λr=>2*?qr) vle;rw[e,qb5,vV,zY]at big;(let pos:0<?Fb:=ZY λr hr=>by let:=?AI;ext d);apply qu2 (c:=?Fb) ?_ pos;apply qa4 big ?Fa;grind
universe e9
structure Lev(q m z:Nat)(D L G:Mat):Prop where
 st:∃p,?ng
 du:∀i j,i<z->j<z->?OY G L
 cyc:∀i,i<z->?MN (L i)
 all:∀v:?U,(?MN v)->∀c,c<m->v c=?k (λi=>?Le (?g4*v a) m*L i c) z
abbrev gT(m:Nat)(G B:Mat):Mat:=λi c=>?F7
section
variable{q m z w:Nat}{D L G B:Mat}
def Lev.first(m:Nat)(D:Mat):Lev 0 m m D one one:=by (let d:∀i j,i<m->j<m->?OY one one:=λi j hi hj=>by rw[?bg hi λk _ ne=>?E9];unfold one;rw[?W,qd8];cases z:i=j;{rw[?bC,?E ?eX]};rw[?au,?s λy=>z y.symm]);apply#[#[λi=>i,λj hj=>hj,λj k h _=>h,λj c _ hc=>?aR,λj _=>by exact 0<one j j;unfold one;rw[?W];decide,λk j hk _=>?_],d,λi _ x hx=>?g,λv _ c hc=>?_];{exact 0<=one k j/\one k j<one j j;unfold one;rw[?aR,?W];decide};rw[?bg hc λi hi ne=>by exact _*one i c=0;unfold one;rw[?mQ,qd7]];exact v c=?Le (one c a*v a) m*one c c;rw[?bg hc λa _ ne=>?E9];unfold one;rw[?W,qd8,qm5]
def Lev.told[?uo]:∀a c,a<m->c<w->?fB=?Lx (L i a*?R3 i) z:=λa c ha hc=>by rw[h.all ?BJ (tw c hc) a ha];show ?RZ ?jR
def A30(m w:Nat)(G B:Mat)(v:?U)(i:Nat):?ow=?Le (?g4*?b5 w B v a) m:=by (let e1:?ow=?k (λc=>?Le (?g4*?fB*v c) m) w:=?QK (by exact ?F7*v c=_;rw[←E4]));rw[e1,Cm];show ?Lu (by exact ?Ps (?g4*?fB*v c) w=?g4*?Ps (?fB*v c) w;ext uz)
def Lev.next{E k:Nat}[?dM]{P PB Q QB:Mat}{p:?aV}[?uo][?uw](il:?nr)(ir:?oH)(lo:?s3) : Lev m w ?hn B ?GE λi=>QB ?bL:=by let tl:=?Jf;let mw:=dg.mw;apply#[#[_,lo.stair],λi j hi hj=>?_,λi hi x hx=>?_,λv hv c hc=>?_];{let:=dg.dr ?cz ?bL ?g ?g;unfold pD at this;rw[show ?Ps (?B4*Q ?cz c) w=?Ps (Q ?cz (0+c)*?B4) w from ?QK (by rw[qt8,qf7]),this];cases z:i=j;{rw[?bC,?fZ]};rw[?au,?aR]};{let t0:=dg.spare il (y:=?bL) ?g ?g;(let e:?HV=?Le (L a x*?Qs ?oV a) z:=by (let e1:?HV=?k (λc=>?Le (L a x*?xt*?sk) z) w:=?NV x hx);rw[e1,Cm];show ?Lu (?Ra (L a x) ?xt ?sk));rw[e];show ?Nh t0};(let t0:∀i,i<z->?ow=0:=λi _=>by rw[A30];show ?Nh hv);rw[dg.madeS ir t0 c hc];show ?RZ (by rw[show ?C9=?Le (?yL*v a) w from ?Lu ?jR])
universe e9
section
variable[?LH][?dM]
abbrev turnL(z:Nat)(P L:Mat):Mat:=λi c=>?B5
def VJ(z m:Nat)(D P L:Mat)(i x:Nat):?FP=?Lv (?e5*?b5 m D (L j) x) z:=by (let e:?FP=?k (λc=>?Lv (?e5*(D x c*L j c)) z) m:=?QK (by exact D x c*?B5=_;rw[←Bc];show ?My ?ln));rw[e,Cm];show ?My (by rw[Bc];rfl)
def Lev.round(h:?qY)(i:Nat):?MN (?ee z PB L i):=?P7 (by rw[VJ];show ?cy λj hj=>by rw[h.cyc j hj x hx,qd7])
def Lev.gauge(h:?qY)(dl:G0 z 0 P PB){i j:Nat}(hi:i<z)(hj:j<z):?qO=?hL:=by (let e1:?qO=?Le (?jf*?mq) z:=by (let:?qO=?k (λc=>?Le (?jf*?B7) z) m:=?QK (by exact ?Le (?jf*?fM) z*?nn=_;rw[←E4];show ?Lu ?ie));rw[this,Cm];show ?Lu ?gy);(let e2:∀a,a<z->?mq=PB j a:=λa ha=>by (let:?mq=?Ma (?sU*?Ps ?A5 m):=by (let:?mq=?k (λc=>?Ma (?sU*?A5)) m:=?QK (by exact ?fM*?Ma (?sU*L b c)=_;rw[←Bc];show ?rI));rw[this,Cm];show Af λb _=>?gy);rw[this,?bg ha λb hb ne=>by rw[h.du a b ha hb,?qU,qd7],h.du a a ha ha,?W,qm5]);rw[e1,?OM e2];let:=dl i j hi hj;ext L2
def Lev.filling[?uo][?uw](il:?nr){i:Nat}(hi:i<k):∀a,a<m->?qp=?bp*?ee z PB L i a:=λa ha=>by let mn:=dg.mn;let mw:=dg.mw;let tl:=?Jf;(let tq:∀x,x<z->?Qs ?uR x=?bp*PB i x:=λx hx=>by (let e:∀y,y<z->?wJ=0:=λy hy=>by (let e1:?wJ=?Ma (P y b*?uZ+-?bp*?Ik):=?rI);(let e2:?Ma ?Ik=if y=i then 1 else 0:=by let:=dg.dl y i hy ?g;ext L2);rw[e1,C3,Bc,e2,←DS,dg.diag y i hy ?g];cases q:y=i;{rw[?hB,?hB,q];ext d};rw[?f3,?f3];ext d);let:=PL (u:=λb=>?AX) il e x hx;exact _=_;ext d);(let e1:?qp=?Ma (L b a*?uZ):=by (let:?qp=?k (λc=>?Ma (L b a*?Fk*Q i c)) w:=?NV a ha);rw[this,Cm];show Af λb _=>?Ra (L b a) ?Fk (Q i c));rw[e1];exact _=?bp*?Lv (PB i j*L j a) z;rw[←Bc];show Af λb hb=>by rw[tq b hb];grind
universe e9
universe Lat
namespace Hb
open Lat
abbrev kB(n:Nat):Nat:=?Jc ?ub+1
abbrev wW(f:?aV):?aV| 0=>f 0| ?ad=>max (f ?ad) (wW f n)
abbrev kP(b i:Nat):Nat:=max b (?Jc ?r5+1)
abbrev kS(n w:Nat):Nat:=?tW+6
abbrev bookF:Nat:=200000
abbrev Bn8(n w:Nat):Bool:=wD n w ?ad ?fN ?k2 (?fN+n+8) ?tW ?HU (?HU+w+2) (?Nw ?fN n) (?Nw ?tW w) ?bA
def Af7:(DV 17 λn=>DV (17-n) λw=>Bn8 n w)=true:=?y
def A38:∀{i n:Nat},i<=n->?C2<=?ub:=λ{i n} h=>by induction n with| zero=>rw[show i=0 by ext d];show ?Z| succ n ih =>cases e:i=?ad;{rw[e];show ?Z};apply qa4 ?Bd ?_;exact ?ub<=?zC*2 ^ ?ad;show qg1 (qn5 _ ?g) ?lx
def uO[?LJ][?uf](h:z+w<=16):ED z w T (A63 z w ?F8 ?bA (kS z w) T):=by let P:=WC (Nt (Nt Af7 z ?g) w ?g);apply Be6 P (λi c hi hc=>?_) λi hi s hs=>?_;{apply qa4 (PC st hB b2 hi hc) ?_;rw[←qh4];show ?lx};apply qa4 (UO st hB b2 i hi s hs) (qa4 (A38 hi) ?_);show qe6 Nat.lt_log2_self
universe Hb
namespace Hb
open PySem L2
meta abbrev Ms:=?av ?b4
abbrev nd(ms:Ms):Prop:=(?ak (·.1)).Nodup
abbrev nz(ms:Ms):Prop:=∀p∈ms,?Fs
abbrev Ks(ms:Ms)(k n:Int):Ms:=if ?gM=0 then ?dR else ?eP ms k ?gM
abbrev C4(ms ns:Ms):Ms:=ns.foldl (λacc p=>Ks acc ?p p.2) ms
abbrev Dm(n:Int)(ms:Ms):Ms:=if n=0 then [] else ?op
abbrev Cn(ms:Ms):Ms:=ms.filter λp=>?u ?Fs
abbrev wI(ns ms:Ms):Int:=(?m8 λp=>?jK).sum
def Mx[?nX](h:?dg=?dZ):?n4∈ms:=by induction ms with| nil=>simp[lookI]at h| cons p ms ih =>rw[En]at h;cases e:?ci;{rw[?aq]at h;(let:p=?n4:=by cases p;simp_all);rw[this];show ?bF};rw[?bG]at h;show qb3 _ (ih h)
def tM[?nZ](h:k ∉ ?ak (·.1)):?F3:=by cases e:?dg with| none=>rfl| some v=>show ?aO (qj5 (f:=(·.1)) ?tX) h
def E8[?ar][?na](hp:p∈ms):?bY ms ?p=?i p.2:=by induction ms with| nil=>cases hp| cons q ms ih =>rw[En];ext gb;rcases ?kI hp with rfl | hp;{rw[?W]};let:¬q.1=?p:=λz=>h.1 (by rw[z];show qj5 (f:=(·.1)) hp);rw[?s7];show ih h.2 hp
def Dq[?nZ](h:k ∉ ?ak (·.1)):?aE=0:=by unfold Am;rw[tM h];rfl
def Dk(p:?b4)(ms:Ms)(k:Int):?OX ?cW=if ?ci then p.2 else ?aE:=by unfold Am;rw[En];split<;>rfl
def lS[?j5](k:Int):?dg=if ?aE=0 then none else ?i ?aE:=by unfold Am;cases e:?dg with| none=>rfl| some v =>let:=h _ ?tX;exact ?dZ=if v=0 then none else ?dZ;rw[?s7]
def JC:∀(l1 l2:?a0),l1.Nodup->(∀x∈l1,x∈l2)->l1.length<=l2.length| [],l2,_,_=>?aM| x::l1,l2,h,hs=>by rw[qg7]at h;let hx:=hs x ?bF;(let:=JC l1 (l2.erase x) h.2 λy hy=>by let ne:y≠x:=λz=>h.1 (z▸hy);show(List.mem_erase_of_ne ne).mpr (hs y (qb3 _ hy)));let e:=List.length_erase_of_mem hx;let:0<l2.length:=List.length_pos_of_mem hx;rw[qd9];ext d
def VR[?LO](h:∀k,?dg=?bY ns k):?FZ:=by (let sub:∀{as bs:Ms},nd as->(∀k,?bY as k=?bY bs k)->∀x∈as.map (·.1),x∈bs.map (·.1):=λ{as bs} ha hh x hx=>by let ?kc:=?b7 hx;let e:=E8 ha hp;rw[hh]at e;show qj5 (f:=(·.1)) ?tX);let l1:=JC _ _ h1 (sub h1 h);let l2:=JC _ _ h2 (sub h2 λk=>(h k).symm);rw[qa5,qa5]at l1 l2;unfold sameC;rw[qb7];apply#[?ej,qd4.mpr (?NR ?tu)];rw[←h];show E8 h1 hp
def sV[?LO](z1:?jz)(z2:nz ns)(h:∀k,?aE=?OX ns):?FZ :=VR h1 h2 λk=>by rw[lS z1,lS z2,h]
def Ac6[?ar](k:Int):nd ?dR:=by unfold nd Kd at *;show ?vb
def Ab9[?j5](k:Int):nz ?dR:=?NR (h p ?to)
def aZ[?nZ]:?KW↔k∈?ak (·.1):=by rw[qs1,qd2];constructor;{rintro ⟨p,hp,e⟩;show ?Ia};rintro ⟨p,hp,e⟩;show ?Ia
private def IX[?ar](k v:Int):nd ?cn:=by unfold nd putI at *;split;{rw[qk2];(let e:((λp:?b4=>?p) ∘ λp:?b4=>?AF)=(·.1):=by funext p;simp only[Function.comp];split<;>rfl);rw[e];show h};rename_i hn;rw[aZ]at hn;rw[qb2,qr1];apply#[h,?b8,λa ha b hb e=>?_];(let:b=k:=by simpa using hb);show hn (by rw[←this,←e];show ha)
def QL[?nX][?na](hp:p∈?cn):p∈ms\/p=?n4:=by unfold putI at hp;split at hp;{let ?Dh:=?dF;cases z:q.1=k;{rw[?bC]at e;right;rw[←e,z]};rw[?au]at e;left;rw[←e];show hq};ext v5;{show ?r h};show ?F ?ke
def jC(ms:Ms)(k v:Int):?Ls ?cn ?vT:=by unfold putI;split;{rw[qa5];ext d};rw[qc3];simp
def XA(ms:Ms)(k:Int):?Ls ?dR ms.length:=qi8 ..
def WK[?j5]{k v:Int}(hv:v≠0):nz ?cn:=?NR (by rcases QL hp with q | q;{show h p q};rw[q];show hv)
def oG[?ar](k n:Int):nd ?eO:=by unfold Ks;split;show Ac6 h k;show IX h k _
private def wL[?j5](k n:Int):nz ?eO:=by unfold Ks;split;{show Ab9 h k};rename_i q;show WK h q
def jD(ms:Ms)(k n:Int):?Ls ?eO ?vT:=by unfold Ks;split;{let:=XA ms k;ext d};show jC ..
private def qZ(ms:Ms)(k n j:Int):Am ?eO j=if j=k then ?hP+n else ?hP:=by unfold Ks;split;{rename_i q;unfold Am at *;rw[OL];cases e:j=k;{subst e;simp;ext d};simp[e]};unfold Am at *;rw[fZ];cases e:j=k;{subst e;simp};simp[e]
def iN:∀(ns ms:Ms),?bB->?jz->?gu->nd ?cZ/\nz ?cZ/\?yp/\∀j,Am ?cZ j=?hP+Am ns j| [],ms,h1,h2,_=>#[?a1,?Cf,λj=>by simp[C4,Am,lookI]]| ?nJ,ms,h1,h2,h3=>by unfold nd at h3;rw[qc8,qg7]at h3;let#[r1,r2,r3,r4]:=iN ns ?uE (oG h1 _ _) (wL h2 _ _) h3.2;apply#[r1,r2,?_,λj=>?_];{let:=?CM;exact ?Ls ?kh _;rw[qd9];ext d};exact Am ?kh j=_;rw[r4,qZ,Dk];cases e:j=?p;{let:=Dq h3.1;subst e;simp[this]};let e':¬?p=j:=?PJ e;simp[e,e']
def Bg2[?ar]:nd ?dx:=by unfold nd Cn at *;show ?vb
def OR[?ar](k:Int):?qd=?aE:=by induction ms with| nil=>rfl| cons p ms ih =>ext gb;unfold Cn;rw[qn3,Dk];cases e:p.2=0;{rw[?s ?ei];exact ?qd=_;rw[ih h.2];cases q:?ci;{rw[?hB,e,←q,Dq h.1]};rw[?f3]};rw[?E ?ei,Dk];exact(if ?ci then p.2 else ?qd)=_;rw[ih h.2]
abbrev ZF(ms:Ms):Prop:=∀p∈ms,?fn/\?p<40
def OE[?ar](n:Int):nd ?op:=by unfold nd at *;rw[qk2];show h
def lT:∀(ns ms:Ms),?yp| [],ms=>?Cf| ?nJ,ms=>by let h1:=lT ns ?uE;let h2:=?CM;exact ?Ls ?kh _;rw[qd9];ext d
def sY{ms ns:Ms}{i:Nat}[?nb](h:ns[i]?=?cs):C4 ms ?ki=Ks (C4 ms ?qI) q.1 q.2:=by unfold C4;rw[qo1,h,ql5];rfl
def VL[?ar][?uv]:q.1 ∉ ?Fz (·.1):=by intro hm;let ?F5:=?gw;let ?nE:=List.mem_take_iff_getElem.mp hp;let hij:j<i:=?g;let hi:?m0:=?lw;unfold nd List.Nodup at h;rw[qu8,qp0]at h;let:=h j i ?g hi hij;rw[?fr]at hq;let hq':=qb0 hq;show ?ah (by rw[ej,hq',e])
def gZ{ms:Ms}[?uv]:Cn ?BR=if ?jL then ?nI else ?nI++[q]:=by unfold Cn;rw[qo1,hq,qq7];cases e:?jL<;>simp[e]
def Af1[?nZ](h:k ∉ ?ak (·.1)):k ∉ (?dx).map (·.1):=λhm=>by let ?F5:=?gw;show h (?il #[p,?to,e])
def qM(ms:Ms):?Ls ?dx ms.length:=qi8 ..
section
variable{H H1:Hp}{a:Addr}[?nX]
def U4(rd:?st):DGet H a ?c3 (?R8 ?dg ?ax):=?r #[?bH,?kg,rd,?h,(pB ms k).symm]
def U5(rd:?st)(h:?dg=?dZ):DGet H a ?c3 (?i ?iy):=?r #[?bH,?kg,rd,?h,by rw[pB,h];rfl]
def Y2(h:?ep)(hl:?wv):A66 H a ?c3 ?iy (?ND a (?Pu ?cn)):=by rw[←A46];show ?r #[?bH,?kg,h,?h,by unfold cK;rw[qa5];show ?d7 hl,?h]
def L4{i:Nat}{kk:Key}{x:V}(h:?N3 ?bH (kk,x)):∃p:?b4,?uV=?eT/\kk=?r ?p/\x=?l p.2:=by unfold cK at h;rw[qa9]at h;cases e:?uV with| none=>rw[e]at h;cases h| some p =>rw[e]at h;let:=qb0 h;simp only[Prod.mk.injEq]at this;show#[p,?h,this.1.symm,this.2.symm]
def Iv:?MS ?bH ms.length:=by unfold cK;rw[qa5]
def Ar1{o:HO}(h:H a=?ba):?ND a o=H:=by funext b;cases e:b=a;{rw[e,Ab,h]};rw[Aj e]
def CY{x:HO}[?dO](h:(?ND a x) D=none):?bm/\D≠a:=by
 let n:D≠a:=λz=>by rw[z,Ab]at h;cases h
 rw[Aj n]at h;show#[h,n]
def qC{o:HO}{b:Addr}(s:?ec)(h:Rd H b o):Rd H1 b o:=by rcases h with h|⟨q,h⟩;{show ?r ?A4};show ?F #[q,?A4]
universe e9
def put_new[?nX](h:k ∉ ?ak (·.1)):?cn=ms++[?n4]:=by unfold putI;rw[?s (λz=>h (aZ.mp z))]
abbrev lM(H:Hp)(ms:Ms)(Q:V->?aT):Prop:=?PY ?hK
section
variable[?H]
abbrev Up[?bO]:Sp:=?LZ (Xs λ ?cB ?ch (k n:Int)=>Br (?Q4 ?c3 ?dS) ?ep ?wv (Q .non (upd H a (?Pu ?eO))))
abbrev aQ[?bO]:Sp:=?LZ (Xs λ ?bn ?rq=>Kb ?e3 ?st ?EJ ?du ?wx (?QT ?cZ))
abbrev Sg[?bO]:Sp:=?LZ (Nv λ ?br ?cB ?ch=>Ds (vs=[?dS,?O]) ?ep ?du ((∀p∈ms,?ck n p.2)) (?QT ?hZ))
abbrev bJ[?bO]:Sp:=?LZ (Xs λ ?bn ?rq=>L6 ?e3 ?ep (Rd H b ?tD) (a≠b) ?du ((∀p∈ms,?ck p.2 ?yP)) (?PX (?l (wI ms ns))))
universe e9
universe Hb
namespace Hb
universe Hb
namespace Hb
open PySem L2
def Lb[?cQ][?j4]{d:α}:?nm∈l\/?nm=d:=by rw[qa1];cases h:?nv;{rw[qa0 h];show ?r (qf2 h)};rw[qg8 ?g];show ?FU
def Pq[?m](h:?bS):?fK:=?P7 (by let#[k,hk]:=qf9 hx;let:=(h k x hk).cnt;ext d)
section
variable[?ag]{H:Hp}
universe e9
section
variable[?H]
universe e9
universe Hb
namespace L2
open PySem PySem.Spec PyProof.Rows
open AutoSeq1 (wpAny_loadPart')
private def uF(t:Addr)(vs:?q8)(n:Nat)(dd:OAddr)(sl:Wc):Meets (Builtin.«enumerate.__new__» #[[?mZ,?f7],[]]) (λ_ R s=>?xY t=?i { cls:=?eZ,dict:=dd,data:=?Ec,slots:=sl } ∧ R (.ok (.ret (?v ?yQ))) { s with heap:=?xr }) :=.of_wp λprog w A R s h=>by let ?qB:=s;let#[q1,q2]:=h;let hsub:=sub_enumerate;let gt:Heap.IsTuple (Shared.heap ?qB) t vs:=#[_,q1,?h,n,?h];wp_walk using ?k4;apply wpAny_stack_any λst=>?Ij;split;{rename_i c _ _ _ _ _;cases (c==Value.type ?dJ);{wp_walk using ?k4,?os;show ?or};wp_walk using ?k4,?os;show ?or};wp_walk using ?k4,?os;show ?or
section
variable[?v1]{E:?mV}{s:Shared}
def OW[?uy]{x old:Value}{Q:?mV}[?uj](gx:vs[n]?=?i x)(ne:e≠j) (k:?Lq ?np) : ?OZ (Builtin.«enumerate.__next__» #[[?co],[]]) (λfin s'=>∃r,fin=.done (.ret r)/\Q r s'):=by let ?qB:=s;ext Kp;apply qa7 (Lu gj gt gx λk1 gj1 w1=>?_);replace w1:?fc j hp k1:=w1;let ge1:?NA k1 j n:=(w1.2 e ne).trans ge;exact ?Lo (field ?co 3) ?pk;apply ?Og ge1 ?oA n;exact ?Lo (field ?co 4) ?pk;apply ?OG ge1 ?_;exact ?Lo (mkInt n) ?pk;apply qa7 (wpAny_mkInt ?_);exact ?Lo (?vc ?co 3 (?oA ?dK)) #[k1,?j9];apply ?O6 ge1 (λk2 ge2 w2=>?_);replace w2:?fc e k1 k2:=w2;replace ge2:?NA k2 j ?dK:=ge2;exact ?Lo (?vc ?co 4 ?bZ) #[k2,?j9];apply ?O6 ge2 (λk3 ge3 w3=>?_);replace w3:?fc e k2 k3:=w3;replace ge3:?NA k3 j ?dK:=ge3;exact ?Lo (newTuple [?K9,x]) #[k3,?j9];apply qa7 (wpAny_newTuple ?_);let ge4:?NA ?Ah j ?dK:=qa8 _ ge3;generalize tV:?Ah=k4 at ge4;(let sz:k3.objs.size=hp.objs.size:=by rw[w3.1,w2.1,w1.1]);let le:e<hp.objs.size:=qc5 ge;(let gt4:k4.get? ?kf=?i ?IG:=by rw[←tV,←sz];show ?w6);(let sz4:k4.objs.size=hp.objs.size+1:=by rw[←tV,qj2,sz]);(let kp4:?Qu (hp.get? b=?ba->k4.get? b=?ba):=λb o n1 n2 q=>by rw[←tV];show qa8 _ (?If b o n1 (?Fe b o n1 (w1.extBut b o n2 q))));(let gj4:k4.IsTupleIter j t ?ad:=by rw[←tV];let#[o,q,r]:=(gj1.extBut ?Fe ?h8).extBut ?If ?h8;show#[o,qa8 _ q,r]);exact ?Lo (Builtin.SmallTypes.ownedTupleIsFree ?co) #[k4,?j9];rw[sz];clear tV ge3 w3 ge2 w2 ge1 w1 gj1 sz k3 k2 k1;apply qa7 ?_;unfold Builtin.SmallTypes.ownedTupleIsFree;apply ?OG ge4 ?Ij;simp only[if_true];apply qa7 (qz1 ?_);apply qa7 (qi2 ge4 ?h (x:=old) ?h ?_);apply ?O6 ge4 (λk5 ge5 w5=>?_);replace w5:?fc e k4 k5:=w5;replace ge5:?cU k5 e j ?dK x:=ge5;exact ?Lo (Builtin.SmallTypes.ownedTupleHandOut ?co (?v ?kf)) #[k5,?j9];apply qa7 ?_;unfold Builtin.SmallTypes.ownedTupleHandOut;apply ?O6 ge5 (λk6 ge6 w6=>?_);replace w6:?fc e k5 k6:=w6;replace ge6:?PE k6:=ge6;apply qj4 ge6 ?b8 λk7 ge7 w7=>?_;replace w7:?fc e k6 k7:=w7;replace ge7:?PE k7:=ge7;apply qa7 (wpAny_letGo (qc0 #[?j,k k7 ge7 ?_ ?_ ?_ ?_]));{show((gj4.extBut ?sd ?h8).extBut ?sX ?h8).extBut ?tx ?h8};{show ?tx _ _ ?o4 (?sX _ _ ?o4 (?sd _ _ ?o4 gt4))};{rw[w7.1,w6.1,w5.1,sz4]};show λb o n1 n2 q=>?tx b o n1 (?sX b o n1 (?sd b o n1 (kp4 b o n1 n2 q)))
def AL[?uy]{x old:Value}[?LN][?uj](gx:vs[n]?=?i x)(ne:e≠j) (k:?Lq (?i ?np)):?Eq:=by ext Kx;show ?M1 (OW ge gj gt gx ne λh' a b c d q=>qc0 (k h' a b c d q))
def cF[?uy]{old:Value}[?LN](hn:A.handled=none)[?uj](gx:vs[n]?=none) (k:∀h',Heap.ExtBut j ?hJ h'->Q ?an ?G1):?Eq:=by ext Kx;apply ?M1 ?_;ext Kp;apply qa7 (Tg hn gj gt gx λh' x he hx=>?_);let ?yA:=hx;show qa7 (qx6 (T:="StopIteration") (b:=true) ?yA isSubtype_stop (qc0 (k _ he)))
def pA{t:Addr}{vs:?q8}{Q:?mV}(gt:?J9) (k:∀h',?PF h'->?wM ?eM t 0->h'.objs.size=?RD 2->(∀b o,?FG)->Q (?v ?gm) ?G1) : ?OZ (call ?mZ [?f7]) Q:=by have#[#[c,dd,dt,sl],q,qc,n,qd]:=gt;replace qc:c=?eZ:=qc;replace qd:dt=?Ec:=qd;subst qc qd;apply callType_new F.called_enumerate ?aD (F.typeCall_enumerate_1 _) (F.newCall_enumerate_1 _) (λobj=>F.args_object_init_2 obj _) F.entry_enumerate_new (uF t vs n dd sl) #[q,?_];let z1:?yQ=?gm:=qj2 ..;exact _/\_;rw[z1];(let ge:?PF ?xr:=by let:=qc7 ?rC (o:=?wP) ?h;rw[z1]at this;show this);show#[?Hh,k _ ge #[_,qa8 _ ?w6,?aB] (by rw[qj2,z1]) λb o x=>qa8 _ (qa8 _ x)]
universe e9
abbrev IteT[?H](a:Addr):It:=IteG (SqT K) a
def NC[?nS][?ag][?j7]{x1:Nat}{tpos:Pos}(a e it:Addr)(hne:e≠it):j9 P w K ?wR ?hU [e,it] e (λi h=>?QF ?b1 i) where
 mem:=?bF
 obj:=λi h ?l0=>DB h1 ?vO
 keep:=λi h h' ?l0 k=>#[#[old,k e ?bF _ h1],h2.at λo z=>k it (qb3 _ ?bF) o z]
 item:=by
  ext Kq;have#[xs,x,hq,hx]:=hg;have ?zB:=?BQ;have#[u,hu,ru]:=rv.get hx;show AL h1 h2 ?yV (x:=u) (by simpa using hu) hne λh' hout TV htup hsz hk=>GR (i:=i) (Y:=(IteT X.K a).yld i H) (T:=λh=>?QF ?pF ?t) hne I hf h1 ?vO ru hout htup hk (λh3 Vp he=>#[he,TV.at λo z=>(Vp.2 it hne.symm).trans z]) λhn=>#[_,x,hn,?aB,λys hy=>by rw[I.tuple_inj hy hq];show hx]
 done:=by
  ext Kq;have#[xs,hq,hx]:=hg;have ?zB:=?BQ;have#[f0,f1,f2,f3,f4,f5]:=hf it ?b8;let hl:=rv.length;show cF (I.ok.hd hc) h1 h2 ?yV ?ej λh' eb=>#[?h,I.turned (t':=s.toks) (λb o hb z=>eb b o hb z) f0 f1 f3 f4 f5]
 self:=λ_ _ _ _ _ st h=>by
  have ?l0:=st;show qw3 h1 h
inductive SG[?H](R:It->?aT)[?gk](H1:Hp):Prop| mk:∀a,?iN->((∃xs,?BS))->(R ?hU H1)->?xR
abbrev Az6[?H](ta:TA):TI:=λσ H R=>ta σ H λvs H1=>?xR
def j6:bootBuiltins ?dJ=?i ?mZ:=?y
def vZ{X:Cx}[?ag][?j7]{x1:Nat}{tpos:Pos}{a:Expr}{ta:TA}{p pos:Pos}(hg:Gl X ?dJ)(hm:X.mg ?dJ=none)(ha:PA X [a] ta)(hK:?Cs (X.K=K) ?Dn)(hs:?Cs (starEach [a] X.env=[(false,eval a X.env)]) ?Dn):PI X ?wR (.Call (.Name ?dJ p) [a] [] pos) (Az6 K ta):=by subst hK;intro Ae s σ H R I h;apply Call_ (Oy I hg hm j6 (qh8 (E6 (ha pos Ae s σ H _ I h) λus s1 _z=>?_) hs ?h));let#[vs,H1,I1,r1,q1]:=_z;let#[l,e,#[xs,hq],q]:=q1;subst e;cases r1 with| cons r rr =>cases rr;cases r;let#[its,rv,pl,hz]:=I1.tuple hq;apply pA (show s1.heap.IsTuple l ?JC from pl) λh' hen hit hsz hk=>?_;apply qw3 hen #[?A0,[?A0,s1.heap.objs.size],_,_,H1,?h,I1.kept (t':=s1.toks) hk,NC l _ _ (qv9 _),#[#[_,hen],hit],I1.fp2,q]
section
variable{g:TG}{tc:TT}{te:TE}[?dO]{Q:?aT}{τ:St}{H:Hp}
def UC[?ag][?vC]{g:TG}{tb:TS}{D:Ends}[?fG](Pv:?fA)(h0:Pv 0 σ H)(hl:∀i σ H,i<=xs.length->?xk->?IT) (hs:∀i x σ H p,?N3 xs x->?xk->?fV->g ?el σ (?MJ H p [?i3,x]) λσ2 H2=>tb { D with nx:=Pv ?t,ct:=Pv ?t,bk:=D.nx } σ2 H2) (hd:∀σ H,Pv ?c7 σ H->?DN) : ∃W:Nat->?fA,(∃m,W 0 m σ H)/\∀i m σ H,W i m σ H → ((?hU).stop i H/\?DN)\/((?hU).go i H/\∃N:?ly,(∀σ' H',N σ' H'->∃m',m'<m/\W ?t m' σ' H')/\∀x H',(?hU).yld i H x H'->g x σ H' λσ2 H2=>tb { D with nx:=N,ct:=N,bk:=D.nx } σ2 H2):=GO Pv h0 hl hs hd
universe e9
universe L2
namespace Hb
abbrev La[?gj](f:Int):?U| 0=>0| ?t=>if ?c2=f then ?DK+1-?mK else ?DK
abbrev W7[?gj](f:Int):Int:=La fs f ?qn
abbrev ind(x e:Int):Int:=if x=e then 1 else 0
def Ab6(e:Int):W7 [] e=0:=rfl
def qH(x y e:Int):?pX=?JI:=by exact(if y=e then ?Ab+1-2*(?yH%2) else ?Ab)=_;unfold ind;split<;>split<;>simp_all
def QG(x y z e:Int):W7 [x,y,z] e=?JI+ind z e:=by exact(if z=e then ?pX+1-2*(((2:Nat):Int)%2) else ?pX)=_;rw[qH];unfold ind;split<;>simp_all<;>ext d
def Ad5[?jA](h:l.length=2):∃a b,l=[a,b]:=by match l,h with| [a,b],_=>show ?DQ
def xB[?jA](h:l.length=3):∃a b c,l=[a,b,c]:=by match l,h with| [a,b,c],_=>show ?xl
def B33[?jA](h:l.length=4):∃a b c d,l=?IU:=by match l,h with| ?IU,_=>show ?FH
abbrev sg(i:Nat):Int:=?o6
def Bb6[?m][?a7]{k:Nat}{q:?a0}(hq:xs[k]?=?cs)(e:Int):?k (λi=>?Lm i ((q.getD i 0).toNat)) q.length=0:=by let F:=hs k q hq;(let face:∀f∈q,∃p,?rL=p/\(xs.take k)[f.toNat]?=?eT/\lev p+1=lev q/\(?P1 0\/?P1 2\/?P1 3\/?P1 4):=by intro f hf;have ?JZ:=?CC;(let hp2:?q5=?eT:=by rw[qk9]at hp;split at hp;{show hp};cases hp);show#[p,by rw[qa1,hp2];rfl,hp,hl,(hs _ _ hp2).cnt]);rcases F.cnt with h | h | h | h;{rw[h];rfl};{apply ?az;let ?DQ:=Ad5 h;let#[A,ha,_,la,ca]:=?qS;let#[B,hb,_,lb,cb]:=?qi;apply ?ay;(let za:A=[]:=by ext v6;refine List.eq_nil_of_length_eq_zero;ext d);(let zb:B=[]:=by ext v7;refine List.eq_nil_of_length_eq_zero;ext d);subst za zb;exact ?Pe 1=0;rw[ha,hb,Ab6];simp};{apply ?az;let ?xl:=xB h;let ?Hq:=?qS;let ?E0:=?qi;let ?vE:=?zc;apply ?ay;let#[a0,a1,?h]:=Ad5 (l:=A) ?E6;let#[b0,b1,?h]:=Ad5 (l:=B) ?xb;let#[c0,c1,?h]:=Ad5 (l:=C) ?CE;let G:=?EQ;let e1:=?G8;let e2:=?Dc;let e3:=?E2;simp at e1 e2 e3;subst e1 e2 e3;exact ?RV 2=0;rw[ha,hb,hc,qH,qH,qH];simp[sg];ext d};have ?FH:=B33 h;have ?Hq:=?qS;have ?E0:=?qi;have ?vE:=?zc;have#[D,hd,gd,ld,cd]:=?a2 d ?b8;let#[a0,a1,a2,?h]:=xB (l:=A) ?E6;let#[b0,b1,b2,?h]:=xB (l:=B) ?xb;let#[c0,c1,c2,?h]:=xB (l:=C) ?CE;let#[d0,d1,d2,?h]:=xB (l:=D) (by unfold lev at ld;simp at ld;ext d);let G:=?EQ;let e1:=?G8;let e2:=?Dc;let e3:=?E2;let e4:=?N5 3 d gd;let e5:=?P3 3 d gd;let e6:=G 2 3 d c _ _ ?aD ?h ?h gd gc;simp at e1 e2 e3 e4 e5 e6;subst e1 e2 e3 e4 e5 e6;exact ?RV 2+?Lm 3 d.toNat=0;rw[ha,hb,hc,hd,QG,QG,QG,QG];simp[sg];ext d
universe Hb
namespace Hb
open PySem L2
abbrev AQ(n:Int)(i:Nat):Int:=if ?mg=0 then n else -n
abbrev Jg(ms:Ms)[?cu]:?ir| 0=>ms| ?t=>?rW
abbrev PF(ms:Ms)[?cu]:Ms:=?PH Jg ?qn
def GN(ms:Ms)[?gj](n k:Int):∀i,?Qo ?c6 ?k0 n| 0=>by simp[Jg,La]| ?t=>by exact ?OX ?rW=_;rw[qZ,GN ms fs n k i];exact _=?aE+(if ?c2=k then ?AH else ?k0)*n;cases h:k=?c2;{rw[?b2,?qv];(let e:?gN=?o6*n:=by unfold AQ;let:?yi:=?g;ext uh);rw[e,?LV (?AH=?k0+?o6),qp8];ext d};rw[?al,?s ?u9]
def CF[?ar][?cu]:∀i,nd ?c6| 0=>h| ?t=>oG ?x2 _ _
def lJ[?j5][?cu]:∀i,nz ?c6| 0=>h| ?t=>wL (lJ h fs n i) _ _
def f6(ms:Ms)[?cu]:∀i,?Ls ?c6 ?FY| 0=>?Z| ?t=>by let h1:=?PH f6 i;let h2:=jD ?c6 ?c2 ?gN;exact ?PG Ks;ext d
abbrev K9[?o](k p n:Int):Bool:=Et xs ?mJ k&&?u (¬n=0)
abbrev chainB[?o](k:Int)(ms:Ms):Bool:=ms.all λp=>K9 xs k ?p p.2
abbrev Lg[?o](ms:Ms):?ir| 0=>[]| ?t=>PF ?cG ?hk ?lj
abbrev Bf[?o](ms:Ms):Ms:=Lg xs ms ?tT
def GA[?m][?gc](ms:Ms):?Ow ?cG| 0=>?Z| ?t=>by let h1:=GA h4 ms i;exact ?PG PF;unfold PF;let h2:=?RB f6 ?cG;(let h3:?hG<=4:=?M2 ?sc);ext d
def KU[?m]{p l:Int}(h:Et xs ?mJ l=true):?GY:=by let h':?Mf (?RE ?jI ?kd) (Cc ?gC=l):=h;rw[qb7,qb7]at h';show#[qc6 h'.1.1,qc6 h'.1.2]
abbrev Qi(b:Addr)(H H1:Hp):Prop:=∀c q,c≠b->?o9
section
variable[?ag]{H H1:Hp}{b:Addr}{m:?av (Key × V)}
def SqL.x[?nP][?vC](h:?Q1 a xs):SqL K H1 a xs:=?IH
def SqT.x[?nP][?vC](h:?IT):?BS:=?IH
mutual def Rep.x[?nP]{v:V}{d:L2.D}(h:?Nr v d):Rep K H1 v d:=by cases d with| non=>show h| bl b=>show h| int i=>show h| str x=>show h| tup ds =>let ?wh:=h;show(?PV SqT.x)| lst ds =>let ?wh:=h;show(?PV SqL.x) def Reps.x[?nP][?aQ]{ds:?av L2.D}(h:?eo K H vs ds):?eo K H1 vs ds:=by cases ds with| nil=>show h| cons d r =>let#[v,q,e,?a1]:=h;show#[v,q,e,Rep.x s hb h1,Reps.x s hb h2] end
universe e9
section
variable[?H]
abbrev bM:Sp:=?LZ (EC λ ?cB ?R (k p n:Int)=>Ee (vs=[?O,?c3,?mJ,?dS]) ?aW (Q (.bl (K9 xs k p n)) H))
abbrev N1:Sp:=?LZ (EC λ ?bn ?R ?w ?ch=>Ds ?wu ?aW ?hN ?du (?PX (.bl (?dQ xs k ms))))
abbrev Ho:Sp:=?LZ (EC λ ?bn ?R (n:Nat) ?ch=>Kb (?Q4 ?eH (?l ?br)) ?aW ?hN ?du (n<=100) (?PX (.bl ((?pU).any λ(k:Nat)=>?EC))))
abbrev X3:Sp:=?LZ (EC λ ?cB ?iw ?ch (fs:?a0) ?br=>Ds (?Q4 v ?dS) ?ep (TI K H v fs) (?QJ fs.length<=100000) (∀H',Qi a H H'->H' a=?i (?Pu (PF ms fs n))->?oO))
abbrev Pn:Sp:=?LZ (?Rn (?QT ?cj))
universe e9
universe Hb
namespace Hb
open PySem L2
abbrev wF[?D](ms:Ms):Int:=(?ak λp=>?sz).sum
def Zv[?D]:?Lg []=0:=rfl
def Df[?D](p:?b4)(ms:Ms):?Lg ?cW=?sz+?ab:=by unfold wF;rw[qc8,qj1]
def Ev(k:Int):?jo=0:=rfl
def PR[?D](k:Int):?Qf (?Lg ?dR=?ab-?aE*φ k)| [],_=>by exact ?bQ=0-?jo*φ k;rw[Ev];simp| ?cW,h=>by ext gb;let ih:=PR φ k (ms:=ms) h.2;rw[Dk,Df];cases e:?ci;{rw[?aq];(let hd:?JT=?dR:=?Od qv6);let hg:?aE=0:=Dq (by rw[←e];show h.1);rw[hd,ih,hg,←e,qf0];ext d};rw[?bG];(let hd:?JT=p::?dR:=?Od qv5);rw[hd,Df,ih];ext d
def Ul[?D](as bs:Ms):?Lg (as++bs)=?Lg as+?Lg bs:=by unfold wF;rw[qb2,qx0]
def vH[?D](k v:Int):∀{ms:Ms},?bB->k∈?ak (·.1)->?QC ?Bf ((v-?aE)*φ k)
 | [],_,h=>by simp at h
 | ?cW,h,hk=>by
   ext gb;rw[qc8,Df,Df,Dk];cases e:?ci
   . rw[?aq,?aq]
     let same:?Bf=ms:=by
      conv=>rhs;rw[←?I6 ms]
      refine qp7;intro q hq;let:¬q.1=k:=λz=>h.1 (by rw[e,←z];show qj5 (f:=(·.1)) hq);rw[?s7];rfl
     rw[same,e,Int.sub_mul];exact v*φ k+?ab=_;ext d
   . rw[?bG,?bG]
     let hk2:k∈?ak (·.1):=by
      rw[qc8,qe0]at hk;rcases hk with z | z
      . show ?aO ?eX e
      . show z
     rw[vH φ k v h.2 hk2];ext d
def VG[?D][?ar](k v:Int):?QC ?cn ((v-?aE)*φ k):=by cases hk:k∈?ak (·.1);{unfold putI;rw[?E (aZ.mpr hk),vH φ k v h hk]};rw[put_new hk,Ul,Dq hk,Df,Zv];simp
private def VH[?D][?ar](k n:Int):?QC ?eO (n*φ k):=by unfold Ks;split;{rename_i e;rw[PR φ k h];let:?aE=-n:=?g;rw[this,ql8];ext d};rw[VG φ h,?LV (?gM-?aE=n)]
def jX[?D][?ar][?cu]:∀i,?QC ?c6 (n*?Lv ?DD i)| 0=>by exact ?yb;simp| ?t=>by exact ?QC ?rW (n*(?sD+?JF));rw[VH φ ?x2,jX φ h fs n i,qt1];(let e:?gN=n*sg i:=by unfold AQ sg;let:?yi:=?g;ext uh);rw[e,qe2];ext d
def Gk[?o](ms:Ms):∀i,nd ?cG| 0=>qu3| ?t=>CF ?H2 _ _ _
def Tf[?o](ms:Ms):∀i,nz ?cG| 0=>?CI| ?t=>lJ (?Ov Tf) _ _ _
abbrev face[?o][?D](p:Int):Int:=?Lv (?da*φ ?Dd) ?gC
def JW[?D][?o](ms:Ms):∀i,?ql->?Lg ?cG=?Qw ?hc| 0,_=>rfl| ?t,h=>by exact ?Q6 (PF ?cG _ _);unfold PF;rw[jX φ ?H2,JW φ xs ms i ?g,qo1,?bE,Ul];ext uk;rw[e];exact _+_=_+wF _ [?kn];rw[Df,Zv];unfold face;ext d
def Ef[?D][?o](ms:Ms):?Lg ?cj=?Qw ms:=by unfold Bf;rw[JW φ xs ms _ ?Z,qd0]
abbrev T3(e k:Int):Int:=if k=e then 1 else 0
def G6(e:Int):?Qf (wF ?jJ ms=Am ms e)| [],_=>rfl| ?cW,h=>by ext gb;rw[Df,Dk,G6 e h.2];unfold T3;cases z:?p=e;{rw[?bC,?bC,Dq (by rw[←z];show h.1)];ext d};rw[?au,?au];ext d
def RC[?o](e p:Int):?Mn ?jJ p=?ho:=by (let:∀[?gj] (i:Nat),?Lv (?da*T3 e ?ex) i=?iu:=by intro fs i;induction i with| zero=>rfl| succ i ih =>exact ?sD+sg i*T3 e ?c2=?sT;rw[ih];unfold T3 sg;ext eE);show ?ah _ _
def Ld[?m]{ms:Ms}(e:Int):?wl=wF ?vp ms:=by let h:=G6 e (Gk xs ms ?tT);change wF ?jJ ?cj=?wl at h;rw[←h];rw[Ef];unfold wF;congr 1;refine qp7;intro p _;rw[RC]
def iA{φ:?cg}:∀{ms:Ms},(∀p∈ms,?i5=0)->?ab=0| [],_=>rfl| ?cW,h=>by rw[Df,?K8,iA ?kM];simp
def HE[?m][?a7]{ms:Ms}(hin:∀p∈ms,?fn/\?pZ):?hX=[]:=by (let z:?Qp ?hX:=by intro e;rw[Ld,Ef];apply iA ?cJ;let ?Aw:=hin p hp;(let hq:?Gr:=?hh);unfold face;show Bb6 hs hq e);let hn:=Gk xs ?cj ?pS;let hz:=Tf xs ?cj ?pS;change nd ?hX at hn;change nz ?hX at hz;cases e:?hX with| nil=>rfl| cons p r =>rw[e]at hn hz;let h1:=E8 hn (qb4 (a:=p) (l:=r));let h2:=z ?p;rw[e]at h2;unfold Am at h2;rw[h1]at h2;show ?aO h2 (hz p ?bF)
abbrev Bg9(n:Nat)(k:Int):Bool:=?u (?br=?J) || (?RE (k=0) (n=0))
abbrev spN[?o](k:Int):Nat->?a0| 0=>[]| ?t=>if Bg9 ?m9 k=true then ?vV++[?b1] else ?vV
abbrev spots[?o](k:Int):?a0:=spN xs k ?c7
def iB[?D]:∀ms:Ms,?Lg ?dx=?ab| []=>rfl| ?cW=>by let ih:=iB φ ms;unfold Cn at ih ⊢;cases z:p.2=0;{rw[qv6 ?iF,ih,Df,z];simp};rw[qv5 ?iF,Df,Df,ih]
structure Part[?o](need:Nat)(p:?a0):Prop where
 ok:∀f∈p,?jF/\?pQ/\?GJ=need
 agr:0<need->∀i j:Nat,i<j->?CZ->?ML 0
section
variable[?H]
abbrev q9:Sp:=?LZ (?Rn (?PX (.bl (?u (?pS=0)))))
universe e9
def LQ{ms:Ms}{k n:Int}[?nb](h:q∈?eO):q∈ms\/q=(k,?gM):=by unfold Ks at h;split at h;{show ?r ?rK};show QL h
def CM{ms:Ms}[?nc]{n:Int}:∀{i:Nat},i<=fs.length->∀q∈?c6,q.1∈?ak (·.1)\/q.1∈fs| 0,_,q,h=>?r (qj5 (f:=(·.1)) h)| ?t,hi,q,h=>by rcases LQ h with z | z;{show CM ?g q z};subst z;apply ?F ?_;exact ?c2∈fs;ext ct;show ?fT
def Uv[?m]{ms:Ms}:∀{i:Nat},?ql->∀q∈?cG,∃p∈ms,q.1∈?js| 0,_,q,h=>?ob| ?t,hi,q,h=>by ext uk;rcases CM ?Z q h with z | z;{let#[r,hr,er]:=?lU;let#[p,hp,hq]:=Uv ?g r hr;show#[p,hp,by rw[←er];show hq]};show#[?kn,?fT,by rw[←e];show z]
def MN{ms:Ms}[?nc]{n:Int}{M:Nat}(hm:∀p∈ms,?pA<=M):∀(i:Nat),∀q∈?c6,?FF<=M+?tG| 0,q,h=>by let:=hm q h;simp;show this| ?t,q,h=>by let ih:=MN hm i (fs:=fs) (n:=n);let e:?t*n.natAbs=?tG+n.natAbs:=Nat.succ_mul ..;rcases LQ h with z | z;{let:=ih q z;ext d};subst z;(let hs:(?gN).natAbs=n.natAbs:=by unfold AQ;ext eE);(let hg:(?JO).natAbs<=M+?tG:=by unfold Am;cases e2:?bY ?c6 ?c2 with| none=>simp| some v=>show ih _ (Mx e2));exact(?JO+?gN).natAbs<=_;apply qa4 (qf6 _ _) ?_;rw[hs,e,←qs4];show qo7 hg _
def MM[?m][?gc]{ms:Ms}{B:Nat}(hb:∀p∈ms,?pA<=B):∀{i:Nat},?ql->∀q∈?cG,?FF<=i*?is| 0,_,q,h=>?ob| ?t,hi,q,h=>by let ih:=MM h4 hb (i:=i) ?g;ext uk;let:=MN ih _ q h;rw[e]at this;let hB:=hb ?kn ?fT;(let hl:?zG<=4:=?M2 ?CK);let h2:?zG*ms[i].2.natAbs<=?is:=qg1 hl hB;let e3:?t*?is=i*?is+?is:=Nat.succ_mul ..;ext d
def CI(n:Nat):?yd:=?Dx
def cJ{a b:Nat}(h:a-1+1=b-1):Cc a=Cc b-1:=by rw[CI,CI,←h,Int.natCast_add];show(qy9 _ _).symm
def Nq[?m][?a7]{k:Int}{ms:Ms}(hm:∀p∈ms,?fn/\?pZ/\?Px ?js=k):?Mv ?bW ?cj:=by apply qd4.mpr ?bf;let hz:q.2≠0:=Tf xs ms _ q hq;let ?wp:=?Eh;let#[a,b,c]:=hm p hp;(let hx:?Gr:=?hh);let F:=hs _ _ hx;let#[r,hr,hl]:=F.bel q.1 hf;let q0:=F.low q.1 hf;(let hr2:?OT ?tB r:=by rw[qk9]at hr;split at hr;{show hr};cases hr);let Da2:?Nj ?tB:=(?aU hr2).1;(let er:?uU=r:=by rw[qa1,hr2];rfl);(let hlr:Cc ?qb=?bW:=by rw[cJ hl,c]);unfold K9;rw[qb7];apply#[?_,by simpa using hz];exact ?Mf (?RE ?Dq ?qW) (?Px ?uU=?bW);rw[er,qe7 q0,qe7 (?LV ?qW),qe7 hlr];rfl
universe Hb
namespace L2
open PySem PySem.Spec PyProof.Rows
universe L2
namespace Hb
open PySem L2
abbrev b6[?o](k:Int)(n:Nat):?a0:=((?pU).filter ?KS).map λ ?dl=>?bK
abbrev Cj[?o](k:Int):?a0:=b6 xs k ?c7
def VX[?m]{k:Int}{n:Nat}(h:?Ml n=k):?E3=?uB++[?br]:=by unfold b6;rw[qi6,qq7,qb2,qv5 ?ke];rfl
def Aa0[?m]{k:Int}{n:Nat}(h:¬?Ml n=k):?E3=?uB:=by unfold b6;rw[qi6,qq7,qb2,qv6 ?ke];simp
def E7[?o](k:Int)(n:Nat):?Ls ?uB n:=by unfold b6;rw[qa5];let:=qi8 ?KS ?pU;ext eC
section
variable[?H]
abbrev Dt:Sp:=?LZ (Nv λ ?cB ?b1 ?R=>Br (vs=[?O,?i3]) ?aW ?pB (?PY (?i (?a3 ((Cj xs i).map ?ax)))))
universe e9
def belowD_of{i b:Int}(h0:?ne)(h1:i<b):belowD ?i3 b=true:=by exact ?Mf (?u ?ne) (i<b);rw[qe7 h0,qe7 h1];rfl
def Ad0(g:?cg)(sp:?a0):?n1 g=Jh ?iJ (λi=>g ?hr):=by unfold Jh;refine List.ext_getElem;{simp};intro i h1 h2;simp at h1;simp[h1]
def Zg[?o](p e:Int):Am ?h2 e=?ho:=by rw[Ld];exact 1*?ho+0=_;ext d
def Bt[?m]{k p:Int}(h:?kH):?jI/\?kd/\Cc ?gC=k:=by unfold Cj b6 at h;let ?pH:=?mB;let h1:=?fY hj;let h2:=?f5 ?ez;apply#[?g,?g,?_];rw[qc4];simpa using h1.2
def tH[?m][?gc](p e:Int):?Mp ?ho ?o5:=by rw[←Zg xs p e];unfold Am;cases h:?bY ?h2 e with| none=>decide| some v =>let hm:=Mx h;let:=MM (B:=1) h4 (ms:=?iZ) (?Nd (by rw[qg3]at hq;subst hq;show qa3 1)) ?Z _ hm;exact v.natAbs<?o5;let h2:v.natAbs<=1*(4*1):=this;ext d
def Go[?o](k:Int):(?ai).Nodup:=by unfold Cj b6;show List.Pairwise.map _ (λa b h=>?g) (?yT _ List.nodup_range)
def VB[?ga]:(?fU).map (·.1)=sp:=by rw[show(λx:?b4=>x.1)=Prod.fst from rfl,List.map_fst_zip ?g]
def MV[?ga](h:sp.Nodup):nd ?fU:=by unfold nd;rw[VB hl];show h
def mW[?ga]{i:Nat}(hi:?sE):?N3 ?fU (?hr,?iT):=by rw[qa0 ?ej,List.getElem_zip,qa1,qa1,?fr,?bE];rfl
def KS[?ga](h:sp.Nodup):?n1 (Am ?rd)=ns:=by let hn:=MV hl h;refine List.ext_getElem;{simp[hl]};intro i h1 h2;rw[List.getElem_map,OR hn];let hi:?sE:=?g;let hz:=mW hl hi;let hm:=qa6 hz;let hg:=E8 hn hm;(let e1:?hr=sp[i]:=?x4);(let e2:?iT=?eq:=?O7 qa0 h2);rw[e1,e2]at hg;unfold Am;change (?Du).getD 0=?eq;rw[show ?Du=?i ?eq from hg];rfl
def mY[?D][?ga]:∀i,i<=sp.length->?Lg ((?fU).take i)=?Lv (φ ?EV*?mH j 0) i| 0,_=>rfl| ?t,hi=>by rw[qo1,mW hl ?g,Ul,mY φ hl i ?g];exact _+(?iT*φ ?hr+0)=?sD+φ ?hr*?iT;rw[qf7 ?iT,qf3]
def mK[?m][?ga](e:Int):?Qe ?rd e=?Lv (W7 (?P (?EV).toNat []) e*?mH j 0) ?iJ:=by rw[Ld,iB];let h:=mY ?vp hl ?iJ ?Z;rw[qh5 ?ej]at h;show h
def Zd{sp ns:?a0}[?nb](h:q∈?rd):q.1∈sp/\q.2∈ns:=by let h1:=?rK;show#[(qs6 h1).1,(qs6 h1).2]
section
variable[?H]
abbrev Lj[?bO]:Sp:=?LZ (Hm λ(i b:Int)=>Br (vs=[?i3,?l b]) ?ne (i<b) (Q .non H))
abbrev Ve:Sp:=?LZ (Xs λ ?bn (sp:?a0) ?ch=>Ds ?e3 (?Q1 a ?wc) (Rd H b ?iX) (sp.length<=1000) (?PY (?i (?a3 ((?n1 ?DP).map ?ax)))))
abbrev Rr:Sp:=?LZ (Nv λ ?cB ?R ?w=>L6 (vs=[?O,?c3]) ?aW ?pB ?fK ?kk (k<5) (Ac3 H (?iU).length ?eK (λi j=>?Ae) Q))
universe e9
def sumN_one{sp:?a0}(h:sp.Nodup){k:Int}(hk:k∈sp)(c:Int):?k (λm=>?Dk) ?iJ=c:=by let ?Bb:=qh0 hk;(let key:∀m,?Jn->?Dk=(if m=i then 1 else 0)*(λ_:Nat=>c) m:=by intro m hm;rw[qa1,qa0 hm,Option.getD_some];cases q:m=i;{subst q;rw[?aq,?W,qd8]};rw[?f3,if_neg,qf0];intro z;show q ((List.getElem_inj h).mp (z.trans ?en)));rw[Af key,El,?fs]
def pP{sp:?a0}(hs:sp.Nodup)[?D]:?Qf ((∀p∈ms,?p∈sp)->?ab=?k (λm=>?O3 ms) ?iJ)| [],_,_=>by rw[Zv,Af (g:=?dy) (λm _=>by rw[Ev,qd7]),Um]| ?cW,h,hk=>by ext gb;let ih:=pP hs φ (ms:=ms) h.2 ?Je;let h1:=?bg hs ?xU ?AK;(let e:∀m,?Jn->?O3 ?cW=(if ?d9=?p then ?AK else 0)+?O3 ms:=by intro m _;rw[Dk];cases q:?d9=?p;{rw[?E ?md,?hB,q,Dq h.1,qd7,qf3]};rw[?s (?PJ q),?f3,ql2]);rw[Df,ih,Af e,C3,h1,qf7 p.2]
abbrev Pm[?o](k:Int)(i j:Nat):Int:=?Ae
def Gr[?m]{k p:Int}(h0:?jI)(h1:?kd)(h:Cc ?gC=k):?kH:=by unfold Cj b6;apply ?il #[?fw,qi7.mpr #[?nt,qe7 h],?g]
def At5[?m]{k:Int}{j:Nat}(hj:j<?eK):?f2∈?ai:=?zV
def oE[?m][?a7]{k:Int}{i j:Nat}(hj:j<(?s8).length):?k (λm=>Pm xs k i m*Pm xs ?J m j) ?eK=0:=by let ?qE:=Bt (At5 hj);unfold Pm;rw[?kX];generalize ?R9 ?s8=p at q0 q1 q2;generalize ?AE=e;let hcb:=Nq hs (k:=?J) (ms:=?iZ) (λr hr=>by rw[qg3]at hr;subst hr;show ?qE);rw[?kX]at hcb;(let hkey:∀r∈?h2,r.1∈?ai:=λr hr=>by ext uq;let h2:?Mf ?jU (?lR=k):=?ez;rw[qb7,qb7]at h2;show ?wD);let hbb:=HE hs (ms:=?iZ) (λr hr=>by rw[qg3]at hr;subst hr;show#[q0,q1]);let hg:=Ld (xs:=xs) (ms:=?h2) e;rw[hbb,Ev,pP ?h1 _ (show nd ?h2 from Gk ..) hkey]at hg;apply ?sR (Af λm _=>?_) hg.symm;rw[Zg]
def zZ[?o]:?F4=[]:=by cases h:?F4 with| nil=>rfl| cons p l =>exfalso;let h1:=(Bt (xs:=xs) (k:=0-1) (p:=p) (by rw[h];show ?bF)).2.2;unfold Cc at h1;split at h1<;>ext d
def nG[?m][?gc](k:Int)(i j:Nat):?I1<?o5:=tH h4 _ _
section
variable[?H]
universe e9
meta abbrev C8[?o](k:Int):Nat:=?eK
def LI[?gj](e:Int):∀i:Nat,-((i / 2:Nat):Int)<=?iu/\?iu<=((?t / 2:Nat):Int)| 0=>#[qy1 _,qy1 _]| ?t=>by let ih:=LI fs e i;exact _<=?sT/\?sT<=_;ext eE
def qG[?nc](h:fs.length<=4)(e:Int):?Qa W7 fs e:=by let:=LI fs e ?qn;unfold W7;ext d
def zO[?m][?gc](k:Int)(i j:Nat):?I1<=2:=by apply qG ?_ _;rw[qa1];cases e:xs[?z7]? with| none=>show ?aM| some x=>show ?Dz
def vX[?m]{k l:Int}(h:k≠l):?S+?OB l<=xs.length:=by (let nd:(?zE).Nodup:=by rw[qr1];apply#[?rH,?rH,λa ha b hb e=>h ?_];let h1:=(Bt ha).2.2;let h2:=(Bt hb).2.2;rw[←h1,←h2,e]);(let sb:?zE ⊆ upN ?c7:=?NR (by (let:?GY:=by ext v5;{show ?DU};show ?DU);unfold upN;rw[qd2];show#[?fw,?nt,?g]));let:=nd.length_le_of_subset sb;rw[qc3,pS]at this;show this
meta abbrev BPart:=Int × Ms × Ms × Ms
abbrev Ji[?o][?nT]:Ms:=?o8
structure US[?o][?nN]:Prop where
 lev:Lat.Lev ?iD ?S z ?kb L G
 fin:A63 z ?id ?F8 ?bA (kS z ?id) (Lat.gT ?S G (Pm xs ?J)) k0 f l r
 ch:?JP
 kz:k0<=z
 kw:k0<=?id
 bL:?H7
 bG:?w8
 zm:z<=?S
abbrev Cw[?o][?nN](i:Nat):BPart :=(?cI,?yN,?lI,?g7)
abbrev Cf[?o][?nN]:?bI:=?ym ?xN
abbrev Qk[?o](k:Int)[?af]:Prop:=∃z k0 L G f l r,?D0/\ps=?ss
def OM[?m][?a7](k:Int):∀c,c<?id->?Nl (λa=>Pm xs ?J a c):=λc hc x _=>oE hs hc
structure Rm[?o](n:Nat)(zs ks:?aV)(Ls Gs:?z6)(fs:?s5)(lp rp:?Jv)[?bz]:Prop where
 len:ls.length=n
 z0:zs 0=?kS/\Ls 0=Lat.one/\Gs 0=Lat.one
 nx:∀j,j<n->zs ?T=?xn/\Ls ?T=(λi=>?Ed)/\Gs ?T=λi=>?uY ?m6
 lv:∀j,j<n->?NC US/\ls[j]?=?i ?gv
abbrev Qg[?o](n:Nat)[?bz](z:Nat)(L G:Lat.Mat):Prop:=∃zs ks Ls Gs fs lp rp,?zU/\zs n=z/\Ls n=L/\Gs n=G
def Qg.first[?o]:Qg xs 0 [] ?kS ?h6 ?h6 :=#[λ_=>?kS,?dy,?C1,?C1,?qk,?xK,?xK,#[?h,?JN,?KX,?KX],?aB,?h]
abbrev ID[?cQ](g:?kq)(n:Nat)(a:α):?kq:=λj=>if j=n then a else g j
def Ij[?cQ](g:?kq)(n:Nat)(a:α):ID g n a n=a:=?W
def Fb[?cQ](g:?kq){n j:Nat}(a:α)(h:j≠n):ID g n a j=g j:=?al
def Qg.snoc[?m]{n:Nat}[?eA][?v8][?j0](h:?AG)(b:?MR US ?br) : Qg xs ?ad (ls++[?MR Cf ?br]) ?Jm ?GH ?Iz:=by have#[?LR,?aB,?h]:=h;apply#[ID zs ?ad ?Jm,ID ks n k0,ID Ls ?ad ?GH,ID Gs ?ad ?Iz,ID fs n f,ID lp n l,ID rp n r,#[?_,?_,?hO,?hO],Ij ..,Ij ..,Ij ..];{rw[qc3,t.len];rfl};{rw[?mX,?kw,?mi];show t.z0};{cases e:j=n;{subst e;rw[Ij,Ij,Ij,Ij,Ij];show ?JN};rw[?mX,?vF,?kw,?mi,?wt];show ?xp};cases e:j=n;{subst e;rw[?mX,?kw,?mi,Ij,Ij,Ij,Ij];show#[b,by rw[qd5 (by rw[t.len];show ?Z),t.len,qh9];rfl]};rw[?mX,?kw,?mi,?vF,Fb fs _ e,Fb lp _ e,?wt];let ?lf:=?s1;show#[h1,by rw[qd3 (by rw[t.len];ext d)];show h2]
def Qg.lev[?m]{n:Nat}[?eA]{z:Nat}{L G:Lat.Mat}(h:?AG):∀(j:Nat) ps,?QW j->?BA:=λj ps e=>by let#[?LR,_]:=h;ext Ks;show#[?gl,_,_,_,h1,?h]
universe Hb
namespace L2
open PySem PySem.Spec PyProof.Rows
section
variable{X:Cx}{Ae:Bl}[?fG]{s:Shared}
universe e9
section
variable{X:Cx}[?ag]
universe e9
section
variable{X:Cx}{Ae:Bl}[?fG]{s:Shared}
universe e9
structure Fin(B k:Nat)(p:PyData):Prop where
 sh:p.showable=true
 le:p.shown.length<=B
 dp:p.depth<=k
section
variable[?v1]{E:?mV}
universe e9
section
variable[?v1]{R:Result->?rT}
universe e9
universe L2
namespace Hb
open PySem L2
def Rows.drop{H H1 H2:Hp}{D C:Addr}{as:?zt}{w k:Nat}[?vD](R:Rows H H1 D as w f)(hC:H1 C=none)(h2:H2=upd H1 C (?a3 (?R8 ?Hj V.ref))):Rows H H2 C ?Hj w ?ye:=by
 subst h2;apply#[R.same.trans (?aZ hC),R.same.free hC,Ab,λj a e=>?_];rw[qt9]at e;let#[h1,h3,h4]:=R.row ?cz a e;let ne:a≠C:=λz=>by rw[z,hC]at h4;cases h4
 show#[h1,ne,by rw[?lu];show h4]
section
variable[?H]
universe e9
abbrev Ka(H:Hp)(v:V)[?aX]:Prop:=∃t a b c,?nL/\?RY (?l9/\b≠c)
def Ka.same[?fJ][?cP](h:?h4)[?be]:Ka H' v p:=by let ?EH:=h;show(?Qz ne)
abbrev Cd(H:Hp):?QD ?C ?bI| [],[]=>True| ?iW,?cF=>?h4/\?gK| _,_=>False
def Cd.same[?fJ][?be]:?Ac| [],[],h=>h| ?iW,?cF,h=>#[h.1.same s,Cd.same s h.2]| [],?bt,h=>h.elim| ?bt,[],h=>h.elim
def Cd.len{H:Hp}:?QH ?J0| [],[],_=>rfl| ?iW,?cF,h=>by rw[qd9,qd9,Cd.len h.2]| [],?bt,h=>h.elim| ?bt,[],h=>h.elim
def Cd.snoc{H:Hp}:∀[?aQ][?I][?cP],?gK->?h4->Cd H ?Ba ?lN| [],[],v,p,_,h=>#[h,trivial]| u::vs,q::ps,v,p,h,h2=>#[h.1,Cd.snoc h.2 h2]| [],?bt,_,_,h,_=>h.elim| ?bt,[],_,_,h,_=>h.elim
def Cd.get{H:Hp}:∀[?aQ][?I]{i:Nat}{v:V},?gK->?eI->∃p,?f6/\?h4| [],[],i,v,_,e=>?CN| u::vs,q::ps,0,v,h,e=>#[q,?h,by (let:u=v:=?ei);subst this;show h.1]| u::vs,q::ps,?t,v,h,e=>by (let e':?eI:=?ei);let#[p,?a1]:=Cd.get h.2 e';show#[p,?a8,h2]| [],?bt,_,_,h,_=>h.elim| ?bt,[],_,_,h,_=>h.elim
def Ka.put{H:Hp}[?dO]{vs us:?C}[?cP](h:?h4)(hD:H D=?i ?lQ):Ka (?ND D ?JS) v p:=by have#[?fF,nbc]:=h;(let ne:?OE ((∀ws,o≠?h5)->x≠D):=λ{x o} e h z=>by rw[z,hD]at e;cases e;show h _ ?h);show#[?fH,by rw[?Nf h1];show h1,by rw[?Nf h2];show h2,by rw[?Nf h3];show h3,by rw[?Nf h4];show h4,nbc]
def Cd.put{H:Hp}[?dO]{us0 us1:?C}(hD:H D=?Md us0):?QH (Cd (?ND D (?a3 us1)) vs ps)| [],[],h=>h| ?iW,?cF,h=>#[h.1.put hD,?lO hD h.2]| [],?bt,h=>h.elim| ?bt,[],h=>h.elim
def OD{k z:Nat}(h:k<=z)[?eF]:VI k f++?uD (z-k) (?ax 0)=VI z (?hz f k):=by apply ?xP;cases hi:i<k;{rw[qd3 (by rw[Bw];show hi),C6 hi,?EW];unfold Lat.numAt;rw[?fs]};rw[qd5 ?pn,Bw];cases hz:i<z;{rw[C6 hz,qv3,?fZ];unfold Lat.numAt;rw[?s hi]};rw[qg8 (by rw[qi1];ext d),qg8 ?pn]
def WY(n:Nat)[?eF]:(Jh n f).map ?ax=VI n f:=rfl
def mL{a b:Int}(ha:a.natAbs<?ld)(hb:b.natAbs<?ld):?ck a b:=Hq ha hb ?E7
section
variable[?H]
abbrev fM:Sp:=?LZ (EC λ ?bn ?R ?w ?CH=>Kb ?wu ?aW ?pB (?Q1 b ?lM) (ns.length=?eK) (?PY (?RU (cK (Cn (?tj ns))))))
abbrev m9:Sp:=λvs H Q _=>Bp7 λ(a tp nm r1 D1 D2 b2:Addr) (vl vg:V) ?R ?w (z k0 w:Nat) (L G:Lat.Mat) (f:?U) (l r:?k9)=>Aq3 (vs=[?O,?c3,?v tp,vl,vg]) ?aW ?bD (w=?id) (?Nr vl (dT z ?S L)) (?Nr vg (dT z ?S G)) (?MZ H z k0) ?oz (k0<=z) (k0<=w) ((∀i,?g6->?bp≠0)) (?cM z z ?bA l.1) (?cM z z ?bA l.2) ?H7 ?w8 (∀[?vA] (H':Hp),?QL ?pt (Cd H' us ?ss))
abbrev Hn(D:Addr)(H:Hp)[?gk][?bz]:Prop:=?Mq (a≠D/\?uH)
abbrev Rp(H:Hp)[?gk][?bz]:Prop:=?Mq ?uH
abbrev r6:Sp:=?LZ (Hm λ ?cB ?R=>Ds ?iN ?aW ?bS ?CV (∀[?vA] [?bz] (H':Hp),?bm->?a4->?pt->?EE->?AC->Rp H' us ls->?bu))
universe e9
def one_bits(n m:Nat):?cM n m ?bA ?h6:=λi j _ _=>by let h1:1<?ld:=Nat.one_lt_two_pow ?E7;unfold Lat.one;split;{show h1};show qw8 (?aD:0<1) h1
def RJ[?ag]{H:Hp}{v:V}{n:Nat}(h:?Nr v (dT n n λi j=>?pl)):?Nr v (dT n n ?h6):=by (let e:(λi j:Nat=>if j=i then ?q9 else 0)=Lat.one:=by funext i j;unfold Lat.one;cases h:i=j;{rw[?b2,?qv]};rw[?al,?s ?u9]);rwa [e]at h
def Af0[?ag]{H:Hp}{C:Addr}[?cv]{h w k:Nat}[?vD](hr:∀i u,?N3 us u->i<h/\∃b,u=?eH/\?Q1 b ?vz)(hl:?OU h)(hC:?Q1 C (us.drop k)):?Nr ?r8 (dT (h-k) w ?ye):=by apply mF hC (by rw[qj3,hl]) ?ih;let e:us[?bL]?=?i (us[?bL]' ?g):=?bE;let ?wN:=hr ?bL _ e;show#[b,by rw[qt9,e,eb],hb]
abbrev A52(us:?C):Prop:=∀u∈us,∃a,u=?O
def aP[?ag]{H:Hp}{D b:Addr}{xs:?C}{o:HO}(h:?Q1 b xs)(ne:b≠D):SqL K ?lP b xs:=by rcases h with(h|⟨q,h⟩) | h;{show ?r (?r ?l7)};{show ?ON q ?l7};show ?F h
def ZQ[?ag]{H:Hp}{D b:Addr}{xs us:?C}{o:HO}(h:?NS H b xs)[?j2]:?NS ?lP b xs:=by rcases h with(h|⟨q,h⟩) | h;{(let ne:b≠D:=?JW);show ?r (?r ?l7)};{(let ne:b≠D:=?JW);show ?ON q ?l7};show ?F h
def JN[?ag]{H:Hp}{D t:Addr}[?cv]{h w:Nat}[?vD]{o:HO}(hr:?Nr ?f7 ?GN)(ne:t≠D)(hw:0<h->0<w)[?j2](zG:A52 us):Rep K ?lP ?f7 ?GN:=by let#[_,tu,ez,hq,hl,Kl]:=J6 hr;cases ez;apply mF (aP hq ne) hl ?ih;let e:?N3 tu (tu[i]' ?g):=?bE;let ?wN:=Kl i _ e;apply#[b,by rw[e,eb],?_];rcases hb with(hb|⟨q,hb⟩) | hb;{apply aP (?r (?r hb)) ?g3;rw[z,hD]at hb;(let e1:us=?vz:=by injection hb with e;injection e);let hw':=hw ?g;(let e2:us[0]?=?MU (f i 0):=by rw[e1];show C6 hw');let#[c,hc]:=zG _ (qa6 e2);cases hc};{apply aP (?ON q hb) ?g3;rw[z,hD]at hb;cases hb};show ?F hb
structure PJ(D nm r1 D1 D2 b2:Addr):Prop where
 e1:nm≠D
 e2:r1≠D
 e3:D1≠D
 e4:D2≠D
 e5:b2≠D
def V9.put[?ag]{H:Hp}{D tp nm r1 D1 D2 b2:Addr}{n w k:Nat}[?j0][?cv]{o:HO}(x:?MZ H n k)(ne:?AR)[?j2](zG:A52 us):?MZ ?lP n k :=#[ZQ x.tup hD,aP x.num ne.e1,?Ns x.left ne.e2,?Ns x.lback ne.e3,?Ns x.right ne.e4,?Ns x.rback ne.e5]
def EB.ne[?ag][?fJ]{tp nm r1 D1 D2 b2 D:Addr}{n w k:Nat}[?j0]{o:HO}(x:EB K H H' tp nm r1 D1 D2 b2 n w k f l r)(hD:H D=?ba):?AR:=by (let go:∀a,(a=nm\/a=r1\/a=D1\/a=D2\/a=b2)->a≠D:=λa h z=>by let:=(x.new a h).1;rw[z,hD]at this;cases this);show#[go _ ?gs,go _ ?sw,go _ ?Gn,go _ ?vW,go _ (?F (?F (?F ?FU)))]
abbrev Aq2[?H](H:Hp)(a D:Addr)[?o](k:Nat)(σ:St)(G':Hp):Prop :=∃(us:?C) (ls:?cx) (la ga:Addr) (z:Nat) (L G:Lat.Mat) (o4 o5 o6 o7:?fo V),σ=[rS a,rS D,rS la,rS ga,o4,o5,o6,o7]/\?Di/\G' D=?cd/\ls.length=k/\?QO k/\Hn D G' us ls/\la≠D/\ga≠D ∧ ?Qc la L/\?Qc ga G/\Lat.Lev (?OB (?w-1)) ?cS z (Pm xs ?w) L G/\z<=?cS/\?NL ?cS L/\?NL ?cS G
def Hn.out[?dO]{H:Hp}[?aQ][?eA][?nV]:?Fj :=(?Ly #[a,us,e,_,?a1] ?Gh)
def Hn.same[?dO][?fJ][?aQ][?eA][?nV][?be]:Hn D H' vs ls :=(?Ly ?EK #[a,us,e,n,?dU,?mY])
def Hn.refs[?dO]{H:Hp}[?aQ][?eA][?nV]:A52 vs:=λu hu=>by let ?rG:=qf9 hu;let hl:=(?aU hi).1;let h0:=h.1;let#[a,_,e,_]:=h.2 i u _ hi ?bE;show#[a,e]
def Hn.snoc{D E:Addr}{H:Hp}{vs eu:?C}[?eA][?I][?nV](hD:H D=?i ?lQ)(ne:E≠D)(hE:H E=?Md eu)(r:Cd H eu ps):Hn D (?ND D (?a3 ?GU)) ?GU (ls++[ps]):=by ext L4;let h0:=h.1;ext nR;{rw[?mR]at e1;rw[?qL]at e2;apply ?az;let ?EK:=?Fn;apply ?ay;show#[a,us,e,n,by rw[Aj n];show h1,?lO hD h2]};ext ue;rw[h0,?eY,qh9]at e2;(let q1:v=?v E:=?K7);(let q2:qs=ps:=?DA);subst q1 q2;show#[E,eu,?h,ne,by rw[?lu];show hE,?lO hD r]
universe Hb
namespace L2
open PySem PySem.Spec PyProof.Rows PySem.SeqAt
section
variable{X:Cx}{n:Nat}[?ag]
universe e9
universe L2
namespace Hb
open PySem L2
abbrev Lr[?af]:?bI:=ps.filter λp=>?u ?r6
def LL[?af][?aX]:Lr ?lN=if ?em then ?cr else ?cr++[p]:=by unfold Lr;rw[qq7];cases h:?em;{rw[?b2,qn3,?s ?lr,List.filter_nil,List.append_nil]};rw[?al,qn3,?E ?lr,List.filter_nil]
abbrev lift1(fl:Ms)[?aA](g:?b4):?c9:=?kW ?cV (C4 ?IV (Dm g.2 fl))
abbrev Tj[?aA][?aX]:?c9:=if ?em then p.2.2.1.foldl (lift1 ?bU) lf else lf
abbrev Ma[?aA][?af]:?c9:=?mO Tj lf
abbrev Cb(n:Nat)[?bz]:?c9:=?wW Ma ?FQ
structure Gm(ms:Ms):Prop where
 n:?bB
 z:?jz
 k:?hQ
def Gm.nil:Gm []:=#[qu3,?xV,?xV]
def Gm.len{ms:Ms}(h:Gm ms):?IC:=by (let:=JC (?ak λ(p:?b4)=>?p) (upN 40) h.n λx hx=>by let ?kc:=?b7 hx;let:=h.k p hp;unfold upN;show ?il #[?hS,?nt,?g]);rwa [qa5,pS]at this
def cX{ms:Ms}{j:Int}(h:?hP≠0):j∈?ak (·.1):=by cases e:j∈?ak (·.1);{show e};show ?aO (Dq e) h
def Gm.plus[?v4]:Gm ?cZ:=by let#[r1,r2,_,r4]:=?Az;apply#[r1,r2,?cJ];let e:=E8 r1 hp;(let e2:Am ?cZ ?p=p.2:=by unfold Am;rw[e];rfl);let hz:=r2 p hp;rw[←e2,r4]at hz;(let:?p∈?ak (·.1)\/?p∈?m8 (·.1):=by cases q:?oE=0;{show ?F (cX ?g)};show ?r (cX q));rcases this with h | h;{let ?FS:=?mB;rw[←eq];show h1.k q hq};let ?FS:=?mB;rw[←eq];show h2.k q hq
private def Gm.times{ms:Ms}(h:Gm ms)(n:Int):Gm ?hZ:=by unfold Dm;split;{show Gm.nil};rename_i hn;apply#[?_,?cJ,?cJ];{let:=h.n;unfold nd at this ⊢;rw[qk2];show this};{let ?sW:=?dF;show Int.mul_ne_zero hn (h.z q hq)};let ?sW:=?dF;show h.k q hq
abbrev Ii(n:Nat)[?aA]:Prop:=lf.length=n/\∀m∈lf,Gm m
def Ii.at{n:Nat}[?aN](h:?d2)(i:Nat):Gm ?bX:=by rw[qa1];cases e:lf[i]? with| none=>show Gm.nil| some m=>show h.2 m ?nx
def Ii.lift1{n:Nat}[?aN][?LG]:Ii n ?DR:=by apply#[by unfold Hb.lift1;rw[qf1];show h.1,λm hm=>?_];rcases qm4 hm with q | rfl;{show h.2 m q};show(h.at _).plus (hf.times _)
def Ii.go{n:Nat}{fl:Ms}(hf:Gm fl):?Rd (Ii n (?od (Hb.lift1 fl) lf))| [],_,h=>h| ?iE,_,h=>Ii.go hf gs ?vJ
structure Pc(n:Nat)[?aX]:Prop where
 gk:∀g∈?bV,?pj
 fl:Gm ?bU
 mul:∀g∈?bV,∀q∈?bU,?ck g.2 q.2
abbrev Ec(O H:Hp)[?gk][?aA]:Prop:=?RW lf.length/\∀(i:Nat) v,?eI->∃c,?kQ/\?iQ/\?Qj c ?bX
def Ii.part{n:Nat}[?aN][?dN](h:?d2)(hp:?mj):Ii n ?rZ:=by unfold Tj;split;{show Ii.go hp.fl _ h};show h
def Ii.parts{n:Nat}:∀[?I][?aN],?d2->(∀p∈ps,?mj)->Ii n ?tm| [],_,h,_=>h| ?cF,_,h,hp=>Ii.parts (ps:=ps) (h.part ?GF) (?Nc hp)
def Ii.first(n:Nat):Ii n ?FQ:=#[qi1 ..,λm hm=>by rw[(List.mem_replicate.mp hm).2];show Gm.nil]
def Ec.same[?jB][?aQ][?aN](h:?rc)[?be]:?w0 :=(?NM (s _ _ e2))
def Ec.keep[?jB][?aQ][?aN](h:?rc)(s:∀c kvs,?iQ->H c=?RU kvs->H' c=?RU kvs):?w0 :=(?NM (s _ _ e0 e2))
def Ec.snoc{O H:Hp}[?aQ][?aN][?Kz]:Ec O H (vs++[?eJ]) (lf++[m]):=by let h0:=h.1;apply#[?yk,λi v ei=>?_];rw[qa1];ext nR;{rw[?mR]at ei;rw[?qL,←qa1];show h.2 i v ei};let hi2:=(?aU ei).1;rw[qc3,qj6]at hi2;let eq:?EP:=?g;subst eq;rw[?eY,qh9]at ei;rw[h0,?eY,qh9];(let q1:?kQ:=by simpa using ei.symm);show ?A9
def Ec.set{O H:Hp}[?aQ][?aN][?Kz](i:Nat):Ec O H (vs.set i ?eJ) (?kW i m):=by let h0:=h.1;apply#[by rw[qf1,qf1,h0],λj v ej=>?_];rw[qa1];cases q:i=j;{subst q;let hl:=(?aU ej).1;rw[qf1]at hl;rw[qg2 hl]at ej;rw[qg2 ?g];(let q1:?kQ:=by simpa using ej.symm);show ?A9};rw[qf5 q]at ej;rw[qf5 q,←qa1];show h.2 j v ej
abbrev M3[?bO]:Sp:=?LZ (Nv λ ?cB ?it ?fg=>Ds ?iN ?oo ?Ao (ps.length<=1000) (∀(D:Addr) (us':?C) (H':Hp),?QL (?d5=?i (?a3 us')) (Cd H' us' ?cr)))
abbrev n0[?H]:Sp:=?LZ (EC λ ?bn ?R ?it ?oB=>L6 ?e3 ?aW ?bD (H b=?cd) (Rp H us ls) ?Fr (∀(D:Addr) (ws:?C) (H':Hp),?QL ?Ca (Ec H H' ws ?dn)))
def Kk(n:Nat):?yd:=?Dx
def uD[?m]{p:?a0}(h:Bp5 xs p):cZ xs (tI p)=true:=by (let bl:∀f∈p,∃q,?q5=?cs/\?rL=q/\?Nj f.toNat/\q.length-1+1=p.length-1:=λf hf=>by have#[q,e,l]:=h.bel f hf;have#[hlt,_]:=?aU e;show#[q,e,by rw[qa1,e];rfl,hlt,l]);exact cZ xs (?aa (F4 p))=true;rw[U2];(let hl:(F4 p).length=p.length:=by simp[F4]);rw[hl];simp only[qb7,qt4];apply ?xE;{rcases h.cnt with e | e | e | e<;>rw[e]<;>rfl};{rw[qd4];intro d hd;apply ?az;let#[f,hf,?h]:=?b7 hd;let#[q,e,eq,hlt,l]:=bl f hf;apply ?ay;let h0:=h.low f hf;exact ?Mf (?RE ?jF ?pQ) (Cc ?GJ=Cc p.length-1);rw[eq,Kk,Kk];simp only[qb7,qq9];ext d};cases h3:3<=p.length;{right;(let e0:(F4 p).map toI=p:=by unfold F4;rw[qk2];show ?I6 p);rw[e0];unfold Pb;rw[qd4];intro j hj;rw[qd4];intro i hi;let hj:=?rh;let hi:=?ea;unfold Zj;rw[qq9];let ej:?NW p (p[j]):=?df;let ei:?N3 p ?Ha:=?bE;apply ?az;let#[q,e1,e2,_]:=bl p[j] ?xS;let#[r,e3,e4,_]:=bl ?Ha ?fT;apply ?ay;let key:=h.agr h3 i j _ _ q r hi ej ei e1 e3;rw[show ?lY=p[j] by rw[qa1,ej];rfl,show ?kP=p[i]' ?g by rw[qa1,ei];rfl,e2,e4,qa1,qa1,key]};left;rw[Kk];simp;ext d
def Rj[?m]{k:Int}{v:?U}[?nb](h:q∈?cY):?rA/\∃c,c<?S/\q.2=v c:=by let ?lf:=Zd h;let h3:=Bt h1;let#[c,hc,e]:=?b7 h2;show#[#[h3.1,h3.2.1],c,?f5 hc,?en]
def Xk[?m][?V][?nT]:Gm ?cY:=by apply#[?_,?bf,?bf];{let:=MV (sp:=?ai) (ns:=?mm) ?rF ?rH;unfold nd at this ⊢;show this.sublist (qw0 _ (qs8 ..))};{let:=(?fY hq).2;simpa using this};let:=?C7;ext d
private def Qk.ok[?m]{k:Int}[?I][?nY][?V]:?DX:=by ext v0;intro p hp;let ?er:=?dF;let hi:=?ea;ext LC;apply#[λg hg=>(Rj hg).1,?_,λg hg q hq=>?_];{exact Gm ?g7;split;{show Gm.nil};show ?De};let ?zj:=Rj hg;replace hq:q∈?g7:=hq;split at hq;{cases hq};rename_i e0;(let hik:?g6:=by cases hh:?g6;{show hh};unfold Lat.numAt at e0;rw[?s hh]at e0;show ?aO ?h e0);let#[_,d,hd,e2]:=Rj hq;(let h1:(?c8 z l.1 G i c).natAbs<?n8:=Xl λj hj=>by rw[qb5,qe3];show ?Nq ?oX bl.bG);let h2:=?yj i d ?yy hd;rw[e,e2];show Hq h1 h2 ?wL
def Cd.kd[?fJ](s:∀c o,?Fq):?Ac| [],[],h=>h| ?iW,?cF,h=>by have#[?EH,h5]:=h;show#[#[?fH,s _ _ h1 ?Gq,s _ _ h2 ?fS,s _ _ h3 ?fS,s _ _ h4 ?fS,ne],Cd.kd s h5]| [],?bt,h=>h.elim| ?bt,[],h=>h.elim
def Qk.len[?m]{k:Int}[?I][?nY][?V]:?hD:=by have ?I2:=h;unfold Cf;rw[qa5,ql4];show ?t3
abbrev tY(H:Hp)(d:Addr):Hp:=λa=>if a=d then none else H a
def Oa{H:Hp}{c d:Addr}(h:c≠d):tY H d c=H c:=?al
def QV{H:Hp}{d:Addr}:tY H d d=none:=?W
def TX{H:Hp}{d:Addr}:?K ?J8 H:=λc o e=>by cases h:c=d;{rw[h,QV]at e;cases e};rwa [Oa h]at e
def xP{O H:Hp}{d:Addr}(s:?zT)(h:O d=none):?K O ?J8:=λc o e=>by rw[Oa (Aq e h)];show s c o e
structure jU[?H](C:Addr)(B:Hp)(p:Addr)[?o][?bz]:Prop where
 ob:Ex6 λdx P Lv Lf lu wu=>B p=?i (.ins C dx [(?u7,?v P),(?p7,?v Lv),(?lp,?v Lf)])/\Ds (LT K B (?v P) xs) (B Lv=?sp) (Rp B lu ?es) (B Lf=?mp) (Ec ?sg B wu ?dn)
 sh:?bS
 len:?bD
 n4:?EE
 lev:∀(k:Nat) ps,?gH->?t8
 tie:?AC
abbrev PY[?H]:Sp:=?LZ (Hm λ ?iw ?R=>Br ?th ?po ?bD ?m1)
abbrev BL[?H]:Sp:=?LZ (?RP (∀H',?a4->?oO))
abbrev X1[?H]:Sp:=?LZ (?RP ?iI)
abbrev kJ[?H](C:Addr):Sp:=?LZ (Ex6 λ(p dx a:Addr) ?it (H0:Hp) ?R=>sI (vs=[?el,?O]) (H p=?i (.ins C dx [])) ?oo (?eo K H0 us (xs.map tI)) (?K H0 H) (H0 a=none) (H0 p=none) ?bS ?CV (∀(B:Hp) [?bz] (H':Hp),SameX p H H'->?pV->?K H0 B->?K B H'->B a=none->?oO))
abbrev Ro(O H:Hp)(v:V)[?aX]:Prop:=∃t a b c,?nL/\(O t=none/\O a=none/\?Ep/\?iQ)/\?RY ?l9
def Ro.kd[?jB][?cP](h:?jG)[?Kw]:Ro O H' v p:=?NZ #[?fH,?xX,?a1,h3,h4] #[?fH,?xX,s _ _ n1 h1 ?Gq,s _ _ n2 h2 ?fS,s _ _ n3 h3 ?fS,s _ _ n4 h4 ?fS]
abbrev Gi(O H:Hp)[?gk][?af]:Prop:=?J0/\?Oy ?eI ?jG
def Gi.kd[?jB][?aQ][?I][?nU][?Kw]:?y7 :=(?M8 ((?hm).kd s))
def Gi.same[?jB][?aQ][?I][?nU][?be]:?y7:=h.kd λc o _ e _=>s c o e
def Ro.put{O H:Hp}[?dO]{us ws:?C}[?cP](h:?jG)[?j2]:Ro O ?zH v p:=h.kd λc o _ e ho=>by rw[Aj ?g3];{show e};rw[z,hD]at e;cases e;rcases ho with⟨_,q⟩|⟨_,q⟩<;>cases q
def Gi.put{O H:Hp}[?dO]{us ws vs:?C}[?I][?nU][?j2]:?PC ?zH:=(?M8 (?zW hD))
def Gi.snoc{O H:Hp}[?aQ][?I][?cP][?nU](hp:?jG):Gi O H ?Ba ?lN:=by let h0:=h.1;apply#[?yk,λi u q e1 e2=>?_];ext nR;{rw[?mR]at e1;rw[?qL]at e2;show ?QA i u q};ext ue;rw[h0,?eY,qh9]at e2;(let q1:u=v:=?K7);(let q2:q=p:=?DA);subst q1 q2;show hp
def Rp.at{H:Hp}[?aQ][?eA]{k:Nat}(h:?Fj)(hk:k<ls.length):∃a us ps,vs[k]?=?lZ/\?gH/\?uH:=by let h0:=h.1;let e1:vs[k]?=?i (vs[k]' ?g):=?bE;let e2:ls[k]?=?i ls[k]:=qa0 hk;have ?Gh:=?QA k _ _;show#[a,us,_,by rw[e1,e],e2,?a1]
abbrev fP[?H](C:Addr):Sp:=?LZ (?RK ?b0 (∀[?af] [?vA] (H':Hp),?QW k.toNat->?QL ?pt (Gi H H' us ?cr)))
universe Hb
namespace L2
open PySem PySem.Spec PyProof.Rows PySem.SeqAt
section
variable{X:Cx}
def JQ:?Mc ?jY ?qu:=by ext Kn;let#[_,its,_,ob,ho,hc,_]:=(?N0 ?qu);show PySem.IsiPair.tuple_tuple ho hc ?Cw
def Rl:?Mc ?hy ?lQ:=by ext Kn;let#[_,its,m,_,ho]:=(?N0 ?lQ);show PySem.IsiPair.list_list ho ?h ?Cw
universe e9
universe L2
namespace Hb
open PySem L2
abbrev EE(ms:Ms)[?cu]:?ir| 0=>ms| ?T=>?zF
abbrev Li[?o](ms:Ms):?ir| 0=>[]| ?t=>?RB EE ?eu
def Yz(ms:Ms)(k v j:Int):Am ?cn j=if j=k then v else ?hP:=by unfold Am;rw[fZ];split<;>rfl
def QY(ms:Ms)[?gj](n k:Int):∀j,?Qo ?dT ?ku n| 0=>by simp[EE,La]| ?T=>by let ih:=QY ms fs n k j;exact ?Qo ?zF (if ?ex=k then ?l1-2*?h3 else ?ku) n;rw[Yz];cases h:?ex=k;{rw[?qv,?b2,h,ih];unfold AQ;cases h2:?h3=0;{rw[?E h2,h2];rw[?LV (?l1-2*0=?l1),qp8];ext d};let h3:?h3=1:=?g;rw[?s h2,h3];rw[?LV (?l1-2*1=?ku+-1),qp8];ext d};rw[?s ?u9,?al];show ih
def oF[?ar][?cu]:∀j,nd ?dT| 0=>h| ?T=>IX ?BY _ _
def JB(ms:Ms)[?cu]:∀j,?Ls ?dT (?QJ j)| 0=>?Z| ?T=>by let h1:=?PH JB j;let h2:=jC ?dT ?ex ?KV;exact ?Ls ?rb _;ext d
def iX[?o](ms:Ms):∀i,nd ?eu| 0=>qu3| ?t=>oF (?Ov iX) _ _ _
def jB[?m][?gc](ms:Ms):?Ow ?eu| 0=>?Z| ?t=>by let h1:=jB h4 ms i;let h2:=?RB JB ?eu;(let h3:?hG<=4:=by rw[qa1];cases e:xs[?sc]? with| none=>exact ?tg<=4;(ext d)| some x=>show ?Dz);exact(EE _ _ _ _).length<=_;ext d
def AZ[?o](ms:Ms)(y:Int):∀i,?Ql ?eu ?cG| 0=>rfl| ?t=>by exact ?Ql (EE ?eu _ _ _) (Jg ?cG _ _ _);rw[QY,GN,AZ xs ms y i]
def NS[?m][?a7][?Kv](e:Int):?Fd=0:=by ext ul;cases he:e∈?iU;{let ?FE:=qh0 he;let:=h0 x hx;exact ?ve=0;rw[mK hl];apply ?sR ?_ ?ah;unfold Lat.mulV;apply ?jZ;unfold Pm;rw[show ?w1 by rw[qa1,qa0 hx,ex];rfl,?si]};ext Kd
def rK{ms:Ms}(hn:?bB)(h:?Qp ms):?dx=[]:=by
 unfold Cn;rw[List.filter_eq_nil_iff];intro p hp;let e1:?oE=p.2:=?Mt hn hp
 rw[h]at e1;simp[←e1]
def SV[?m][?a7][?Kv]:?Ph ?cY ((?cY).length)=[] :=rK (iX _ _ _) λe=>by rw[AZ];show NS hs h0 e
def UB[?m]{k:Int}{u v:?U}:wF ?Eo ?cY=?Ps (u c*v c) ?S:=by ext ul;(ext L0);let hz:=mY ?Eo hl _ ?Z;rw[qh5 ?ej]at hz;exact wF _ ?o8=_;rw[iB,hz];apply ?jZ;let hb:=?Es;(let e1:Am ?eW ?f2=u j:=by (ext Km);ext L8);rw[e1,?si]
structure JT[?o](k:Int)(ms:Ms):Prop where
 len:?IC
 part:∀q∈ms,?rA/\?Px ?uU=k/\q.2≠0
structure A61[?o](k:Int)[?aX]:Prop where
 lp:JT xs k ?dh
 gg:JT xs k ?bV
 fl:JT xs ?J ?bU
 no:?sQ
 nn:?fn
 n1:?r6
abbrev A54(p q:BPart):Prop:=(?am->q.1=0)/\(0<?p->q.1%?p=0)
structure Ah0[?o](k:Int)[?af]:Prop where
 one:∀p∈ps,A61 xs k p
 ord:ps.Pairwise A54
structure yM[?o][?af]:Prop where
 rnd:∀p∈ps,?Ph ?dh (p.2.1.length)=[]
 mul:∀p∈ps,∀q∈ps,∀t∈q.2.1,?RF ?bV
 dual:?Qb (?O5 ?bV (q.2.1)=?hL)
abbrev Si[?bO]:Sp:=?LZ (Hm λ ?cB ?ch=>Br ?iN ?ep ?du (?QT ?dx))
abbrev X2[?H]:Sp:=?LZ (Xs (?RH (?Q5 100) ((∀q∈ms,?rA)) (lM H ?qG Q)))
abbrev fN[?bO]:Sp:=?LZ (Xs λ(g c:Addr) (gs cs:Ms)=>Ds (vs=[?v g,?eJ]) (H g=?i ?IK) (H c=?i ?Ck) ((∀t∈cs,?RF gs)) (?PX (?l (wF ?ov cs))))
def oZ[?m][?V][?nT]:JT xs k ?cY :=#[(?p5).len,?Nd #[?C7,(Bt (Zd hq).1).2.2,(?p5).z q hq]]
def JT.nil[?o](k:Int):JT xs k []:=#[?aM,?Nd (by cases hq)]
abbrev qQ[?eF](k0 z:Nat):?av Nat:=(?cX z).filter λi=>?u ?Er
def qI[?o][?nN]:Lr ?ss=?R8 ?qT ?xN:=by unfold Lr Cf qQ;rw[List.filter_map];rfl
def P4[?dM]{k0 z i:Nat}(h:i∈?qT):i<z/\?Er:=by let:=?fY h;show#[?f5 ?gq,qc6 this.2]
def LU[?eF](k0 z:Nat):(?qT).Pairwise (·<·):=?yT _ List.pairwise_lt_range
private def WL[?dM]{k0 i:Nat}(h:?BL):0<=?cI:=by unfold Lat.numAt;split;{rename_i q;show za1 (h i q)};show qy1 0
def Ac0[?dM]{k0 i j:Nat}(h:?BL)(ch:?JP)(hij:i<j):(?cI=0->?JM=0)/\(0<?cI->?JM%?cI=0):=by unfold Lat.numAt;cases hj:j<k0;{let hi:?g6:=?g;let:=h i hi;rw[?E hj,?fs];show#[λz=>?g,λ_=>Int.emod_eq_zero_of_dvd (ch i j hi hij hj)]};rw[?s hj];show#[?mS,λ_=>Int.zero_emod _]
def Qk.holes[?m]{k:Int}[?I][?nY][?V]:Ah0 xs k ?cr:=by ext v0;rw[qI];apply#[?cJ,?_];{let ?er:=?dF;let#[hz,h1]:=P4 hi;apply#[?nf,?nf,?_,?tf,WL ?jT,h1];{exact JT xs ?J ?g7;split;{show JT.nil _ _};show ?nf};exact ?g7=[];show ?aq};rw[qu8];show(?Ag).imp λhij=>Ac0 ?jT bl.ch hij
def Qk.rounds[?m]{k:Int}[?I][?nY][?a7][?V]:yM xs ?cr:=by ext v0;rw[qI];ext LC;(let bits:∀(P M:Lat.Mat),?NL z P->?NL ?S M->?No z ?S (?Qy z ?n8):=λP M h1 h2 i c hi hc=>Xl λj hj=>by ext L3);apply#[?cJ,λp hp q hq t ht=>?_,λa b p q e1 e2=>?_];{let ?er:=?dF;show SV hs (bl.lev.round i)};{let ?er:=?dF;let ?pH:=?b7 hq;let ?zj:=Rj ht;(let b2:?ii<?n8:=by rw[e];show bits _ _ ?xa bl.bL j c (P4 hj).1 hc);(let b1:(Am ?lI t.1).natAbs<?n8:=by unfold Am;cases eL:?bY ?lI t.1 with| none=>show ?eb| some v =>let#[_,d,hd,ed]:=Rj (Mx eL);exact v.natAbs<_;rw[show v=_ from ed];show bits _ _ ?oX bl.bG i d (P4 hi).1 hd);show Hq b1 b2 ?wL};rw[qa9]at e1 e2;let ?er:=?fx e1;let ?pH:=?fx e2;let hi':=(P4 (qa6 hi)).1;let hj':=(P4 (qa6 hj)).1;exact ?O5 ?lI (?QP k (?c8 z l.2 L j))=_;rw[UB,bl.lev.gauge bl.fin.dg.dl hi' hj'];let nd1:=?rX ?Ag;let#[la,ea]:=?aU hi;let#[lb,eb]:=?aU hj;(let:i=j↔a=b:=by constructor;{intro e;rcases ql3 a b with h | h | h;{let:=nd1 a b la lb h;ext d};{show h};let:=nd1 b a lb la h;ext d};intro e;subst e;show qb0 (hi.symm.trans hj));cases q:a=b;{rw[?hB,?E (this.mpr q)]};rw[?f3,?s λz=>q (this.mp z)]
universe Hb
namespace L2
open PySem PySem.Spec PyProof.Rows
universe L2
namespace Hb
open PySem L2
abbrev nL(ns:LLInt):D:=?a3 (?m8 λn=>?a3 (F4 n))
section
variable[?H]
universe e9
universe Hb
namespace Lat
open Hb
universe Lat
namespace Hb
open PySem L2
abbrev wB[?D]:?a0->Int| []=>0| f::fs=>φ f-wB φ fs
abbrev bl[?o](k:Int)(g f:?cg):Int:=?k (λq=>if ?fC=k then f ?bR*wB g ?i0 else 0) ?c7
private def xV[?m][?a7]{q:Nat}(hq:?uG){k:Int}(hk:?fC=?J):∀f∈?i0,f∈?ai:=λf hf=>by (let e:?OT q ?i0:=?He);let F:=hs q _ e;let ?JZ:=?CC;let f0:=F.low f hf;rw[qk9]at hp;split at hp;{rename_i hlt;apply Gr f0 ?g ?_;rw[qa1,hp,Option.getD_some];rw[cJ hl,hk,qy9]};cases hp
section
variable[?m]{a c0 c1 c2 c3:Int}{low high:?a0}
universe e9
universe Hb
namespace L2
open PySem PySem.Spec PyProof.Rows
universe L2
namespace L2
open PySem PySem.Spec PyProof.Rows PySem.SeqAt
section
variable{X:Cx}
section
variable{o e:Expr}[?j7]{to:TE}{t:TA}{name:Str}{apos cpos:Pos}{id:String}{r:V->?C->?QD Hp VK}
universe e9
universe e9
universe L2
namespace L2
open PySem PySem.Spec PyProof.Rows
universe L2
namespace Hb
open PySem L2
section
variable[?H]
universe e9
universe Hb
namespace Lat
open Hb
section
variable[?LH][?dM]
def turn_sum(il:?nr)(c d:Nat):?Jb=?Le (?fM*L a d) z:=by (let e1:?Jb=?k (λi=>?Le (?k (λb=>?Ew) z) z) z:=?RZ (by exact ?Lv (?e5*G j c) z*?Lv (PB i j*L j d) z=_;rw[←E4];apply ?Lu ?_;rw[←Bc];show ?rI));rw[e1,Cm];apply Af ?q6;rw[Cm];(let e2:∀b,b<z->?Lx ?Ew z=(if b=a then 1 else 0)*?z3:=λb hb=>by rw[E4];congr 1;show il b a hb ha);rw[Af e2,?bg ha λb _ ne=>by rw[?mQ,qf0],?W,qd8]
def gauge_edge[?uw](ir:?oH){i c:Nat}(hi:i<z)(hc:c<w):?zS=numAt f k i*QB i c:=by (let e1:∀c',?fR=?Lv (?e5*?Jo) z:=λc'=>by (let:?fR=?Le (?k (λj=>?e5*(G j a*?pv)) z) m:=?Lu (by exact ?k (λj=>?e5*G j a) z*?pv=_;rw[←E4];show Af λj _=>?ie));rw[this,Cm];show ?My (by rw[Bc];rfl));(let e2:∀y,y<w->?tJ=?KK:=λy hy=>by rw[←dg.diag i y hi hy];unfold Sb;(let:?tJ=?k (λc'=>?Lv (?e5*(?Jo*?sS)) z) w:=Af λc' _=>by rw[e1,←E4];show ?My ?ie);rw[this,Cm];show ?My ?gy);(let e3:?zS=?ko:=by (let h1:?ko=?Af:=by (let:?ko=?k (λy=>?Mr ?Kc) w:=Af λy _=>by rw[←E4];show Af λc' _=>?ln);rw[this,Cm];show Af λc' _=>?gy);rw[h1];let h2:∀c',c'<w->?CO=?D9:=λc' hc'=>ir c c' hc hc';(let h3:?Af=?Mr ?D9:=Af λc' hc'=>by rw[h2 c' hc']);rw[h3,?bg hc λb _ ne=>by rw[?qU,qd7],?W,qm5]);(let e4:?ko=?k (λy=>?KK*?qe) w:=Af λy hy=>by rw[e2 y hy]);rw[e3,e4];let mn:=dg.mn;let mw:=dg.mw;cases hw:i<w;{rw[?bg hw λb _ ne=>by ext v2,?W];unfold numAt;cases hk:i<k;{rw[?E hk]};rw[?s hk,dg.zero i ?g hi hw]};rw[?cy λy hy=>by rw[?aR,qf0]];unfold numAt;rw[?aR,qf0]
universe e9
universe Lat
namespace Hb
open PySem L2
private def Nn(n:Int):∀(ms:Ms) (k:Int),?OX ?hZ=n*?aE:=λms k=>by unfold Dm;split;{rename_i h;rw[h,qf0];rfl};induction ms with| nil=>rw[qr6,Ev,qd7]| cons p ms ih =>rw[qc8,Dk,Dk,ih];exact ?PT ?ci ?iS;split<;>rfl
def Uz[?m][?j3]{j:Nat}(hj:j<?S):Am ?eW ?f2=u j:=by
 ext L0
 let hb:=?Es;ext Km
 ext L8
def F7[?m][?j3]{p:Int}(h:p ∉ ?ai):Am ?eW p=0:=by apply Dq λhm=>h ?_;let ?x8:=?gw;show(Zd hr).1
def bC[?D]:∀(ns ms:Ms),?bB->?QC ?cZ ?z5| [],ms,_=>?PO ?ab ?ab| ?nJ,ms,h=>by exact ?Q6 ?kh;rw[bC φ ns _ (oG h ?p p.2),VH φ h,Df,qo5]
private def Zu[?D](n:Int)(ms:Ms):?Lg ?hZ=n*?ab:=by unfold Dm;split;{rename_i h;rw[h,qf0];rfl};induction ms with| nil=>rw[qr6,Zv,qd7]| cons p ms ih =>rw[qc8,Df,Df,ih];exact ?iS*?i5+_=_;grind
abbrev uV[?D](q:Int)[?aX]:Int:=if ?em then ?Me ?bV*?Lg ?bU else 0
abbrev lfL[?D](q:Int)[?af]:Int:=(?bi (uV φ q)).sum
def uB{n:Nat}[?aN][?LG](hg:?pj)[?j6][?D] : ?Pa ?DR ((if g.1=q then g.2 else 0)*?I0):=by unfold lift1;rw[qa1,qr2];cases e:g.1=q;{rw[?E ?CW,?E (by rw[h.1];ext d),?aq];exact ?Q6 (C4 _ _);let h1:=h.at ?cV;rw[bC φ _ _ h1.n,Zu,e]};rw[?aR,?bG,qf0,qf3,←qa1]
def gM{n:Nat}{fl:Ms}(hf:Gm fl)[?j6][?D]:?Rd (?mf->(∀g∈gs,?pj) → ?Pa ?Cm (?Me gs*?I0))| [],lf,_,_,_=>by rw[List.foldl_nil,Ev,qf0,qf3]| ?iE,lf,h,hn,hk=>by let hn2:?mf:=(?P0 hn).2;let hg:g.1 ∉ gs.map (·.1):=(?P0 hn).1;rw[qs7,gM hf hq φ gs ?vJ hn2 ?oN,uB h hf g (hk g ?bF) hq,Dk];cases e:g.1=q;{let e2:?Me gs=0:=Dq (e▸hg);rw[?aq,?aq,e2];grind};rw[?bG,?bG];grind
def UA{n:Nat}[?aN][?dN](h:?d2)(hp:?mj)(hn:?ot)[?j6][?D] : ?Pa ?rZ ?En:=by unfold Tj uV;split;{show gM hp.fl hq φ _ h hn hp.gk};rw[qf3]
def GL{n:Nat}[?j6][?D]:∀[?af] [?aN],?d2->?BO → ?Pa ?tm ?x1| [],lf,_,_=>by exact _=_+0;rw[qf3];rfl| ?cF,lf,h,hp=>by let h1:=?GF;exact ?Q6 ((?zx).getD ?b9 []);rw[GL hq φ ps (h.part ?ez) λx hx=>hp x ?tc,UA h ?ez h1.2 hq];exact _=_+(?En+?x1);rw[qo5]
def uA{n:Nat}[?eA](hok:?xZ)[?j6][?D] : ?Qt Cb ls ?HT:=by (let:∀[?bz] [?aA],?d2->?xZ->?Pa ?tS ?HT:=λls=>by induction ls with| nil=>intro lf _ _;exact _=_+0;rw[qf3];rfl| cons ps ls ih =>intro lf h hk;let h1:=?DS;rw[qs7,?PM (λp hp=>(h1 p hp).1),GL hq φ ps h h1,qc8,qj1,qo5]);unfold Cb;rw[?ah ls _ (?wG n) hok];(let e:?Qt ?uD ?jw 0:=by rw[qa1,qv3];split<;>rfl);rw[e,ql2]
def vG[?D][?ar][?cu]:∀j,?QC ?dT (n*?Lx ?JF j)| 0=>by exact ?yb;rw[qd7,qf3]| ?T=>by exact ?Q6 ?rb;rw[VG φ ?BY,vG φ h fs n j];exact _=_+n*(?k _ j+?DD);(let e:AQ n j=n*?da:=by unfold AQ sg;let:?h3=0\/?h3=1:=?g;ext uh);rw[e,?LV (?rf+n*?da-?rf=n*?da),qt1,qe2];ext d
def pR[?D][?o](p:Int):?Lg ?BB=?EX:=by rw[iB];exact ?Q6 (EE [] ?et 1 ?gC);rw[vG φ (show nd ?jw from qu3),Zv,ql2,qd8];rfl
def U0[?jA]{j:Nat}(hj:?y5):l.getD j 0∈l:=?zV
def Ri[?m]{φ ψ:?cg}{p:Int}(h:∀f∈?et,φ f=ψ f):?EX=?Mn ψ p:=by unfold face;apply ?jZ;rw[h _ ?vq]
def gQ[?m](φ:?IE)(u:?U)(p:Int)(m:Nat):?a2 xs (λy=>?Le (u a*φ a y) m) p=?Le (u a*?a2 xs (φ a) p) m:=by unfold face;(let:∀n,?FT=?Le (u a*?k (λj=>?Dj) n) m:=λn=>by (let e:?FT=?k (λj=>?Le (u a*?Dj) m) n:=?My ?GT);rw[e,Cm];show ?Lu ?gy);show ?ah _
def OF[?jA](h:l.Nodup){i j:Nat}(hi:?nv)(hj:?y5)(e:l[i]=l[j]):i=j:=by let h1:=?rX h;rcases ql3 i j with q | q | q;{show ?aO e (h1 i j hi hj q)};{show q};show ?aO ?en (h1 j i hj hi q)
def Lc[?m][?j3](y:Int):?OL ?eW=?Le (u a*T3 ?eg y) ?S:=by cases h:y∈?ai;{let ?nE:=qh0 h;(let e1:?f2=y:=?Fh);rw[←e1,Uz hj,?Hd (j:=j) hj λa ha ne=>?_];{unfold T3;rw[?W,qm5]};unfold T3;rw[?s λz=>ne ?_,qd7];let h1:=?h1;rw[qa1,qa1,?tk,?df]at z;show OF h1 ha hj ?eX};rw[F7 h];symm;apply ?f9 ?q6;unfold T3;rw[?s λz=>h ?_,qd7];rw[z,qa1,?tk];show qf2 ha
def lZ[?m][?j3]{c:Nat}:?Mn ?Gp (?ty c 0)=?Le (u a*Pm xs k a c) ?iD:=by let e:?Gp=λy=>?Le (u a*T3 (?ny a 0) y) ?iD:=funext λy=>Lc y;rw[e,gQ];show ?Lu (by rw[RC];rfl)
def sumN_cut[?eF](a:Nat):∀b,?AY=?uX+?Lx (f (a+i)) b| 0=>?PO ?uX ?uX| b+1=>by exact ?AY+f ?ma=_+(_+f ?ma);rw[?Ek f a b,qo5]
abbrev blw:Nat->?U->Int| 0,_=>0| ?T,f=>f j
def SO[?m]{n:Nat}[?fD](t:?zU) : ∀{k:Nat},k<n->∀{c d:Nat},c<?cS->d<?cS → ?Q9 (?Ix+?vk) c d:=λ{k} hk {c d} hc hd=>by let b:=?iA;rw[Lat.turn_sum (P:=?qy) (PB:=?q1) ?vh];cases k with| zero =>let ?t4:=t.z0;exact _+0=_;rw[e1,e2,e3,qf3];let:=(Lat.Lev.first ?kS (Pm xs 0)).du c d hc hd;rw[←this];show ?Lu (by unfold Lat.one;congr 1<;>(split<;>split<;>ext d))| succ j =>let ?t4:=?xp;let bj:=(?s1).1;let ir:=?HA c d hc hd;let kw:=bj.kw;exact _+?Fp=_;rw[←ir];exact _=?k ?Fw ?ky;rw[e1,e2,e3,?LV (?ky=?bT+?xn),sumN_cut,Nat.add_sub_cancel_left,qx3]
def Mw(φ:?U):∀z,(?ym φ).sum=?yC| 0=>rfl| z+1=>by rw[qi6,qb2,qx0,Mw φ z];exact _+(φ z+0)=?yC+φ z;rw[qf3]
def iV(φ:BPart->Int):∀ps:?bI,(?R8 ?cr φ).sum+(?bi λb=>if b.1=1 then φ b else 0).sum=(?bi φ).sum| []=>rfl| ?cF=>by let ih:=iV φ ps;unfold Lr at ih ⊢;rw[qn3,qc8,qc8,qj1,qj1];cases h:?em;{rw[?s ?lr,?b2];ext d};rw[?E ?lr,?al,qc8,qj1];ext d
def bH[?cQ](F:?lt):∀(l:?iY) (k:Nat) (a:α),l[k]?=?i a->(∀j b,?NW l b->j≠k->F b=0)->?i8=F a| [],k,a,e,_=>?CN| x::l,0,a,e,h=>by let e:x=a:=qb0 e;subst e;rw[qc8,qj1];(let:?i8=0:=by (let:∀(l:?iY),(∀b∈l,F b=0)->?i8=0:=λl=>by induction l with| nil=>intro _;rfl| cons y l ih=>intro hl;rw[qc8,qj1,hl y ?bF,ih λb hb=>hl b (qb3 _ hb)];rfl);apply ?ah l ?CP;let ?r4:=qf9 hb;show ?ES);rw[this,qf3]| x::l,?J,a,e,h=>by rw[qc8,qj1,h 0 x ?h ?g,bH F l k a e λj b hj ne=>?ES,ql2]
def Id[?cQ]{F G:?lt}:∀{l:?iY},(∀b∈l,F b=G b)->?i8=(l.map G).sum:=λ{l} h=>by rw[qp7 h]
def MK[?m][?a7]{k:Int}{v:?U}(e:Int):?Fd=Am (?QP ?bW (?tp ?S ?kb v)) e:=by ext ul;cases he:e∈?iU;{let ?FE:=qh0 he;(let e1:?w1:=by rw[qa1,qa0 hx,ex];rfl);rw[←e1,Uz (k:=?bW) hx,e1];exact ?ve=_;rw[mK hl];unfold Lat.mulV;apply ?jZ;unfold Pm;rw[e1,?si]};rw[F7 he];ext Kd
def Vr[?m]{k:Int}{u v:?U}(h:∀a,a<?S->u a=v a)(e:Int):Am ?eW e=Am ?cY e:=by rw[Lc,Lc];show ?OM h
abbrev uU(p q:Int)(b:BPart):Int:=Am ?mx p*?K6
def OU[?m][?a7]{k:Int}[?v8][?j0][?LK](h1:?cI=1)(q:Int) : ?An=?Br:=by ext Ko;(let hf:?bp=1:=by unfold Lat.numAt at h1;rwa [?fs]at h1);exact ?Gv=?Dr;rw[?aR,←Ld,MK hs,?kX];apply Vr ?q6 q;rw[?Gj,hf,qd8]
abbrev uZ(e:Ms)(q:Int)(b:BPart):Int:=if 0<b.1 then wF ?Bt e / b.1*?B1 else 0
section
variable[?m][?fD]
def Rm.lev(t:?HZ){j:Nat}[?I](e:?QW j):j<4/\ps=?gv/\?BA:=by ext Ks;show#[hj,?h,?gl,_,_,_,h1,?h]
def Rm.ok[?bM]:∀ps∈ls,∀p∈ps,?yx/\?ot:=λps hps p hp=>by let ?r4:=qf9 hps;let#[_,e,lv]:=t.lev hj;apply#[lv.ok Ce p hp,?_];rw[e]at hp;let ?Bw:=?dF;show ?ns
def aU[?bM][?gZ][?D] : ?Lg ?dX=?Lx (uV φ p ?dt) ?aL:=by let h3:=?hx;rw[uA (t.ok Ce) h3.1,bH (lfL φ p) ls k _ (?q7).2 λj b hj ne=>?_];{unfold lfL Cf;rw[qk2,←Mw];rfl};let#[hj4,?h,_]:=t.lev hj;unfold lfL;rw[Id (G:=?dy) ?CP];{(let:∀(l:?bI),(l.map λ_=>?bQ).sum=0:=λl=>by induction l with| nil=>rfl| cons a l ih=>rw[qc8,qj1,ih];rfl);show ?ah _};let ?Bw:=?b7 hb;unfold uV;let:Am ?Gu p=0:=F7 λz=>ne (by let:=(Bt z).2.2;rw[h3.2.2]at this;ext d);rw[this,qf0];split<;>rfl
def Ti[?bM](p:Int):Gm ?dX:=by (let:∀[?bz] [?aA],Ii ?c7 lf->?Fr->Ii ?c7 ?tS:=λls=>by induction ls with| nil=>intro lf h _;show h| cons ps ls ih=>intro lf h hk;show ?PM ?DS);show(?ah ls _ (?wG _) λps hps p hp=>(t.ok Ce ps hps p hp).1).at _
def iO[?a7][?bM][?gZ](q:Int) : ?QE xs = ?lV:=by rw[Ld,?sF];let h1:=iV ?l5 ?kZ;(let h2:(?Fi ?l5).sum=?lV:=by unfold Cf;rw[qk2,←Mw];rfl);(let h3:(?Nu ?Fi uU p).sum=?Lx (uV ?AP p ?dt) ?aL:=by unfold Cf;rw[qk2,Mw];apply ?oI;exact(if (Cw _ _ _ _ _ _ _ _ _ i).1=1 then _ else _)=uV _ _ _;unfold uV uU;cases h:(?dt).1=1;{rw[?b2,?b2,OU hs ?iA h]};rw[?al,?al]);rw[←h2,←h1,h3,qx3]
def U3[?a7]{k p:Int}(hp:?kH):∀f∈?et,f∈?iU:=λf hf=>by
 let ?GW:=?hx;ext Ky
 ext L6
 rw[ey]at hf h2;let ft:=?KH;let#[g,eg,lg]:=?Jr;let hl:=?In;let hlt:=?CJ;rw[qd1]at hlt;let e2:?q5=?i g:=by rw[qk9]at eg;split at eg<;>first | show eg | cases eg
 apply Gr hl ?g ?_;rw[qa1,e2];exact Cc g.length=?bW;rw[←h2];show cJ lg
def BX[?a7][?bM]{j:Nat}(hk:?T<4){c:Nat}(hc:c<?ky)(q:Int) : ?r7+(?qm ?pz).sum = ?xM:=by let hp:?iB∈?xc:=U0 hc;let bj:=(?s1).1;(let hw:∀i,i<?cl->?w7=?ew*?hd:=λi hi=>by let h1:=lZ (xs:=xs) (k:=?d3) (u:=?c8 ?cl (?mW).1 ?jq i) (c:=c);rw[?KY]at h1;show ?zv (?K2 bj.fin.dg ?HA hi hc));let pos:∀i,?fi->0<fs j i:=bj.fin.dg.pos;let num:∀i,?ew=if ?fi then fs j i else 0:=λi=>rfl;let kz:=bj.kz;(let h1:?r7 = ?Lx ((if ?iL then Am (?jj).2.2.2 q else 0)*?w7) ?cl:=by rw[←gQ (λi=>?II)];apply Ri λf hf=>?_;let hl:=U3 hs hp f hf;rw[?KY]at hl;let hlo:=?D8;rw[←G6 q hlo.n,aU t Ce ?g hl];apply ?oI;unfold uV;exact ?PT ?iL _;cases h:?iL;{rw[?b2,?b2,G6 q,qf7];exact nd ?IS;rw[?aR];show ?ns};rw[?al,?al,qf0]);let h2:=iV ?pz ?gv;(let fl:∀i,i<?cl->uZ ?u2 q ?jj=?zw:=λi hi=>by unfold uZ;rw[pR,hw i hi];exact(if 0<?ew then ?ew*?hd / ?ew*?wq else 0)=_;rw[num];cases h:?fi;{let:=pos i h;rw[?b2,?E ?ah,?b2,?aR,qj7 _ ?g]};rw[?al,?al,?aR]);(let h3:(?HX ?pz).sum=?Lx ?zw ?cl:=by unfold Cf;rw[qk2,Mw];show Af fl);(let h4:(?Nu ?HX uZ ?u2).sum=?r7:=by rw[h1];unfold Cf;rw[qk2,Mw];apply Af ?ih;exact(if ?iL then uZ _ q ?jj else 0)=_;cases h:?iL;{(let hik:?fi:=by cases q:?fi;{show q};rw[num,?f3]at h;ext d);rw[?b2,?b2,fl i hi,?E hik,hw i hi,h,qd8,qf7];exact ?jp*_=?wq*_;rw[?aR]};rw[?al,?al,qf0]);rw[qx3,←h4,h2,h3,?LV (?cl=?bT+?Cr),sumN_cut];let h5:?Lx (if ?m6<?bT then ?uY ?m6 c*Am (?QP ?d3 ?Ed) q else 0) ?Cr=0:=?f9 λi _=>?aR;rw[h5,qf3];show Af λi hi=>?fs
def kW[?a7][?bM][?gZ](q:Int) : ?QE xs + ?vv+?KP=if q=p then 1 else 0:=by rw[iO hs t Ce hk hp];let#[c,hc,ec]:=qh0 hp;(let e1:?H0 c 0=p:=by rw[qa1,qa0 hc,ec];rfl);(let hf:?vv+?KP = ?tL:=by cases k with| zero =>exact _+0=0;rw[qf3];let hl:=(?hx).2.2;(let:?gC=0:=by let h0:=?hx;ext Ky;(ext L6);rw[ey]at hl ⊢;let hc:=(?KH).cnt;unfold Cc at hl;split at hl<;>ext d);unfold face;rw[this];rfl| succ j =>let:=BX hs t Ce hk (c:=c) hc q;let e2:?iB=p:=e1;rw[e2]at this;show this);rw[qo5,hf];cases hq:q∈?cC;{let#[d,hd,ed]:=qh0 hq;(let e3:?H0 d 0=q:=by rw[qa1,qa0 hd,ed];rfl);(let h1:?lV=?Ix:=?RZ (by exact Am (?QP ?w ?J1) p*?JU=_;rw[←e1,←e3,Uz hc,Uz hd]));(let h2:?tL=?vk:=by cases k with| zero=>rfl| succ j =>apply ?oI;let e4:?I8 d 0=q:=e3;rw[←e4,Uz (k:=?d3) hd]);rw[h1,h2,SO t hk hc hd];cases z:c=d;{subst z;rw[?W,?E (e3.symm.trans e1)]};rw[?au,?s λy=>z (OF ?h1 hc hd (by rw[ec,ed,y]))]};(let h1:?lV=0:=?f9 λi _=>by exact _*?JU=0;rw[?ll,qd7]);(let h2:?tL=0:=by cases k with| zero=>rfl| succ j =>apply ?f9 ?qJ;let:?jp=0:=?ll;rw[this,qd7]);rw[h1,h2,?s λ(y:q=p)=>hq (by rw[y];show hp)];rfl
universe e9
abbrev KI[?H](C:Addr):Sp:=?LZ (?RK (k<?fO) (?PY (?i (.dK (cK (?n0 k.toNat []))))))
abbrev FY(ms:Ms)(n:Int)(ns:Ms):?ir| 0=>ms| ?t=>?eP ?e8 ?uS ?wS
def QI[?ar](n:Int)(ns:Ms):∀i,nd ?e8| 0=>h| ?t=>IX (QI h n ns i) _ _
def oN(ms:Ms)(n:Int)(ns:Ms):∀i,?Ls ?e8 ?FY| 0=>?Z| ?t=>by let h1:=oN ms n ns i;let h2:=jC ?e8 ?uS ?wS;exact ?Ls ?rb _;ext d
def JI(ms:Ms)(n:Int){ns:Ms}(hn:?gu)(k:Int):∀i,?Ak->?Qo ?e8 n ?KA| 0,_=>by exact ?aE=?aE+n*?jo;rw[Ev,qd7,qf3]| ?t,hi=>by let ih:=JI ms n hn k i ?g;(let e:?l2=?eq:=?hh);exact ?OX (?eP ?e8 _ _)=_;(let hnt:nd ?ki:=by unfold nd at hn ⊢;rw[qo2];show hn.sublist ?w2);rw[e,Yz];cases z:k=?k7;{subst z;rw[?W,JI ms n hn ?k7 i ?g];let h1:Am ?qI ?k7=0:=Dq (by unfold nd at hnt;rw[qd6,?bE,qb2,qr1]at hnt;intro hm;show hnt.2.2 _ hm _ ?EY ?h);(let h2:Am ?ki ?k7=ns[i].2:=by unfold Am;rw[E8 hnt (p:=?eq) (qa6 (i:=i) (by rw[qk9,?fZ,?bE]))];rfl);rw[h1,h2,qd7,qf3]};rw[?au,ih];(let h3:?OX ?ki=?KA:=by rw[qd6,?bE];(let:∀(l:Ms),?OX (l++[?eq])=?OX l:=λl=>by induction l with| nil=>exact ?OX (?eq::[])=?jo;rw[Dk,?Or z]| cons a l ih=>rw[List.cons_append,Dk,Dk,ih]);show ?ah _);rw[h3]
abbrev sp_bPlus[?bO]:Sp:=?LZ (EC λ ?bn ?br ?rq=>eE (?Q4 ?dS ?eH) ?ep ?EJ ?bB ?gu (?Q5 400) (?QS 400) ((∀q∈ns,?ck n q.2)) (?QT ?hH))
def Lw{ms ns:Ms}(hm:?bB)(hn:?gu)(n k:Int):?OX ?hH=?aE+n*?OX ns:=by let:=JI ms n hn k ?h7 ?Z;rw[qd0]at this;rw[OR (QI hm n ns _),this]
def P1(n:Nat)[?bz]:(Cb n ls).length=n:=by (let h1:∀(fl gs:Ms) [?aA],?MS ?Cm lf.length:=λfl gs=>by induction gs with| nil=>intro lf;rfl| cons g gs ih=>intro lf;rw[qs7,ih];unfold lift1;rw[qf1]);(let h2:∀[?af] [?aA],?MS ?tm lf.length:=λps=>by induction ps with| nil=>intro lf;rfl| cons p ps ih =>intro lf;exact ?MS ?zx _;rw[ih];unfold Tj;split;{show h1 _ _ _};rfl);(let h3:∀[?bz] [?aA],?MS ?tS lf.length:=λls=>by induction ls with| nil=>intro lf;rfl| cons p ps ih=>intro lf;rw[qs7,ih,h2]);unfold Cb;rw[h3,qi1]
def xF{ms:Ms}{k v x:Int}(h:x∈(?cn).map (·.1)):x∈?ak (·.1)\/x=k:=by cases e:x=k;{show ?F e};apply ?r ?_;let ?kc:=?mB;unfold putI at hp;split at hp;{let ?sW:=?dF;apply ?il #[q,hq,?_];split<;>rfl};ext v5;{show qj5 h};show ?aO (by rw[?jX h]) e
def CN{ms:Ms}(h:?hQ){k v:Int}(h0:?kk)(h1:k<40):ZF ?cn:=?NR (by rcases xF (qj5 hp) with h2 | h2;{let ?Dh:=?b7 h2;rw[←e];show h q hq};rw[h2];show ?Aw)
def XI{ms:Ms}(h:?hQ)(n:Int){ns:Ms}(hn:ZF ns):∀i,?Ak->ZF ?e8| 0,_=>h| ?t,hi=>by (let e:?l2∈ns:=?Ft);show CN (XI h n hn i ?g) (hn _ e).1 (hn _ e).2
def yG[?ar](hk:?hQ):Gm ?dx:=by apply#[?_,?cJ,?NR (hk p ?to)];{unfold nd at h ⊢;show ?Gm ?J5};let:=(?fY hp).2;ext eC
def Gm.lp[?v4](n:Int):Gm ?hH:=yG (QI h1.n n ns _) (XI h1.k n h2.k _ ?Z)
def QT{ms:Ms}(h:?hQ)[?nc](hf:∀f∈fs,?Gz)(n:Int):∀j,j<=fs.length->ZF ?dT| 0,_=>h| ?T,hj=>CN (QT h hf n j ?g) (?yK).1 (?yK).2
def qT[?m](hx:∀i,∀f∈?mD,?Gz)(ms:Ms):∀i,ZF ?eu| 0=>?CI| ?t=>QT (qT hx ms i) (hx _) _ _ ?Z
def VN[?m][?a7][?V]:∀i,∀f∈?mD,?jF/\?pQ/\f<40:=λi f hf=>by rw[qa1]at hf;cases e:xs[i]? with| none=>rw[e]at hf;cases hf| some y =>rw[e]at hf;let ft:=hs i y e;let#[g,eg,_]:=?Jr;let hl:=?In;let:=?CJ;rw[qd1]at this;replace this:=qb6 ?ah (qp2 _ _);ext d
def Ba0[?m][?a7][?V](ms:Ms):Gm ?qG :=yG ?Dg (qT (λi f hf=>let h:=VN hs Ce i f hf;#[h.1,h.2.2]) ms _)
def MW[?o](ms:Ms)(q:Int):?R6 ?qG ?cj:=by rw[OR ?Dg,AZ];rfl
def jZ[?cQ](F:?lt)[?j4]{b:α}(h:?N3 l b):((l.take ?t).map F).sum=((l.take i).map F).sum+F b:=by rw[qd6,h,qb2,qx0];exact _+(F b+0)=_;rw[qf3]
section
variable[?m][?fD]
def xA[?bM][?gZ]:JT xs ?ac ?dX:=by let ok:=?s4;apply#[ok.len,?bf];(let e1:Am ?dX q.1=q.2:=?Mt ok.n hq);let hz:=ok.z q hq;(let hm:?Hn:=by cases h:?Hn;{show h};apply ?aO ?_ hz;rw[←e1,←G6 q.1 ok.n,?sF];apply ?f9 ?qJ;unfold uV;split;{(let:wF ?IY (?dt).2.2.2=0:=by exact wF ?IY ?qw=0;split;{rfl};rw[G6 q.1 ?ns];show F7 h);rw[this,qd7]};rfl);let:=Bt hm;show#[#[?gq,?ju],?rg,hz]
def xG:∀z,?oz->kB z<=8000:=?aD
universe e9
def ZZ[?m]{k:Int}{a j:Nat}(ha:a<?S)(hj:j<?S)(h:?eg=?f2):a=j:=by rw[qa1,qa1,?tk,?df]at h;show OF ?h1 ha hj h
def VW[?m]{k q:Int}(h:?ix):∃j,j<?S/\?f2=q:=by let ?nE:=qh0 h;show#[j,hj,?Fh]
def IA[?m]{k:Int}[?D]:∀{c:Ms},nd c->(∀p∈c,?kJ)->?ud=?Le (?QU c) ?S| [],_,_=>by rw[Zv];show(?f9 λa _=>by rw[Ev,qf0]).symm| ?gF,h,hk=>by let hn:?p ∉ c.map (·.1):=(?P0 h).1;let hc:nd c:=(?P0 h).2;let ?nE:=VW ?xU;(let e2:?Le (?QU ?gF) ?S=?Le ((if a=j then ?sz else 0)+?QU c) ?S:=Af λa ha=>by rw[Dk];cases z:a=j;{subst z;rw[ej,?W,?W,Dq hn,qf0,qf3]};rw[?au,?s λy=>z (ZZ ha hj (y.symm.trans ej.symm)),ql2]);rw[Df,IA φ hc ?Je,e2,C3,?Hd hj λa _ ne=>?mQ,?W]
structure ChL[?o](k:Int)(m:Ms):Prop where
 ok:Gm m
 lv:∀q,q ∉ ?ai->?ua=0
def Gm.val{m:Ms}(h:Gm m)[?na](hp:p∈m):Am m ?p=p.2:=?Mt h.n hp
def ChL.key[?m][?j1]:∀p∈m,?kJ:=?NR (by cases q:?kJ;{show q};show ?aO ((h.ok.val hp).symm.trans (h.lv _ q)) ?Hl)
def ChL.nil[?o](k:Int):?Li []:=#[Gm.nil,λq _=>Ev q]
def Uy[?v4](q:Int):?Me ?cZ=?Me ms+?Me ns:=(?Az).2.2.2 q
def ChL.plus[?m][?us]:?Li ?cZ:=#[h1.ok.plus h2.ok,?Nd (by rw[Uy h1.ok h2.ok,?zz,?Cj];rfl)]
def ChL.times[?m]{k:Int}{ms:Ms}(h:?B9)(n:Int):?Li ?hZ:=#[h.ok.times n,?Nd (by rw[Nn,?zA,qd7])]
def ChL.lp[?m][?us](n:Int):?Li ?hH:=#[h1.ok.lp h2.ok n,?Nd (by rw[?yf,?zz,?Cj,qd7];rfl)]
def ChL.ch[?m][?V][?nT]:?Li ?cY:=#[?p5,?Nd ?ll]
def ChL.wF[?m][?j1][?D]:Hb.wF φ m=?Le (?QU m) ?S:=IA φ ?mU ?mE
def M0[?m]{k:Int}{g c:Ms}(hg:?Li g)(hc:?oq):wI g c=?O5 g c:=by exact wF ?BG g=_;rw[hg.wF,hc.wF];show ?Lu ?jR
section
variable[?m]{k:Int}[?v8][?j0]
def LY{u:?U}(n q:Int):?Me (Ji xs k λa=>n*u a)=n*?yn:=by rw[Lc,Lc,←Bc];show ?Lu ?ie
def uE[?a7][?LK](h1:?cI≠0)(q:Int) : ?An=(?p8).1*?Br:=by ext Ko;let hf:?cI=?bp:=?fs;exact ?Gv=?cI*?Dr;rw[?s h1,←Ld,MK hs,?kX,hf,←LY];show Vr (λa ha=>?Gj) q
universe e9
def wF_sumN(A:?IE)(z:Nat):∀c:Ms,wF (λp=>?Lx (A i p) z) c=?Lx (wF (A i) c) z| []=>(?f9 λi _=>rfl).symm| ?gF=>by rw[Df,wF_sumN A z c,←Bc,←C3];show ?RZ ((Df ..).symm)
def pQ[?D](n:Int):∀c:Ms,wF (λp=>φ p*n) c=?ud*n| []=>(qf0 n).symm| ?gF=>by rw[Df,Df,pQ φ n c,qp8,qe2]
def eZ{φ ψ:?cg}{c:Ms}(h:∀p∈c,?i5=ψ ?p):?ud=wF ψ c:=by unfold wF;rw[qp7 λp hp=>by rw[h p hp]]
abbrev FZ[?aA](acc:Ms)(p:?b4):Ms:=C4 acc ?Cx
abbrev Nh[?aA](c:Ms):Ms:=?p2 ?ok []
def oM[?aN]{c:Ms}{i:Nat}[?na](h:c[i]?=?eT):Nh lf (c.take ?t)=C4 (Nh lf (c.take i)) ?Cx:=by unfold Nh;rw[qd6,h,ql5];rfl
def Yp[?m]{k:Int}[?aN]:∀{c acc:Ms},?Bo->?Cy->?Li ?zp| [],acc,_,h=>h| ?gF,acc,hl,h=>Yp (c:=c) ?wo (h.plus ?Ce)
def LS[?m]{k:Int}[?aN][?D]:∀{c acc:Ms},?Bo->?Cy->?Lg ?zp=?Lg acc+wF (λp=>?Lg (?Rb ?fw)) c| [],acc,_,h=>?xd| ?gF,acc,hl,h=>by exact ?Q6 (?p2 ?ok ?zr);let h1:=?Ce;rw[LS φ (c:=c) (acc:=?zr) ?wo (h.plus h1),Df];exact ?Lg (C4 acc _)+_=_;rw[bC φ _ _ ?mU,Zu,qo5]
abbrev Bd5(c:Ms)(acc:Ms)(b:BPart):Ms:=if b.1=0 then acc else C4 acc (Dm (?ze / b.1) ?ni)
abbrev restB(c:Ms)[?af](acc:Ms):Ms:=?mO (Bd5 c) acc
section
variable[?m][?fD]
def TN[?bM][?gZ]:?Mi ?dX:=by let ok:=?s4;apply#[ok,?bf];let lv:=xA t Ce hk hp;cases h:?FK=0;{show h};let ?DY:=?b7 (cX h);let:=lv.part u hu;show ?aO (Gr (by rw[←eu];show this.1.1) (by rw[←eu];show this.1.2) (by rw[←eu];show ?ju)) hq
universe e9
universe Hb
namespace L2
open PySem PySem.Spec PyProof.Rows PySem.SeqAt
universe L2
namespace Hb
open PySem L2
abbrev jR:Nat:=2*bookF+40
def Uj(n:Nat):?rR<?aw:=qk6 n
def Cg{i:Int}{m n:Nat}(h:i.natAbs<2 ^ m)(hn:m<=n):i.natAbs<?aw:=qb6 h (qe4 ?aD hn)
structure RV[?o](k:Int)(b:BPart):Prop where
 r:?Li (b.2.1)
 g:?Li ?mx
 f:?Na ?ni
 rb:∀q,?Mp ?K6 ?q3
 gb:∀q,?Lk ?mx ?q3
 fb:∀q,?Mp ?B1 ?ld
 nn:0<=b.1
 nb:b.1.natAbs<?fX
def Rg[?m][?j3]{n:Nat}(h:∀a,a<?S->(u a).natAbs<?aw)(q:Int):?Mp ?yn ?aw:=by cases hq:?ix;{let#[d,hd,?h]:=VW hq;rw[Uz hd];show h d hd};rw[?ll];show Uj n
section
variable[?m][?fD]
private def Us[?bM]{k:Nat}(hk:?b0){i:Nat}(hi:i<?aL):?Rf RV ?dt:=by let bl:=?iA;let pcl:∀j:Int,?OB j<=40:=λj=>?lC;let hz:?aL<=40:=qa4 bl.zm (pcl _);(let bits:∀(P M:Lat.Mat),?cM ?aL ?aL ?bA P->?cM ?aL ?cS ?bA M->∀c,c<?cS->?Qy ?aL ?q3:=λP M h1 h2 c hc=>by apply Cg (m:=?Hu+?aL) (Xl ?hO) (by unfold jR;ext d);ext L3);apply#[?pE,?pE,?_,Rg (bits _ _ ?xa bl.bL),Rg (bits _ _ ?oX bl.bG),?_,WL ?jT,?_];{exact ?Mi ?qw;split;{show ?fa _ _};show ?pE};{intro q;exact ?Lk ?qw _;split;{rw[Ev];show Uj _};rename_i h0;(let hik:?hA:=by cases h:?hA;{show h};show ?aO ?ro h0);show Rg (λa ha=>?yj i a ?yy ha) q};exact ?Mp ?gJ ?fX;cases h:?hA;{let h1:?gJ=fs k i:=?b2;let h2:=bl.fin.dg.le h;let h4:?zs<=?vs:=qe4 ?g (xG ?aL hz);let h5:?vs<?fX:=qh6 ?g ?g;let h6:=?jT i h;rw[h1];let:(fs k i).natAbs<=?zs:=?g;show qc1 (qa4 ?ah h4) h5};rw[?ro];show ?eb
def nV[?bM]{k:Nat}(hk:?b0)[?I](hp:?gH):∀b∈ps,?Rf RV b:=λb hb=>by ext L1;show Us t Ce hk ?ea
def tO[?bM][?gZ](q:Int):?Mp ?FK (2 ^ (?xg+40)):=by let bl:=?iA;let hz:?aL<=40:=?t3;rw[←G6 q (?s4).n,?sF];apply Cg (m:=?xg+?aL) (Xl ?ih) ?g;let pb:=?KZ;unfold uV;split;{rw[G6 q ?HS];show jS (pb.gb p) (pb.fb q)};show Uj _
private def oS[?a7][?bM]{k:Nat}(hk:?b0)[?I](hp:?gH){D c:Ms}(hD:?Mi D){N:Nat}(bD:?xT)(hc:?N2 c)(ec:∀q,?R6 c ?gU){b:BPart}(hb:b∈ps) : ∃X:Int,?ze=b.1*X/\X.natAbs<2 ^ (bookF+(N+40)):=by ext L1;let hi:=?ea;let bl:=?iA;let pb:=?KZ;let hw:?uC<=40:=?lC;(let e1:?C4=?yY:=by let e2:?C4=wF ?BG ?KJ:=(M0 pb.g hc).symm;let hcb:=?Mh ?ac hD.key;(let hbk:∀p∈?gU,?p∈?cC:=?MI ?ac);let hnb:nd ?gU:=?zY;rw[e2,←Ef,pb.g.wF,?KF];show ?Lu (by rw[ec,qf7]));(let e3:?yY=?gJ*?k (λd=>Am D ?Cq*(if ?hA then ?z2 else 0)) ?uC:=by rw[hD.wF,←Bc];apply Af λd hd=>?_;let h1:=lZ (xs:=xs) (k:=?ac) (u:=?J1) (c:=d);rw[?LV (?ac-1=k)]at h1;let h2:?Mn ?rS ?Cq=?gJ*?z2:=?zv (?K2 bl.fin.dg bl.fin.ir hi hd);rw[h2];cases h:?hA;{rw[?b2];grind};rw[?al,?ro];grind);apply#[_,e1.trans e3,Cg (m:=N+bookF+?uC) (Xl λd hd=>jS (bD _) ?_) ?g];split;{rename_i h;show bl.fin.br.2 i d (qb6 h bl.kw) hd};show Uj _
universe e9
def ChL.chain[?m]{k:Int}{c:Ms}(h:?oq):?Mv k c:=by unfold chainB;rw[qd4];intro p hp;let:=?pb;let hz:=?Hl;unfold K9;rw[qb7];apply#[?_,qe7 hz];exact ?Mf (?RE ?fn ?pZ) (?Px ?js=k);rw[qe7 ?gq,qe7 ?ju,qe7 ?rg];rfl
def BC[?m][?us](n:Int)[?D]:?QC ?hH (n*?z5):=by rw[(h1.lp h2 n).wF,h1.wF,h2.wF,←Bc,←C3];show ?Lu (by rw[?yf,qp8,qe2])
section
variable[?H]
abbrev kD[?bO]:Sp:=?LZ (ZL λ ?bn (O:Hp) ?R ?w ?lG ?e9 (c:Ms)=>zB ?e3 (O a=?mp) (Ec ?sg O wu lf) ?zT ?Ep (H b=?i (?Pu c)) ?oq ?k8 ?bD (∀p∈c,?Qk ?J ?hM/\∀t∈?hM,?ck p.2 t.2) (?QT (Nh lf c)))
universe e9
def ChL.put[?m][?j1][?V]{p v:Int}(hp:?kH)(hv:v≠0):?Li ?BK:=by let:=?hx;apply#[#[IX ?mU _ _,WK h.ok.z hv,CN h.ok.k ?gq ?g],?bf];rw[Yz,?s λ(z:q=p)=>hq (z▸hp)];show ?zA
def ChL.edge[?m][?a7][?V]{k:Int}{D:Ms}(h:?Na D):?Dp/\∀φ,Hb.wF φ ?yD=Hb.wF φ ?gU:=by let hcb:=?Mh ?J ?mE;(let hbk:∀p∈?gU,?kJ:=?MI ?J);let hc:?Dp:=#[Ba0 hs Ce D,?Nd (by rw[MW];show Dq λz=>by let ?DY:=?lU;show hq (eu▸hbk u hu))];let hnb:nd ?gU:=?zY;apply#[hc,?dc];rw[hc.wF,?KF];show ?Lu (by rw[MW])
section
variable[?H]
universe e9
universe Hb
namespace L2
open PySem PySem.Spec PyProof.Rows
universe L2
namespace Hb
open PySem L2
abbrev Fp[?eB](v:V)[?aX]:Prop:=∃t a b c,?nL/\?RY (?l9/\A a/\¬A b)
def Fp.same[?gd][?cP](h:?dA)[?be]:Fp A H' v p:=?NZ #[?fF,h5] (?Qz h5)
abbrev PartsA[?eB](us:?C)[?af]:Prop:=?BU/\?Oy ?sL ?dA
def PartsA.same[?gd][?cv][?I][?ge][?be]:?PS H' us:=(?M8 ((?hm).same s))
def PartsA.get[?bd][?cv][?I][?ge]{i:Nat}{v:V}(e:?sL):∃p,?f6/\?dA:=by let hi:=?Ih;let e2:=qa0 (l:=ps) (i:=i) ?AB;show#[_,e2,h.2 i v _ e e2]
abbrev Ix[?eB](lu:?C)[?bc]:Prop:=lu.length=hs.length/\?NO (lu[i]?=?dZ) ?nd
def Ix.same[?gd][?jC][?bN][?nW][?be]:Ix A H' lu hs:=(?M8 (by let ?nC:=?hm;show#[l,us,e,?dU,?mY]))
def ChL.bord[?m][?a7][?V]{k:Int}{c:Ms}(h:?Na c):?Li ?J7:=by (let key:∀q∈?J7,q.1∈?ai:=?Nd (by let ?wp:=?Eh;let#[p0,p1,p2]:=?pb;show xV hs (q:=?hS) ?g p2 q.1 hf));apply#[#[Gk xs c _,Tf xs c _,?bf],?Nd (Dq ?g3)];{let ?rk:=Bt (key q hq);show#[a,?g]};let#[t,ht,?h]:=?lU;show hq (key t ht)
def ChL.piece[?m][?V]{q:Nat}(hq:?uG):?Qk ?fC ?ev:=by
 apply(?ME ?bR ?bR ?bR);let:e=?bR:=?iF
 rw[this];show Gr ?g ?g (by rw[qc4])
abbrev J8:Nat:=60000000
structure zA[?o](k:Int)[?aX]:Prop where
 od:?lF
 o30:p.1.natAbs<?fX
 c1:?Li ?dh
 c2:?Li ?bV
 c3:?Na ?bU
 z:?sQ
 b3:∃j:Nat,?QN ?bU
 m1:∀t∈?dh,?ig
 m2:∀t∈?bV,?ig
 m3:∀t∈?bU,?ig
def cY{ms:Ms}{B:Nat}(h:∀t∈ms,?ii<2 ^ B)(k:Int):?Cd<2 ^ B:=by unfold Am lookI;cases e:ms.find? ?FD with| none=>show ?eb| some p=>show h p (List.mem_of_find?_eq_some e)
def vF{n:Nat}{ms:Ms}[?LQ]:∀{ns:Ms},?HR->?pL<=?BD| [],_=>by exact ?rR<=_;show ?aM| ?nJ,h=>by let ih:=vF hm (ns:=ns) λt ht=>h t (qb3 _ ht);exact(?jK+?kG).natAbs<=(ns.length+1)*?tl;(let h1:(?jK).natAbs<=?aw*2:=by rw[qb5];show qg1 (qe6 ?K8) (hm ?p));let h2:=qf6 ?jK ?kG;rw[qg5];generalize ?aw=B at ih h1 ⊢;ext d
def VF{n:Nat}{ms ns:Ms}[?LQ](h:?HR)(hl:?QS 40)(d:Int):?pL<?rO/\?Fy<?rO:=by
 let h1:=vF hm h;let h2:?BD<=40*?tl:=qc2 _ hl;let h0:0<?aw:=?eb;let h3:?rO=?aw*1024:=by rw[qe3]
 let h4:?Fy<=?pL:=?zf;rw[h3];generalize ?aw=B at h0 h1 h2 ⊢;ext d
def two_le{x:Int}(h:x.natAbs<=2):x.natAbs<2 ^ 2:=qc1 h ?aD
def Tz[?m][?a7](q:Int)(e:Int):?Qa Am ?eh e:=by rw[Zg];cases h:?Nj q.toNat;{apply qG (Pq hs _ ?_) e;rw[qa1,qa0 h];show qf2 h};rw[qa1,qg8 ?g];show ?aM
def FT(q:Int)(e:Int):?Qa Am ?gQ e:=by let:=cY (ms:=?gQ) (B:=1) (λt ht=>by rw[?jX ht];exact ?wC;decide) e;ext d
abbrev DZ(ns:?a0):Prop:=(∀n∈ns,0<=n)/\∀p∈ns.zip (ns.drop 1),?p∣p.2
abbrev dP:BPart:=(0,[],[],[])
abbrev Vm[?o](k:Int)[?af](i:Nat):Bool :=?u ((?Mu ?CQ).length=0)&&?jH (Bf xs (?dq).2.2.2) (Dm (?dq).1 ?CQ)&&(?va λj=>?u (wI ?z1 (?z8).2.1=?pl))&&(?s8).all λq=>?u ((?dq).1∣wI ?z1 ?eh)
abbrev Hz[?o](k:Int)[?af]:Bool:=?va (Vm xs k ps)
abbrev Rq(c:Ms)(t:Ms)[?af]:Ms:=?mO (λt p=>?Oq (wI ?bV c) ?dh) t
abbrev L7(e:Ms)(t:Ms)[?af]:Ms:=?mO (λt p=>if ?am then t else ?Oq (wI ?bV e / ?p) ?bU) t
abbrev L5[?bc](k:Int):?bI:=if 0<k then ?fW (?bW).toNat [] else []
abbrev vL[?o][?bc][?aA](q:Nat):Ms :=L7 ?qq (Rq ?ev (C4 ?rQ (Nh lf ?qq)) (?fW (?fC).toNat [])) (L5 hs ?fC)
abbrev S5[?o][?bc][?aA](q:Nat):Bool:=?jH (vL xs hs lf q) ?ev
structure YM[?o][?bc][?aA]:Prop where
 sh:?bS
 len:?bD
 n4:?Cu
 ok:∀(k:Nat) ps,?bP->?hD/\DZ (?bi (·.1))/\?EU
 ll:?k8
 lc:∀i,?kA->?Qk ?wF ?bX/\(∃j:Nat,?QN ?bX)/\∀t∈?bX,?ig
abbrev NV[?o][?bc][?aA]:Bool:=((?cX 4).all λk:Nat=>?Rf Hz ?jx)&&(?cX ?c7).all (?Rc S5)
section
variable[?H]
abbrev FI[?bO]:Sp:=?LZ (Ex λ ?br=>Ee (vs=[?dS]) (n=0\/1<n) ?m1)
abbrev kE:Sp:=?LZ (Ex6 λ ?cB ?iw ?dB ?R ?w ?p4=>Ds (?Q4 ?c3 v) ?aW ?dA ?wk ?iI)
abbrev KD:Sp:=?LZ (Hm λ ?cB ?CH=>Ds ?iN (?Q1 a ?lM) ?wx (DZ ns) ?iI)
abbrev fK:Sp:=λvs H Q _=>Ex7 λ ?oW ?dB ?R ?w ?it ?fg=>Zt (?Q4 ?c3 ?d8) ?aW ?k1 ?jN ?hD (∀p∈ps,?wk) (DZ (?bi (·.1))) ?iI
abbrev fJ:Sp:=?LZ (Ex7 λ ?oW ?dB ?R (k:Nat) ?it ?fg=>eE (?Q4 ?ha ?d8) ?aW (?bS/\?bD) ?b0 ?k1 ?jN ?hD ?EU (?PX (.bl ?Gt)))
abbrev FH:Sp:=?LZ (MT λ ?D4 ?dB ?R (q:Nat) ?Fx ?gD ?e9=>eE (vs=[?O,?v h,?d8,?l ?bR]) ?aW ?C0 ?kx ?og ?iv ?p3 ?uG (?PX (.bl ?Ej)))
abbrev kF:Sp:=?LZ (Ex9 λ ?D4 ?dB ?R ?Fx ?gD ?e9=>Zt (?Q4 (?v h) ?d8) ?aW ?C0 ?kx ?og ?iv ?p3 (?PX (.bl ?ww)))
abbrev FJ:Sp:=?LZ (EC λ ?oW ?R ?lG ?e9=>Zt (vs=[?O,?d8]) ?aW ?bD ?og ?iv ?k8 (∀(i:Nat),?kA->(?bX).length<=40/\?dQ xs ?wF ?bX=true) ?iI)
universe e9
def Mh[?cQ](F:?lt):∀[?j4]{x y:α},?sH->(?R8 ?u8 F).sum=?i8-F x+F y| a::l,0,x,y,h=>by cases h;rw[List.set_cons_zero,qc8,qc8,qj1,qj1];(ext d)| a::l,?t,x,y,h=>by let ih:=Mh F (l:=l) (i:=i) (x:=x) (y:=y) h;rw[List.set_cons_succ,qc8,qc8,qj1,qj1,ih];ext d
meta abbrev Qo[?aX]:Ms:=?dh
meta abbrev Ft[?aX]:Ms:=?bV
meta abbrev Yu[?aX]:Ms:=?bU
structure YZ[?o](k:Int)[?aX]:Prop where
 od:?lF
 r:?Ez
 g:?Li ?aY
 f:?Na ?c4
 z:?am->?c4=[]
abbrev Qe[?bc](k:Nat):?bI:=if k=0 then [] else ?fW ?bW []
abbrev Dr[?o](q:Int):Ms:=?eh
abbrev eF[?D](q:Int)[?aX]:Int:=?bo*?ht
abbrev EU[?D](e:Ms)[?aX]:Int:=if ?am then 0 else wF ?h0 e / ?p*?rl
abbrev uW[?D][?aA](q:Int):Int:=?eR
abbrev HW[?o][?bc][?aA](k:Nat)(q:Int)[?D]:Prop:=uW ?dE lf q+?Il+?ls+?nF=φ q
structure pJ[?o][?bc][?aA]:Prop where
 n4:?Cu
 ch:?MC (∀p∈ps,?Rf YZ p)
 ll:?k8
 lc:?QI ?lh
 a:?MC (∀p∈ps,∀φ,?Qw ?cK=0)
 b:?MC (∀p∈ps,∀φ,?Qw ?c4=?p*?ht)
 c:?MC (?Qb (wF ?h0 (Qo q)=?hL))
 d:?MC (∀p∈ps,∀m,?Qk ?ac m->?p∣wF (?a2 xs ?h0) m)
 e:∀(k:Nat),?b0->∀q∈?cC,∀y,HW xs hs lf k q ?bq
def L3[?cQ]{l:?iY}{i j:Nat}{x y z:α}(hx:?sH)(h:?NW ?u8 z):(j=i/\z=y)\/(j≠i/\?NW l z):=by cases e:j=i;{subst e;rw[qg2 ?FB]at h;show ?r #[?h,(qb0 h).symm]};rw[qf5 ?sn]at h;show ?F #[e,h]
def Ju[?cQ][?j4]{x y z:α}(hx:?sH)(h:z∈?u8):z=y\/z∈l:=by let ?r4:=qf9 h;rcases L3 hx hj with⟨_,e⟩|⟨_,e⟩;{show ?r e};show ?F ?nx
def DU[?bN][?L5]:Qe ?n5 k=if k=k0+1 then ps' else Qe hs k:=by unfold Qe;cases e0:k=0;{rw[?E e0,?E e0,?aR]};rw[?s e0,?s e0];cases e:k=k0+1;{rw[?aq,?LV (?bW=k0),qa1,qg2 (?aU h).1];rfl};rw[?bG,qa1,qf5 ?g,←qa1]
def jA[?bN][?L5]:?Lt ?n5 k=if k=k0 then ps' else ?jx:=by cases e:k=k0;{rw[?aq,e,qa1,qg2 (?aU h).1];rfl};rw[?bG,qa1,qf5 ?sn,←qa1]
def J5[?o][?D](q:Int):?Lg ?bw=?tq:=by unfold Dr;rw[Ef];exact 1*?tq+0=_;ext d
def MY(φ ψ:?cg)(n:Int):∀m:Ms,wF (λq=>φ q-ψ q*n) m=?eQ-wF ψ m*n| []=>by exact ?bQ=0-0*n;(ext d)| p::m=>by rw[Df,Df,Df,MY φ ψ n m,qp8,Int.mul_sub,qe2];ext d
def xW[?o](φ ψ:?cg)(n q:Int):?Mn (λy=>φ y-ψ y*n) q=?tq-?Mn ψ q*n:=by rw[←J5,←J5,←J5,MY]
def qE[?m]{k l q:Int}(h:?ix)(h':q∈?OA l):k=l:=by let ?Cz:=Bt h;let#[_,_,b]:=Bt h';ext d
def UE[?m][?fI][?j1][?D]:?R2 ?dE m=0:=by rw[←Ef,←Ef,HE hsh λp hp=>by let ?rk:=?pb;show ?di];rfl
def S4[?m][?V]{k q:Int}(hq:?ix):?Li ?gQ:=by
 let ?GW:=Bt hq;apply(?ME q q q);let:e=q:=?iF
 rw[this];show hq
section
variable[?m][?bN][?aN]{k0 E5:Nat}[?I][?dN]
private def pJ.signed(L:?km)[?V][?dL][?fE]{p':BPart}(ho:?pO)[?v9](hr:∀φ,?pw=-?ht)(hg:∀q,?Me ?lo=-?bo)(hf:∀φ,?BF=-?rl) : pJ xs ?i9 lf:=by let pm:=?i6;(let gF:∀m,?O5 ?lo m=-?Jq:=λm=>by rw[eZ (ψ:=λq=>?bo*?gR) (λq _=>by rw[hg];ext d),pQ];ext d);ext Kh;ext Ke;ext Kg;{rcases ?aP with⟨rfl,rfl⟩|⟨_,h⟩;{rcases ?cR with rfl | hq;{rw[hr,?qM];rfl};show ?ti};show ?uK};{rcases ?aP with⟨rfl,rfl⟩|⟨_,h⟩;{rcases ?cR with rfl | hq;{rw[hf,hr,?Am,ho,Int.mul_neg]};show ?o2};show ?tY};{rcases ?aP with⟨rfl,rfl⟩|⟨_,h⟩;{rcases ?HH with⟨e1,e2⟩|⟨ei,hi2⟩<;>rcases ?xw with⟨e3,e4⟩|⟨ej,hj2⟩;{rw[e2,e4,e1,e3,gF,hr,?HG,qn8]};{rw[e2,e1,gF,?AV,?OC ej];rfl};{rw[e4,e3,hr,?zK,?s ei];rfl};show ?KN};show ?oC};{rcases ?aP with⟨rfl,rfl⟩|⟨_,h⟩;{rcases ?cR with rfl | hq;{let:=?tK;rw[←Ef]at this ⊢;rw[gF,ho];show(Int.dvd_neg).mpr ?ah};show ?y6};show ?IQ};ext ug;(let e1:?Gs=?ls:=by rw[jA hk];split;{rename_i e;rw[?fl,e,?tE];(let:?pd=?oy:=by unfold eF;rw[hg,hr,qs9]);ext d};rfl);(let e2:?IP=?nF:=by rw[DU hk];split;{rename_i e;subst e;(ext ui);rw[?fl,eb];(let:?sh=?qK:=by unfold EU;rw[ho];cases z:?am;{rw[?bC,?bC]};rw[?au,?au,gF,hf];let hd:=?Gb;rw[←Ef]at hd;rw[?Ne ?bw ?eh,Int.neg_ediv_of_dvd hd,qs9]);ext d};rfl);rw[e1,e2];show old
private def pJ.joined(L:?km)[?dL][?LM][?fE](hp2:?te)(n:Int){p' eN:BPart}(z1:?am)(z2:p2.1=0)(o1:p'.1=0)(o2:eN.1=0) [?v9] (hc2:YZ xs ?fQ eN) (hr:∀φ,?pw=?ht+n*?Lg ?lS) (hg:?lo=?aY) (hr2:Qo eN=?lS) (hg2:∀q,?Me ?xz=?vK) : pJ xs ?lk lf:=by let pm:=?i6;let pm2:=?sb;(let oQ:?hj[ot]?=?sJ:=?H9);(let gF:∀m,?O5 ?xz m=?O5 ?ry m-?Jq*n:=λm=>by rw[eZ (ψ:=λq=>?vK) (λq _=>hg2 _),MY]);let row:?N6 ?lk ?n6:=?F0;(let Ac9:∀{q},q∈?n6->q=eN\/q=p'\/q∈ps:=λh=>by rcases Ju oQ h with e | h;{show ?r e};show ?F (Ju hp h));(let get3:∀{j q},?n6[j]?=?cs->(j=ot/\q=eN)\/(j=E5/\q=p')\/(j≠ot/\j≠E5/\?oD):=λh=>by rcases L3 oQ h with e|⟨e,h⟩;{show ?r e};rcases L3 hp h with e2|⟨e2,h⟩;{show ?F (?r e2)};show ?F (?F #[e,e2,h]));ext Ke;{rcases ?aP with⟨rfl,rfl⟩|⟨_,h⟩;{rcases ?mF with rfl | rfl | hq;{show hc2};{show hc};show ?DL};show ?yl};{rcases ?aP with⟨rfl,rfl⟩|⟨_,h⟩;{rcases ?mF with rfl | rfl | hq;{rw[hr2];show L.a _ _ hk p2 pm2 φ};{rw[hr,?qM,?Mj L.a p2 pm2,qd7];rfl};show ?ti};show ?uK};{rcases ?aP with⟨rfl,rfl⟩|⟨_,h⟩;{rcases ?mF with rfl | rfl | hq;{rw[hc2.z o2,o2,qf0];rfl};{rw[hc.z o1,o1,qf0];rfl};show ?o2};show ?tY};{rcases ?aP with⟨rfl,rfl⟩|⟨_,h⟩;{let c:=λ{i j p q}=>L.c _ _ hk i j p q;rcases get3 hi with⟨e1,e2⟩|⟨e1,e2⟩|⟨ei,ei2,hi2⟩<;>rcases get3 hj with⟨e3,e4⟩|⟨e3,e4⟩|⟨ej,ej2,hj2⟩;{rw[e2,e4,e1,e3,gF,hr2,?AJ,?k6,?W,?rJ];ext d};{rw[e2,e4,e1,e3,gF,hr,hr,c hp2 hp,?AJ,c hp hp,?k6,?W,?W,?rJ,?OC hne];ext d};{rw[e2,e1,gF,c hp2 hj2,?Gc,?OC ej,?OC ej2];ext d};{rw[e2,e4,e1,e3,hg,hr2,?k6]};{rw[e2,e4,e1,e3,hg,hr,c hp hp,?k6,?W,?rJ];ext d};{rw[e2,e1,hg,?Gc]};{rw[e4,e3,hr2,?H1]};{rw[e4,e3,hr,c hi2 hp,?H1,?s ei2,?s ei];ext d};show c hi2 hj2};show ?oC};{rcases ?aP with⟨rfl,rfl⟩|⟨_,h⟩;{rcases ?mF with rfl | rfl | hq;{let d1:=?tK;let d2:=L.d _ _ hk p2 pm2 m hm;rw[←Ef]at d1 d2 ⊢;rw[z1]at d1;rw[z2]at d2;rw[gF,?kF d1,?kF d2];rw[qf0];show Int.dvd_zero _};{rw[hg,o1,←z1];show ?tK};show ?y6};show ?IQ};ext ug;(let e1:(?R7 ?lk).sum=?ls:=by rw[jA hk];split;{rename_i e;rw[Mh _ oQ,?fl,e,?tE];(let:?pd+eF φ q eN=?oy+eF φ q p2:=by unfold eF;rw[hg,hr,hg2,hr2,qt1,Int.sub_mul,qe2];ext d);ext d};rfl);(let e2:((Qe ?lk k).map ?nu).sum=?nF:=by rw[DU hk];split;{rename_i e;subst e;(ext ui);rw[Mh _ oQ,?fl,eb];let q1:?qK=0:=?E z1;let q2:?OV p2=0:=?E z2;let q3:?sh=0:=?E o1;let q4:?OV eN=0:=?E o2;ext d};rfl);rw[e1,e2];show old
private def pJ.added[?nQ][?V][?dL][?fE]{p':BPart}{m:Ms}{e9:?c9}(ho:?pO)[?v9](hm:?jh)(h0:?vU) (hr:∀φ,?pw=?ht+?mo) (hg:?lo=?aY) (hf:∀φ,?BF=?rl+?p*?eQ) (UW:e9.length=lf.length) (hlc:?QI (e9.getD ?b9 [])) (hl:∀(k:Int),∀q∈?ai,∀φ,uW φ e9 q=uW φ lf q-?bo*?eQ):pJ xs ?i9 e9:=by let pm:=?i6;let xN:=?Mj ?dG p pm;ext Kh;let g0:∀(k:Int) q,?ix->k≠?fQ->?bo=0:=λk q hq hne=>xN.g.lv q λz=>hne (qE hq z);apply#[?A2,?yo,UW.trans L.ll,hlc,?jc,?jc,?By,λk qs h q hq c hcc=>?_,?oc];ext Kg;{rcases ?aP with⟨rfl,rfl⟩|⟨_,h⟩;{rcases ?cR with rfl | hq;{rw[hr,?qM,UE hsh hm];rfl};show ?ti};show ?uK};{rcases ?aP with⟨rfl,rfl⟩|⟨_,h⟩;{rcases ?cR with rfl | hq;{rw[hf,hr,?Am,ho,qt1]};show ?o2};show ?tY};{rcases ?aP with⟨rfl,rfl⟩|⟨_,h⟩;{rcases ?HH with⟨e1,e2⟩|⟨ei,hi2⟩<;>rcases ?xw with⟨e3,e4⟩|⟨ej,hj2⟩;{rw[e2,e4,e1,e3,hg,hr,h0 _ pm,?HG,qf3]};{rw[e2,e1,hg,?AV]};{rw[e4,e3,hr,h0 _ (qa6 hi2),?zK,qf3]};show ?KN};show ?oC};{rcases ?aP with⟨rfl,rfl⟩|⟨_,h⟩;{rcases ?cR with rfl | hq;{rw[hg,ho];show ?NU p c hcc};show ?Nm hk c hcc};show ?Nm h c hcc};ext ug;let l1:=hl ?w q hq ?dE;(let l2:?P8 φ e9=?Il-?pW:=by rw[J5,J5,J5,←xW];show Ri λf hf=>hl _ f ?y2 φ);(let e1:?Gs=?ls+?bo*?mo:=by rw[jA hk];split;{rename_i e;rw[?fl,e,?tE];(let:?pd=?oy+?bo*?mo:=by unfold eF;rw[hg,hr,qt1]);ext d};rename_i e;rw[g0 ?w q hq ?g,qf0,qf3]);(let e2:?IP=?nF+?pW:=by rw[DU hk];split;{rename_i e;subst e;(ext ui);rw[?fl,eb];let hd:=?Gb;rw[←Ef]at hd;let hd:?p∣ ?rY:=hd;(let:?sh=?qK+?pW:=by unfold EU;rw[ho];cases z:?am;{rw[z]at hd;rw[?bC,?bC,?kF hd,qf0];rfl};rw[?au,?au,hg,hf,qt1,←qe2,qt2 hd]);ext d};rename_i e;(let:?rY=0:=by rw[J5,Ri (ψ:=?dy) λf hf=>g0 _ f ?y2 ?g,←J5];show iA ?ao);rw[this,qf0,qf3]);rw[e1,e2,l1,l2];ext d
universe e9
def cI[?m]{k:Nat}[?a7]{q:Int}(h:q∈?cC):?b0:=by
 let ?qE:=Bt h;let e:?OT q.toNat (?QY ?b9):=?hh
 let c:=(hs ?b9 _ e).cnt;rw[CI]at q2;rw[←Int.ofNat.inj q2];rcases c with c | c | c | c<;>rw[c]<;>decide
def HD[?m]{m:Ms}(h:?Qp ?hw):?hw=[]:=by cases eb:?hw with| nil=>rfl| cons q r =>(let hq:q∈?hw:=by rw[eb];show qb4);let e:=h q.1;let hq':q∈?y1:=hq;(let hv:Am ?hw q.1=q.2:=by exact(?bY ?y1 q.1).getD 0=q.2;rw[E8 (Gk xs m ?jn) hq'];rfl);rw[hv]at e;show ?aO e (Tf xs m ?jn q hq)
def yK(D:Ms):∃N,?xT:=by (let:∃N,∀t∈D,?ii<2 ^ N:=by induction D with| nil=>show#[0,λt ht=>by cases ht]| cons p D ih =>let ?oJ:=ih;apply#[N+?pA,?Aq];rcases ?kI ht with e | h;{rw[e];show qb6 qp5 ?lx};show qb6 (hN t h) ?lx);let ?oJ:=this;show#[N,cY hN]
section
variable[?m][?fD]
def IV[?I][?dN](h:p∈?cr):p∈ps:=?rK
def WZ[?a7][?bM]:pJ xs ?es ?dn:=by (let row:?Mw (ps=?kZ/\?t8):=λk qs h=>by rw[qa9]at h;have ?zI:=?fx h;have#[h4,e,lv]:=t.lev h1;show ?i2);(let part:?Np ?b0 (?Rf RV p/\∃i,i<?aL/\p=?dt):=?OR (by have#[ps,h4,h1,?aB,lv]:=?aP;have ?er:=?b7 ?sv;let hi:=?ea;show#[h4,Us t Ce h4 hi,i,hi,?h]));(let two:?Np ?lF ?sQ:=?OR (by have ?i2:=?aP;let ho:=(lv.holes Ce).one p hp;show#[by let:=ho.nn;let:=ho.n1;ext d,ho.no]));apply#[by rw[qa5];show t.len,?Js,P1 _ _,λk q hq=>?_,?Hf,?Hf,λk qs h i j p q hi hj=>?_,λk qs h p hp m hm=>?_,?oc];{apply ?az;let#[h4,pb,_]:=?JL;let ?di:=?JV;apply ?ay;show#[a,pb.r,pb.g,pb.f,b]};{cases h4:?b0;{show TN t Ce h4 hq};show ?aO ?BC h4};{apply ?az;let ?i2:=?aP;apply ?ay;let hr:=(?Hx).rnd p hp;(let hb:?Mu ?cK=[]:=HD λe=>by let:=MW xs ?dh e;rw[hr,Ev]at this;show this.symm);rw[←Ef,hb];rfl};{apply ?az;let#[h4,pb,i,hi,e]:=?JL;let ?di:=?JV;apply ?ay;cases z:?am;{exact ?Qw ?bU=_;rw[b z,z,qf0];rfl};let hf:=uE hs (t.lv k h4).1 (i:=i) (by rw[e]at z;show z);rw[←e]at hf;let c1:?Qk ?w (?Mu ?c4):=?g9 hs Ce pb.f;rw[←Ef,c1.wF,←Zu,(pb.r.times ?p).wF];apply ?Lu ?_;rw[Ld,hf,Nn]};{apply ?az;let ?i2:=?aP;apply ?ay;show(?Hx).dual i j p q hi hj};{apply ?az;let ?i2:=?aP;let ?oJ:=yK m;let#[X,hX,_]:=oS hs t Ce h4 h1 hm hN (?g9 hs Ce hm) ?mS ?sv;apply ?ay;rw[←Ef];show#[X,hX]};let D:=kW hs t Ce h4 hq y;let pt:=λ{j:Nat} (hj:j<4)=>(?vd).2;(let Kl:∀j:Nat,j<4->?Fu j []=?kY:=λj hj=>by rw[qa1,qa9,pt hj];rfl);(let mem:∀j:Nat,j<4->∀p∈?kY,RV xs ?bK p/\?lF:=λj hj p hp=>by (let h:?NW ?es ?kY:=by rw[qa9,pt hj];rfl);show#[(part j _ h p hp).2.1,(two j _ h p hp).1]);(let e1:uW ?CU ?dn q=?Qe (?n0 ?b9 []) y:=by unfold uW;rw[←Ef];show ?EM);(let e2:?P8 ?bq ?dn=?Mn (λf=>Am ?wE y) q:=by rw[J5];show Ri λf _=>G6 y (?D8).n);(let e3:((?Fu k []).map (eF ?bq q)).sum=(?tV (uU q y)).sum:=by rw[?qH];show Id λp hp=>by unfold eF uU;rw[G6 y (mem k h4 p hp).1.r.ok.n]);(let e4:((Qe ?es k).map (EU ?bq ?bw)).sum=blw k λ ?dl=>?F6:=by cases k with| zero=>rfl| succ j =>unfold Qe;rw[?aR,qm2,?uO];exact _=?F6;show Id λp hp=>by let#[pb,ho]:=mem j ?g p hp;unfold EU uZ;rw[pR,J5,G6 y ?HS];cases z:?am;{rw[?bC,?aR]};rw[?au,?fZ]);unfold HW;rw[e1,e2,e3,e4];(let e5:?Q9 (T3 y q) y q:=by unfold T3;split<;>split<;>ext d);rw[e5,←D];ext d
universe e9
section
variable[?m][?bN][?aN]
def qA{k:Int}{a b:Ms}(ha:?Li a)(hb:?Li b)(h:∀q,?R6 a b):?jH a b=true:=sV ha.ok.n hb.ok.n ha.ok.z hb.ok.z h
def QZ[?cQ][?j4]{d:α}(h:?nv):?N3 l ?nm:=?O7 qa0 h
def tN[?nQ][?V]{k:Nat}[?I](hk:?bP):?Gt=true:=by unfold Hz;rw[qd4];intro i hi;let hi:=?ea;let ei:?qj=?i ?dq:=QZ hi;let pm:=qa6 ei;let hc:=?Mj ?dG _ pm;let c1:?Qk ?w (?Mu (Yu ?dq)):=?QV hc.f;unfold Vm;rw[qb7,qb7,qb7];apply#[?xE,?_];{(let:?D2=[]:=HD λe=>by show(G6 e (Gk xs ?tO (?tO).length)).symm.trans ((Ef ?jJ xs _).trans (L.a _ _ hk _ pm _)));show qe7 (by exact ?MS ?D2 0;rw[this];rfl)};{apply qA c1 (hc.r.times _) λy=>?_;rw[Nn,←G6 y c1.ok.n,←?vZ,Ef];show L.b _ _ hk _ pm _};{rw[qd4];intro j hj;let hj:=?rh;let ej:?NW ps ?z8:=QZ hj;apply ?tu;rw[M0 hc.g (?Mj ?dG _ (qa6 ej)).r];apply(L.c _ _ hk i j _ _ ei ej).trans ?_;cases e:i=j;{rw[?aq,?E ?en]};rw[?bG,?s ?sn]};rw[qd4];intro q hq;let c2:?N2 ?eh:=?QV ?jg;apply ?tu;rw[M0 hc.g c2,Ef];show ?NU _ _ ?jg
def fB{k:Int}{c:Ms}(y:Int):∀[?I]{t:Ms},(∀p∈ps,?Ez)->?Pz ?zn ?zn (?qA*?J2)| [],t,_,ht=>?EF| ?cF,t,h,ht=>by let h1:=?HD ?qA;let ?di:=fB y (ps:=ps) (t:=?Io) ?kM ?xA;apply#[a,?_];exact ?OL (Rq c ?Io ps)=_;rw[b,?Ff,Nn,qc8,qj1];ext d
def Zx{k:Int}{e:Ms}(y:Int):∀[?I]{t:Ms},(∀p∈ps,?Li ?c4)->?Pz ?t5 ?t5 (if ?am then 0 else ?tC*?I9)| [],t,_,ht=>?EF| ?cF,t,h,ht=>by rw[qc8,qj1];cases z:?am;{let ?di:=Zx y (e:=e) (ps:=ps) (t:=t) ?kM ht;(let e1:?Do=?t5:=by ext Kt;rw[?bC]);rw[e1,?bC];show#[a,by rw[b];ext d]};let h1:=?HD ?tC;let ?di:=Zx y (e:=e) (ps:=ps) (t:=?ox) ?kM ?xA;(let e1:?Do=L7 e ?ox ps:=by ext Kt;rw[?au]);rw[e1,?au];show#[a,by rw[b,?Ff,Nn];ext d]
def TM[?nQ][?V]{k:Nat}(h4:?b0){q:Nat}(hq:?bR∈?cC)(hlv:?fC=?w):?Ej=true:=by let hp:=?jg;let Kl:∀j,j<4->?NW hs ?C3:=λj hj=>QZ (by rw[L.n4];show hj);(let hE:∀p∈?dV,?N2 ?hM:=λp hpm=>by let#[q0,hq0,hf]:=Uv ?Z p hpm;rw[?jX hq0]at hf;let hl:=U3 hsh hq _ hf;cases k with| zero =>let#[a0,a1,a2]:=Bt hl;unfold Cc at a2;split at a2<;>(ext d)| succ j =>let:=L.lc j ?p (by rw[?LV (?rt=?ka-1)];show hl);ext L9);let b1:?N2 ?rQ:=?QV (by let:=L.lc k _ hq;rwa [qc4]at this);let l1:?N2 ?Bc:=Yp hE ?mA;unfold S5 vL;rw[hlv,qc4];let P:=λy=>fB (xs:=xs) (k:=?w) (c:=?ev) y (ps:=?jx) (?NR ((?Qr ?qH hp).r)) (b1.plus l1);let F:=λy=>Zx (xs:=xs) (k:=?w) (e:=?dV) y (ps:=?D6) (λp hp=>by cases k with| zero=>cases hp| succ j =>(let hp:p∈?C3:=by unfold L5 at hp;rwa [?fZ,?xq]at hp);let:=(?Qr ?uO hp).f;ext L9) (P y).1;rw[?Ne ?qq ?dV];apply qA (F 0).1 hp λy=>?_;rw[(F y).2,(P y).2,Uy b1.ok l1.ok];let E:=L.e k h4 _ hq y;unfold HW at E;(let e1:uW ?CU lf ?bR=?OL ?rQ:=by unfold uW;rw[←Ef,qc4];show G6 y b1.ok.n);(let e2:wF (uW ?bq lf) ?dV=?OL ?Bc:=by rw[←G6 y l1.ok.n];apply(((LS ?bq hE ?mA).trans ?_)).symm;exact 0+_=_;rw[ql2];rfl);(let e3:(?sB (eF ?bq ?bR)).sum=(?sB λp=>wI ?aY ?ev*?J2).sum:=Id λp hpm=>by let hc:=?Qr ?qH hpm;unfold eF;rw[M0 hc.g hp,?vZ];exact _=(1*Am ?aY ?bR+0)*_;rw[qd8,qf3]);(let e4:(?wb (EU ?bq ?dV)).sum=((?D6).map λp=>if ?am then 0 else wI ?aY ?dV / ?p*?I9).sum:=by cases k with| zero=>rfl| succ j =>let ce:?Qk ?bK ?dV:=?QV (by rw[?LV (?d3=?ka)];show hp);unfold Qe L5;rw[?aR,?fZ,qm2,?xq];show Id λp hpm=>by let hc:=?Qr ?uO hpm;unfold EU;rw[M0 hc.g ce,G6 y hc.f.ok.n]);rw[e1,e2,e3,e4]at E;(let e5:?BX=?OL ?ev:=by let:=G6 y hp.ok.n;rw[←this];exact _=1*?BX+0;ext d);rw[←e5,←E]
def Ad2[?nQ][?V]:?ww=true:=by unfold NV;rw[qb7,qd4,qd4];apply#[λk hk=>?_,?bf];{let hk:=?f5 hk;show tN L hsh Ce (QZ (by rw[L.n4];show hk))};let hq:=?f5 hq;let c:=(hsh q _ ?xJ).cnt;(let e:?i0=xs[q]:=?He);(obtain⟨k,h4,hk⟩:∃k:Nat,?b0/\?fC=?w:=by rw[e];rcases c with c | c | c | c<;>rw[c];{show#[0,?cw]};{show#[1,?cw]};{show#[2,?cw]};show#[3,?cw]);show TM L hsh Ce h4 ?rx hk
universe e9
def nd0:nd ?jw:=qu3
abbrev gB(j:Nat):Nat:=500000+10*j
abbrev nB(j:Nat):Nat:=2000000+2000000*j
structure HoB(j:Nat)[?aX]:Prop where
 o:p.1.natAbs<?fX
 r:∀q,?Lk ?cK ?tr
 g:∀q,?Mp ?bo (2 ^ ?d0)
 f:∀q,?Lk ?c4 ?tr
structure Xr[?o][?bc][?aA](j:Nat):Prop where
 L:?km
 b:?MC (∀p∈ps,HoB j p)
 lb:∀(i:Nat) q,?Lk ?bX ?tr
 nx:∀(k:Nat) ps,?bP->?hD/\DZ (?bi (·.1))
def HoB.up{j:Nat}[?dN](h:HoB j p):HoB ?T p:=by
 let e1:?Ea:=?hv
 ext uu
 show#[h.o,?MO (h.r q) e1,?MO (h.g q) e2,?MO (h.f q) e1]
section
variable[?m][?bN][?aN]{j k0 E5:Nat}[?I][?dN]
def Xr.up[?gf]:?NJ hs lf :=#[h.L,λk ps e p hp=>(?BN).up,λi q=>Cg ?mw ?hv,h.nx]
def dQ[?a7]{k:Nat}{m:Ms}(h:?N2 m):∃j:Nat,?QN m:=by cases h4:?b0;{show#[k,h4,h.chain]};(let:m=[]:=by cases m with| nil=>rfl| cons a m=>show ?aO (cI hs (?mE a qb4)) h4);rw[this];show#[0,?aD,(?fa xs ?DT).chain]
def Xr.pap[?gf](hj:j<=6)[?fI][?V]:?p3:=by (let n1:?f8<=J8:=by unfold nB J8;ext d);(let n2:?d0<=J8:=by unfold gB J8;ext d);(let up:∀{k:Int}{m:Ms}{n:Nat},?mI->(∀q,?hE<?aw)->n<=J8->∀t∈m,?ig:=λhc hb hn t ht=>by rw[←hc.ok.val ht];show Cg (hb _) hn);apply#[hsh,Ce,h.L.n4,λk ps e=>#[(?BZ).1,(?BZ).2,?cJ],h.L.ll,?ih];{let c:=?sr k ps e p hp;let b:=?BN;show#[c.od,b.o,c.r,c.g,c.f,c.z,dQ hsh (k:=?J) (by let:=c.f;rwa [?uM]at this),up c.r b.r n1,up c.g b.g n2,up c.f b.f n1]};(let e0:?mD=xs[i]:=?x4);let c:=(hsh i _ ?fr).cnt;obtain⟨k,hk⟩:?qf:=?s2;let hq:?py:=?rx;let lc:=?BV;rw[qc4]at lc;rw[hk];show#[lc,dQ hsh (k:=?J) (by rwa [?uM]at lc),up lc (h.lb i) n1]
def Yh{p':BPart}[?fE](ho:?pO):(?hj).map (·.1)=?bi (·.1):=by rw[qz9,ho];apply ?xP;cases e:E5=i;{subst e;rw[qg2 (by rw[qa5];show ?wV),qa9,hp];rfl};rw[?m7]
def Xr.row[?gf]{ps':?bI}{e9:?c9}[?dL](L:pJ xs ?n5 e9)(hb:∀q∈ps',HoB ?T q)(hlb:∀(i:Nat) q,?Lk (e9.getD i []) (2 ^ ?f0))(ho:ps'.map (·.1)=?bi (·.1)):?NJ ?n5 e9:=by apply#[L,λk qs e q hq=>?_,hlb,λk qs e=>?_];{rcases L3 hk e with⟨_,rfl⟩|⟨_,e⟩;{show hb q hq};show(h.b k qs e q hq).up};rcases L3 hk e with⟨_,rfl⟩|⟨_,e⟩;{let:=h.nx _ _ hk;apply#[?_,by rw[ho];show this.2];let e2:=congrArg List.length ho;rw[qa5,qa5]at e2;ext d};show h.nx k qs e
meta abbrev plN(a:Ms)(n:Int)(b:Ms):Ms:=Cn (FY a n b b.length)
abbrev WN[?aX]:BPart:=(?p,?Ig,?QR ?aY,?sK)
def AW[?j1](q:Int):?Me ?JD=-?ua:=by rw[Lw nd0 ?mU,Ev];ext d
def W8{x y:Int}{n:Nat}(h:y.natAbs<?aw)(e:x=-y):x.natAbs<?aw:=by rw[e,qb9];show h
def Xr.signed[?gf][?V][?dL][?fE]:?NJ (?Qx (?ip E5 ?qF)) lf:=by ext um;let n:=λ{k:Int}{m:Ms} (hm:?mI)=>(?fa xs k).lp hm ?gR;(let e1:?Ea:=?hv);ext LB;apply h.row hk (h.L.signed Ce hk hp ?h #[c.od,n c.r,n c.g,n c.f,?g3] ?dc (λq=>?Ja) ?dc) ?bf (λi q=>Cg ?mw e1) ?DB;{exact ?sK=[];rw[c.z z];rfl};{rw[?Ne (Qo ?qF) ?Ig,BC ?mA c.r];exact ?bQ+_=_;ext d};{rw[?Ne (Yu ?qF) ?sK,BC ?mA c.f];exact ?bQ+_=_;ext d};rcases ?cR with rfl | hq;{show#[b.o,?MO (W8 ?se (AW c.r q)) e1,?MO (W8 ?n2 ?Ja) e2,?MO (W8 ?Iw (AW c.f q)) e1]};show ?t1
def Nu{a b n:Int}{x y z w:Nat}(ha:a.natAbs<2 ^ x)(hn:n.natAbs<2 ^ y)(hb:b.natAbs<2 ^ z)(h1:x+1<=w)(h2:y+z+1<=w):(a+n*b).natAbs<2 ^ w:=by let hm:=Cg (jS hn hb) (?LV (y+z<=w-1));let ha:=Cg ha (?LV (x<=w-1));let:=qf6 a (n*b);rw[?LV (w=w-1+1),qh4];ext d
abbrev XG[?aX](n:Int)(p2:BPart):BPart:=(0,?xh,?aY,[])
abbrev Ay8[?aX](n:Int)(p2:BPart):BPart:=(0,?lS,?Bx,[])
def Xr.joined[?gf][?dL][?LM][?fE](hp2:?te)(n:Int)(hn:?vl)(z1:?am)(z2:p2.1=0):?NJ (?Qx ((?CL).set ot (Ay8 p n p2))) lf:=by ext um;let c2:=?Mj ?sr p2 ?sb;let b2:=?Mj h.b p2 ?sb;(let e1:?f8+8<=?f0:=?hv);(let e2:?d0+9<=gB ?T:=?on);let nn:n.natAbs<2 ^ 7:=?g;(let nn2:?QZ n 7:=by rw[qq0,qb9];show nn);(let oQ:?CL[ot]?=?sJ:=?H9);apply h.row hk (h.L.joined hk hne hp hp2 n z1 z2 ?h ?h #[?gs,c.r.lp c2.r n,c.g,?fa ..,?mS] #[?gs,c2.r,c2.g.lp c.g (0-n),?fa ..,?mS] (λφ=>BC c.r c2.r n φ) ?h ?h ?dp) ?bf (λi q=>?A3) ?_;{exact ?GO=_;rw[?Ji,qq0,ql8,qf7];ext d};{let z9:?rR<?fX:=?eb;(let f0:?QG ?jw ?f0:=λq=>by rw[Ev];show ?eb);rcases Ju oQ hq with rfl | hq;{apply#[z9,?MO ?C8 ?g,?dp,f0];exact ?Mp ?GO _;rw[?Ji];show ?Nx (b2.g q) nn2 ?n2};rcases ?cR with rfl | hq;{apply#[z9,?dp,?MO ?n2 ?g,f0];exact ?Lk ?xh _;rw[Lw ?Im c2.r.ok.n];show ?Nx ?se nn ?C8};show ?t1};rw[Yh oQ (by rw[z2];rfl),Yh hp (by rw[z1];rfl)]
universe e9
abbrev addL(m:Ms)[?aA](gs:Ms):?c9:=?od (λlf g=>?pK) lf
def DX(m:Ms):∀(gs:Ms) [?aA],?MS ?GD lf.length| [],_=>rfl| ?iE,lf=>by exact ?MS ?tU _;rw[DX m gs,qf1]
def UQ{m:Ms}[?aN]{gs:Ms}{i:Nat}{g:?b4}(h:?N3 gs g):?Ol ?t=(?G9).set ?cV (plN (?Lt ?G9 ?cV) ?Bu m):=by unfold addL;rw[qd6,h,ql5];rfl
def dX{m:Ms}{i:Nat}:∀(gs:Ms) [?aA],?xH->?qt=?bX| [],_,_=>rfl| ?iE,lf,h=>by exact ?Lt ?tU i=_;rw[dX gs _ λx hx=>h x ?tc,qa1,qf5 (h g qb4),←qa1]
def MO{m:Ms}:∀(gs:Ms) [?aA],?mf->(∀g∈gs,?ya)->∀i:Nat,(?xH/\?qt=?bX)\/?qt=plN ?bX (0-Am gs ?b1) m| [],_,_,_,i=>?r #[(λg hg=>nomatch hg),?h]| ?iE,lf,hn,hk,i=>by let hn2:?mf:=(?P0 hn).2;let hg:=hk g qb4;cases e:?cV=i;{right;(let no:∀x∈gs,x.1.toNat≠i:=λx hx z=>by let:=?pR;show(?P0 hn).1 (?il #[x,hx,by exact x.1=g.1;ext d]));exact ?Lt ?tU i=_;rw[dX gs _ no,←e,qa1,qg2 hg.2,Dk,?E (?LV (g.1=((?cV:Nat):Int)))];rfl};let h2:=MO (m:=m) gs ?pK hn2 (?P7 (by rw[qf1];show ?pR)) i;(let es:?Lt ?pK i=?bX:=by rw[qa1,?m7,←qa1]);rw[es]at h2;rcases h2 with⟨h2,h3⟩ | h2;{apply ?r #[?Fm,h3];rcases ?kI hx with rfl | hx;{show e};show h2 x hx};apply ?F ?_;rw[Dk,?s (?LV (¬g.1=?b1))];show h2
section
variable[?m][?bN][?aN]{j k0 E5:Nat}[?I][?dN]
def Ad7{m:Ms}{i:Nat}(h:∀g∈m,?oj/\?pI):Am m ?b1=0:=Dq λz=>by let#[t,ht,e]:=?lU;let ?di:=h t ht;show b (by let e:t.1=?b1:=e;ext d)
abbrev mB(j:Nat):Nat:=?d0+?f8+200
def IB{k:Int}{m:Ms}{φ:?cg}{a b:Nat}[?V](h:?mI)(hm:?Of a)(hφ:∀q,(φ q).natAbs<?dr):?Mp ?eQ (2 ^ (?ma+40)):=by rw[h.wF];let hl:?S<=40:=?lC;show Cg (Xl λd hd=>jS (hm _) (hφ _)) ?g
def GQ[?fI]{y:Int}:∀q,(?Mn ?bq q).natAbs<2 ^ 2:=λq=>by rw[←J5];exact ?Mp ?yZ _;rw[show ?yZ=?OL ?eh from ?EM];show two_le (Tz hsh q y)
structure mQ[?o](k0 j:Nat)[?af](m:Ms):Prop where
 ch:?jh
 b:?Of (mB j)
 z:?vU
def mQ.edge[?fI][?V]{m:Ms}(h:?s9):?HB/\?R5 (mB j+42):=by
 ext Kk
 apply ?ws;rw[←?Dy,b2];show IB Ce ?fb h.b ?vx
abbrev A49[?aX](E m:Ms):BPart:=(?p,plN ?cK 1 E,?aY,?rp)
def Xr.added[?gf][?fI][?V](hj:j<6)[?dL][?fE]{m:Ms}(hm:?s9):?NJ (?Qx (?ip E5 (A49 p ?m3 m))) ?wm:=by ext um;let ?FJ:=hm.edge hsh Ce;(let e1:mB j+9001<=?f0:=?E1);(let e3:?d0+mB j+1<=?f0:=?E1);(let e4:?f8+1<=?f0:=?hv);ext LB;(let kk:∀g∈?aY,?ya:=λg hg=>by let ?rk:=Bt (c.g.key g hg);rw[h.L.ll];ext d);let G:=MO (m:=m) ?aY lf ?vy kk;let val:∀i:Nat,(∀g∈?aY,?pI)->?I4=0:=λi hi=>Ad7 λg hg=>#[(kk g hg).1,hi g hg];(let lvl:∀(k:Nat),∀q∈?cC,?Qk ?ac ?BP/\∀φ,?Lg ?BP=?eR-?bo*?eQ:=λk q hq=>by let q0:=(Bt hq).1;let lc:=h.L.lc k q hq;(let key:∀hne:?bo≠0,k=k0:=λhne=>?Ok qE hq (qm6 λz=>hne (c.g.lv q z)));rcases G ?b9 with⟨z,e⟩ | e;{let:=val _ z;rw[?G4]at this;rw[e,this];show#[lc,λφ=>?g]};rw[?G4]at e;cases hz:?bo=0;{rw[e,hz];let ok:=lc.ok.lp hm.ch.ok (0-0);(let ge:∀y,?Ql ?IO ?lh:=λy=>by rw[?JY];ext d);let cl:?Mi ?IO:=#[ok,λy hy=>by rw[ge,lc.lv y hy]];apply#[cl,?dc];rw[cl.wF,lc.wF,qf0];apply ?sR ?_ ?wz;apply Af λd hd=>?_;exact ?Jw=?Jw;rw[ge]};let:=key hz;subst this;rw[e];apply#[lc.lp ?hV _,?dc];rw[BC lc ?hV,qq0,ql8];rfl);apply h.row hk (h.L.added hsh Ce hk hp ?h #[c.od,c.r.lp ce 1,c.g,c.f.lp ?hV ?p,?g3] ?hV hm.z ?dc ?h (λφ=>BC c.f ?hV ?p φ) (DX m _ lf) (λk q hq=>(lvl k q hq).1) λk q hq φ=>?_) ?bf ?JX ?DB;{exact ?rp=[];rw[c.z z,show ?am from z];show rK (QI nd0 0 m _) λe=>by rw[JI _ _ ?lW e _ ?Z,Ev];ext d};{exact ?Q6 ?yz;rw[BC c.r ce,we,qd8]};{(obtain⟨k',rfl⟩:∃k':Nat,k=(k':Int):=by let ?Cz:=Bt hq;rw[Kk]at a;show#[_,a.symm]);show(lvl k' q hq).2 φ};{rcases ?cR with rfl | hq;{apply#[b.o,?dp,?MO ?n2 e2,?dp];{exact ?Lk ?yz _;rw[Lw ?Im ce.ok.n];show ?Nx ?se (show ?wC by decide) (be q)};exact ?Lk ?rp _;rw[Lw ?Eu ?lW];show ?Nx ?Iw b.o ?qc};show ?t1};rcases G i with⟨_,e⟩ | e;{rw[e];show ?A3};rw[e];cases hi:?kA;{obtain⟨k,hk2⟩:?qf:=?s2;let hq:?py:=Gr ?g ?g (by rw[qc4];show hk2);let lc:=?BV;rw[qc4]at lc;rw[?JY];apply ?Nx ?mw ?we ?qc;rw[qq0,qb9];show b.g _};(let:?bX=[]:=?O7 qg8 (by rw[h.L.ll];ext d));rw[this,Lw nd0 ?lW,Ev];apply Nu (x:=0) ?aD ?we ?qc ?g ?g;rw[qq0,qb9];show b.g _
abbrev CJ[?D](e:Ms)(b:BPart):Int:=if b.1=0 then 0 else ?no*?Lg ?HF
structure R6[?o](k0 j:Nat)[?af](m0 e:Ms)(i:Nat)(m:Ms):Prop where
 ch:?jh
 b:?Of (?d0+?f8+120+i)
 w:∀φ,?eQ=?Lg m0-(?R8 ?kl (CJ φ e)).sum
structure Zq[?o](k0:Nat)(m:Ms):Prop where
 ch:?jh
 b:∀q,?hE<=2
def Zq.edge[?fI][?V][?vB]:?HB/\?R5 44:=by
 ext Kk
 apply ?ws;rw[←?Dy,b2];show IB (a:=2) (b:=2) Ce ?fb (λq=>?H6) ?vx
def Zq.put[?vB][?V]{p v:Int}(hp:p∈?OA ?Cv)(hv:v≠0)(h2:v.natAbs<=2):Zq xs k0 ?BK:=by apply#[h.ch.put Ce hp hv,?dp];rw[Yz];split;{show h2};show ?hf
def R6.first[?vB](e:Ms):R6 xs k0 j ps m e 0 m :=#[?fb,?MO ?H6 ?on,λφ=>?wz]
def LJ[?V]{e:Ms}{b:BPart}(he:?vf)(hb:?It)(bb:HoB j b):?QZ ?no (?d0+84):=by rw[qq0,qb9];show qc1 ?zf (Cg (IB Ce he hb bb.g) ?g)
def R6.next(h9:?eU)[?V][?dL][?LE](he:?vf)(he2:?It)(h:?Ht)(h0:b.1≠0):?N1 e ?t (plN m (0-?no) ?HF):=by let c:=?Mj h9.L.ch b ?rD;let bb:=?Mj h9.b b ?rD;apply#[h.ch.lp c.f _,?dp,?dc];{rw[Lw h.ch.ok.n ?Eu];show ?Nx ?hf (LJ Ce he he2 bb) (bb.f q)};rw[BC ?fb c.f,h.w,jZ _ hb];unfold CJ;rw[?s h0,qq0,ql8];ext d
def R6.skip[?LE](h:?Ht)(h0:b.1=0):?N1 e ?t m:=by apply#[?fb,?MO ?hf ?g,?dc];rw[h.w,jZ _ hb];unfold CJ;rw[?E h0];ext d
private def R6.last(h9:?eU)[?fI][?V][?dL]{m0 m:Ms}(hf:Zq xs k0 m0)(h:?N1 ?rm ?IJ m):?s9:=by let ?FJ:=hf.edge hsh Ce;let hl:=(h9.nx _ _ hk).1;apply#[?fb,?MO ?hf (by unfold mB;ext d),λg hg=>?_];let ?rG:=qf9 hg;rw[h.w,qd0,←we];(let one:((?bi (CJ ?G5 ?rm)).sum)=CJ ?G5 ?rm g:=bH _ ps i g hi λj b hb hne=>by unfold CJ;split;{rfl};rw[?Mj h9.L.b b ?rD,?MX h9.L.c hi hb,?OC hne,qd7,qd7]);rw[one];let hd:=h9.L.d _ _ hk g hg m0 hf.ch;rw[←we]at hd;unfold CJ;split;{rename_i z;rw[z]at hd;rw[?kF hd];rfl};rw[?Mj h9.L.b g hg,?MX h9.L.c hi hi,?W,qm5,qt2 hd];ext d
universe e9
structure Kv(A A':?c5)(H:Hp):Prop where
 sub:?tN
 new:∀c,A' c->¬A c->?xo
def Kv.refl[?eB]:Kv A A H:=#[λ_ h=>h,λc h n=>?aO h n]
abbrev Zk(A:?c5)(a:Addr):?c5:=λc=>A c\/c=a
def Kv.trans{A A1 A2:?c5}{H H1:Hp}(h:Kv A A1 H)(h1:Kv A1 A2 H1)(s:?ec):Kv A A2 H:=#[λc x=>h1.sub c (h.sub c x),λc x n=>by cases z:A1 c;{show h.new c z n};show s.free (h1.new c x z)]
def Kv.add[?bd]{a:Addr}(h:H a=none):Kv A ?GQ H:=#[λ_ h=>?r h,λc h1 n=>by rcases h1 with h1 | rfl;show ?aO h1 n;show h]
def Fp.grow[?gg]{H:Hp}[?cP](h:?dA)[?j8]:Fp A' H v p:=by let ?Cp:=h;show#[?fF,g.sub _ h5,λz=>by rw[g.new _ z h6]at h3;cases h3]
def PartsA.grow[?gg]{H:Hp}[?cv][?I][?ge][?j8]:?dH A' H us ps:=(?M8 ((?hm).grow g))
def PartsA.set[?bd][?cv][?I][?ge]{i:Nat}[?cP](hv:?dA):?dH A H (us.set i v) (?ip i p):=by apply#[?y3,?za];cases e:i=j;{subst e;let l1:=?kT;let l2:=?DE;rw[qf1]at l1 l2;rw[qg2 l1]at e1;rw[qg2 l2]at e2;cases e1;cases e2;show hv};rw[?m7]at e1 e2;show ?JK
def PartsA.snoc[?bd][?cv][?I][?ge][?cP](hv:?dA):?dH A H (us++[v]) ?lN:=by apply#[?IZ,?za];cases hj:j<us.length;{rw[qd3 hj]at e1;rw[qd3 (by rw[←h.1];show hj)]at e2;show ?JK};let l1:=?kT;rw[qc3,qj6]at l1;let ej:j=us.length:=?g;subst ej;rw[?eY,qh9]at e1;ext L7;show hv
def Fp.put[?bd][?cP]{E:Addr}{us ws:?C}(h:?dA)(hE:H E=?cd):Fp A ?Gg v p:=by have ?Cp:=h;(let ne:?OE ((∀l,o≠?a3 l)->upd H E ?h5 x=?ba):=λ{x o} hx hn=>by rw[Aj λz=>by rw[z,hE]at hx;cases hx;show hn _ ?h];show hx);show#[?fH,ne h1 ?db,ne h2 ?db,ne h3 ?db,ne h4 ?db,h5,h6]
def PartsA.put[?bd][?aQ][?I]{E:Addr}{us ws:?C}(h:?PS H vs)(hE:H E=?cd):?PS ?Gg vs:=(?M8 (?zW hE))
abbrev Wb[?eB]:Prop:=∀c,A c->∃o,H c=?ba
def Wb.same[?gd](h:?gx)[?be]:Wb A H':=λc hc=>let #[o,e]:=?rV;#[o,s _ _ e]
def Wb.add[?bd]{a:Addr}{o:HO}(h:?gx)(e:H a=?ba):Wb ?GQ H:=λc hc=>by rcases hc with hc | rfl;{show ?rV};show#[o,e]
def Wb.out[?bd](h:?gx){c:Addr}(e:?xo):¬A c:=λz=>by let#[o,e2]:=h c z;rw[e]at e2;cases e2
def Wb.put[?bd]{E:Addr}{o:HO}(h:?gx):Wb A (?ND E o):=λc hc=>by cases z:c=E;{rw[z];show#[_,Ab]};rw[Aj z];show ?rV
def Fp.new[?bd]{t a b c:Addr}[?dN](h1:?n3)(h2:?le)(h3:?mP)(h4:?l9)(h5:A a)(h6:¬A b):Fp A H ?f7 p:=#[t,a,b,c,?h,?a1,h3,h4,h5,h6]
abbrev Pf[?eB](hd:Addr)[?bc]:Prop:=Ex λ(lu:?C)=>Ee ?Jl ?kx ?gx
def Pf.same[?gd]{hd:Addr}[?bN](h:?hu)[?be]:Pf A H' hd hs:=?NZ #[lu,?a1,h3] #[lu,?dU,?mY,h3.same s]
def Ix.grow[?gg]{H:Hp}[?jC][?bN][?nW][?j8]:Ix A' H lu hs:=(?Ly ?nC #[l,us,e,h1,h2.grow g])
def Ix.put[?gg][?fJ]{lu us':?C}[?bN]{ps':?bI}{k:Nat}{R:Addr}[?nW][?be][?j8](hR:H' R=?Md us')(pp:?dH A' H' us' ps'):Ix A' H' ?zL (?ey k ps'):=by apply#[?y3,λi v ps e1 e2=>?_];cases e:k=i;{subst e;let l1:=?kT;let l2:=?DE;rw[qf1]at l1 l2;rw[qg2 l1]at e1;rw[qg2 l2]at e2;cases e1;cases e2;show#[R,us',?h,hR,pp]};rw[?m7]at e1 e2;let ?nC:=?hi;show#[l,us,e,?dU,?PU s]
def Ix.at[?bd][?jC][?bN][?nW]{k:Nat}[?I](hk:?bP):∃l us,lu[k]?=?i ?d8/\?nd:=by let hl:=(?aU hk).1;let e:=qa0 (l:=lu) (i:=k) ?CS;let#[l,us,e2,?a1]:=h.2 k _ _ e hk;show#[l,us,by rw[e,e2],?a1]
def PartsA.at[?bd][?cv][?I][?ge]{i:Nat}[?dN](hp:?f6):∃v,?sL/\?dA:=by let hl:=?wV;let e:=qa0 (l:=us) (i:=i) ?CS;show#[_,e,h.2 i _ _ e hp]
def Af2[?jC]{k:Nat}{v:V}(h:?zO):?qx++[v]++?KD=lu.set k v:=by rw[T9,?uM,Np,List.set_eq_take_append_cons_drop,?b2,qu9];rfl
def Zs.new{Q:VK}[?aQ]{H:Hp}(h:vs.length<=sizeLine)(k:?MD (?i ?qu)):Zs Q vs H:=#[h,?kL]
def Ao0[?fG]{Q:VK}(k:∀p G,?fV->?dk->G p=?Lj []->?kU):tDNewK σ H Q:=?kL
def dF{H:Hp}{Q:VK}{c:Addr}{ms:Ms}(h:H c=?hK)(k:?MD ?hK):vU [?eJ] H Q:=#[c,?j,?r h,?kL]
def aT[?ag]{H:Hp}{Q:VK}{l:Addr}[?cv](h:?k1)(k:?MD ?cd):QC K [?d8] H Q:=#[l,us,?h,?r (.of h),?kL]
abbrev Bz3[?H](i j r:Nat):TE:=tOp ?EG (tOp ?EG (tSl ?F1 ?of iE (vM ?w9)) (Bc0 (?jE (tVar r) tNil))) (tSl ?F1 ?of (vM (tOp (rI0 λi j=>?l (i+j)) ?w9 ?wX)) iE)
def NF[?ag][?fG]{Q:VK}{i j r:Nat}{hd R:Addr}[?jC]{k:Nat}(e1:σ[i]?=?M4 ?ia)(e2:σ[j]?=?M4 ?ha)(e3:σ[r]?=?M4 ?kp)(hl:?Jl)(kl:?zO)(l4:lu.length<=100)(kq:∀[?gh],?a4->?d5=?Md ?zL->?bu):Bz3 K i j r σ H Q:=by let cl1:=?IB lu ?an ?Jy;let cl2:=?IB lu ?xu ?an;apply#[_,e1,_,e2,?w,?h,hd,lu,?h,.of hl,λB1 b1=>?_];let t1:?K H ?Jd:=?aZ b1;let c1:upd H B1 ?r2 B1=?i ?r2:=Ab;generalize ?Jd=G1 at t1 c1 ⊢;apply#[_,e3,Bx (qi9 ?aM),λB2 b2=>?_];let t2:?K G1 ?wO:=?aZ b2;let c2:upd G1 B2 ?nw B2=?i ?nw:=Ab;generalize ?wO=G2 at t2 c2 ⊢;apply#[B1,B2,?n,?Mo t2 c1,.of c2,Bx (by rw[qj6];ext d),λB4 b4=>?_];let t3:?K G2 ?Ci:=?aZ b4;let c3:upd G2 B4 ?tn B4=?i ?tn:=Ab;generalize ?Ci=G3 at t3 c3 ⊢;let z3:=(t1.trans t2).trans t3;apply#[_,e1,_,e2,?n,?ac,?h,hd,lu,?h,?Mo z3 hl,λB5 b5=>?_];let t4:?K G3 ?zi:=?aZ b5;let c4:upd G3 B5 ?oT B5=?i ?oT:=Ab;generalize ?zi=G4 at t4 c4 ⊢;apply#[B4,B5,?n,?Mo t4 c3,.of c4,Bx (by rw[qc3,qj6];ext d),λB3 b3=>?_];rw[Af2 kl];show kq B3 _ ((z3.trans t4).trans (?aZ b3)) Ab
def c6(L:Nat):min (min 7 L-min 1 L) (L-min 1 L)<=6:=by apply qa4 (qw7 _ _) ?_;cases L with| zero=>show ?aM| succ n=>rw[qn6 (qi9 (qb1 n))];show Nat.sub_le_sub_right (qw7 7 _) 1
def LM[?ar][?uv]:∀g∈?hc,g.1≠q.1:=λg hg e=>by (let hnt:nd ?BR:=by unfold nd at h ⊢;rw[qo2];show ?Gm ?w2);unfold nd at hnt;rw[qd6,hq,qb2,qr1]at hnt;show hnt.2.2 _ (qj5 hg) _ ?EY e
section
variable[?H]
abbrev bK[?bO]:Sp:=λvs H Q _=>MT λ ?xy ?dB ?wr ?R ?gD ?e9 ?dl ?fg ?p4=>L6 (vs=[?ia,?ha,?nk]) ?hu ?eU ?bD ?bP ?lK ?Bm
abbrev BK[?bO]:Sp:=λvs H Q _=>Ah2 λ ?xy ?dB (k E5 ot:Nat) ?br ?R ?gD ?e9 ?dl ?fg (p p2:BPart)=>eE (vs=[?ia,?ha,?nk,?l (ot:Int),?dS]) ?hu ?eU ?uF ?vl ?bP ?lK ?te ?Bm
abbrev AH(A:?c5)(wu:?C):Prop:=∀v∈wu,∃c,?kQ/\A c
def AH.sub[?gg]{wu:?C}(h:?tH)(s:?tN):AH A' wu:=λv hv=>let #[c,e,hc]:=h v hv;#[c,e,s c hc]
abbrev Zp[?eB](T:Addr)[?bc][?aA]:Prop:=Nv λ(hd ld:Addr) ?lG=>Ds (H T=?i (?aa [?ia,?v ld])) ?hu ?vm ?iv ?tH
def Zp.same[?gd]{T:Addr}[?bN][?aN](h:Zp A H T hs lf)[?be]:Zp A H' T hs lf:=?NZ #[hd,ld,wu,?a1,h3,h4,h5] #[hd,ld,wu,?dU,?mY,?q4,h4.same s,h5]
abbrev fH:Sp:=λvs H Q _=>Bp8 λ(a hd ld:Addr) ?dB ?wr (c:Int) ?R ?gD ?e9 ?lG ?dl ?fg ?p4=>zB (vs=[?O,?ia,?v ld,?ha,?nk,?l c]) ?aW ?bS ?uF (0<=c/\c<1000003) ?hu (?vm/\?iv/\?tH) ?eU ?bP ?lK ?CD
abbrev PX:Sp:=?LZ (ZL λ(a t:Addr) (c:Int) ?dB ?R ?gD ?e9 ?dl=>L6 (?Q4 ?f7 (?l c)) ?aW ?bS ?uF (Zp A H t hs lf) ?eU ?CD)
universe e9
abbrev tNegP[?H](i:Nat):TE:=tCall (sp_bPlus K) [] E0 (?jE tDNewK (?jE (tUn (rU λi=>?l (-i)) ?wX) (?jE ?of tNil)))
def ND[?ag][?fG]{Q:VK}{i:Nat}{a:Addr}{m:Ms}(e:?N3 σ ?lZ)(h:?Qj a m)(hm:Gm m)(k:?QT ?JD):tNegP K i σ H Q:=by intro Z z;let q:?K H (?ND Z (.dK [])):=?aZ z;let hl:=hm.len;show#[?j,_,e,Z,a,-1,[],m,?h,Ab,q _ _ h,nd0,hm.n,?aD,?g,λq _=>Ow ?aD ?aD,λD G n s e=>k D G (q.free n) (q.trans s) e]
section
variable[?m][?fD]
def Ac2[?I](h:ps.Pairwise A54)(hn:∀p∈ps,?fn):DZ (?bi (·.1)):=by apply#[λn hm=>?_,?bf];{let ?kc:=?gw;show hn p hp};let ?rG:=qf9 hq;let ?lf:=qu4.mp hi;rw[qa9]at h1;rw[qt9,qa9]at h2;let#[a,ha,e1]:=?fx h1;let#[b,hb,e2]:=?fx h2;let#[l1,g1]:=?aU ha;let#[l2,g2]:=?aU hb;let r:=?rX h i (1+i) l1 l2 ?g;rw[g1,g2]at r;rw[←e1,←e2];let na:=hn a (qa6 ha);unfold A54 at r;let ?Ct:=r;cases z:a.1=0;{rw[r1 z];show Int.dvd_zero _};show qv7 (r2 ?g)
def WD[?a7][?bM]:Xr xs ?es ?dn 0:=by (let row:?Mw ?t8:=λk qs h=>by rw[qa9]at h;let ?zI:=?fx h;let#[h4,_,lv]:=t.lev h1;show ?wY);apply#[WZ hs t Ce,?Js,?JX,λk qs h=>?_];{let#[?eG,_]:=?aP;let b:=nV t Ce h4 h1 p ?sv;show#[b.nb,?MO (b.rb q) ?Ay,?MO (b.gb q) (by unfold jR bookF gB;ext d),?MO (b.fb q) (by unfold bookF nB;ext d)]};{cases hi:?kA;{obtain⟨k,hk⟩:?qf:=?s2;let hq:?py:=?rx;let:=tO t Ce ?BC hq q;rw[qc4]at this;show Cg ?ah ?Ay};rw[qa1,qg8 (by rw[P1];ext d)];exact ?Lk [] _;rw[Ev];show ?eb};let ?wY:=?aP;let ho:=lv.holes Ce;show#[qa4 (qi8 _ _) (lv.len Ce),Ac2 ho.ord λp hp=>(ho.one p hp).nn]
universe e9
abbrev BasesN[?eB](E:Addr)[?gk][?bc]:Prop:=?RW hs.length/\?NO ?eI (l≠E/\?nd)
def BasesN.out[?bd]{E:Addr}[?aQ][?bN](h:?Aj):Ix A H vs hs:=(?Ly #[l,us,e,_,?a1] ?nC)
def BasesN.snoc[?gg][?fJ]{E D:Addr}{vs us ws:?C}[?bN][?I](h:?Aj)[?be][?j8](hE:H' E=?cd)(hD:?Ca)(ne:D≠E)(pp:?dH A' H' ws ps)(zs:?C):BasesN A' (upd H' E ?zh) E (vs++[?v D]) (hs++[ps]):=by ext L4;ext nR;{rw[?mR]at e1;rw[qd3 ?AB]at e2;let#[l,us',e,n,?a1]:=?Fn;show#[l,us',e,n,by rw[Aj n];show ?dU,(?PU s).put hE]};ext ue;ext L7;show#[D,ws,?h,ne,by rw[?lu];show hD,pp.put hE]
def K6{S:St}{p0:?aT}[?M](k:∀H,?e1->?uP):?LW (?gO/\?e1):=by rintro _ H ⟨rfl,h0⟩;show k H h0
def EY{S:St}{p0 p1:?aT}[?M](k:∀H,?e1->?i1->?uP):?LW (Ee ?gO ?e1 ?i1):=by rintro _ H ⟨rfl,h0,h1⟩;show k H h0 h1
def Ba9{S:St}{p0 p1 p2:?aT}[?M](k:∀H,?e1->?i1->?nq->?uP):?LW (Br ?gO ?e1 ?i1 ?nq):=by rintro _ H ⟨rfl,h0,h1,h2⟩;show k H h0 h1 h2
def Xx[?cO]{p0 p1:?fk}[?M](k:∀x0 H,?hY->?i7->?hF):?LW (?Q8 (Ee ?ca ?gB ?hI)):=by rintro _ H ⟨x0,rfl,h0,h1⟩;show k x0 H h0 h1
def Iy[?cO]{p0 p1 p2:?fk}[?M](k:?MW ?hF):?LW (?Q8 (Br ?ca ?gB ?hI ?mN)):=by rintro _ H ⟨x0,rfl,h0,h1,h2⟩;show k x0 H h0 h1 h2
def Ba8[?cO]{p0 p1 p2 p3:?fk}[?M](k:?MW (?s6->?hF)):?LW (?Q8 (Ds ?ca ?gB ?hI ?mN ?pc)):=by rintro _ H ⟨x0,rfl,h0,h1,h2,h3⟩;show ?PL H
def Aj1[?cO]{p0 p1 p2 p3 p4:?fk}[?M](k:?MW (?s6->?Co->?hF)):?LW (?Q8 (Kb ?ca ?gB ?hI ?mN ?pc ?AL)):=by rintro _ H ⟨x0,rfl,h0,h1,h2,h3,h4⟩;show k x0 H h0 h1 h2 h3 h4
def pO[?cO]{p0 p1 p2 p3 p4 p5:?fk}[?M](k:?MW (?s6->?Co->p5  x0 H->?hF)):?LW (?Q8 (L6 ?ca ?gB ?hI ?mN ?pc ?AL (p5 x0 H))):=by rintro _ H ⟨x0,rfl,h0,h1,h2,h3,h4,h5⟩;show k x0 H h0 h1 h2 h3 h4 h5
def Aj0[?bx]{p0:?fm}[?M](k:∀x0 x1 H,?fv->?fy):?LW (?Pd (?cL/\?fd)):=by rintro _ H ⟨x0,x1,rfl,h0⟩;show k x0 x1 H h0
def jW[?bx]{p0 p1:?fm}[?M](k:∀x0 x1 H,?fv->?i4->?fy):?LW (?Pd (Ee ?cL ?fd ?hs)):=by rintro _ H ⟨x0,x1,rfl,h0,h1⟩;show k x0 x1 H h0 h1
def Ai9[?bx]{p0 p1 p2:?fm}[?M](k:?MF ?fy):?LW (?Pd (Br ?cL ?fd ?hs ?lB)):=by rintro _ H ⟨x0,x1,rfl,h0,h1,h2⟩;show ?PK H
def Ai8[?bx]{p0 p1 p2 p3:?fm}[?M](k:?MF (?uc->?fy)):?LW (?Pd (Ds ?cL ?fd ?hs ?lB ?oL)):=by rintro _ H ⟨x0,x1,rfl,h0,h1,h2,h3⟩;show ?Oj H
def VE[?bx]{p0 p1 p2 p3 p4:?fm}[?M](k:?MF (?uc->?FL->?fy)):?LW (?Pd (Kb ?cL ?fd ?hs ?lB ?oL ?GA)):=by rintro _ H ⟨x0,x1,rfl,h0,h1,h2,h3,h4⟩;show ?OI H
def Ba7[?bx]{p0 p1 p2 p3 p4 p5 p6:?fm}[?M](k:?MF (?uc->?FL->?Q3 p5->?Q3 p6->?fy)):?LW (?Pd (Zt ?cL ?fd ?hs ?lB ?oL ?GA (?RT p5) (?RT p6))):=by rintro _ H ⟨x0,x1,rfl,h0,h1,h2,h3,h4,h5,h6⟩;show ?NX H
def Ai7[?cN]{p0 p1:?hR}[?M](k:?M0 ?hW):?LW (?PZ (Ee ?cA ?iC ?gn)):=by rintro _ H ⟨x0,x1,x2,rfl,h0,h1⟩;show k x0 x1 x2 H h0 h1
def PN[?cN]{p0 p1 p2:?hR}[?M](k:?M0 (?lH->?hW)):?LW (?PZ (Br ?cA ?iC ?gn ?m2)):=by rintro _ H ⟨x0,x1,x2,rfl,h0,h1,h2⟩;show ?Oi H
def Ai6[?cN]{p0 p1 p2 p3:?hR}[?M](k:?M0 (?lH->?uL->?hW)):?LW (?PZ (Ds ?cA ?iC ?gn ?m2 ?t0)):=by rintro _ H ⟨x0,x1,x2,rfl,h0,h1,h2,h3⟩;show k x0 x1 x2 H h0 h1 h2 h3
def Ai5[?cN]{p0 p1 p2 p3 p4:?hR}[?M](k:?M0 (?lH->?uL->?D1->?hW)):?LW (?PZ (Kb ?cA ?iC ?gn ?m2 ?t0 ?DW)):=by rintro _ H ⟨x0,x1,x2,rfl,h0,h1,h2,h3,h4⟩;show k x0 x1 x2 H h0 h1 h2 h3 h4
def Ai4[?cN]{p0 p1 p2 p3 p4 p5:?hR}[?M](k:?M0 (?lH->?uL->?D1->?Po p5->?hW)):?LW (?PZ (L6 ?cA ?iC ?gn ?m2 ?t0 ?DW (?RO p5))):=by rintro _ H ⟨x0,x1,x2,rfl,h0,h1,h2,h3,h4,h5⟩;show k x0 x1 x2 H h0 h1 h2 h3 h4 h5
def Ba6[?iz]{p0:?qZ}[?M](k:?Pw ?o1):?LW (?Pj (?h9/\?om)):=by rintro _ H ⟨x0,x1,x2,x3,rfl,h0⟩;show k x0 x1 x2 x3 H h0
def Ba5[?iz]{p0 p1 p2:?qZ}[?M](k:?Pw (?yu->?A7->?o1)):?LW (?Pj (Br ?h9 ?om ?AQ ?DC)):=by rintro _ H ⟨x0,x1,x2,x3,rfl,h0,h1,h2⟩;show ?OH H
def Ba4[?iz]{p0 p1 p2 p3 p4:?qZ}[?M](k:?Pw (?yu->?A7->?Mg p3->?Mg p4->?o1)):?LW (?Pj (Kb ?h9 ?om ?AQ ?DC (?RL p3) (?RL p4))):=by rintro _ H ⟨x0,x1,x2,x3,rfl,h0,h1,h2,h3,h4⟩;show k x0 x1 x2 x3 H h0 h1 h2 h3 h4
def Ai3[?ut]{p0 p1 p2:?Pn (A3->A4->?aT)}[?M](k:∀x0 x1 x2 x3 x4 H,?NN p0->?NN p1->?NN p2->let s:=?sM;?cc):?LW (?RQ (Br ?tR (?Q0 p0 H) (?Q0 p1 H) (?Q0 p2 H))):=by rintro _ H ⟨x0,x1,x2,x3,x4,rfl,h0,h1,h2⟩;show k x0 x1 x2 x3 x4 H h0 h1 h2
def Ba3{A0 A1 A2 A3 A4 A5:Type}{S:?LY St}{p0 p1 p2 p3:?LY ?aT}[?M](k:∀x0 x1 x2 x3 x4 x5 H,?MY p0->?MY p1->?MY p2->?MY p3->let s:=?IA;?cc):?LW (Ex6 λx0 x1 x2 x3 x4 x5=>Ds (σ=?IA) (?Pk p0) (?Pk p1) (?Pk p2) (?Pk p3)):=by rintro _ H ⟨x0,x1,x2,x3,x4,x5,rfl,h0,h1,h2,h3⟩;show ?NI H
def Ba2[?up]{p0 p1 p2:?LY (A6->A7->?aT)}[?M](k:?Pp ?FA):?LW (?RJ (Br ?tA ?zN ?HY ?Bs)):=by rintro _ H ⟨x0,x1,x2,x3,x4,x5,x6,x7,rfl,h0,h1,h2⟩;show k x0 x1 x2 x3 x4 x5 x6 x7 H h0 h1 h2
def Ai2[?up]{p0 p1 p2 p3 p4 p5 p6 p7:?LY (A6->A7->?aT)}[?M](k:?Pp (?Lb p3->?Lb p4->?Lb p5->?Lb p6->?Lb p7->?FA)):?LW (?RJ (eE ?tA ?zN ?HY ?Bs (?PW p3 H) (?PW p4 H) (?PW p5 H) (?PW p6 H) (?PW p7 H))):=by rintro _ H ⟨x0,x1,x2,x3,x4,x5,x6,x7,rfl,h0,h1,h2,h3,h4,h5,h6,h7⟩;show k x0 x1 x2 x3 x4 x5 x6 x7 H h0 h1 h2 h3 h4 h5 h6 h7
def Ba1{A0 A1 A2 A3 A4 A5 A6 A7 A8:Type}{S:?LY (A6->A7->A8->St)}{p0 p1 p2:?LY (A6->A7->A8->?aT)}[?M](k:∀x0 x1 x2 x3 x4 x5 x6 x7 x8 H,?MV p0->?MV p1->?MV p2->let s:=?wA;?cc):?LW (Ex9 λx0 x1 x2 x3 x4 x5 x6 x7 x8=>Br (σ=?wA) (?Pc p0 H) (?Pc p1 H) (?Pc p2 H)):=by rintro _ H ⟨x0,x1,x2,x3,x4,x5,x6,x7,x8,rfl,h0,h1,h2⟩;show k x0 x1 x2 x3 x4 x5 x6 x7 x8 H h0 h1 h2
def Aq7{A0 A1 A2 A3 A4 A5 A6 A7 A8 A9:Type}{S:?LY (?Py St)}{p0 p1 p2 p3:?LY (?Py ?aT)}[?M](k:∀x0 x1 x2 x3 x4 x5 x6 x7 x8 x9 H,?Lr p0->?Lr p1->?Lr p2->?Lr p3->let s:=?zq;?cc):∀σ H,(MT λx0 x1 x2 x3 x4 x5 x6 x7 x8 x9=>Ds (σ=?zq) (?LT p0 H) (?LT p1 H) (?LT p2 H) (?LT p3 H))->?L:=by rintro _ H ⟨x0,x1,x2,x3,x4,x5,x6,x7,x8,x9,rfl,h0,h1,h2,h3⟩;show k x0 x1 x2 x3 x4 x5 x6 x7 x8 x9 H h0 h1 h2 h3
def Gj{S:St}[?M]{H0:Hp}(k:?ou):?LW (?gO/\?jQ):=by rintro _ _ ⟨rfl,rfl⟩;show k
def Bb1{S:St}{p0:?aT}[?M]{H0:Hp}(k:p0 H0->?ou):?LW (Ee ?gO ?jQ ?e1):=by rintro _ _ ⟨rfl,rfl,h0⟩;show k h0
def Bb0{S:St}{p0 p1 p2:?aT}[?M]{H0:Hp}(k:p0 H0->p1 H0->p2 H0->?ou):?LW (Ds ?gO ?jQ ?e1 ?i1 ?nq):=by rintro _ _ ⟨rfl,rfl,h0,h1,h2⟩;show k h0 h1 h2
def Aj2[?cO]{p0:?fk}[?M]{H0:Hp}(k:∀x0,p0  x0 H0->let s:=?l3;G s H0):?LW (?Q8 (Ee ?ca ?jQ ?gB)):=by rintro _ _ ⟨x0,rfl,rfl,h0⟩;show k x0 h0
def ex2{A0 A1:Type}{p:?gr}{G:Prop}(k:∀x0 x1,p x0 x1->G)(h:∃x0 x1,p x0 x1):G:=h.elim λx0 h=>h.elim λx1 h=>k x0 x1 h
def Ce0{p0 p1 p2 G:Prop}(k:?N4 G)(h:p0/\p1/\p2):G:=k h.1 h.2.1 h.2.2
section
variable{g:TG}{x:V}{t1 t2 t3 t4 t5 t6 t7 t8 t9 uT t11 t12 t13 t14:TS}{D:Ends}[?fG]
def Ad3{tc:St->?QD Hp ?GM}{k:?GM}(h:let k':=k;tc σ H k'):tc σ H k:=h
def letG1(h:let D':=D;?NY D'):?NY D:=h
def let2(h:let D':=D;let u2:TS:=t2;?IN):?Ny t2 D H:=h
def letG2(h:let D':=D;let u2:TS:=t2;?KG):?Lh t2 D:=h
def let3(h:let D':=D;let u3:TS:=t3;?zQ):?Ny ?vi D H:=h
def letG3(h:let D':=D;let u3:TS:=t3;?yI):?Lh ?vi D:=h
def let4(h:let D':=D;let u4:TS:=t4;?CT):?Ny ?Hv D H:=h
def letG4(h:let D':=D;let u4:TS:=t4;?yU):?Lh ?Hv D:=h
def let5(h:let D':=D;let u5:TS:=t5;?Fc):?Ny (?QX (As t4 t5)) D H:=h
def let6(h:let D':=D;let u6:TS:=t6;?Bk):?Ny ?Hs D H:=h
def letG6(h:let D':=D;let u6:TS:=t6;let u5:TS:=?zZ;let u4:TS:=?D7;?yU):?Lh ?Hs D:=h
def let7(h:let D':=D;let u7:TS:=t7;?vL):?LX t7:=h
def let8(h:let D':=D;let u8:TS:=t8;?Ey):?LX (As t7 t8):=h
def let9(h:let D':=D;let u9:TS:=t9;?J6):?LX (As t7 (As t8 t9)):=h
def let10(h:let D':=D;let vI:TS:=uT;?H3):?LX (?Pr uT):=h
def let11(h:let D':=D;let u11:TS:=t11;?Gk):?LX (?Pr (As uT t11)):=h
def let12(h:let D':=D;let u12:TS:=t12;let u11:TS:=As t11 u12;?Gk):?LX (?Pr (As uT (As t11 t12))):=h
universe e9
universe Hb


namespace Hb
open PySem L2
def lU[?cO]{p0:?tt}[?aJ](k:∀x0,?ft->?li):?Ld (?Q8 (?ca/\?ft)):=by rintro _ ⟨x0,rfl,h0⟩;show k x0 h0
def An1[?cO]{p0 p1:?tt}[?aJ](k:∀x0,?ft->?jk->?li):?Ld (?Q8 (Ee ?ca ?ft ?jk)):=by rintro _ ⟨x0,rfl,h0,h1⟩;show k x0 h0 h1
def qP[?cO]{p0 p1 p2:?tt}[?aJ](k:∀x0,?ft->?jk->p2 x0->?li):?Ld (?Q8 (Br ?ca ?ft ?jk (p2 x0))):=by rintro _ ⟨x0,rfl,h0,h1,h2⟩;show k x0 h0 h1 h2
def Kc[?cO]{p0 p1 p2:Prop}[?aJ](k:?N4 ?yM):?Ld (?RR ?Cl):=by rintro _ ⟨h0,h1,h2,x0,rfl⟩;show k h0 h1 h2 x0
def XC[?cO]{p0 p1 p2 p3:Prop}[?aJ](k:?N4 (p3->?yM)):?Ld (?Qd ?Cl):=by rintro _ ⟨h0,h1,h2,h3,x0,rfl⟩;show k h0 h1 h2 h3 x0
def An0[?bx]{p0:?gr}[?aJ](k:∀x0 x1,?dv->?ik):?Ld (?Pd (?cL/\?dv)):=by rintro _ ⟨x0,x1,rfl,h0⟩;show k x0 x1 h0
def QO[?bx]{p0 p1:?gr}[?aJ](k:?NQ ?ik):?Ld (?Pd (Ee ?cL ?dv ?g0)):=by rintro _ ⟨x0,x1,rfl,h0,h1⟩;show k x0 x1 h0 h1
def Rw[?bx]{p0 p1 p2:?gr}[?aJ](k:?NQ (?mn->?ik)):?Ld (?Pd (Br ?cL ?dv ?g0 ?mn)):=by rintro _ ⟨x0,x1,rfl,h0,h1,h2⟩;show k x0 x1 h0 h1 h2
def CK[?bx]{p0 p1 p2:Prop}[?aJ](k:?N4 ?y4):?Ld (?RR ?AD):=by rintro _ ⟨h0,h1,h2,x0,x1,rfl⟩;show k h0 h1 h2 x0 x1
def Am9[?bx]{p0 p1 p2 p3:?gr}[?aJ](k:?NQ (?mn->?H8->?ik)):?Ld (?Pd (Ds ?cL ?dv ?g0 ?mn ?H8)):=by rintro _ ⟨x0,x1,rfl,h0,h1,h2,h3⟩;show ?PL x1
def xC[?bx]{p0 p1 p2 p3:Prop}[?aJ](k:?N4 (p3->?y4)):?Ld (?Qd ?AD):=by rintro _ ⟨h0,h1,h2,h3,x0,x1,rfl⟩;show k h0 h1 h2 h3 x0 x1
def Am8[?cN]{p0:?ff}[?aJ](k:∀x0 x1 x2,?bv->?g1):?Ld (?PZ (?cA/\?bv)):=by rintro _ ⟨x0,x1,x2,rfl,h0⟩;show k x0 x1 x2 h0
def Am7[?cN]{p0 p1:?ff}[?aJ](k:?MA ?g1):?Ld (?PZ (Ee ?cA ?bv ?ce)):=by rintro _ ⟨x0,x1,x2,rfl,h0,h1⟩;show k x0 x1 x2 h0 h1
def v9[?cN]{p0 p1 p2:?ff}[?aJ](k:?MA (?e6->?g1)):?Ld (?PZ (Br ?cA ?bv ?ce ?e6)):=by rintro _ ⟨x0,x1,x2,rfl,h0,h1,h2⟩;show ?PK x2
def qO[?cN]{p0 p1 p2 p3:?ff}[?aJ](k:?MA (?e6->?fh->?g1)):?Ld (?PZ (Ds ?cA ?bv ?ce ?e6 ?fh)):=by rintro _ ⟨x0,x1,x2,rfl,h0,h1,h2,h3⟩;show ?Oj x2
def QN[?cN]{p0 p1 p2 p3 p4:?ff}[?aJ](k:?MA (?e6->?fh->?jd->?g1)):?Ld (?PZ (Kb ?cA ?bv ?ce ?e6 ?fh ?jd)):=by rintro _ ⟨x0,x1,x2,rfl,h0,h1,h2,h3,h4⟩;show ?OI x2
def Am6[?cN]{p0 p1 p2 p3 p4 p5 p6:?ff}[?aJ](k:?MA (?e6->?fh->?jd->?K0->?zX->?g1)):?Ld (?PZ (Zt ?cA ?bv ?ce ?e6 ?fh ?jd ?K0 ?zX)):=by rintro _ ⟨x0,x1,x2,rfl,h0,h1,h2,h3,h4,h5,h6⟩;show ?NX x2
def v7[?iz]{p0 p1 p2:A0->A1->?QD A2 A3}[?aJ](k:∀x0 x1 x2 x3,?xm->?Fo->?xB->?DZ):?Ld (?Pj (Br ?h9 ?xm ?Fo ?xB)):=by rintro _ ⟨x0,x1,x2,x3,rfl,h0,h1,h2⟩;show ?Oi x3
def Bh0[?iz]{p0 p1 p2:Prop}[?aJ](k:?N4 (∀x0 x1 x2 x3,?DZ)):?Ld (?RR (?Pj ?h9)):=by rintro _ ⟨h0,h1,h2,x0,x1,x2,x3,rfl⟩;show k h0 h1 h2 x0 x1 x2 x3
def qN[?ut]{p0 p1 p2:?Pn (A3->?NG A4)}[?aJ](k:?Q7 ?EO):?Ld (?RQ (Br ?tR ?ml ?jr ?m5)):=by rintro _ ⟨x0,x1,x2,x3,x4,rfl,h0,h1,h2⟩;show ?OH x4
def Am5[?ut]{p0 p1 p2 p3 p4 p5:?Pn (A3->?NG A4)}[?aJ](k:?Q7 (?xG->?FV->?Ii->?EO)):?Ld (?RQ (L6 ?tR ?ml ?jr ?m5 ?xG ?FV ?Ii)):=by rintro _ ⟨x0,x1,x2,x3,x4,rfl,h0,h1,h2,h3,h4,h5⟩;show k x0 x1 x2 x3 x4 h0 h1 h2 h3 h4 h5
def Am4{A0 A1 A2 A3 A4 A5 A6:Type}{S:?LY (A6->St)}{p0 p1 p2 p3:?LY (A6->Prop)}[?aJ](k:∀x0 x1 x2 x3 x4 x5 x6,?wg->?x6->?AT->?RA ?yX ?Hm):?Ld (Ex7 λx0 x1 x2 x3 x4 x5 x6=>Ds (σ=?Hm) ?wg ?x6 ?AT ?yX):=by rintro _ ⟨x0,x1,x2,x3,x4,x5,x6,rfl,h0,h1,h2,h3⟩;show ?NI x6
def Am3[?up]{p0 p1 p2 p3:?LY (A6->A7->Prop)}[?aJ](k:∀x0 x1 x2 x3 x4 x5 x6 x7,?zg->?AW->?EZ->?RA ?Et ?qs):?Ld (?RJ (Ds ?tA ?zg ?AW ?EZ ?Et)):=by rintro _ ⟨x0,x1,x2,x3,x4,x5,x6,x7,rfl,h0,h1,h2,h3⟩;show k x0 x1 x2 x3 x4 x5 x6 x7 h0 h1 h2 h3
def XE{A0 A1 A2 A3 A4 A5 A6 A7 A8 A9 mU:Type}{S:?LY (?Py (mU->St))}{p0 p1 p2 p3 p4 p5 p6 p7 p8:?LY (?Py (mU->Prop))}[?aJ](k:∀x0 x1 x2 x3 x4 x5 x6 x7 x8 x9 Va,?yO->?D3->?Av->?yh->?AU->?yG->?vR->?Al->?RA ?Ev ?IM):∀σ,(pK λx0 x1 x2 x3 x4 x5 x6 x7 x8 x9 Va=>sI (σ=?IM) ?yO ?D3 ?Av ?yh ?AU ?yG ?vR ?Al ?Ev)->?aF:=by rintro _ ⟨x0,x1,x2,x3,x4,x5,x6,x7,x8,x9,Va,rfl,h0,h1,h2,h3,h4,h5,h6,h7,h8⟩;show k x0 x1 x2 x3 x4 x5 x6 x7 x8 x9 Va h0 h1 h2 h3 h4 h5 h6 h7 h8
universe Hb
namespace L2
open PySem PySem.Spec PyProof.Rows
section
variable[?nS][?ag][?LD]
universe e9
universe L2
namespace L2
open PySem PySem.Spec PyProof.Rows PySem.W
section
variable[?LF]{sp:Sp}{m:Str}{pos apos:Pos}{e o:Expr}[?j7]{ta:TE}{t:TA}
universe e9
section
variable[?nS]{K:Frag}[?LD]
universe e9
section
variable[?LF]{dvs:?C}{sp:Sp}{m x:Str}{p pos apos:Pos}{e o:Expr}[?j7]{ta:TE}{t:TA}
universe e9
universe L2
namespace L2
open PySem PySem.Spec PyProof.Rows
abbrev Cs[?H](n:Str)(st:Stmt):Prop:=∃(f:Addr) (fd:FuncData),?Pm n ?tF/\?Iq
abbrev W9[?H](C:Addr)(n q:Str)(st:Stmt):Prop:=∃(f:Addr) (fd:FuncData),?Pt ?r8 n ?tF/\?Lz ?je ?tF/\?HC
abbrev BA(x q:Str)(st:Stmt)(ps:?A):Prop:=∀(kV doc pm:Value) (an:OAddr) (Do ct:Value) (us:?av ?gE),?BU->bindArgs (?ij x q (K3 st) (Im st) (An st) ?bZ kV doc pm an Do ct) #[us,[]]=pure (ps.zip us)
section
variable[?nS][?ag]{mg:?iV}{base h:Heap}
def Bk(X:K.In h)(G:?FR){n:Str}[?ux](d:?M7 n st)(ok:∀{f fd},?Iq->?rw)(hb:BA n n st ps):?PI Has n:=by let#[f,fd,a,F]:=d;show#[_,_,qx4 X G a,F.kp,?pq,ok F]
def K0{C:Addr}{n q:Str}[?ux](d:W9 K C n q st)(ok:∀{f fd},?HC->?rw)(hb:BA n q st ps):Mu P w K mg ?N C n ps k sp:=by have ?DG:=d;show#[_,_,#[a,b,F.kp],?pq,ok F]
def JH{C:Addr}{q:Str}[?ux](m:?Lz ?hb C)(kc:?Lz ?dC ?r8)(d:W9 K C ?cb q st)(ok:∀{f fd},?Lc ?cb q st->?rw)(hb:BA ?cb q st ps):?PI mT C:=by let ?DG:=d;show#[_,_,#[m,a,b,kc],?pq,ok F]
universe e9
universe L2
namespace Hb
open PySem L2
abbrev top(i:Nat):Stmt:=PySem.Challenge.pw_holebook_k68_a_book_told_otherwise.main.body.getD i (.Pass #[0,0,0,0])
structure Fo[?H][?ur]:Prop where
 m_Lines:mg "Lines"=?B3
 cl_Lines:Cls K ?bs
 na_Lines_rows:Ep K ?bs ?fP
 na_Lines_backs:Ep K ?bs ?gX
 m_Stairs:mg ?GI=?Ge
 cl_Stairs:Cls K ?ap
 na_Stairs_rows:Ep K ?ap ?fP
 na_Stairs_backs:Ep K ?ap ?gX
 na_Stairs_starts:Ep K ?ap ?y0
 m_Work:mg "Work"=?Dv
 cl_Work:Cls K ?ae
 na_Work_table:?O9 ?f4
 na_Work_width:?O9 ?kz
 na_Work_left:?O9 ?qN
 na_Work_right:?O9 ?pa
 na_Work_numbers:?O9 ?Iu
 m_Book:mg "Book"=?Gy
 cl_Book:Cls K ?b3
 na_Book_pieces:Ep K ?b3 ?u7
 na_Book_levels:Ep K ?b3 ?p7
 na_Book_lifts:Ep K ?b3 ?lp
 x_GAPS:∃a,?N8 "GAPS" [32,16,8,4,2]
 x_FACE_COUNTS:∃a,?N8 ?GX [0,2,3,4]
 x_MOST_ROWS:∃t,?Oh ?y8 40
 x_LEVELS:∃t,?Oh ?vY 4
 x_MOST_PIECES:∃t,?Oh ?BH 40
 n_isinstance:?MK ?oG
 n_int:?MK "int"
 n_bool:?MK ?ks
 n_tuple:?MK ?jY
 n_zip:?MK "zip"
 n_max:?MK "max"
 n_len:?MK "len"
 n_all:?MK "all"
 n_range:?MK "range"
 n_dict:?MK "dict"
 n_any:?MK "any"
 n_sum:?MK "sum"
 n_list:?MK ?hy
 n_enumerate:?MK ?dJ
 n_min:?MK "min"
abbrev mG[?v3]:?a0:=(ns.drop ?Ax).take (HT.sIx ?h7 ?h7 hi-?Ax)
def MF[?v3]:Fj ?lM lo hi=?R8 ?vP ?ax:=by unfold Fj mG;rw[qa5,qo2,qq5]
def YG[?v3]:?Ls ?vP ns.length:=by unfold mG;rw[qd1,qj3];first | show zn9 _ _ _ | ext d
def wU:([?bj]:?A).Nodup:=?y
def Al9:(?GP:?A).Nodup:=?y
def Bg1:(["face",?cD,"level"]:?A).Nodup:=?y
def Al8:([?bl,?bj,?cD,"k"]:?A).Nodup:=?y
def Bg0:(["k",?cD,"thing"]:?A).Nodup:=?y
def Al7:(?JG:?A).Nodup:=?y
def Al6:(?yv:?A).Nodup:=?y
def Al5:([?bl,?pr,"k"]:?A).Nodup:=?y
def wO:([?e2,?kz]:?A).Nodup:=?y
def Bf9:([?e2,?hC,?kz]:?A).Nodup:=?y
def Ax3:(["j",?f4]:?A).Nodup:=?y
def Ax2:(?y9:?A).Nodup:=?y
def Ax1:(["i","size"]:?A).Nodup:=?y
def Ax0:(?JB:?A).Nodup:=?y
def WT:(?DH:?A).Nodup:=?y
def Aw9:([?bl,"below",?cD]:?A).Nodup:=?y
def Aw8:(?vM:?A).Nodup:=?y
def WS:([?bl,?bj]:?A).Nodup:=?y
def WR:([?e2,"paper"]:?A).Nodup:=?y
def wR:(?Ga:?A).Nodup:=?y
def Aw7:(?n7:?A).Nodup:=?y
def IW:(["order","loop","gauge","filling"]:?A).Nodup:=?y
def Aw6:(?B6:?A).Nodup:=?y
def Aw5:(?nH:?A).Nodup:=?y
def WQ:([?bj,"after"]:?A).Nodup:=?y
def Aw4:([?bl,?cD,"holes",?lp]:?A).Nodup:=?y
def iW:(["k","told",?cD]:?A).Nodup:=?y
def wQ:([?pr,?sm,?cD]:?A).Nodup:=?y
def Aw3:([?kB]:?A).Nodup:=?y
def Aw2:([?kB,?cD,"k"]:?A).Nodup:=?y
def Aw1:(["edge",?kB]:?A).Nodup:=?y
def WO:(["j",?hC,?kB,"i"]:?A).Nodup:=?y
def Aw0:([?bl,?cD]:?A).Nodup:=?y
def Av9:(["_law_letter"]:?A).Nodup:=?y
def Av8:(?yq:?A).Nodup:=?y
def Av7:([?lL,?rU,?Ka]:?A).Nodup:=?y
def Av6:(["_law_face",?Ka]:?A).Nodup:=?y
def Av5:([?nl,"_law_book"]:?A).Nodup:=?y
def Av4:(["_law_hole"]:?A).Nodup:=?y
section
#check[Wn,2,Kg,4,Wm,7,Oo,10,bU,16,iJ,17,II,18,Ki,30,BS,40,Z4,42,IJ,44,Qt,51,BU,55]
meta abbrev Fw:Stmt:=Fs ?u1 0
#check[Wj,60,Om,65]
meta abbrev Sz:Stmt:=Fs ?tv 3
#check[Jm,71,On,75,Z9,87,Hx,89,Sx,92,Sy,93,Qy,94,Sw,95,Kh,3,nQ,15,Jn,33,Hu,37,Z8,39,NQ,41,Qu,43,Ss,47,bS,54]
meta abbrev Gn:Stmt:=Fs ?u1 2
meta abbrev Lp:Stmt:=Fs ?iR 0
#check[Fv,77,Wr,82,Ot,90,bV,91,Nc,96,Ht,9,Op,32,Wo,36,Z3,38,Wu,52]
meta abbrev Hf:Stmt:=Fs ?u1 1
meta abbrev Oq:Stmt:=Fs ?io 0
#check[Wl,72,Z5,73,Qx,97,a8,98,Ww,99,Wx,100,NR,8,Z6,13]
meta abbrev Hw:Stmt:=Fs ?iR 4
meta abbrev Qw:Stmt:=Fs ?io 4
meta abbrev Wk:Stmt:=top 68
meta abbrev Qz:Stmt:=Fs ?tv 2
#check[Jq,101,Ws,12,Na,31]
meta abbrev Os:Stmt:=Fs ?iR 2
meta abbrev Ln:Stmt:=Fs ?iR 3
meta abbrev Hv:Stmt:=Fs ?io 3
#check[Fm,14,Wp,29]
meta abbrev Lo:Stmt:=Fs ?iR 1
#check[Sq,79,Z7,81,bT,46,Z2,58,Sr,80,Wq,49,Nb,50]
meta abbrev Su:Stmt:=Fs ?io 2
meta abbrev Ip:Stmt:=top 84
meta abbrev Jp:Stmt:=Fs ?io 1
#check[Jo,83,Wt,63,Qv,78,Wv,67]
meta abbrev Ou:Stmt:=Fs ?tv 0
meta abbrev N4:Stmt:=top 102
abbrev good(P:Program)(w:World)[?H][?ur]:Prop :=∀{h:Heap} {fa:Addr} {Gp:Addr} {Tc Ud:OAddr} {Sk:Wc} {Td To T5 S3 Nr Ua:Value} {Hk:Addr} {Vk V5:OAddr} {Vh:Wc} {Vl Vo Vt Vi Pa V2:Value} {Jd:Addr} {Ym Zi:OAddr} {X8:Wc} {Yn Yt Y5 Yf Rk Ze:Value} {Ae7:Addr} {Al0 yL:OAddr} {Aj9:Wc} {Al1 XF YC vW RM yH:Value} {Se:Tok} {M1:Tok} {Oi:Tok} {aX:Addr} {qJ:Nat} {KJ:Wc} {fF FE FD fD fC:Tok} {Jz:Addr} {Th:Nat} {Ru:Wc} {Pl Pk Pj Pi:Tok} (X:K.In h) (G:?FR) (hfa:mg ?ed=?i (?v fa)) (mP:?RG "Lines" ?B3) (HU:?RG ?GI ?Ge) (RS:?RG "Work" ?Dv) (RU:?RG "Book" ?Gy) (DH:?M7 ?tw Wn) (P8:?M7 ?px Kg) (dH:?M7 ?p9 Wm) (Vw:?M7 ?sC Oo) (MD:?M7 ?uW bU) (RI:?M7 ?pY iJ) (RH:?M7 ?td II) (Qa:?M7 ?sq Ki) (MC:?M7 ?uI BS) (GV:?M7 ?ts Z4) (rJ:?M7 ?r3 IJ) (Y6:?M7 ?oM Qt) (mE:?M7 ?q2 BU) (V7:?Pt ?cT ?cb ?kK) (Tp:?Lz ?je ?kK) (Vn:?PR Gp #[Td,Tc,?mT (?ij ?cb ?rj (K3 Fw) (Im Fw) ?zP ?bZ To T5 S3 Ud Nr Ua),Sk]) (V4:?OO Nr ?rj) (Oz:?Lz ?dC ?kK) (DF:?M7 ?pp Wj) (Vu:?M7 ?p6 Om) (aD:W9 K ?b3 ?sm ?IF Sz) (Ob:?M7 ?qz Jm) (Vv:?M7 ?su On) (gY:?M7 ?ta Z9) (Mf:?M7 ?rE Hx) (AB:?M7 ?tP Sx) (aC:?M7 ?r9 Sy) (Zb:?M7 ?sa Qy) (aB:?M7 "_law_word_by" Sw) (P9:?M7 "is_whole_below" Kh) (yD:?M7 "plus" nQ) (Oc:?M7 "places_of_level" Jn) (Mc:?M7 "is_list_of_wholes" Hu) (GX:?M7 "flipped" Z8) (YD:?M7 "ones" NQ) (Y7:?M7 "list_times" Qu) (z8:?M7 "add_faces" Ss) (mC:?M7 "turned" bS) (Zm:?Pt ?cT ?pN ?nB) (O0:?Lz ?je ?nB) (Yq:?PR Hk #[Vl,Vk,?mT (?ij ?pN ?zm (K3 Gn) (Im Gn) (An Gn) ?bZ Vo Vt Vi V5 Pa V2),Vh]) (Zf:?OO Pa ?zm) (Mp:?Lz ?dC ?nB) (Rz:?On ?cb "Stairs.__init__" Lp) (Jf:?M7 "each_divides_the_next" Fv) (DJ:?M7 "is_order" Wr) (V0:?M7 "_law_border_by" Ot) (ME:?M7 "_law_plus" bV) (T8:?M7 "_law_words_with" Nc) (Mb:?M7 "is_place_of_level" Ht) (Vx:?M7 "check_level" Op) (dI:?M7 "is_table" Wo) (GU:?M7 "product" Z3) (dM:?M7 "chain_of" Wu) (aH:?Pt ?cT ?fe ?kE) (Ra:?Lz ?je ?kE) (w9:?PR Jd #[Yn,Ym,?mT (?ij ?fe ?Iv (K3 Hf) (Im Hf) (An Hf) ?bZ Yt Y5 Yf Zi Rk Ze),X8]) (AD:?OO Rk ?Iv) (N7:?Lz ?dC ?kE) (Vy:?Oo ?cb "Work.__init__" Oq) (DG:?M7 "lifts_of" Wl) (gW:?M7 "lift_of" Z5) (Za:?M7 "_law_shape_by" Qx) (GY:?M7 "_law_added" a8) (dN:?M7 "_law_signed" Ww) (DN:?M7 "_law_joined" Wx) (yE:?M7 "fits" NR) (GW:?M7 "is_part" Z6) (Me:?On "shrink_row" "Stairs.shrink_row" Hw) (Y9:?Oo "share" "Work.share" Qw) (dG:?M7 "parts_of" Wk) (Zc:W9 K ?b3 "holes" "Book.holes" Qz) (Of:?M7 "_law_put_otherwise" Jq) (DK:?M7 "is_chain" Ws) (T6:?M7 "first_misfit" Na) (Vz:?On "meet" "Stairs.meet" Os) (Rx:?On "shrink" "Stairs.shrink" Ln) (Md:?Oo "put_in_order" "Work.put_in_order" Hv) (Ig:?M7 "is_chain_of_some_level" Fm) (DI:?M7 "is_shape" Wp) (Ry:?On "put_in" "Stairs.put_in" Lo) (y9:?M7 "are_lifts" Sq) (gX:?M7 "is_hole" Z7) (mD:?M7 "border" bT) (gU:?M7 "stepped" Z2) (z7:?M7 "are_holes" Sr) (dJ:?M7 "is_round" Wq) (T7:?M7 "border_table" Nb) (AA:?Oo "step" "Work.step" Su) (No:?M7 "piece_line_holds" Ip) (Oe:?Oo "straighten" "Work.straighten" Jp) (Od:?M7 "hole_lines_hold" Jo) (DL:?M7 "diagonal" Wt) (Y8:?M7 "book_holds" Qv) (DM:?M7 "bases_of" Wv) (V1:W9 K ?b3 ?cb "Book.__init__" Ou) (Bo1:?Pm ?ed ?HN) (Bh1:?PR Ae7 #[Al1,Al0,?mT (?ij ?ed ?ed (K3 N4) (Im N4) (An N4) ?bZ XF YC vW yL RM yH),Aj9]) (Bn6:?OO RM ?ed) (Bh4:?Lz ?dC ?HN) (Ug:?Pt ?e4 ?pN ?nB) (V6:?Pt ?e4 ?fe ?kE) (GD:PySem.W.readsIn K ?bs ?zl=true) (GH:PySem.W.findCls K ?cT ?zl ?cb=?i (.val ?kK)) (GG:PySem.W.specialIn K ?cT "__getattribute__"=?M4 (?pJ "type.__getattribute__")) (lP:?Lz ?hb ?bs) (lV:?Lz ?dC ?cT) (FW:?Lz ?hb ?ap) (GC:?Lz ?dC ?e4) (QJ:?Lz ?hb ?ae) (qR:?Lz ?dC ?dd) (qK:?Lz ?hb ?b3) (qS:?Lz ?dC ?fL) (KW:?N9 ?bs) (lW:?Lz ?mM ?bs) (kU:?Lz ?mr ?bs) (KR:?aK K ?cT ?kt=?kD) (na_Lines_rows:?MH ?cT ?fP) (na_Lines_backs:?MH ?cT ?gX) (FU:?N9 ?ap) (gK:?Lz ?mM ?ap) (fT:?Lz ?mr ?ap) (FQ:?NF ?e4) (na_Stairs_rows:?MH ?e4 ?fP) (na_Stairs_backs:?MH ?e4 ?gX) (na_Stairs_starts:?MH ?e4 ?y0) (QE:?N9 ?ae) (qX:?Lz ?mM ?ae) (qD:?Lz ?mr ?ae) (QA:?NF ?dd) (na_Work_table:?MH ?dd ?f4) (na_Work_width:?MH ?dd ?kz) (na_Work_left:?MH ?dd ?qN) (na_Work_right:?MH ?dd ?pa) (na_Work_numbers:?MH ?dd ?Iu) (qF:?N9 ?b3) (QX:?Lz ?mM ?b3) (QD:?Lz ?mr ?b3) (qB:?NF ?fL) (na_Book_pieces:?MH ?fL ?u7) (na_Book_levels:?MH ?fL ?p7) (na_Book_lifts:?MH ?fL ?lp) (RT:?Pm "GAPS" (?v aX)) (QM:?PR aX #[?eZ,?an,.seq #v[?l 32 fF,?l 16 FE,?l 8 FD,?l 4 fD,?l 2 fC] qJ,KJ]) (Uf:?Pm ?GX (?v Jz)) (Tl:?PR Jz #[?eZ,?an,.seq #v[?l 0 Pl,?l 2 Pk,?l 3 Pj,?l 4 Pi] Th,Ru]) (Zh:?Pm ?y8 (?l 40 Se)) (HR:?Pm ?vY (?l 4 M1)) (Uc:?Pm ?BH (?l 40 Oi)) (Xw:?Pb ?oG) (Ah9:?Pb "int") (vE:?Pb ?ks) (PM:?Pb ?jY) (Ah4:?Pb "zip") (Ah7:?Pb "max") (Ah8:?Pb "len") (Ai1:?Pb "all") (pN:?Pb "range") (VD:?Pb "dict") (Ai0:?Pb "any") (Ah5:?Pb "sum") (vD:?Pb ?hy) (m8:?Pb ?dJ) (Ah6:?Pb "min"),∃fd:FuncData,(∀(s:Shared) (v:Value),BindsTo s fd #[[v],[]] [(?gz,v)])/\∀base:Heap,K.In ?N->base.Ns ?X mg->?MT ?N fa
instance:Nonempty World:=#[#[?qk,{ strHash:=?dy,shareClass:=?dy,mergeTok:=λt=>t,idOf:=?dy,idOfShared:=?qk,followText:=λ_=>false,idOfImm:=?dy }]]
abbrev W0:?KR:=?Bl λW0=>¬?M6 ?kR
@[irreducible] abbrev P:Program:=W0.1
@[irreducible] abbrev w:World:=W0.2.1
@[irreducible] abbrev K:PySem.W.Frag:=?mv
@[irreducible] abbrev mg:?iV:=?mL
@[irreducible] abbrev C_Lines:Addr:=?kr
@[irreducible] abbrev C_Stairs:Addr:=?mb
@[irreducible] abbrev C_Work:Addr:=?l6
@[irreducible] abbrev C_Book:Addr:=?kR
@[irreducible] abbrev base:Heap:=?Bl ?wn
def TZ(h:∀[?a6],?kC->?vt)[?a6](F:?kC)(b:Heap):?I3 :=qm6 λz=>(by (obtain⟨f,fd,F2,n⟩:∃f fd,?kC/\¬?vt:=by unfold base;show Classical.epsilon_spec (p:=?wn) #[b,f,fd,F,z]);show n (h F2))
def xS(h:?Jj)(P:Program)(w:World)[?H][?ur]:?Jj:=by refine qm6;intro z;let n:¬?M6 ?kR:=@Classical.epsilon_spec _ (λW0:?KR=>¬?M6 ?kR) #[(P,w,K,mg,C_Lines,C_Stairs,C_Work,C_Book),z];refine n;unfold Hb.P Hb.w Hb.K Hb.mg Hb.C_Lines Hb.C_Stairs Hb.C_Work Hb.C_Book at h;show @h
def kN:?Ll ?g2 ?g2 Wn:=Bg
def LC[?a6](F:?Lc ?tw ?tw Wn)[?aI] :?LS ?g2 (K7 K):=by apply ?Lp kN;let#[x,d,?h,hx,k]:=h;apply(?RI (Nf (?Rj "int" T.n_int boot_intT) (Lq (At9 (?Rj ?ks T.n_bool dS)))));apply(?Ot ?gs);apply ite2 ?tf ?tf;{apply(?Ot ?sw);(let e2:We d=!TR ?ks d:=by unfold We;rw[e];rfl);rw[e2]at k;show k};(let e2:We d=false:=by unfold We;simp[e]);rw[e2]at k;show k
def Dh:?Ll ["one",?hC,"last","now",?HJ,"rest"] ?HI Kg:=Bg
def Yj[?a6](F:?Lc ?px ?px Kg)[?aI] :?LS ?HI (v4 K):=by apply ?Lp Dh;let#[n,p,?h,hA,hB,lA,lB,k]:=h;apply#[_,(Ad (?Mm 2 ?g8 (?Rq ?B ?K4)) (Ad (?Mm 3 ?g8 (?Rq ?Q ?K4)) (Ad (Yc qb8 (?MG Ja ?Ju) (Ad (Ao (i:=4) ?g8 (Be Jt ?FW ?Ju)) (Ad (Ao (i:=5) ?g8 (?Rh (?Pl (Bu (N':=?GP) (cap:=(?Om 4)) ?z ?bh (?O0 Aa1 ?aj) (?LU Al9 Al9) ?cq (?La (Be Gq ?B ?KE)))))) (Ad (?Mm 2 ?g8 ?bb) (Ag (?Mm 3 ?g8 (pv 5))))))) (Ad (Ci (?MG Yi ?FW) (Ag (Bb (?Rh (Aa (Bu (N':=[?bj]) (cap:=?sI) ?z ?bh (?Rs Yr ?aj) (?La (?Pi 0 wU)) ?cq (?La (L8 Hr ?B))) Ac)))) Bm) ?Fg)))),?_];ext c0;apply#[?j,?dW,λL0 hL0=>?_];let s0:?K H ?pG:=?aZ hL0;apply#[?j,?dW,λN0 hN0=>?_];let s1:?K ?pG ?KM:=?aZ hN0;apply ?Qn [iS n,iS p,rS L0,rS N0,none,none] (H'=?KM);rintro _ _ ⟨rfl,rfl⟩;apply ?Qv (Ex9 λ ?sA (a x y u v:Int) ?rv=>Br ?HP ?a4 (?NS H' L ?hp) (?Nt a 0));{apply#[λm σ G=>MT λ ?sA (a x y b u v:Int) ?rv=>Zt (σ=?Id) ?dk (?NS G L ?hp) (?NS G N ?pu) (?Nt a b) (a.natAbs<L9) (b.natAbs<L9) (m=b.natAbs),#[_,L0,N0,n,1,0,p,0,1,?an,?as,s0.trans s1,?Mo s1 Ab,?f1,Lat.EuI.start hA hB,lA,lB,?h],?_];rintro m σ G C9;apply Ad3 ?_;intro _;let#[L,N,a,x,y,b,u,v,o4,o5,?h,s2,hL,hN,hE,la,lb,?h]:=C9;apply(?Ni N hN);apply ?d4;{(let hb0:¬b=0:=?a8);let#[hE2,hlt]:=hE.step hA hb0;let#[?gl,lu,lv]:=hE.all hA hB;(let lq:?Ei<L9:=by apply qc1 ?_ la;let h3:(?d6*b).natAbs<=a.natAbs+(?oU).natAbs:=zn1 _ _;rw[qb5]at h3;let h4:0<b.natAbs:=Int.natAbs_pos.mpr hb0;apply qh7 λh5=>?_;let h6:=qc2 b.natAbs (show a.natAbs+1<=?Ei from h5);rw[qg5,qg4]at h6;let h7:=qf8 a.natAbs h4;ext d);let ok:∀z:Int,z.natAbs<L9->?ck ?d6 z:=λz hz=>iY lq hz;apply#[λσ' G'=>MT λ ?sA (a' x y b' u v:Int) ?rv=>Zt ?HP ?Di (?NS G' L [?l a',?l x,?l y]) (?NS G' N [?l b',?l u,?iy]) (?Nt a' b') (a'.natAbs<L9) (b'.natAbs<L9) (b'.natAbs<b.natAbs),?_,?_];{rintro σ' G' ⟨L',N',a',x',y',b',u',v',o4',o5',rfl,q1,q2,q3,q4,q5,q6,q7⟩;show#[b'.natAbs,q7,L',N',a',x',y',b',u',v',o4',o5',?h,q1,q2,q3,q4,q5,q6,?h]};apply#[?j,L,_,?n,hL,?h,?j,N,_,?n,hN,?h,?n,Xt.of9 hb0 lb,?_];apply#[?G,L,N,?h,#[_,hL],#[_,hN],?cH];(let gv:∀(i:Nat) (e f:V),?N3 ((?hp:?C)) e->?N3 ((?pu:?C)) f->∃e' f':Int,e=?l e'/\f=?l f'/\?ck ?d6 f'/\i<3 ∧ (?jb:?C)[i]?=?MU (e'-?d6*f'):=by intro i e f he hf;match i,he,hf with| 0,he,hf=>cases he;cases hf;show#[a,b,?aB,ok _ lb,?cw]| 1,he,hf=>cases he;cases hf;show#[x,u,?aB,?Jp,?cw]| 2,he,hf=>cases he;cases hf;show#[y,v,?aB,?Jp,?cw]| i+3,he,hf=>simp at he);apply oY (K:=K) (a:=L) (b:=N) (xs:=?hp) (ys:=?pu) (n:=3) ?uT (?Pq ?jb (?MM ?i (?l ?d6))) ?Gl (λi zs τ G1 _ hz=>?PN s3 #[?la hL,?la hN]) ?_ ?_;{rintro i e f zs τ G1 pr he hf C9 XM;revert τ;apply CK ?_;intro s3 OQ hzs o1 o2 Eg;let#[e',f',?aB,hok,hi3,hnext]:=gv i e f he hf;let sp:?K G1 (?MJ G1 pr [?l e',?l f']):=?aZ XM;apply ?oQ;apply#[?G,?j,?n,hok,?n,?_];apply#[sp _ _ OQ,?OP ?d7,(?Fl sp).turn hD,?b6,_,?j];rw[qd6,hnext,hzs];rfl};rintro zs τ G1 ⟨s3,OQ,hzs,_⟩;apply ?ET;let s4:?vu:=?oK;let Az7:zs=?jb:=hzs;(let hT2:?NS ?wT T1 ?jb:=?Bp);show#[?G,N,T1,b,u,v,?oU,?wH,?xI,_,?j,?oP,(?Fl s4).seqT hN,hT2,hE2,lb,qw8 hlt lb,hlt]};(let hb0:b=0:=?a8);subst hb0;show key _ _ #[L,N,a,x,y,u,v,o4,o5,?h,s2,hL,hE]};apply Ba1 λL N a x y u v o4 o5 G s2 hL hE=>?_;intro sq;let ?t4:=hE.last hA hB;apply#[?j,L,_,?n,hL,?h,?n,?j,?_];apply ?d4;{(let ha:a<0:=?a8);apply(?MQ L hL);have Pq1:?cp:=?Pq ?sV (Ex λo1=>τ=[o1]);apply j5 (K:=K) (a:=L) (xs:=?hp) Pq1 ?lE (λi zs τ G1 _ hz=>?Mk #[s3,_] ?la hL) ?_ ?_;{rintro i e zs τ G1 he C9;revert τ;apply ?hl;intro s3 OQ hzs o1 Eg;(let gv:∃e':Int,e=?l e'/\i<3/\(?sV:?C)[i]?=?MU (-e'):=by match i,he with| 0,he=>cases he;show#[a,?h,?cw]| 1,he=>cases he;show#[x,?h,?cw]| 2,he=>cases he;show#[y,?h,?cw]| i+3,he=>simp at he);let#[e',?h,hi3,hnext]:=gv;apply#[?G,OQ,?OP ?d7,s3.turn hD,?b6,?j];rw[qd6,hnext,hzs];rfl};rintro zs τ G1 ⟨s3,OQ,hzs,_⟩;apply ?ET;let s4:?vu:=?oK;let Az7:zs=?sV:=hzs;show k T1 (-a) (-x) (-y) _ ?oP ?Bp (e2 ha)};(let ha:¬a<0:=?a8);show#[?j,k L a x y G s2 hL (e1 ?g)]
def kM:?Ll ?nH ?nH Wm:=Bg
def lC[?a6](F:?Lc ?p9 ?p9 Wm)[?aI] :?LS ?nH ?Gi:=by apply ?Lp kM;let#[x,ds,?h,hx,k]:=h;apply(?RI (?Rm (Be Gq ?iG Ah) ?Gx));(obtain⟨p,us,e,hq,hl⟩:∃(p:Addr) (us:?C),x=?el/\?RS p p:=by rcases hx with⟨p,us,e,hq,r⟩|⟨p,us,e,hq,r⟩;{show#[p,us,e,?r hq,?qb]};show#[p,us,e,?sY,?qb]);subst e;apply#[?j,p,?jD,?n,_,?j,?_];rw[hl];show k
def M8:?Ll [?cD,"faces","j","i"] ?BI Oo:=Bg
def BZ[?a6](F:?Lc ?sC ?sC Oo)[?aI] :?LS ?BI (Sh K):=by apply ?Lp M8;have#[a,v,xs,p,?h,hL,hv,Uw,hf,k]:=h;have#[pa,?h,hq]:=hv.sq;let hpl:(p.map ?ax).length=p.length:=qa5 ..;apply#[_,(Ad (Ch qb8 ?h (?OW (?Pl (?Rp (Aa ?Q Ac)))) (?Pi 2 M8.nd) (Ag (Ch qb8 ?h ?w3 (?Pi 3 M8.nd) (Ag (Ci (?Rr Ja (?MP (?QB ?aj) ?bb) (?MP (?QB ?bb) ?qD)) ?lz Bm))))) ?lz),?_];ext c0;apply#[?j,pa,?j,?sY,?j,?g,?g,?_];rw[hpl];have Pq2:?fA:=λj σ H2=>Ee ?xF ((∃o2 o3,σ=[rS a,rS pa,o2,o3])) (∀j' i',j'<j->?PA j' j');apply De (lo:=0) (n:=((p.length:Nat):Int).toNat) Pq2 #[?h,#[?an,?as],λj' i' h=>?x9] ?_ ?_;{rintro j σ H2 hj C9;ext f;apply ?az;let#[?h,#[o2,o3,?h],hall]:=C9;apply ?ay;let hj':?CZ:=?g;apply#[?G,?g,?g,?_];have Pq3:?fA:=λi σ H2=>Ee ?xF ((∃o3,σ=[rS a,rS pa,?MU (0+j),o3])) (∀i',?PA i j);apply De (lo:=0) (n:=?xv) Pq3 #[?h,?gP,λi' h=>?x9] ?_ ?_;{rintro i σ H2 hi C9;ext f;apply ?az;let#[?h,#[o3,?h],hall2]:=C9;apply ?ay;let hij:i<j:=?g;(let mj:?lY∈p:=by rw[qa1,qa0 hj'];show ?fT);(let mi:?kP∈p:=?Ft);apply ?az;let#[j0,j1,j2]:=hf _ mj;let#[i0,i1,i2]:=hf _ mi;let#[_,z,hq1,at1]:=?OD ?gW hv;apply ?ay;cases z;rw[?LV (?xv=j)]at at1;apply ?az;let#[_,z,hq2,at2]:=?OD ?de hv;apply ?ay;cases z;rw[?xO]at at2;apply ?az;let#[us1,v1,hu1,av1,tv1]:=LT.get hL j0 j1;let#[us2,v2,hu2,av2,tv2]:=LT.get hL i0 i1;let#[b1,e1,hb1,ab1]:=?OD ?de tv1;let#[b2,e2,hb2,ab2]:=?mc (i:=?gW-1) tv2 ?g ?g;apply ?ay;subst e1 e2;rw[?xO]at ab1;rw[?N7 ((?gW-1).toNat=j-1)]at ab2;apply#[?G,?j,pa,_,?n,hq1,at1,a,us1,?n,hu1,av1,?j,b1,_,?n,hb1,ab1,?_];apply#[?G,?j,pa,_,?n,hq2,at2,a,us2,?n,hu2,av2,?j,?n,b2,_,?n,hb2,ab2,?_];apply#[?h,?j,?_];cases hag:?ML 0;{apply Nk (eqI hag) ?_;apply#[?h,?gP,λi' h=>?_];cases hz:i'=i;{subst hz;unfold Zj;show qe7 hag};show ?vX};apply aV (neI hag) ?_;(let e2:?re=false:=by cases q:?re with| false=>rfl| true =>unfold Pb at q;rw[qd4]at q;let q2:=q j (?oh hj');rw[qd4]at q2;let q3:=q2 i (?oh hij);show ?aO (qc6 q3) hag);rw[e2]at k;show k};rintro σ H2 ⟨rfl,⟨o3,rfl⟩,hall2⟩;apply#[?h,#[_,?j],λj' i' h1 h2=>?_];cases hz:j'=j;{subst hz;show ?vX};show hall j' i' ?g h2};rintro σ H2 ⟨rfl,⟨o2,o3,rfl⟩,hall⟩;(let e2:?re=true:=by unfold Pb;rw[qd4];intro j hj;rw[qd4];intro i hi;let:=?rh;show hall j i ?g ?ea);rw[e2]at k;show k
def fQ:?Ll [?ek,?bl,?bj,"total"] ?Ie bU:=Bg
private def tF[?a6](F:?Lc ?uW ?uW bU)[?aI] :?LS ?Ie (Up K):=by apply ?Lp fQ;let#[a,ms,k,n,?h,ha,hl,kq]:=h;let Sa:=hr.u8;apply(?RN (?Mm 3 fQ.nd (?R4 C5 ?Q ?aj)) (Ag (Ci (?MG Eh ?bb) (Ag (B7 (WA ?B ?Q nU ?iM))) (Ag (Ye ?dz ?B ?Q ?bb ?z)))));ext c0;apply#[?j,a,?h,?Os ?rP,?j,_,U4 ?rP,?j,?aE,n,U7 ms k,?h,?_];ext nM;{(let e:?gM=0:=?a8);unfold Ks at kq;rw[?aq]at kq;apply#[?j,a,?h,?Os ?rP,?j,?bH,?kg,ha,?h,λv hv=>?_,λhn=>?_];{rw[Af6];show kq};rw[pB]at hn;(let hn':?F3:=by simpa using hn);(let e2:?dR=ms:=by unfold Kd;rw[List.filter_eq_self];intro p hp;(let:¬?ci:=λz=>by let h3:?KW:=qs1.mpr #[p,hp,?iF];rw[aZ]at h3;let#[p',hp',e']:=?b7 h3;rw[←e']at hn';(let:∀(ns:Ms),p'∈ns->?bY ns p'.1≠none:=by intro ns;induction ns with| nil=>intro z;cases z| cons q ns ih =>intro hq;rw[En];split;{show ?xf};rename_i hne;rcases ?kI hq with rfl | hq;{show ?aO ?h hne};show ih hq);show ?ah ms hp' hn');ext eC);rw[e2,Ar1 ha]at kq;show kq};(let e:¬?gM=0:=?a8);unfold Ks at kq;rw[?bG]at kq;show#[?G,?j,a,?j,Y2 ha hl,kq]
def vQ:?Ll ?tz ?tz iJ:=Bg
private def WH[?a6](F:?Lc ?pY ?pY iJ)[?aI] :?LS ?tz (Sg K):=by apply ?Lp vQ;let#[n,a,ms,?h,ha,hm,hok,k]:=h;apply(?RN (?Qq Eh ?B (?Ln Fx)) (Ag (Bb (?Ro (DR ?z) (NU (Bu (N':=?JG) (cap:=(?Om 0)) ?z ?bh (Nd ?Q) (?LU Al7 Al7) ?cq (?La (?Rq ?B (Aa ?KE Ac)))))))));ext c0;ext nM;{(let e:n=0:=?a8);intro D hD;apply k D _ hD ?dP ?_;rw[Ab];unfold Dm;rw[?aq];rfl};(let e:¬n=0:=?a8);ext Kl;have Pq4:?cp:=?R0 (Ex λ(ts:?zt)=>L6 (zs=ts.map V.ref) (ts.length=i) ((∀(j:Nat) t,?NW ts t->∃p:?b4,ms[j]?=?eT/\H1 t=?i (?aa [?l ?p,?l ?iS])/\t≠D)) ?sy ?tb ?wj (?MM iS n));apply ?MB Pq4 #[[],?aB,(λj t z=>?vn),?_,?b6,?an,?as] #[?gl,e,_];ext Ku;{rintro i kk x zs τ H1 p hx ⟨ts,rfl,qU,hts,ha1,Eb,hk1,o1,o2,rfl⟩ hp;let ?n9:=?me;let hlt:?m0:=?lw;let sp:?Hz:=?dj;apply ?rz;apply#[?G,?j,?n,?ID,?dW,?Aq];let st:=sp.trans (?aZ (o:=?aa [?uQ,?l (n*q.2)]) ht);let ntD:t≠D:=(Aq ?ph ht).symm;apply#[st _ _ Eb,?P6 ?d7,ts++[t],?b8,by simp[qU],λj t' e2=>?_,?_,Ab,?zd,_,?j];{rw[List.getElem?_append]at e2;split at e2;{let#[p',mV,h2',h3']:=hts j t' e2;show#[p',mV,by rw[Aj h3'];show st _ _ h2',h3']};rename_i hj;(let hj0:?Hg=0:=by cases hz:?Hg with| zero=>rfl| succ m=>rw[hz]at e2;simp at e2);rw[hj0]at e2;(let et:t=t':=by simpa using e2);subst et;apply#[q,by rw[show j=i by ext d];show hq,?_,ntD];rw[Aj ntD];show Ab};{rw[?nz];show st _ _ ha1};let:=?CB;rw[?NH Aj];show st _ _ ?ah};rintro zs τ H1 ⟨ts,rfl,qU,hts,ha1,Eb,hk1,_⟩;rw[Iv]at qU;apply#[ha1,D,ts,cK ?op,?h,?vN,(by rw[Iv,qa5];show qU),λi t e2=>?_,λE hE=>?_];{let#[p,mV,h2',_]:=hts i t e2;apply#[(?r ?p,?l ?iS),?_,?_];{unfold cK;rw[qa9,qa9,mV];rfl};let nta:t≠a:=F6 h2' ha1 ?xf;rw[Aj nta];show h2'};(let s1:?K H (upd H1 a ?iX):=λc q e2=>by ext un;show ?Em);apply k E _ (s1.free hE) (?hg (?aZ hE)) ?_;rw[Ab];let hnd':?bB:=?t9;rw[Q5 _ [] (by rw[qq4];show Ng.mpr (OE hnd' n))];unfold Dm;rw[?bG,qq4]
def VP:?Ll ?rM ?rM II:=Bg
def wH[?a6](F:?Lc ?td ?td II)[?aI] :?LS ?rM (bJ K):=by apply ?Lp VP;let#[a,b,ms,ns,?h,ha,hb,nab,hm,hok,k]:=h;let Sa:=hr.u8;apply(?Pf (Av (?Rs oO ?z) T.n_sum uN (Aa (NU (Bu (N':=?yv) (cap:=?Hy) ?z ?bh (Nd ?B) (?LU Al6 Al6) ?cq (?La (Be Js ?Q (?Rg ?aj))))) Ac)));ext Kl;have Pq5:?cp:=?R0 (Ds (zs=(?Fz λp=>p.2*?yP).map ?ax) ?sy ?tb ?wj (?MM rS b));apply ?MB Pq5 #[?h,?_,?b6,?an,?as] #[_,e,_];ext Ku;{rintro i kk x zs τ H1 p hx C9 hp;revert τ;apply xC ?_;intro hz1 ha1 Eb hk1 o1 o2 Eg;subst hz1;let ?n9:=?me;let hlt:?m0:=?lw;let sp:?Hz:=?dj;(let hb1:Rd H1 b ?tD:=by rcases hb with h|⟨z,h⟩;{show ?r ?Ip};show ?F #[z,?Ip]);let hb2:=qC sp hb1;apply ?rz;apply#[?G,b,?h,?Os hb2,?j,_,U4 hb2,q.2,Am ns q.1,?h,U7 ns q.1,?ID,?_];apply#[?ph,?d7 ?ej,?_,?_,Ab,?zd,_,?j];{rw[qo1,hq,qb2,qb2];rfl};{rw[?nz];show sp _ _ ha1};rw[?NH Aj];show sp _ _ ?CB};rintro zs τ H1 ⟨rfl,ha1,Eb,hk1,_⟩;rw[Iv,qd0]at Eb;apply#[ha1,D,?j,.of ?vN,k _ ?z4];ext un;show ?Em
def Ya:?Ll ?g2 ?g2 Ki:=Bg
def Yl[?a6](F:?Lc ?sq ?sq Ki)[?aI] :?LS ?g2 (PY K):=by
 apply ?Lp Ya;let#[v,xs,?h,hL,hx,k]:=h;let#[Oi,eW]:=T.x_MOST_PIECES;let#[a,?jD,r]:=id hL;let hl:?OU xs.length:=by let:=r.length;ext eC
 apply(?RI (Nf (?Rj ?hy T.n_list Cy) (Lq (Fq QF ?iG (Mo (v:=?l 40) ?z eW ?gP) ?aS))));apply#[?j,?O,?hy,?j,?F ?vW,hL,?j,?_];apply aV ?z ?_;apply#[?j,a,?j,?r hq,?n,?_];exact Q (.bl (?u ((us.length:Int)<=40))) H;rw[qe7 ?g];show k
def SS:?Ll ?oa ?oa BS:=Bg
def tD[?a6](F:?Lc ?uI ?uI BS)[?aI] :?LS ?oa (FL K):=by apply ?Lp SS;let#[v,h,w,j,f,?h,hv,hh,hj,k]:=h;let#[a,?jD,cP,Kl]:=J6 hv;apply(?Pf (?Ri ?y9 Ax2 ?rN));apply(?MQ a hq);have Pq6:?cp:=λi ys τ H1=>?QQ (VI i (λi=>f i j)) j;apply Ck (K:=K) (a:=a) (xs:=us) Pq6 ?lE (λi ys τ H1 _ hz=>?Mk #[s1,_] ?iH hq) ?_ ?_;{rintro i x ys τ H1 hx C9;revert τ;apply ?hl;intro s1 Eb hz1 o Eg;subst hz1;let ?Bq:=Kl i _ hx;apply#[?G,b,_,?n,?iH hb,Bo3 hj,?_];apply#[Eb,?rr,?Ee,?b6,?j];rw[Zn]};rintro ys τ H1 ⟨s1,Eb,rfl,_⟩;rw[cP]at Eb;show ?p0
def NK:?Ll ?oR ?oR Z4:=Bg
def NY[?a6](F:?Lc ?ts ?ts Z4)[?aI] :?LS ?oR (BJ K):=by apply ?Lp NK;let#[n,i,?h,hn,k]:=h;apply(?Pf (Bu (N':=?JB) (cap:=?o7) ?z ?bh (?OW ?ji) (?La (?RX Ax0)) ?cq (?La (Pz (?Rr Eh ?B ?Q) Ah Ah))));apply ?Jk;have Pq7:?cp:=λj ys τ H1=>?QQ (VI j ?G3) i;apply Le Pq7 ?lE ?_ ?_;{rintro j ys τ H1 hj C9;revert τ;apply ?hl;intro s1 Eb hz1 o Eg;subst hz1;apply ?AN;let sz:(VI j ?G3).length<sizeLine:=?rr;apply ?d4;{(let e0:?gW=?b1:=?a8);let e:j=i:=?g;apply ?Dt;rw[Zn,?aq]};(let e0:¬?gW=?b1:=?a8);let e:¬j=i:=?g;apply ?Dt;rw[Zn,?bG]};rintro ys τ H1 ⟨s1,Eb,rfl,_⟩;rw[qc4]at Eb;show ?p0
def VQ:?Ll ?oY ?oY IJ:=Bg
def WI[?a6](F:?Lc ?r3 ?r3 IJ)[?aI] :?LS ?oY (X0 K):=by apply ?Lp VQ;let#[a,b,x,y,n,p,q,?h,hx,hy,hn,hm,k]:=h;apply(?Pf (Bu (N':=?DH) (cap:=[none,none,?i 0,?i 2]) ?z ?bh (?O0 b8 ?Q) (?LU WT WT) ?cq (?La (Be C5 (Be Js ?aj ?B) (Be Js ?bb ?Q)))));apply#[?G,x,y,?h,#[_,hx],#[_,hy],?cH];apply U6 (K:=K) (a:=x) (b:=y) (xs:=VI n p) (ys:=VI n q) (n:=n) (by rw[Bw,Bw,qz8]) (?R0 (Br ?ec ?tb (zs=VI i (λj=>a*?cE+b*q j)) (Hm λo1 o2=>τ=[o1,o2,iS a,iS b]))) ?Gl (λi zs τ H1 _ hz=>?PN s1 #[?iH hx,?iH hy]) ?_ ?_;{rintro i u v zs τ H1 pr hu hv C9 hp;revert τ;apply CK ?_;intro s1 Eb hz1 o1 o2 Eg;subst hz1;let#[hi,?h]:=j8 hu;let ?gP:=j8 hv;let sp:?K H1 (?MJ H1 pr [?l (p i),?l (q i)]):=?dj;apply ?oQ;apply#[?G,?n,(hm i hi).1,?G,?n,(hm i hi).2,?n,?_];apply#[?ph,?rr,(?hg sp).turn hD,?b6,_,?j];rw[Zn]};rintro zs τ H1 ⟨s1,Eb,rfl,_⟩;show ?p0
def EI:?Ll ?nh ?nh Qt:=Bg
def EN[?a6](F:?Lc ?oM ?oM Qt)[?aI] :?LS ?nh (Ve K):=by apply ?Lp EI;let#[a,b,sp,ms,?h,qV,hb,hl,kq]:=h;let Sa:=hr.u8;apply(?Pf (?Ri ?vM Aw8 (?Rg ?Q)));apply(?MQ a qV);have Pq8:?cp:=?Qg (ys=((sp.take i).map ?DP).map ?ax) (?NK [o,rS b]);apply Ck (K:=K) (a:=a) (xs:=?wc) Pq8 ?lE (λi ys τ G _ hz=>?Mk #[g,_] g.seq qV) ?_ ?_;{rintro i x ys τ G hx C9;revert τ;apply ?hl;intro g Cu hys o Eg;(let hi:?sE:=?H5);(let hxv:x=?l sp[i]:=by rw[qa9,?fr]at hx;simpa using hx.symm);subst hxv;let AV:=qC g hb;apply#[?j,b,?h,?Os AV,?j,_,U4 AV,?_];rw[U7];apply#[Cu,?d7 (by rw[hys,qa5,qa5,qd1];ext d),g.turn hD,?b6,?j];rw[qd6,?fr,qb2,qb2,hys];rfl};rintro ys τ G ⟨g,Cu,hys,_⟩;rw[qa5,qd0]at hys;apply kq D G hD g ?_;rw[Cu,hys]
def sU:?Ll [?fe] [?fe] BU:=Bg
def TF[?a6](F:?Lc ?q2 ?q2 BU)[?aI] :?LS [?fe] (FN K):=by apply ?Lp sU;have#[u,t,?h,hu,k]:=h;apply#[_,(Ad (?Rl (?Rr Eh ?ib Q4) (?Rq Q4 (Aa ?ib (Aa ?ib (?Pl (L8 Hr ?ib)))))) (?Ln ?B)),?_];ext c0;cases t with| ad i j n =>have ?uJ:=hu;have ?Ch:=rT;apply ?HK;apply aV ?y ?_;apply#[?j,ta,_,?n,hT,?h,?j,ta,_,?n,hT,?h,?j,ta,_,?n,hT,?h,?j,?dW,?yB];show k _ _ ?oK #[T1,?j,?f1,?Ch]| mi i =>have ?uJ:=id hu;have#[?n,?n,?h]:=rT;ext Ki| sw i j =>have ?uJ:=id hu;have#[?n,?n,?n,?h]:=rT;ext Ki
def aJ:?aG ?sx ?sx ?zP:=Bg
def Rv[?a6](F:?Lc ?cb ?rj Fw)[?aI] :?LS ?sx (Po K ?bs ?ap ?ae):=by apply ?Lp aJ;let#[p,dx,C,r,b,?h,hC,hp,k]:=h;(let hc:Cls K C/\Ep K C ?fP/\Ep K C ?gX:=by rcases hC with rfl | rfl;{show#[T.cl_Lines,T.na_Lines_rows,T.na_Lines_backs]};show#[T.cl_Stairs,T.na_Stairs_rows,T.na_Stairs_backs]);apply(?RN (Fr (K:=K) ?B ?Q) (Ag (Fr (K:=K) ?B ?aj)));ext c0;apply#[?G,p,C,dx,?j,hp,hc.1,hc.2.1,?b8,?_];apply#[?G,p,C,dx,?j,Ab,hc.1,hc.2.2,by simp[putF],?_];show k _ _ ?h ?h
def Sl:?Ll [?e2,"at"] [?e2] Wj:=Bg
def KZ[?a6](F:?Lc ?pp ?pp Wj)[?aI] :?LS [?e2] (X6 K):=by apply ?Lp Sl;let#[c,W,st,u,?h,hq,hb,hW,k]:=h;let#[b1,b2,b3]:=hb;apply(?RN (?Mm 1 Sl.nd Ah) (Ad (Yc qb8 (?MG Eh ?rN) (Ag (?Mm 1 Sl.nd (Be C5 ?Q Ah)))) ?Fv));ext c0;apply ?Qn [rS c,?MU ?tg] (H=H');apply Gj ?_;intro sq;apply ?Qv (σ'=[rS c,?MU ((st:Int))]/\H=H');{apply#[λm σ G=>Ex λ ?dl=>Br (σ=[rS c,?MU ?bK]) (H=G) (j<=st) (m=st-j),#[_,0,?aB,?aM,?h],?_];rintro m σ _ C9;apply Ad3 ?_;intro _;let#[j,?aB,hj,?h]:=C9;apply#[?G,c,_,?n,hq,Bi ?EW,?h,?j,?_];apply ?d4;{(let h0:u j=0:=?a8);let hlt:j<st:=Nat.lt_of_le_of_ne hj λz=>b2 (z▸h0);apply#[λσ' G'=>Ex λ(j':Nat)=>Ee (σ'=[rS c,?MU ((j':Int))]) (H=G') (j'=?T),?_,?_];{rintro σ' G' ⟨j',rfl,rfl,rfl⟩;show#[st-?T,?g,?T,?aB,hlt,?h]};show#[?j,?n,?T,?aB,?h]};(let h0:¬u j=0:=?a8);(let hlt:j=st:=by rcases qi0 j st with h | h;{show ?aO (b1 j h) h0};ext d);subst hlt;show key _ _ ?uT};apply Gj ?_;intro sq;show#[?j,k]
def M7:?Ll [?f4,"i",?e2] [?f4] Om:=Bg
def BY[?a6](F:?Lc ?p6 ?p6 Om)[?aI] :?LS [?f4] (Rt K):=by apply ?Lp M7;let#[v,n,w,M,?h,hv,hn,hw,k1,k2]:=h;let#[ta,?jD,cP,Kl]:=J6 hv;apply#[_,(Ad (Ch qb8 ?h (?PQ ?ji) (Cq (K:=K) (n:=2) ?z (Ba (?Pi 1 M7.nd) (Ba (?Pi 2 M7.nd) Cp))) (Ag (Ci (D8 (Av (?Rs cN ?z) T.n_any HG (?Pl (Bu (N':=?Ga) (cap:=?Hy) ?z ?bh (?PQ ?zk) (?LU wR wR) (?La (AS (?Rr Ja ?B ?aj))) (?La (Fq Ja ?Q Ah ?aS)))))) ?lz Bm))) ?lz),?_];ext c0;apply za2 (λσ' H'=>?Nn σ' ?a4 n) ?qP ?_;{apply#[?j,ta,?h,#[us,hq],?_];have Pq9:?fA:=λi σ G=>?Nn σ ?dk i;apply Y0 (K:=K) (a:=ta) (xs:=us) Pq9 #[?an,?as,Same.refl H,λi j hi=>?g] (λi σ G _ hz=>?Mk #[_,_,_,s1,_] ?iH hq) ?_ ?_;{rintro i v σ G p hv C9 hp;ext f;revert σ;apply QO ?_;intro o1 o2 s1 hS Eg;let ?Bq:=Kl i v hv;let sp:?K G ?Ir:=?dj;apply ?rz;generalize ?Ir=G1 at sp;let s2:=?hg sp;apply(?MQ b ?B0);have Cj7:?cp:=λj zs τ G2=>Ex λ(bs:?av Bool)=>L6 (zs=bs.map V.bl) (bs.length<=j) ((?o3↔∃c,c<j/\c≠i/\M i c≠0)) (?K G1 G2) (G2 D=?u3) (j<=w) (?MM ?i (?l ?b1));apply Qb (K:=K) (a:=b) (xs:=VI w (M i)) Cj7 #[[],?h,?Z,#[λz=>?vn,λ#[c,hc,_]=>?g],?dP,Ab,?aM,?an,?as] (λj zs τ G2 _ hz=>?Mk #[?gl,g,_] g.seq ?B0) ?_ ?_;{rintro j y zs τ G2 pr hy ⟨bs,rfl,hbl,hiff,g,Cu,hj,q1,q2,rfl⟩ XM;let#[hjw,?h]:=j8 hy;let gp:?K G2 ?Df:=?aZ XM;apply ?oQ;generalize ?Df=G3 at gp;apply ?AN;apply ?d4;{(let hji:j≠i:=?O8 (?rt=?b1) ?a8);apply#[?j,?h,?F9,?P6 ?d7,bs++[!(?u (M i j=0))],?_,?ej,?_,(?Hi).turn hD,Ab,hjw,_,?j];{rw[qb2];congr 1;cases z:M i j=0<;>simp[z]};rw[List.any_append,qt4,hiff];constructor;{rintro (⟨c,h1,h2,h3⟩ | h);{show ?GB};show#[j,?g,hji,?ke]};rintro ⟨c,h1,h2,h3⟩;rcases qi0 c j with h | h;{show ?r #[c,h,h2,h3]};let:c=j:=?g;subst this;show ?F (by simpa using h3)};(let hji:j=i:=by (let:?rt=?b1:=?a8);ext d);apply#[bs,?h,?g,hiff.trans #[λ#[c,?a1]=>#[c,?g,h2],λ#[c,?a1,h3]=>?GB],?Hi,?F9,hjw,_,?j]};rintro zs τ G2 ⟨bs,rfl,_,hiff,g,Cu,_⟩;rw[Bw]at hiff;apply#[D,bs,?h,.of Cu,?j,?_];apply ?d4;{(let h2:?o3:=?a8);let#[c,c1,c2,c3]:=hiff.mp h2;show k2 (λz=>c3 (z i c hi c1 λe=>c2 ?en)) _ (?tZ g)};(let h2:¬?o3:=?a8);apply#[_,?j,?tZ g,λx c hx hc hne=>?_];rcases qi0 x i with h | h;{show hS x c h hc hne};let:x=i:=?g;subst this;show qh3 λz=>h2 (hiff.mpr #[c,hc,λe=>hne ?en,z])};rintro σ G C9;revert σ;apply QO ?_;intro o1 o2 s1 hS Eg;rw[cP]at hS;show key _ _ #[_,?j,s1,hS]};apply jW λo1 o2 G s1 hS=>?_;intro sq;show k1 hS _ s1
def iI:?Ll ?sG ?sG Sz:=Bg
def IU[?a6](F:?Lc ?sm ?IF Sz)[?aI] :?LS ?sG (KI K ?b3):=by apply ?Lp iI;let#[p,k,B,xs,ls,?h,bk,sB,hk0,hk1,kq]:=h;let#[dx,P,Lv,Lf,lu,wu,hp,_,_,_,hLf,dd]:=bk.ob;let hl:?MS ?dn wu.length:=dd.1.symm;apply(?RI (?Ro Fn (At ?jO (?Rs Bd ?B) ?Q ?ao)));obtain⟨v,hv⟩:∃v,wu[k.toNat]?=?dZ:=#[_,qa0 (?Ok P1 ?c7 ls)];let#[c,?h,_,hc]:=dd.2 _ v hv;(let hat:eX wu k=?i ?eJ:=by let:=Bi hv;rwa [?N7 (((k.toNat:Nat):Int)=k)]at this);show#[?j,p,?b3,dx,_,?j,sB _ _ hp,T.cl_Book,T.na_Book_lifts,?h,?j,Lf,wu,?n,?Mo sB hLf,hat,c,?j,?r (sB _ _ hc),λD hD=>kq D _ hD ?dP Ab]
def Wh:?Ll ?n7 ?n7 Jm:=Bg
def W2[?a6](F:?Lc ?qz ?qz Jm)[?aI] :?LS ?n7 (M3 K):=by apply ?Lp Wh;let#[a,us,ps,?h,ha,rU,hpl,kq]:=h;apply(?Pf (Bu (N':=?B6) (cap:=?sI) ?z ?bh ?nj (?La (?RX Aw6)) (?La (AS (?Rr Ja ?ib Ah))) (?La ?B)));apply(?MQ a (.of ha));let ul:=rU.len;have Cj6:?cp:=?Qg (Cd G ys (Lr ?kl)) ?vS;apply HA (K:=K) (a:=a) (xs:=us) Cj6 #[?dP,Ab,trivial,?as] (λi ys τ G _ hz=>by let#[h1,_]:=hz;show ?Mo h1 ha) ?_ ?_;{rintro i v ys τ G hv C9;revert τ;apply ?hl;intro h1 Cu rY o Eg;let hi:=(?aU hv).1;let#[p,hp,pv]:=rU.get hv;let pv1:=pv.same h1;let#[t,c1,c2,c3,?h,et,_]:=id pv1;(let oV:ps.take ?t=?kl++[p]:=by rw[qd6,hp];rfl);(let yl:ys.length<=1000:=by let h2:=rY.len;let h3:=qi8 (λp:BPart=>?u ?r6) ?kl;rw[qd1]at h3;unfold Lr at h2;ext d);apply(?Ni t (.of et));apply ?pg;{(let hb3:¬?em:=?gT);apply#[?j,Cu,?iK,h1.turn hD,?b6,?j];rw[oV,LL,?s hb3];show Cd.snoc (?lO Cu rY) (pv1.put Cu)};(let hb3:?em:=?gT);apply#[h1,Cu,?_,?j];rw[oV,LL,?E hb3];show rY};rintro ys τ G ⟨h1,Cu,rY,_⟩;rw[ul,qd0]at rY;show kq D ys G hD h1 Cu rY
def BQ:?Ll ?oe ?oe On:=Bg
def bZ[?a6](F:?Lc ?su ?su On)[?aI] :?LS ?oe (Lk K):=by apply ?Lp BQ;let#[v,d,?h,hd,k]:=h;apply(?RI (Pz ?Is (Fq Eh ?B Ah ?aS) (Fq Eh (Be Fy ?B ?Q) Ah ?aS)));ext nM;{(let h2:d=0:=?a8);subst h2;apply#[?j,?h,?_];rw[Bf3];(let e:?u (?bQ∣v)=?u (v=0):=by simp[qx1]);rw[e]at k;show k};(let h2:¬d=0:=?a8);apply#[?G,?n,(by exact ?bQ<d;ext d),?h,?_];rw[Bf3];(let e:?Bz=?u (v%d=0):=by simp[Int.dvd_iff_emod_eq_zero]);rw[e]at k;show k
def NO:?Ll ["_law_piece"] ["_law_piece"] Z9:=Bg
def OB[?a6](F:?Lc ?ta ?ta Z9)[?aI] :?LS ["_law_piece"] ?Gi:=by apply ?Lp NO;let#[v,ds,?h,hs,k]:=h;apply(?RI (Be Gq (?Rm Ah (?Pl ?iG)) Ah));(obtain⟨t,us,rfl,hq,r⟩:∃t us,?nL/\?RS t t:=by rcases hs with⟨t,us,e,h1,h2⟩|⟨t,us,e,h1,h2⟩;{show#[t,us,e,?r h1,?vI]};show#[t,us,e,?F h1,?vI]);apply#[?j,t,?jD,_,?j,?n,?_];rw[r];(let e:?Nb 1=Cc ds.length:=by unfold Cc;split<;>split<;>ext d);exact Q (?l (?Nb 1)) H;rw[e];show k
def G8:?Ll [?jS,?qg,?nl] [?jS] Hx:=Bg
def Tb[?a6](F:?Lc ?rE ?rE Hx)[?aI] :?LS [?jS] (Si K):=by apply ?Lp G8;let#[a,ms,?h,ha,hm,k]:=h;let Sa:=hr.u8;apply(?RN (?Mm 1 G8.nd Fx) (Ad (Q3 (Ch qb8 ?h (Yg ?B) (?Pi 2 G8.nd) (Ag (?Qq Ja ?wd (Ag (Ye ?dz ?Q ?aj ?wd ?z)))))) ?Fv));ext c0;intro D hD;let naD:a≠D:=Aq ha hD;apply ?F #[a,?bH,(by rw[Aj naD];show ha),?u5];let tU:?bB:=?t9;apply#[?j,a,o,?bH,?h,?b6];have Cj5:?fA:=λi σ H1=>Ex λo1=>Br (σ=[rS a,rS D,o1]) ?sy (H1 D=?Lj ?nI) ((∀c q,c≠a->c≠D->?o9));apply Tx (d:=a) (o:=o) (kvs:=?bH) Cj5 #[?as,?b6,λc q n1 n2 e=>by rw[Aj n1,Aj n2];show e] (λi σ H1 _ hz=>by let#[_,_,e,_]:=hz;show e) ?_ ?_;{rw[Aj naD.symm,Ab];rfl};{rintro i kk x σ H1 hx C9;ext f;revert σ;apply qP ?_;intro o1 ha1 Eb hk1 Eg;let ?n9:=?me;let hlt:?m0:=?lw;let hat:?bY ms q.1=?i q.2:=?KT;apply#[?G,a,?lD,?h,?EB,?h,?j,?_];let ct:=gZ hq;apply ?d4;{(let e:¬?jL:=?a8);rw[?bG]at ct;(let ln:?Ls ?nI 1000000:=by let:=qM ?hc;rw[qd1]at this;ext d);apply#[?G,a,?lD,?h,?EB,?G,D,?j,Y2 Eb ln,?_];apply#[?j,?_,?_,λc r n1 n2 e2=>?_];{rw[Aj naD];show ha1};{rw[Ab,put_new (Af1 (VL tU hq)),ct]};rw[Aj n2];show hk1 c r n1 n2 e2};(let e:?jL:=?a8);rw[?aq]at ct;show#[?j,ha1,by rw[ct];show Eb,hk1]};rintro σ H1 C9;revert σ;apply qP ?_;intro o1 ha1 Eb hk1 Eg;rw[Iv,qd0]at Eb;apply#[ha1,?j,k D _ hD ?z4 (?PB naD.symm)];ext un;show hk1 c q z (Aq e2 hD) e2
def Ml:?Ll [?xD,?qg,?jS,?nl] ?AA Sx:=Bg
def IT[?a6](F:?Lc ?tP ?tP Sx)[?aI] :?LS ?AA (fN K):=by apply ?Lp Ml;let#[g,c,gs,cs,?h,hg,hc,hmul,kq]:=h;let Sa:=hr.u8;apply(?RN (?Mm 2 Ml.nd Ah) (Ad (Q3 (Ch qb8 ?h (Yg ?Q) (?Pi 3 Ml.nd) (Ag (Ao (i:=2) Ml.nd (Be C5 ?aj (?R4 Js ?bb (Ur ?dz ?Q ?bb ?ao))))))) ?Fg));ext c0;apply ?F #[c,?nA,hc,?u5];let tU:nd cs:=?t9;apply#[?j,c,o,?nA,?h,?b6];let hcF:upd H c ?jW c=?i ?jW:=Ab;(let rg:Rd ?JH g ?IK:=by cases z:g=c;{subst z;rw[hg]at hc;injection hc with hc;show ?F #[o,by rw[Ab,hc]]};show ?r (by rw[Aj z];show hg));(let hFk:∀d q,d≠c->H d=?cs->upd H c ?jW d=?cs:=λd q n e=>by rw[Aj n];show e);generalize ?JH=F0 at hcF rg hFk ⊢;have Cj4:?fA:=λi σ G=>Ex λo3=>σ=[rS g,rS c,?MU ?zb,o3]/\F0=G;apply Tx (d:=c) (o:=o) (kvs:=?nA) Cj4 #[?an,?aB] (λi σ G _ #[_,_,e]=>by rw[←e];show hcF) ?_ ?_;{rintro i kk x σ G hx C9;ext f;revert σ;apply lU ?_;intro o3 hz1 Eg;subst hz1;let ?n9:=?me;let hat:?bY cs q.1=?i q.2:=?KT;apply#[?G,g,?h,?Os rg,?j,_,U4 rg,?G,c,?lD,?h,?PP hcF,?q0,q.2,U7 _ _,?h,hmul q ?o0,?n,?_];(let ew:?RC ?t=?zb+?q0*q.2:=by rw[qd6,hq,Ul,qf7];exact _+(q.2*?q0+0)=_;rw[qf3]);show#[?i ?uQ,by rw[ew];rfl,?h]};rintro σ G C9;revert σ;apply lU ?_;intro o3 hz1 Eg;subst hz1;apply#[hcF,?j,?_];rw[Iv,qd0];apply kq _ λd q e=>?_;cases z:d=c;{subst z;rw[hc]at e;cases e;show Ab};rw[Aj z];show hFk d q z e
def iH:?Ll ?sO ?sO Sy:=Bg
def iU[?a6](F:?Lc ?r9 ?r9 Sy)[?aI] :?LS ?sO (X5 K):=by apply ?Lp iH;let#[a,ns,k,?h,hS,h0,hl,kq]:=h;apply(?RN (?Rl (?Rr Yi ?Q ?iG) ?rN) (?Ln Ah));ext c0;apply#[?G,a,?j,?r hS,?n,?j,?_];apply ?d4;{(let h2:k<(ns.length:Int):=?a8);(let e:eX ?lM k=?MU ?x3:=by let#[j,?h]:=ql1 h0;apply Bi ?_;let hj:j<ns.length:=?g;rw[qa9,?df];simp[DQ,hj]);show#[?G,a,_,k,?j,?h,hS,e,kq]};(let h2:¬k<(ns.length:Int):=?a8);(let e:?x3=0:=by unfold DQ;let:?QS k.toNat:=?g;simp[this]);rw[e]at kq;show kq
def Kx:?Ll [?lL,?rU,"_law_size","_law_faces",?HQ] ?J4 Qy:=Bg
def ES[?a6](F:?Lc ?sa ?sa Qy)[?aI] :?LS ?J4 (Oj K):=by apply ?Lp Kx;let#[v,w,fam,?h,hv,hw,k]:=h;let#[aw,?h,hq]:=hv.sq;let hlen:?MS ?gG w.length:=qa5 ..;(let hl4:w.length<=4:=by rcases hw with z | z | z<;>ext d);apply#[_,(Ad (?Mm 2 Kx.nd ?iG) (Ad (Ci ?Is (Ad (?Qq Yi ?aj ?vg) (Ag (Bb (Bu (N':=?yq) (cap:=[none,?i 0]) ?z ?bh ?w3 (?La (?Pi 0 Av8)) ?cq (?La (Be ?qa (Dd ?fz ?Q Fc (Dn ?B)) (?Rk ?Q (Be C5 ?B Ah)))))))) Bm) (Ad (Ci ?JQ ?vg Bm) (Ad (Ci (?MG Yi ?Q) (Ad (?Rl ?JQ (Gc (Aa ?H4 (?Pl ?H4)))) (Ag (Bb (Bu (N':=["_law_letter"]) (cap:=?sI) ?z ?bh (?Rs Yr ?B) (?La (?Pi 0 Av9)) ?cq (?La (Di ?ji)))))) Bm) (Ad (?Mm 3 Kx.nd (Gc (?Pl (?Rk ?B Ah)))) (Ad (Ch qb8 ?h (?OW (?Pl ?qD)) (?Pi 4 Kx.nd) (Ag (?RM (Be ?qa (Be ?qa (?PD ?sN) (?Rq (Be Fy (Be C5 (?MP ?B ?sN) (?MP ?B ?Bv)) ?Q) Ac)) (?Rk ?B ?Bv))))) (Ad (?RM (?PD ?qD)) (?Ln ?bb)))))))),?_];ext c0;apply#[?j,aw,?j,?sY,?_];rw[hlen];ext nM;{(let hf:fam=0:=?a8);subst hf;apply ?EN;apply ?pg;{(let h3:?K5:=by (let:?eV<2:=?gT);ext d);apply ?JJ;apply ?ER;(let e:Au w 0=[]:=?OJ ?W);rw[e];rfl};(let h3:¬?K5:=?O8 (?eV<2) ?gT);(let e:Au w 0=(?cX ?ED).map ?vH:=by unfold Au;rw[?W,?jm]);rw[e]at k;apply ?Jk;have Cj3:?cp:=?Mx ?E5 (Ex λo=>τ=[o,rS aw]);apply Le Cj3 ?Go ?_ ?_;{rintro i ys τ H1 hi C9;revert τ;apply XC ?_;intro hi1 s1 Eb r1 o Eg;(let hi2:?oZ:=by simpa using hi);let hq1:?NS H1 aw ?gG:=?I5;apply#[?G,?j,aw,?j,hq1,?_,λp1 H2 s2 q2=>?_];{rw[hlen];rintro ⟨_,z⟩;rw[?x7,HT.sIx_nat]at z;ext d};apply#[?G,?n,?j,aw,?j,s2.seqT hq1,?_,λp2 H3 s3 q3=>?_];{rw[hlen];rintro ⟨z,_⟩;rw[?C6,HT.sIx_nat]at z;ext d};rw[?x7,T9]at q2;rw[?C6,Np]at q3;apply#[p1,p2,?n,?la q2,q3,?_,λp H4 s4 q4=>?_];{apply Bx ?_;simp only[qd1,qj3,qa5];first | show zn4 ?g | ext d};let EL:?K H1 H4:=?oP;let GK:H4 D=?kO:=EL _ _ Eb;(let t4:TI K H4 ?el ?yt:=by apply ?mG;rw[qb2,qo2,qq5];show q4);let r4:?eo K H4 ys ?E5:=?lb EL r1;(let hyl:?xi:=by let:=r1.length;ext eC);apply#[GK,?iK,?g,(?hg EL).turn hD,?b6,?j];rw[qi6,qb2];show ?GS};rintro ys τ H1 ⟨_,s1,Eb,r1,_⟩;rw[?N7 ((?eV).toNat=w.length)]at r1;show ?wI};(let hf:¬fam=0:=?a8);apply ?pD;apply ?pg;{(let h3:?G6:=?gT);apply ?JJ;apply ?ER;(let e:?jv=[]:=?OJ ?jM);rw[e];rfl};(let h3:¬?G6:=?gT);apply ?EN;apply ite2 ?GZ ?GZ;{(let h5:fam<0:=?Gf);apply ?pD;apply ite2 ?BM ?BM;{(let h7:?yE:=by (let:?eV=1:=?wU);ext d);(let e:?jv=[[],[]]:=?NE ?E);rw[e]at k;apply#[?aM,λp1 hp1=>#[?aM,λp2 hp2=>#[?dW,?cJ]]];let s1:?K H ?qX:=?aZ hp1;let s2:?K ?qX ?pi:=?aZ hp2;let s3:?K ?pi (upd ?pi p (?a3 [?mh,?I7])):=?dj;let hp0:?fV:=(?mk).free hp;apply k p _ _ hp0 ((?mk).trans s3) Ab ?_;let t1:TI K _ ?mh []:=?jP (?Mo s3 (s2 _ _ Ab));let t2:TI K _ ?I7 []:=?jP (?Mo s3 Ab);show#[_,?j,t1,_,?j,t2,?h]};(let h7:¬?yE:=?O8 (?eV=1) ?wU);(let e:?jv=w.map ?kv:=?NE ?s);rw[e]at k;apply(?MQ aw hq);have Cj2:?cp:=?Mx ((?HE ?kv).map tI) ?vS;apply j5 (xs:=?gG) Cj2 ?Go (λi ys τ H1 _ hz=>by let#[_,s1,_]:=hz;show ?I5) ?_ ?_;{rintro i x ys τ H1 hx C9;revert τ;apply XC ?_;intro hi1 s1 Eb r1 o Eg;(let hi2:?oZ:=?H5);(let hx2:x=?Ho:=by rw[qa9,qa0 hi2]at hx;simpa using hx.symm);subst hx2;apply#[?j,?dW,?cJ];let s2:?K H1 ?B2:=?dj;let GK:=s2 _ _ Eb;let t4:TI K ?B2 ?el [w[i]]:=?jP ?f1;let r4:=?lb s2 r1;(let hyl:?xi:=by let:=r1.length;simp at this;ext d);apply#[GK,?iK,?g,(?mk).turn hD,?b6,?j];(let e2:(?iq ?t).map ?kv=?HE ?kv++[[w[i]]]:=by rw[qd6,qa0 hi2,qb2];rfl);rw[e2];show ?GS};rintro ys τ H1 ⟨_,s1,Eb,r1,_⟩;rw[hlen,qd0]at r1;show ?wI};(let h5:¬fam<0:=?Gf);let hpos:0<fam:=?g;(let e:?jv=?Oe ?l4++[?xQ]:=by unfold Au;rw[?jM,?jm,?s h5]);rw[e]at k;apply#[?G,aw,?j,hq,?_,λp1 H1 s1 q1=>#[?dW,?cH]];{rw[hlen];rintro ⟨z,_⟩;rw[?vw,HT.sIx_nat]at z;ext d};rw[?vw,Np]at q1;let UX:?bm:=s1.free hD;let s2:?K H1 ?K3:=?dP;(let t1:TI K ?K3 ?mh ?jt:=by apply ?mG;rw[qq5];show s2.seqT q1);let hn:?AM=?l4:=Int.toNat_sub _ 1;apply#[?j,?n,?j,?g,?g,De (lo:=0) (n:=?AM) (λi σ H2=>Hm λ(ys:?C) (o:?fo V)=>Br (σ=[rS aw,iS fam,?MU ?ED,rS D,o]) (?K H H2) (H2 D=?kO) (?eo K H2 ys (?R8 ?vr tI))) #[_,?as,?mk,Ab,#[_,?j,t1,?h]] ?_ ?_];{rintro i σ H2 hi C9;ext f;revert σ;apply Rw ?_;intro ys o sH Rf r2 Eg;rw[hn]at hi;let hq2:?Bi:=?Hp;let c0:?de=((i:Nat):Int):=?g;let c1:?tI=?pF:=?g;let c2:(?de+2)=((i+2:Nat):Int):=?g;(let E5:eX ?gG ?de=?MU ?yg:=by rw[c0];apply Bi ?_;rw[qa9,?bE];simp[?LV ?oZ]);(let at1:eX ?gG ?tI=?MU ?G7:=by rw[c1];apply Bi ?_;rw[qa9,?bE];simp[?LV (?t<w.length)]);apply#[?j,?P4 _,?_];apply#[?G,?j,aw,?j,hq2,?_,?Hc];{rw[hlen];rintro ⟨_,z⟩;rw[c0,HT.sIx_nat]at z;ext d};rw[c0,T9]at qa;apply#[?G,aw,_,?n,?Eb,E5,?G,?n,aw,_,?n,?Eb,at1,?n,?j,?n,hpos,?dW,λpb hb=>?_];let sb:?K Ha (?MJ Ha pb [?l ?Dl]):=?aZ hb;apply#[pa,pb,?n,sb.seqT qa,?f1,Bx (by simp;show ?sf (Nat.min_le_right _ _) (?sf hl4 ?aD)),λpc Hc sc qc=>?_];let sac:=(sa.trans sb).trans sc;apply#[?G,?n,?j,aw,?j,sac.seqT hq2,?_,λpd Hd sd qd=>?_];{rw[hlen];rintro ⟨z,_⟩;rw[c2,HT.sIx_nat]at z;ext d};rw[c2,Np]at qd;apply#[pc,pd,?n,sd.seqT qc,qd,Bx (by simp;show zn4 (?sf (Nat.add_le_add (Nat.succ_le_succ hl4) hl4) ?aD)),λpe He se qe=>?_];let vS:=(sac.trans sd).trans se;let hDe:=vS _ _ Rf;(let te:TI K He (?v pe) ?ru:=by apply ?mG;simp only[qb2,qo2,qq5,qc8,qr6];show qe);(let hyl:ys.length=?t:=by let:=r2.length;ext eC);apply#[D,?n,hDe,?iK,?_];apply#[_,?j,(?ys vS).turn UX,?b6];(let e3:(?Oe ?t) = ?vr++[?ru]:=by rw[qi6,qb2];rfl);rw[e3];show Q2 hDe (?lb vS r2) te};rintro σ H2 C9;revert σ;apply Rw ?_;intro ys o sH Rf r2 Eg;rw[hn]at r2;let hq2:?Bi:=?Hp;let c1:(?eV-1)=((?l4:Nat):Int):=?g;apply#[?j,?P4 _,?G,?n,?j,aw,?j,hq2,?_,?Hc];{rw[hlen];rintro ⟨_,z⟩;rw[c1,HT.sIx_nat]at z;ext d};rw[c1,T9]at qa;let hDa:=sa _ _ Rf;(let ta:TI K Ha (?v pa) ?xQ:=by apply ?mG;rw[qo2];show qa);(let hyl:ys.length=w.length:=by let:=r2.length;simp at this;ext d);apply#[D,?n,hDa,?iK,?_];apply#[?j,?_];show k D _ _ UX ((?ys sa).turn UX) Ab (Q2 hDa (?lb sa r2) ta)
end
mutual
#check(4,[?a,?b,?c,.(by first|with_reducible(first|assumption|show Nat.le_trans ‹_› (Nat.le_of_ble_eq_true rfl)|show Nat.lt_of_lt_of_le ‹_› ‹_›|show Nat.le_of_lt ‹_›|show Nat.lt_of_lt_of_eq ‹_› ‹_›|show Nat.lt_of_lt_of_eq ‹_› (Eq.symm ‹_›)|show Nat.lt_of_le_of_lt ‹_› ‹_›|show Nat.succ_le_of_lt ‹_›|show Nat.le_of_not_lt ‹_›|show Nat.sub_le _ _|show Nat.le_of_succ_le ‹_›|show Nat.lt_succ_of_lt ‹_›|show Nat.le_add_right _ _|show Int.toNat_sub _ _|show Nat.le_trans (Nat.min_le_right _ _) ‹_›|show Nat.le_trans (Nat.sub_le _ _) (Nat.le_trans (Nat.le_of_eq ‹_›) ‹_›)|show Nat.sub_succ_lt_self _ _ ‹_›|show znb ‹_›|show znc ‹_›|show Nat.succ_sub ‹_›|show Int.natAbs_neg _|show znd ‹_›|show zne ‹_› ‹_› ‹_›|show znf ‹_› ‹_›|show znh ‹_›|show zng ‹_›|show zni ‹_›|show znj ‹_›|show Nat.add_sub_of_le (Nat.succ_le_of_lt ‹_›))|lia),.(by first|(apply Hb.let12 ?_;intro _ _ _ _ _ _ _ _ _ _ _ _)|(apply Hb.let11 ?_;intro _ _ _ _ _ _ _ _ _ _ _)|(apply Hb.let10 ?_;intro _ _ _ _ _ _ _ _ _ _)|(apply Hb.let9 ?_;intro _ _ _ _ _ _ _ _ _)|(apply Hb.let8 ?_;intro _ _ _ _ _ _ _ _)|(apply Hb.let7 ?_;intro _ _ _ _ _ _ _)|(apply Hb.let6 ?_;intro _ _ _ _ _ _)|(apply Hb.let5 ?_;intro _ _ _ _ _)|(apply Hb.let4 ?_;intro _ _ _ _)|(apply Hb.let3 ?_;intro _ _ _)|(apply Hb.let2 ?_;intro _ _)),.(by first|(apply Hb.letG6 ?_;intro _ _ _ _ _ _)|(apply Hb.letG4 ?_;intro _ _ _ _)|(apply Hb.letG3 ?_;intro _ _ _)|(apply Hb.letG2 ?_;intro _ _)|(apply Hb.letG1 ?_;intro _)),.(nomatch _,?h),rfl,.(nomatch _,_,?h,?h),some,.(nomatch _,?h,_,?h),.of,.(by ext d),base,.(by rfl),upd,za2,λkey=>?_,Same,key,.int,rS a,.inl,pv 0,Has,.ref,C_Lines,.(nomatch _,_,_),pv 2,gH ?_,λDo A outer s H vs Q E hr h=>?_,pv 1,FnScope,F.okZ,∀(T:?xT),a,∀{f:Addr}{fd:FuncData},a,.(nomatch ?m,?m),.lst,Ap λgG gH=>?_,.(by decide),.(nomatch ?h,?h),pv 3,Same.new,Bj _,C_Work,.(nomatch ?h,_),C_Stairs,.inr,.(by ext e),.(nomatch Ab,?_),none,.(by decide +kernel),λ_ _=>rfl,Rep.same,rS p,.(nomatch ?h,hL),?Ly H,pv 4,?La Ei ?a0,"shape",spot,.(nomatch us,?h),.(by ext aB),.(by kernel_rfl),rS D,.(by ext aE),.(by simpa using h1),V.int,.tup,λ_ _ _ _=>Bv,.(nomatch ?Y,?h),Ay (K:=K),Nat->?bY->St->Hp->Prop,rS ga,λD hD=>?_,?La F8 (λ_ _ _=>rfl),?LH ?an,decide,pv 5,.(by apply Gj ?_;intro sq),.(nomatch ?Y,?Y,?h),.(nomatch ?gN,Ab),.ins,.(by simpa using this),.(nomatch p,?U,dx,fs),i+1,.(by show nomatch hl),"self",?cu ?o5 ?o5,Nat->St->Hp->Prop,.(nomatch p,?S,dx),.(by simp;ext d),?La J0 ?Dt,Bx ?cE,T.cl_Work,H=H',.(by(repeat (first | rw[Ar,?c7] | ext lu))<;>first | rfl | assumption),rS hd,?N3 ?F,iS k,if_neg,(k:Int),?NM Bd ?x,putF,T.cl_Stairs,rS l,"number",_,?j v,pv 7,(i:Int),g.trans,Reps.same,?N3 ?x,"place",C_Book,?bR ?m,?oh V,rS tp,?I4 Jr,rS la,iS c,?LH ?rF,.(nomatch l1,l2,l3,l4,l5),SameX,T.n_len,?N3 ?C,rS t,"width",rS E,s1.trans,#[?g,?_],pv 6,qb1 _,q.1.toNat,s2.trans,.(nomatch ?h,?_),V.bl,spot+1,#[?g,?h,?g,?_],rS ld,small,Kc ?_,?l Ab,rS b,"table",PW.pt,Da.nd,?cN V,T.n_range,.(nomatch a,b,xs),A / g,[?a7,"k",?cF],pv 8,iS fam,?Hy ?Gt,T.n_all,?NX Aw,List.range,(?Jj ?_),.(by ext Z),Aa ?x ?ak,if_pos,pv 11,Kp.upd,?u i,?j ?Ah,qa2.mp,?I9 Eo ?o,[?aZ],.(by let#[g,_]:=hz),.(by rw[qa5];ext d),.(nomatch p,C,dx,fs),.(nomatch ?aq,?vG,l1),_,.(nomatch ?m,?_),.(nomatch ?h,x),.(nomatch ?_,?_),SameX.upd,C8 xs k,(0:Int),Dl.nd,R.same,?bm ?h,?c2 ?EM,H' D,?an+1,f i,rS fa,C7.nd,.(by simp),"thing",?cP g2,?V ?h,V.ref,?j o,List.replicate,.(nomatch ?_,?_,?_),?N3 ?aQ,List,T.cl_Lines,g1.trans,(D:Addr),Wb.put,"other",?j 1,?IY D,?am (λz=>?de (z▸hm) ?bk),xs.length,iS i,as.map ?cI,qa0 hi,?Q hp,"chain",Reps,#[?aT,?h,?aI],cK ms,Rows,[?cF],f+d,xs.getD,for_list,?j (?u ?rT),rS L,#[_,?h],Rw ?_,?j ?qo,?w ?h,R.same.seq,?LK ?aQ,Cl.nd,#[_,?on],ite2,?JT s1,f j,pv 9,(?br hv).1,Bf xs ?fe,Ey.nd,?JY (λz=>nomatch (show ?Mm false from z)),qe8.mp,#[?g,?i,?g,?_],(?fG,Lat.one),?NX Ax,Fi (K:=K),"told","lifts",?LK ?C,?j (?u ((?c3:Nat):Int)),?NX Hh,?l ?hJ,?z T1,c%1000000%4,#[dx,fs,hp,?b9],true,?LT ?ao ?F,SameX.of,G D=?gj,?j q,.(nomatch p,?S,oX,OS),qa6 hq,Fg.nd,?bG g,"_law_holes",λC hC=>?_,Qr.nd,T.n_dict,Lat.Mat × Lat.Mat,?z D2,-?mQ,#[?N,?N],(us.length:Int),Bz.nd,Aj z,"holes",?s H G,rS R,?p H2 R1 ?wD,absurd,rS nn,v9 ?_,dd.1,Gc Ac,u1 Sa,v7 ?_,?j ?et,?JY ?cE,s1.seq,_,t ?a8,.(by ext e3),iS n,?bL s3,L4 hx,rS ra,rS h,Cc ?Gv,"_law_cell",λhnd o=>?_,C8 xs ?cA,T.cl_Book,.(nomatch H0,p,L,R,nm,n,w),.(nomatch H0,p,q,M,n,W,t),.(by unfold J8;decide),.(by rw[?hR]),.(by let Sa:=hr.u8),.(nomatch ?ag,T.na_Work_numbers),?j ?Av,c≠D,?j 0,D7.nd,w+n,?I9 ?kQ hi,?N3 ?ao,?N3 ?a5,"_law_script",?LT ?ao ?C,?s H H2,"turn",ns.length,#[as,xa,na],[?a7,?cb],?z a,.dK [],(q:Int),Kp.of,?z T,rS p1,[?bV,?bE],iS letters,"_law_at","one",?N3 ?P,ns.map ?aF,"_law_family","_law_shape",?N3 ?bI,T.n_list,s1 _ _ ?sr,(?IR p ?bT),[?a7,"k"],dd.same,"row",?LK ?F,rS tl,[?aZ,?gS,?hy],T.n_isinstance,λG2 g2=>?_,Ez.nd,?bG s2,cK ns,"_law_level_here",xa.1,[?a7,?cF],Co _ _ _,?L us,.(by ext ez),#[q,hq,?O],?w hq,.(by let:=?fh),.(by intro z;cases z),.(by simpa using h2),.(nomatch ?ag,T.na_Work_left),.(nomatch ?cE,?_),.(nomatch xs,?h),?I2 ?x ?P,?IJ [o],"papers",p.1=0,(xs.length:Int),kk-1,P us,?z E,id hL,?LH ?it,x.same,SR.trans s4,?p H1 p ?EZ,Lat.one,Aj ?k7,?IX e,Addr->Prop,?IY a,?B0 _,k H1 s1,"hole",?JY ?jU,?LK ?bI,rS tg,?MU ?cX (?j ?yb),"piece",?am ?bk,?c4+?aw,[?aZ,?eI],Gh ws ?Fj,p.2.2.2,?IX hb,L5 hs kk,Cj xs ?cA,?NX Dg,?L [],s.1 ?a8 ?dp,[(?eO,1)],λf8=>?_,#[_,z,_],(?br hx).1,s1.free,bo.1,p.2.2.1,[none],s3.trans,qa6 hp,λm hm=>?_,R2.same,?bR ?o8,Au ?ga fam,pv 10,L8 Hr Ah,(T:Addr),rS ta,s.1 i ?dp,Aj hb,(ws:?bY),D5 ws ?hu (?yD m),iS kk,?Ib (((k+1:Nat):Int)=?cA),?LH ?eO,Nat->Int,Sum.inl,?Q hC,H1 D=?gj,s.1 i,.(by(. (ext ai))),.(by apply K6 ?Ap;intro sq),∀{α:Type}{P:?cN α->Prop},a,.(by apply ?M),.(nomatch hp,?aq,?ll,l3),.(nomatch hp,?ag,?oC,l1),.(nomatch ra,ga,fa,?h),.(by let#[s1,_]:=hz),.(nomatch hc.1,hc.2.1,l1),∀(us:?cN α),a,.(nomatch p,?b1,dx),.(nomatch ?h,?l Cu),#[bs,xb,nb],Ft p,Bi UZ,?Q hD,?ha g3,Rep.x,?ax g1,?j 2,"rows",?Q hT1,pv 12,λ_=>False,?bG sp,Cj xs k,R.free,?u ?jw,layer[j],?N3 ?d9,λa=>a=nm,ps.map,Fp.new,?N3 ?eG,ao.same,(?dO).trans,"_law_number",?NH ys,I0.nd,?s H H1,.(by simpa using h3),?IX hp,C8 xs 0,.cons,CK ?_,?NH ws,Aj n1,?I3 (spot<n),Bf xs [(q,1)],#[?h,?_],(t:Addr),"_law_chain",LT.get,rS fi,?Nk ps.length ?l1,?N3 ?av,?bL st,#[c1,?T,hc1],ms.getD i (0,0),Cb ?cW ls,#[r,b,lx,_],.(by let:=r.length;ext aV),"_law_word",?z D1,?z D,ls.map Lr,uQ.same,T.n_enumerate,Li xs ms i,qg9 _ _,?O4 ?eD,.(by ext ey),?aF 0,xa.2.1,#[p,hp,pa],l9.of,At ?d5 ?bd Ah ?a0,?Ly H2,(?br hq).1,?I4 ?C,Du.nd,Aj aM.symm,λTm=>Tm _ _ ?Gt,#[?aT,?h,?aS],T.na_Work_right,g3.trans,(E:Addr),?bL g,J6 hv,?N3 Ah,g2.trans,Zk Az rn,[?a7,?cF,"level"],Bi TU,y2 _ _ d1,(o8:?b3),hin.1,Fu.nd,ws.map tI,#[M1,J7],0+?aw,"numbers",?aG [?u sv,?u nv],?cN Int,[?aZ,"i"],[?aZ,"i","j",?eV,?cS],?Ly H5,"pieces",Jh m f,?MC G,?Jl ?qS,λz=>?DT,?Nk 4 ?ob,?z ta,"backs",(A':?fJ),#[[],?O,?q1 hD,?aI],"_law_words",∀(Bp:?I5 ?s6 ?ee ?Dg),a,.(by rwa [?Ib (((?bK:Nat):Int)=q.1)]at this),∀(Dp:?I5 ?ni ?eS ?Gn),a,∀(Dw:?KR "level_of" ?fS),a,.(by rintro σ G C9;revert σ),.(by show k H ?lf),.(nomatch p,dx,fs,?h,hp,?Gk),.(by rcases z with z | z),.(nomatch ?h,?N,?N,?N),.(by let:=pk.n4;ext d),.(nomatch d,f,l,r,hd,hv),.(nomatch hc.1,?ot,l2),.(nomatch f,l,r,?m),Dd ?d6 ?x Fc ?Ca,?I9 B6 ?x,"_law_place",λq=>?gu,.frz o ?F9,s2.free,Aj nD,#[ZD,zD],w.length=i,hrep _ ?h,(k0:Int),(?gX).length,(?fa).all ?ox,?pv t i f s d,Lat.blendR,R2.same.trans,.str "add",?OR C5 ?F,?fm s4,c / 480,?l ?CQ,?am h2,["k",?nU],?Mg h1,qO ?_,i<ns.length,_,nb a ha,?Km ?_,s7.trans,?LK ?av,"_law_one",.(by rw[qb2];rfl),cK ?gL,_,Au w fam,?Jm ?h,#[?g,?i,?dW,?bJ,λp0 hp0=>?_],?xp i j 1 l,"_law_k",(m:Int),[?eV,?cS,?bE],pa.same,?am ?m,?p G e ?qz,j+1,T.na_Work_width,?u ?kg,?Js H0,"lines",(?iX).trans,"law","right",?cN Addr,?JT g1,[?aZ,?bV,?bE],qN ?_,#[?k,?K,?_],"_law_other",.(by rw[Bw];ext d),R2.free,#[z1,z2,z3],M6.nd,Ow ?N ?N,[?cF,?bE],#[?k,?i,#[hb0,hb1],?_],Cc ?G7,Lat.turnL,T.na_Stairs_backs,two_le,λc q e=>?_,σ'=[?a2,none],Ib.nd,ys=?cY,sL.seq,"many",(w:Int),.(by ext ad),Ma lf (?kv j),?bR (by rw[qa5,qi1];ext d),((?dp:Nat):Int),cK c,?dn hq,?j 3,R.same.trans,T.na_Lines_backs,hin.2,?Ly G1,?Kf m,ns.getD i (0,0),TI K H2 v w,?u (fs.getD i 0),?K3 j,T.n_zip,(?bi i).map,layer,as.length=i,T.m_Lines,g4.trans g5,qa4 (E7 _ _ _) Ce,?u q.2,"__init__",λr' b' G2 sx n1 n2 z=>?_,.(by ext m1),Ag Yd,(j:Int),#[i,hi,?h],?Hy #[?h,s1],#[T1,?g,?bT,?zu],?Q XM,Dc.nd,#[a,pt,?i,s3.seqT AN,?bT,?mM,λp3 H3 s4 q3=>?_],T.na_Lines_rows,#[_,_,?Y,[],?h,?Q hp0,TI.mk ?bT,?h],#[a,?h,AN],ZS i j g a b f r,λz=>?_,qa5 ..,H1=H',?I9 Q9 Sa,Cc (F4 ?GH).length,(?l8).length,?j ps,c / 4,‹_›,[?a7,?cF,?nU],R2.same.free,¬N a,?Q hE,(?iS).1 i ?nk / s.1 ?ch ?nk,?K3 q,[?hl],iS c',?Q hpt,TI.same,xa.row,?Nm ys,qh0 ha,Aj n2,?Ni i,λE hE=>?_,[?a7,"k",?b0,?as],?OR C5 ?P,?LH (((?dz:Nat):Int)),#[?g,k v H2 w s2 tv (hW w hwl)],Lr ps',s.1 j,[(pl,1)],?NM Bd ?q0,-?dV,?LC ?az,?Bq f k0 i,[?aZ,"k"],jO ?G7,.(by ext e4;show Eb),.(by simpa using h4),?K3 i,?Mg ?m,?JU ?yf,?vv g2,(o:?b3),.(by ext ex;ext aV),#[?k,?g,?i,hb0,?af,λpt hpt=>?_],QN ?_,Aj aM,[?eV,?cS],ps.take,R3.same,?Ie s05,λH1 s1=>?bH,?Ls (rS t2),Kv.add,λj=>?MO wI,?l hl,?bm h2,?Kn 40,qi9 ?es,s5.trans,[?a7,?da,?d8],Cj xs (k-1),(m:Ms),?L [?u 0],(?Q ndx).turn,?LK ?Fm,R.push,(o4:?b3),?aG [?t0,?jr],?L0 i,?MU ?fv ?e7,?j M,?aG [?bp,v],b≠D,?aG [?j0,?z lp,?z gp,?z fl],cK ?fk,(c':Int),?l et,[?mA],Sv d f l r,#[z,e1,e2],qm3 _ ?N,#[ZD,zD,sm3],[?cF,?jS],(w:?hn),[?a7,"k",?eg],?Q hT,R1.free,?aX+j,FY ms n ns i,[?cF,?nU],?l Eb,?NH zs,.(by ext m0),?B0 H,?oh L2.V,?s H3 G,s0.free,Av ?bh ?bB qh1 ?ak,?K3 ?bK,T.na_Stairs_starts,s2.seq,(v:V),?z ga,?u ?cB,∀(Gv:?Jz ?sd ?eL ?wv),a,∀(Kn:?Hx "times" [?as,?cb] Sg),a,∀(Fe:?Hx "is_whole" ?cg K7),a,.(by let lul:?EE:=?Aa oth.L.n4),.(by rw[Ar,?fT]),.(by apply ?aa),.(by rw[?c7,Xm];simp[h1]),.(by rintro σ H2 C9;revert σ),.(by injection this with this),.(by apply ?dm),.(by rw[qa5,?eq];show hi),.(by rw[qa5,xb.1];show hi),.(by rw[qd1]at this;ext d),.(nomatch xs,hs,lf,j,ps,p),?KW ?ao ?C,?dE+1,.own p,?j 33,?sT _ _ hk p ?fn,?Lp H E,"size",[?dP,?ep,?eU],pv 13,?bG x3,.ad i ?a8 (-kk),(?fa).length,?V (?V ?Dw),.(by ext tL),?KW ?ao ?F,#[tu,b,h1q,h2q,h3q],"_law_row",?z b,Bx ?jU,.(by simp at z),S5 xs hs lf,?cN ?AF,B / g,(?Bg,s.2),?p G p ?hm,MU.trans,?l x.nu,[none,?cT],?bR ?jU,?l y.st,λD H1 hD s1 Eb=>?_,#[x',hx',tx],?pI ?af λT G4 hT g4 qY=>?_,λD2 H2 Rf s2 h2=>?_,?Ib (((kk.toNat:Nat):Int)=kk),(?br hp).1,C8 xs ?an,K w.params,?Ie g1,lu++ru,"_law_total","is_round",?Jm ?jU,?L (Fj us ?Y (?j ?aw)),(x.same.trans s1).free,?LU (?N3 ?sU),Aa ?F ?az,"_law_gauge",[?aZ,"i","first"],(?hr,?z P),?Fv i 0,Aq e nL,[?aZ,?pr,"i"],bs.map ?cI,sp.zip ns,?p G pr ?ou,qa0 hjl,hs.getD,?aP (?jJ<2),zs=cs.map ?cI,?j ?o3,[?ik,?gi,?jB],Mo (v:=?u 4) ?o J7 ?cm,"first_misfit",.bl ?dG,?MH XW,?j 7,(?fa).map,?I3 (?fU=?aw),?LJ (by ext tb),?NS ?uf,pv 16,?aG [?u j,w],"gauge",?l qW,lx.keep s1,Wb A' H',(bu:?bY),(?uT).length,fam=0,.(by ext tS),?hV g4,#[tva,oX,OS,hpa,l1a,l2a,l3a,l4a,l5a,l6a,l7a,_],?u ?dX,"stepped",λT1 hT1=>?_,"each_divides_the_next",σ'=(?N6 (rS P)),"bound",λa=>a=nm\/a=r2\/a=b2,[?eg,?bE],[?cb,?og,?as],?j q.2,?L ?cY,?p H C ?x9,[?aZ,?cF],"parts_of","is_list_of_wholes",G D=?gr,lift1 ?fX,"piece_line_holds","lift_of","flipped","loops",t ?ch,sH.trans,?IL H1 pr [?z bx,?z cy],λh2=>?_,qq8 _ ?N,?cu ?DW ?DW,i<xs.length,ps.getD j dP,jF c r n1 n2 e,"blend",R1.same.free,#[?B,g,_],#[dv,QW,rv],?Nr ?S fs,?La XY (λ_ _ _ _=>rfl),.(by ext e4;show Cu),λe=>?wi,?Mo s7,wu.length=lf.length,?L ?mv,(st:Int),λh1=>?_,?cN (Str × V),"list_times",.(by ext bv),?LI Pp,"is_hole",?dw-1+1,T.na_Work_table,xb.2.2,"is_part",belowD ?bp b,"bases",?LQ ?ak,?Mw P ?x1,((spot:Nat):Int),"below",cs.length=i,?cu ?nn ?nn,"_law_pair",?Jc Eb,"ones",?LH ((n:Int)),gr.sub,"_law_added",ds.map toI,if j=i then 1 else 0,λi j=>?oU,Ow ?m ?m,[?dP,?ep,?eU,?jB,?gi],?LT ?F ?P,?u g,?Ie (?ko),λk:Nat=>Hz xs ?an (?mz k []),?NS ?x,.(by rw[Bw]),"turned",?Nn hp3,"faces",Option,?KW ?C ?P,"plus",zP _ _ _,?p H4 p ?q5,[?eZ,?dP,?rE,?ep,?eU,?dx],qa0 ?m,.dK (cK ?zE),x3.tup,#[q0,q1,q2],?p H2 b ?iJ,(?Lo ?H1),hc.2.2,?aG [?bp,?qL],σ'=[?a2,iS ?a8,?cX,?LH ?jX,?LH ?fd,?LH ?fw],[?a7,"k",?f5,?nj,?sO],λq=>?aP (p.1∣wI ?fk ?gu),"_law_face",λT hT=>?_,λc r n1 n2 e=>?_,"left",?Ht (?L4 0 wO),iS most,(?uC).length,?N3 ?kf,?Ie g4,"_law_word_by","fits",?cu ?E0 ?E0,?I9 B6 ?C,(TA.of R hcl).same,?LI M5,na a ha,?La RD (λ_ _ _ _ _=>rfl),iS kind,"check_level",s3.free,Zs.new,.(by rw[z]),?Eg s5,?LA Fe ?az,"is_order","_law_more","hole_lines_hold",bb.put,cH ?a8 i ?fd ?fw g a c s,s12.trans s3,sC.trans s1,[?d8,?cb],?IL G T1 [?iV,?bp,?Fs,?u (-qq)],.(by simp at e),?io[m],Nd ?F,?Nn hpa,?aG [x,y],λw=>?t1,C4 ?AX ?B5,"_law_border_by",(?br hy).1,.dK (cK [(q,1)]),.(by ext tC),(R:Addr),?IL H3 T1 [?iV,?gZ,?qo,?u ?vF],l9 r b H1 G,spot<i,?Ly H4,0<=q.1/\q.1<?f7,?NH bu,?JY (wN ?m),?Ly H1,?Ly B,Kv.refl _ _,"spot","border_table",Dn Ah,(?fa).take,Lat.shrS,[?hl,?bV,?bE],?fm g,?w ha,?K3 ((?h4).1.toNat),?I9 Bd ?C,Rows.nil,?N3 (?O2 ?qa ?eb Cy),"is_table",JU.c2.ok.len,?aU ?S dx ?CO,ZE.trans,[?eZ,?oN,?dx],"loop",?N3 ?fs,?p (?p G1 JK (.own L')) L' ?w6,g02.trans,hm.ch.ok.n,?a1 P5 hrep,ds.all ?o0,?LD R ?zQ,?N5 none,(s:?dT),pk.ok _ _ hps,?Na ?a2,"is_shape",?z l1,?fi n1,"_law_shape_by",?LA Bp ?bl,#[tvc,dxc,fsc,xN,l1c,l2c,l3c,l4c,l5c,l6c,l7c,_],Lat.Shares,"add_faces",layer.take j,s1.turn hD,"is_chain_of_some_level",qg6 _ ?m,g1.free,?bG s3,R4.same,"diagonal","list",(?fr).length,λ(k:Nat)=>chainB xs ?an ms,"is_whole_below",?IL H T1 [?iV,?bp,?u ?a8,?u (-kk)],(ot:Int),g.free,G D=?ld,Rq ?fe t0 ps,R3.rep hal,?L (Fj ?eX ?cT ?n8),λa=>?wM,#[?h,λi v ps e=>?pV],?p G d ?pe,?u ?aw,Aq hb hD,[?j2,?eI],Lg xs ms i,#[?k,R,us,?rF,E5,?O,uX,Gu al,?_],.(by rw[qr7];rfl),(?mf).In,"_law_words_with",[none,none,?e9],#[?Ei,?fq,?H4,?tj,?il,?lD Rf s2 (by rw[hal];show h2),?g],#[_,hq],.dK ?vi,?JT g,?LE G l r,i<ms.length,?I4 ?F,"_law_plus",?aG [?bp,?j0],#[_,qa0 (by ext iB)],?N3 ?iW,T.na_Book_pieces,[?dx,?eY,?FH],?IY R,"lifts_of",?LH ?qf,?bL sp,"_law_lifts",(E5:Int),[?bV,?bE,?j2],?IL H T1 [?iV,?qo,?gZ,?u 1],s6.trans,layer.map tI,?ax sp,"_law_put_otherwise",acc.map tI,[none,none],?In [o1,o2],Rq ?fe t0 (?kv i),Bf xs ms,λ_=>none,s46 _ _ hpa,(z:Int),"are_lifts",?z la,[?eZ,?gx],?Ly H7,"are_holes",m+1,.(by rw[Ab];rfl),?p H5 p ?rl,?Iw hch.ok.len,Jh m ?Fk,.(by rw[cP]<;>rfl),U m M l r,?N5 (rS di),#[P,?g,?w ?Cz,?_],?NX Gd,(?f8).toNat,?p H1 b ?iJ,?aU ?S dx ?wW,"bases_of",xb.there.2,?z L,qa0 hmf,?K0 us.length,PartsA,D≠p,"is_chain",[?aZ,"i","j"],?Ie g13,s0.trans,?hk*?hk,"_law_joined",.(by rw[WY];show h3q),[?a7,"k",?da],?z t,zM.same,zE.trans,?l hp1,?ax g2,"places_of_level",#[ci,_,UZ,_,TY],?ci (?fU).toNat [],(?s5).turn,"product",?M3 pt [?u ?H1],[?CG,?v1,?zJ],?Ic ?p5,Gz fam w,?s3 g,Aa ?P ?eE,?l x.st,?IL G3 T1 [.str "minus",?yb],Str->?oh Value,?z T2,#[?g,?i,?_],?aw+1,(?IR pr ?s4),"gauges",λ_=>?_,"book_holds",?p H L0 (?L [v]),?I9 B6 ?P,oth.L.ch,?LK ?x,(as:?j6),H1 D=?ld,(t:?Fl),x4.tup,[?i1,?h8,?eY],qa3 _,?l hR,?se ?bK [],"border",lf.getD,#[tv,dx,fs,hp,?b9,l6,l7,hrep],λH2 s2=>?_,s1B.trans,G c=?dK,zI.new c x n,?In [o1,o2,?v],λa1 G1 n1 g1 d1=>?_,[?a7,?da,?d8,?b0],"is_place_of_level","filling",?j (?z c1),?q6 s4,xb.2.1,Pm xs ?cA,H' R=?dl,?IQ ?rK g3,?fw / ?fd,qa4 (E7 ..) Ce,?l (et),λv hv=>?_,?Nn e,?u q.1,?tm λf=>?zm,pp.get hv,?j ?fc,(us:?bY),"_law_signed",[none,?e9],"chain_of",(z▸R.free),pv 15,[?a7,?oG],.(by apply ?Ho (?LY ?aO (?j ?nP) ?b8/\?ah)),.(by rw[hfs];(ext ai)),.(by have ?wA:=hO;have ?DL:=bb.at hk;have#[v,hv,t,?gE,et,e1,e2,e3,aA,bA]:=pp.at hp),∀(Gf:?I5 ?r4 ?n3 ?DE),a,∀(Dj:?wR),a,.(by(let Bb4:?xi:=by let:=(oth.nx _ _ hk).1;let:=pp.1;ext d)),.(by rintro ys τ H1 ⟨as,hal,rfl,R,_⟩;show k D as H1 ?m R),.(by(let ZC:?wH:=?h7)),.(by have ?nO:=x.ob),∀(F1:?y P w K mg ?n ?rt ?bc 5 ?ET),a,.(by rw[qa9,?cZ]at hx;rw[qa1,?cZ];simpa using hx.symm),∀(Ko:?Hx "mixed" ["a",?eV,"b",?cS] X0),a,.(by apply#[?k,?K,?aM]),.(by(. show ?xv)),∀(Ts:?I5 ?oj ?ku ?Bs),a,.(by let kl:=(?br TU).1;let al:=?cy),.(by have#[r1,b1,r2,b2,lx,ly,f1,f2,f3,f4]:=x.li),.(by first | show Or.inl ?h | show Or.inr ?h),.(by let Ce:xs.length<=40:=?Iw CO),.(by apply ?tl),.(by have ?dF:=lx.ob),.(by apply ?d3),.(by rintro ys τ H1 ⟨s1,Eb,rfl,_⟩),.(by apply ?cu ?FT ?FT),.(by rcases ha with rfl | rfl | rfl),.(by apply K6 λH2 jV=>?_;intro sq),.(by let#[?B,_,e,_]:=hz;show e),.(nomatch tp,nm,r1,D1,D2,b2),.(nomatch ?h,L,R,M,l,r,hU),.(nomatch B,xs,ls,?h,bk),.(nomatch L,R,m,M,l,r,hU),Gz fam u,H1 c=?dK,LT K G ?eM xs,.(by simp[hal]),#[h1,h2,h3],(?IW a ?qy),(?io).map,?IL H1 p [?u j,v],c'%fam,?Nn hE3,Aa ?C ?sG,?LQ ?az,Ho K,?K0 ((VI n f).length),?JY ?bk,Li xs ms ?F5,#[cs,_,ecs,_,hcs],?Jh ?A,hs[k]?=?kD,?Ky m4,#[c,?h,nc,hc],G7 K,(fV:?b3),(?LG ?du fV),?Js H1,?I9 B6 ?a5,X1 K,#[E,eu,?h,hE,rE],#[y1,y2],us++[?s1],Q7 ws fam 4 [w] [],sx1 b _ (F6 e hp ?hH) e,ns.zip ?yf,Aq e hD,.mi ?a8,?IY B,"put_in",Ta Mv T Il Ko,?Mo gz,(?z2).length,?Lp H L',AH A2 HZ,?p H4 nm ?fc,#[?bJ,?aM],?Ii (Jw (K:=K) qf4 PySem.F.slot_list_pop PySem.F.type_list_pop lO ?ao ?ak),(ls:?mP),?z c,(?wp).length,∀o,H c=?cJ->G c=?cJ,Cn (?Kg ?mw),fs.getD m 0,#[npL,npR,LR],(z.same zU).there.1,?II Eb,?jR hb,#[Ce,hj6],Xt.of9 ?m h3,?KJ fs,?O5 ?x (Dn ?iW),fK K,?LI FO,?OR Ky ?C,(o6:?b3),?Js H2,lu.length,NV xs hs lf,λhS G1 s1=>?bH,(?IR pr ?bT),Mi ?mf,(o2 o3:?lg),?K0 ?p4,#[?g,?i,(?IM 3),?h,?g,?_],?KK (((cK ?rQ).length:Int)),A62 P w K mg ?n ?A ?js ?ej 1 ?AP,Aa ?C ?ak,?MG hp3,HT.sIx_nat,(?it-?sM).toNat,(F4 [0,2,3,4]).any,?Nu iW iW,?ID G' i s',?V z,Mv.binds (ps:=?hp) ?pE,"_law_cells",#[hi,?h],qf2 _,Lj K,?qW n2,[none,?gR],.(by rw[?gs];show e),kF K,?LA Dw ?ak,?IE Cv (Aa ?F ?r7),?we w M P,?MW pl 0,gz.trans,?Mp (hb.1 c ?m),-?Ea,T.na_Stairs_rows,σ'=[?v,?dv,?ar],[?a2,o1],?aU ?b1 dx (?ap ?d8 ?EH ?GV),?jX<=?o4,λT G4 nT s4 hT=>?_,k01.trans,hB.2 i v ps hv hps,"_law_hole",.(by unfold gB;ext d),?c6 _ _ hp,Vg K,qi8 _ _,?Ma ?ri ?x ?q2,.(by rw[ql2]<;>rfl),#[?af,?oz],?Is e,TA.of R1 hl1,kE K,o3' g' a b sh,[?v,rS af,?dr,o1,o2],xb.there.1,s1 _ _ hl,rows.map tI,?IC Eh ?oc,?l ?x5,?Ie g34,?Hs P6 ?dH Ac,cK ?kc,Aa ?F ?z4,?Mm ?hw,(?K3 pl.toNat).length,?Ic ?hZ,(?s8).length,.(by ext HJ),?p H L ?nZ,?l xp.2.1,?p H1 l1 ?lA,λj i=>W7 (?ci (?Fv j 0).toNat []) ((?l8).getD i 0),dd.keep λc kvs e0 e=>?_,λY G3 nY g3 hY=>?_,sp.trans,na a (ma a ha),#[y',hy',ty],?JD ((?dE).toNat),E5≠ot,fP K ?b1,#[Z,?g,?ax (?IQ ?gO g4),?c1],?p (?p G3 JK ?zS) L ?w6,(?lk).length,∀a,?fK->?kI,zs.length<=40,?KJ [],G5 c=?cJ,.(by rw[qa1,hq];rfl),sx2.same,#[lu,qW,bb,ao],Tz sh _ _,?N3 ?eh,?L ?mh,Zq xs k m,?Hy #[?h,λa ha=>by rw[Aj ha,Aj ha],Ab],qg6 _ (za1 h2),?IU xs.length,?I3 (?dX≠0),?LI kI,#[o2,o3,?h,?iC,z],(o1 o2 o3 o4 o5 o6 o7:?b3),a=q\/N a,?fm ?pK,(z.same sn).there.1,?N3 ?lj,Jg ms fs n i,?Jh ?U,X7 K,Gc ?hZ,?I3 (j≠spot),?Jg ?U,?ap ?p1 ?G4 ?CO,nN _ z1,s57 _ _ ?Ak,[?v,?dr,?bU,?aC,o4],Aa ?C ?bl,?I9 B6 ?F,?p G p ?lJ,?IL H1 p [?bp,?ji],Lat.beside,?iU s67,?ap ?bV ?hx [],V9 K H' tp nm r1 D1 D2 b2 z ?dz k0 f l r,Et xs e (?jJ-1),"_law_order",?MU ?v none,fH K,s04.free hnm,?I9 Bd ?P,∀v∈ws,v≠?eM,?KA ?bV E fs,(?MF ta hT1),(?Dd).length,(?KN a),(ys:?bY),Jh m (shF i j g f),Pn K,Kp H3 H',λq _=>?oW,(z.symm▸y.mq),npn.symm,?NO (Ex λ(fam:Int)=>Ee (σ'=(?MY ?be)) ?ah (fam<100)),[?oZ,?u a,?u b],?l ?_,(o3 o4:?b3),Aa ?x ?hZ,?IX hh,#[hW.1,λi v ps e1 e2=>?_],?oD _ _ rdj,X3 K,?L ?kn,.(by rw[P1];ext d),sB _ _ hE,?LI Sj,"put_in_order",sameC (Bf xs ?fX) (Dm p.1 p.2.1),.(by rw[qa1,hps];rfl),?se ?y9 [],?z R',#[pr,pb],?Jf s03.free,"shrink",?s H0 H4,?lD hF sF ?_,?s HL H1,.(by ext lu;show l2),#[n,?h,hn,k],Be C5 Ah (?NS ?FS),?LI BN,?H3 g1,Fo K mg ?A ?U ?S ?b1,s47 _ _ x.nu,?Io Mn ?hD ?bC,?OV Vq ?wP,#[WJ,wJ],Rr K,(e9:?cN Ms),(?IR pp ?bT),#[?k,?h,?g,?_],.(by let:=rM.length;ext aV),#[c,_,ec,_,hc],?NJ F1 ?x (Aa ?F ?gb),?K4 (by ext HG),λc x n=>?_,(?MF t ?iZ),us.length<=40,#[c2,z,hc2],?Lp H T,?Lq ?dc,fs.map ?aF,bO K,λD G5 z5 c5=>?_,Lat.addS,?Ht (?L4 0 wU),Kl i _ hx,?Iw ?q4,?cu ?sP ?sP,LT.len hL,λD hD=>?Hy #[D,?h,hD,?aT],VI ?eB ?g7,q9 K,?ap ?gS ?h9 [],qa6 hq2,#[?K,?m,?Mp ?jG],λj hj1 hj2=>?_,#[ZJ,fs',hp',?B,l4',_],#[hz,?m],#[?B,?B,g,_],?p H1 L (?L (?AL i ?hA)),hW.2 i v ps e1 e2,λt ht=>?_,(?Ln o6 none),p.1.toNat,#[m,_,?g,g,Cu,hm],T.n_tuple,(?ch:Nat),(?fr).take,?bL ?kw,?p H1 C ?et,?IY D2,p2.1=0,(?Mp ?_),(?MI o1),pk.lc i hi,D5 ws ?hu ?CD,λG1 g1=>?_,["k",?d7,?a7],λF hF=>?_,((f:Nat):Int),s02.trans,Lat.moveS i ?a8 s,λP H1 nP s1 hP=>?_,?KL (q.2.2.1) h2,?p G' p ?r5,[?hA,?G4],ns.take i,"_law_filling",f1.trans,?MU ?v ?aC,.(λi zs τ G1 _ hz=>by ext Hd),?u ?oJ,dd.1.trans,K9 xs k p n,#[?h,λi v p e=>?pV],ns.drop 1,?LT ?ao ?P,(CC o13 fV o15:?b3),?u ?uU,Wf K,(if ?jT<?zW then ?jT else ?zW).toNat,s79.trans z6,ls++[?Lj Cf ?an],?cP ?fp,?DX q hqm,uC _ _ hLr hLb h,.(by rw[?kt];show Eb),R.row i _ ?cZ,AQ q.2 m,B6 (K:=K) ?wn,?LI fO,#[pl,nx,ok],Lat.ChainTo,?oD _ _ rdi,(?KN ta),X4 K,lx.nn a ha e,#[x,y,_],?KA ?p1 L' ?wp,#[hi,b,?h,hb],?N3 ?n4,#[us,hq,cP],bK K,?Ib (((?rj:Nat):Int)=?f8),ChL.nil ..,?Js G1,?Mm ?xE,hDp.symm,λG5 g5=>?_,hch.plus,(?h5).getD i [],Ag (?IB ?di),VI z (?Bq f k0),?lQ/\?r1,?gp ?cm (?gp ?cm (?gp ?cm (?gp ?cm (.nil)))),"_law_most",#[u1,v1,hu1,av1,tv1],?LC ?bC,T.na_Book_levels,(gp:Int),(?Jb b ?ce),(HZ:?bY),us.set E5 ?eQ,#[sF _ _ R.at,?fq,cs++[F],?il,?DM,?_,?g],.own L,Oh.binds (ps:=?fV) ?a6,#[c,e,hc],#[c,e,?w hc],(?Gw:Int),σ=[?v,?bU,?aC,o1,o2],?LQ ?Cl,.(by cases z),#[t,?g,?lO,?T,?g,_,?g,_,?g,?i,?_],hk1 c r n1 n2 e,FH K,#[D,?g,?l Cu,?g,?_],?IY M,?Io Mn ?hD ?az,r6 K,?MW T4 acc,?j ?jT,?p H1 D ?eN,?c9=?gr,?JT g3,(JE ws f:Int),#[v,h,w,f,?h,hv,hh,hw,k],?KU LW,k0+i,(z▸z1),?Iz #[?B,e,_],?a1 ?c6 hv,(e▸ha),#[?i,?i,?i,?i,?h],?z nm,Fp A' H' ?eQ ?CI,#[h2,h3],?LI kH,?I2 ?dH ?F,?iQ<=1000,Vf K,?p H1 B ?o3,?MA Gq Ah,g4 _ _ hz1,?p H8 C ?et,#[?g,p,ZJ,fs',?h,hp',?Ky l4',?k,?i,?_],?MN H H',BK K,((d:Nat):Int),x4.right,kJ K ?b1,?LC ?gb,.(by cases hv),?p G p ?pZ,?cN BPart,?w Rf,?Ky l6,.(by rw[Jv]),?NL Eh ?eh Q4,addL m lf (?Kg ?gL),(?cY).set,JU.m2 y hy,.(by simp[hwl]),λP H2 nP s2 hP=>?_,?LI Po,#[?g,la,lu,?h,?w hlq,?_],?Mm ?Dx,?Lm o4 none,((0:Nat):Int),ch.g.ok.n,?I2 ?x ?F,.ad j i ?vF,Bf xs (?se q []),?M8 #[?g,fin D A' hs' H' s sub hO' WE],(z▸y.mq),bb.1.trans,.(by rw[←z];show hc2),?Nm zs,?K6 ?qS (λu hu=>hWl u (qm8 hu)),Wb A2 G,?ay sa rL,∃ps,ls[i]?=?kD,?u p.1,?AL i ?h9,#[st,lx],MU _ _ GK,?MN H3 H',Y2 Cu ?m,(?LZ (rS F)),a=nm\/?Ff,λH1 s1=>?_,?Jg ?A,#[_,xu,z,hq,r],Aa ?cr ?G9,?L5 ?x (?OR C5 ?a5),λD2 H2 n2 s2 e2=>kq D2 H2 (sG.free n2) (?H3 s2) e2,?u ?jT,layer++rows,#[?g,?bM],Dd ?d6 ?x ?pt ?pt,?KY 7,Same.refl,Aa ?a5 ?cM,?IX e1,?Dx&&?aP (Cc (?GH).length=l),sp.getD i 0,Nh lf ?cz,(?pu i).map,[?hA,?z ld],bM K,mainGlobals,?c9=?t3,Lat.insT,?l (bt),Cn (Li xs m0 m0.length),a=nm\/a=r2'\/a=ZK,("levels",?z Lv),Be Fy ?uf ?bI,tI xs[i],pY K,?Mx ?e7,?IL H4 T zs,.ad i j 1,?s G3 G4,?p G3 pr2 ?nE,?Ik H5 ?S (?ap ?hl ?zv fs4),(?Jb b ?eo),#[?h,λi v e=>?pV],hm.ch.ok.val,#[_,?l2],?kP s3 tx,?p (?p H2 ZJ ?m6) p (?aU ?U ZJ []),P5.seq hq,?N3 (?OB ?x),#[?h,?Ie g35,?b2,?Me ?hV g35 hD,Ab,fin _ ?_,_,?g],λkey=>?bf,x.keep s1,Lat.blend_row_ne,dT ?go ?go ?fG,?N3 ?fP,(?Q ndl).turn,?LY ?aO (?j ?nP) none,Jj K,λx a=>s.1 x (w+a),?s G ?mx,λtp htp=>?_,m<fu.length,WX K ?A ?S H0 H' p L R nm n w ?lI l r [],λi v hv=>?_,?KB ?fz,Rs K,s5.t hB4,(?mv).set i (?z D3),Lat.numAt,?M1 true,aQ K,An N4,?K7 ?x N9,JU.c1.times,(?dE:Int).toNat,λG4 fs hfs hG4=>?gv,?p G pr ?lJ,.(by rw[xX];show h5),λ_ z=>z.elim,mG ns ?cT ?n8,#[_,qa0 (by let:=bb.1;ext iB)],λ_=>0,((i:Nat):Int),(z▸R2.free),fc∈acc,#[_,_,q,_],Vj Oh T Yx aW,H4 a=?cJ,?Ie gp,∃ps,?ty,"straighten",?yD ?rZ,σ'=(?LZ none),m9 K,"_law_kind",(cD CC:?b3),XG p n p2,[?v,?bU,?aC,o1,o2,o3],?Nv ?x ?F ?bC,?p G pr ?ou pr=?j ?ou,?Ky l6c,σ'=?An,?ap ?bV ?fA fs,[?v,?bU,?bF,o3,o4],?IX et,?N3 ?f3,?Kz AV,Vm xs ?an ps,?I9 x.row hi,(?MX o4 o5),fM K,qw9 ?h,?Js H3,(?MJ l hl),Dn ?F,f24 _ _ x1,fJ K,(P:Addr),r.1 i,#[cs,_,_,R,_],Nh lf (c.take i),?fm zU,λQW=>?_,?Io b8 ?jk ?bl,#[hld,dd,la],?N3 ?AV,n0 K,"_law_found",(?Lu none),s04.trans,(?LF cD CC),?Mm (! ?hw),?LI KG,?Jq xu.length,?p G1 C ?oo,ql7.mp hv,IE K,Cn (Li xs m m.length),?ap ?gS ?h9 fs,?l hP,?aU ?A dl [],#[_,us,z,hq,r],K5.binds (ps:=?ej) ?aN,?cK (z-k0) ?hI,ChL.bord,(A2:?fJ),#[r,b,lx,f1,f2],?LI KH,(cD:?b3),Be Jt ?P ?cr,?Hs Mt ?x ?q9,g.natAbs<L9,σ'=(?MX ?co ?bD),?KX 3,sp_bPlus K,λi=>r.1 ?zp,Kv A A' H,.(by rw[?c7,Xm];simp[h2]),?Ly H3,FJ K,?Jr ?Gf,#[l,us,TU,hl,pp],.(by rw[qc3,hcl];rfl),aV ?h ?Eq,?Ik H6 ?S (?ap ?j5 ?xH ?wW),(?ME hD),mT P w K mg ?n ?A ?ej 1 ?AP,p.2.2.1.take,?N3 ?zL,.(nomatch z),qa6 hp2,?p H7 C ?qk,λh4=>?_,ch.g.key,.ad i ?ch (-qq),F5 K,?dz-k0,(?ME ?vc),(?ig).2.2,?KA ?gS D1 fs,[?v,?al,?b4,?b6,?aL,?ck,?dA,?df,?ei,?fQ,?gz,?aC,CC,o13,fV,o15],Aa ?x ?G9,Dt K,?I2 ?x ?eh,?IC Eh ?nC,#[r',b',ly,_],kk.toNat,Hz xs ?an ps,rows.take,?L4 8 ?dY,#[?g,L,_,?i,hL,?bM],#[?g,?i,?dW,?i,?N,?h,?g,?_],.(by rw[qa9,?my];rfl),A49 p ?Cx m,?p G1 c ?ml,λ_=>rfl,λc q n1 n2 e=>?v7,Lv≠a,?V ?cp,?JK ?f7,#[?o,?o,?o,?o],x.fr.2.2.2,λh3=>?_,IntMulOk,"shrink_row",.dK (cK ?fe),?Ib (((k.toNat:Nat):Int)=k),λc kvs _ e=>?_,?I4 ?aQ,Aa ?x ?bC,(?fz).length,ok.hd j ?m hj2,?l xa',I ?a8 s,n6 K,FI K,lu.length=4,.(by split<;>ext d),(ws.take i).map,?z Lf,?Nl s2 ?c6,?Ky m5,?vM k19,(Aq (s2 _ _ hD) R3.free).symm,SameX.refl _ _,kq H1 s1,?II hp3,R.same.free,?LU ?az,.(λi c _ _=>by ext HF),?JT s12,N1 K,?JI b ?th ?si,?K0 ?cW,Kv ?hb A2 H7,#[hi,l1,u1,ps,?h,hps,hl1,pa],j-ts.length,?aU C dx ?Cy,b*?cw / g,?KG ?Ax,kD K,dd.2 _ v hv,"_law_book",(x2.same s3).there.1,s4.trans,?LI M4,?II R.at,?p G1 t ?hm,λG' z=>?_,λe1=>?_,σ'=?Fp,?L ?hi,EE ?hE fs q.2 m,ns.getD i 0,#[?g,back],?p H5 p ?vJ,?I9 xb.row hi,ok p ?fn,.(by ext lw),[?v,?eR,?a2,?bF,o4,none,none,none],λp=>K9 xs k p.1 p.2,?I3 (j≠i),?u ?zN,(z▸Rf),sx4.same,spot<=i,BL K,sL.seqT hT,Dn ?av,ms.length,?NK ?b4,KD K,λg' a b G' sh z'=>?_,.dK ?ce,?O7 [],qa6 hv,?MW T4 ws,(pp.grow gr).same,?KK fam=true,pk.m2 y hy,(?IR p ?s4),"_law_letters",?w Cu,ChL.piece,?Ms hv,?Ig hl1,Cc ?H0=i,G b=?j ?iJ,#[?i,?i,?h],?J6 (by ext gF;show ?jZ),#[?aI,x],z.there.1,?OR Ky ?x,λe=>?_,[none,?e9,?cT],λZ G4 nZ g4 hZ=>?_,λR G hR s h=>?Hy #[R,?h,hR,s,h],(?Kh zI.sub),?I1 G D m,?IQ ?Fo kp5,Ay8 p n p2,xs.take i,?n9 ?iI,?Io Mn ?hD ?ak,#[ws,?B,_,_,?g,g,Cu,dd,IY],a=O3\/a=O4,?JY ?Eu,?Ie g2,?N3 ?q0,?Dm j,λk=>if k=i then g else f k,Nat->Nat,pv 14,λB hB=>?_,?vM kp3,(?Lu (rS bl)),?MK (?Iw ?l5),#[ta,?a9,hq,cP,_],?u (?yC:Int),#[_,b,?h,hb],#[pa,pu,?h,hpa,rP],(?gX).getD,(?ig).2.1,show x=?bp from hx,.(λz=>by ext i9;{show bA z};rw[z,nrH]at e2;cases e2),#[?g,?N,?N,?_],jF c q z ?uD ?fI,?II hp2,shL i j g b f l,wI ?fk ?fe,?z L',#[o1,o2',o3'],qa6 hbi,ds.length,λc r e=>?_,?N3 ?cr,?Ic ?ak,?Jm ?Eu,?LI bN,?LI v3,X2 K,λc r n e=>?Jk n,?MK ?l5,?K3 i.toNat,ok d ?m,?ax s2,?N3 (?O2 "tuple" ?yB Lh),nb a (mb a ha),K8 K,?O7 m,?MH XR,#[?aS,?X,?_],Uk ws w fam,(hs':?mP),Lat.downS t i s d,?N3 ?hM,?N3 Fx,[?mr,?BF],(3:Int).toNat,?I3 (?oB=?dw),?LK ?P,VI W (s.1 k),(?io).length,(VI m f).set i ?oZ,?p G E ?eN,#[ta,vs,?h,hT,rT],uY _ _ Cu,cZ xs (?aG ds),[?oZ,?u a,?u c],.(by rw[qa9,?rp];rfl),?L4 11 ?bX,?jK z l.2 L i,?Ky l4,Lv≠p,?JZ ?F,Ke K,?h0=true,#[bu5,?g,s5,hB5,?_,xO],?IX ha,C4 ms ?yW,x3 _ _ hR,#[?h,?h],Heap->Prop,(?kL).length,(us.length:Nat),tI ?pW,PX K,?OV Vq ?bC,(?jj).length,c'%letters,Nat.le_of_dvd (Int.natAbs_pos.mpr ?m) (qx2.mpr sh.dA),sG.trans,as++[D2],λe=>eqD e (?u (ds.length:Int)),sx.turn nR,.(by(let#[f1,f2]:=fin i D H1 hi hD s1 (by rw[Eb];congr 2;show Uh λc _=>by simp[ZN]) λr hr=>by funext c;simp[ZN,hr]);show#[?k,L,_,_,i,?O,f1,Gu (by rw[qa5,x.1];show hi),#[?g,f2]]),.(by(let hc:Cls K C/\Ep K C ?gS/\Ep K C ?hy:=by rcases hC with rfl | rfl;{show#[?cO,?k3,?jc]};show#[?aq,?vG,?jL])),.(by(. apply#[?k,hd,lu,?i,?nG,?hd,?g,l,us,?i,?l2,Bi hv,t,?g,?lO,?T,?g,_,?g,_,?g,?i,?_];show ?bf)),.(by(. apply#[?k,hd,lu,?i,?nG,?hd,aT hl ?FW]);apply Iy λR H1 nR s1 hR=>?_;intro sq),.(by let hfl:?w3<=4:=by rcases Lb (l:=xs) (i:=?bK) (d:=[]) with z | z;{show h4 _ z};rw[z];show ?bJ),.(by(. rw[hf4,hf3,hf2];(ext ai))),.(by apply ?D;apply#[?g,ta,_,?i,hT1,?bM];apply ?wq),∀(Cv:Mu P w K mg ?n ?U ?E2 ?mq 4 ?Eh),a,.(by cases z:i=c;{subst z;simp[Lat.one]};let:¬c=i:=λe=>z e.symm;simp[Lat.one,z,this]),.(by cases z:c=b;{subst z;rw[Ab]at e;cases e;show AV};rw[?dZ]at e;show jF c r z n e),∀(Nl:?DQ),a,.(by apply ?Ho (?vH/\?a4)),.(by funext b;cases hb:b=d;{subst hb;rw[Ab,Ab];rfl};rw[?fx,?fx,?fx]),∀(Dx:?I7 ?sn ?hc ?u1),a,.(by let rul:ru.length=rows.length:=by let:=rR.length;ext aV),∀(Jc:?Hx "_law_faces_by" [?h8,?eY] Oj),a,.(by let hi:i<n:=by ext ex;rw[qa5,?eq]at this;show this),∀(Dy:?Hx "_law_without_noughts" [?mi] Si),a,∀(Ux:?Hx "add_at" [?cb,?b0,?as] Up),a,∀(Fd:?I5 ?qd ?lb ?Bf),a,.(by cases z:c=b;{subst z;rw[hb]at e;cases e;show Ab};rw[?dZ]),.(by(. show#[?bJ,λD hD=>?Hy #[D,?h,?gN,hD,Ab]])),∀(Nm:?I7 ?sA ?iu ?yj),a,.(by rw[Ar,?cV]),∀(Hi:?Hx "is_multiple" ["value",?as] Lk),a,∀(Hj:?I7 ?pG ?ib ?v4),a,.(by have ?sf:=x.ob),∀(Tr:?Hx "weigh" [?nF,?cb] bJ),a,.(by let cb:∀z:Int,Xt z g:=λz=>Xt.of9 ?m lg),.(by apply VE λT A' H2 s2 hR2 gr uQ hT2=>?_;intro sq),.(by let nN:?w4:=?Ju x.nn),.(by(. show λk k1 k2=>?Ba k1 k2 _ _ _ _)),.(by let ?Cf:=hz;show ?cq ?EA),.(by apply ?jA),.(by rcases ho with⟨_,q⟩|⟨_,q⟩<;>cases q),.(by show ?c2 ?c8),∀(Vq:?I5 ?oP ?lP ?Cw),a,.(nomatch oX,OS,?h,hpa,?Ky l6a,H1,p,L,R,nm),.(nomatch ?ag,?hU,l4a,R,?A,dr,fr),.(nomatch p,?dD,?U,r,b,_,n,W,_,_),.(nomatch ?a8,st,s,?h,y,hI,hs,hb),.(nomatch t2,ra2,ga2,fa2,?h,et2),.(nomatch ms,ns,?h,ha,hb,hm,hn),@(?q (λσ' H'=>?a) ?r ?_),@(Bs P w K mg ?n Ed ?a f fd ?b ?c),@(Cq (K:=K) (n:=2) ?o (Ba (Al (i:=?a) ?b) (Ba ?c Cp))),@(Bk X G ?a (λF=>?b) ?c),@(Ai ?a hr (Aa ?b ?c)),@(λ_ _ _ _=>?a),@(Er K ?a ?b ?c f fd),@(?l (?a _ _ ?b)),@(Ao (i:=?a) ?b ?c),@(?y P w K mg ?n ?a ?b 1 (?c K)),@(?t _ _ ?a),@(λi σ H2=>Xs λ ?lN ?ln ?kp ?lV=>Br (σ=[?kN,?be,?eT,?j (?u ?a),?b,?au,o]) ?eH ?jh ?iN),@(?G ?a ?b (An ?c)),@(?a ?b=?j (.dK (cK ?c))),@(At ?aJ ?a ?b ?a0),@(show ?a by ext d),@(Ag (Bb ?a)),@(?y P w K mg ?n ?a ?b 2 ?c),@(Ci (?bW (Pt (Em (D8 ?a)) ?b)) ?b5 Bm),@(?y P w K mg ?n ?a ?b 3 ?c),@(?H ?a ?E),@(?a (K:=K) ?b),@(σ'=?a/\∃(d:Nat) (f:?g3) (l r:?dT),?b),@(Fr (K:=K) ?x ?a),@(Bh ?a ?b Ah ?R),@(SX ?U H0 ?a p q M n W t ?b ?c),@(Ag (B7 (Eu ?x ?aq ?a hr ?b))),@(WX K ?A ?S H0 ?a p L R nm n w ?lI l r ?b),@(Ag (B7 (Jw (K:=K) qf4 qi4 qi3 Hg ?a ?b))),@((?a ?b).trans ?c),@(s2 _ _ ?a),@(Ex λo=>τ=?a),@(Iz (λσ' H'=>σ'=?a/\?ah) ?_ ?hS),@(?p ?a ?b (?aG ?c)),@(by exact ?c4<?a;decide),@(?w #[?T,?l ?a]),@(Ci (Em (D8 (Ai ?a hr ?b))) ?jv Bm),@(show(?a).all id=true by simp),@((?a).trans ?b),@(#[?a,?g,?b,?T,?g,?i,?_]),@(λy hy=>Hq (m:=J8) (n:=2) ?a (?jM ?b) ?dq),@(Cq (K:=K) (n:=4) ?o (Ba ?a ?b)),@(us.length=?a),@(show(F4 ?a).length=?b from ?k8),@(#[?g,?a,?h,?b,?aM]),@(s1 _ _ ?a),@(H ?a=none),@(qj8 X G ?a),@(?j (.frz o (.dK ?a))),@(show ?a by ext d),@(Cr ?o ?bZ ?a),@(#[t,Y,_,?g,?w ((?gO) _ _ ZG),hY,?rc,qa4 (?a _).ok.len ?N,?FV]),@(?a _ _ Cu),@((?ax ?a).turn hD),@(g1 _ _ ?a),@(σ=[?ar,?au,?be,?cl,rS R1,?j (?u (0+i)),rS B,?a,o8,o9]),@(B7 (Jw (K:=K) qf4 qu6 qu5 d6 ?ao (Aa ?C (Aa ?a Ac)))),@(Ak (λσ' H'=>?a) ?_ ?ff),@(?p ?a p (?aU ?b dx ?c)),@(#[?g,Ab,[(?g4 ?a,?aF 1)],?h,?f1]),@(decide_eq_decide.mpr #[λz=>V.int.inj ?a,λz=>?pJ]),@(Hm λo1 o2=>τ=?a),@(?a (K:=K) ?o ?b ?c),@(λH=>?V #[?B,?a,?O,?h,(by exact(?b:Nat)<=sizeLine;decide),?c]),@(?w (?a _ _ ?b)),@(#[?g,?dL,?g,hpa,?e6,l5a,?g,nm,_,?i,?mU,Bi (C6 ?a),?_]),@(s3 _ _ ?a),@(Rep K ?a ?dD (zK ?b)),@(B7 (Eu ?ao ?cO Mr hr (Aa (Di (Aa Q4 (Aa ?a ?b))) Ac))),@(H9 ?a=?j (?L (VI n (?iT s.2 i j ?bb ?ke (-c) a ?b)))),@(qa4 ?a ?N),@(λi j c hi hj hc=>mL (?a i j hi hj) (?b j c hj hc)),@(by let:=qc2 m ?a;rw[qg5,qg4]at this;show this),@(by let ?a:=hz;show e),@(mkL (N:=?gV) hl1 R1 hl2 R2 ?a sN hfs hG4 ?C0),@(NF (K:=K) ?h ?h ?h ?a kl ?m ?b),@(H9 ?a=?j (?L (VI W (?iT s.1 i j a c ?dV ?bb ?b)))),@(?p (?p ?a d ?eN) d (.dK (Ir [] [(?g4 ?b,?aF 1)]))),@(?V #[b,?a,?b,?dy]),@(#[?ba,ms,?a3,hb,hm,h4,?a,kq]),@(λi ys τ H1 _ hz=>?a),@(qx4 X G ?a),@((?a).turn hD),@(by rw[←?a ?b];show ?c _),@(?y P w K mg ?n ?a ?b 6 ?c),@(?y P w K mg ?n ?a ?b 4 ?c),@(#[?g,?aW,?g,hp,?bx,?g,r,_,?i,?dC,?a,?g,?b,_,?i,?c,?ic,?_]),@(∀w:?hn,w.length=?a->?sE),@(λi zs τ G1=>Ex λcs=>Br ?n1 ?oL ?a ?BJ),@(by (let:¬?a:=?b);ext d),@(λk hk=>#[mk ?a bo.2 hi hk,mk ?b bo.2 hj hk]),@(#[?k,a,u1,?i,hu1,av1,v1,F4 ?a,?h,?V tv1,?_]),@(∀c q,c≠?a->?e8->?b->?c),@(Mu P w K mg ?n ?S ?a ?bt ?b ?c),@(?aP (0<=i)&&?aP (i<?a)),@(((?a ?b).map ?c).map ?bN),@(#[?e1,m,i,?a,l,r,f,?h,z,?K,mn,mw,o1,?Ci,?F8]),@(σ=[?ar,?au,?be,?cl,?dc,o5,o6,o7,o8,?a]),@(λy hy=>Hq (m:=J8+10) (n:=J8) ?a (?b y hy) ?dq),@(λk hk=>#[mk ?a ?fj hi hk,mk ?b ?fj hj hk]),@(Ck (K:=K) (a:=r) (xs:=?cY) ?a ?b ?ya ?_ ?_),@(λq hq=>let ?z1:=Bt (?a q hq);#[x,y]),@(K0 ?a (λF=>?b) ?c),@(?a1 ?a hL),@((?a).map ?aF),@(#[?k,?k,?g,?bw,?g,?a,?iD,?g,b,_,?i,?l ?b,Bi ?c,?_]),@(∀{G:Hp}{c:Addr},?pi->c∈?a->?uS),@(λc hc=>Hq ?a ?b ?N),@(Nk ?a ?_),@(Em (D8 (Av Rl ?ek B9 (Aa ?a ?q2)))),@((?a ?b).map ?c),@(#[?g,?a,o,?b,?h,?X]),@(sp _ _ ?a),@(#[?k,?k,?bw,?g,?a,?gG,?g,r,_,?i,?l ?b,Bi ?c,?_]),@(Xi (lo:=0) (n:=xs.length) ?a ?b ?_ ?_),@(λa e=>?a e),@(Mu P w K mg ?n ?a ?nt ?hp 2 ?o9),@(Mu P w K mg ?n ?a ?eI ?fV 3 ?pC),@(ChL xs ?a ?b),@(λa ha=>?a),@(by rw[Aj ?a];show e),@(below ws fam [] ?a),@(aV ?a ?_),@(SX ?U H0 G' p q M n W t cnt ?a),@(?s G1 (?p G1 F (?L (Fj ?xw ?a ?b)))),@((?a).natAbs<L9),@(?a=xs.length),@(?a=false),@(?a a=none),@(?a (by rw[qa5,qa5,ql4];ext d)),@(λa e z=>?a a z e),@(k _ ?a8 st s hs hI hb hex ?a),@(JY _ _ ?a (s5 _ _ ?b)),@(Ag (B7 (Eu ?x ?ag Mq hr ?a))),@(?y P w K mg ?n ?a ?b 8 ?c),@(?y P w K mg ?n ?a ?b 7 ?c),@(?cK ?a ?dG),@(vs d i ?a f l r hv ?m ?m ?m),@(good ?a w K mg ?A ?U ?S ?b1),@(?ci ?a []),@(λc r n e=>?a),@(lookI ?a q.1=?nY),@(Qd (ws:=ws) (fam:=fam) ?a [] ?b),@(B7 (Px ?a ?ag ?b hr)),@(?s G2 (?p (?p G2 dl ?a) ?b ?D0)),@(?s ?a (?p ?b ?c ?lF)),@(?ap ?a (?cI ?b) ?c),@((?a).map tI),@(SR _ _ (hk _ _ ?a (sO _ _ ?b))),@(H2 ?a=?j (?L ?b)),@(#[?k,tI fc,?rM,?a,?w ?b,?zh,?g,?_]),@(#[?a,?gE,XW,e10,xZ,e30,aA,bA]),@(f8 _ _ ?a),@(De (lo:=0) (n:=4) ?a ?b ?_ ?_),@(?cf H H1 D as ?a ?b),@(?aU ?A JK ?a),@(?aP (?aF ?a=?hI)),@(?Q (o:=.dK (cK ?a)) ?b),@(#[?g,?aW,?g,?gC,?g,q,_,?i,?a,?b,?_]),@(#[?a,?a9,hq,cP,Kl]),@(fin ?a (by unfold AQ;rw[?b])),@(Cd.kd (λc o e ho=>?a) rE),@(Ao0 λZ G2 z q1 hz1=>?a),@(?y P w K mg ?n ?a [?b] 1 ?DZ),@(#[?k,R,us,?i,?sb,Bi ?a,?bf]),@(#[?a,dl,?A,?z ?b,?z ?c,?h,?cp,Ab,?Bx]),@(s15 _ _ ?a),@(qc1 ?hF ?a),@(Hy ?a ?b Es),@(Al (i:=?a) ?k1),@(Al (i:=?a) ?cs),@(#[_,_,#[?a,Ra,N7],?zT,?C8]),@(#[_,_,#[?a,O0,Mp],?v0,?uH]),@(?a[i]?=?j ?b),@(?a _ _ pr pb ?b),@(mu.length=(?a).length),@(by rw[qa1,qa0 ?a];rfl),@((?DR ?a).foldl ?nf lg),@((?a).take i),@(#[λc x=>?w (?a c x),?xg]),@(#[?g,?aW,?g,?a,?bx,r,?h,#[_,?b],?c]),@(?a a≠none),@(∀a o,?a a=?cJ->?C9),@(λw e=>?V (?a ?b)),@(λa ha z=>?a),@(ys.length<=?a),@(show ?a=min ?b ?eJ from ?uu _ _ ?c),@(_=?j (HO.dK (cK ?a))),@(Aq ((?fE) _ _ ?a) nE),@(Aj λz:c1=ga=>?a ?Ab),@(?s H (?p H ?a ?b)),@(?p ?a p ?b p=?j ?c),@(?l (kb ?a mdj _ ?x7)),@(?l (kb ?a mdi _ ?yx)),@(#[?k,?g,c,?g,?cq ?a,?yO]),@(#[?g,?eM,?qa,?a,?h,?V ?mG,?b,?g,?_]),@(?a _ ?bk),@(U5 (?V #[o,?a]) hat),@(Cb ?cW (ls.take ?a)),@(?pP w5 gr (z5 _ _ ?a) ?b),@((?a).free ?b),@(?a[j]?=?j ?b),@(Al (i:=?a) ?b),@(Aa ?a (Aa ?b Ac)),@(λi ys τ G _ hz=>by ext bu;show ?Hv ?a ?b),@([?v,?al,?b4,?b6,?aL,?ck,?a,?b,?c,none,none,none,none,none,none,none]),@([?v,?al,?b4,?b6,?aL,?ck,?dA,?df,?ei,?a,?b,?c,none,none,none,none]),@(?j (.dK (cK ?a))),@(Ai ?a hr ?b),@(σ'=[?v,?a,?b,?c,none,none,none,none]),@(Av ?bh ?bB qh1 ?a),@(H' ?a=?j (?L ?b)),@(WX K ?A ?S H0 ?a p L R nm n w ?Y ?b ?c ?hs),@([?v,?aj,?bQ,?aO,?b8,?b7,?bq,?du,?aL,?cC,?aC,?a,?b,none,none,none,none]),@([?v,?aj,?bQ,?aO,?b8,?b7,?bq,?a,?aL,?cC,?aC,cD,CC,?bF,?b,none,none]),@(?j (?u ?a)),@(?a K ?A ?U ?S),@(λi σ G _ hz=>?a),@(At ?d5 ?a Ah ?a0),@(σ'=[?v,?dv,?ar,?g2,?g0,?a,?b,?c,none,none]),@(by let ?a:=hz;show ?Hv ?b ?c),@(λi ys τ H1=>Ex λas=>Br ?jn ?jQ ?a (?IJ ?b)),@(Ci ?a (Ag ?b) Bm),@(λ_ _ _ _=>(?Hs ?a ?b ?c)),@(B8 ?fb ?o ?eb Cy ?a),@(σ'=[?v,?al,?b4,?b6,?aL,?ck,?dA,?df,?ei,?fQ,?gz,?aC,?co,?j ?j0,rS fl,?a]),@(LX ?a ?A L O1 O2 ?Y n n ?d4 ?b),@(At ?aJ ?a ?b ?a0),@(B8 Fn ?o ?dS Dz ?a),@(Ao (i:=?a) ?b ?c),@((?eP ?a).trans ?bo),@(De (lo:=0) (n:=?a) (?Hz ?b ?c) ?k4 ?_ ?_),@(σ'=[?v,?bD,?b7,?aj,?bQ,?a,?b,?c]),@([?v,?aj,?bQ,?aO,?b8,?b7,?bq,rS rn,?aL,?cC,?aC,cD,CC,?bF,fV,?dc,?a]),@(λ_ _ _ _ _ _=>?a ?b),@(by let ?a:=hz;show ?b ?c),@(λi σ G=>?a),@(by let h1:=qq8 ?a ?wI;let h2:=qm3 ?b pos';show#[(?c%?dX).toNat,?K]),@(Ci (?bW (Pt ?a ?b)) ?b5 Bm),@(by rw[qa9,qa0 ?a]at hy;rw[qa1,qa0 ?b];simpa using hy.symm),@(Rep K ?a (?z ?b) ?c),@(λi ys τ G=>?a),@(WX K ?A ?S H1 H' p L R nm n w ?Y l r (Jh ?a f)),@(?a xs ?b z k0 L G f l r),@(λfr hc o e=>fr _ _ (?a _ hc).1 (?b _ hc).2.1 ?fI),@(by let:=Bi ?a;rwa [?b]at this),@(σ'=[?fv,?e7,?cl,?a2,?a,?b]),@([?v,?eR,?a2,?bF,o4,rS T,?a,?b]),@(#[?B,w++[?a],?h,?IQ ?ds s4,TI.mk ?_,?AN]),@(?a ?b=none),@(σ'=[?aj,?aO,?b8,?bq,?du,?aL,?cC,?a]),@(?j (?aU ?a dx ?b)),@(σ'=[?aj,?aO,?b8,?rC,?dr,?dc,?bD,?a]),@(λi zs τ G _ hz=>by ext bu;show ?a),@([?v,?dv,?ar,?g2,?g0,rS d,rS e,?bD,o8,?a]),@(Hm λ ?fu ?hz=>Kb ?a ?a4 ?qF ?DG ?nI ?b),@(Fq ?a ?b Ah ?R),@(?cR ((?a ?b).add ?c)),@(?s ?a H'),@(λi ys τ H1=>Br ?gl ?g6 ?kR ?a),@(Be ?dB (Be ?dB ?iF (Gc ?a)) ?uc),@(?aP ((Bf xs p.2.1).length=0)=?a),@(LX H' ?A R r2 b2 ?Y w w ?a ?gc),@(?s H2 (?IL H2 ?a ?b)),@(?c2 (?dI ?a)),@(#[?a,?a9,?l ?b,?ay ?c r]),@(Gb (?Hs Ko ?a (Aa ?bn (Aa ?b ?gf))) ?c),@(λi zs τ H1=>?a),@(λD A' hs' H' s sub hO' WE=>?a),@(LX H' ?A ?a r1' b1' ?Y n n ?b ?nV),@(Be ?a ?b ?a5),@(?w (?Hv ?a ?b)),@(?s H1 ?a),@(?q (t:=?ok) (λσ' H'=>?a) ?r ?_),@(#[_,?l ?a]),@(#[?g,?a,_,?i,?b,?O,?g,?_]),@(s4 _ _ ?a),@(g2 _ _ ?a),@([?v,?bU,?aC,?a,o2,o3,o4,o5,o6,o7]),@(#[?g,?a,?g,?b,?g,?_]),@(qa4 ?es ?a),@([?a2,?fC,?a,o3,none]),@(SX ?U H ?a p q ?ql n ?eB t ?b s),@(?bA p ?a ?b),@(?aP (?a ?fk (?nr).2.1=?oU)),@(#[_,?Hv ?a ?b]),@(LX ?a ?A R O3 O4 ?Y w w ?d4 ?b),@(?jO/\∃L R m M l r,?rf/\?a),@(∀a,?a->?j1),@(σ'=[?v,?al,?a]/\?b),@(σ'=[?a2,?a,?b]),@(l9 r b ?a H'),@(by let:=?a ?b;ext d),@([?v,?aO,?ar,?bF,?a,?b]),@([?pF,?v,?p3,?a,none,none,none]),@(Ec H ?a ws ?b),@(Av ?a ?ek B9 (Aa ?b ?c)),@(?a<us.length),@(λi σ G _ hz=>?Iz ?a),@(λa o e=>?a),@((?a ?b).turn ?c),@(∀a,?Js ?a->?b),@(Bi (C6 ?a)),@(Bh ?kA ?a ?b ?h),@(?gy ?a ?hg ?jd),@((?a).length<=?b),@(#[D,?a,?h,?lc,?_]),@(#[?a,_,?a8,?g,?h,?X,?bR ?b,?wF]),@(?a=true),@(?a=[rS x,rS tb,iS w,rS T,?b,?c]),@(?a _ _ e2),@(λc hc=>?a),@(kq D A' _ G5 w5 ?oR ?a ?b),@(by rw[Aj ?a];show Ab),@(by let:=Bi ?a;ext i3),@(SX ?U H0 H' p q M n W ?a ?b ?c),@(?cc K ?a ?b ?c),@(?a s1 sx n1 n2 ?b),@(SqT K H' ?a ?b),@(Ex λo1=>τ=[o1,?a]),@(#[?uX,?a,?J8 ?en,?X,?g]),@(#[?g,t,_,?i,?Hv ?a et,?h,dF (?b) ?c]),@(#[?g,?IN ?a,?g,?b,?i,?c,?b2,?_]),@(?a ?b (?Km ((?c).2.2 ?wy))),@(?a (Av ?bs ?bg Ff (Aa ?b Ac))),@(Aa ?a Ac),@(Aa ?a (?L5 ?b ?c)),@(σ'=[?a2,?cX,iS j,iS A,iS B,?cl,iS a,?b7,?LH ?dV,?LH ?bb,rS ci,?a]),@([?a2,?co,?j ?gZ,?j ?lp,?LH ?cw,?a]),@(Ex λ ?cQ=>Br ?a ?cU ?a4 ?b),@(by let ?a:=hz;show ?Hv ?b ?c),@(H' ?a=?L9 ?b),@(Bu (N':=?nW) (cap:=?mV) ?o ?aA ?yt ?p2 ?aH (?Ht ?a)),@(Qb (K:=K) (a:=h) (xs:=lu) ?a ?hT (?L6 (?b) hh) ?_ ?_),@(Fr (K:=K) ?x (?Hs ?a ?b ?c)),@(Ba (?L4 ?a ?b) (Ba ?c Cp)),@(Ck (K:=K) (a:=l) (xs:=us) ?a ?cd (?L6 g ?b) ?_ ?_),@(Nv λ ?lE ?sX ?qH=>Ee ?AS (?MM ?a ?b) (J ?c t s)),@(σ'=[?v,?aC,?a,?aL,?aO,?kY,?b4,?LH ?iP]),@(?j (?L ?a)),@(#[_,(Ag (Bb ?a)),?b]),@(Em (D8 (?Hs ?a ?b ?c))),@(σ'=[?v,?aC,?b6,?aL,?aO,?kY,?a,o7]),@(Bh ?a ?b ?c ?R),@(?a (K:=K) ?b),@(σ'=(?L7 ?a ?b none)),@(λσ' H'=>?a),@(U1 (d:=b) (o:=o) (kvs:=?a) ?b ?GP ?c ?_ ?_),@(Ag (?Hw ?a ?b ?c)),@(Ee (σ'=?a) ?a4 ?b),@(Be Fy ?a Ah),@(σ'=(?L8 ?fQ ?a ?b)),@(insAt ?a8 (?z ?a) ((?b).eraseIdx i)),@(Ck (K:=K) (a:=a) (xs:=us) ?a ?b ?c ?_ ?_),@(Ck (K:=K) (a:=E) (xs:=eu) ?a ?b ?c ?_ ?_),@(?a (K:=K)),@(VZ (?Lw ?a ?b) (Lq ?c)),@(Ex λ ?pg=>Br ?a ?rA ?a4 ?st),@(σ'=[?fv,?e7,?a,none,none]),@(σ'=?a/\?ah),@(λj σ H3 _ hz=>?LM ?a s3 ?b),@(VI W λk=>?a*s.1 i k+?b*s.1 j k),@(Nv λ ?l9 ?CH=>Br (?a=?Cq) ?b ?c ?wE),@(?a=?Ja ?jl ?b ?bN),@(EC λ ?fu ?hz ?GR ?xZ ?ug=>?a),@(?LY ?a none none/\?ah),@(L7 ?cz t1 (qs.take ?a)),@(Br (σ=?a) ?b (?I1 G D ?c) ?EU),@((?bi ?a).all ?b),@(st _ _ (?a _ _ (?b _ _ e))),@(?a=(?K0 i).map ?bN),@(g _ _ ?a),@(by ext bu;show ?Hv ?a ?b),@(Nv λ(A:?fJ) ?wt ?lE=>?a),@(L8 Hr (Be Jt ?a ?cr)),@(H' p=?Lr ?a ?b),@(Ag (Gb ?a (?KW ?C ?b))),@(Aa (?Hs Dp ?d9 ?a) (Aa ?b ?c)),@(λ_ _ _ _=>(?Hq 0 ?a (?L4 1 ?b))),@(Aa ?a (Aa ?b ?c)),@(Ci (Em (?N2 D8 ?a)) ?b5 Bm),@(Ag (Ci ?a ?b Bm)),@(Ad (Q3 (Ch qb8 ?h ?pX ?a (Ag ?b))) ?hP),@(Bu (N':=[?a]) (cap:=?fl) ?o ?aA ?pA (?Ht (?L4 0 ?b)) ?aH (?Ht ?c)),@(Bu (N':=[?as]) (cap:=?fl) ?o ?aA ?a ?xq ?aH (?Ht ?b)),@(Py Nl hr ?o ?jo (?L5 ?a ?b)),@(Ik (v:=.ty ?a) ?h ?b ?c ?h),@(#[_,(?I4 (Nf ?a (Lq ?b))),?_]),@(Av ?bh ?bB qh1 ?a),@(Dd ?d6 ?a ?b Fc),@(Ba (?L4 ?a ?b) ?c),@(?c9=?L9 ?a),@(Ai P7 hr (?N4 ?x ?a (?I2 ?b ?gU))),@(De (lo:=0) (n:=(?a:Int).toNat) ?b ?c ?_ ?_),@(Hm λ ?gw ?hf=>?a),@(iP (BW ?a Ah iM) ?o ?o ?hH ?CX),@(Q0 (?NL ?a ?b ?c)),@(?bW (iL ?a (aS (?IC Ja ?b)))),@(Ak ?a ?_ λkey=>?Hy #[?b,?h]),@(Ak (?NO (?ov/\?a)) ?_ ?b),@(Fq Eh ?a ?b ?R),@(Ag (Ch qb8 ?h ?a ?DD ?b)),@(Bu (N':=?yN) (cap:=?qw) ?o ?aA ?Fd ?ux ?aH (?Ht (?LA ?a ?wa))),@(Ao (i:=7) ?dY (Ai Ts hr (?L5 ?a ?b))),@(#[_,(Ag ?a),?_]),@(#[_,(Ad ?a ?b),?_]),@(Ag (?N2 Bb ?a)),@(Ao (i:=?a) ?b ?c),@(Ad ?a (?I4 ?b)),@(Di (Aa ?a ?b)),@(λ_ _ _ _=>?a),@(Be ?a ?b Ah),@(Ad ?a (Ag ?b)),@(Gb (?Hs Ko ?a (?Nv ?fs ?b ?gf)) ?c),@(Di (?Nv ?a ?b ?c)),@(Ai ?a hr ?b),@(B8 ?a ?o ?dS Dz ?b),@(Ci (?a ?b) ?b5 Bm),@(B7 (Jw (K:=K) qf4 qi4 qi3 Hg ?a (?N3 ?b))),@(Aa ?a (?L5 ?b ?c))])
def C7:?I0 [?dx,?eY,?FH,"_law_size","_law_base",?h8,?is] ?r9 Sw:=Bg
def iT[?J](F:?Hu ?p7 ?p7 Sw)[?I] :?Hp 1 ?r9 ?yz:=by apply ?I8 C7;let#[c,fam,letters,?h,hl0,hl1,hf,k]:=h;let m1:0<=?dE:=?no;let m2:?dE<4:=?lS;apply#[_,(Ad (?Hw 0 ?cD ?oc) (Ad (?Hw 3 ?cD ?oc) (Ad (?Hw 4 ?cD ?C) (Ad (?LO (?IC Eh ?F) (?Hw 3 ?cD ?kX)) (Ad (?LO (?OD (?IC Yi ?F) ?P) (?Hw 3 ?cD Ah)) (Ad (?LO (?IC kZ ?F) (?Hw 4 ?cD ?F)) (Ad (?Hw 0 ?cD ?FS) (Ad (?Hw 5 ?cD (Di Ac)) (Ad (Ch qb8 ?h (?Ic ?eW) (?L4 6 ?cD) (Ad (?ON 5 ?cD (Be (?NX Ys) ?aQ (Di (?N3 (?MA Fy ?x))))) (?NQ 0 ?cD (?MA Ky ?x)))) ?E6))))))))),?_];ext W;apply#[?g,?i,(?IM 1000000),?_];apply#[?g,?i,(?IM 4),?_];apply ?bH;let fork:?nL\/(fam<0/\?dE=1)\/(fam<0/\¬?dE=1)\/0<fam:=?m;let wN:¬?nL->¬?FE:=λz q=>z (by simpa using q);(let Bh6:?nL->?FE:=λz=>by simp[z]);let hb0:0<letters:=hl0;let hb1:letters<1073741824:=?m;rcases fork with hz|⟨hz,h1⟩|⟨hz,h1⟩ | hz;{apply ?bP;apply ?Jm (Bh6 hz);apply ?sL;apply ?d3;apply ?fO;apply ?dm;apply ?d3;apply ?fO;let hW:?JD ((?m5).toNat):=λw e=>?w #[hz,?K];apply ?iq;apply ?jA;apply ?O9 ?m5 (?Hz ?m5 ?eT) ?k4;{rintro i σ H2 hi C9;ext f;revert σ;apply ?dk;intro c' v o w s2 tv hwl Eg;let ?k5:=tv.sq;apply ?kr;let s3:?sB:=?kO;apply ?k2;apply ?jI;apply ?os;rw[qb2];show q3};rintro σ H2 C9;revert σ;apply ?dk;intro c' v o w s2 tv hwl Eg;show ?kZ};{apply ?bP;apply ?pn;apply ?d3;apply ?mk;apply ?bP;apply ?JY (eqI h1);apply ?d3;apply ?fO;let hW:?vy:=?Kl ?w ?y3;apply ?iq;apply ?jA;apply ?LX ?Bw ?dE ?eT;{rintro i σ H2 hi C9;ext f;revert σ;apply ?dk;intro c' v o w s2 tv hwl Eg;let ?k5:=tv.sq;apply ?kr;let s3:?sB:=?kO;apply ?k2;apply ?jI;apply ?os;rw[qb2];show q3};rintro σ H2 C9;revert σ;apply ?dk;intro c' v o w s2 tv hwl Eg;show ?kZ};{apply ?bP;apply ?pn;apply ?d3;apply ?mk;apply ?bP;apply ?Jm (neI h1);apply ?d3;apply ?fO;let hW:?JD ?GW:=?Kl ?w #[hz,?V (?V e)];apply ?iq;apply ?jA;apply ?LX ?GW (3) ?eT;{rintro i σ H2 hi C9;ext f;revert σ;apply ?dk;intro c' v o w s2 tv hwl Eg;let ?k5:=tv.sq;apply ?kr;let s3:?sB:=?kO;apply ?k2;apply ?jI;apply ?os;rw[qb2];show q3};rintro σ H2 C9;revert σ;apply ?dk;intro c' v o w s2 tv hwl Eg;show ?kZ};apply ?bP;apply ?pn;ext tW;apply ?fO;ext lz;ext tW;apply ?mk;apply ?bH;let hW:?vy:=?Kl ?V ?y3;let hb0:0<fam:=hz;let hb1:fam<1073741824:=?m;apply ?iq;ext He;apply ?LX ?Bw ?dE ?be;{rintro i σ H2 hi C9;ext f;revert σ;apply ?dk;intro c' v o w s2 tv hwl Eg;let ?k5:=tv.sq;apply ?kr;let s3:?M3 pt [?u ?to]:=?kO;apply ?k2;apply ?jI;apply(?Lo ?to);rw[qb2];show q3};ext lx;apply ?dk;intro c' v o w s2 tv hwl Eg;show ?kZ
def X9:?I0 ?lb ?lb Kh:=Bg
def Yk[?J](F:?Hu ?qd ?qd Kh)[?I][?ls]:?Hp 2 ?lb ?Bf:=by apply ?I8 X9;let#[x,d,b,?h,hx,k]:=h;apply(?O3 ?pL (WB QF Yi Ah ?x ?F));apply#[?g,x,d,?h,hx,?g,?_];ext tY;{let#[i,?h]:=MX e;cases ?Fx;apply ?d3;apply ?cu ?El ?El;{apply ?sL;(let e2:?oF=?aP (i<b):=by exact(?JK b)=_;rw[e1];rfl);rw[e2]at k;show k};(let e2:?Jr ?oF:=by exact(?JK b)=_;simp at e1;ext ad);rw[e2]at k;show k};(let e2:belowD d b=false:=by cases d<;>first | rfl | (exfalso;show e ?h));rw[e2]at k;show k
def AR:?I0 [?eV,?cS,?d7,?b0,?as] ?ku nQ:=Bg
def Ab3[?J](F:?Hu ?oj ?oj nQ)[?I][?HP]:?Hp 2 ?ku ?Bs:=by apply ?I8 AR;let#[a,b,?Hn,k]:=h;apply(?OL (?Hw 2 AR.nd ?EQ) (?Ny (?Hq 3 AR.nd (?L4 4 AR.nd)) (B7 (?LA Ux ?tq))));ext W;apply#[?g,a,?ce,?h,ha,?aM];let aM:?lK:=?qp;apply ?J4 ?eo (by rw[?kt];show hb);apply ?BP;have Cj1:?ab:=λi σ H1=>Hm λo1 o2=>Br ?zX (H1 b=?Ia ?eo) (?I1 H1 D ?Gr) ((?JI b (H c=?dK) ?th));apply ?NP ?eo Cj1 (λi σ H1 _ hz=>?zr);{rw[?hR,Ab];rfl};{intro c q n1 n2 e;rw[?gs,?kT];show e};{rintro i kk x σ H1 p hx C9 hp;ext f;revert σ;apply ?cn;intro o1 o2 hb1 Eb hk1 Eg;let ?ev:=?dt;let npb:b≠p:=Aq hb1 hp;let npD:?rs:=Aq Eb hp;let hlt:?ie:=?hO;apply ?ed;apply#[?k,?g,D,?Gr,q.1,q.2,?h,(by rw[Aj npD];show Eb),?c1];{let:=lT ?yW ms;rw[qd1]at this;ext d};apply#[_,?g,?c1,?p0];{rw[?kt,Aj npb];show hb1};{rw[Ab,sY hq]};rw[?kT,Aj (Aq ?zb hp)];show ?zb};rintro σ H1 C9;revert σ;apply ?cn;intro o1 o2 hb1 Eb hk1 Eg;rw[Iv,qd0]at Eb;apply#[hb1,?g,k D _ hD ?jN ?kj];ext HR;show hk1 c q z ?uD e
def Wi:?I0 ?ee ?ee Jn:=Bg
def W3[?J](F:?Hu ?s6 ?s6 Jn)[?I][?i5]:?Hp 2 ?ee ?Dg:=by apply ?I8 Wi;let#[a,i,xs,?a3,Ce,k]:=h;let ?z5:=?xu;let#[_,us',z,hq',r]:=?fB;apply(?OK (Bb (Bu (N':=[?b0,?fS,"k"]) (cap:=[none,none,?cT]) ?o ?aA ?zf (?Nu Al5 Al5) (?Ht (AS (Bh Eh ?v9 ?C ?R))) (?Ht ?x))));cases z;apply(?IW a #[us',hq']);(let B46:?Jq us'.length:=?h7);have Cj0:?aK:=λj ys τ H1=>Ds (j<=us'.length) ?gl ?g6 (ys=(b6 xs i j).map ?aF) (?In [o1,o2,?cX]);apply Qb (K:=K) (a:=a) (xs:=us') Cj0 #[?bJ,?aT,?h,?aS] (λj ys τ H1 _ hz=>?Lb #[_,s1,_] ?dn hq') ?_ ?_;{rintro j v ys τ H1 p hv C9 hp;revert τ;apply xC ?_;intro hj s1 Eb hys o1 o2 Eg;let hj2:j<us'.length:=?cy;let hj3:j<xs.length:=?m;let ?nw:=r.getV hv;(let edv:dv=tI ?jj:=by rw[qa9,qa0 hj3]at QW;rw[qa1,qa0 hj3];simpa using QW.symm);subst edv;let sp:?MC ?tn:=?ca;apply ?ed;apply#[?g,v,F4 ?jj,?h,?V (?a1 ?gW rv),?g,?h,?g,?_];rw[?IV ?jj ?H0];let hDp:(?tn) D=?gj:=?oO;(let yl:?Kn j:=by rw[hys,qa5];show E7 ..);apply ?oM;{(let h3:?FM:=?eu);apply#[?g,hDp,?b2,?m,?J8 ?gW,?X,_,?g];rw[VX h3,qb2,hys];rfl};(let h3:¬?FM:=?eu);apply#[?m,?gW,hDp,?_,_,?g];rw[Aa0 h3];show hys};rintro ys τ H1 ⟨_,s1,Eb,hys,_⟩;rw[B46]at hys;apply k D H1 hD s1 ?_;rw[Eb,hys];rfl
def Sn:?I0 ?lU ?lU Hu:=Bg
def S7[?J](F:?Hu ?nd ?nd Hu)[?I][?ls]:?Hp 2 ?lU ?GM:=by apply ?I8 Sn;let#[a,n,f,?h,hq,hn,k]:=h;apply#[_,(Ag (Bb (Nf ?vT (Nf (?OG ?kf ?F) (?N2 Lq (?O0 ?iG ?pL)))))),?_];apply(?Kx (dL n f) (yF hq));apply ?Jm (by simp[TR,dL]);apply#[?g,a,?g,?ew,?g,?h,?g,?_];apply ?Jm (isI ?od);ext tU;have Ci9:?aK:=?Lz ?f4;apply Ck (K:=K) (a:=a) (xs:=VI n f) Ci9 ?cd ?FP ?_ ?_;{rintro i x ys τ H1 hx C9;revert τ;apply ?bS;intro s1 Eb hz1 o Eg;subst hz1;let ?v2:=j8 hx;apply#[?g,_,?lp,?O,Eb,?mW,?qT,?X,?g];rw[ql0,qb2];rfl};ext tX;apply(?Mk ?tt);rw[?IP ?tt];show ?fM
def nO:?I0 ?eS ?eS Z8:=Bg
def oB[?J](F:?Hu ?ni ?ni Z8)[?I](jI:?Hx "column" [?bV,"j"] FL):?Hp 2 ?eS ?Gn:=by apply ?I8 nO;let ?zn:=h;apply(?NI (Bu (N':=["j",?bV]) (cap:=?t6) ?o ?aA ?GA (?Ht (?L4 0 Ax3)) ?aH (?Ht (?LA jI ?mo))) ?_);ext tN;have Ci8:?aK:=?LN (?KI h (λi j=>f j i)) [o,?au];apply Le Ci8 ?i0 ?_ ?_;{rintro i ys τ H1 hi ⟨as,hal,rfl,R,o,rfl⟩;let hi2:i<w:=?m;apply#[?k,v,h,w,i,f,?vU,?zs,hh,hi2,?mb];show ?qx};ext tH
def ZT:?I0 ?lP ?lP NQ:=Bg
def Ab4[?J](F:?Hu ?oP ?oP NQ)[?I](cT:?Hx "one_row" [?mA,"i"] BJ):?Hp 2 ?lP ?Cw:=by apply ?I8 ZT;let ?xP:=h;apply(?NI (Bu (N':=["i",?mA]) (cap:=?t6) ?o ?aA (?Ic ?az) (?Ht (?L4 0 Ax1)) ?aH (?Ht (?LA cT ?mo))) ?_);ext tN;have Ci7:?aK:=?LN (?KI n ?oV) [o,?dr];apply Le Ci7 ?i0 ?_ ?_;{rintro i ys τ H1 hi ⟨as,hal,rfl,R,o,rfl⟩;apply#[?k,n,i,?vU,hn,?mb];show ?qx};ext tH
def Ib:?I0 [?hl,?bV,?bE,?d7,?as,?eg] ?pw Qu:=Bg
def eO[?J](F:?Hu ?o7 ?o7 Qu)[?I][?tM]:?Hp 2 ?pw ?A1:=by apply ?I8 Ib;let#[x,v,h,w,a,f,?h,hx,hv,hh,hw,hm,k]:=h;let(?KN tb):=?hY;apply(?OL (?Hw 3 ?jP (Be wG ?wT ?C)) (Ad (Ch qb8 ?h ?Cj (?Hq 4 ?jP (?L4 5 ?jP)) (Ag (?LV 3 ?jP (?Hs Ko Ah (Aa ?P ?B1))))) (?I4 ?P)));ext W;apply ?Ho (Ex λT=>Br (?Mn σ' none none) ?xk ?a4 (?LD T (VI w ?C3)));{apply#[?af,λl0 hl0=>?_];let s0:?Ks l0 ?lA:=?Q hl0;apply#[?g,l0,?i,Ab,?K,?mM,?oz];apply ?Hy #[T,?h,?li hT,?rw ?lX,?_];rw[Ab,qc4,A50]};apply Iy λT0 H1 hT0 s1 hT1=>?_;intro sq;apply#[?k,x,tb,?h,#[_,?dn hx],#[_,?jZ],?_];apply Ae6 (K:=K) (a:=x) (b:=tb) (xs:=VI h a) (ys:=us) (n:=h) (by rw[Bw,cP,qz8]) (λi σ H2=>Nv λT o1 o2=>Br (?Mn σ o1 o2) ?xk ?eH (?KD T (VI w λj=>sumN (λk=>a k*f k j) i))) #[T0,?aS,hT0,s1,hT1] (λi σ H2 _ hz=>by let#[?B,_,_,s2,_]:=hz;show#[?lm hx,?lm hq]) ?_ ?_;{rintro i u v σ H2 pr hu hv C9 hp;revert σ;apply ?dg;intro T o1 o2 hT s2 hT2 Eg;let ?v2:=j8 hu;let ?Ft:=Kl i _ hv;let sp:?M3 pr [?u (a i),?mL]:=?ca;apply ?ul;apply#[?k,?g,1,a i,T,b,w,_,?cB,?h,?Hv sp hT2,(?rD).seq hb,?m,λj hj=>#[?jG,hm i j hi hj],λD H3 hD s3 OQ=>?_];apply#[D,_,?g,?L2 ?rD hD,?IQ ?rD s3,?_];rw[OQ];congr 2;apply Uh λj hj=>?_;exact 1*_+_=sumN _ i+_;rw[qd8]};ext lx;apply ?dg;intro T o1 o2 hT s2 hT2 Eg;show#[?g,k T H2 hT s2 hT2]
def Qs:?I0 [?cb,?og,?as,"i","face"] ?nX Ss:=Bg
def iR[?J](F:?Hu ?qR ?qR Ss)[?I][?HP]:?Hp 2 ?nX ?x8:=by apply ?I8 Qs;let#[a,v,ms,fs,n,?h,ha,hv,hm,kq]:=h;let#[af,?h,sq]:=TI.sq hv;apply(?OK (Ch qb8 ?h (?Io vZ ?hD ?ak) (?Hq 3 Qs.nd (?L4 4 Qs.nd)) (Ag (B7 (?OV Ux (?OZ ?x ?a5 (Pz (?IC Eh (?NS ?P)) ?C (L8 Hr ?C))))))));have Ci6:?ab:=λi σ H1=>∃o1 o2,σ=?va/\Qi a H H1/\?I1 H1 a ?wQ;apply#[?g,af,?h,#[_,sq],UC (K:=K) (a:=af) (xs:=?xm) Ci6 #[?aS,λ_ _ _ e=>e,ha] (λi σ H1 _ #[?B,s1,_]=>SqT.x s1 ha sq) ?_ ?_];{rintro i x σ H1 p hx C9 hp;ext f;apply ex2 ?_ C9;clear C9;intro o1 o2 C9;apply Ce0 ?_ C9;clear C9;rintro rfl s1 ha1;(let hi:i<fs.length:=?kq);(let hxv:x=?ji:=?mH);subst hxv;let sp:?MC ?wd:=?ca;let ha2:=?Jc ha1;let hl:=f6 ms fs n i;apply ?ed;(let fin:∀m,m=AQ n i->Up K [?eM,?ji,?u m] ?wd (λv H'=>∃o1 o2,([?v,rS af,?dr,?co,?j ?ji]:St)=?va/\Qi a H H'/\?I1 H' a (Jg ms fs n ?aX)) E0:=by intro m hm2;subst hm2;apply#[a,?wQ,_,?g,ha2,?m,_,?g,λc q n1 e=>?_,Ab];rw[?gs];show ?Jc (s1 c q n1 e));apply#[?k,?g,?i,(?IM 2),?h,?g,?_];apply ?aa;{(let h2:?aw%2=0:=?aD);show#[?g,?KO n ?l3]};(let h2:¬?aw%2=0:=?aD);show#[?k,?KO (-n) ?ia]};rintro σ H1 ⟨o1,o2,rfl,s1,ha1⟩;rw[qa5]at ha1;show kq H1 s1 ha1
def Zz:?I0 [?j2,?eI,?d7,"i"] ?qq bS:=Bg
def sZ[?J](F:?Hu ?oe ?oe bS)[?I][?tM]:?Hp 2 ?qq ?xn:=by apply ?I8 Zz;have#[r,u,as,n,W,f,t,?c0,hu,hm,hn,hW,k]:=h;let hq:SqL K H r ?cY:=?l x.2.1;apply#[_,(Ad (?Hw 2 Zz.nd ?tr) (Ad (?Hw 3 Zz.nd ?eh) (Ad (Ci ?AJ (Ag (Gb (?O0 (?NM B6 ?f3) (L8 Hr ?x)) ?oi)) (Ag (Ci ?AJ (Ad (Gb ?Dh ?oi) (?Ns ?f3 ?eh)) (Ag (Gb (?Hs Ko Ah (?N4 ?f3 ?eh ?Dh)) ?oi))))) ?hP))),?_];ext W;apply#[?g,r,?cY,?h,?ew,λL hL=>?_];let sL:?s H ?vp:=?Q hL;generalize hHL:?vp=HL at sL;(let hLL:HL L=?j ?nZ:=by rw[←hHL];show Ab);let hqL:SqL K HL r ?cY:=?jR hq;(let fin:∀(i:Nat) (D:Addr) (H1:Hp),i<n->?Lp HL D->?xN->H1 D=?NH (VI W (ZN t f i))->(∀r,r≠i->ZN t f r=f r)->H1 L=?j ?nZ/\Q ?ro ?y5:=by intro i D H1 hi hD s1 h1 he;(let nDL:D≠L:=λz=>by rw[z,hLL]at hD;cases hD);apply#[?IX hLL,?_];let s2:?s H ?y5:=?Me sL.trans s1 hL;apply k L (as.set i D) _ hL s2 (x.made s2 hi Ab (by rw[Aj nDL];show h1) he) ?bj;rcases qm4 ha with ha | rfl;{show#[?py,λz=>x.there.2 a ha (z▸hL)]};show#[?V (sL.free hD),nDL]);cases t with| sw i j=>show hm.elim| mi i =>let hi:i<n:=hm;ext gB;let ?Gd:=hu;let ?FO:=rT;let hT1:SqT K HL ta [V.str "minus",?aF i]:=?F3;let#[b,_,eb,_,hb]:=?CU;ext HD;apply ?Jm ?bk;apply#[?k,r,_,?i,hqL,Bi eb,b,?h,#[_,?uY],?aM];have Ci5:?aK:=λc ys τ H1=>Br ?xN ?g6 (ys=VI c (λc=>-(f i c))) ?f4;apply Ck (K:=K) (a:=b) (xs:=VI W ?cB) Ci5 ?cd (λc ys τ H1 _ hz=>by ext gF;show ?dn ?uY) ?_ ?_;{rintro c y ys τ H1 hx C9;revert τ;apply ?bS;intro s1 Eb hz1 o Eg;subst hz1;let#[hc,?h]:=j8 hx;apply#[?k,Eb,?bR ?jC,?qT,?X,?g];rw[Zn]};ext tX;rw[Bw]at Eb;ext H7| ad i j m =>ext gB;let#[hi,hj,hij,hm]:=hm;let ?Gd:=hu;let ?zu:=rT;let hT1:SqT K HL ta [V.str "add",?aF i,?aF j,?aF m]:=?F3;let#[bi,_,ebi,_,hbi]:=?CU;let#[bj,_,ebj,_,hbj]:=?I9 x.row hj;ext HD;apply ?tu;apply ?wq;apply ?tu;apply#[?k,r,_,?i,hqL,Bi ebi,?g,ta,_,?i,hT1,?h,?k,ta,_,?i,hT1,?h,r,_,?i,hqL,Bi ebj,?_];apply#[1,m,bi,bj,W,?cB,?cw,?h,?jR hbi,?jR hbj,hW,?Mp #[?jG,hm c hc],?mY];ext H7
def D7:?G [?aZ,"i","j",?eV,?cS,?f5,"a","b","c","d",?eg,"back"] ?hp (An Gn):=Bg
def Ta[?J](F:?Hu ?nt "Lines.blend" Gn)[?I](Il:?Hx "shared_divisor" ?ku v4)[?tM]:?Hp 2 ?hp ?o9:=by apply ?I8 D7;have#[p,C,r,b,sv,n,W,i,j,A,B,s,N,?h,hC,x,hi,hj,hij,hn,hW,hA,hB,lA,lB,bo,k]:=h;have ?dF:=x.ob;have ?eK:=x.rw;have ?gK:=x.bk;have ?xI:=x.refs;let rb:=x.ne;ext H8;apply#[_,(Ad (?Hw 5 ?eA (?LA Il ?sG)) (Ad (?Hw 6 ?eA ?cr) (Ad (?Hw 7 ?eA ?cr) (Ad (?Hw 8 ?eA (?Nq ?a5)) (Ad (?Hw 9 ?eA ?D9) (Ad (?Hw 10 ?eA ?dH) (Ad (?OT ?bI ?av ?mI) (Ad (?OT ?bd ?cx ?m4) (Ad (?Hw 11 ?eA ?dH) (Ad (?M6 ?cx (L8 Hr ?bd) ?mI) (Ad (?M6 (L8 Hr ?av) ?bI ?m4) ?E6))))))))))),?_];ext W;apply ?Ho (Xs λ(L:Addr) (g a c:Int)=>Br (σ'=[?a2,?cX,iS j,iS A,iS B,?cl,none,none,none,none,none,none]) ?a4 (?Mw L ?Gg) (?qQ A B g a c));{show#[?k,A,B,?h,hA,hB,lA,lB,λL g a c H1 s1 hL sh=>?Hy #[L,g,a,c,?h,s1,hL,sh]]};apply Ba5 λL g a c H1 s1 hL sh=>?_;intro sq;let g0:=sh.pos;let lg:?DB:=qc1 ?H2 lA;ext HZ;let la:a.natAbs<L9:=qc1 sh.la lB;let lc:c.natAbs<L9:=qc1 sh.lb lA;let eB:B.fdiv g=?mQ:=?qV;let eA:A.fdiv g=?bb:=?qV;let lz':?Jp ?mQ:=?KV lB;(let lz:?Jp ?dV:=by rw[qb9];show lz');let lu:?Jp ?bb:=?KV lA;let hp1:=?gn;let hr1:=?IX ?hJ;have#[ci,_,UZ,mci,TY]:=?eC;have#[cj,_,ecj,mcj,hcj]:=?I9 ?kQ hj;have#[di,_,edi,mdi,hdi]:=?Es;have#[dj,_,edj,mdj,hdj]:=?I9 xb.row hj;let mk:∀{u:Int}{k c U:Nat}{f:Lat.Mat},u.natAbs<L9->Lat.Bits n U big f->k<n->c<U->?E1 u (f k c):=λh1 h2 h3 h4=>OG h1 (h2 _ _ h3 h4);apply ?Do;apply ?Do;apply#[?k,L,_,?i,hL,?h,?i,cb _,?g,?_];apply#[?k,L,_,?i,hL,?h,?i,cb _,?_];apply#[?g,?bw,?g,hp1,?gG,?g,r,_,?i,?l hr1,?gM,?_];apply ?OE (λσ' H'=>?qG/\?k9) (by rw[←eA,←eB];rfl);ext aR;apply ?Ho (Ex λD1=>L6 ?qG (?MV H1) (Kp H1 H') (?Lp H1 D1) (H' b=H1 b) (?LD r ?Ai) (?LD D1 (?Nd a c)));{apply(?Jd hp1 hr1 ecj);apply#[a,c,ci,cj,W,?g7,?kb,?h,?dn TY,?dn hcj,hW,?JP la lc,λD1 H2 Eb s2 h2=>?_];(let nD:D1≠r:=λz=>by rw[z,hr1]at Eb;cases Eb);apply#[?g,?bw,?g,(?II hp1),?gG,?g,r,_,_,i,?O,?II hr1,Gu ?le,?_];show ?Hy #[D1,?h,(?hL s2).l,?LW s2,Eb,by rw[Aj rb.symm,s2 _ _ ?ec,?ec],Ab,by rw[?iL];show h2]};apply pO λD1 H3 ZI kp3 n1 b3 r3 d3=>?_;intro sq;let hp3:=?Kc ZI hp1;let kr:?JW as:=?Lk na na;let kb:?JW bs:=?Lk nb nb;let qr:∀{G:Hp}{k:Nat}{c:Addr},?pi->c∈as->SqL K H c ?GZ->as[k]?=?j c->SqL K G c ?GZ:=λfr hc _ e=>?l (kr fr hc _ (xa.2.2 _ _ e));(let rci:?Kb as ci:=by rw[qa9]at UZ;let ?lR:=?d2 UZ;cases e2;show e1);(let rcj:?L3 as cj:=by rw[qa9]at ecj;let ?lR:=?d2 ecj;cases e2;show e1);(let rdi:?Kb bs di:=by rw[qa9]at edi;let ?lR:=?d2 edi;cases e2;show e1);(let rdj:?L3 bs dj:=by rw[qa9]at edj;let ?lR:=?d2 edj;cases e2;show e1);(let D1r:D1≠r:=λz=>by rw[z,hr1]at n1;cases n1);(let D1b:D1≠b:=λz=>by rw[z,?ec]at n1;cases n1);apply ?Ho (Ex λD2=>L6 ?qG (?MV H3) ?ww (?Lp H3 D2) (H' b=H3 b) (?LD r ((?Ai).set j ?dU)) (?LD D2 (?Nd ?dV ?bb)));{apply(?Jd hp3 r3 (by rw[qf5 hij];show ecj));apply#[?dV,?bb,ci,cj,W,?g7,?kb,?h,qr ZI mci TY rci,qr ZI mcj hcj rcj,hW,?JP lz lu,λD2 H4 Rf s4 h4=>?_];(let nD:D2≠r:=λz=>by rw[z,r3]at Rf;cases Rf);apply#[?g,?bw,?g,?ut,?gG,?g,r,_,_,j,?O,?MG r3,Gu (by rw[qf1,qa5,?eq];show hj),?_];apply ?Hy #[D2,?h,(?hL s4).l,?LW s4,Rf,?_,Ab,by rw[?iL];show h4];(let e3:H3 b=?n2:=by rw[b3];show ?ec);rw[Aj rb.symm,?MG e3,e3]};apply pO λD2 H5 fr5 kp5 n2 b5 r5 d5=>?_;intro sq;(let e5:H5 b=?n2:=by rw[b5,b3];show ?ec);let A34:=ZI.trans fr5;let LV:=?Kc fr5 hp3;(let D2r:D2≠r:=λz=>by rw[z,r3]at n2;cases n2);(let D2b:D2≠b:=λz=>by rw[z,b3,?ec]at n2;cases n2);apply#[?g,?bw,?g,LV,?iD,?g,b,_,?i,?l e5,Bi edi,?_];apply Ak (λσ' H'=>?rg/\H5=H') ?_ ?BY;ext aR;apply ?Ho (Ex λD3=>L6 ?rg (?MV H5) (Kp H5 H') (?Lp H5 D3) (H' r=H5 r) (?LD b ?Bp) (?LD D3 (VI n λk=>?bb*s.2 i k+?ke*s.2 j k)));{apply(?JV LV e5 edj);apply#[?bb,?ke,di,dj,n,s.2 i,s.2 j,?h,?Kv A34,?Ku A34,hn,?JG lu (by rw[qb9];show lz),λD3 H6 OQ s6 h6=>?_];(let nD:D3≠b:=λz=>by rw[z,e5]at OQ;cases OQ);apply#[?g,?bw,?g,(s6 _ _ LV),?iD,?g,b,_,_,i,?O,s6 _ _ e5,Gu ?ju,?_];show ?Hy #[D3,?h,(?hL s6).r,?LW s6,OQ,by rw[Aj rb,s6 _ _ r5,r5],Ab,by rw[?iL];show h6]};apply pO λD3 H7 fr7 kp7 n3 r7 b7 d7=>?_;intro sq;let A33:=A34.trans fr7;let hp7:=?Kc fr7 LV;(let D3r:D3≠r:=λz=>by rw[z,r5]at n3;cases n3);(let D3b:D3≠b:=λz=>by rw[z,e5]at n3;cases n3);apply ?Ho (Ex λD4=>L6 ?rg (?MV H7) (Kp H7 H') (?Lp H7 D4) (H' r=H7 r) (?LD b ((?Bp).set j (?z D4))) (?LD D4 (VI n λk=>-c*s.2 i k+a*s.2 j k)));{apply(?JV hp7 b7 (by rw[qf5 hij];show edj));apply#[-c,a,di,dj,n,s.2 i,s.2 j,?h,?Kv A33,?Ku A33,hn,?JG (by rw[qb9];show lc) la,λD4 H8 GK s8 h8=>?_];(let nD:D4≠b:=λz=>by rw[z,b7]at GK;cases GK);apply#[?g,?bw,?g,(s8 _ _ hp7),?iD,?g,b,_,_,j,?O,s8 _ _ b7,Gu (by rw[qf1,qa5,xb.1];show hj),?_];apply ?Hy #[D4,?h,(?hL s8).r,?LW s8,GK,?_,Ab,by rw[?iL];show h8];let e7:=r7.trans r5;rw[Aj rb,s8 _ _ e7,e7]};apply pO λD4 H9 fr9 kp9 n4 r9 b9 d9=>?_;intro sq;let uC:=A33.trans fr9;(let D4r:D4≠r:=λz=>by rw[z,r7,r5]at n4;cases n4);(let D4b:D4≠b:=λz=>by rw[z,b7]at n4;cases n4);let k19:Kp H1 H9:=(?IH kp3.trans kp5 kp7).trans kp9;let u1:?IY D1:=?qM;(let IC:∀{G:Hp}{D:Addr},Kp H G->?Lp G D->?cU:=λkp e=>by cases z:H _ with| none=>rfl| some o=>show ?de e (kp _ (by rw[z];show λq=>by cases q)));let k01:Kp H H1:=?eP s1;let u2:?yG:=IC ?Fo n2;let u3:?IY D3:=IC ?FZ n3;let u4:?IY D4:=IC (?IQ ?FZ kp7) n4;ext Hb;(let hL9:SqT K H9 L ?Gg:=by rcases hL with h | h;{show ?w (by (let hLr:L≠r:=λz=>by rw[z]at h;rcases h with h|⟨_,h⟩<;>rw[hr1]at h<;>cases h);(let hLb:L≠b:=λz=>by rw[z]at h;rcases h with h|⟨_,h⟩<;>rw[?ec]at h<;>cases h);rcases h with h|⟨q,h⟩;{show ?w ?yp};show ?V #[q,?yp])};show ?V h);apply#[?g,k L g a c H9 (?IH ?hL s1 uC) ?EK hL9 sh #[#[dx,fs,?Kc uC hp1,?b9],#[_,xa.two (D1:=D1) (D2:=D2) hi hj hij ?_ (?Jj (kr uC ha)) ?_ ?_ ?_,?bj],#[_,xb.two hi hj hij b9 (?Jj (kb uC ha)) ?_ ?_ ?_,?bj],rb,x.nr,x.nb,?Km (x.nn a ha (IC ?EK z))]];{rw[r9,r7,r5]};{exact ?J2 D1 i;rw[Lat.blend_row_p hij];show(fr9 _ _ D1r D1b (fr7 _ _ D1r D1b (fr5 _ _ D1r D1b d3)))};{exact ?J2 D2 j;rw[Lat.blend_row_q];show(fr9 _ _ D2r D2b (fr7 _ _ D2r D2b d5))};ext Hc;{rcases qL ha with ha | rfl | rfl;{show ?pD};{show#[D1r,D1b,nN _ u1]};show#[D2r,D2b,nN _ u2]};{exact ?Iv D3 i;rw[Lat.blend_row_p hij];show fr9 _ _ D3r D3b d7};{exact ?Iv D4 j;rw[Lat.blend_row_q];show d9};ext Hc;rcases qL ha with ha | rfl | rfl;{show ?ig};{show#[D3r,D3b,nN _ u3]};show#[D4r,D4b,nN _ u4]
def Z0:?I0 ?ej ?ej Lp:=Bg
def c9[?J](F:?Hu ?js "Stairs.__init__" Lp)[?I](cR:?ur):?Hp 2 ?ej ?zy:=by apply ?I8 Z0;let#[p,dx,r,b,?h,hp,k]:=h;apply(?OL (B7 (Aa7 cR hr ?o ?jo ?CK)) ?zF);ext W;apply#[?k,?g,p,dx,?U,r,b,?h,?cH,hp,λH1 fs hfs hH1=>?_];(let hp1:H1 p=?Lr ?U fs:=by rw[hH1];show Ab);(let s1:?MN H H1:=by rw[hH1];ext Hg);(let hl:fs.length<=2:=by rw[hfs];show ?GG);apply ?uN;let hDp:p≠D:=Aq hp1 hD;apply#[?g,?aW,?h,by rw[Aj hDp];show hp1,?aq,?ll,?bz];apply k D _ _ ?_ (by rw[hfs]) (?c2 (?bG (?dI ?gN))) (?Mr ?zB) Ab;cases z:H D with| none=>rfl| some o=>rw[s1 _ _ ?zB z]at hD;cases hD
def Ol:?I0 ?kM ?kM Fv:=Bg
def Ov[?J](F:?Hu ?nS ?nS Fv)[?I][?HV]:?Hp 2 ?kM ?F7:=by apply ?I8 Ol;let#[a,ns,?h,hq,hl,ok,k]:=h;apply(?OK (?N2 Bb (Bu (N':=[?as,"after"]) (cap:=?rN) ?o ?aA (?Io b8 ?jk (?L5 ?x (?O5 ?x ?pt))) (?Nu WQ WQ) ?aH (?Ht (?LA Hi ?mo)))));apply#[?k,?g,a,?g,hq,?dQ];(let A07:Fj ?eX ?cT ?Y=?kn:=by rw[show(1:Int)=((1:Nat):Int) from rfl,Np,qq5]);rw[A07];let sC:?s H ?na:=?g5;let hC1:(?na) C=?j ?x9:=Ab;generalize ?na=H0 at sC hC1;apply#[a,C,?h,#[_,sC.seq hq],(?ME hC1),?aM];(let hzl:?p4=min (?eX).length (?kn).length:=by rw[List.length_zip,qa5,qa5]);apply U6 (K:=K) (a:=a) (b:=C) (xs:=?eX) (ys:=?kn) (n:=?p4) hzl (?M7 (Br (?s H0 H1) ?sW ?Ac ?rO)) ?hT (λi zs τ H1 _ hz=>by ext gF;show#[(?pS).seq hq,?Hv s1 hC1]) ?_ ?_;{rintro i x y zs τ H1 p hx hy C9 hp;revert τ;apply ?gq;intro s1 Eb hz1 o1 o2 Eg;subst hz1;rw[qa9]at hx hy;let#[x1,hx1,?h]:=?d2 hx;let#[y1,hy1,?h]:=?d2 hy;(let hz:?Kb ?uC (x1,y1):=by rw[qu4];show#[hx1,hy1]);let hil:?ie:=(?br hx1).1;let sp:?MC (?IL H1 p [?u x1,?u y1]):=?ca;apply ?ed;apply#[?k,y1,x1,?h,ok.1 x1 (qa6 hx1),?_];rw[qe7 (ok.2 _ (qa6 hz))];apply#[?oO,?jW,?J8 ?gW,?X,_,?g];rw[ql0,qb2];rfl};rintro zs τ H1 ⟨s1,Eb,rfl,_⟩;apply(?Mk ?uo);rw[?IP ?uo];show k H1 ?pS
def kQ:?I0 ?cg ?cg Wr:=Bg
def lF[?J](F:?Hu ?pM ?pM Wr)[?I][?ls]:?Hp 2 ?cg ?ED:=by apply ?I8 kQ;let ?xP:=h;apply(?O3 ?pL (?NY Eh ?x (?Lw kZ ?x)));apply#[?g,?u n,?u n,?O,?_];apply ?bH;apply ?ip;apply ?bP;ext lv;{show k};(let h2:¬n=0:=?aD);apply ?sL;rw[qe7 (show 1<n by ext d)];show k
def Fu:?I0 [?eZ,?gx,?mi,?iH,"_law_sign",?oy] ?rW Ot:=Bg
def CB[?J](F:?Hu ?pc ?pc Ot)[?I][?HO]:?Hp 2 ?rW ?GE:=by apply ?I8 Fu;have(?J5 hch):=h;ext e5;apply#[_,(Ad (?Hw 2 ?hh Fx) (Ad (Q3 (Ch qb8 ?h (Yg ?F) (?L4 3 ?hh) (?OS (?Hw 4 ?hh (Ur ?dj ?F ?P ?a0)) (Ch qb8 ?h (?I9 Yr ?f3) (?L4 5 ?hh) (Ad (Ye ?dj ?C ?aQ (?MA C5 (P0 ?dj ?C ?aQ Ah ?Dy)) ?o) (?NQ 4 ?hh ?A3)))))) (?I4 (?LA Dy ?bC)))),?_];ext W;apply ?Ho (?N7 (σ'=[?v,?bU,?aC,none,none,none]) ?FA);ext tO;apply Iy ?mY;let aM:?lK:=?qp;let hb1:=?fY;let hL1:=?cv;apply ?Ho (Nv λo1 o2 o3=>?NR ?CJ (?O7 ?tv));{apply ?J4 ?ce hb1;let tU:nd ms:=Ng.mp hnd;apply ?zO;apply Tx (d:=b) (o:=o) (kvs:=?ce) (?Lc (Nv λo1 o2 o3=>?Nj ?CJ ?FN ?hE)) #[?Y,?aS,Ab,?kj,?Du] ?nB ?_ ?_;{rintro i kk x σ G hx C9;revert σ;apply ?dg;intro o1 o2 o3 AV Cu jF Eg;apply ?M;let#[q,hq2,?O]:=?dt;apply ?D;let hlt:?r2:=(?br hq2).1;(let hqd:?h4=q:=by rw[qa1,hq2];rfl);let hat:?K5 ms:=E8 tU ?xz;let hin:=hch q ?xz;(let XR:?ti:=by (let e1:Qi b H1 ?rk:=?GF);let l1:=?gP e1 hb1 hL1;(let d1:?I1 (?rk) D []:=?kj);(let e2:Qi D ?rk G:=?xf);show ?gP (m:=cK []) e2 d1 l1);apply#[?k,b,?jr,?h,?CS,?_];apply ?M;let#[us,v,zG,A19,tv]:=?Mi XR;let#[av,?h,sqv]:=TI.sq tv;apply ?D;(ext HB);let zl:=jB h4 ms i;(let step:Li xs ms ?aX=EE ?hE ?lk q.2 ?w3:=by exact EE ?hE ?pz (?h4).2 (?pz).length=_;rw[hqd]);rw[step];apply ?M;obtain⟨fs,hfs⟩:∃fs,fs=?lk:=?cm;apply ?D;rw[←hfs]at sqv hfl ⊢;apply#[?k,a,us,?i,zG,A19,av,?h,#[_,sqv],?_];apply RA (K:=K) (a:=av) (xs:=?xm) (λm σ G2=>Ex λo3=>Ee (σ=[?v,?bU,?aC,?j ?t0,?LH ?ys,o3]) (?I1 G2 D ?Eo) (Qi D G G2)) #[o3,?h,Cu,λc r n e=>e] (λm σ G2 _ hz=>by let#[?B,st]:=hz;show SqT.x st Cu sqv) ?_ ?_;{rintro m y σ G2 hy C9;revert σ;apply An1 ?_;intro o3 Rf st Eg;(let hm2:m<fs.length:=by let:=?pd;ext aV);(let hyv:y=?yi:=?Lf hm2 hm2);subst hyv;let lz:=JB ?hE fs q.2 m;apply#[?g,D,?h,?w #[_,?AG],?g,_,U4 ?AG,?g,Am ?Eo ?uU,_,U7 _ _,?h,?k,D,?g,Y2 Rf ?m,?_];apply#[?g,?i,?j ?yi,?_,Ab,?K4 (by rw[Aj n];show st c r n e)];(let:AQ q.2 ?rZ=0-?ys:=by unfold AQ;split<;>split<;>ext d);rw[this];rfl};rintro σ G2 C9;revert σ;apply An1 ?_;intro o3 Rf st Eg;rw[qa5]at Rf;show#[_,_,?g,st _ _ aM AV,Rf,λc r n1 n2 e=>st c r n2 ?ns]};rintro σ G C9;revert σ;apply ?dg;intro o1 o2 o3 AV Cu jF Eg;rw[Iv]at Cu;apply#[AV,?Hy #[o1,o2,o3,?h,?jN,?nz]];cases z:c=b;{subst z;rw[hb]at e;cases e;show Ab};rw[?dZ];show ?G0};apply Ai7 λo1 o2 o3 G sG Cu=>?_;let lz:=jB h4 ms ?F5;show#[?g,D,?tv,?h,Cu,?m,?Au]
def Z1:?I0 [?ik,?gi,?jB,?mi,?iH] ?n3 bV:=Bg
def tG[?J](F:?Hu ?r4 ?r4 bV)[?I][?HO]:?Hp 2 ?n3 ?DE:=by apply ?I8 Z1;let#[a,b,n,?Hn,lm,ln,hmul,kq]:=h;ext e5;apply(?OL (?Hw 3 Z1.nd ?EQ) (Ad (Q3 (Ch qb8 ?h (Yg ?C) (?L4 4 Z1.nd) (Ag (Ye ?dj ?P ?a5 (Be C5 (P0 ?dj ?P ?a5 Ah ?Dy) (Be Js ?F (Ur ?dj ?C ?a5 ?a0))) ?o)))) (?I4 (?LA Dy ?eW))));ext W;apply ?Ho (?N7 (σ'=[?v,?dr,?bU,?aC,none]) (?c9=?j ?F9));{show#[?g,a,?g,?py,?xv]};apply Iy ?mY;intro sq;let aM:?lK:=?qp;let hb1:=?fY;apply ?Ho (Ex λo4=>?NR ?wZ (?O7 (FY ms n ns ?eJ)));{apply ?J4 ?eo hb1;apply ?BP;have Ci4:?ab:=?Lc (Ex λo4=>?Nj ?wZ (G b=?Ia ?eo) ?la);apply Tx (d:=b) (o:=o) (kvs:=?eo) Ci4 #[?aI,Ab,?kj,?Du] (?Mc #[_,_,e,_]) ?_ ?_;{rintro i kk x σ G hx C9;ext f;revert σ;apply qP ?_;intro o4 AV Cu jF Eg;let ?ev:=?dt;let hi:=?hO;(let hqd:?jg=q:=?w8);let hat:?K5 ns:=E8 hn ?dM;let lz:=oN ms n ns i;apply#[?g,D,?h,?w #[_,?FI],?g,_,U4 ?FI,?k,?g,b,?jr,?h,?CS,n,q.2,?O,hmul q ?dM,Am ?la q.1,n*q.2,U7 _ _,?h,?k,D,?g,?Am,?_];apply#[?g,?c1,?p0];{rw[?kt];show AV};{rw[Ab];exact ?Kp (putI ?la (?jg).1 (Am ?la (?jg).1+n*(?jg).2));rw[hqd]};rw[?kT];show ?ns};rintro σ G C9;revert σ;apply qP ?_;intro o4 AV Cu jF Eg;rw[Iv]at Cu;apply#[AV,?Hy #[o4,?h,?jN,?nz]];cases z:c=b;{subst z;rw[hb]at e;cases e;show Ab};rw[?dZ];show ?G0};apply Xx λo4 G sG Cu=>?_;intro sq;let lz:=oN ms n ns ?eJ;show#[?g,D,?g,Cu,?m,?Au]
def Cl:?I0 [?i1,?h8,?eY,"_law_layer","_law_rows",?is,"_law_below",?ik,?oy,?pN] ?sZ Nc:=Bg
def aL[?J](F:?Hu ?qv ?qv Nc)[?I][?HM]:?Hp 2 ?sZ ?Bn:=by apply ?I8 Cl;let#[l,us,v,ws,w,fam,?h,hl,hr0,hv,hw,hlen,k]:=h;ext e5;(let s0w:∀u∈[w],?tg:=λu hu=>by (let e:u=w:=by simpa using hu);subst e;show hw);apply#[_,(Ad (?Hw 3 ?cs (Gc ?ak)) (Ad (?Hw 4 ?cs ?di) (Ad (Ch qb8 ?h ?vm (?KY 5) (Ad (?Hw 4 ?cs (?MA ?dB ?P)) (Ad (?Hw 6 ?cs ?di) (Ad (Ch qb8 ?h ?sS ?Az (Ag (Ch qb8 ?h (?NM B6 (?Hs Jc ?av ?bC)) (?KY 8) (?Nx (?bW (iL (?Mh ?bd ?x) (aS (?Mh ?bd ?bI)))) (?IG ?bI (?N3 ?bd)))))) (?NQ 3 ?cs ?bI))))) (Ad (?Hw 9 ?cs ?tr) (?OO (Ch qb8 ?h ?u5 ?Az (?Nx (?Mh ?av ?cx) (?IG ?cx ?h1))) ?cx))))),?_];ext W;apply#[?g,?af,λL0 hL0=>?_];let s1:?s H ?sR:=?Q hL0;apply#[?bJ,λR0 hR0=>?_];let s2:?s ?sR (?p ?sR R0 ?fc):=?Q hR0;apply#[?g,?N,?N,De (lo:=0) (n:=(4:Int).toNat) (λi σ H2=>pK λ(L R:Addr) (lu ru:?bY) (?jm rows:LLInt) (o5 o6 o7 o8 o9:?b3)=>sI (?JN o9) ?eH (?KD L lu) (?Mu H2 lu ?rJ) (?KD R ru) (?Mu H2 ru ?vd) ((∀u∈layer,?tg)) (Q7 ws fam (4-i) ?jm rows=?uA) (layer.length<=4 ^ i) (rows.length<=1000*i)) #[L0,R0,[v],[],[w],[],?Y,?Y,?Y,?aS,?en,?II Ab,Reps.one (?kP ?en hv),Ab,?h,s0w,?h,?cE,?cE] ?_ ?_];{rintro i σ H2 hi C9;ext f;revert σ;apply XE ?_;intro L R lu ru layer rows o5 o6 o7 o8 o9 sH hL rL hR rR hWl hlay UW hrl Eg;(let hi4:i<4:=by simpa using hi);(let h4i:4 ^ i<=64:=by let:i=0\/i=1\/i=2\/i=3:=?m;rcases this with rfl | rfl | rfl | rfl<;>decide);(let lul:lu.length=layer.length:=by let:=rL.length;ext aV);(ext HL);apply#[?k,L,R,?i,?l hL,?sb,Bx ?m,λR1 hR1=>?_];let sa:?s H2 ?dd:=?Q hR1;let B95:(?dd) R1=?j ?wD:=Ab;(let rRa:?Mu ?dd ?mh (?KB ?Aw):=by rw[qb2];show(?Af).append (?ay sa rR));let hLa:=sa _ _ hL;let rLa:?Mu ?dd lu ?rJ:=?Af;let sHa:?s H ?dd:=?nl sa;apply#[?bJ,?Fn];let sb:?s ?dd (?p ?dd B ?fc):=?Q hB;let hBH:?uF:=sHa.free hB;apply#[?g,L,?h,(?MP sb hLa),?cj (K:=K) (a:=L) (xs:=lu) (λj σ H3=>Nv λ ?nJ (o7 o8:?b3)=>Br (?Ih o7) (?s ?dd H3) (H3 B=?pm) (?Mu H3 bu ((?hu).map tI))) #[[],_,?g,sb,Ab,?h] (?Nc #[?B,_,s3,_] hLa) ?_ ?_];{rintro j x σ H3 hx C9;ext f;revert σ;apply ?dg;intro bu o7 o8 s3 hB3 rB Eg;let hj:j<lu.length:=?fh;let hjl:j<layer.length:=?m;(let hjx:?L3 ?rJ (tI ?ga):=?Dq);let ?mZ:=rLa.get hjx;rw[hx]at hx';cases hx';let hwj:Gz fam ?ga:=hWl _ ?v3;apply#[?k,x,?ga,fam,?h,?BT,hwj,λp fu H4 hp s4 Uw r4=>?_];let fl:=Mz hwj;(let ful:fu.length=?qb:=by let:=r4.length;ext aV);(let hpB:p≠B:=λz=>by rw[z,hB3]at hp;cases hp);let hB4:=?MG hB3;apply#[p,?h,(?ME Uw),?cj (K:=K) (a:=p) (xs:=fu) (λm σ H5=>Hm λ ?nJ ?hf=>Ds (?Ih (?j x)) (?bA B H4 H5) (H5 B=?pm) (?Mu H5 bu ?Bm) (?E8<=1000)) #[bu,?g,?EM,hB4,(by simpa[D5]using ?ay s4 rB),?_] (λm σ H5 _ hz=>?Lb #[?B,s5,_] ?l (s5 _ _ hpB Uw)) ?_ ?_];{let:=?Ad;simp only[List.take_zero,D5,qn7,qd1]at this ⊢;ext d};{rintro m y σ H5 hy C9;ext f;revert σ;apply Am9 ?_;intro bu5 o8' s5 hB5 ZW B86 Eg;let hm:?Bj:=?pd;let hmf:m<?qb:=?m;(let hmy:(?KB ?fr)[m]?=?j (tI ?fr[m]):=?Gh);let ?vx:=r4.get hmy;rw[hy]at hy';cases hy';generalize hf:?fr[m]=fc at ty;let ty5:TI K H5 y fc:=TI.t ?Bo ty;(let hl5:H5 l=?dl:=by apply s5 l _ ?k7 (?MG (?Is (sHa _ _ hl)));rw[z]at hl;rw[hl]at hBH;cases hBH);let rl5:?Lg H5 l ?En:=#[l,?a9,?l hl5,Reps.t ?Bo (cO ws) (?ay (?IH sHa.trans s3 s4) hr0)];let rb5:?Lg H5 B (?L ?Bm):=#[B,bu5,?h,?l hB5,ZW];(let e0:?yL=(if fc ∉ ws/\fc ∉ ?fz then ?fz++[fc] else ?fz):=by rw[qd6,?rp,hf];show aG _ _ _ _);(let B85:bu5.length=?E8:=by let:=ZW.length;ext aV);(let xO:?Mj ?yL 1000:=by let h1:=Xn (ws:=ws) ?CD ?hu;let h2:=?Ad;simp only[qn7,qd1]at h1 h2;(let h3:?qb<=4:=by let:=fl.1;let:=fl.2;split at*<;> ext d);ext d);generalize hacc:?fz=acc at ZW rb5 e0 B85 B86;apply#[?k,tI fc,?hi,ty5,?w rl5,?FC,?g,?_];cases h1:fc∈ws;{apply ?Fg;apply ?dm;apply ?Gp;rw[e0,?am (by simp[h1])];show ZW};apply ?GB;apply(?KE ty5 rb5);cases h2:?C6;{apply ?JY ?DH;apply ?Gp;rw[e0,?am (by simp[h2])];show ZW};apply ?Jm ?DH;apply(?N0 hB5 B hB5);apply#[_,?g,s5.upd,?X,xO];rw[e0,?bm #[h1,h2]];show Q2 hB5 ZW ty5};rintro σ H5 C9;revert σ;apply Am9 ?_;intro bu5 o8' s5 hB5 ZW _ Eg;apply#[bu5,_,?g,?_,hB5,?_];{show s5.same ?iX hB};rw[ful,qd0]at ZW;rw[qd6,?my];let e1:?Jl (?qS++(?j ?ga).toList)=D5 ws ?hu ?fr:=DT _ _ _ _ _;rw[e1];show ZW};rintro σ H3 C9;revert σ;apply ?dg;intro bu o7 o8 s3 hB3 rB Eg;rw[lul,qd0]at rB;apply ?bH;apply#[B,R1,bu,?mh,?Jl ?jm,?Aw,?B,_,?g,sHa.trans s3,hB3,rB,?Is B95,?ay s3 rRa,?cL,?_];{intro u hu;rcases U9 _ _ hu with z|⟨t,ht,z⟩;{show ?DT};show(Rh (hWl t ht) z).1};{rw[←hlay,?I3 (4-i=(4-?aX)+1)];rfl};{let:=?K6 ?jm hWl;simp only[qn7]at this;rw[qh4];ext d};rw[qc3];ext d};ext lx;apply XE ?_;intro L R lu ru layer rows o5 o6 o7 o8 o9 sH hL rL hR rR hWl hlay UW hrl Eg;let N8:rows=?uA:=hlay;let B55:=ON (ws:=ws) hw;rw[←N8]at B55;(ext HL);apply#[?g,l,?g,?MB sH hl,λM hM=>?_];let sm:?s H2 (?p H2 M ?et):=?Q hM;let hMH:?ze:=sH.free hM;(let ZC:?IU ws.length:=by let:=hr0.length;ext aV);apply#[?g,R,?h,(?MP sm hR),?cj (K:=K) (a:=R) (xs:=ru) (λj σ H3=>Hm λ(mu:?bY) (o7:?b3)=>Br (?JN (rS M)) (?s H2 H3) (H3 M=?NH mu) (?Mu H3 mu (?KB ?fW))) #[us,?g,sm,Ab,(by simpa[Gh]using ?ay (?nl sm) hr0)] (?Nc #[?B,s3,_] hR) ?_ ?_];{rintro j x σ H3 hx C9;ext f;revert σ;apply ?cn;intro mu o7' s3 hM3 rM Eg;let hj:j<ru.length:=?fh;let hjl:j<rows.length:=?m;(let hjx:?L3 ?vd (tI rows[j]):=?Dq);let ?mZ:=rR.get hjx;rw[hx]at hx';cases hx';generalize hf:rows[j]=fc at tx;let tx3:TI K H3 x fc:=?BT;(let e0:Gh ws (?Dm ?iy)=(if fc∈?fW then ?fW else ?fW++[fc]):=by rw[qd6,?my,hf];show AG _ _ _);let hal:=DY ?Fj ws;rw[qd1]at hal;(let mul:?Kd ?fW:=?xc);generalize hacc:?fW=acc at rM e0 hal mul;let rm3:?Lg H3 M (?L ?rM):=#[M,mu,?h,?l hM3,rM];apply(?KE tx3 rm3);cases h1:?C6;{apply ?Fg;apply#[mu,?g,s3,hM3,?_];rw[e0,?bm h1];show rM};apply ?GB;apply(?N0 hM3 M hM3);apply#[_,?g,s3.turn hM,?X];rw[e0,?am h1];show Q2 hM3 rM tx3};rintro σ H3 C9;revert σ;apply ?cn;intro mu o7' s3 hM3 rM Eg;rw[rul,qd0,N8]at rM;show#[?g,k M mu H3 hMH (?nl s3) hM3 rM]
def Sm:?I0 ?hc ?hc Ht:=Bg
def S6[?J](F:?Hu ?sn ?sn Ht)[?I][?HQ][?i5]:?Hp 3 ?hc ?u1:=by apply ?I8 Sm;let#[a,x,d,l,xs,?a3,hx,k]:=h;let ?z5:=?xu;apply(?OK (Bb (Nf (?Hs Fd ?F ?p5) (Lq (?OG (?LA Dw ?Cl) ?C)))));apply#[?k,a,?a9,?ew,x,d,?g,hx,?g,?_];rw[cP];ext tY;{(obtain⟨i,rfl⟩:∃i,d=?bp:=by cases d<;>first | show ?cm | (exfalso;simp[belowD]at e));cases ?Fx;let e':?AR:=e;(let h0:0<=i/\i<?f7:=by simpa using e');let#[us',v,hq',hv,tv]:=?gy hL h0.1 h0.2;apply#[?k,a,us',i,v,?O,hq',hv,v,?g,?V tv,?g,?bM];(let e2:Et xs ?bp l=?aP (?kB=l):=by exact ?B3=_;rw[e'];simp[F4]);rw[e2]at k;(let e3:?aP (?aF ?kB=?aF l)=?aP (?kB=l):=by cases z:?kB=l;{simp[z]};simp[z]);rw[e3];show k};(let e2:Et xs d l=false:=by cases d with| int i =>let e':¬?AR:=e;exact ?Jr ?B3;rw[Bool.eq_false_iff.mpr e'];rfl| _=>rfl);rw[e2]at k;show k
def bR:?I0 ?ib ?ib Op:=Bg
def cA[?J](F:?Hu ?pG ?pG Op)[?I][?HQ]:?Hp 3 ?ib ?v4:=by apply ?I8 bR;let#[i,b,?h,h0,h1,k]:=h;apply(?OK (?IO Fd ?bl));apply#[?k,?bp,?bp,b,?O,?g,?_];rw[show ?Mm ?oF from belowD_of h0 h1];ext lz;show k
def KN:?I0 ?jH ?jH Wo:=Bg
def lD[?J](F:?Hu ?q3 ?q3 Wo)[?I](Iu:?I5 ?nd ?lU ?GM):?Hp 3 ?jH ?EC:=by apply ?I8 KN;let ?zn:=h;let#[Se,MJ]:=T.x_MOST_ROWS;let ?ws:=?hY;apply#[_,(Ad (?Le (Em (D8 ?vT)) (?OC kZ ?kf (Mo (v:=?u 40) ?o MJ ?cm))) (?OM (Bu (N':=?nW) (cap:=?mV) ?o ?aA ?iG ?p2 ?aH (?Ht (?LA Iu ?bl))))),?_];ext W;apply(?Kx (dT h w f) hv);apply ?JY (by simp[TR,dT]);apply#[?g,a,?g,?ew,?i,?g,?_];apply ?fO;ext tU;have Ci3:?aK:=?Lz (?IJ [o,iS w]);apply ?NV Ci3 ?cd ?FP;{rintro i x ys τ H1 hx C9;revert τ;apply ?bS;intro s1 Eb hz1 o Eg;subst hz1;let ?z3:=?xr;apply#[?k,b,w,?cB,?h,?dn hb,hw,?sg];apply(?My ?mW);rw[ql0,qb2];rfl};ext tX;apply(?Mk ?rq);rw[?IP ?rq];show ?fM
def nK:?I0 ?iu ?iu Z3:=Bg
def NX[?J](F:?Hu ?sA ?sA Z3)[?I](Tu:?I5 ?o7 ?pw ?A1):?Hp 3 ?iu ?yj:=by apply ?I8 nK;let#[u,v,h,d,w,f,g,?h,hu,hv,hh,hd,hw,hm,k]:=h;let ?ws:=J6 hu;apply(?NI (Bu (N':=[?eg,?cS,?bE]) (cap:=[none,?cT,?gR]) ?o ?aA ?iG (?Ht (?L4 0 Bf9)) ?aH (?Ht (?LA Tu ?CK))) ?_);ext tU;have Ci2:?aK:=?LN (?KI w (λi j=>sumN (λk=>f i k*g k j) d)) [o,?au,iS w];apply ?NV Ci2 ?i0 (?J6 (?Lb #[as,_,_,R,_] ?cq hq));{rintro i x ys τ H1 hx ⟨as,hal,rfl,R,o,rfl⟩;let ?z3:=?xr;apply#[?k,?g,b,v,d,w,?cB,g,?h,?cq hb,?zs,hd,hw,λk j hk hj=>hm i k j hi hk hj,?mb];show ?qx};ext tH
def kR:?I0 ?lW ?lW Wu:=Bg
private def LG[?J](F:?Hu ?t7 ?t7 Wu)[?I][?i2]:?Hp 3 ?lW ?CW:=by apply ?I8 kR;let#[?ba,k,ns,?a3,Ce,hb,hnl,kq]:=h;apply(?OK (Bb (?OW (DR ?o) (?N3 (Bu (N':=[?b0,?as]) (cap:=?rN) ?o ?aA (?Io b8 ?jk (Aa ?qO ?bC)) (?Nu WS WS) (?Ht (AS (Bh Ja ?F Ah ?R))) (?Ht (Di ?bl)))))));apply#[?k,a,k,xs,?a3,Ce,λP H1 hP s1 hP1=>?_];let pl:?A0:=?sw;let hnd:=Go xs k;generalize qV:?gX=sp at hP1 hnl pl hnd kq;let hb1:=?dn hb;let hzn:=MV hnl hnd;(let hzl:(?mw).length=sp.length:=by rw[List.length_zip];ext d);apply#[?g,P,b,?h,(?ME hP1),#[_,hb1],?aM];apply MG (K:=K) (a:=P) (b:=b) (xs:=sp.map ?aF) (ys:=?eX) (n:=sp.length) (by rw[qa5,qa5];ext d) (λi zs τ G=>Br ?ht ?qh ((∃ts:?j6,zs=ts.map ?cI/\ts.length=?nK/\∀(j:Nat) t,?L3 ts t->∃p:Int × Int,?L3 ?uT p/\G t=?j (?aG [?Ah,?u p.2])/\t≠D)) ?rO) #[?aT,#[[],?O,λj t z=>?mN],?aS] (?Lt #[?Hv g hP1,g.seq hb1]) ?_ ?_;{rintro i x y zs τ G p hx hy ⟨g,Cu,⟨ts,rfl,qU,hts⟩,o1,o2,rfl⟩ hp;(let hi:i<sp.length:=?kq);let hz:=mW hnl hi;(let hxv:x=?u ?B4:=?mH);(let hyv:y=?u ?Ep:=?Lf (?I3 ?ie) (?I3 ?ie));subst hxv hyv;let ct:=gZ hz;generalize ?B4=sv at hz ct;generalize ?Ep=nv at hz ct;let gp:?s G ?mS:=?ca;let hp1:(?mS) p=?j ?hm:=Ab;generalize ?mS=G1 at gp hp1;let ctl:?nK<=i:=qa4 (qM _) (by rw[qd1];ext d);apply ?FG;apply ?bP;apply ?aa;{(let e:¬nv=0:=?aD);rw[?am e]at ct;apply#[?k,?af,?y7];let gt:=gp.trans (?Q (o:=?hm) ht);let ntD:t≠D:=(Aq ?CA ht).symm;let hDt:=?Ie gt;let htt:(?Ej) t=?j ?hm:=Ab;generalize ?Ej=G2 at gt hDt htt;apply#[hDt,?fq,?If gt,Ab,#[ts++[t],?cE,by rw[ct];simp[qU],λj t' e2=>?_],_,?g];rw[ct];rw[List.getElem?_append]at e2;split at e2;{rename_i hj;let#[p',mV,h2',h3']:=hts j t' e2;show#[p',by rw[qd3 ?m];show mV,by rw[Aj h3'];show gt _ _ h2',h3']};rename_i hj;(let hj0:?EY=0:=by cases hz:?EY with| zero=>rfl| succ m=>rw[hz]at e2;simp at e2);rw[hj0]at e2;(let et:t=t':=by simpa using e2);subst et;apply#[(sv,nv),?c1,ntD];{rw[qd5 ?m,?I3 (j-?nK=0)];rfl};rw[Aj ntD];show htt};(let e:nv=0:=?aD);rw[?bm e]at ct;rw[ct];show#[?ax gp,?CA,#[ts,?h,qU,λj t z=>let #[p',a1,a2,a3]:=hts j t z;#[p',a1,gp _ _ a2,a3]],_,?g]};rintro zs τ G ⟨g,Cu,⟨ts,rfl,qU,hts⟩,_⟩;rw[←hzl,qd0]at qU hts;apply#[D,ts,cK (Cn ?mw),?h,Cu,(by rw[Iv];show qU),λi t e2=>?_,?kV];{let#[p,mV,h2',_]:=hts i t e2;apply#[(?w p.1,?u p.2),?_,h2'];unfold cK;rw[qa9,mV];rfl};apply kq E _ (?L2 ?dO hE) (?gh ?kJ) ?_;rw[Ab,Q5 _ [] (by rw[qq4];show Ng.mpr (Bg2 hzn)),qq4]
def eK:?I0 ?fV ?fV Hf:=Bg
def Vj[?J](F:?Hu ?eI "Lines.turn" Hf)[?I](Yx:?I5 ?oe ?qq ?xn)(aW:?Hx "across" [?eI] FN):?Hp 3 ?fV ?pC:=by apply ?I8 eK;let#[p,u,C,r,b,sv,n,W,s,N,t,?h,hC,x,hu,m1,m2,hn,hW,k]:=h;let ?dF:=x.ob;let ?eK:=x.rw;let ?gK:=x.bk;ext H8;apply(?OL (?NC Yx ?ao ?ak) (Ag (Fr (K:=K) ?x (?Hs Yx ?ao (?N3 (?LA aW ?ak))))));ext W;apply#[?g,?bw,?g,hp,?gG,?g,r,u,as,n,W,s.1,t,?h,xa,hu,m1,hn,hW,λD1 as1 H1 Eb s1 x1 n1=>?_];let hp1:=?gn;apply#[?g,?bw,?h,hp1,hc.1,hc.2.1,?bz];let sx1:?MN H ?fF:=?M4 s1;let Bc7:?MN H1 ?fF:=?c8;(let hu1:Rep K ?fF u (zK t):=by apply Rep.t #[λb xs e=>?_,λb o u e=>?_] (by cases t<;>rfl) hu;{show ?uB};show ?uB);let hl1:?wr=fs.length:=Pw l1;let hp2:(?fF) p=?j ?EZ:=Ab;let x2:=x1.x hp1 Bc7;let zM:=xb.x hp sx1;(let fr2:?Mf (?fF) ?fK:=λa e=>by cases hap:a=p;{rw[hap,Ab]at e;cases e};rw[Aj hap]at e;show ?fi e);generalize hH2:?fF=H2 at sx1 Bc7 hu1 hp2 x2 zM fr2;apply#[?g,p,C,dx,_,?g,hp2,hc.1,?ot,?xO,?g,u,t,?h,hu1,λu2 H3 s3 hu3=>?_];apply#[b,u2,bs,n,n,s.2,tnA t,?h,?s2 s3,hu3,m2,hn,hn,λD2 bs2 H4 Rf s4 x4 n4=>?_];let UT:=?iX;let Uw:=UT _ _ hp2;apply#[?g,p,C,dx,?g,Uw,hc.1,?ot,?bz];let hl2:(?KA ?hy D2 ?Dd).length=?wr:=Pw (x:=?mL) ?xO;let sx5:?MN H4 (?Ik H4 C (?ap ?hy ?dU ?Cy)):=?c8;let f2:?yG:=fr2 _ (?pH Rf);let dne:D1≠D2:=λz=>?Ef ?Ez;ext Hb;apply k D1 D2 _ (?c2 (sx1.trans (?dI UT))) Eb f2 #[#[dx,_,?X,?c1,?fo,?m],#[as1,(x2.same UT).x Uw sx5,?bj],#[bs2,x4.x Uw sx5,?bj],dne,nN _ Eb,nN _ f2,?ih];{rw[Ar,?fT,Ar,?c7]};{rw[Ar,?c7]};{rw[Ar,?fT,Ar,?fT];show l3};{rw[Ar,?cV,Ar,?cV];show l4 m hm};{let h1:=(x2.same s3).there.2 a ha;let ?zx:=n1 a ha;apply#[h3,λz=>h1 ?Ez,?_];rcases h2 with h2 | h2;{show(na a h2).2.2};show nN a h2};{let ?zx:=n4 a ha;apply#[?k7,h3,?_];{rcases h2 with h2 | h2;{show ?rn a h2 (z▸Eb)};show ?Ef (z▸h2)};rcases h2 with h2 | h2;{show(nb a h2).2.2};show nN a (fr2 _ (?pH h2))};cases hap:a=p;{rw[hap,Ab]at z;cases z};rw[Aj hap]at z;show x.nn a ha (fr2 _ (UT.free z))
def BR:?I0 ?j8 ?j8 Oq:=Bg
def CA[?J](F:?Hu ?js "Work.__init__" Oq)[?I][?HH][?Hh]:?Hp 3 ?j8 ?wJ:=by apply ?I8 BR;let#[H0,p,dx,v,n,w,M,?h,s0,fp,hp,hv,hn,hw,k]:=h;let#[ta,?a9,hq0,cP,_]:=?hY;apply#[_,(Ad (?IB ?F) (Ad (?IB ?C) (Ad (?IB (?O1 ?xW ?xW)) (Ad (?IB (?O1 ?Gz ?Gz)) ?zF)))),?_];ext W;(let mkL:∀{G1 G2 G3:Hp}{D1 D2 L JK:Addr}{as1 PD:?j6}{m:Nat}{fs:?o6}{G4:Hp}{N:?fJ},as1.length=m->?cf G1 G2 D1 as1 m ?oV->PD.length=m->?cf G2 G3 D2 PD m ?oV->?Lp G3 L->?s G3 ?w2->fs=?ap ?hy ?dU ?xy->G4=?p (?p ?w2 L (?KJ ?xy)) L ?ub->(∀a,N a->?Kj G1) → ?BM/\LX G4 ?A L D1 D2 ?Y m m ?d4 N:=by intro G1 G2 G3 D1 D2 L JK as1 PD m fs G4 N hl1 R1 hl2 R2 nL sN hfs hG4 hN;(let hL4:G4 L=?j ?ub:=by rw[hG4];show Ab);(let st:?BM:=?Md (by rw[hG4,Aj ?mt,Aj ?mt];show sN _ _ e));clear hG4;(let x1:TA G4 D1 as1 m m ?fG:=((?vX).same (?iU st)).congr ?ER);(let x2:TA G4 D2 PD m m ?fG:=((TA.of R2 hl2).same st).congr ?ER);let t1:=(?vX).there;let f2:?Mf G2 ?z9:=?Jf ?nu;let nN:∀a,?z9->?kI:=?Ju hN;apply#[st,#[JK,fs,hL4,?pf,?pf,?pf,?fo,?_],#[as1,x1,?bj],#[PD,x2,?bj],λz=>t1.1 ?C5,nN _ ?lY,nN _ (f2 _ ?jD),?Km (hN a ha (f2 _ (?kH (st.free z))))];{rw[hfs,Ar,?cV,Ar,?cV];rfl};{rw[hfs];show ?Fq};{let ?jx:=?kS;let ?jE:=R1.row i _ ?cZ;show#[z2,λz=>t1.2 _ ha ?C5,?wX]};let ?jx:=?kS;let ?jE:=R2.row i _ ?cZ;show#[λz=>t1.1 ?zq,z2,nN _ (f2 _ z1)]);apply#[?k,?ac,?g,hp,?ag,?oC,?f1];apply Iz (?NO (?lH/\?Ik H ?S ?wg=H')) ?_ ?hS;rintro _ _ ⟨rfl,rfl⟩;apply ?Ho (?lH/\∃fs,fs=?ap ?bE ?Av ?wg/\?nx/\?A7);{apply#[?k,?ac,?g,Ab,?ag,?iz,by simp[putF],?_];show ?Hy #[?h,?g,Ab,?c2 ?c8]};ext ta;let#[fs2,hf2,hp2,sx2]:=jV;(let l2:fs2.length<=2:=by rw[hf2];show ?GG);let s02:?s H0 H2:=?w9 s0 fp;apply ?Ho (?lH/\∃(L O1 O2:Addr) (fs:?o6),fs=?ap ?p1 ?ro fs2/\?nx/\?MN H2 H'/\Kp H2 H'/\p≠L/\?Lp H2 L/\?Lp H2 O1/\?Lp H2 O2/\?LS H' ?gV);{apply#[?g,ta,?a9,?w (s02.seq hq0),n,?re,?m,λO1 os1 G1 hl1 R1=>?_];apply#[?g,ta,?a9,?w ((?yQ R1.same).seq hq0),n,?re,?m,λO2 os2 G2 hl2 R2=>?_];let s2:=R1.same.trans ?fp;intro L dl nL ndl B21;let sN:?K8 ?zS L:=?Bd nL;apply(?KT L O1 O2);let ?Aj:=?J0 nL;let Uw:=st _ _ ?G1;let npL:p≠L:=Aq ?G1 nL;apply#[?g,?ac,?g,Uw,?f0,?bz];show ?Hy #[?h,L,O1,O2,?g,Ab,?M4 ?h2,?LW ?h2,npL,?iK nL,?lY,?nu ?jD,lx.x Uw npL ?c8 ?bo]};apply K6 λH3 jV=>?_;intro sq;let#[L,O1,O2,fs3,hf3,hp3,sx3,kp3,npL,nL,n1,n2,lx3]:=jV;(let l3:fs3.length<=3:=by rw[hf3];show ?MK (qi9 l2));let s03:?s H0 H3:=sx3.same s02 fp;apply ?Ho (?lH/\∃(R O3 O4:Addr) (fs:?o6),fs=?ap ?j5 (?z R) fs3/\?nx/\?Al/\?ww/\p≠R/\?Lp H3 R/\?Lp H3 O3/\?Lp H3 O4/\?LS H' (λa=>?Ff)/\?MQ H' ?gV);{apply#[?g,w,?h,?m,λO1' os1 G1 hl1 R1=>?_];apply#[?g,w,?h,?m,λO2' os2 G2 hl2 R2=>?_];let s2:=R1.same.trans ?fp;intro R dl nR ndl B21;let sN:?K8 (.own R) R:=?Bd nR;apply(?KT R O1' O2');let ?Aj:=?J0 nR;let Uw:=st _ _ ?EO;let npR:p≠R:=Aq ?EO nR;let n4:?Lp H3 O2':=?nu ?jD;apply#[?g,?ac,?g,Uw,?ag,?hU,?bz];(let y1:?LS G4 (λa=>a=O1'\/a=O2'):=lx3.more ?h2 (?Jj (?V (by rcases ha with rfl | rfl;show R1.free;show n4))) λa ha=>by rcases ha with rfl | rfl;{let ?fg:=lx.rw;show ?FR};let ?fg:=lx.bk;show ?FR);show ?Hy #[?h,R,O1',O2',?g,Ab,?M4 ?h2,?LW ?h2,npR,?iK nR,?lY,n4,y1.x Uw npL ?c8 ?bo,lx.x Uw npR ?c8 ?bo]};apply K6 λH4 jV=>?_;intro sq;let#[R,O3,O4,fs4,hf4,Uw,sx4,kp4,npR,nR,n3,n4,lx4,ly4]:=jV;(let l4:fs4.length<=4:=by rw[hf4];show ?MK (qi9 l3));let s04:?xL:=?F0 s03 fp;apply#[?bJ,λnm hnm=>?_];let sn:?s H4 ?uM:=?Q hnm;let A03:?p H4 nm ?fc nm=?t3:=Ab;let LV:=sn _ _ Uw;generalize ?uM=H5 at sn A03 LV;apply#[?g,?ac,?g,LV,?e6,?bz];(let ex:∀a,?Ao->?Kj H5:=?Jj (by ext tZ;{rw[A03];show ?hv};{let ?fg:=ly4.rw;show ?wO};let ?fg:=ly4.bk;show ?wO));let z1:?LS H5 (λa=>?Ao):=lx4.more sn (?Jj (ha.elim (λe=>?V (e▸hnm)) ?w)) ex;let z2:?MQ H5 ?gc:=ly4.more sn (?Jj (?V (ha▸hnm))) λa ha=>ex a ?py;let JY:?MN H5 ?BO:=?c8;let s06:?s H0 ?BO:=JY.same (?Cp sn) fp;let g2:?MS ?uh:=?Jf s02.free;let g3:?MS ?CY:=?xJ;let npn:p≠nm:=Aq Uw hnm;(let LR:L≠R:=λz=>by let ?C7:=lx3.ob;rw[z,nR]at q;cases q);apply k L R nm _ #[#[?hx,dx,_,?X,?cL,?_,?fo,?_,λM' e=>by cases e;show ?a1 (?Md (by rw[CQ (Aq e ?wm)];show s06 _ _ e)) hv],#[O1,O2,O3,O4,z1.x LV npL JY ?bo,z2.x LV npR JY ?bo,g2 _ n1,g2 _ n2,g3 _ n3,g3 _ n4],by rw[Aj ?wz];show A03,s06,#[fp,g2 _ nL,g3 _ nR,?wm],?uV,#[hn,hw]];ext HC;ext HC;{rw[hf4,hf3];(ext ai)};{rw[hf4];(ext ai)};ext g8;{rw[hf4,hf3,hf2];(iterate 5 ext HU);rfl};show ?MK ?m
def Fg:?I0 [?a7,?oG,?d8,"parts","order",?q8,?nF,?so,?b0,?as] ?tA Wl:=Bg
def LB[?J](F:?Hu ?rB ?rB Wl)[?I][?tP][?lr]:?Hp 3 ?tA ?Cm:=by apply ?I8 Fg;have#[?ba,us,ls,?a3,Ce,hb,hB,hok,kq]:=h;have ?Ar:=?fB;apply#[_,(Ad (IL (N':=[?fS]) (cap:=?fl) (i:=2) ?dN ?o ?nM ?o ?aA ?iG (?Ht (?L4 0 Aw5)) ?aH (λ_ _ _ _=>Fx)) (Ad (Ch qb8 ?h ?wb (?L4 3 ?dN) (Ag (Ch qb8 ?h ?sS (?IT (?L4 4 ?dN) (?O6 5 ?dN (?ND 6 ?dN (?L4 7 ?dN)))) (?Nx (?IC Eh ?a5) (Ag (Q3 (Ch qb8 ?h (Nd ?bI) (?Hq 8 ?dN (?L4 9 ?dN)) (?Ns (?OV Ts (?L5 (?I2 ?C ?bd) (?Hs Kn ?cx ?h1))) ?bd)))))))) ?hP)),?_];ext W;cases z;(let xul:?Ct:=?h7);apply ?Ho (Hm λ ?cQ ?fy=>Ds (σ'=[?v,?bU,?aC,none,none,none,none,none,none,none]) ?a4 ?cU ?zk (?MZ H' (?cK ?cW [])));{apply ?tl;have Ci1:?aK:=λi ws τ G=>Br ?db ?ne (?MZ G (?cK i [])) ?f4;apply Ck (K:=K) (a:=a) (xs:=xu) Ci1 #[?aT,?BQ,?aI] (λi ws τ G _ hz=>by ext bu;show g.seq hq) ?_ ?_;{rintro i x ws τ G hx C9;revert τ;apply ?bS;intro g Cu dd o Eg;let hi:i<xu.length:=?fh;(let wl:ws.length=i:=by let:=?dh;rwa [qi1]at this);apply ?kV;let g1:?s G ?Gc:=?kJ;apply#[?mg,?b2,?J8 ?gQ,?X,?g];rw[ql0];apply Ec.keep (H:=?Gc) ((?ef g1).snoc (?qg hE) Ab) ?E5;rw[?fH];{show e};rw[z,?mg]at e;cases e};rintro ws τ G ⟨g,Cu,dd,_⟩;rw[xul]at dd;show ?Hy #[D,ws,?h,g,hD,Cu,dd]};apply Ai8 λD ws H1 s1 nD hD dd=>?_;intro sq;apply ?Ho (ZL λ ?fy ?wL=>Br (σ'=?yJ) ?a4 ?zk (?MZ H' ?h5));{apply#[?g,b,?h,(?ME ?fY),?_];have Ci0:?ab:=?Lc (ZL λ ?fy ?wL=>Ds (σ=?yJ) ?db ?ne (Ec H G ws ?lG) (Ii ?cW ?lG));apply ?cj (K:=K) (a:=b) (xs:=us) Ci0 #[ws,?B,?B,?g,s1,hD,dd,Ii.first _] (?LJ (by let#[?B,?B,?B,g,_]:=hz;show ?Hv g hb)) ?_ ?_;{rintro i v σ G hv C9;ext f;revert σ;apply Am3 ?_;intro ws o1 o2 o3 o4 o5 o6 o7 g Cu dd IY Eg;let hi:=?cy;let h0:=hB.1;apply ?M;obtain⟨ps,hps⟩:?Ag:=?ct;let ?Fu:=?vN;apply ?D;let pok:=hok ps (qa6 hps);let pl:=rP.len;(let oV:?L0 ?aX=Ma ?lG ps:=by unfold Cb;rw[qd6,hps,ql5];rfl);generalize ?lG=lf at dd IY oV;apply#[?g,pa,?h,(?ME ?pY),?_];have Ch9:?ab:=λj σ G=>Ex7 λ ?fy (o2 o3 o4 o5 o6 o7:?b3)=>Ds (σ=(?MI (rS pa))) ?db ?ne (?MZ G ?jV) (Ii ?cW ?jV);apply ?cj (K:=K) (a:=pa) (xs:=pu) Ch9 ?Fe (?LJ (by let#[?B,?B,_,_,g,_]:=hz;show ?l ?pY)) ?_ ?_;{rintro j v σ G hv C9;ext f;revert σ;apply Am4 ?_;intro ws o2 o3 o4 o5 o6 o7 g Cu dd IY Eg;apply ?M;let#[p,hp,pv]:=rP.get hv;let#[t,c1,c2,c3,?h,et,e1,e2,e3,nec]:=pv.same g;apply ?D;let pk:=pok p ?fn;(let ejk:Ma lf (?kv ?iy)=Tj ?jV p:=by unfold Ma;rw[qd6,hp,ql5];rfl);generalize ?jV=lg at dd IY ejk;(let xZ:∃kvs,H c2=?j (.dK kvs):=by have#[t',_,c2',_,q1,q2,_,q4,_]:=pv;cases q1;let:=?Nn q2;rw[et]at this;ext ly;ext ly;injection this with _ this;injection this with _ this;ext ly;ext ly;show#[_,by rw[this];show q4]);apply ?za;apply ?bP;apply ?aa;{(let h1:p.1=1:=?aD);let eP:Tj lg p=p.2.2.1.foldl ?nf lg:=?bm h1;rw[eP]at ejk;(let nDc:c2≠D:=λz=>by rw[z,Cu]at e2;cases e2);apply ?V #[c2,?lM,e2,?dy];apply(?Jb c2 ?lM);have Ch8:?ab:=λm σ G2=>Nv λ ?fy (o6 o7:?b3)=>Kb (σ=[?v,?bU,?aC,rS pa,?bq,rS c1,rS c2,rS c3,o6,o7]) (G2 c2=?Ia ?lM) (G2 D=?gr) (?MZ G2 ?jf) (Ii ?cW ?jf) ((?JI c2 ?si (G2 c=?dK)));apply U1 (d:=c2) (o:=o) (kvs:=?lM) Ch8 #[ws,_,?g,Ab,by rw[Aj nDc.symm];show Cu,?_,IY,λc q n1 _ e=>?v7] ?nB ?_ ?_;{apply ?vt;rw[?fH];{show e};let#[_,q]:=xZ;rw[z,q]at e0;cases e0};{rintro m kk x σ G2 pp hx C9 hpp;ext f;revert σ;apply ?ks;intro ws o6 o7 hc2 LW dd IY hk Eg;apply ?M;let ?ev:=?dt;let#[x0,x1]:=pk.gk q ?dM;apply ?D;(let emk:?Kf ?rZ=lift1 ?fX ?jf q:=by rw[qd6,hq,ql5];rfl);generalize ?jf=lh at dd IY emk;let wl:?Jq ws.length:=?yc IY.1;let SR:?K9 G2 G2 pp:=?Q hpp;apply ?xa;apply ?M;obtain⟨v,hv⟩:∃v,ws[?bK]?=?au:=?ct;let ?u0:=?Ed;apply ?D;(let hat:eX ws q.1=?j ?uQ:=?FK);(let nc3:c3≠D:=λz=>by rw[z,Cu]at e3;cases e3);let e33:=SR _ _ (hk _ _ nec.symm nc3 e3);let lc:=IY.at ?bK;apply#[?k,D,ws,?i,?Hv SR LW,hat,?k,q.2,c3,?fX,?h,e33,?Iw pk.fl.len,pk.mul q ?dM,?vL];apply#[c,T,_,?g,?Iq s4 (SR _ _ hc),hT,?Iw lc.len,?Iw ((pk.fl.times q.2).len),λE G5 nE s5 hE=>?_];let s15:=?IQ ?fE s5;apply#[?k,D,ws,?i,?zo,by rw[wl];let:=Gu (l:=xs.length) (i:=?bK) ?m;ext i3,?_];apply#[_,_,?g,?_,Ab,emk▸ ?_,emk▸IY.lift1 pk.fl q,λd r n1 n2 e=>?_];{rw[Aj nDc];show ?KU hc2};{apply Ec.keep (H:=G5) ((?ef s15).set ?_ hE ?bK) λd kvs _ e=>?_;{cases e:H E with| none=>rfl| some r =>let:=(?fE) _ _ (hk E r (?Kq hc2).symm (?Kq LW).symm ?sz);rw[nE]at this;cases this};rw[?fH];{show e};rw[z,?zo]at e;cases e};rw[?kT];show ?KU (hk d r n1 n2 e)};rintro σ G2 C9;revert σ;apply ?ks;intro ws o6 o7 hc2 LW dd IY hk Eg;rw[Iv,qd0,←ejk]at dd IY;apply#[hc2,ws,?B,_,_,?g,?G8,by rw[Aj nDc.symm];show LW,?vt,IY];{cases z:c=c2;{subst z;let:=?sz;rw[e2]at this;cases this;show Ab};rw[?dZ];show hk c r z (Aq e nD) ?sz};rw[?fH];{show e};rw[z,hc2]at e;cases e};(let h1:¬p.1=1:=?aD);let eP:Tj lg p=lg:=?am h1;rw[←ejk.trans eP]at dd IY;show ?Fe};rintro σ G C9;revert σ;apply Am4 ?_;intro ws o2 o3 o4 o5 o6 o7 g Cu dd IY Eg;rw[pl,qd0,←oV]at dd IY;show#[ws,?B,?B,?g,g,Cu,dd,IY]};rintro σ G C9;revert σ;apply Am3 ?_;intro ws o1 o2 o3 o4 o5 o6 o7 g Cu dd IY Eg;rw[hB.1,qd0]at dd;show ?Hy #[ws,?B,?B,?g,g,Cu,dd]};apply Ba2 λws o1 o2 o3 o4 o5 o6 o7 H2 s2 Rf dd=>?_;intro sq;show#[?g,kq D ws H2 nD s2 Rf dd]
def M6:?I0 [?d8,?cb,?d7,?b0,?as] ?pT Z5:=Bg
def NZ[?J](F:?Hu ?nh ?nh Z5)[?I][?tP][?lr]:?Hp 3 ?pT ?Ec:=by apply ?I8 M6;let#[a,b,O,xs,k,wu,lf,c,?h,ha,dd,sO,nb,hb,hc,UW,Ce,hl,kq]:=h;let hwl:?o2:=?dh;apply(?OL (?Hw 2 ?jF Fx) (?Ny (?Hq 3 ?jF (?L4 4 ?jF)) (Ao (i:=2) ?jF (?OV Ts (?L5 ?C (?Hs Kn ?a5 ?CR))))));ext W;apply ?Ho (?N7 (σ'=[?v,?bU,?aC,none,none]) (?O7 (Nh lf (c.take 0))));ext tO;apply Iy λD0 H1 nD s1 Eb=>?_;intro sq;(let aM:D0≠b:=λz=>by rw[z,hb]at nD;cases nD);apply ?Ho (Nv λ ?hW ?x3=>Br (σ'=?CP) ?m9 ?a4 (?N9 E (Nh lf c)));{apply ?J4 ?jY ?fY;apply(?Jb b ?jY);have Ch7:?ab:=?Lc (Nv λ ?hW ?x3=>Kb (σ=?CP) (E≠b) ?m9 (G b=?Ia ?jY) (?I1 G E ?Cg) ((∀d q,d≠b->H d=?dK->G d=?dK)));apply U1 (d:=b) (o:=o) (kvs:=?jY) Ch7 #[D0,?aS,aM,nD,Ab,?yq,λd q n e=>by rw[Aj n];show ?fI] (?Mc #[?B,?B,e,_]) ?_ ?_;{rintro i kk x σ G pp hx C9 hpp;ext f;revert σ;apply ?ks;intro E o3 o4 nE hE0 AV ZH hk Eg;let ?ev:=?dt;let hqm:=?dM;let#[x0,x1,_]:=Bt (hc.key q hqm);let#[lk,lm]:=hl q hqm;let SR:?K9 G G pp:=?Q hpp;apply ?xa;obtain⟨v,hv⟩:∃v,wu[?bK]?=?au:=?ct;let ?h3:=?Ed;(let hat:eX wu q.1=?sp:=?FK);let ne1:c1≠b:=Aq hc1 nb;let nea:a≠b:=Aq ha nb;let B83:=?KC ne1 hc1;let haG:=?KC nea ha;let hch:?Ji (k+1) ?Cg:=Yp (λp hp=>(hl p (qm8 hp)).1) ?z8;apply#[?k,?k,a,wu,?i,?l haG,hat,q.2,c1,?sc,?h,B83,?Iw lk.ok.len,lm,?vL];apply#[E,T,_,?g,?Iq s4 (SR _ _ ZH),hT,?rc,?Iw ((lk.ok.times q.2).len),λE2 G5 nE2 s5 hE2=>?_];let s15:=?IQ ?fE s5;let EL:=?fE;(let neb:E2≠b:=λz=>by rw[z,EL _ _ AV]at nE2;cases nE2);apply#[E2,_,?g,neb,?_,?KU AV,?_,λd r n e=>?KU (hk d r n e)];{cases e:H E2 with| none=>rfl| some r=>rw[EL _ _ (hk _ _ neb e)]at nE2;cases nE2};rw[hE2,oM hq]};rintro σ G C9;revert σ;apply ?ks;intro E o3 o4 nE hE0 AV ZH hk Eg;rw[Iv,qd0]at ZH;apply#[AV,?Hy #[E,o3,o4,?h,hE0,λd q e=>?_,by rw[Aj nE];show ZH]];cases z:d=b;{subst z;rw[hb]at e;cases e;show Ab};rw[?dZ];show hk d q z e};apply PN λE o3 o4 H2 nE s2 hE=>?_;intro sq;show#[?g,kq E H2 nE s2 hE]
def Ez:?I0 [?CG,?v1,?zJ,?eY,?i1,?dx,?pN] ?sC Qx:=Bg
def eS[?J](F:?Hu ?qN ?qN Qx)[?I](O9:?I5 ?qv ?sZ ?Bn)(Xd:?y P w K mg ?n ?p7 ?r9 1 ?yz)[?HM]:?Hp 3 ?sC ?vR:=by apply ?I8 Ez;let#[a,ns,kind,most,?h,hS,hl,hm0,hm1,k]:=h;ext e5;apply#[_,(Ad (?Hw 3 ?em Ah) (Ad (?LO ?ve (?Hw 3 ?em ?ft)) (Ad (?LO ?ve (?Hw 3 ?em ?xQ)) (Ad (?Hw 4 ?em ?di) (Ad (Ch qb8 ?h ?wb (?L4 5 ?em) (Ad (?ON 6 ?em (?OV O9 (?Nv ?a5 (?Hs Xd ?aQ (?L5 ?P ?xQ)) ?eW))) (?Nx (Bh QF (?LC ?ea) ?C ?R) (?NQ 4 ?em ?bI)))) (Ag (Bb (Bu (N':=[?h8,?eY,?i1]) (cap:=[none,?ja,?j 4]) ?o ?aA ?u5 (?Ht (?L4 0 Av7)) ?aH (?Ht (B8 (?NX Nj) ?o ?yB Lh (?N3 (Bu (N':=[?oy,?i1]) (cap:=?v6) ?o ?aA (B6 (K:=K) (?LA Jc ?bl)) (?OQ (?L4 0 Av6)) ?aH (?OQ (Jw (K:=K) qf4 PySem.F.slot_list_index PySem.F.type_list_index (tQ (K:=K) Sa) ?F ?az)))))))))))))),?_];ext W;apply ?IK (?MY (iS 0));ext aR;apply Ak ?x0 ?_ λBh3=>?_;rotate_left;{apply ?up;apply ?xt;{show#[?g,Bh3 _ _ #[-1,?O,?N]]};show Bh3 _ _ #[0,?O,?N]};apply Aj2 λCc8 hf0=>?_;intro sq;apply Ak ?x0 ?_ ?ff;rotate_left;{apply ?up;apply ?xt;{apply#[?g,?i,?dW,?i,(?IM 19),?i,?Eb];let:kind / 18%19<19:=?lS;ext d};show ?KG #[Cc8,?O,hf0]};apply Aj2 λfam hf=>?_;intro sq;let l1:0<=kind / 3%6:=?no;let l2:kind / 3%6<6:=?lS;apply#[?bJ,λW0 hW0=>?_];let s0:?Ks W0 ?fc:=?Q hW0;apply#[?g,a,?h,#[_,s0.seq hS],?cj (K:=K) (a:=a) (xs:=?eX) (λj σ H2=>EC λ(W:Addr) (wu:?bY) (ws:LLInt) (o5 o6:?b3)=>L6 (σ=[?pF,?v,?p3,?be,rS W,o5,o6]) ?eH (?IY W) (?KD W wu) (?Mu H2 wu ?hi) (RX fam ws) ((ws.length:Int)<=most)) #[W0,[],[],?aS,s0,hW0,Ab,?h,RX.nil,by simpa using hm0] (λj σ H2 _ hz=>?Lb #[?B,?B,s2,_] ?lm hS) ?_ ?_];{rintro j x σ H2 hx C9;ext f;revert σ;apply Am5 ?_;intro W wu ws o5 o6 s2 hW hW2 rW hO hwl Eg;(let hjn:j<ns.length:=?kq);(let hxv:x=?u ns[j]:=by rw[qa9,qa0 hjn]at hx;simpa using hx.symm);subst hxv;apply#[?k,?k,?i,?dW,?i,(?IM 6),?i,?_];apply#[_,_,?g,?K,?m,λv H3 w s3 tv hw=>?_];apply ?bH;apply#[W,wu,v,ws,w,fam,?h,?Is hW2,?ay s3 rW,tv,hw,?m,λM mu H4 hM s4 hM4 rM=>?_];let UT:=?iX;let hMH:?ze:=?L2 ?ds hM;(let mul:?Kd ?GQ:=?xc);apply#[?g,M,?g,?w (?l hM4),?g,?i,?g,?_];apply ?aa;{(let h2:(mu.length:Int)<=most:=?aD);show#[?g,M,mu,?GQ,_,?g,?bL UT,hMH,hM4,rM,EF hO hw,?m]};show#[W,wu,ws,_,?g,?bL UT,hW,UT _ _ hW2,?ay UT rW,hO,hwl]};ext lx;apply Am5 ?_;intro W wu ws o5 o6 s2 hW hW2 rW hO hwl Eg;(let wul:wu.length=ws.length:=by let:=rW.length;ext aV);apply(?IW W (?ME hW2));let hDH:?cU:=?iK hD;have Ch6:?aK:=λi ys τ H1=>Br (?s H2 H1) ?g6 (?Mu H1 ys (?Ja ?EG ?pa tI)) (?IJ [o,?be,rS W]);apply Ck (K:=K) (a:=W) (xs:=wu) Ch6 ?cd (λi ys τ H1 _ hz=>by ext gF;show ?Hv s1 hW2) ?_ ?_;{rintro i x ys τ H1 hx C9;revert τ;apply ?bS;intro s1 Eb r1 o Eg;let hi:i<wu.length:=?fh;let hil:i<ws.length:=?m;(let hix:?Kb ?hi (tI ws[i]):=by rw[qa9,qa0 hil];rfl);let ?mZ:=rW.get hix;rw[hx]at hx';cases hx';let#[hwi,hfi]:=hO.mem (qf2 hil);generalize hwe:ws[i]=w at tx hwi hfi;apply#[?k,x,w,fam,?h,?kP s1 tx,hwi,λp fu H3 hp s3 hp3 r3=>?_];(let ful:fu.length=?Ga:=by let:=r3.length;ext aV);let ZE:=?qX;apply#[p,?h,(?ME hp3),λD2 Rf=>?_];have Ch5:?aK:=λm zs τ H4=>Br (?s H3 H4) (H4 D2=?ld) (zs=((?io).take m).map (λf=>?aF ?zm)) (?IJ [o,rS W]);apply Ck (K:=K) (a:=p) (xs:=fu) Ch5 #[?Q Rf,Ab,?h,?aI] (λm zs τ H4 _ hz=>?Lb #[s4,_] ?l ?ut) ?_ ?_;{rintro m y zs τ H4 hy C9;revert τ;apply ?bS;intro s4 GK hzs o Eg;let hm:?Bj:=?pd;let hmf:m<?Ga:=?m;(let hmy:(?tm tI)[m]?=?j ?Gx:=?Gh);let ?vx:=r3.get hmy;rw[hy]at hy';cases hy';let hfm:?pW∈ws:=hfi _ ?v3;let EL:=?sq;let rw4:?Lg H4 W ?En:=#[W,wu,?h,?Hv EL hW2,?ay EL rW];let hfl:=(Mz hwi);(let hzl:zs.length<=4:=by rw[hzs,qa5,qd1];let:=hfl.2;let:=hfl.1;split at this<;>ext d);apply#[?g,?w #[?T,?Hv EL hW2],?g,?hi,y,?Gx,JE ws ?pW,?h,rw4,?kP s4 ty,?FC,oU hfm,?_];apply#[GK,?b2,s4.turn Rf,?X,?g];rw[qd6,?rp,qb2,hzs];rfl};rintro zs τ H4 ⟨s4,GK,hzs,_⟩;rw[ful,qd0]at hzs;let EL:=?sq;apply#[D2,?g,?w #[?l GK,?oz]];let s5:?s H4 ?BK:=?lX;let hD5:=(?wN) _ _ Eb;(let t5:TI K ?BK ?eQ ?t1:=by apply TI.mk ?x2;rw[qk2,Ab,hzs];rfl);(let hyl:ys.length=i:=by let:=r1.length;simp at this;ext d);apply#[hD5,?b2,?Me EL.trans s5 hD,?X,?g];(let e2:?Ja ws.take ?aX ?pa=?EG ?pa++[?t1]:=by rw[qd6,qa0 hil,hwe,qb2];rfl);rw[e2];show Q2 hD5 (?ay ?wN r1) t5};rintro ys τ H1 ⟨s1,Eb,r1,_⟩;rw[wul,qd0]at r1;show k D ys H1 (Qp ws fam) hDH (?bL s1) Eb r1 (EH hO) (by unfold Qp;rw[qa5];show hwl)
def Da:?G [?eZ,?dP,?rE,?ep,?eU,?dx,?wj,?gx,?mp,?yX,?pN,?iH,?gi,"_law_edge",?vO,?mK,?Cn] ?om (An a8):=Bg
private def OC[?J](F:?Hu ?oS ?oS a8)[?I](Mt:?I5 ?pc ?rW ?GE)[?tE](CV:?KR "_law_level" "_law_piece")(Xe:?Hx "_law_weighed" [?mp,?gx] fN):?Hp 3 ?om ?wl:=by apply ?I8 Da;have#[a,hd,ld,Az,k,E5,c,xs,hs,lf,wu,j,ps,p,?a3,hsh,hxj,hc,hO,hlf,oth,hk,hp,kq]:=h;ext e5;have ?uZ:=hxj;have#[hc0,hc1]:=hc;have ?Ck:=hlf;ext tD;let ch:=?m8;let hb:=oth.b _ _ hk p ?fn;let h4:=Pq hsh;let l1:=ch.r.ok.len;let l2:=ch.g.ok.len;let l3:=ch.f.ok.len;ext tQ;ext tG;let upl:=pp.1;ext lt;have ?Ar:=?fB;apply#[_,(Ad (Gb (?I2 ?oY ?a5) (?IT (?L4 6 ?bX) (?O6 7 ?bX (?ND 8 ?bX (?L4 9 ?bX))))) (Ad (?Hw 10 ?bX Fx) (Ad (Ch qb8 ?h ?sD ?Gi (Ad (Ao (i:=12) ?bX (?OR Gq (?NS (Be C5 (Be C5 ?aQ (Be Js (Be Js ?bn ?bn) Ah)) ?bn)))) (Ag (?LO (?OD (?NL Eh (?Hs CV (At ?aJ ?x ?bn ?a0) Ac) ?kX) ?gU) (Ye ?dj ?fs ?bn ?gU ?o))))) (Ad (?LV 13 ?bX ?DA) (Ad (Ch qb8 ?h (?I9 B6 ?oY) (?L4 14 ?bX) (?Nx (?IC kZ ?lC) (Ag (Ao (i:=10) ?bX (?OV Gf (Aa ?fs (?L5 (Be Gq Ah (Be Jt (?Hs Xe ?lC (?N3 ?mC)) ?lC)) ?lC))))))) (Ad (?ON 7 ?bX (?Hs Gf ?av (?L5 Ah ?DA))) (Ad (?Hw 15 ?bX (?LQ (?N3 ?oY))) (Ad (Gb (?OP ?bI (?N4 ?av ?bd (?Hs Gf ?cx (Aa ?bI ?q9)))) (?KW ?t9 ?a5)) (Ad (?Hw 16 ?bX (?LQ ?bC)) (Ad (Q3 (Ch qb8 ?h (Yg ?bd) ?Gi (Ag (Gb (?LA Gf (Aa (?I2 ?nD ?bn) (Aa (Be Gq Ah (Ur ?dj ?bd ?bn ?a0)) ?q9))) (?KW ?nD ?bn))))) (?I4 (?OP (Be ?dB (Be ?dB (Dd ?d6 ?F Fc (Dn ?P)) (Gc (?N3 ?t9))) (?O5 ?F (Dn ?kX))) (?N3 ?nD))))))))))))),?_];ext W;cases z;(let ZC:?Ct:=?h7);apply ?Ho (?Nb [?v,?aj,?bQ,?aO,?b8,?b7,?bq,?du,?aL,?cC,none,none,none,none,none,none,none]);ext H9;ext aR;apply ?Ho (?N7 (σ'=(?LF none none)) ?FA);ext tO;apply Iy λD H1 nD s1 Eb=>?_;intro sq;apply ?Ho (?Ne σ' ?a4 ?GN);{apply#[?g,a,xu,?h,?w ?jZ,?g,?K,?_];have Ch4:?ab:=?Lc (?Ne σ ?db ?FY);apply De (lo:=0) (n:=((xu.length:Nat):Int).toNat) Ch4 #[[],?aS,s1,Eb,ChL.nil _ _,λq=>by rw[Ev];decide] ?_ ?_;{rintro i σ G hi C9;ext f;revert σ;apply ?dg;intro m cD CC g Cu hm Eg;let hi:?nq:=?m;let hin:?c4<=?hk/\?fU<?f7:=?m;apply ?M;let ?zK:=?Mi ?r0;apply ?D;let C62:=hm.ch.ok.len;let i40:?fU<=40:=?m;let i0:=?hg;(let m1:?rx<=1600:=by let:=Int.mul_le_mul i40 i40 i0 ?N;ext d);let m0:0<=?rx:=qk5 i0 i0;apply ?Ij (Ex λ(x:Int)=>Ee (σ'=(?LF (?j (?u ?hk)) (iS x))) (G=H') (x.natAbs<=2));rotate_left;{apply#[?k,?g,?i,?oW,?i,?oW,?i,?g,?i,?i,?N,?i,?_];apply ?Eb;generalize c+?rx*7+?hk=y;ext d};rintro _ _ ⟨x,rfl,rfl,hx2⟩;apply(?JH ?s8);rw[?IV ?s8 ?vn];apply#[?g,?i,?h,?g,?_];apply ?cu ?o5 ?sP;rotate_left;{show Nk (λz=>?zZ) ?yA};(let hlv:Cc ?vn=?cA:=?aD);let hpl:?fU∈?fa:=Gr ?hg ?jd hlv;apply ?bP;apply ?cu ?nn (λ_=>?yA);(let hx0:x≠0:=?eu);apply#[?k,?g,D,?g,?Am,?_];show#[_,_,?g,g.turn nD,Ab,hm.put Ce hpl hx0 hx2]};rintro σ G C9;revert σ;apply ?dg;intro m cD CC g Cu hm Eg;show ?Hy #[m,cD,CC,?h,g,Cu,hm]};apply PN λm0 cD CC H2 s2 Rf hm0=>?_;intro sq;let Tm:∀q∈m0,?pl:=?JR hm0.ch.key;apply ?Ho (Ex λ ?hW=>Br (σ'=(?LG ?du none)) ?hN (?Lp H2 E) (?N9 E ?BD));{show#[?k,a,D,xs,m0,?h,?JT s2,Rf,by let:=hm0.ch.ok.len;ext d,h4,Tm,λE H3 nE s3 hE=>?Hy #[E,?h,s3,nE,hE]]};apply Iy λE H3 s3 nE hE3=>?_;intro sq;have#[ce,we,be]:=hm0.edge hsh Ce;let zE:=?ds;apply ?Ho (Nv λ ?cQ ?l9 ?u2=>Ds (σ'=?u3) ?cU ?a4 ?GN (mQ xs k j ps m));{apply#[?k,hd,lu,?i,?Hv zE qW,?hd,l,?h,(?MP zE hl),?_];have Ch3:?ab:=?Lc (Nv λ ?cQ ?l9 ?u2=>Ds (σ=?u3) ?cU ?lh ?FY (R6 xs k j ps m0 ?BD i m));apply ?cj (K:=K) (a:=l) (xs:=us) Ch3 #[D,m0,?aI,nD,?fL,?Is Rf,R6.first hm0 _] (?LJ (by let#[?B,_,_,g,_]:=hz;show ?Hv (?sF) hl)) ?_ ?_;{rintro i v σ G hv C9;ext f;revert σ;apply ?id;intro D m fV nD g Cu hm Eg;apply ?M;let#[b,hbi,tb,rb,gb,fb,?h,bt,b1,b2,b3,_,_]:=(pp.same ?sF).get hv;apply ?D;let cb:=?sT _ _ hk b ?G6;let bb':=oth.b _ _ hk b ?G6;apply#[?g,tb,_,?i,?BC,?h,?i,?g,?_];apply ?aa;rotate_left;{(let h0:b.1=0:=by (let:¬b.1 > 0:=?aD);let:=cb.od;ext d);show#[D,m,?g,nD,g,Cu,hm.skip hbi h0]};(let hpos:0<b.1:=?aD);apply#[?k,tb,_,?i,?BC,?h,?g,gb,E,Ft b,?g,b2,?tp,λt ht=>Hq (m:=gB j) (n:=44) (bb'.g _) (?J9 ce.ok.val ht be) ?vP,?yM];apply#[?g,tb,_,?i,?Hv g1 bt,?h,?i,Xt.of ?m bb'.o,?i,?g,tb,_,?i,?Hv g1 bt,?bM];rw[qg6 _ (?I3 (0<=b.1))];apply#[D,fb,_,m,Yu b,?h,?mg,?Ig b3,?qC,cb.f.ok.n,by let:=hm.ch.ok.len;ext d,by let:=cb.f.ok.len;ext d,λq hq=>Hq (m:=gB j+84) (n:=nB j) (LJ Ce ce be bb') (?J9 cb.f.ok.val hq bb'.f) (by unfold gB nB;ext d),λD' G2 n2 g2 d2=>?_];show#[D',_,?g,(?s3 ?gQ).free n2,?ax ?cG,d2,hm.next oth Ce hk hbi ce be ?m]};rintro σ G C9;revert σ;apply ?id;intro D m fV nD g Cu hm Eg;rw[upl]at hm;show ?Hy #[D,m,fV,?h,nD,?sF,Cu,hm.last oth hsh Ce hk hm0]};apply Ai6 λD m fV H4 nD s4 GK hm=>?_;intro sq;let ml:=hm.ch.ok.len;let B38:∀q∈m,?pl:=?JR hm.ch.key;have#[cE,wE,bE]:=hm.edge hsh Ce;(let mB6:mB j<=20000000:=by unfold mB gB nB;ext d);apply ?Ho (Ex λ(rn:Addr)=>Br (σ'=(?LG (rS rn) fV)) ?pk (?Lp H4 rn) (?N9 rn (plN (Qo p) 1 ?Cx)));{apply#[?k,?g,a,D,xs,m,?h,?JT s4,GK,?m,h4,B38,λE2 G1 n1 g1 d1=>?_];apply#[ra,E2,1,Qo p,?g,?Ig (?MG e1),d1,ch.r.ok.n,cE.ok.n,?m,by let:=cE.ok.len;ext d,λq _=>?jG,λrn G2 n2 g2 d2=>?_];show ?Hy #[rn,?h,?cG,?v5,d2]};apply Iy λrn H5 MU nrn Bi8=>?_;intro sq;let s5:=?Eg MU;apply ?Ho (Ex λ ?pg=>Br ?CE (?Lp H5 R) ?hq ?st);{apply#[?k,hd,lu,?i,?Hv s5 qW,?hd,aT (s5 _ _ hl) ?FW]};apply Iy λR H6 nR s56 hR6=>?_;intro sq;let s6:=?l6 s56;let nRH:?rA:=s5.free nR;let nrH:?IY rn:=s4.free nrn;apply ?Ho (Ex λ ?fu=>Br ?CE ?hq ?qF (Fp ?hb H' ?eQ ?Dr));{apply#[?k,?k,?k,fa,D,p.1,Yu p,m,?h,s6 _ _ e3,s56 _ _ ?Ak,ch.f.ok.n,?qC,?K,λq hq=>Hq (m:=9000) (n:=mB j) hb.o (?J9 ?BR hq hm.b) ?m,λfn G1 n1 g1 d1=>?_];apply ?ma;let x3:=?cP g4;let uX:=x3 _ _ hR6;apply ?qs;apply ?Hy #[T,?h,?Me s56.trans x3 nR,?X];show(?ge (p:=?Dr) qY ((s56.trans x3) _ _ Bi8) (?Mo (?rI x3)) (g4 _ _ d1) ?cH ?Fy).put uX};apply Iy λT H7 s57 hR7 hT7=>?_;intro sq;let s7:=?l6 s57;let gr1:Kv Az ?hb H:=?l0 nrH;let ao7:Wb ?hb H7:=(?gg s7).add (s57 _ _ Bi8);apply ?Ho (Ex λ(F:Addr)=>Br ?CN (?Lp H7 F) ?rX (?LD F wu));{apply#[?g,aT (s7 _ _ hld) λF G hF s h=>?Hy #[F,?h,hF,s,h]]};apply Iy λF H8 nF s78 hF8=>?_;intro sq;let s8:=?ii s78;let B78:=?Mo s8;let nFH:?IY F:=s7.free nF;(let Av3:F≠ga:=λz=>by rw[z,?o1]at nF;cases nF);let wul:?o2:=?dh;let UW:=oth.L.ll;let hD8:=s78 _ _ ?wY;(let nA:¬Zk Az rn ga:=?Fy);(let B22:D≠ga:=λz=>by rw[z,e2]at nD;cases nD);let hD7:=?wY;apply ?Ho (Nv λ ?D5 ?zP ?D8=>L6 ?CN ?rX (?LD F HZ) (Ec ?rR H' HZ (addL m lf ?gL)) ?uL ?EW (Wb A2 H'));{apply ?V #[ga,?im,B78,?dy];apply(?Jb ga ?im);have Ch2:?ab:=?Lc (Nv λ ?D5 ?zP ?D8=>Zt (σ=?An) (G ga=?Ia ?im) ((∀c r,c≠ga->H7 c=?j r->G c=?j r)) (G F=?NH HZ) (Ec ?rR G HZ ?AK) ?uL ?EW ?Ae);apply Tx (d:=ga) (o:=o) (kvs:=?im) Ch2 #[?hb,wu,cD,?h,Ab,?K4 (by rw[Aj n];show s78 _ _ e),by rw[Aj Av3];show hF8,#[?dh,?Bl],la.sub gr1.sub,?pq,?cR (ao7.same s78)] ?nB ?_ ?_;{apply ?M;let ?h3:=dd.2 i v hv;let ?xj:=la _ ?FB;apply ?D;cases z;show#[c1,?O,by rw[?Kr bA];show s8 _ _ hc1]};{rintro i kk x σ G hx C9;ext f;revert σ;apply Am6 ?_;intro A2 HZ cD xQ jF hFG ddG laG grG aoG Eg;let ?ev:=?dt;let hqm:=?dM;let ?oq:=Bt ?yo;let hat:?K5 ?gL:=E8 ?AU hqm;(let wl:HZ.length=lf.length:=by let:=ddG.1;rw[DX]at this;show this);apply ?M;obtain⟨v1,hv1⟩:∃v,HZ[?bK]?=?au:=?ct;let ?h3:=ddG.2 _ v1 hv1;apply ?D;(let A20:eX HZ q.1=?sp:=?Ms hv1);(let e0:(?AK).getD ?bK []=?sc:=dX _ _ λg hg z=>by let h1:=(Bt (?DX g (qm8 hg))).1;show LM ?AU hq g hg ?m);rw[e0]at hc1;let lc:=oth.L.lc k q.1 ?yo;(let ix:zF HZ.length q.1=?j ?bK:=by let:=Gu (l:=HZ.length) (i:=?bK) ?m;ext i3);(let qb:(0-q.2).natAbs<2 ^ gB j:=by rw[qq0,qb9,←ch.g.ok.val hqm];show hb.g _);apply#[?k,F,HZ,?i,?l hFG,A20,?k,ga,?jr,?h,?Kz xQ,?i,?g,c1,D,0-q.2,?sc,m,?h,hc1,jF _ _ B22 hD7,lc.ok.n,?qC,by let:=lc.ok.len;ext d,?m,λt ht=>Hq (m:=gB j) (n:=mB j) qb (?J9 ?BR ht hm.b) ?vP,λD' G1 n1 g1 d1=>?_];let hF1:=?Ig hFG;apply#[?k,F,HZ,q.1,?bK,?O,hF1,ix,?_];(let n7:?Lp H7 D':=by cases z:H7 D' with| none=>rfl| some r =>cases y:D'=ga;{rw[y,xQ]at n1;cases n1};rw[jF _ _ y z]at n1;cases n1);apply#[Zk A2 D',_,?g,by rw[Aj Av3.symm];show ?Ig xQ,?K4 ?_,?X,?sy,(?Kh grG.sub),?Lx aoG.same g1 d1];{rw[Aj λz=>by rw[z,nF]at e;cases e];show ?Ig (jF c r n e)};{rw[UQ hq,e0];apply Ec.set ((ddG.same g1).keep ?E5) ?h ?_ _;{rw[Aj λz=>by rw[z,hF1]at e;cases e];show e};rw[Aj λz=>by rw[z,hF1]at d1;cases d1];show d1};{rcases qm4 hv with h | rfl;{apply ?M;let ?zU:=laG v h;apply ?D;show ?zV};show#[D',?h,?cH]};rcases x with x | rfl;{show grG.new c x n};show n7};rintro σ G C9;revert σ;apply Am6 ?_;intro A2 HZ cD xQ jF hFG ddG laG grG aoG Eg;rw[Iv,qd0]at ddG;(let nA2:¬A2 ga:=λz=>by let:=grG.new ga z nA;rw[?o1]at this;cases this);apply#[xQ,?Hy #[A2,HZ,cD,?h,?G8,by rw[Aj Av3];show hFG,#[ddG.1,?Bl],laG,grG,aoG.put]];{cases z:c=ga;{subst z;rw[?o1]at e;cases e;show Ab};rw[?dZ];show jF c r z e};apply ?M;let ?h3:=ddG.2 i v hv;let ?xj:=laG _ ?FB;apply ?D;cases z;show#[c1,?O,by rw[?Kr nA2];show hc1]};apply Ai4 λA2 HZ cD H9 s79 hF9 dd9 la9 gr9 ao9=>?_;intro sq;let s9:=?ii s79;let B74:=s9 _ _ qW;apply ?J1 B74 (λB3 G5 z5 c5=>?_);apply#[?g,?af,λT2 hT2=>?_];let t6:?s G5 (?IL G5 T2 [?z B3,?z F]):=?Q hT2;let z6:=z5.trans t6;let w6:=s9.trans z6;show kq T2 A2 _ _ _ w6 #[B3,F,HZ,Ab,#[_,t6 _ _ c5,?pP w6 (gr1.trans gr9 s7) ((?yl) _ _ hR7) (((((pp.grow gr1).same s7).set hT7).grow gr9).same ?yl),ao9.same z6],z6 _ _ hF9,dd9.same z6,la9] (oth.added hsh Ce hj6 hk hp hm)
def I0:?I0 [?dP,?ep,?eU,?wj,?gx,?mp,?yX,?mK] ?mB Ww:=Bg
def LH[?J](F:?Hu ?t5 ?t5 Ww)[?I][?tE]:?Hp 3 ?mB ?z6:=by apply ?I8 I0;have#[hd,A,k,E5,?m3,?h,hO,oth,Ce,hk,hp,kq]:=h;ext tD;let c:=?m8;let l1:=c.r.ok.len;let l2:=c.g.ok.len;let l3:=c.f.ok.len;ext tQ;ext tG;ext lt;apply#[_,(Ad (Gb (?I2 ?AV ?C) (?IT (?L4 3 ?gk) (?O6 4 ?gk (?ND 5 ?gk (?L4 6 ?gk))))) (Ad (?Hw 7 ?gk ?zY) (Ad (Gb (?OP ?P (Aa (?Hs Gf Fx (Aa ?ft ?eE)) (?L5 (?Hs Gf Fx (Aa ?ft ?cM)) (?Hs Gf Fx (Aa ?ft ?ea))))) (?KW ?av ?C)) (?I4 (?M0 ?h1))))),?_];ext W;apply ?Ho (?Lq none/\?ah);ext H9;ext aR;apply ?Ho (?NZ ?xl);ext HA;apply ?Ho (?Lv ?xl (Fp A' H' ?eQ (WN p)));{apply ?bH;apply ND (K:=K) ?h ?B2 c.r.ok ?sl;apply ND (K:=K) ?h (?Mo (?bG g1)) c.g.ok λa2 G2 n2 g2 d2=>?_;apply ND (K:=K) ?h ((?IH ?bG g1 g2) _ _ e3) c.f.ok λa3 G3 n3 g3 d3=>?_;apply ?ma;let y3:=?nN;let y2:=?ha y3;let x3:=?cP y2;let uX:=?Gs;apply ?qs;apply ?Hy #[T,Zk A a1,?h,(?mD).turn nR,Ab,?l0 ?qM,?Lx ?gg ?mD ?he,?_];show(?ge (p:=WN p) qY ?he (y3 _ _ d2) (g4 _ _ d3) ?cH (λz=>by ext i9;{show ao.out (?fi ?v5) z};rw[z,d1]at n2;cases n2)).put uX};ext Ha;let B77:=?II qW;apply ?J1 B77 ?xo;let w5:=?bL z5;show ?Mq #[_,c5,?L1 hR2 (((?FD (s2)).set hT2).same z5),?hC z5] (oth.signed Ce hk hp)
def N3:?I0 [?dP,?ep,?eU,?jB,?gi,?mK,?ik,"_law_two"] ?oX Wx:=Bg
def lI[?J](F:?Hu ?ry ?ry Wx)[?I][?tE]:?Hp 3 ?oX ?A8:=by apply ?I8 N3;have#[hd,A,k,E5,ot,n,?m3,p2,?h,hO,oth,hxj,hn,hk,hp,hp2,kq]:=h;have ?uZ:=hxj;ext tD;have#[v2,hv2,?Hm,f1,f2,f3,aA2,bA2]:=pp.at hp2;let c:=?m8;let c2:=?sT _ _ hk p2 ?DU;let l1:=c.r.ok.len;let l2:=c.g.ok.len;let l3:=c2.r.ok.len;let l4:=c2.g.ok.len;ext tQ;let ol:=(?br hv2).1;ext tG;ext lt;apply#[_,(Ad (?Hw 5 N3.nd ?zY) (Ad (?Hw 6 N3.nd (?LT ?aQ ?C)) (Ad (?Hw 7 N3.nd (?LT ?aQ ?P)) (Ad (Ci (?bW (Pt (?NL Eh ?C ?P) (Pt (?IC Ja ?fP) (Q0 (?IC Ja ?ij))))) (?I4 ?x) Bm) (Ad (Gb (?OU Ah (?Hs Gf ?fP (?L5 ?a5 ?ij)) (Aa ?fP ?GU)) (?KW ?aQ ?C)) (?OO (Gb (?OU Ah ?ij (Aa (?Hs Gf ?ij (Aa ?A3 ?Bc)) ?GU)) (?KW ?aQ ?P)) (?M0 ?cM))))))),?_];ext W;apply ?Ho (?NZ (σ'=[?aj,?aO,?b8,?rC,?dr,?dc,none,none]));ext HA;apply ?Ho (?Ls none/\?k9);{show(?KS hv)};ext aR;apply ?Ho (?kz/\?k9);{show(?KS hv2)};ext aR;let back:=kq hd A hs H1 s1 (λ_ h=>h) #[lu,?IX qW,bb.same s1,?gg s1] oth.up;apply ?Ho (Ds ?kz ?k9 ?vz ?f6 ?yH);{apply ?xb;apply ?aa;{show ?DN};(let h1:?vz:=λz=>by subst z;simp at h1);apply ?xh;apply ?oM;{show ?DN};(let h2:?f6:=?eu);apply#[?g,t2,_,?i,?Hv s1 et2,?O,?g,?_];apply ?p9;{show ?Eq};(let h3:?yH:=?gm);show ?Hy #[?O,h1,h2,h3]};apply Bb0 λhne z1 z2=>?_;intro sq;apply ?Ho (?Lv ?kz ?zw);{apply#[?g,t,_,?i,?iZ,?h,?k,t2,_,?i,?Hv s1 et2,?h,ra,ra2,n,Qo p,Qo p2,?h,?B2,?IX f1,c.r.ok.n,c2.r.ok.n,?K,?wx,?sl];apply#[?g,t,_,?i,?Hv g1 ?CQ,?h,?KQ ?_];apply ?ma;let x3:=?IH ?cP q1 g4;let uX:=?Gs;apply ?qs;let o1:?IY a1:=?qM;let y2:=q1.trans g4;let sx:=?mD;apply ?Hy #[T,Zk A a1,?h,?H6,Ab,?l0 o1,?Lx ?gg sx ?he,?_];show(?ge (p:=?CI) qY ?he (?Mo sx) ?A4 ?cH (λz=>by ext i9;{show bA z};rw[z,o1]at e2;cases e2)).put uX};ext Ha;(let nb:¬A' ga2:=λz=>by let:=gr.new _ z bA2;rw[this]at f2;cases f2);apply ?Ho (Ex λ(T2:Addr)=>Kb ?kz ?a4 (?LD R ((?zQ).set ot ?sK)) ?nI ?zw (Fp A' H' ?sK ?Fa));{apply#[?g,t2,_,?i,?Hv s2 et2,?h,?g,t2,_,?i,?Hv s2 et2,?h,?g,?i,?g,t,_,?i,?Hv s2 et,?h,ga2,ga,0-n,Ft p2,?gL,?h,?II f2,?II e2,c2.g.ok.n,c.g.ok.n,?K,?wx,?sl];apply ?KQ ?_;apply ?pI ?af λT2 G4 hT g4 qY=>?_;let x3:=?IH ?cP q1 g4;let uX:=x3 _ _ hR2;apply#[?k,R,_,?qf,ot,?O,uX,Gu (by rw[qf1];show ol),?_];let y2:=q1.trans g4;let sx:=?bL x3;apply ?Hy #[T2,?h,?H6,Ab,?cR (?hC x3),(hT2.same x3).put uX,?_];show(?ge (p:=?Fa) qY (sx _ _ f1) ?he ?A4 (?oR _ aA2) (uQ.out n1)).put uX};apply Aj1 λT2 H3 s3 hR3 ao3 hT3 qY=>?_;intro sq;let B76:=?Is qW;apply ?J1 B76 ?xo;let w5:=?fm z5;show ?Mq #[_,c5,?L1 hR3 ((((?FD s3).set hT3).set qY).same z5),ao3.same z5] (oth.joined hk hne hp hp2 n hn z1 z2)
def PZ:?I0 ?hc ?er NR:=Bg
def Ab5[?J](F:?Hu ?p8 ?p8 NR)[?I][?i5](Re:?Hx "faces_agree" [?a7,?og] Sh)[?HK]:?Hp 4 ?er ?BI:=by apply ?I8 PZ;let#[a,th,d,xs,?a3,hd,k]:=h;let#[EX,EW,EM]:=T.x_FACE_COUNTS;ext e5;apply#[_,(Ad (?I6 (?Ma ?ri ?F ?GK) (Q0 (?Mh ?lj (Mo (v:=?z EX) ?o EW ?h)))) (Ad (?Hw 2 PZ.nd ?v9) (Ad (?Nw (Bu (N':=["face",?a7,"level"]) (cap:=[none,?e9,?gR]) ?o ?aA (?I9 Yr ?F) (?Ht (?L4 0 Bg1)) ?aH (?Ht (?OV Dx (?OZ ?F ?x (?OR Gq ?C)))))) (?I4 (?NY Yi ?C (?LA Re ?bl)))))),?_];ext W;apply#[?g,_,_,d,?h,?mG,hd,?g,?_];cases d with| non=>ext i7| bl b=>ext i7| int i=>ext i7| str z=>ext i7| lst es=>ext i7| tup ds =>let#[pa,?a9,hq,r]:=id hd;let ul:?IU ds.length:=r.length;apply ?JY (by simp[TR]);apply#[?g,pa,?a9,?V hq,?nP,F4 [0,2,3,4],?h,?V #[_,?g,EM H,Kj.mpr ?h],(by rw[j4];decide),?g,?_];rw[ul];(let cnt:(! ?uw ?H5)=! ?ki:=by (let:?uw ?H5=?ki:=by simp only[F4,qc8,qr6,qo3,List.any_nil,eqD,jO];rw[qn9];simp only[qt4,qz2,Bool.or_false];ext d);rw[this]);cases hc:?Mm ?ki;rotate_left;{(let hc':?Jr ?ki:=by simpa using hc);apply ?Jm (by rw[?c7,cnt,hc'];rfl);(let e2:?DK:=by rw[U2];simp[hc']);rw[e2]at k;show k H ?lf};apply ?JY (by rw[?c7,cnt,hc];simp);let hn4:ds.length<=4:=(Af4 hc).1;apply#[?g,_,ds,?h,?V hd,?_];apply(?IW pa ?qy);have Ch1:?aK:=λi ys τ H1=>Br ?gl ?g6 (ys=((ds.take i).map λe=>?bN ?wi)) (?IJ [o,?v,?LH ?jJ]);apply j5 (K:=K) (a:=pa) (xs:=us) Ch1 ?cd (?J6 (by ext gF;show s1.seqT hq)) ?_ ?_;{rintro i x ys τ H1 hx C9;revert τ;apply ?bS;intro s1 Eb hys o Eg;let hi:?Mb i:=?fh;let#[e,he,re]:=r.getV hx;apply#[?k,?g,?i,a,x,e,_,?f2,?cv,?a1 s1 re,?_];apply#[Eb,?bR (by rw[hys,qa5,qd1];ext d),?qT,?X,?g];rw[qd6,he,qb2,hys];rfl};rintro ys τ H1 ⟨s1,Eb,hys,_⟩;rw[ul,qd0]at hys;(let B44:ys=?Ja ds.map ?o0 ?bN:=by rw[hys,qk2];rfl);rw[B44]at Eb;apply#[D,?g,?lc,?g,?_];(let Bm7:(ds.map ?o0).all id=?qE:=?qt);cases ha:?Mm ?qE;rotate_left;{(let ha':?Jr ?qE:=by simpa using ha);apply ?Jm (by rw[Bm7,ha'];rfl);(let e2:?DK:=by rw[U2];rw[ha',hc];rfl);rw[e2]at k;show ?fM};apply ?JY (by rw[Bm7,ha];simp);(let e2:?Gf=(?n0 || Pb xs ?oT):=by rw[U2];rw[ha,hc];rfl);rw[e2]at k;ext tW;ext lv;{let h2:?Mm ?n0:=h1;rw[h2]at k;show ?fM};(let h2:?Jr ?n0:=?aD);rw[h2]at k;let hint:=mO ha;(let tv:TI K H1 (?z pa) ?oT:=by let:=?a1 s1 hd;rw[hint]at this;show this);apply#[?k,a,_,xs,?oT,?h,?cv,tv,by simpa using hn4,?_,?fM];intro f hf;rw[qd4]at ha;(let hm:L2.D.int f∈ds:=by rw[hint];show qd2.mpr #[f,hf,?h]);let:=ha _ hm;simp only[Et,qb7,qq9]at this;let#[#[f0,f1],f2]:=this;apply#[f0,f1,?_];rw[qa5];rw[JA,JA]at f2;(let h3:¬?jJ<2:=?eu);rw[JA]at h3;ext d
def NL:?I0 ?kW ?kW Z6:=Bg
def oA[?J](F:?Hu ?oE ?oE Z6)[?I][?HK][?ls]:?Hp 4 ?kW ?B8:=by apply ?I8 NL;let#[a,xs,k,p,n,?a3,kq]:=h;apply(?NI (Nf (?Hs Dx ?x ?us) (Nf (?LA Fe ?eW) (Lq (?Lw Ja ?P)))) ?_);apply#[?k,?g,a,?u p,?u p,k,xs,?a3,?h,?g,?_];ext tY;{apply#[?g,_,?u n,?O,?g,?_];apply ?ip;apply ?Ax;(let e2:?yd=! ?KK n:=by unfold K9;rw[e];cases z:n=0;{subst z;simp};simp[z]);rw[e2]at kq;show kq};(let e2:?Jr ?yd:=by unfold K9;simp[e]);rw[e2]at kq;show kq
def Fh:?I0 [?aZ,"i","first","j","at","quotient"] ?mq Hw:=Bg
def S9[?J](F:?Hu ?E2 "Stairs.shrink_row" Hw)[?I][?tF]:?Hp 4 ?mq ?Eh:=by apply ?I8 Fh;have#[?e2,cnt,s,i,f,?c0,hi,hf,hif,hds,ok,k]:=h;have ?lT:=x.sm;have ?h6:=x.ex;ext tV;apply#[_,(Ag (Ch qb8 ?h (fU ?o ?bZ (?L5 ?C ?hG)) (?L4 3 Fh.nd) (Ad (?Hw 4 Fh.nd ?yg) (?OS (?LV 5 Fh.nd (Be Jt (?I2 ?dH ?a5) (?I2 ?yg ?a5))) (Ci (?IC Ja ?aQ) (?IE Dj (?N3 (?OU Q4 ?F (?L5 ?P (L8 Hr ?aQ))))) Bm))))),?_];apply#[?k,?aW,?g,?gC,q,?g,?w ?sH,(f:Int),(cnt:Int),?od,?bz];rw[?Ib ((((cnt:Nat):Int)-?yP).toNat=cnt-f)];clear lx hp l1 l2 l3 l4 l5;apply De (lo:=(f:Int)) (n:=cnt-f) (λd σ G=>Nv λo3 o4 o5=>σ=[?a2,?cX,iS f,o3,o4,o5]/\?ID G cnt ?iS) #[?Y,?aS,x] ?_ ?_;{rintro d σ G hd C9;revert σ;apply Am8 ?_;intro o3 o4 o5 y Eg;apply ?M;let ?h6:=y.ex;let ?dF:=lx.ob;let ?eK:=lx.rw;let ?tk:=hds ?ch ?m ?m;apply ?D;let bo:=?GI;let ej:?yP+?A9=((?yC:Nat):Int):=?m;rw[ej];let hji:?ch≠i:=?m;let er:(?iS).1 ?ch=s.1 ?ch:=BP t i f s d _ hji;apply ?M;let ?s7:=?eC;let#[cj,_,ecj,_,hcj]:=?NM ?kQ (?I3 (?ch<n));apply ?D;rw[er]at hcj;apply(?KM ?mX ?km);apply#[?g,?aW,?g,hp,?bx,?g,r,_,?i,?dC,?gM,?g,ci,_,?i,TY,?ic,?g,?aW,?g,hp,?bx,?g,r,_,?i,?dC,Bi ecj,?g,cj,_,?i,hcj,?ic,?i,?ua,?_];let hsx:∀G',?Jn (?xp i ?ch (-?kK) ?iS)->?Jn (?pv t i f s (d+1)):=λG' z=>z.re (by rw[Lat.shrS,er]);let hq:(?kK).natAbs<2 ^ big:=Lat.fdiv_small h2 (?fj i _ hi h1);apply ?OE (?NO (σ'=[?a2,?cX,iS f,?j ?Fs,?LH (((?nk:Nat):Int)),?LH ?kK]/\G=H')) (by rw[←?wG];rfl);rintro _ _ ⟨rfl,rfl⟩;generalize ?kK=qq at hsx hq;apply ?bP;apply ?np;{apply#[?g,?i8,?k,?k,?af,?nR];let s1:?s G ?pU:=?gT;let hT:?It ?pU ?DY:=?jz;generalize ?pU=G1 at s1 hT;apply#[?Hk,?DY,?h,?cH,?nH,hT,#[hi,?m,λz=>hji z.symm,?JX (by rw[qb9];show hq) (?fj _ _ ?m hc)],#[?m,hi,hji,?JX (by rw[qb9,qb9];show hq) (bo.2 _ _ hi hc)],?K,?jt];show#[_,_,?g,hsx _ (?Mv y.redo z)]};(let h5:qq=0:=?kk);subst h5;show#[_,_,?g,hsx _ (y.re (Lat.addS_zero _ _ _).symm)]};ext i6;apply Am8 ?_;intro o3 o4 o5 y Eg;show k _ y
def Kw:?I0 [?aZ,"i","j",?eV,?cS,?f5] ?ru Qw:=Bg
def ER[?J](F:?Hu "share" "Work.share" Qw)[?I](Mr:?tx)(O6:?Aq):?Hp 4 ?ru ?yu:=by apply ?I8 Kw;have#[?e1,m,i,j,l,r,f,?c0,hij,hj,mn,mw,ok,k1,k2]:=h;have ?iM:=x.sm;ext tJ;ext tR;have#[p1,p1']:=ok.p1;have#[p2,eN]:=ok.p2;apply#[_,(Ad (?Hw 3 Kw.nd ?dH) (Ad (?Hw 4 Kw.nd ?eG) (Ag (Ci (?IC Ja (Be Fy ?a5 ?P)) (Ad (?Iu ?F (Aa ?C ?hZ)) (Ad (?Hw 5 Kw.nd (Eu ?ao ?cO O6 hr (Aa ?F ?tq))) (Ad (?Iu ?C (?L5 ?F (?Nq (Be Js ?cr ?a5)))) (?OS (Gb ?cr ?mI) (Gb (?MA Js ?D9) ?m4))))) Bm)))),?_];ext W;apply(?Ir (show i<m by ext d));apply(?Ir hj);apply ?IK (?N6 none);ext aR;apply#[?k,?i,p1,?h,?g,?_];ext lv;rotate_left;{(let h2:?cw%?cB=0:=?aD);show k1 (qv7 h2)};ext W;have#[dl,fl,hL,?B,m4,_]:=lx.ob;apply ?Ho (σ'=(?N6 none)/\∃r1 b1,?LE H' ?ir r/\LX H' ?A L r1 b1 ?Y n n ?ir ?nV/\?M2 r/\?Lp H0 r1/\?Lp H0 b1);{apply#[?g,?dL,?g,hpa,?f0,l3a,L,dl,fl,?a3,?tz,?k,?af,?nR];let s1:?s H ?rH:=?gT;let hT:?It ?rH ?BL:=?jz;generalize ?rH=G1 at s1 hT;apply#[L,?dD,?A,r1,b1,_,n,n,l,_,?BL,?h,?cp,?nH,hT,?y0,?y0,?K,?jt];let ?u8:=x.left lx ly f3 f4 s1 sx n1 n2 z;show ?Hy #[?h,r',b',y1,z,y2,?mm n1,?mm n2]};ext ta;have#[r1',b1',x2,lx2,ly2,f1',f2']:=jV;have#[tvb,dxb,fsb,hpb,l1b,l2b,l3b,l4b,l5b,l6b,l7b,_]:=x2.ob;have#[dr,fr,hR,?B,m5,_]:=ly2.ob;apply ?q (λσ' H'=>Xs λ ?Cd (g a b:Int)=>Kb ?nT (?qQ ?cB ?cw g a b) ?oI (?LE H' ?ir ?k6) (?M9 L ?ir) (?M2 ?k6)) ?r ?_;{apply#[?g,p,?S,dxb,fsb,?g,hpb,?ag,?hU,l4b,R,dr,fr,?h,hR,?EJ,?k,?k,?_];apply#[R,?A,r2,b2,_,w,w,i,j,?cB,?cw,r,?g,?cp,ly2,?K,?K,?m,p1,p2,p1',eN,ok.br,λP g a b G fr kp hT sh z=>?_];let ?u8:=x2.right lx2 ly2 f1' f2' f3 f4 fr kp z;show ?Hy #[P,g,a,b,?h,sh,hT,y1,y2,z]};apply Ba4 λP g a b H3 sh hT3 x3 lx3 ly3=>?_;intro sq;have ?qP:=x3.ob;have#[dl3,fl3,hL3,?B,m6,_]:=lx3.ob;let g0:=sh.pos;let lg:?DB:=qc1 ?H2 p1';let lb:b.natAbs<L9:=qc1 sh.lb p1';ext HZ;let ek:∀z:Int,z.fdiv g=z / g:=λz=>?qV;let lk':(?Ea).natAbs<2 ^ 18000:=?KV (B27 lb eN);apply ?Ho (Ee ?nT ?oI (?LE H' ?G2 ?k6));{apply#[?g,p,?S,dxc,fsc,?g,xN,?f0,l3c,L,dl3,fl3,?h,hL3,?Ky m6,?k,?g,P,_,?i,hT3,?h,?g,?i,iY lb eN,?g,P,_,?i,hT3,?h,?i,cb _,?g,?af,?_];rw[ek];intro T1 hT1;let s1:?s H3 ?ph:=?gT;let hT:?It ?ph ?AW:=?jz;generalize ?ph=G1 at s1 hT;apply#[L,?dD,?A,r1',b1',_,n,n,_,_,?AW,?h,?cp,lx3.keep s1,hT,#[?K,?m,?JX (by rw[qb9];show lk') (ok.bl.2.1 _ _ ?m hc)],#[?K,?m,?JX (by rw[qb9,qb9];show lk') (ok.bl.2.2 _ _ ?m hc)],?K,?jt];let#[y1,_]:=x3.left lx3 ly3 f3 f4 s1 sx n1 n2 z;show ?Hy #[?h,pW (s1.seqT hT3) (s1 _ _ hL3) sx,y1]};apply EY λH4 qY x4=>?_;intro sq;have#[tvd,dxd,fsd,hpd,l1d,l2d,l3d,l4d,l5d,l6d,l7d,_]:=x4.ob;apply#[?g,P,_,?i,qY,?h,?g,p,?S,dxd,fsd,?g,hpd,?e6,l5d,?g,nm,_,_,i,?O,x4.nu,Gu ?jC,?_];let e1:?Gb=?JU ?rd:=vO ?m;let x5:=x4.num (ns':=?rd);rw[←e1]at x5;let hT5:SqT K (?p H4 nm (?L ?Gb)) P ?x1:=Bd0 qY x4.nu;apply Iz (?NO (Ee ?nT ?oI (WX K ?A ?S H0 H' p L R nm n w ?Y ?G2 ?k6 ?rd))) ?_ λTm=>Tm _ _ #[?h,hT5,x5];apply EY λH6 hT6 x6=>?_;intro sq;have#[tve,dxe,fse,hpe,l1e,l2e,l3e,l4e,l5e,l6e,l7e,_]:=x6.ob;let lA:(?cB / g).natAbs<L9:=?KV p1';apply#[?k,P,_,?i,hT6,?h,?i,cb _,?g,?i,(by rw[ek];show iY lA eN),?g,p,?S,dxe,fse,?g,hpe,?e6,l5e,?g,nm,_,_,j,?O,x6.nu,Gu (by rw[Bw];show hj),?_];rw[ek];(let e2:(VI m ?Fk).set j (?u (?cB / g*?cw))=?JU ?wu:=by rw[vO hj];exact VI m _=VI m _;apply Uh ?yI;unfold shF Lat.put2;cases z1:c=j;{subst z1;rw[?c7,?iw,?c7]};rw[?am z1];cases z2:c=i;{rw[?bm z2,?bm z2]};rw[?am z2,?am z2,?am z1]);let x7:=x6.num (ns':=?wu);rw[←e2]at x7;show k2 g a b _ sh x7
def Dl:?G [?a7,"k",?f5,?nj,?sO,?jS,?bE,?hl,"turned_loops","turned_gauges","fillings",?d7,"i",?as,?so,?q8] ?ow (An Wk):=Bg
def LA[?J](F:?Hu ?nc ?nc Wk)[?I][?HT][?i4][?i2](P7:?I7 ?t7 ?lW ?CW):?Hp 4 ?ow ?CF:=by apply ?I8 Dl;have#[a,?tc,vl,vg,xs,k,z,k0,w,L,G,f,l,r,?a3,Ce,hw,hvl,hvg,x,hz,hkz,hkw,hf0,bl1,bl2,bL,bG,kq]:=h;have#[la,lu,?h,hlq,A04,_]:=J6 hvl;have#[ga,gu,?h,?B]:=J6 hvg;let hm:?c3<=40:=?jq;(let hwl:w<=40:=by rw[hw];show ?jq);apply#[_,(Ad (?Hw 5 ?c5 (?LC ?eW)) (Ad (?Hw 6 ?c5 (?LC (?N3 ?qO))) (Ad (?Hw 7 ?c5 (Be ?dB ?d9 (Be wG ?wT (Be Gq ?aQ ?AC)))) (Ad (?ON 8 ?c5 (?LA Nm (?Nt ?cM ?P ?ea))) (Ad (?LV 9 ?c5 (?Hs Nm ?d9 (Aa ?a5 ?ea))) (Ad (?LV 10 ?c5 (?Hs Dp ?d9 (?N3 ?AC))) (Ad (?Hw 11 ?c5 ?di) (Ad (Ch qb8 ?h (?Io Mn ?hD ?h1) (?Hq 12 ?c5 (?L4 13 ?c5)) (Ad (?ON 14 ?c5 (Pz (?IC Eh ?mC) Fx (?O8 ?iW ?fs))) (Ad (?ON 15 ?c5 (?O8 ?F ?bd)) (Ag (?OY ?bn (?OP ?mC (?OZ ?t9 (?OV P7 (?Nv ?x ?F (Aa (?I2 ?cx ?gU) Ac))) ?Fm))))))) (?I4 ?bn))))))))),?_];ext W;apply ?Ho (?NN none none/\?ah);{apply ?AQ;rw[A04];show ?bf};ext aR;apply ?Ho (?NN ?dA none/\?a4);{apply#[?k,a,k,xs,?a3,?m,?yS];apply ?rh;rw[qa5];show ?jy};ext g9;apply ?Ho (Ex λ(nn:Addr)=>Ee (?NN ?dA ?df) ?a4 (?LD nn ?zG));{let x1:=?fD s1;apply#[?g,tp,_,?i,x1.tup,?h,?af,λl1 hl1=>?_];let s2:?MC ?vr:=?Q hl1;let e2:?p H1 l1 ?lA l1=?j ?lA:=Ab;generalize ?vr=H2 at s2 e2;let x2:=x1.same s2;apply#[?k,tp,_,?i,x2.tup,?h,nm,?g,?w x2.num,?i,l1,?i,e2,?cL,λl2 hl2=>?_];{rw[Bw];ext d};{rw[Bw];ext d};{rw[Bw];show ?mM};(let er:(?cK (?rT-(((VI k0 f).length:Nat):Int)).toNat [?hI]).flatten=?D3:=by rw[Bw,?Ib ((?rT-?iP).toNat=z-k0)];generalize z-k0=n;induction n with| zero=>rfl| succ n ih=>rw[qk4,qm9,ih];rfl);rw[er];let s3:=?bL (?Q (o:=?L ?D3) hl2);let x3:=x1.same s3;apply#[nm,l2,?i,x3.num,?bT,Bx (by rw[Bw,qi1];ext d),λnn hnn=>?_];apply ?Hy #[nn,?h,(?qX).trans (?Q hnn),?_];rw[Ab,OD hkz]};apply Xx λnn H2 s2 hnn=>?_;intro sq;apply ?Ho (Ex λ(tl:Addr)=>Ee (σ'=(?L7 ?dA ?df ?ei)) ?hN (?Lg H' tl (dT z ?c3 (?jK z l.2 L))));{let x2:=?fD s2;apply#[?g,tp,_,?i,x2.tup,?h,?g,?h9,z,z,?g,x2.lback,?K,λF as H3 hal R3=>?_];apply#[?k,?z F,?rV,z,z,?c3,_,?g,?qj,?a1 ?yE hvl,?K,?m,?Ix bl2 bL,λtl at_ H4 qU R4=>?_];show ?Hy #[tl,?h,R3.same.trans ?qY,R4.rep qU]};apply Xx λtl H3 s3 qU=>?_;intro sq;let zE:=?ds;apply ?Ho (Ex λ(tg:Addr)=>Ee (?NT none none) ?DI (?Lg H' tg (dT z ?c3 (?jK z l.1 G))));{let x3:=?fD zE;apply#[?g,tp,_,?i,?op,?h,?k,?z r1,?lo,z,z,?c3,_,?g,x3.left,?a1 zE hvg,?K,?m,?Ix bl1 bG,λtg at_ H4 htg R4=>?_];show ?Hy #[tg,?h,?qY,R4.rep htg]};apply Xx λtg H4 s4 htg=>?_;intro sq;let UT:=?s3 s4;apply ?Ho (Ex λ(fi:Addr)=>Ee (?NT ?gz none) ?pk (?Lg H' fi (dT w w r.1)));{let x4:=?fD UT;apply ?M;let#[_,du,ez,hdq,B80,_]:=J6 ?AA;apply ?D;cases ez;apply#[?g,tp,_,?i,?sY,?h,?g,tp,_,?i,?sY,?h,D2,du,?h,?w hdq,?_];rw[B80];apply#[?dU,w,w,?g,?AA,?K,λfi at_ H5 hfi R5=>?_];show ?Hy #[fi,?h,R5.same,R5.rep hfi]};apply Xx λfi H5 s5 hfi=>?_;intro sq;apply ?Ho (Ex λ ?cQ=>Br (?NT ?gz ?aC) ?hq (?Lp H5 D) ?BA);ext HS;apply Iy λD H6 s6 nD hD=>?_;intro sq;let s25:=UT.trans s5;let Bj5:=(?j3 s5) _ _ hnn;let B48:=?a1 ?pK qU;let B49:=?a1 s5 htg;let hL5:=?JT s25;apply ?Ho (EC λ ?t4 ?yh=>Br (σ'=?De) ?hq (?c9=?dl) (Cd H' us (?Lj Cf k)));{apply#[?g,nn,?h,(?MP s6 Bj5),?_];have Ch0:?ab:=λi σ G'=>EC λ ?t4 ?yh=>Br (σ=?De) (?s H5 G') (G' D=?dl) (Cd G' us (?jl (?Lj Cw k)));apply Y0 (K:=K) (a:=nn) (xs:=?zG) Ch0 #[[],?Y,?Y,?aS,s6,hD,trivial] (λi σ G' _ hz=>?N8 ?y4 g Bj5) ?_ ?_;{rintro i v σ G' p hv C9 hp;ext f;revert σ;apply ?j9;intro us CC o13 fV o15 g Cu rU Eg;(let hi:i<z:=by let:=?cy;rwa [Bw]at this);rw[C6 hi]at hv;cases hv;(let ZC:?IU i:=by let:=rU.len;rw[qa5,ql4]at this;show this);let sp:?s G' ?yU:=?ca;let ep:?Kt G' ?r5 ?r5:=Ab;apply(?IR p (?l ep));generalize ?yU=G1 at sp ep;let g1:=?rK;(let rows:∀(t:Addr) (h w':Nat) (M:Lat.Mat) (G2:Hp),Rep K G2 ?s1 (dT h w' M)->i<h->∃tu b,SqL K G2 t tu/\eX tu ?aw=?j ?mL/\SqL K G2 b (VI w' (M i)):=λt h w' M G2 hr hih=>by have#[_,tu,ez,hq,hl,Kl]:=J6 hr;cases ez;ext gB;obtain⟨u,hu⟩:∃u,?Kb tu u:=#[tu[i],?on];let ?Ft:=Kl i u hu;apply ?D;show#[tu,b,hq,Bi hu,hb]);apply ?Ho (Ex λ(fl:Addr)=>Ee (?LR o15) ?je (?N9 fl (if ?kg=0 then [] else Ji xs (k+1) ?Ce)));{apply ?bP;apply ?aa;{(let e0:?kg=0:=?aD);apply λfl hfl=>?Hy #[fl,?h,?Q hfl,?_];rw[Ab,?bm e0];rfl};(let e0:¬?kg=0:=?aD);(let hik:i<k0:=by cases hh:i<k0;{show hh};unfold Lat.numAt at e0;rw[?am hh]at e0;show ?de ?h e0);apply ?M;let ?mJ:=rows fi w w r.1 G1 (?a1 g1 hfi) ?m;apply ?D;apply#[?k,?i,?k,fi,tu,?i,h1q,h2q,?ba,k+1,Jh w ?Ce,?h,?a1 g1 hL5,?m,?rz,by rw[Jv,hw],λfl G2 nfl g2 hfl=>?_];apply ?Hy #[fl,?h,g2,?_];rw[hfl,?am e0,hw];rfl};apply Xx λfl G2 g2 hfl=>?_;intro sq;let uY:=?cG;apply ?Ho (Ex λ(lp:Addr)=>Ee (?LR (rS lp)) (?Ly G2) (?N9 lp (Ji xs k ?Gj)));{apply ?M;let ?mJ:=rows tl z ?c3 _ G2 (?a1 uY B48) hi;apply ?D;apply#[?k,?k,tl,tu,?i,h1q,h2q,?ba,k,Jh ?c3 ?Gj,?h,?a1 uY hL5,?m,?rz,?AI,λlp G3 nlp g3 hlp=>?_];show ?Hy #[lp,?h,g3,hlp]};apply Xx λlp G3 g3 hlp=>?_;intro sq;let g13:=uY.trans g3;let Bd3:=?IQ ?ko g3;apply ?M;let ?mJ:=rows tg z ?c3 _ G3 (?a1 g13 B49) hi;apply ?D;apply#[?g,?w #[?T,?Hv Bd3 Cu],?k,?k,?k,tg,tu,?i,h1q,h2q,?ba,k,Jh ?c3 (?jK z l.1 G i),?h,?a1 g13 hL5,?m,?rz,?AI,λgp G4 ngp g4 hgp=>?_];apply#[?g,?af,?y7];let g5:=?Q (o:=?lL) ht;let et:?p G4 t ?lL t=?j ?lL:=Ab;generalize ?p G4 t ?lL=G5 at g5 et;let g45:=?jp;let s05:=Bd3.trans g45;apply#[D,?i,?kx,?b2,?_];let hP:Ka G5 ?s1 (Cw xs k z k0 L G f l r i):=#[t,lp,gp,fl,?h,et,g45 _ _ hlp,g5 _ _ hgp,(?hV g45) _ _ hfl,(Aq (g3 _ _ hfl) ngp).symm];(let nDt:∀c o,?w7->(∀vs,o≠?L vs)->?e8:=λc o e h z=>by rw[z,?kx]at e;cases e;show h _ ?h);(let sx:∀c o,?e8->?w7->?p G5 D (?L ?u9) c=?cJ:=λc o hc e=>?Jk hc);apply#[?u9,?B,?g,?Me ?ax s05 nD,?X];rw[qi6,qb2];show Cd.snoc (Cd.put ?kx (Cd.same s05 rU)) (Ka.put hP ?kx)};rintro σ G' C9;revert σ;apply ?j9;intro us CC o13 fV o15 g Cu rU Eg;rw[Bw]at rU;show ?Hy #[us,?B,?g,g,Cu,rU]};apply Ai3 λus CC o13 fV o15 H7 s7 hD7 rU=>?_;intro sq;show#[?g,kq D us H7 (s25.free nD) (s25.trans s7) hD7 rU]
def EK:?I0 ?kh ?kh Qz:=Bg
def eT[?J](F:?Hu ?da "Book.holes" Qz)[?I][?HW]:?Hp 4 ?kh ?w0:=by apply ?I8 EK;have#[p,k,?te,sB,hk0,tV,kq]:=h;have ?hj:=T.x_LEVELS;have#[dx,P,Lv,Lf,lu,wu,hp,_,hLv,hW,_,_]:=bk.ob;let#[E,eu,qs,e1,e2,hE,rE]:=hW.at (k:=k.toNat) (by let:=bk.n4;ext bv);rw[qa9]at e2;have#[ps,hps,?h]:=?d2 e2;let hpl:=(bk.lev _ _ hps).len bk.len;let nl:(Lr ps).length<=ps.length:=?vS;let el:=rE.len;(let hat:eX lu k=?j ?fA:=?Ll e1 ?E4);apply#[_,(Ad (B7 (?LA Hj ?vj)) (Ag (Bb (Bu (N':=["order",?q8,?nF,?so]) (cap:=[none,none,none,none]) ?o ?aA (?I9 B6 ?dH) (?Ht (Cq (K:=K) (n:=4) ?o (?O6 0 IW (Ba (?L4 1 IW) (?ND 2 IW (?L4 3 IW)))))) ?aH (?Ht (?OP ?x (?OZ (?LU ?ak) (?OW Fn ?bC) (?OW Fn ?eW)))))))),?_];ext W;apply#[?g,k,4,?h,hk0,tV,?_];apply#[?g,?gI,_,?g,sB _ _ hp,?e0,?zM,?h,?g,Lv,lu,?i,?Hv sB hLv,hat,E,?h,(?ME ?xB),?aM];have Cg9:?aK:=?Lh (Br ?db ?dJ (Gi H G ys ((Lr ps).take i)) (Xs λo1 o2 o3 o4=>τ=[o1,o2,o3,o4]));apply ?NW Cg9 #[?aT,?ye,?B,?g] (?L6 g ?xB);{rintro i v ys τ G hv C9;revert τ;apply Bh0 ?_;intro g Cu rY o1 o2 o3 o4 Eg;let hi:=?cy;apply ?M;let#[q,hq,pv]:=rE.get hv;let#[t,c1,c2,c3,?h,et,d1,d2,d3,_]:=pv.same (sB.trans g);apply ?D;(let yl:?l4:=by let:=rY.1;ext m2);apply ?za;apply#[?k,c1,?g,?w d1,λa1 h1=>?_];let g1:=?KL (q.2.1) h1;apply#[?g,c2,?g,?w (?Ig d2),λa2 h2=>?_];let g2:=?cP ?yT;apply#[?g,c3,?g,?Iq g2 d3,λa3 h3=>?_];let g2':=?yT;let g3':=?KL (q.2.2.2) h3;let g3:=?ha g3';apply#[?af,λt' ht'=>?_];let g4':=?Q (o:=?aG [?t0,?z a1,?z a2,?z a3]) ht';let g4:=?hV g4';apply#[?p6,?b2,?If g4,?X,?B,?g];rw[qd6,hq];apply Gi.snoc ((rY.same g4).put ?p6) (Ro.put ?_ ?p6);show#[t',a1,a2,a3,?h,#[(?ax g3).free ht',?qg h1,?L2 ?gQ h2,?L2 ?s5 h3],Ab,(?IH g2'.trans g3' g4') _ _ Ab,(g3'.trans g4') _ _ Ab,g4' _ _ Ab]};rintro ys τ G ⟨g,Cu,rY,_⟩;rw[el,qd0]at rY;show kq ps D ys G hps hD g Cu rY
def Du:?I0 [?eZ,?oN,?dx,?dP,?rE,?ep,"_law_many",?eU] ?q7 Jq:=Bg
def W6[?J](F:?Hu ?rL ?rL Jq)[?I](cW:?I7 ?oS ?om ?wl)(i9:?I7 ?ry ?oX ?A8)(i8:?I7 ?t5 ?mB ?z6):?Hp 4 ?q7 ?Gy:=by apply ?I8 Du;let#[a,t,c,Az,xs,hs,lf,j,?a3,hsh,hxj,hP,oth,kq]:=h;let#[hd,ld,wu,ht,hO,hld,dd,la]:=id hP;let ?wA:=id hO;ext lt;apply#[_,(Ad (Gb ?F (?Hq 3 ?hQ (?L4 4 ?hQ))) (Ad (?Hw 5 ?hQ (?NS ?C)) (Ad (?ON 6 ?hQ (?LC (?N3 (?I2 ?P ?aQ)))) (Ad (Ci (?IC Eh ?bI) ?r3 Bm) (Ad (?Hw 7 ?hQ ?BG) (Ad (Ci ?Di (?I4 (?OV cW (?Nv ?x ?P (Aa ?a5 (?N4 ?aQ ?av ?nC))))) Bm) (?OO (?LO ?Di (Bb (Di (Aa (?Hs i8 ?P (Aa ?aQ ?h1)) ?eE)))) (Di (Aa (?OV i9 (?Nv ?P ?aQ (?N4 ?av ?BG (Be Gq ?nC Ah)))) ?eE))))))))),?_];ext W;apply ?Ho (?Nh none);{show#[?g,t,?g,?l ht,?T,?g,?i,?bf]};ext aR;obtain⟨k,hk,tV⟩:∃k:Nat,c%4=?an/\k<4:=#[(c%4).toNat,?K];apply ?Ho (?Nh ?aO);{show#[?g,?i,?N,?Hy #[by rw[hk];rfl,?h]]};ext aR;obtain⟨ps,hps⟩:?CB:=#[_,qa0 (by rw[oth.L.n4];show tV)];let ?DL:=bb.at hps;let ZC:=pp.1;(let Cz9:?xi:=by let:=(oth.nx _ _ hps).1;ext d);apply ?Ho (?Be/\?ah);{show#[?k,hd,lu,?i,?nG,?hd,l,?a9,?w ?l2,?bf]};ext aR;apply ?Ho (Ee ?Be ?ah (?Mb 0));{apply ?bP;apply ?aa;{show#[?g,kq t Az hs lf H ?lf hP oth.up]};(let h1:¬?dX=0:=?aD);show ?Hy #[?O,?m]};apply Bb1 λhpos=>?_;intro sq;let pos':?c4<?dX:=?m;(obtain⟨E5,ha,hal⟩:∃E5:Nat,?kE%?dX=?rF/\?Mb E5:=?Ld ?kE ?kE ?kE);ext tB;{show#[?g,?i,?dW,?g,?i,pos',?Hy #[by rw[ha];rfl,?h]]};ext aR;obtain⟨p,hp⟩:∃p,ps[E5]?=?j p:=?ct;ext tB;{apply ?Dp;apply ?aa;{show#[?k,?k,?k,?i,?dW,?i,?N,a,hd,ld,Az,k,E5,_,xs,hs,lf,wu,j,ps,p,?a3,hsh,hxj,#[?no,?lS],hO,?Ck,oth,hps,hp,kq]};show ?bf};ext aR;(let fin:∀(D:Addr) (A':?fJ) (hs':?mP) (H':Hp),?a4->(∀c,Az c->A' c)->Pf A' H' D hs'->Xr xs hs' lf ?iy->Zs Q ?B7 H':=?M8 (by apply ?vV;let s2:?s H' (?IL H' T ?B7):=?lX;show kq T A' hs' lf _ (s.trans s2) #[D,ld,wu,Ab,hO'.same s2,?II (s _ _ hld),(?ef s).same s2,la.sub sub] WE));ext tB;{apply ?Dp;apply ?aa;{show#[?k,?g,hd,Az,k,E5,?m3,?h,hO,oth,hxj.1,hps,hp,?AY]};show ?bf};ext aR;(obtain⟨ot,ho,hol⟩:∃ot:Nat,?iY%?dX=?qf/\?Mb ot:=?Ld ?iY ?iY ?iY);obtain⟨p2,hp2⟩:∃p,ps[ot]?=?j p:=?ct;apply#[?k,?k,?i,?dW,?g,?i,pos',?g,?i,?dW,?i,?N,?i,?_];show#[hd,Az,k,E5,ot,c / 19200%201-100,?m3,p2,by rw[ho];rfl,hO,oth,hxj,?m,hps,hp,hp2,?AY]
def KQ:?I0 ?bc ?bc Ws:=Bg
def LF[?J](F:?Hu ?rt ?rt Ws)[?I](CU:?JB ?oE ?kW ?B8):?Hp 5 ?bc ?ET:=by apply ?I8 KQ;let#[?ba,k,ms,?a3,hb,hm,kq]:=h;apply#[_,(Ad (?OX Em (D8 (Av mJ ?ek B9 (?L5 ?C (?O2 "dict" ?dS Dz))))) (?OM (NU (Bu (N':=[?b0,?as,?a7,"k"]) (cap:=[none,none,?e9,?cT]) ?o ?aA (Nd ?C) (?Nu Al8 Al8) ?aH (?LP CU ?C (Aa ?P ?bl)))))),?_];ext W;apply(?MJ b (?w hb));ext lz;apply ?J4 ?ce hb;apply#[?g,b,o,?ce,?h,Ab,?aM];let#[UX,aM]:=CY hD;have Cg8:?aK:=?M7 (Ds (zs=?JL ms.take i ?Ew) (H1 b=?j ?iJ) ?sW (Qi b H H1) (?In [o1,o2,?v,?al]));apply Xj (d:=b) (o:=o) (kvs:=?ce) Cg8 #[?bM,?X,?aS] (λi zs τ H1 _ hz=>?Iz #[_,e,_]) ?_ ?_;{rw[?hR];show Ab};{intro c q n1 e2;rw[Aj (Aq e2 UX),?gs];show e2};{rintro i kk x zs τ H1 p hx C9 hp;revert τ;apply xC ?_;intro hz1 hb1 Eb hk1 o1 o2 Eg;subst hz1;let ?ev:=?dt;let hlt:?r2:=?hO;let sp:?K9 H1 H1 p:=?ca;apply ?ed;apply#[?k,?k,a,xs,k,q.1,q.2,?h,?a1 sp (?gP hk1 hb hL),?_];apply#[?oO,?mW,?c1,Ab,λc r n1 e2=>?_,_,?g];{rw[qo1,hq,qb2,qb2];rfl};{rw[?hR];show ?Jc hb1};rw[Aj (λz=>by rw[z,UX]at e2;cases e2)];show ?Jc (hk1 c r n1 e2)};rintro zs τ H1 ⟨rfl,hb1,Eb,hk1,_⟩;rw[Iv,qd0]at Eb;apply#[hb1,D,ms.map ?Ew,?h,?l ?yq,?_];rw[qr7];apply kq _ λc q e2=>?_;cases z:c=b;{subst z;rw[hb]at e2;cases e2;show Ab};rw[?dZ];show hk1 c q z e2
def Ll:?I0 [?hr,?b0,?fS] [?hr] Na:=Bg
def aK[?J](F:?Hu ?n5 ?n5 Na)[?I](XQ:?JB ?p8 ?er ?BI):?Hp 5 [?hr] ?F2:=by apply ?I8 Ll;let#[v,xs,?a3,hs,hx,k]:=h;let#[a,?a9,hq,r]:=?fB;(let hl:?wH:=?h7);apply(?OL (Ch qb8 ?h ?zf (?Hq 1 Ll.nd (?L4 2 Ll.nd)) (?Nx (?NJ XQ ?iF ?bC) ?r3)) (?I4 nU));ext W;apply#[?g,a,?h,#[us,hq],?_];have Cg7:?ab:=?Lc (Hm λo1 o2=>σ=[?v,o1,o2]/\?db);apply Y0 (K:=K) (a:=a) (xs:=us) Cg7 #[?aS,?lf] (?LJ (by let#[?B,s1]:=hz;show ?jZ)) ?_ ?_;{rintro i v σ G p hv C9 hp;ext f;revert σ;apply An0 ?_;intro o1 o2 s1 Eg;(let hi:?nq:=by let:=?cy;ext d);let ?nw:=r.getV hv;(let edv:dv=?BH:=by rw[qa9,?cZ]at QW;simpa using QW.symm);subst edv;let sp:?s G ?wc:=?ca;apply ?ed;generalize ?wc=G1 at sp;let s2:=?gW;apply#[?k,?g,a,?a9,?lm hq,?yI];let s3:?s G1 ?Ds:=?Q hc;let ec:?p G1 c ?ml c=?j ?ml:=Ab;generalize ?Ds=G2 at s3 ec;let s4:=?ds;(let A07:LT K G2 ?uQ ?Fb:=by apply#[c,?g,?l ec,?_];rw[T9,qo2];show(?ay s4 r).take i);apply#[?g,c,v,?BH,?Fb,?h,A07,?a1 s4 rv,λG3 s5=>?bH];rw[uD (hs i xs[i] ?cZ)];apply ?JY ?N;show#[_,?g,?pK]};ext i6;apply An0 ?_;intro o1 o2 s1 Eg;show k G s1
def Jl:?I0 [?aZ,?pr,"i","at","head",?cS] ?mu Os:=Bg
def cB[?J](F:?Hu "meet" "Stairs.meet" Os)[?I][?HE][?tF](Lz:?wV):?Hp 5 ?mu ?Cs:=by apply ?I8 Jl;have#[?e2,?a8,i,s,Nx,?c0,hs,hi,ok,k]:=h;have ?lT:=x.sm;have ?D6:=x.ex;ext tV;have ?eK:=lx.rw;have ?tk:=ok.hd ?a8 ?sa hs;have#[o1,o2]:=ok.oth;have ?s7:=?eC;have ?tw:=?NM ?kQ ?gt;apply#[_,(Ad (?Hw 3 Jl.nd ?dH) (Ad (?Hw 4 Jl.nd (?LT ?dH ?P)) (Ad (?Hw 5 Jl.nd (?LT ?eG ?P)) (Ad (Ci (?IC Eh (?MA Fy ?aQ)) (?IE Dj (?N3 (?OU Q4 ?C (?L5 ?F (L8 Hr (Be Jt ?aQ ?a5)))))) (Ad (B7 (Eu ?x ?aq Lz hr (?Nv ?F ?C ?B1))) ?vA)) (?IE Cv (Aa ?C ?r7)))))),?_];ext W;apply(?KM ?sH (?Mg hs));apply(?JC (Bi ecs) cs hcs);apply(?JC ?gM ci TY);apply ?OF ?ah ?BY;ext aR;apply ?MD (?ov/\∃s1,?ID H' i s1/\HV n W t i ?bO i s1/\Hds W t ?bO i s1.1/\Nx (?pv t i ?bO s1 (i-?bO)));{apply#[?k,?i,h2,?h,?g,?_];apply ?np;{(let h5:?fw%?fd=0:=?kk);let h6:?fw=?sv*?fd:=(qt2 (qv7 h5)).symm;let ?xX:=ok.add _ h6;apply#[?g,?i8,?k,?k,?i,?ua,?g,?af,?_];rw[?wG];let hk:?Jp ?sv:=?KV o2;generalize ?sv=kk at h6 WJ wJ hk;intro T1 hT1;let s1:?s H ?qe:=?gT;let hT:?It ?qe ?mE:=?jz;generalize ?qe=G1 at s1 hT;apply#[?Hk,?mE,?h,?cH,?nH,hT,#[hi,?K,?Mp (OG (by rw[qb9];show hk) (ok.bo.1 _ _ ?m hc))],#[?m,hi,?m,?Mp (OG (by rw[qb9,qb9];show hk) (ok.bo.2 _ _ hi hc))],?K,?jt];apply ?Hy #[?T,?Mv x.redo z,WJ,?y1,wJ];let e:(tnS ?mE s).1 j=?kb:=Lat.addR_row_ne ?Ex;rw[e];show ?E9};apply ?OF (∃g a c,?qQ ?fd ?fw g a c/\?ID H' i ?pQ) ?ff;rotate_left;{apply#[?g,?i8,?k,?k,?_];apply#[p,?U,r,b,_,n,W,?a8,i,_,_,s,?g,?cH,lx,?m,hi,?K,?m,h2,o1,h3,o2,ok.bo,λL g a c G fr kp _ sh z=>?_];show ?KG #[?h,g,a,c,sh,x.redo2 lx f1 f2 fr kp z]};apply K6 λG jV=>?_;intro sq;apply ?M;let#[g,a,c,sh,y]:=jV;let#[WJ,wJ,ok3]:=ok.ble g a c sh;(let hd1:Hds W t ?bO i (?pQ).1:=λj hj1 hj2=>by let e:(?pQ).1 j=?kb:=?Ba ?wU ?Ex _ _ _ _;rw[e];show ?E9);let ?Dj:=y.ex;let ?y2:=ly.ob;apply ?D;apply ?A6;apply#[?e2,i,_,?a8,?bO,?h,y,?K,?w ?m,hd1,WJ,?Ek];apply ?Hy #[?T,z,wJ,?y1,ok3];rw[BP _ _ _ _ _ _ ?wU];show hd1 j hj1 hj2};apply K6 λG jV=>?_;intro sq;have#[s1,y,WJ,hd1,wJ]:=jV;have ?Dj:=y.ex;have ?y2:=ly.ob;apply ?A6;show#[?e2,i,s1,i,?bO,?h,y,hi,?m,?V ?sa,hd1,WJ,λG' z=>k _ _ z wJ]
def Ps:?I0 ?ho ?bt Ln:=Bg
def c7[?J](F:?Hu ?xK "Stairs.shrink" Ln)[?I][?HE]:?Hp 5 ?bt ?GC:=by apply ?I8 Ps;let#[?e2,i,s,?c0,ok,k]:=h;let ?lT:=x.sm;let ?h6:=x.ex;let ?dF:=lx.ob;apply(?OK (Ch qb8 ?h (Aa3 ?o ?bZ (?N4 (Be Gq ?hG Ah) ?ft ?ft)) (?L4 1 Ps.nd) ?vA));apply#[?g,?aW,?g,?gC,q,?g,?w ?sH,?i,?k,?aX,?od,?bz];clear lx hp l1 l2 l3 l4 l5;have Cg6:?ab:=λd σ G=>Ex λo1=>σ=?vI/\?ID G ?aX ?GS;apply xU (hi:=((?aX:Nat):Int)-1) (n:=?aX) Cg6 ?FQ ?_ ?_;{rintro d σ G hd C9;ext f;revert σ;apply lU ?_;intro o1 y Eg;let ?h6:=y.ex;let ?dF:=lx.ob;rw[?Ib (((?aX:Nat):Int)-1-?A9=((i-d:Nat):Int))];let ?xX:=?GI;apply#[?g,?i8,?k,?i,?_];apply#[?e2,?aX,?GS,i-d,i-d+1,?h,y,?K,?w ?m,WJ,wJ,?Ek];rw[?I3 (?aX-(i-d+1)=d)]at z;show#[?g,z]};ext i6;apply lU ?_;intro o1 y Eg;show k _ y
def Dc:?I0 [?aZ,?jS,"gap","i","j"] ?bt Hv:=Bg
def S8[?J](F:?Hu ?xD "Work.put_in_order" Hv)[?I](Mq:Mu P w K mg ?n ?S "share" ?ru 4 ?yu):?Hp 5 ?bt ?ue:=by apply ?I8 Dc;have#[?e1,m,l,r,f,Sv,?c0,mn,mw,v0,vs,k]:=h;have#[pG,A45,VU]:=T.x_GAPS;have ?iM:=x.sm;ext tJ;apply#[_,(Ad (?Hw 1 ?k1 ?hG) (Ad (Ch qb8 ?h (?I9 Yr (Mo (v:=?z pG) ?o A45 ?h)) (?KX 2) (?OH (?Ic (?N3 (Be Gq ?F ?C))) (?Jx (?L5 ?P (Be C5 ?P ?C))))) (?OH ?GA (Ag (Ch qb8 ?h (fU ?o ?bZ (Aa ?kX ?ak)) (?KX 4) (?Jx ?sG)))))),?_];ext W;apply ?Ho (?Nb [?a2,?fC,none,none,none]);{show#[?g,?dL,?g,hpa,?e6,l5a,nm,?g,?w ?mU,?Hy #[by rw[qa5,Jv];rfl,?h]]};ext aR;apply ?Ho (Hm λ ?un=>σ'=(?ML o2)/\∃(d:Nat) (f:?g3) (l r:?dT),d<=5*m/\?lQ/\?LE H' l r);{apply#[pG,?h,#[_,VU H],?_];have Cg5:?ab:=λg σ' G=>Hm λ ?un=>?IA (?ML o2) (d<=g*m/\?zH);apply RA (K:=K) (a:=pG) (xs:=(([32,16,8,4,2]:?hn).map ?aF)) Cg5 #[?aS,0,?iE,v0,x] (λg σ G _ _=>VU G) ?_ ?_;{rintro g y σ G hy C9;ext f;apply ?M;let ?wK:=C9;(let hg:∃gp:Nat,y=?Ey/\1<=gp/\gp<=32/\g<5:=by match g,hy with| 0,hy=>cases hy;show#[32,?iA]| 1,hy=>cases hy;show#[16,?iA]| 2,hy=>cases hy;show#[8,?iA]| 3,hy=>cases hy;show#[4,?iA]| 4,hy=>cases hy;show#[2,?iA]| g+5,hy=>simp at hy);let#[gp,?h,g1,g2,g5]:=hg;apply ?D;apply#[?k,?i,?g,?K,?_];apply De (lo:=0) (n:=(?it-?zN).toNat) (λi σ' G=>Ex λ(o3:?lg)=>?IA (?ML (?j ?Ey)) (d<=g*m+i/\?zH)) #[o3,?h,?iC,z] ?_ ?_;{rintro i σ G hi ⟨o3,rfl,d,f,l,r,hd,hv,z⟩;rw[ql2];apply ?M;let ?qP:=z.ob;apply ?D;(let hm5:g*m+m<=5*m:=?Iy (show g+1<=5 from g5));apply#[?g,p,dxc,fsc,?h,xN,?CM,?k,?g,?i,?_];apply ?M;let ?G5:=?K1 (i+gp);apply ?D;apply(?JM (i+gp));{show#[?g,d+1,?iE,o2' QW,z]};show#[?g,d+1,?B,?m,?vZ,z']};rintro σ G ⟨o3,rfl,d,f,l,r,hd,hv,z⟩;apply#[_,?g,d,f,l,r,?_,hv,z];rw[qg5,qg4];ext d};rintro σ G ⟨o2,o3,rfl,d,f,l,r,hd,hv,z⟩;show ?Hy ?wK};apply Aj0 λo2 o3 G jV=>?_;intro sq;have#[?iC,z]:=jV;ext He;apply De (lo:=0) (n:=(?it).toNat) (λi σ' G=>Hm λ(o3 o4:?lg)=>?IA [?a2,?fC,o2,o3,o4] (d<=5*m+i*m/\?lQ/\?yw m i f/\?r1)) #[o3,?aI,d,?iE,hv,λa b ha=>?m,z] ?_ ?_;{rintro i σ G hi ⟨o3,o4,rfl,d,f,l,r,hd,hv,hc,z⟩;rw[qc4]at hi;rw[ql2];(let him:i*m+m<=m*m:=?Iy (show ?aX<=m from hi));apply#[?g,?i,?g,_,?g,#[?K,?K],?_];apply De (lo:=?sM) (n:=?uv) (λj σ' G=>Ex λ(o4:?lg)=>?IA [?a2,?fC,o2,?co,o4] (d<=5*m+i*m+j/\?lQ/\Lat.ChainAt m i ?lZ f/\?r1)) #[o4,?h,d,?iE,hv,hc.at,z] ?_ ?_;{rintro j σ G hj C9;ext f;apply ?M;let#[o4,?h,?iC,hc,z]:=C9;apply ?D;rw[?I3 (?sM+?jw=((?lZ:Nat):Int))];apply ?M;let ?qP:=z.ob;apply ?D;apply#[?g,p,dxc,fsc,?h,xN,?CM,?k,?_];apply ?M;let ?G5:=?K1 ?lZ;apply ?D;apply(?JM ?lZ);{show#[?g,d+1,?iE,o2' QW,hc.skip QW,z]};show#[?g,d+1,?B,?m,?vZ,hc.step ?m ?m sh.pair,z']};rintro σ G ⟨o4,rfl,d,f,l,r,hd,hv,hc,z⟩;rw[?I3 (?aX+?uv=m)]at hc;apply#[_,?g,d,f,l,r,?_,hv,hc.next,z];rw[qg5,qg4];ext d};rintro σ G ⟨o3,o4,rfl,d,f,l,r,hd,hv,hc,z⟩;rw[qc4]at hc;show k d f l r _ hv hc z
def Nw:?I0 ?kG ?kG Fm:=Bg
def Ny[?J](F:?Hu ?qU ?qU Fm)[?I][?tK]:?Hp 6 ?kG ?ts:=by apply ?I8 Nw;let#[?ba,n,ms,?a3,hb,hm,hn,kq]:=h;apply(?OK (Bb (Av (?I9 cN ?o) T.n_any HG (?N3 (Bu (N':=["k",?a7,?cF]) (cap:=?FU) ?o ?aA (?Ic ?bC) (?Ht (?L4 0 Bg0)) ?aH (?LP F1 ?F ?E7))))));ext tN;have Cg4:?aK:=?M7 (Br ?gl ?sW (?Nf zs ?qc) (?IJ [o,?v,?bU]));apply Le Cg4 ?cd ?_ ?_;{rintro i zs τ H1 hi C9;revert τ;apply ?bS;intro s1 Eb hzs o Eg;let hi2:i<n:=?m;apply#[?k,?g,?ba,_,ms,?h,?cv,?fY,hm,?sg];apply(?My (?bR (by rw[hzs,qa5,qa5,ql4];ext d)));rw[qi6,qb2,qb2,hzs,?I3 (?fU=?aw)];rfl};rintro zs τ H1 ⟨s1,Eb,hzs,_⟩;rw[qc4]at hzs;apply#[D,?Ja ?bi n ?qc,?h,?l (by rw[Eb,hzs]),?_];rw[List.any_map];show kq _ s1
def KO:?I0 ?cg ?cg Wp:=Bg
def LD[?J](F:?Hu ?qK ?qK Wp)[?I](L1:?Hx "is_list_of_few" ?cg PY)(O7:?y P w K mg ?n ?n5 [?hr] 5 ?F2):?Hp 6 ?cg ?u6:=by apply ?I8 KO;let#[v,xs,?a3,hs,Ce,k]:=h;apply(?O3 (?LA L1 ?az) (Fq Au4 (?LA O7 ?az) nU ?R));apply#[?g,v,xs,?a3,Ce,?g,?_];apply ?Jm ?o;show#[?g,v,xs,?a3,hs,Ce,λH1 s1=>#[?h,?fM]]
def Kf:?I0 [?aZ,"i",?pr] ?ho Lo:=Bg
def c8[?J](F:?Hu ?uG "Stairs.put_in" Lo)[?I](P6:?Hx "start_of" [?eg] X6)[?tF](O5:Mu P w K mg ?n ?U "meet" ?mu 5 ?Cs):?Hp 6 ?ho ?xR:=by apply ?I8 Kf;have#[?e2,i,s0,I,?c0,hi,P,ht,k]:=h;have ?lT:=x.sm;apply#[_,(Ad (?Hw 2 Kf.nd Ah) (Ad (Yc qb8 (?bW (iL (?NL Yi ?C ?F) (aS (?NL QF ?eG ?vh)))) (Ad (Ci (?NL Eh ?eG ?vh) (?IE O5 ?us) Bm) (?NQ 2 Kf.nd (?OR C5 ?C)))) (Ad ?uO (Ad ?uO (Ad (?Ii (?LA P6 ?gf)) (?Nx (?NL Yi (?I2 ?eG ?eG) Ah) (?IE Dj (?N3 (?OP Q4 ?bC))))))))),?_];ext W;apply ?IK [?a2,?cX,?LH ?AT];ext aR;apply ?Ho (Nv λspot st s=>Kb ?fR (?Mt t i s) ?EB ?F1 (J9 W ?g7 st) ((?pj->st<?dp)));{apply#[λm σ' G=>Hm λspot s=>Ds ?fR (?ID G i s) ?EB ?F1 (m=i-spot),#[_,0,s0,?c0,P.start,?bJ,?h],?_];rintro m σ G C9;apply Ad3 ?_;intro _;apply ?M;let#[?a8,s,?h,y,hI,hs,?h]:=C9;let#[st,hb]:=J9.ex (P.ok ?a8 s hs hI);let ?h6:=y.ex;let ?dF:=lx.ob;let ?eK:=lx.rw;let ?s7:=?eC;apply ?D;apply#[?k,?i,?g,?_];apply ?aa;{(let hlt:?pj:=by (let:?oJ<?aw:=?aD);ext d);apply#[?g,?aW,?g,?gC,?g,q,_,?i,?mX,?Mg hlt,?g,?aW,?g,hp,?bx,?g,r,_,?i,?dC,?gM,ci,W,st,?g,TY,hb,?m,?i,?g,?_];apply ?oM;{(let hle:?dp<=st:=by (let:?vK:=?eu);ext d);apply#[λσ' G'=>Hm λpX s'=>Br (σ'=[?a2,?cX,?LH (((pX:Nat):Int))]) ?uy (I pX s') (pX=?bO),?c1];{rintro σ' G' ⟨pX,s',rfl,z1,z2,rfl⟩;show#[i-?bO,?m,?bO,s',?h,z1,z2,hlt,?h]};apply Ak (t:=?ok) (λσ' G'=>?fR/\∃s',?uy/\I ?bO s') ?_ ?ff;rotate_left;{apply#[?g,?aW,?g,?gC,?g,q,_,?i,?mX,?Mg hlt,?g,?aW,?g,hp,?bx,?g,r,_,?i,?dC,?gM,ci,W,st,?g,TY,hb,?m,?h,?g,?_];apply ?p9;{(let he:?dp=st:=by (let:?jX=?o4:=?gm);ext d);apply#[?g,?i8,?k,?_];apply#[?e2,?a8,i,s,I ?bO,?h,y,hlt,hi,P.meet ?a8 s hlt hI ?vE (by rw[he];show hb.2.1),λG' s' z1 z2=>?_];show ?KG #[?h,s',z1,z2]};(let he:¬?dp=st:=?JF (?jX=?o4) ?gm);show ?KG #[?h,s,y,P.skip ?a8 s hlt hI ?vE]};rintro _ G' ⟨rfl,s',z1,z2⟩;show#[?g,?i,?bO,s',?h,z1,z2,?h]};(let hle:¬?dp<=st:=?JF ?vK ?eu);show ?Hy #[?Hl,λ_=>?m]};(let hlt:¬?pj:=?JF (?oJ<?aw) ?aD);show ?Hy #[?Hl,λz=>?de z hlt]};apply Ai5 λspot st s G y hI hs hb hex=>?_;intro sq;ext gB;let ?D6:=y.ex;let ?dF:=lx.ob;let ?eK:=lx.rw;let ?gK:=lx.bk;let ?xI:=lx.refs;let rb:=lx.ne;let#[ci,rci,UZ,mci,TY]:=?eC;let#[di,rdi,edi,mdi,hdi]:=?Es;apply ?D;(let six:∀l:Nat,i<l->seqIndex? ?C4 l=?j i:=λl hl=>by unfold seqIndex?;simp only[?I3 (¬?C4<0),if_false,qc4];first | (rw[?iw]) | (rw[?bm ?m]) | (ext ad));apply ?Ho (Ee ?fR ((∀a,a≠r->H' a=G a)) (?LD r (?NU ci ?cY)));{apply#[?g,?aW,?g,hp,?bx,?w #[?T,?dC],?k,?aW,?g,hp,?bx,?w #[?T,?dC],?g,r,_,_,i,?g,?h,?hJ,?K,six _ ?le,UZ,?_];apply(?Ml r (by rw[qk3 ?le,qa5,?eq];ext d));rw[qk3 ?le,qa5,?eq];ext d};apply EY λG1 e1 r1=>?_;intro sq;apply ?Ho (Ee ?fR ((∀a,a≠b->H' a=G1 a)) (?LD b (?NU di ?mv)));{let hp1:G1 p=_:=(e1 _ pr).trans hp;let b1:G1 b=_:=(e1 _ rb.symm).trans ?sr;apply#[?g,?aW,?g,hp1,?aq,?jL,l2,?IN b1,?k,?aW,?g,hp1,?aq,?jL,l2,?IN b1,?g,b,_,_,i,?g,?h,b1,?K,six _ ?ju,edi,?_];apply(?Ml b (by rw[qk3 ?ju,qa5,xb.1];ext d));rw[qk3 ?ju,qa5,xb.1];ext d};apply EY λG2 e2 b2=>?_;intro sq;let r2:=(e2 _ rb).trans r1;let e02:∀a,a≠r->a≠b->G2 a=G a:=λa h1 h2=>(e2 a h2).trans (e1 a h1);let hp2:=(e02 _ pr pb).trans hp;let qr:q≠r:=λz=>lx.nr ?AZ;let qb:q≠b:=λz=>lx.nb ?AZ;let q2:=(e02 _ qr qb).trans y.st;have#[ya,ma]:=xa.move hi hs rci r2 λa ha=>e02 a (?pD).1 (?pD).2.1;have#[yb,mb]:=xb.move hi hs rdi b2 λa ha=>e02 a (?ig).1 ?Fw;have ?tw:=?I9 ya.row ?gt;(let Bm1:Lat.moveR s.1 i ?a8 ?a8=?g7:=by rw[Lat.move_row];unfold Lat.mvI;rw[?iw,?c7]);rw[Bm1]at hcs;apply ?Ho (?fR/\?Mt (?BB t ?a8 st) ?aX ?yR);{apply#[?g,?aW,?g,hp2,?aq,?ll,l3,?IN q2,?k,?aW,?g,hp2,?bx,?g,r,_,?i,?l r2,Bi (by rw[gE,d8]at ecs;show ecs),cs,W,st,?g,hcs,hb,?bz];apply#[q,_,?a8,?g,?h,q2,by rw[Bw];show hs,?bR ?jC,?Hy ?gv];rw[nH hs];let qp:p≠q:=F6 hp y.st ?hH;apply#[#[r,b,#[#[dx,fs,by rw[Aj qp];show hp2,?b9],#[_,?N1 ya.put qr.symm ?vw,?Jj ?vw],#[_,?N1 yb.put qb.symm ?GL,?Jj ?GL],rb,lx.nr,lx.nb,?ih],f1,f2],Ab,?Md ?_,y.fp,y.fq,y.mq,#[ZD,zD,?m]];{cases haq:a=q;{rw[haq,Ab]at z;cases z};rw[Aj haq,e02 a (λe=>lx.nr ?zt) (λe=>lx.nb ?zt)]at z;show lx.nn a ha z};rw[Aj (Aq e y.fq),e02 a (Aq e f1) (Aq e f2)];show y.same _ _ e};apply K6 λG3 z=>?_;intro sq;have#[r3,b3,l3x,_]:=z.ex;have#[dx3,fs3,hp3,?b9]:=l3x.ob;have#[as3,xa3,na3]:=l3x.rw;have#[c3,_,ec3,_,hc3]:=?I9 xa3.row ?gt;let xX:(?yR).1 ?a8=?g7:=Bm1;rw[xX]at hc3;(let est:?BB t ?a8 st ?a8=st:=by unfold Lat.insT;rw[?iw,?c7]);apply#[?g,p,?U,dx3,fs3,?g,hp3,?bx,?g,r3,_,?i,?l xa3.2.1,Bi ec3,?g,p,?U,dx3,fs3,?g,hp3,?aq,?ll,l3,?g,q,_,?i,?l z.st,?km,c3,_,?i,hc3,Bi (by rw[est];show C6 hb.2.2),?i,?g,?_];apply ?np;{(let h5:s.1 i st<0:=?kk);apply#[?g,p,dx3,fs3,?h,hp3,?Gk,?g,?af,?nR];let s1:?s G3 ?sI:=?gT;let hT:?It ?sI ?uE:=#[T1,?g,?bT,?FO];generalize ?sI=G4 at s1 hT;apply#[p,?dD,?U,r3,b3,_,n,W,_,_,?uE,?h,?cH,l3x.keep s1,hT,?gt,?gt,?K,λr' b' G5 sx n1 n2 w=>?_];apply ?Jv ((?Mv z.redo w).re ?_);rw[Lat.insS,?bm ?Bz];rfl};(let h5:¬s.1 i st<0:=?kk);apply ?Jv (z.re ?_);rw[Lat.insS,?am ?Bz]
def iG:?I0 ?er ?er Sq:=Bg
def iQ[?J](F:?Hu ?rU ?rU Sq)[?I][?tK][?i5]:?Hp 6 ?er ?DJ:=by apply ?I8 iG;have#[a,l,xs,wu,lf,?a3,Ce,hl,dd,UW,ok,k]:=h;have ?D1:=?fB;apply#[_,(Ad (?Le ?Gm (?OC Ja ?lj ?kf)) (?OM (Bu (N':=[?fS,"lift",?a7]) (cap:=?qw) ?o ?aA ?Cj (?Nu wQ wQ) ?aH (?Ht (?LA F1 (?Nv ?C (Be C5 (?OV Dw ?az) Ah) ?ak)))))),?_];ext W;cases z;ext tI;let wul:?o2:=?dh;apply ?Ho (?Nb [?v,?ar]);{apply ?CZ;apply ?d1;apply#[?g,l,?g,?w ?l2,?g,a,?g,?ew,?h,?g,?_];apply ?JY (by rw[ZC,wul,UW];simp);show ?bf};ext aR;apply#[?k,a,l,?h,?qy,?BS,?aM];apply U6 (K:=K) (a:=a) (b:=l) (xs:=us) (ys:=wu) (n:=xs.length) ?m (λi zs τ G=>Br ?db ?qh ?Ac ?sk) ?hT (?Lt #[g.seq hq,?Hv g hl]) ?_ ?_;{rintro i x y zs τ G p hx hy C9 hp;revert τ;apply ?gq;intro g Cu hz1 o1 o2 Eg;subst hz1;(let hi:?nq:=by ext ex;ext d);let sp:?s G ?AE:=?ca;let hp1:?Kt G ?pZ ?pZ:=Ab;generalize ?AE=G1 at sp hp1;let g1:=?rK;apply ?M;let ?nw:=r.getV hx;apply ?D;(let edv:dv=tI ?kl:=by rw[qa9,?cZ]at QW;rw[qa1,?cZ];simpa using QW.symm);subst edv;apply ?M;let#[c,?T,hc]:=dd.2 i y hy;let#[k1,k2]:=ok i hi;apply ?D;apply ?FG;apply#[?k,x,F4 ?kl,?h,?V (?a1 g1 rv),?_];rw[?IV ?kl ((?kl).length)];apply#[?i,?g,a,c,xs,_,?g,?j7,?Ig hc,?m,?el];rw[k2];apply#[?oa,?jW,?J8 ?cG,?X,_,?g];rw[ql0,qb2];rfl};rintro zs τ G ⟨g,Cu,rfl,_⟩;apply#[D,?EV,?gJ,?_];rw[?IP ?EV];show k G g
def NN:?I0 ?bc ?bc Z7:=Bg
def OA[?J](F:?Hu ?oA ?oA Z7)[?I](i5:?I5 ?pM ?cg ?ED)[?tK]:?Hp 6 ?bc ?vY:=by apply ?I8 NN;let#[a,v,A,xs,k,p,?a3,hp,ok,kq]:=h;let#[t,?gE,et,e1,e2,e3,_]:=hp;let l1:=ok.c1.ok.len;let l2:=ok.c2.ok.len;let l3:=ok.c3.ok.len;apply#[_,(Ad (?I6 (?Ma JQ ?C ?GK) (Pt (?NL Ja ?zL Ah) (Q0 (Em (D8 (?LA i5 ?gb)))))) (Ad (?Le ?xe (Pt ?xe (Q0 (?NJ F1 ?x (Aa ?iW ?gb))))) (?I4 (?NY Ja ?d9 (?Lw Eh (Av HC ?bB qh1 ?gb)))))),?_];ext W;apply ?Ho (?MT ?bD ?ah);{apply(?MJ t et);apply ?d1;apply#[?g,t,?g,?V ?lO,?h,?g,?_];apply ?dm;apply#[?g,t,_,?i,?l (id et),?h,p.1,?h,ok.od,?g,?_];apply ?d1;show ?bf};ext aR;apply ?Ho (?MT ?bD ?a4);{apply#[?k,?g,t,_,?i,?l (id et),?h,a,ra,xs,k,?g,hL,e1,?m,?ky];rw[ok.c1.chain];apply ?d1;apply#[?k,?g,t,_,?i,?iZ,?h,a,ga,xs,k,?g,?cv,?IX e2,?m,λH2 s2=>?bH];rw[ok.c2.chain];apply ?d1;let s12:=?en;apply#[?k,?i,?g,t,_,?i,?Hv s12 et,?h,a,fa,xs,k+1,?g,?ES,s12 _ _ e3,?m,λH3 s3=>?bH];rw[ok.c3.chain];apply ?d1;show ?Hy #[?h,?pR]};ext g9;apply ?xh;ext lv;{show ?EN};(let h2:?f6:=?aD);apply#[?g,t,_,?i,?iZ,?h,fa,?g,?IX e3,?bM];rw[ok.z h2];show ?EN
def Uq:?I0 [?a7,?cb,?d7,?b0,?as] ?eL bT:=Bg
def tE[?J](F:?Hu ?sd ?sd bT)[?I](Fz:?JA ?qU ?kG ?ts)(Xc:?I5 ?qR ?nX ?x8):?Hp 7 ?eL ?wv:=by apply ?I8 Uq;let(?J5 #[kc,tV,hch]):=h;let ?hj:=T.x_LEVELS;apply(?OL (Ci (?NJ Fz ?x ?vj) ?jv Bm) (Ad (?Hw 2 Uq.nd Fx) (?Ny (?Hq 3 Uq.nd (?L4 4 Uq.nd)) (B7 (?Hs Xc ?C (Aa ?f3 ?eE))))));ext W;apply#[?k,?ba,4,ms,?a3,hb,hm,?N,?Ap];let hany:?Mm ((?bi 4).any ?qc):=qs1.mpr #[kc,qe1.mpr tV,hch];apply ?bH;rw[hany];ext lz;let hL1:=?cv;let hb1:=?fY;apply ?aM;let aM:?lK:=Aq hb1 hD;let s2:?MC ?zj:=?gN;let hL2:=?a1 s2 hL1;let hb2:=?II hb1;generalize hH2:?zj=H2 at s2 hL2 hb2;(let Rf:H2 D=?j ?eN:=by rw[←hH2];show Ab);apply ?J4 ?ce hb2;apply ?zO;have Cg3:?ab:=?Lc (Hm λo1 o2=>Br ?zX ?FN (?I1 G D ?qr) ((?JI b (H2 c=?dK) ?si)));apply ?NP ?ce Cg3 (?LJ ?zr);{rw[?hR];show Rf};{intro c q n1 n2 e;rw[?gs];show e};{rintro i kk x σ G p hx C9 hp;ext f;revert σ;apply ?cn;intro o1 o2 AV Cu jF Eg;let ?ev:=?dt;let npb:b≠p:=Aq AV hp;let npD:?rs:=Aq Cu hp;let hlt:?r2:=?hO;(let hqd:?h4=q:=?w8);let hpart:=qd4.mp hch q ?dM;(let hin:?pl:=by unfold K9 at hpart;rw[qb7]at hpart;show KU hpart.1);let sp:?K9 G G p:=?ca;(let XR:?ti:=by (let e1:Qi b H2 ?or:=?GF);let l1:=?gP e1 hb2 hL2;(let d1:(?or) D=?j ?eN:=by ext e4;show Rf);(let e2:Qi D ?or G:=?xf);show ?gP (m:=[]) e2 d1 l1);let#[us,v,zG,hat,tv]:=?Mi (?a1 sp XR);apply ?ed;(ext HB);let hbl:=GA h4 ms i;apply#[?k,?g,a,us,_,v,?O,zG,hat,?g,D,v,?qr,?lk,q.2,?h,?Ie sp,tv,?m,λG2 sG2 LW=>?_];apply#[_,?g,sG2 _ _ aM (?Jc AV),?_,?p0];{rw[LW];exact ?Kp (PF ?qr ?pz (?h4).2);rw[hqd]};show sG2 c r n2 (?Jc ?ns)};ext i6;apply ?cn;intro o1 o2 AV Cu jF Eg;rw[Iv]at Cu;apply#[AV,?g,kq D _ (?fi hD) ?jN ?nz];ext HR;show jF c q z (Aq ?fI hD) (?II ?fI)
def Qq:?I0 [?bV,?bE,?j2,"stairs","i",?f5] ?rG Z2:=Bg
def NW[?J](F:?Hu ?nQ ?nQ Z2)[?I](f9:mT P w K mg ?n ?U ?ej 2 ?zy)[?HH](Ly:Mu P w K mg ?n ?U ?uG ?ho 6 ?xR)(Lx:Mu P w K mg ?n ?U ?xK ?bt 5 ?GC):?Hp 7 ?rG ?GD:=by apply ?I8 Qq;have#[v,L,r,b,sv,N,n,w,M,P,PB,J,?h,hv,lx,hn,hw,TJ,j0,jt,k]:=h;have#[ta,?a9,AN,cP,Kl]:=?hY;ext tV;have#[ps,xp,np]:=lx.rw;have ?gK:=lx.bk;let nN:?w4:=?Ju lx.nn;apply#[_,(Ad (Ao (i:=3) Qq.nd (Py f9 hr ?o T.m_Stairs (Aa (Bu (N':=[?eg,"paper"]) (cap:=?rN) ?o ?aA (b8 (K:=K) ?o ?jk (Aa ?x ?Fi)) (?Nu WR WR) ?aH (?Ht (Be ?dB ?x ?F))) (?N3 (?LQ ?Fi))))) (Ad (Ch qb8 ?h ?sD (?L4 4 Qq.nd) (?OS (B7 (Eu ?P ?aq Ly hr ?eE)) (B7 (Px ?P ?aq Lx hr)))) (Ad (?ON 5 Qq.nd (?O1 (?NA (Dd ?d6 ?x ?Ca Fc)) ?wn)) (Ag (Bb (?OP (?NA ?iF) ?cM)))))),?_];ext W;apply ?Ho (Hm λp q=>?Lm none none/\SX ?U H H' p q ?ql n ?eB ?C3 0 (?vB,PB));{apply#[?k,L,?A,dx,fs,?g,hp,?cO,?k3,l1,ta,r,?h,#[_,AN],#[_,?vq],?aM];apply U6 (K:=K) (a:=ta) (b:=r) (xs:=us) (ys:=?gd ?cI) (n:=n) (by rw[cP,qa5,xp.1,qz8]) (?M7 (Ex λcs=>Br ?n1 ?oL (?cf H H1 D cs ?eB ?vB) ?rO)) #[[],?O,?q1 hD,?aS] (λi zs τ H1 _ hz=>by let ?Cf:=hz;show#[?cq AN,?cq ?vq]) ?_ ?_;{rintro i x y zs τ H1 pr hx hy ⟨cs,rfl,hcl,R,o1,o2,rfl⟩ XM;apply ?M;let#[hi,bx,?h,hbx]:=Kl i x hx;let#[cy,_,ey,_,hcy]:=?I9 xp.row hi;apply ?D;rw[ey]at hy;cases hy;let sp:?MC ?nm:=?k0;apply ?ul;apply#[?k,bx,cy,?i,sp.seq (?cq hbx),sp.seq (?cq hcy),Bx (by rw[Bw,Bw];ext d),?kV];let sE:?s ?nm (?p ?nm E (?L (VI w (M i)++VI n (P i)))):=?kJ;apply#[sE _ _ (?Jc R.at),?fq,cs++[E],?il,?DM,?_,_,?g];apply ?lD (sp.free hE) (?vv sE) ?_;rw[hcl,Ab,pH (h:=?we w M P i) (?Mp (Lat.beside_lo hc)) (λa _=>Lat.beside_hi w M P i a)]};rintro zs τ H1 ⟨cs,rfl,hcl,R,_⟩;let hp1:=?vQ;apply#[?g,L,?A,dx,fs,?g,hp1,?cO,?jc,l2,b,?g,?MB ?c6 ?sr,?Fn];intro p ZJ np' ndx Av1;let s2:?MC ?A2:=?Q hB;let hB2:?p H1 B ?o3 B=?n2:=Ab;generalize ?A2=H2 at s2 hB2 np' ndx;let s3:?s H2 ?BU:=?lB np';let s03:=?IH ?jb s2 s3;let f2:∀a,?uh->?fK:=λa e=>(?jb s2).free e;apply#[p,ZJ,_,?g,Ab,λq H4 fs' hq hfs sx hq4 Uw=>?gv];generalize ?BU=H3 at s3 s03 hq sx;let f3:∀a,?CY->?fK:=?xJ;let st:?Kk H2:=?Md (sx _ _ (Aq e np') ?vW);let xc:=(?pB s2);let zM:TA H2 B bs n n PB:=#[xb.1,hB2,λi c e=>?II (?c6 _ _ (?oD i c e))];let hHB:?uF:=?EP hB;let Ca7:=?Ei;let q2:?Lp H2 q:=?pH hq;let nM:∀a,?Kj H2->?kI->¬?wM:=λa h1 h2 h3=>h3.elim (λz=>h1 (z▸q2)) h2;apply ?Hy #[p,q,?h,#[#[D,B,#[#[ZJ,fs',Uw,?cL,?fo,?_],#[cs,xc.same st,?bj],#[bs,?s2 st,?bj],?cL,?ih],?gY,hHB],hq4,?Md ?EI,f2 _ np',f3 _ hq,?cp,#[?K,?bJ]]];{rw[hfs];(ext ai)};{rw[hfs];(ext ai)};{rw[hfs];(ext ai)};{rw[hfs,Ar,?cV,Ar,?cV,Ar,?cV];rfl};{rw[hfs];show ?MK (qa4 ?l5 (?Iw (qi9 ?l5)))};{apply ?M;let ?jx:=?kS;let ?jE:=?yr;apply ?D;show#[z2,Aq z3 hB,nM _ (by rw[?II z3];show ?hv) ?wX]};{let:=?rn a ha;apply#[λz=>this ?t8,λz=>this (z▸hHB),nM a (zM.there.2 a ha) ?Dc]};{show Aq R.at hB};{show nM D (by rw[Ca7];show ?hv) (nN _ ?gY)};{show nM B (by rw[hB2];show ?hv) (nN _ hHB)};rcases ha with rfl | ha;{rw[hq4]at z;cases z};cases e:H a with| none=>show ?z0| some o=>rw[?EI]at z;cases z};apply Aj0 λp q H1 x0=>?_;intro sq;apply ?Ho (?NF H' n n);{apply#[?g,ta,?a9,?w (x0.same.seq AN),?g,?K,?_];apply ?O9 ?Gw (λi σ' G=>?NF G i i) #[?Y,_,?g,x0,j0 _];{rintro i σ G hi C9;revert σ;apply Am7 ?_;intro o4 t s y hJ Eg;rw[qc4,cP]at hi;rw[ql2];apply ?M;let#[I,hP,hD]:=TJ.step i t s hi hJ;let#[r3,b3,ly,_]:=y.ex;let#[dx3,fs3,hp3,?B,m4,_]:=ly.ob;apply ?D;apply#[?g,p,dx3,fs3,?h,hp3,?tz,?g,H,p,q,_,n,?eB,t,i,s,I,?h,y,hi,hP,jt i t s hJ,λG1 spot st s' hs hI hb hex z=>?_];apply ?M;let#[d1,d2]:=hD ?a8 st s' hs hI hb hex;let#[r4,b4,lz,_]:=z.ex;let#[dx4,fs4,Uw,?B,m5,_]:=lz.ob;apply ?D;apply#[?g,p,dx4,fs4,?h,Uw,?EJ,H,p,q,_,n,?eB,_,i,?g,z,d1,λG2 z2=>?_];show#[_,_,?g,z2,d2]};rintro σ G C9;revert σ;apply Am7 ?_;intro o4 t s y hJ Eg;rw[qc4,cP]at y hJ;show ?Hy #[o4,t,s,?h,y,hJ]};apply Ai7 λo4 t s G y hJ=>?_;intro sq;have#[r,b,ly,f1,f2]:=y.ex;have ?dF:=ly.ob;have ?eK:=ly.rw;have ?gK:=ly.bk;let s0:=y.same;apply ?Ho (Hm λ(L' E:Addr)=>Ds (?Lm o4 (rS L')) (?Ly G) ?uK ?m9 (LX H' ?A L' E b ?Y n n ?mR N));{apply(?Ki hp ?dC ?kV);let xa':=?hJ;have Cg2:?aK:=?JE (?cf G G1 E cs n ?Bg);apply ?JQ Cg2 #[[],?O,?q1 hE,?aI];{rintro i x zs τ G1 hx ⟨cs,rfl,hcl,R,o1,rfl⟩;(ext HN);apply ?M;let ?xd:=?eC;apply ?D;rw[ec]at hx;cases hx;apply(?Kw hc);let sF:?Jo ?zi ?Y:=?Q hF;apply ?zR;apply ?xM;rw[hcl,Ab,Ag5]};rintro zs τ G1 ⟨cs,rfl,hcl,R,_⟩;rw[qa5,?eq]at hcl;let hp1:=?vQ;apply#[?g,?aW,?g,hp1,?aq,?jL,l2,?_];intro L' JK nL ndx Av1;let s3:?s G1 ?qA:=?lB nL;apply#[L',JK,?A,_,?g,?cp,Ab,λH4 fs' hfs hH4=>?gv];(let sx:?bA L' ?qA H4:=by rw[hH4];ext Hg);(let hL4:H4 L'=?j (?KJ fs'):=by rw[hH4];show Ab);clear hH4;generalize ?qA=G3 at s3 sx;let st:?Kk G1:=?Md (sx _ _ ?mt ?vW);let nN':?Mf G ?kI:=λa e=>nN a (?li e);apply ?Hy #[L',E,?h,?jb st,?li (?EP nL),?li ?gY,#[#[JK,fs',hL4,?cL,?fo,?_],#[cs,?pB st,?bj],#[bs,(xb.same ?c6).same st,?bj],?_,nN' _ ?gY,?_,?ih]];{rw[hfs];(ext ai)};{rw[hfs];(ext ai)};{rw[hfs];(ext ai)};{rw[hfs,Ar,?cV,Ar,?cV];rfl};{rw[hfs];show ?Fq};{apply ?M;let ?jx:=?kS;let ?jE:=?yr;apply ?D;show#[z2,λz=>?vb ?zq,nN' _ z1]};{show#[λz=>?rn a ha ?t8,?Fw,λz=>?Dc ?uz]};{show λz=>?vb ?t8};{show λz=>ly.nb ?uz};cases e:H a with| none=>show ?z0| some o=>rw[?Nl ?c6 s0]at z;cases z};apply Ai8 λL' E G4 s4 fL fE lx4=>?_;intro sq;let Uw:=?MG hp;let xa':=?MG ?hJ;apply(?Ki Uw ?EA ?aM);have Cg1:?aK:=?JE (?cf G4 G1 D cs w (λx a=>s.1 x a));apply ?JQ Cg1 ?i0;{rintro i x zs τ G1 hx ⟨cs,rfl,hcl,R,o1,rfl⟩;(ext HN);apply ?M;let ?xd:=?eC;apply ?D;rw[ec]at hx;cases hx;apply(?Kw (s4.seq hc));let sF:?Jo ?Y ?zi:=?Q hF;apply ?zR;apply ?xM;rw[hcl,Ab,Bo2]};rintro zs τ G1 ⟨cs,rfl,hcl,R,_⟩;rw[qa5,?eq]at hcl;apply#[?g,?af,?Bi];let s5:?s G1 (?IL G1 tp ?yV):=?Q htp;let MU:=?jb s5;show k tp D L' E b cs t s _ (?IH ?rw s4 MU) hJ ?bT (?pB s5) (lx4.keep MU) ((?rw s4).free ?gY) fL fE f2
def IG:?I0 ?bc ?bc Sr:=Bg
def IQ[?J](F:?Hu ?rY ?rY Sr)[?I](Ge:?I5 ?nS ?kM ?F7)(cV:?JA ?oA ?bc ?vY):?Hp 7 ?bc ?ud:=by apply ?I8 IG;let#[a,l,A,xs,k,us,ps,?a3,hl,pp,pl,ok,nx,kq]:=h;let ul:=pp.1;apply#[_,(Ad (?OX ?bW (Pt (?JZ ?C) (Q0 (Em (?N2 D8 (Bu (N':=[?fN,?a7,"k"]) (cap:=?FU) ?o ?aA ?pA (?Ht (?L4 0 Aw2)) ?aH (?LP cV ?F (Aa ?C ?az)))))))) (Ag (Bb (?OV Ge (?N3 (?Nz ?fN Aw3 ?sU)))))),?_];ext W;apply ?Ho (?MT ?ar ?a4);{apply ?CZ;apply ?d1;apply(?IW l ?BS);have Cg0:?aK:=?Lh (Br ?db ?dJ ?kR (?IJ [o,?v,?al]));apply ?NE Cg0 hl;{rintro i v ys τ G hv C9;revert τ;apply ?bS;intro g Cu hz1 o Eg;subst hz1;let ?hK:=?t2;let hi:=?md;apply#[?k,?g,a,v,A,xs,k,p,?h,?r0,?iv g,?Et,?el];apply#[?Fh,?jW,?s9 hD,?X,?g];rw[ql0,qb2];rfl};rintro ys τ G ⟨g,Cu,rfl,_⟩;apply#[D,?rq,?gJ,?g,?_];apply ?dm;show ?Hy #[?h,g]};ext g9;apply(?IW l ?Db);have Cf9:?aK:=λi ys τ G=>Br ?ht ?dJ (ys=((?gd (·.1)).take i).map ?aF) ?f4;apply ?NE Cf9 ?vc;{rintro i v ys τ G hv C9;revert τ;apply ?bS;intro g Cu yl o Eg;let ?hK:=?t2;let hi:=?md;let#[t,?gE,et,_]:=?iv ?dO;(let ey:(?gd (·.1)).take ?aX=(?gd (·.1)).take i++[p.1]:=by rw[qd6,qa9,hp];rfl);apply#[?g,t,_,?i,?lO,?h,Cu,?bR (by rw[yl,qa5,qd1];ext d),g.turn hD,?X,?g];rw[ey,yl,qb2];rfl};rintro ys τ G ⟨g,Cu,yl,_⟩;rw[ul,qh5 ?o8]at yl;subst yl;show#[D,?gd (·.1),?gJ,?o8,nx,λH' g2=>kq H' (?gh g2)]
def KP:?I0 ?eL ?eL Wq:=Bg
def lE[?J](F:?Hu ?mj ?mj Wq)[?I][?lq]:?Hp 8 ?eL ?xx:=by apply ?I8 KP;let(?J5 hc):=h;apply#[_,(?I4 (?OG (Av HC ?bB qh1 (?N3 (?LA Gv ?bl))) Ah)),?_];apply#[?k,?ba,ms,?a3,hb,hm,h4,hc,λD H' hD s' hD'=>?_];apply#[D,?g,hD',?bM];(let e:?uq=?aP ((?rQ).length=0):=by rw[Iv];cases z:(?rQ).length=0;{rw[z];simp};rw[qi5 z];simp;intro q;refine z;rw[q];rfl);exact Q (?bN ?uq) H';rw[e];show kq H' s'
def Lm:?I0 [?a7,"k",?oK,"columns"] ?ee Nb:=Bg
def AK[?J](F:?Hu ?ps ?ps Nb)[?I][?HW][?i2][?i4](Tt:?Hx "numbers_at" ["spots",?cb] Ve)[?lq]:?Hp 8 ?ee ?xY:=by apply ?I8 Lm;let#[a,xs,k,?a3,Ce,h4,h0,h5,kq]:=h;let ?hj:=T.x_LEVELS;apply#[_,(Ad (B7 (?Hs Hj ?F (?N3 (?OR C5 ?n4)))) (Ad (?LV 2 Lm.nd (?Hs Bp ?x (?N3 (?OR Gq ?F)))) (Ad (IL (N':=[?b0,?oK,?a7]) (cap:=[none,?gR,?e9]) (i:=3) Lm.nd ?o ?nM ?o ?aA (?I9 B6 ?qO) (?Ht (?L4 0 Aw9)) ?aH (?OQ (?OV Tt (?L5 ?F (?Hs Gv ?C ?BW))))) (Ag (Bb (?Hs Dp ?P ?DS)))))),?_];ext W;apply#[?g,?i,k,5,?h,h0,h5,?_];apply ?IK [?v,?al,none,none];ext aR;apply ?Ho (Ex λ(B:Addr)=>?NR [?v,?al,rS B,none] (?LD B ((?l8).map ?aF)));{apply#[?k,?i,a,k-1,xs,?a3,Ce,λB H1 hB s1 hB1=>?_];show ?Hy #[B,?h,s1,hB1]};apply Xx λB H1 s1 hB=>?_;intro sq;let hL1:=?cv;let bl:?kC<=1000:=?sw;let cl:?A0:=?sw;apply ?Ho (Hm λ(C:Addr) ?sV=>Ee (σ'=[?v,?al,rS B,rS C]) (as.length=?iQ) (?cf H1 H' C as ?kC ?vs));{apply#[?k,a,k,?f2,hL1,Ce,λP H2 hP s2 hP2=>?_];apply#[P,?h,(?ME hP2),?aM];have Cf8:?aK:=?Lh (Ex λ ?sV=>Br ?jn ?jQ (?cf H2 G D as ?kC ?vs) (?IJ [o,rS B,?v]));apply Ck (K:=K) (a:=P) (xs:=?JU ?gX) Cf8 ?i0 (λi ys τ G _ hz=>?LM #[?B,R,_] ?c6 hP2) ?_ ?_;{rintro i x ys τ G hx ⟨as,hal,rfl,R,o,rfl⟩;(let hi:i<?iQ:=?kq);(let hxv:x=?u ?ms:=?mH);subst hxv;(let hmem:?ms∈?gX:=by rw[qa1,?cZ];show qf2 hi);let ?oq:=Bt hmem;generalize hpe:?ms=pl at q0 q1 q2;let B61:Ir [] [(?g4 pl,?aF 1)]=?vi:=rfl;let sG:=?bL ?c6;apply#[?k,λe he=>(?Il pl)];rw[B61];(let e3:?p (?p G e ?eN) e ?qz=?ix:=by funext b;cases hb:b=e;{subst hb;rw[Ab,Ab]};rw[?fx,?fx,?fx]);rw[e3];let g1:?s G ?ix:=?Q he;let he1:(?ix) e=?j ?qz:=Ab;generalize ?ix=G1 at g1 he1;(let hl4:?vl<=4:=by rcases Lb (l:=xs) (i:=pl.toNat) (d:=[]) with z | z;{show h4 _ z};rw[z];show ?bJ);(let CP:chainB xs k ?kc=true:=by unfold chainB K9;rw[qy6,List.all_nil,Bool.and_true,qb7];apply#[?_,?cE];exact ?Mm (?aP (0<=pl)&&?aP (pl<?f7)&&?aP (Cc ?vl=k));rw[qe7 q0,qe7 q1,qe7 q2];rfl);(let hk3:k<4:=by rw[←q2];unfold Cc;split<;>ext d);apply#[a,e,xs,?kc,?h,?a1 ?xS hL1,he1,?cE,h4,#[k.toNat,?m,by rw[?E4];show CP],λE2 G2 hE2 g2 Ca9=>?_];apply#[B,E2,?l8,Bf xs ?kc,?h,?Hv ((?xS).trans g2) hB,?w Ca9,bl,λD2 G3 Rf g3 OQ=>?_];let gG:=?IQ ?cG g3;apply#[gG _ _ R.at,?fq,?H4,?tj,?il,?lD (?L2 ?cG Rf) gG ?_,?g];rw[OQ,Ad0,hal,hpe];congr 3;refine fY;intro i' _;show Zg xs pl _};rintro ys τ G ⟨as,hal,rfl,R,_⟩;rw[qa5]at hal;show ?Hy #[D,as,?h,hal,R.earlier s2]};apply jW λC as H2 hal R=>?_;intro sq;apply#[?k,B,?g,?MB ?c6 hB,?z C,?iQ,?kC,_,by rw[qa5];rfl,R.rep hal,cl,bl,λD PD H3 A21 R3=>?_];show kq D PD H3 A21 (R3.earlier (?bG ?c6))
def Mj:?I0 [?aZ,"height","by_rows","by_columns"] ?bt Su:=Bg
def IS[?J](F:?Hu "step" "Work.step" Su)[?I](Yy:?Jz ?nQ ?rG ?GD)[?i4]:?Hp 8 ?bt ?D7:=by apply ?I8 Mj;have#[?e1,M,l,r,ns,Nx,?c0,ok,k]:=h;have ?iM:=x.sm;ext HX;ext tR;replace hrep:=?iO;have ?Fr:=J6 hrep;have#[J1,T1,j10,j1t,j1n]:=ok.ex;let Bi9:=?qD;replace hq:=?BV;apply#[_,(Ad (?Hw 1 Mj.nd ?hG) (Ad (?LV 2 Mj.nd (?Hs Yy ?ao (Aa ?ao ?eD))) (Ad (?ON 3 Mj.nd (?LA Yy (?Nt ?eD ?F ?eD))) (Ad (?NC Dp ?GY ?ak) (?OS (?IB ?d9) (?IB ?GY)))))),?_];ext W;apply ?Ho (?Nb [?a2,?oQ,none,none]);{apply#[?g,?ac,fs,?g,?gD,ta,?a9,?ew,?Hy #[by rw[cP];rfl,?h]]};ext aR;apply ?Ho (ZL λ(tp D L' r1' b1':Addr) ?sV ?sX ?qH=>eE (σ'=[?a2,?oQ,?b4,none]) ?a4 (J1 n t s) (?Mw tp ?yV) (TA H' D as n w s.1) (?M9 L' ?mR) ?uK (?Lp H r1') (?Lp H b1'));{apply#[?g,?ac,fs,?g,?gD,?g,?ac,fs,?g,hp,?ag,?iz,l2,?g,?ac,fs,?g,hp,?f0,l3,?hx,L,r1,b1,?Y,_,n,w,M,l.1,l.2,J1,?h,Bi9,lx,ZD,zD,T1,j10,j1t,λtp D L' r' b' as t s H1 s1 hJ hT xD lx1 _ fL fr fb=>?_];show ?Hy #[tp,D,L',r',b',as,t,s,?h,s1,hJ,hT,xD,lx1,fL,fr,fb]};apply Ai2 λtp D L' r1' b1' as t s H1 s1 hJ hT xD lx1 fL fr fb=>?_;intro sq;have#[J2,T2,j20,j2t,j2n]:=j1n t s hJ;let hp1:=?gn;apply ?Ho (ZL λ(tp2 D2 R' r2' ZK:Addr) (PD:?j6) (t2:?Fl) (s2:?dT)=>eE (σ'=[?a2,?oQ,?b4,rS tp2]) ?po (J2 w t2 s2) (?Mw tp2 [?dU,?xH]) (TA H' D2 PD w n s2.1) (LX H' ?A R' r2' ZK ?Y w w (λx a=>s2.1 x (n+a),s2.2) ?gc) (?Lp H1 R') (?Lp H1 r2') (?Lp H1 ZK));{apply#[?g,tp,_,?i,hT,?h,?g,?ac,fs,?g,hp1,?ag,?iz,l2,?hA,n,w,s.1,?h,xD.rep,?K,λF fas H2 hl2 R2=>?_];let hp2:=?fp _ _ hp1;apply#[?k,?ac,fs,?g,hp2,?ag,?hU,l4,?z F,R,r2,b2,?Y,_,w,n,(λi j=>s.1 j i),r.1,r.2,J2,?h,R2.rep hl2,ly.keep (?bG ?fp),zD,ZD,T2,j20,j2t,λtp2 D2 R' r' b' PD t2 s2 H3 s3 hJ2 hT2 xD2 lx2 _ fR fr2 fb2=>?_];show ?Hy #[tp2,D2,R',r',b',PD,t2,s2,?h,?iU s3,hJ2,hT2,xD2,lx2,?kH fR,?kH fr2,?kH fb2]};apply Ai2 λtp2 D2 R' r2' ZK PD t2 s2 H3 s3 hJ2 hT2 xD2 lx2 fR fr2 fb2=>?_;intro sq;let hp3:=?Is hp1;let hT3:=s3.seqT hT;apply#[?g,tp2,_,?i,hT2,?h,?g,?dU,w,n,s2.1,?h,xD2.rep,?K,λE eas H4 hl4 R4=>?_];let zU:=R4.same;let Uw:=zU _ _ hp3;let s04:?xL:=(?IH x.same.trans s1 s3).trans zU;let n4:=(?bG ?Ch) _ _ x.nu;(let B04:Rep K (Yw H4 ?gc) ?fA (dT n w λi j=>s2.1 j i):=R4.hid hl4 (?Km (by cases ha;rw[(?qX) _ _ x.nu]at z;cases z)));let qY:=zU.seqT hT3;let B93:=zU.seqT hT2;(let ex:∀a,?BE->?Kj H4:=?Jj (by ext tZ;{rw[n4];show ?hv};{let ?fg:=lx2.rw;show ?uW};let ?fg:=lx2.bk;show ?uW));let z1:LX H4 ?A L' r1' b1' ?Y n n ?mR (λa=>?BE):=lx1.more ?Ch (?Jj (by ext tZ;{show ?w ?cp};{show ?V fr2};show ?V fb2)) ex;let z2:=lx2.keep zU;let npL:p≠L':=Aq hp fL;let npR:p≠R':=Aq hp1 fR;(let LR:L'≠R':=λz=>by let ?C7:=lx1.ob;rw[z,fR]at q;cases q);apply#[?g,?ac,fs,?h,Uw,?ag,?oC,?bz];let sx5:?MN H4 ?ol:=?c8;let LV:?Kt H4 ?q5 ?q5:=Ab;let kp5:Kp H4 ?ol:=Kp.upd;let e1:?uR=fs.length:=Pw l1;generalize ?ol=H5 at sx5 LV kp5;let hT5:=pW qY Uw sx5;let B92:=pW B93 Uw sx5;apply#[?g,tp,_,?i,hT5,?h,?g,?ac,?g,LV,?f0,?bz];let e2:?uJ=?uR:=Pw (x:=?ro) (by ext lu;show l3);let JY:?MN H5 ?rb:=?c8;let hp6:?Kt H5 ?rl ?rl:=Ab;let kp6:Kp H5 ?rb:=Kp.upd;generalize ?rb=H6 at JY hp6 kp6;apply#[?g,tp2,_,?i,pW B92 LV JY,?h,?g,?ac,?g,hp6,?ag,?hU,?bz];let e3:(?KA ?j5 R' ?z2).length=?uJ:=Pw (x:=?z R) (by rw[Ar,?fT,Ar,?fT];show l4);let sx:?MN H4 ?DO:=?c2 (sx5.trans JY);let kp:Kp H4 ?DO:=?IH kp5.trans kp6 ?bo;let g0:?MS ?fK:=?Jf x.same.free;let g1:?MS ?u4:=?Jf ?mm;let npn:nm≠p:=F6 x.nu hp ?hH;apply k L' R' _ _ _ _ (j2n t2 s2 hJ2) #[#[?fA,dx,_,?X,?cL,?_,?fo,?m,λM' e=>by cases e;show Cd7 (p:=p) (dx:=dx) (C:=C_Work) B04 (by rw[CQ ?wz];show Uw) (λa o ne e=>by cases z:a=nm;{rw[tW z]at e;cases e};rw[CQ z]at e ⊢;show sx _ _ ne e)],#[r1',b1',r2',ZK,z1.x Uw npL sx kp,z2.x Uw npR sx kp,g0 _ fr,g0 _ fb,g1 _ fr2,g1 _ fb2],sx _ _ npn n4,sx.same s04 x.fr.1,#[x.fr.1,g0 _ fL,g1 _ fR,?Dz],?uV,?iM];ext g8;ext g8;ext g8;ext g8;ext g8;(iterate 3 ext HU);show l6 m hm
def Bz:?I0 [?a7,?da,?d8,?b0,"k",?fS,"edge",?d7,?fN,?oK] ?sm Ip:=Bg
def Vb[?J](F:?Hu ?ng ?ng Ip)[?I][?i5][?lq][?tP](cU:?I7 ?nh ?pT ?Ec)[?lr][?HY]:?Hp 8 ?sm ?zc:=by apply ?I8 Bz;have#[a,h,l,Az,xs,q,lu,wu,hs,lf,?a3,hh,bb,hl,dd,pk,hq,kq]:=h;ext e5;let sh:=pk.sh;let Ce:=pk.len;let h4:=Pq sh;have#[hlc,hlb,hlm]:=pk.lc q hq;(let lv0:0<=?dw/\?dw<4:=by let:=(sh q ?kL (?Ke hq)).cnt;unfold Cc;split<;>ext d);let xN:=?FJ Ce hq;let hec:?Ji (?dw-1) ?cz:=?D4 sh Ce (by rw[?GX];show xN);let hbc:?Ji ?dw ?AX:=?D4 sh Ce hlc;let wul:?Jq wu.length:=?yc pk.ll;(let XN:∀p∈?cz,?Ji ?oB ?xG/\∀t∈?xG,?E1 p.2 t.2:=λp hp=>by let#[a0,a1,a2]:=Bt (hec.key p hp);have#[z1,_,z3]:=pk.lc ?y9 ?m;rw[a2]at z1;(let e2:(p.2).natAbs<=2:=by rw[←hec.ok.val hp];show ?wB);show#[z1,λt ht=>Hq (m:=2) (n:=J8) (?jM e2) (z3 t ht) ?dq]);(let hlo:?Ji ?dw ?B5:=by let:=Yp (xs:=xs) (k:=?oB) (lf:=lf) (c:=?cz) (acc:=[]) (λp hp=>(XN p hp).1) ?z8;rw[?GX]at this;show this);apply#[_,(Ad (?Hw 4 ?dY (?LA Dw ?CR)) (Ad (?Hw 5 ?dY (?OB ?P)) (Ad (?LV 6 ?dY (?Hs Gv ?x ?cM)) (Ad (?OJ (?Hs Gv ?x (?N3 (At ?aJ ?C ?P ?a0))) (?Hs cU ?C ?ea)) (Ad (Ch qb8 ?h (?NM B6 (?I2 ?F ?a5)) ?Dn (Ag (?OJ ?av (?Hs Kn (?OV Tr (Aa ?hM ?cM)) ?GT)))) (Ad (?LV 9 ?dY (Pz (?IC kZ ?a5) (?I2 ?F (?OR Gq ?a5)) ?di)) (Ad (Ch qb8 ?h (?I9 B6 ?cx) ?Dn (?Nx (?IC Ja ?hM) (Ag (?OJ ?av (?OV Kn (Aa (Be Jt (?Hs Tr ?hM ?ea) ?hM) ?GT)))))) (?I4 (Fq (Au5 (n:=8) Sa) ?av ?aQ ?R))))))))),?_];ext W;unfold S5 vL at kq;generalize ekk:?dw=kk at lv0 hlc xN hec hbc XN hlo kq;have ?zK:=?gy hL (?I3 (?c4<=?eO)) (?I3 (?eO<?f7));rw[qc4]at tv1;apply ?Ho (?Nb [?v,?dv,?ar,?g2,?g0,none,none,none,none,none]);{apply(?JH ?kL);rw[?IV ?kL ?Gv];apply ?Hy #[?_,?h];rw[ekk];rfl};ext aR;apply ?Ho (Ex λ(d:Addr)=>Br (?LL (rS d) none none) (?Lp H d) ?a4 (H' d=?j ?E3));{apply λd hd=>(?Il ?eO);(let e3:?J3 H ?eO=?p H d ?E3:=?vo);rw[e3];show ?Hy #[d,?h,hd,?Q hd,Ab]};apply Iy λd H1 nd1 s1 hd=>?_;intro sq;apply ?Ho (Ex λ(e:Addr)=>Br (?LL (rS d) (rS e) none) (?Lp H e) ?po (?N9 e ?cz));{show#[?k,a,d,xs,?g,?cv,hd,?cE,h4,#[?Dk,?m,by rw[?mc];show xN.chain],λe H2 ne s2 he=>?Hy #[e,?h,?fi ne,s2,he]]};apply Iy λe H2 nee s2 he=>?_;intro sq;let s12:=?en;apply ?Ho (Ex λ ?gw=>Ee (?LL (rS d) (rS e) ?bD) ?hN (?N9 t ?pb));{apply ?M;obtain⟨vw,hvw⟩:∃v,wu[q]?=?au:=?ct;let ?h3:=dd.2 q vw hvw;apply ?D;let hat:eX wu ?eO=?sp:=Bi hvw;apply#[?k,?g,l,wu,?i,?Hv s12 hl,hat,a,c1,xs,?g,?ES,s12 _ _ hc1,?Iw hlc.ok.len,h4,hlb,λX H3 nX s3 hX=>?_];apply#[?k,l,e,H,xs,?f8,wu,lf,?g,hl,dd,?pR,nee,?Is he,hec,pk.ll,Ce,XN,λY H4 nY s4 hY=>?_];show#[X,Y,_,?g,?Iq s4 hX,hY,?Iw hbc.ok.len,?Iw hlo.ok.len,λZ H5 nZ s5 hZ=>?Hy #[Z,?h,?j3 s5,hZ]]};apply Xx λt H3 s3 ht=>?_;intro sq;let ht0:?Ji kk ?pb:=hbc.plus hlo;generalize ?pb=t0 at ht ht0 kq;let ZE:=?pR;obtain⟨va,hva⟩:∃v,lu[kk.toNat]?=?au:=?C2;obtain⟨ps,hps⟩:∃ps,hs[kk.toNat]?=?kD:=?r6;have#[l1,us1,?h,hl1,pa1]:=bb.2 _ _ _ hva hps;have#[pl1,_,WJ]:=?qI;let ul1:=pa1.1;(let egs:?mz ?Dk []=ps:=?xF);rw[?mc]at WJ;rw[egs]at kq;(let A20:eX lu kk=?j ?qL:=?Ll hva ?mc);apply ?Ho (?OA (Br (σ'=?Co) ?DI (?N9 t ?qi) (ChL xs kk ?qi)));{have Cf7:?ab:=?Lc (?OA (Br (σ=?Co) ?lh (?I1 G t ?rP) (?Ji kk ?rP)));apply#[?k,h,lu,?i,?Hv ZE hh,A20,l1,?h,(?MP ZE hl1),?cj (K:=K) (a:=l1) (xs:=us1) Cf7 #[t,?aI,?fL,ht,ht0] (?LJ (?N8 ?nv (?q6 g) hl1)) ?_ ?_];{rintro i v σ G hv C9;ext f;revert σ;apply ?cn;intro t o8 g ZG hch Eg;apply ?M;let ?hK:=pa1.get hv;let JU:=WJ p ?fn;let(?KF tt):=pa;apply ?D;let gz:=?q6 g;(let nec:ga≠d:=λz=>by rw[z,nd1]at xZ;cases xZ);(let oV:Rq ?fe t0 (?kv ?aX)=C4 ?rP (Dm ?G3 p.2.1):=by unfold Rq;rw[qd6,hp,ql5];rfl);let B82:=?zD (?Bv ?G3);apply#[?k,tt,_,?i,?Hv gz XW,?h,?g,ga,d,_,?g,gz _ _ xZ,?Iq (?bL ?px) hd,nec,?xs,?IS ?AM (FT _ _),?el];let gz2:=?vD g2;apply#[?g,tt,_,?i,?Hv gz2 XW,?T,ra,?g,gz2 _ _ e10,?Iw JU.c1.ok.len,?JO ((VF (FT _) JU.m2 ?q4 1).1) JU.m1,?vu];apply(?Id ?Bv);apply ?w1;{rw[hZ,oV]};rw[oV];show B82};rintro σ G C9;revert σ;apply ?cn;intro t o8 g ZG hch Eg;rw[ul1,qd0]at ZG hch;show ?Hy #[t,o8,?h,g,ZG,hch]};apply Ai9 λt o8 H4 s4 ht4 hc4=>?_;intro sq;generalize ?qi=t1 at ht4 hc4 kq;let EL:=?sq;apply ?Ho (Hm λ(bl:Addr) (ub:?bY)=>Kb ?Em ?pk (SqL K H' bl ub) (?rr Az H ub ?fZ) (?Mj ?fZ 40) (∀p∈?fZ,zA xs ?f8 p));{apply ?d3;apply ?aa;{(let h2:0<kk:=?aD);obtain⟨vb,hvb⟩:∃v,lu[?rj]?=?au:=?C2;obtain⟨pb,hpb⟩:∃ps,hs[?rj]?=?kD:=?r6;apply ?M;let#[l2,us2,?h,hl2,pa2]:=bb.2 _ _ _ hvb hpb;let#[pl2,_,wJ]:=pk.ok _ _ hpb;apply ?D;(let eb:?fZ=pb:=by unfold L5;rw[?l3,qa1,hpb];rfl);rw[?z7]at wJ;(let A19:eX lu ?f8=?j (?z l2):=?Ll hvb ?z7);apply#[?k,?i,h,lu,?i,?Hv EL hh,A19,?_];apply ?t _ _ #[l2,us2,?h,?fL,?Hv EL hl2,?cL];{rw[eb];show pa2};{rw[eb];show pl2};rw[eb];show wJ};(let h2:¬0<kk:=?aD);let eb:?fZ=[]:=?ia;apply ?uN;apply ?Hy #[D,[],?h,?gN,?bT,?cL];{rw[eb];show#[?h,λi v p z=>?mN]};{rw[eb];show ?bJ};rw[eb];show λp hp=>nomatch hp};apply VE λbl ub H5 s5 hbl pb pbl okb=>?_;intro sq;generalize ?fZ=qs at pb pbl okb kq;let ubl:=pb.1;let MU:=EL.trans s5;apply ?Ho (?OA (Ee ?Em ?hq (?N9 t (L7 ?cz t1 qs))));{have Cf6:?ab:=?Lc (?OA (Br (σ=?Fp) (?s H5 G) (?I1 G t ?kU) (?Ji kk ?kU)));apply#[?g,bl,?h,#[_,hbl],?cj (K:=K) (a:=bl) (xs:=ub) Cf6 #[t,o8,?h,?fL,s5 _ _ ht4,hc4] (?LJ (by let ?nv:=hz;show g.seq hbl)) ?_ ?_];{rintro i v σ G hv C9;ext f;revert σ;apply ?cn;intro t o8 g ZG hch Eg;apply ?M;let ?hK:=pb.get hv;let JU:=okb p ?fn;let#[tt,?gE,et9,e19,e29,e39,aA,bA]:=pa;apply ?D;let gq:=?mT g;let XW:=gq _ _ et9;let xZ:=gq _ _ e29;let e30:=gq _ _ e39;(let oV:?Ni ?aX=if ?f6 then ?kU else C4 ?kU (Dm (wI ?fk ?cz / p.1) ?fX):=by unfold L7;rw[qd6,hp,ql5];rfl);apply(?MF tt (?l XW));apply ?aa;{(let h2:¬?f6:=?aD);(let p0:0<p.1:=by let:=JU.od;ext d);rw[?ia]at oV;(let hc3:?Ji kk ?fX:=by let:=JU.c3;rwa [?I3 (?f8+1=kk)]at this);(let nec:ga≠e:=λz=>by rw[z,nee]at e29;cases e29);let heG:=(?j3 (?l6 g)) _ _ he;apply#[?k,tt,_,?i,?l XW,?h,?g,ga,e,_,?g,xZ,?w heG,nec,?xs,?IS ?AM ?wB,?el];apply#[?g,tt,_,?i,?l ?n7,?h,?i,Xt.of ?m JU.o30,?_];rw[qg6 _ (?I3 (0<=p.1))];apply#[?g,tt,_,?i,?l ?n7,?T,fa,?g,?MH e30,?Iw JU.c3.ok.len,?JO ((VF (Tz sh _) JU.m2 ?q4 p.1).2) JU.m3,?vu];apply(?Id hc3.times);apply ?w1;{rw[hZ,oV]};rw[oV];show ?zD (hc3.times _)};(let h2:?f6:=?aD);rw[?l3]at oV;show#[t,?g,g,by rw[oV];show ZG,by rw[oV];show hch]};rintro σ G C9;revert σ;apply ?cn;intro t o8 g ZG hch Eg;rw[ubl,qd0]at ZG;show ?Hy #[t,o8,?h,g,ZG]};apply jW λt o8 H6 s6 ht6=>?_;intro sq;let hd6:=(?bL (?j3 (?l6 s6))) _ _ hd;show#[?k,t,d,?i,?w ht6,?w hd6,kq H6 (?mT s6)]
def M9:?I0 ?ho ?bt Jp:=Bg
def W5[?J](F:?Hu ?CC "Work.straighten" Jp)[?I](N9:?JJ "step" 8 ?D7)(Rc:?Hx "is_straight" [?bV] Rt):?Hp 9 ?bt ?xC:=by apply ?I8 M9;ext gB;let#[?e1,M,l,r,U,?c0,ok,nx,k]:=h;let sm:=x.sm;let#[_,dx,fs,hp,?B,_,_,l6,_]:=x.ob;apply ?D;apply#[_,(Ad ?Bu (Ad (Yc qb8 (Em (D8 (?LA Rc ?eD))) (Ag ?Bu)) (Ag (Ch qb8 ?h (?Ic (?N3 (Av (uL ?o) T.n_min UN (Aa ?hG ?eD)))) (?L4 1 M9.nd) (?Nx (?NL Ja ?zz Ah) (?IG ?ao (?N3 ?zz))))))),?_];ext W;apply ?Ho (?MR ?Bk);{show#[?g,p,dx,fs,?h,hp,?AH,?e1,M,l,r,[],?g,x,ok,λL' R' M' l' r' H' #[m,hu] y=>?Hy #[?h,L',R',m,M',l',r',hu,y]]};apply K6 λH1 jV=>?_;intro sq;have#[?tf,x]:=jV;clear ok hp l6;apply ?Ho (?MR (Lat.Straight n w M/\?Bk));{apply#[λm σ' G=>?jO/\∃L R M l r,?rf/\?IF G [],#[m,?td,x],?_];rintro m σ G C9;apply Ad3 ?_;intro _;apply ?M;let#[?td,x]:=C9;let ?sf:=x.ob;apply ?D;replace hrep:=?iO;apply#[?g,?ac,fs,?g,?gD,tv,n,w,M,?h,?qD,?K,?uk,?uk];{apply ?dm;show ?Hy #[?h,?tf,hS,?BZ]};apply ?Jm ?cE;apply#[λσ' G'=>?jO/\∃L R m' M l r,m'<m/\U m' M l r/\?IF G' [],?c1];{rintro σ' G' ⟨rfl,L,R,m',M,l,r,hm,hU,y⟩;show#[m',hm,?td,y]};show#[?g,p,dx,fs,?h,?gn,?AH,?e1,M,l,r,[],?g,?BZ,nx m M l r hU hS,λL' R' M' l' r' H' #[m',hm,hu] y=>#[?h,L',R',m',M',l',r',hm,hu,y]]};ext ta;have#[?tf,hS,x]:=jV;ext HX;replace hrep:=?iO;have ?yy:=J6 hrep;replace hq:=?BV;(let emin:?yk=min n w:=by split<;>first | show zn7 ?kF ?kF | show zna ?kF ?kF | ext d);apply#[?g,?ac,fs,?g,?gD,ta,?a9,?ew,?g,?ac,fs,?g,hp,?ag,?iz,l2,_,?k,?EF,?EF,?_];apply De (lo:=0) (n:=?yk) (λi σ' G=>Ex λo1=>σ'=?vI/\?IF G (UU i M)) ?FQ ?_ ?_;{clear hp hrep hq Kl l1 l2 l3 l4 l5 l6 l7;rintro i σ G hi ⟨o1,rfl,y⟩;rw[emin]at hi;rw[ql2];apply ?M;let ?sf:=y.ob;apply ?D;replace hrep:=?iO;apply ?M;let ?yy:=J6 ?qD;let e:=qa0 (l:=us) (i:=i) ?m;let#[_,b,eb,hb]:=Kl i _ e;apply ?D;rw[eb]at e;apply#[?g,?ac,fs,?g,?gD,?g,ta,_,?i,hq,Bi e,?g,b,_,?i,hb,?km,?h,?g,?_];apply ?aa;{(let h0:¬M i i=0:=?aD);apply#[?g,?ac,fs,?g,hp,?e6,l5,?IN y.nu,?g,?ac,fs,?g,?gD,?g,ta,_,?i,hq,Bi e,?g,b,_,?i,hb,?km,nm,?i,y.nu,?c1];{let:=Ab8 i M;show ?fq};let z:=y.num (ns':=UU ?aX M);rw[Te,?am h0,qb2]at z;show#[?g,by rw[Te,?am h0];show z]};(let h0:M i i=0:=?aD);show#[?g,by rw[Te,?bm h0];show y]};ext i6;apply lU ?_;intro o1 y Eg;rw[emin]at y;show k L R m M l r _ hU hS y
def Ga:?I0 [?a7,"k",?da,"edges","i",?fN] ?s0 Jo:=Bg
def W4[?J](F:?Hu ?pO ?pO Jo)[?I][?lq][?i2](i4:?Jy ?mj ?eL ?xx)[?lr][?HV][?HY]:?Hp 9 ?s0 ?Cc:=by apply ?I8 Ga;let#[a,l,Az,xs,k,us,ps,?a3,hsh,tV,hl,pp,pl,ok,kq]:=h;ext e5;let#[hs,Ce]:=hsh;let h4:=Pq hs;let ul:=pp.1;let pll:?mF<=40:=?jq;apply#[_,(Ad (IL (N':=[?b0,?a7]) (cap:=?t6) (i:=3) Ga.nd ?o ?nM ?o ?aA (?NM B6 (?Hs Bp ?x ?r7)) (?Ht (?L4 0 Aw0)) ?aH (?LP Gv ?F ?BW)) (Ad (Ch qb8 ?h ?xV (?Hq 4 Ga.nd (?L4 5 Ga.nd)) (Ad (?I6 (?LA i4 ?Df) (?OC (Au3 (n:=8) Sa) (?LA Gv ?Df) (?LA Kn ?As))) (Ad (Ci (Em (D8 (Av ?bs ?bg Ff (Aa (Bu (N':=["j",?cS,?fN,"i"]) (cap:=[none,none,?j 5,?j 4]) ?o ?aA ?xV (?Nu WO WO) ?aH (?OQ (?OG (?Hs Tr ?d9 ?wC) (Pz (?NL Eh ?x ?P) Ah Ah)))) Ac)))) ?b5 Bm) (Ag (?Nw (Bu (N':=["edge",?fN]) (cap:=[none,?j 5]) ?o ?aA ?sS (?Ht (?L4 0 Aw1)) ?aH (?OQ (?Hs Hi (?LA Tr (Aa ?eh ?az)) ?wC)))))))) ?b5)),?_];ext W;apply ?Ho (Hm λ ?hW (eu:?bY)=>Br (σ'=(?MX none none)) ?a4 (?LD E eu) (Ec H H' eu ?Fc));{apply#[?k,?i,a,?cA,xs,?a3,?m,?yS];apply#[P,?h,#[_,?Cz],?aM];apply Ck (K:=K) (a:=P) (xs:=?n9 ?aF) (?Lh (Br ?ht ?dJ ((Ec H G ys (?B6 ?iI))) (?IJ [o,?v]))) #[?aT,#[?h,λi v z=>?mN],?aI] (?L6 g hP) ?_ ?_;{rintro i v ys τ G hv C9;revert τ;apply ?bS;intro g Cu dd o Eg;rw[qa9]at hv;let#[q,hq,?h]:=?d2 hv;let hi:=?hO;let ?oq:=Bt ?dM;(let yl:?l4:=by let:=?dh;rw[qa5,qd1]at this;ext d);apply ?bH;apply λd hd=>(?Il q);(let e3:?J3 G q=?qn:=?vo);rw[e3];let s3:?s G ?qn:=?Q hd;let hd3:?p G d ?pe d=?j ?pe:=Ab;generalize ?qn=G3 at s3 hd3;let g3:=?gh s3;apply#[a,d,xs,?g,?zl,hd3,?cE,h4,#[k+1,?c1],λc G4 nc g4 hc=>?_];{let:=(hs q.toNat (?K3 q.toNat) (by rw[qa1,?on];rfl)).cnt;unfold Cc at q2;split at q2<;>ext d};{let:=(?FJ Ce (q:=q.toNat) ?m).chain;rw[?Ib (((q.toNat:Nat):Int)=q),q2]at this;show this};let g34:=?fm g4;apply#[?vg,?b2,?If g34,?X,?g];(let et:?Ja ?pu ?aX ?iI=?B6 ?iI++[?gu]:=by rw[qd6,hq,qb2];rfl);rw[et];(let nd2:?e8:=λz=>by rw[z,?Ie s3]at nc;cases nc);let dd2:=(?ef g34).snoc (c:=c) (m:=?gu) (g3.free nc) hc;show dd2.keep λe kvs _ he=>by rw[Aj λz=>by rw[z,?vg]at he;cases he];show he};rintro ys τ G ⟨g,Cu,dd,_⟩;rw[qa5,qd0]at dd;show ?Hy #[D,ys,?h,?dO,Cu,dd]};apply Ai9 λE eu H1 s1 hE de=>?_;intro sq;(let eul:eu.length=?mF:=by let:=de.1;rw[qa5]at this;show this);apply ?Ho (Hm λo4 o5=>?NR ?CV (?Mm ?Dl));{have Cf5:?ab:=?Lc (Hm λo4 o5=>Ee (σ=?CV) ?ht (?Nk i ?CT=true));apply#[?g,l,?h,?Db,Y0 (K:=K) (a:=l) (xs:=us) Cf5 #[?aS,?fL,?h] (?LJ (?N8 ?nv (?dO) hl)) ?_ ?_];{rintro i v σ G pr hv C9 XM;ext f;revert σ;apply QO ?_;intro o4 o5 g al Eg;let ?hK:=?t2;let hi:=?md;let pk:=?Et;(let epd:ps.getD i dP=p:=by rw[qa1,hp];rfl);(let no:Vm xs ?an ps i=false->?Jr ?Dl:=λz=>by unfold Hz;rw[Bool.eq_false_iff];intro y;let:=qd4.mp y i (qe1.mpr hi);rw[z]at this;cases this);let sp:?s G ?By:=?k0;let hp1:?p G pr ?lJ pr=?j ?lJ:=Ab;generalize ?By=G1 at sp hp1;let g1:=?gh sp;let(?KF t):=pa;let et:=?Ig XW;let e1:=?Ig e10;let e2:=?Ig xZ;let e3:=?Ig e30;apply ?sN;let l1:=pk.c1.ok.len;let l2:=pk.c2.ok.len;let l3:=pk.c3.ok.len;apply ?Ij (Br ?DC ?je ?Br ?zA);rotate_left;{apply#[?k,t,_,?i,?sx,?h,a,ra,xs,?g,?j7,e1,?m,h4,#[k,tV,pk.c1.chain],λG2 g2=>?bH];apply ?aa;{(let h2:?M1 false:=?aD);apply ?ip;let:=no (by unfold Vm;rw[epd,h2];rfl);rw[this]at kq;show kq G2 ?cG};(let h2:?Br:=?aD);let uY:=?cG;apply#[?k,t,_,?i,?Hv g2 et,?h,a,fa,xs,?g,?JT uY,?MH e3,?m,h4,pk.b3,λX G3 nX g3 hX=>?_];let g23:=?gO;apply#[?g,t,_,?i,?Hv g23 et,?h,?g,t,_,?i,?Hv g23 et,?h,p.1,ra,?g,g23 _ _ e1,?m,λy hy=>Hq (m:=9000) (n:=J8) pk.o30 (pk.m1 y hy) ?dq,λY G4 nY g4 hY=>?_];apply#[X,Y,?i,?Iq g4 hX,?w hY,?g,?_];let g24:=g23.trans g4;apply ?p9;{(let h5:?Jr ?xE:=?gm);let:=no (by unfold Vm;rw[epd,h2,h5];rfl);rw[this]at kq;show kq G4 (?cP g24)};(let h5:?zA:=?gm);show ?KG #[?h,g24,h2,h5]};apply Ba9 λG2 g2 b1 b2=>?_;intro sq;let g02:=?cG;apply ?Ij (Ee ?DC ?je ?Go);rotate_left;{apply#[?g,l,?h,(?MP g02 hl),?aM];have Cf4:?aK:=λj ys τ G=>Br (?s G2 G) ?dJ (ys=?JL ?bi j ?l1) (?In [o1,o2,?bD,?co]);apply Qb (K:=K) (a:=l) (xs:=us) Cf4 ?hT (λj ys τ G _ hz=>?No (?qB g) hl) ?_ ?_;{rintro j w ys τ G3 pr2 hw C9 B57;revert τ;apply ?gq;intro g3 Cu yl o1 o2 Eg;let#[p2,hp2,pa2]:=pp.get hw;let hj:=(?br hp2).1;let pk2:=ok p2 ?DU;(let Bm2:?nr=p2:=by rw[qa1,hp2];rfl);let sp2:?s G3 ?BN:=?Q B57;let hq1:?p G3 pr2 ?nE pr2=?j ?nE:=Ab;generalize ?BN=G4 at sp2 hq1;let g34:=?hV sp2;let#[?Hm,e12,_,_,aA2,_]:=pa2.same (?qB g34);let gz:=?ha g34;apply(?IR pr2 (?l hq1));apply#[?g,t,_,?i,?Hv gz et,?h,?g,t2,_,?i,?l et2,?h,ga,ra2,_,?g,?uI,?w e12,λz=>bA (by rw[z];show aA2),?m,λy hy=>Hq (m:=J8) (n:=J8) ?FF (cY pk2.m1 _) ?dq,?zC];apply ?xb;(let fin:∀b:Bool,b=?MO wI->ys++[?bN b]=?JL ?bi ?iy ?l1:=λb hb=>by rw[qi6,qb2,qb2,←yl,hb];rfl);(let Bx8:?l4:=by rw[yl,qa5,qa5,ql4];ext d);let g35:=sp2.trans g5;apply ?aa;{(let h2:j=i:=by (let:?jw=?aw:=?aD);ext d);apply ?BX;rw[?l3,Bm2];show ?Im z};(let h2:¬j=i:=λz=>?JF (?jw=?aw) ?aD);apply ?BX;rw[?ia,Bm2];show ?Im z};rintro ys τ G3 ⟨g3,Cu,yl,_⟩;subst yl;apply ?zd;rw[ul];(let ea:(?Ja ?bi ps.length ?l1).all id=?h0:=?qt);rw[ea];apply ?aa;{(let h2:?Jr ?h0:=?aD);let:=no (by unfold Vm;rw[epd,h2,Bool.and_false,Bool.false_and]);rw[this]at kq;show kq G3 (?qB g3)};(let h2:?Go:=by let:¬?Mm (! ?h0):=h1;cases e:?h0 with| true=>rfl| false=>rw[e]at this;show ?de ?h this);show ?KG #[?h,?gO,h2]};apply EY λG3 g3 b3=>?_;intro sq;let g03:=?cP g3;let de3:=de.same ?su;let hE3:=(?su) _ _ hE;apply(?IW E (?ME hE3));have Cf3:?aK:=λj ys τ G=>Br (?s G3 G) ?dJ (ys=?JL ?pu j ?ox) (?Mx ?bD);apply ?NW Cf3 ?cd (λj ys τ G _ hz=>by ext bu;show ?l ?tp);{rintro j w ys τ G4 hw C9;revert τ;apply ?bS;intro g4 Cu yl o1 Eg;(let hj:j<?mF:=by let:=(?br hw).1;ext d);let ?u0:=de3.2 j w hw;obtain⟨q,hq⟩:∃q,?fa[j]?=?dK:=#[_,qa0 hj];(let eg:(?Fc).getD j []=?gu:=by rw[qa1,qa9,hq];rfl);rw[eg]at hc;let gz:=?nN;(let nec:ga≠c:=λz=>by rw[z,nc]at xZ;cases xZ);(let od0:0<=p.1:=by let:=pk.od;ext d);apply#[?g,t,_,?i,?Hv gz et,?h,?g,ga,c,_,?g,?uI,?Iq g4 hc,nec,?m,?IS ?FF (Tz hs q _),?zC];apply#[?g,t,_,?i,?Hv (?vD g5) et,?T,p.1,?h,od0,?_];(let Bx8:?l4:=by rw[yl,qa5,qa5,qd1];ext d);apply#[?Ie g5,?b2,?J8 ?jp,?X,?g];rw[yl,qd6,hq,qb2,qb2];rfl};rintro ys τ G4 ⟨g4,Cu,yl,_⟩;subst yl;apply ?zd;rw[eul,qd0];(let ea:(?n9 ?ox).all id=?iR:=?qt);rw[ea];apply ?aa;{(let h2:?Jr ?iR:=?aD);let:=no (by unfold Vm;rw[epd,h2,Bool.and_false]);rw[this]at kq;show kq G4 (g03.trans g4)};(let h2:?Mm ?iR:=by cases e:?iR with| true=>rfl| false=>rw[e]at h1;show ?de ?h h1);apply#[_,?g,?IQ ?su g4,?_];rw[qi6,List.all_append,al];exact ?Mm (true&&([i].all ?CT));rw[Bool.true_and,qy6,List.all_nil,Bool.and_true];unfold Vm;rw[epd,b1,b2,b3,h2];rfl};rintro σ G C9;revert σ;apply QO ?_;intro o4 o5 g al Eg;rw[ul]at al;show ?Hy #[_,?g,?dO,al]};apply jW λo4 o5 H2 s2 al=>?_;intro sq;rw[al]at kq;show kq H2 s2
def N2:?I0 [?bV,?bE,"work","left_back",?j5] ?eS Wt:=Bg
def lG[?J](F:?Hu ?qZ ?qZ Wt)[?I](JG:mT P w K mg ?n ?S ?j8 3 ?wJ)(Jx:?JJ ?CC 9 ?xC)(Ia:?JJ ?xD 5 ?ue)[?i4](g8:?I7 ?q3 ?jH ?EC):?Hp 10 ?eS ?wS:=by apply ?I8 N2;have#[v,n,w,A,Fin,?h,hv,hn,hw,hP,k]:=h;have ?Fr:=?hY;have#[U,Y,a1,a2,a3,a4,a5]:=hP.ex;apply#[_,(Ad (?IO g8 ?bl) (Ad (?Hw 2 N2.nd (Py JG hr ?o T.m_Work ?bl)) (Ad (?K7 ?C Jx) (Ad (?K7 ?C Ia) (Ad (?LV 3 N2.nd (?Hs Dp ?kd ?p5)) (?OO (?LV 4 N2.nd (?Hs Dp ?kd ?ak)) (?OU ?q0 ?kd (?N4 ?P ?a5 ?kd)))))))),?_];ext W;apply ?MD (?Na none/\?a4);{apply#[?k,?hx,n,w,A,?h,hv,hn,?m,?ky];apply ?dm;show ?jy};ext g9;apply ?Ho (Xs λp L R nm=>?qJ/\WX K ?A ?S H1 H' p L R nm n w (?j A) ?d4 ?d4 []);{apply#[?k,?_];intro p dx np ndx Av1;let sN:?MC (?Ik (?p H1 dx ?m6) ?S []):=?lB np;show#[H1,p,dx,?hx,n,w,A,?h,sN,np,Ab,?a1 s1 hv,?m,hw,λL R nm H' y=>#[?h,?Hy #[p,L,R,nm,?h,y]]]};apply Ba6 λp L R nm H2 x=>?_;intro sq;apply ?Ho (Ex6 λL R k f l r=>Ds ?qJ (k<=n) (k<=w) (Y k 0 f l r) (?Li k));{apply ?M;let ?nO:=x.ob;apply ?D;apply#[?g,p,?Hi,n,w,A,_,_,U,?c0,a1,a2,λL' R' m M l r H' hU hS y=>?_];apply ?M;let#[k,f,e,k1,k2,hY]:=a3 m M l r hU hS;apply ?D;rw[e]at y;show ?Hy #[L',R',k,f,l,r,?h,k1,k2,hY,y.drop]};apply Ba3 λL R kk f l r H3 k1 k2 hY x=>?_;intro sq;apply ?Ho (Nv λf l r=>Br ?qJ (Fin kk f l r) (?yw kk kk f) (?Li kk));{apply ?M;let ?nO:=x.ob;apply ?D;apply#[?g,p,?Hi,n,w,kk,l,r,f,Y kk,?c0,k1,k2,hY,a4 kk,λd f' l' r' H' hY' hC y=>?_];show ?Hy #[f',l',r',?h,a5 _ _ _ _ _ hY',hC,y]};apply PN λf l r H4 hF hC x=>?_;intro sq;ext tJ;ext tR;have#[dl,fl,hL,e1,e2,_]:=lx.ob;have#[dr,fr,hR,e3,e4,_]:=ly.ob;have#[as1,xa1,_]:=lx.rw;have#[bs1,xb1,_]:=lx.bk;have#[PD,xa2,_]:=ly.rw;have#[bs2,zM,_]:=ly.bk;let EL:=x.same;apply#[?g,?dL,?g,hpa,?f0,l3a,L,?A,dl,fl,?g,hL,?cO,?jc,e2,?g,ta,?a9,?w ((?bG EL).seq hq),?z b1,n,n,l.2,?re,xb1.rep,?K,λD1 c1 H5 hc1 R1=>?_];let MU:=R1.same;apply#[?g,?dL,?g,(MU _ _ hpa),?Hj,?g,(MU _ _ hR),?cO,?k3,e3,?g,?z r2,w,w,r.1,?h,(xa2.same MU).rep,?K,λD2 c2 H6 hc2 R2=>?_];let s46:=?mT ?fp;apply#[?g,?dL,?g,?rS,?e6,l5a,?g,?dL,?g,?rS,?f0,l3a,L,?A,dl,fl,?g,(s46 _ _ hL),?cO,?k3,e1,?k,?g,?dL,?g,?rS,?Hj,?g,(s46 _ _ hR),?cO,?jc,e4,?af,?Bi];let s67:?s H6 (?IL H6 tp [?zv,?z r1,?h9,?dU,?z b2]):=?Q htp;let s47:=s46.trans s67;let vS:=?IH ?bG EL s47;let g1:∀a,?u4->?fK:=?Jf ?fi;apply k tp nm r1 D1 D2 b2 kk f l r _ hF hC k1 k2 #[vS,?bT,?xU,(xa1.same s47).rep,(R1.later ?wf).rep hc1,(R2.later s67).rep hc2,(?s2 s47).rep,?bj];rcases ha with rfl | rfl | rfl | rfl | rfl;{show#[g1 _ ?Dz,_,?xU,?jC]};{show#[g1 _ f1,_,s47 _ _ xa1.2.1,by rw[qa5,xa1.1];ext d]};{show#[g1 _ (EL.free ?lY),_,(?wf) _ _ R1.at,by rw[qa5,hc1];ext d]};{show#[g1 _ (EL.free (MU.free ?jD)),_,s67 _ _ R2.at,by rw[qa5,hc2];ext d]};show#[g1 _ f4,_,s47 _ _ zM.2.1,by rw[qa5,zM.1];ext d]
def EJ:?I0 ?l7 ?l7 Qv:=Bg
def EO[?J](F:?Hu ?sQ ?sQ Qv)[?I](Xa:?JA ?rU ?er ?DJ)(Jy:?Jy ?ng ?sm ?zc)(Xb:?Jz ?rY ?bc ?ud)(Kq:?y P w K mg ?n ?pO ?s0 9 ?Cc):?Hp 10 ?l7 ?v8:=by apply ?I8 EJ;ext gB;let#[a,h,l,Az,xs,lu,wu,hs,lf,?a3,hh,bb,hl,dd,pk,kq]:=h;let ?hj:=T.x_LEVELS;let lul:?EE:=?Aa pk.n4;let Ce:=pk.len;let ?D1:=?fB;apply ?D;apply#[_,(Ad (?I6 (?LA Xa ?E7) (Pt ?Gm (?OC Ja ?lj ?n4))) (Ad (?OX Em (?N2 D8 (?OI Xb))) (Ad (?Nw (?OI Kq)) (?OM (Bu (N':=[?b0,?a7,?da,?d8]) (cap:=[none,?e9,?cT,?gR]) ?o ?aA ?sD (?Ht (?L4 0 Aw4)) ?aH (?LP Jy ?F (?Nv ?C ?P ?az))))))),?_];ext W;cases z;ext tI;(let lev:∀{k:Nat}{v:V},lu[k]?=?au->k<4/\∃(l1:Addr) (u1:?bY) (ps:?AF),v=?qL/\?ty/\H l1=?NH u1/\?rr Az H u1 ps:=λ{k v} hv=>by let hk:=?cy;obtain⟨ps,hps⟩:?CB:=?r6;have#[l1,u1,e,h1,h2]:=bb.2 _ _ _ hv hps;show#[?m,l1,u1,ps,e,hps,h1,h2]);ext HI;{apply#[?k,a,l,xs,wu,lf,?a3,Ce,hl,dd,pk.ll,λi hi=>#[(?yK).1.ok.len,(?yK).1.chain],?ky];apply ?d1;apply(?MJ h ?x5);apply ?d1;apply#[?g,h,?g,?w ?vf,?h,?g,?_];apply ?JY (by rw[lul];simp);show ?jy};ext g9;ext HI;{apply(?IW h #[_,?vf]);have Cf2:?aK:=?Lh (Br ?ht ?dJ ?kR ?sk);apply ?NB Cf2 ?dO;{rintro i v ys τ G pr hv C9 XM;revert τ;apply ?gq;intro g Cu hz1 o1 o2 Eg;subst hz1;apply ?M;let ?EX:=lev hv;let ?yv:=?qI;apply ?D;let sp:?Bh:=?k0;let hp1:?CL:=Ab;generalize ?mx=G1 at sp hp1;let g1:=?gh sp;apply ?sN;apply#[?k,?g,a,l1,Az,xs,?aw,u1,ps,?h,?j7,?FL,?iv g1,pl,ok,nx,?el];apply#[?oa,?jW,?If ?ko,?X,_,?g];rw[ql0,qb2];rfl};rintro ys τ G ⟨g,Cu,rfl,_⟩;apply#[D,?K0 ?ui,?gJ,?g,?_];apply ?dm;show ?Hy #[?h,?dO]};apply K6 ?sg;intro sq;apply ?Ho (Ee ?vH ?a4 ?vk);{apply#[?g,h,?h,(?MP s2 hh),?aM];have Cf1:?aK:=?Lh (Br (?s H2 G) ?dJ (?Nf ys ?ob) ?sk);apply ?NB Cf1 ?hX;{rintro i v ys τ G pr hv C9 XM;revert τ;apply ?gq;intro g Cu hz1 o1 o2 Eg;subst hz1;apply ?M;let ?EX:=lev hv;let ?yv:=?qI;apply ?D;let sp:?Bh:=?k0;let hp1:?CL:=Ab;generalize ?mx=G1 at sp hp1;let g1:=?IQ ?hX sp;(let eps:?mz i []=ps:=?xF);apply ?sN;apply#[?k,?g,a,l1,Az,xs,i,u1,ps,?h,?j7,#[pk.sh,Ce],hi,?FL,?iv g1,pl,ok,?el];apply#[?oa,?Jt ?bR,?If ?ko,?X,_,?g];rw[qi6,qb2,qb2,←eps];rfl};rintro ys τ G ⟨g,Cu,rfl,_⟩;apply#[D,?Ja ?bi ?ui ?ob,?gJ,?g,?_];rw[lul,qr7];apply ?aa;{(let h2:?Jr ?hw:=by cases e:?hw with| false=>rfl| true=>show ?de (show ?Cr from h1) (by rw[e];decide));(let:?Jr ?uj:=by unfold NV;rw[h2];rfl);rw[this]at kq;show kq G ?hX};(let h2:?vk:=by cases e:?hw with| true=>rfl| false=>show ?de (show ?Cr by rw[e];rfl) h1);show ?Hy #[?h,?hX,h2]};apply EY λH3 s3 al=>?_;intro sq;apply#[?g,a,?a9,?w (s3.seq hq),?g,?K,?aM];rw[ZC,qc4];have Cf0:?aK:=?Lh (Br ?lh ?dJ (?Nf ys ?mO) (Ex λo1=>τ=[o1,?v,?dv,?ar]));apply ?Je Cf0 ?cd;{rintro i ys τ G hi C9;revert τ;apply ?bS;intro g Cu hz1 o1 Eg;subst hz1;rw[?nA];let g3:=?px;apply#[?k,?k,a,h,l,Az,xs,i,lu,wu,hs,lf,?h,?zl,g3 _ _ hh,bb.same g3,g3 _ _ hl,?ef g3,pk,hi,?el];apply#[?Fh,?Jt ?bR,?s9 hD,?X,?g];rw[qi6,qb2,qb2];rfl};rintro ys τ G ⟨g,Cu,rfl,_⟩;apply#[D,?Ja ?bi ?cW ?mO,?gJ,?_];rw[qr7];(let:?uj=?Nk ?cW (id ∘ ?mO):=by unfold NV;rw[al];rfl);rw[←this];show kq G ?px
def Ey:?I0 [?a7,?d7,?nj,?sO,"k",?bE,?f5,?jS] [?a7] Wv:=Bg
private def lH[?J](F:?Hu ?rm ?rm Wv)[?I][?Hh](i6:?y P w K mg ?n ?qZ ?eS 10 ?wS)[?i2][?HT](g6:?JB ?nc ?ow ?CF)[?i4](O8:?Jy ?ps ?ee ?xY):?Hp 11 [?a7] ?zg:=by apply ?I8 Ey;have#[a,xs,?a3,hs,CO,kq]:=h;have ?hj:=T.x_LEVELS;ext tT;(let h4:∀x∈xs,x.length<=4:=λx hx=>by let#[i,hi]:=qf9 hx;rcases (hs i x hi).cnt with e | e | e | e<;>ext d);let pl:∀k,?c3<=40:=λk=>?jq;apply#[_,(Ad (?Hw 1 ?d0 ?di) (Ad (?ON 2 ?d0 (?LA Vq (?N3 (?O4 (Aa (?OV Bp ?x4) Ac))))) (Ad (?Hw 3 ?d0 (?LA Vq ?DS)) (Ad (Ch qb8 ?h (?Ic ?z4) (?L4 4 ?d0) (Ad (?Hw 5 ?d0 (?O4 (?N3 (?OV Bp ?At)))) (Ad (Ao (i:=6) ?d0 (?LA i6 (Aa (?Hs Nm ?P (Aa (?OV O8 ?At) ?cM)) ?cM))) (Ad (?OY ?F (?Hs g6 ?x (?Nv ?a5 ?bI (Aa ?C ?eW)))) (Ad (?Hw 7 ?d0 (?LC ?Bc)) (Ad (?LV 2 ?d0 (?O5 (?Hs Dp ?fP ?cM) ?F4)) (?NQ 3 ?d0 (?O5 ?fP ?F4)))))))) ?r3)))),?_];ext W;apply ?Ho (Ex λ ?cQ=>Br (?LB ?aC none none) ?a4 ?cU ?BA);ext HS;apply Iy λD H1 s1 nD hD=>?_;intro sq;apply ?Ho (Ex λ(la:Addr)=>Br (?LB ?aC ?b6 none) ?po (la≠D) (Rep K H' ?rV ?Bb));{apply#[?g,a,0,?f2,?cv,?m,?AO];apply ?rh;rw[qa5];show#[?go,?h,?vC,λla at_ H3 hal R3=>?Hy #[la,?h,?yE,?EL,RJ ?qj]]};apply Iy λla H2 s2 nlD hla=>?_;intro sq;apply ?Ho (Ex λ(ga:Addr)=>Br (?LB ?aC ?b6 ?aL) ?hN (ga≠D) (Rep K H' ?lo ?Bb));{apply ?M;let#[_,lu,ez,hlq,A04,_]:=J6 hla;apply ?D;cases ez;apply ?AQ;rw[A04];show#[?go,?h,?vC,λga at_ H3 hal R3=>?Hy #[ga,?h,?kw,?EL,RJ ?qj]]};apply Iy λga H3 s3 ngD hga=>?_;intro sq;let ZE:=?IQ ?en s3;apply ?Ho (Aq2 K H a D xs 4 σ' H');{apply ?Fz;apply ?KH (λk σ G'=>Aq2 K H a D xs k σ G') ?_;{apply#[[],[],la,ga,?go,?fG,?fG,?B,?g,ZE,(?ds) _ _ hD,?h,Qg.first xs,?qm,nlD,ngD,?a1 s3 hla,hga,?_,?sa,one_bits _ _,one_bits _ _];(let e0:C8 xs (?AT-1)=0:=by exact(Cj xs (0-1)).length=0;rw[zZ];rfl);rw[e0];show Lat.Lev.first _ _};{rintro k σ G' hk C9;ext f;apply ?M;let#[us,ls,la,ga,z,L,G,o4,o5,o6,o7,?h,g,Cu,UW,CP,hB,nla,nga,rla,rga,lev,hzm,bL,bG]:=C9;apply ?D;rw[?I3 (?c4+?an=?an)];let Db0:=pl ?an;let C96:=pl ?cA;(let hzw:z+?dz<=16:=by let:=vX (xs:=xs) (?I3 (?an≠?cA));ext d);let ZC:?IU k:=hB.1.trans UW;let ekk:?cA-1=?an:=?m;let XR:=?r0;apply ?Ho (?NK o6/\?Ly G');{apply#[?k,?i,a,?cA,?f2,XR,?m,?AO];apply ?rh;rw[qa5];show ?Hy #[?h,s2]};apply K6 ?yM;intro sq;let tw:=OM hs ?an;let told:=lev.told tw;let#[pv,st]:=lev.st;let plan:=uO st told (λq c _ _=>zO h4 _ q c) hzw;apply ?Ho (MT λ(tp nm r1 D1 D2 b2:Addr) (k0:Nat) (f:?g3) (l r:?dT)=>Ds ?F6 ?je ?wh (PJ D nm r1 D1 D2 b2) (?Lj US ?an));{apply#[?k,?g,?i,a,xs,?cA,?h,?JT ?gQ,?m,h4,?K,λT as G2 hal R2=>?_];rw[ekk]at hal;let rT:Rep K G2 ?eQ (dT ?me ?dz ?ss):=R2.rep hal;apply#[?g,?lo,?eQ,z,?me,?dz,G,?ss,?h,?a1 ?yn rga,rT,?K,?m,λi j c hi hj hc=>Hq (bG i j hi hj) (nG h4 _ j c) (by unfold bookF;decide),λT2 PD G3 A21 R3=>?_];apply#[?g,?sK,z,?dz,Lat.gT ?me G ?ss,?g,R3.rep A21,?K,plan,λtp nm r1 D1 D2 b2 k0 f l r G4 hF hC k1 k2 x=>?_];show ?Hy #[?tc,k0,f,l,r,?h,(?iU ?kw).trans ?fD,x.r,x.ne (((?yn).trans ?kw) _ _ Cu),#[lev,hF,hC,k1,k2,bL,bG,hzm]]};apply Aq7 λtp nm r1 D1 D2 b2 k0 f l r G2 g2 x xn bl=>?_;intro sq;let uY:=?cG;apply ?Ho (Ex λ(us':?bY)=>Ds ?F6 ?a4 (?c9=?NH us') (Hn D H' us' ?ym) ?wh);{apply#[?g,?IN ?Ge,?k,?k,?g,a,?tc,?rV,?lo,xs,?an,z,k0,_,L,G,f,l,r,?h,?JT (?ax uY),Ce,?h,?a1 uY rla,?a1 uY rga,x,?m,bl.kz,bl.kw,λi hi=>by let:=bl.fin.dg.pos i hi;ext d,bl.fin.bl.1,bl.fin.bl.2,bL,bG,λE eu G3 nE g3 hE rE=>?_];let g13:=uY.trans g3;apply#[D,?i,?rv,?b2,?_];(let nED:E≠D:=λq=>by rw[q,?Ge]at nE;cases nE);apply ?Hy #[us++[?fA],?h,?Me ?ax g13 nD,?X,?_];{show(hB.same g13).snoc ?rv nED hE rE};show(?fD g3).put xn ?rv hB.refs};apply Ba8 λus' G3 g3 A28 hB3 x3=>?_;intro sq;apply ?Ho (?NG ?b6/\G3=H');{apply#[?g,tp,_,?i,?op,?h,nm,?g,?w x3.num,?_];rw[Bw];show ?bf};rintro _ _ ⟨rfl,rfl⟩;let hkw:=bl.kw;apply ?Ho (Ex λ(la2:Addr)=>Br (?NG (rS la2)) (?Ly G3) (la2≠D) (?Lg H' la2 (dT ?Da ?dz ?DF)));{apply#[?g,tp,_,?i,?op,?h,?g,?dU,_,_,?g,x3.right,?K,λF as G4 hal R4=>?_];apply#[?k,F,?g,?l R4.at,?dQ];(let ec:Fj ?cY (?j ?iP) ?Y=?Ja as.drop k0 ?cI:=by rw[Np,qq5]);rw[ec];let R5:=R4.drop (k:=k0) hC ?h;apply ?Hy #[C,?h,R5.same,(Aq (?qY _ _ A28) hC).symm,?_];show R5.rep (by rw[qj3,hal])};apply Iy λla2 G4 g4 B20 B03=>?_;intro sq;let x4:=x3.same g4;apply ?M;let#[_,bu,ez,hbq,B84,Bk1]:=J6 x4.rback;apply ?D;cases ez;apply#[?g,tp,_,?i,?sY,?h,?k,b2,bu,?h,hbq,?dQ];rw[Np];let g5:=?Q (o:=?L (bu.drop k0)) hC;apply#[us',?ym,la2,C,?Da,?DF,(λi=>r.2 ?zp),?B,?g,?IQ ?nN g5,(?jp) _ _ A28,by rw[qc3,UW];rfl,CP.snoc bl,hB3.same ?jp,B20,(Aq (g4 _ _ A28) hC).symm,?cL,?cL];{rw[?g1];show ?a1 g5 B03};{rw[?g1];apply Af0 (us:=bu) (λi u e=>?_) B84 ?bT;apply ?M;let#[h1,b,eb,hb]:=Bk1 i u e;apply ?D;show#[h1,b,eb,g5.seq hb]};{let#[pl',lo]:=bl.fin.lo;let:=lev.next tw bl.fin.dg bl.fin.il bl.fin.ir lo;rw[?g1,ekk];show this};{rw[?g1];ext d};{rw[?g1];show λi c hi hc=>bl.fin.br.1 _ _ ?m hc};rw[?g1];show λi c hi hc=>bl.fin.br.2 _ _ ?m hc};rintro σ G' h;show ?Hy h};rintro _ H4 ⟨us,ls,la',ga',z,L,G,o4,o5,o6,o7,rfl,g,Cu,UW,CP,hB,_⟩;show#[?g,kq D us ls H4 nD g Cu UW #[?B,CP] hB.out]
def So:?I0 [?aZ,?cF,?oG] ?nb Ou:=Bg
def cC[?J](F:?Hu ?js "Book.__init__" Ou)[?I](i7:?y P w K mg ?n ?rm [?a7] 11 ?zg)(g7:?I7 ?rB ?tA ?Cm)(g9:?JA ?qK ?cg ?u6)(Km:?Hx "without_borders" ["parts"] M3):?Hp 12 ?nb ?AB:=by apply ?I8 So;let#[p,dx,a,us,H0,?f2,hp,ha,r,s0,n0a,n0p,hs,CO,k]:=h;ext tT;let hL:LT K H ?eM xs:=(?M5 a ha s0);(let nap:a≠p:=λz=>by rw[z,hp]at ha;cases ha);apply#[_,(Ad (?IO g9 ?ak) (Ad (?IB ?oH) (Ad (?Hw 2 So.nd (?LA i7 ?eD)) (?OS (Fr (K:=K) ?x (?Nz "parts" Aw7 (?LA Km ?az))) (?NC g7 ?ao ?bC))))),?_];ext W;apply ?Ho (?wk/\?a4);{apply#[?g,?eM,xs,?a3,hs,Ce,?ky];show Nk ?N ?jy};ext g9;apply ?Ho (Ex λ ?Cd=>Kb ?wk ?A7 (H' P=?dl) (P≠p) (P≠a) (?Nr ?b1 [?mr]));{apply#[?g,a,?a9,?w (?l ?Gq),λP hP=>?_];let s2:=?bG (?Q (o:=?et) hP);let nPp:P≠p:=(Aq ?gn hP).symm;apply#[?g,?gI,[],?h,?II hp,?e0,?r8,?f1];show ?Hy #[P,?h,?M4 s2,?Mr nPp,nPp,(Aq ?Gq hP).symm,?ra]};apply Aj1 λP H2 sx2 hP2 nPp nPa hp2=>?_;intro sq;let s02:=?w9 s0 n0p;let ha2:=sx2 _ _ nap ha;apply ?Ho (Nv λ ?cQ ?nJ ?uP=>L6 ?yZ ?hN (?c9=?pm) ?rs (Rp H' bu ls) (ls.length=4) (∃z L G,Qg xs 4 ls z L G));{apply#[?g,?gI,_,?g,hp2,?e0,?r8,?h,P,?f2,(?M5 P hP2 s02),hs,CO,λD bu ls H3 nD s3 hD hl4 CP hB=>?_];show ?Hy #[D,bu,ls,?h,s3,hD,(Aq hp2 nD).symm,hB,hl4,CP]};apply Ai4 λD bu ls H3 s3 hD nDp hB hl4 Bi7=>?_;intro sq;let CP:=let #[?B,t]:=Bi7;Qg.lev t;let hp3:=?Is hp2;let ha3:=?Is ha2;let h0:=hB.1;apply ?Ho (Hm λ(Lv:Addr) ?fy=>Zt ?yZ ?Al (H' Lv=?gr) ?Gl ?Dv (Rp H' ws ?hB) ?wo (?Nr ?b1 ?GV));{apply#[?g,D,?h,?DP,λLv hLv=>?_];let nLp:?Gl:=(Aq hp3 hLv).symm;let nLa:?Dv:=(Aq ha3 hLv).symm;have Ce9:?aK:=λi ws τ G=>Ds ?lh (G Lv=?gr) (Hn Lv G ws (?Ja ls.take i Lr)) ?wo ?f4;apply Ck (K:=K) (a:=D) (xs:=bu) Ce9 #[?Q hLv,Ab,?qm,(λv hv=>?AD),?aI] (λi ws τ G _ hz=>?No g hD) ?_ ?_;{rintro i v ws τ G hv C9;revert τ;apply XC ?_;intro g XR hW hna o Eg;let hi:=?cy;obtain⟨ps,hps⟩:?Ag:=?ct;let ?Fu:=?vN;let hpl:=(CP i ps hps).len Ce;(let wl:ws.length<=i:=by let:=hW.1;rw[qa5,qd1]at this;ext d);apply#[?g,pa,pu,ps,?h,?pY,rP.same g,?m,λE eu G2 nE g2 hE rE=>?_];let nEL:E≠Lv:=(Aq XR nE).symm;apply#[?GO,?b2,?s9 hLv,?X,?sy,?g];{rw[qd6,hps,qb2];show(hW.same g2).snoc ?GO nEL hE rE};rcases ?Cv with hv | hv;{show hna v hv};rw[qg3]at hv;subst hv;show λz=>by cases z;rw[?Nn ha3]at nE;cases nE};rintro ws τ G ⟨g,XR,hW,hna,_⟩;rw[h0,qd0]at hW;apply#[?g,?gI,?g,?of,?e0,?zM,?f1];apply ?Hy #[Lv,ws,?h,?M4 g,by rw[Aj nLp];show XR,nLp,nLa,?x6,hna,?ra];let#[E,eu,?T,hE,rE]:=?y6;apply#[E,eu,?bM,?KP ?_];{rw[?fH];{show hE};rw[z,?of]at hE;cases hE};rw[?fH];{show e};rw[z,?of]at e;cases e;rcases ho with⟨_,q⟩|⟨_,q⟩<;>cases q};apply Ba7 λLv ws H4 sx4 hLv nLp nLa hW hna Uw=>?_;intro sq;let s04:=?F0 (?yQ s3) n0p;let hP4:=sx4 _ _ nPp (?Is hP2);let GK:=sx4 _ _ nDp hD;let ha4:=sx4 _ _ nap ha3;let kd4:∀c o,H3 c=?cJ->(∀C d f,o≠?aU C d f)->H4 c=?cJ:=λc o e h=>sx4 _ _ (λz=>by rw[z,hp3]at e;cases e;show h _ _ _ ?h) e;let hB4:Rp H4 bu ls:=#[h0,λi v ps e1 e2=>by let ?u7:=hB.2 i v ps e1 e2;show#[E,eu,?h,kd4 _ _ hE λ_ _ _ z=>?zZ,?KP (kd4 c o e λ_ _ _ z=>by rcases ho with⟨_,q⟩|⟨_,q⟩<;>rw[q]at z<;>cases z)]];apply#[?g,?gI,_,?g,Uw,?e0,?r8,?h,?g,P,D,xs,bu,ls,?h,(?M5 P hP4 s04),Ce,GK,hB4,λps hps=>?_,λLf wu H5 nLf s5 hLf dd=>?_];{let#[i,hi]:=qf9 hps;show(CP i ps hi).ok Ce};let nfp:Lf≠p:=(Aq Uw nLf).symm;let nfa:Lf≠a:=(Aq ha4 nLf).symm;let LV:=s5 _ _ Uw;apply#[?g,?gI,?g,LV,?e0,T.na_Book_lifts,?f1];(let hp6:?p H5 p ?vJ p=?Lr ?b1 [?mr,?BF,(?d8,?EH)]:=?ra);let JY:?MN H5 ?Er:=?c8;generalize ?Er=H6 at hp6 JY;let ha6:=?Jw nap ha4;let s06:=JY.same (?Cp s5) n0p;let sB:=xP s06 n0a;(let kd6:∀c o,H5 c=?cJ->((∃l,o=?aG l)\/∃l,o=.dK l)->tY H6 a c=?cJ:=λc o e ho=>by (let ncp:c≠p:=λz=>by rw[z,LV]at e;cases e;ext Hf);let e6:=JY c o ncp e;rw[Oa ?k7];{show e6};rw[z,ha6]at e6;cases e6;ext Hf);apply k (tY H6 a) ls H6 ((?IH sx2.trans (?dI s3) sx4).trans (?IH ?dI s5 JY)) #[#[dx,P,Lv,Lf,ws,wu,?_,#[P,?a9,?x2,?ay sB r],?_,?x6,?_,?dh,λi v e=>?_],hs,Ce,hl4,CP,Bi7] sB TX QV;{rw[Oa nap.symm];show hp6};{rw[Oa nPa];show ?Jw nPp hP4};{rw[Oa nLa];show ?Jw nLp hLv};{let ?u7:=?y6;let hE5:=s5 _ _ hE;(let nEp:E≠p:=λz=>by rw[z,LV]at hE5;cases hE5);let nEa:E≠a:=λz=>hna _ (qa6 e1) ?pJ;show#[E,eu,?h,by rw[Oa nEa];show JY _ _ nEp hE5,Cd.kd kd6 (rE.same s5)]};{rw[Oa nfa];show JY _ _ nfp hLf};let#[c,e1,_,e2]:=dd.2 i v e;show#[c,e1,?h,kd6 _ _ e2 (?V ?cm)]
def Qr:?G [?eF,?eZ,?Ee,?dP,?is,?oN,?dx,?Cn] [?eF] ?Bt:=Bg
def Au8[?J](F:?Hu ?j4 ?j4 N4)[?I](Tw:?I7 ?qN ?sC ?vR)(jH:mT P w K mg ?n ?b1 ?nb 12 ?AB)(Tv:?y P w K mg ?n ?sQ ?l7 10 ?v8)(Xf:?Hx "_law_cell_at" [?eF,?is] X5)(Kr:?JB ?rL ?q7 ?Gy)(Tq:Mu P w K mg ?n ?b1 "lift" [?aZ,?b0] 1 (KI K ?b1))(Rb:Mu P w K mg ?n ?b1 ?da ?kh 4 ?w0):?Hp 14 [?eF] (Mi K):=by apply ?I8 Qr;have#[a,ns,?h,hS,hl,Ct0,kq]:=h;apply#[_,(Ad (?ON 1 ?dR (?Hs Tw (?LA Xf ?x4) (Aa ?Ay ?hZ))) (Ad (?Hw 2 ?dR (Py jH hr ?o T.m_Book (?N3 ?oH))) (Ad (?Hw 3 ?dR ?di) (Ad (Ch qb8 ?h ?vm (?L4 4 ?dR) (Ag (B7 (Jw (K:=K) qf4 qi4 qi3 Hg ?P (Aa (Bu (N':=[?vO]) (cap:=?fl) ?o ?aA (?I9 B6 (Eu ?C ?e0 Rb hr ?eE)) (?Ht (?L4 0 Av4)) ?aH (?Ht (?OU ?sU ?mn (?L5 ?mn ?mn)))) Ac))))) (Ad (Ao (i:=5) ?dR (?OP ?P (?N3 (Bu (N':=[?iH,?Ee]) (cap:=?v6) ?o ?aA (?Ic ?wP) (?Ht (?L4 0 Av5)) ?aH (?Ht (?LU (Aa (Eu ?F ?e0 Tq hr ?az) Ac))))))) (Ad (Ch qb8 ?h (?I9 B6 ?Ay) (?L4 6 ?dR) (Ag (?LV 5 ?dR (?Hs Kr ?F (Aa ?aQ ?ea))))) (?OO (?LV 7 ?dR (?Hs Tv ?oH ?As)) (Nf (Av ?ri ?ek B9 (?L5 ?av (?O2 "bool" T.n_bool dS))) (Lq ?av))))))))),?_];ext W;apply ?Ho (Nv λ(p1:Addr) ?t4 (xs:LLInt)=>Kb (?LB ?eR none none) ?a4 (H' p1=?dl) (?Mu H' us (xs.map tI)) (Bn xs) (xs.length<=16));{apply#[?g,a,ns,0,?h,hS,?N,hl,?k,?g,a,?g,hS,?dQ];let sC:?Ks C (?L (Fj ?eX ?ja ?m7)):=?g5;let hcl:=YG ns ?ja ?m7;apply#[C,mG ns ?ja ?m7,_,16,?bM,?m,?N,?N,λp1 us1 H1 zs hp1 s1 B60 r1 hsh hzl=>?_];{rw[←MF];show ?bT};show ?Hy #[p1,us1,zs,?h,?pS,B60,r1,hsh,?m]};apply Ai5 λp1 us xs H1 s01 hp1 r hs CO=>?_;intro sq;ext tT;let h4:=Pq hs;apply ?Ho (Nv λ(p:Addr) (B:Hp) ?uP=>Br (?LB ?eR ?a2 none) (jU K ?b1 B p xs ls) (?MC B) ?pp);{apply#[?g,p1,?a9,?w ?s4,λC nC=>?_];let s2:?MC ?yF:=?Q nC;let hC:?p H1 C ?et C=?dl:=Ab;generalize ?yF=H2 at s2 hC ⊢;intro p dx np ndx Av1;let s3:?s H2 (?Ik (?p H2 dx ?m6) ?b1 []):=?lB np;apply#[p,dx,C,us,H1,?f2,Ab,?Is hC,r,?ds,nC,?iK np,hs,CO,λB ls H4 sx bk s1B sBH nB=>?gv];show ?Hy #[p,B,ls,?h,bk,s1B,sBH]};apply PN λp B ls H4 bk s1B sBH=>?_;intro sq;let hLB:LT K B (?z p1) xs:=#[p1,?a9,?Hv s1B hp1,?ay s1B r];have#[dx,P,Lv,Lf,lu,wu,hp,_]:=bk.ob;ext tI;have#[z_,L_,G_,zs,ks,Ls,Gs,fs,lp,rp,ti,_]:=bk.tie;let n4:=bk.n4;apply ?Ho (Ex λ ?hW=>Br (?LB ?eR ?a2 ?bF) ?pp (?Lp B E) (H' E=?t3));{show#[?bJ,λE hE=>?Hy #[E,?h,sBH.trans ?kJ,sBH.free hE,Ab]]};apply Iy λE H5 s5 nE hE5=>?_;intro sq;apply ?Ho (?Np (Ds (σ'=?Ev) ?pp (H' E=?gj) (BasesN A H' E ys ?hB) (Wb A H')));{apply ?Fz;have Ce8:?ab:=?Lc (?Np (Ds (σ=?Ev) (?s B G) (G E=?gj) (BasesN A G E ys (?Kg ?hB)) (Wb A G)));apply ?KH Ce8 #[?gV,[],?aI,s5,hE5,?qm,λc z=>z.elim];{rintro i σ G hi C9;ext f;revert σ;apply ?id;intro A ys o4 g ZH bn ao Eg;rw[?nA];let hi:i<4:=hi;(let yl:?Kn 4:=by let:=bn.1;ext m2);apply#[?g,?IN ZH,?g,p,dx,?g,?Nn hp,?h,?g,p,?aw,?te,g,?K,λps' D us' G1 Ae2 nD g1 hD rP=>?_];(let hps:?Kb ?hB ?ka:=by rw[qa9];rw[qc4]at Ae2;rw[Ae2];rfl);let g01:=?gQ;(let nDE:D≠E:=λz=>by rw[z,ZH]at nD;cases nD);let hE1:=?Ig ZH;let upl:=rP.1;(let hpl:?Mj ?ka 40:=by rw[qc4]at Ae2;show qa4 ?vS ((bk.lev _ _ Ae2).len Ce));apply#[D,?h,?DP,?dQ];(let nCE:C≠E:=λz=>by rw[z,hE1]at hC;cases hC);have Ce7:?aK:=λm zs τ G2=>Br (?s G1 G2) (G2 C=?ld) ((∃A2,Kv A A2 G1/\?rr A2 G2 zs ((?ka).take m)/\Wb A2 G2)) ?f4;apply Ck (K:=K) (a:=D) (xs:=us') Ce7 #[?g5,Ab,#[A,?pq,?ye,?cR (?gg g1)],?aI] (λm zs τ G2 _ hz=>?LM #[g2,_] g2 hD) ?_ ?_;{rintro m v zs τ G2 hv ⟨g2,hCG,⟨A2,zI,pp2,uQ⟩,o,rfl⟩;let hm:=?cy;apply ?M;obtain⟨q,hq⟩:∃q,?ka[m]?=?dK:=?ct;let#[t,c1,c2,c3,?T,XW,d10,d20,d30]:=rP.2 m v q hv hq;apply ?D;let et:=?n7;let d1:=?MH d10;let d2:=?MH d20;let d3:=?MH d30;(let zl:?w5:=by let:=pp2.1;ext m2);apply#[?g,t,_,?i,?sx,?h,?g,t,_,?i,?sx,?h,dF (d1) λa1 J1 h1 f1 x1=>?_];apply(?Mz f1 (f1 _ _ d2) (λa2 J2 h2 f2 x2=>?_));(let n21:a2≠a1:=λz=>by rw[z,x1]at h2;cases h2);let f12:=?yY f2;apply(?Mz f12 (f12 _ _ d3) (λa3 J3 h3 f3 x3=>?_));apply ?pI ?af λt' J4 ht' f4 x4=>?_;let f34:=f3.trans f4;let f24:=f2.trans f34;let f14:=?yY f24;let hC4:=f14 _ _ hCG;apply#[hC4,?b2,?Me ?ha f14 hC,Ab,#[Zk A2 a1,?FX,?_,?Lx ?hC f14 ?Cb],?g];{rcases x with x | rfl;{show ?sj};show g2.free h1};rw[qd6,hq];apply PartsA.snoc (((pp2.grow (?l0 h1)).same f14).put hC4) (Fp.put ?_ hC4);show ?ge (p:=q) x4 ?Cb (f34 _ _ x2) (f4 _ _ x3) ?cH λz=>by ext i9;{show uQ.out (f1.free h2) z};show n21 z};rintro zs τ G2 ⟨g2,hCG,⟨A2,zI,pp2,uQ⟩,_⟩;rw[upl,qd0]at pp2;let hE2:=?MH hE1;apply#[E,ys,?g,?h,hE2,?b2,?_];apply#[A2,_,?g,?Me g01.trans g2 nE,?X,?cR uQ];rw[qd6,hps];show bn.snoc ?cG #[zI.sub,λc x n=>?qW ?sj] hE2 hCG nCE pp2 _};rintro σ G C9;revert σ;apply ?id;intro A ys o4 g ZH bn ao Eg;rw[qh5 (by rw[qa5,n4];show qa3 4)]at bn;show ?Hy #[A,ys,o4,?h,g,ZH,bn,ao]};apply Ai6 λA ys o4 H6 s6 hE6 bn ao6=>?_;intro sq;let B59:=?sh s6;let B14:=WD hs ti Ce;apply ?Ho (Hm λ ?fu ?hz=>Ee (σ'=(?Ln none none)) (?Ly H6) (Zp A' H' T ?hB ?h5));{apply#[?k,p1,?a9,?MB B59 hp1,?g,?K,?aM];rw[ZC,qc4];have Ce6:?aK:=λi zs τ G=>Ds (?s H6 G) ?qh (Ec ?rR G zs (?Kg ?h5)) ((∃A2,Kv A A2 H6/\AH A2 zs/\?Ae)) (?IJ [o,?a2]);apply ?Je Ce6 #[?aT,?BQ,#[A,?pq,λv hv=>?AD,?cR ao6],?aI];{rintro i zs τ G hi ⟨g,Cu,dd,⟨A2,zI,la2,uQ⟩,o,rfl⟩;rw[?nA];let gB:=?rI g;(let zl:?w5:=by let:=?dh;ext m2);apply#[?g,p,dx,?g,gB _ _ hp,?h,?g,p,?aw,?te,gB,?K,λD1 G1 nD1 g1 Eb=>?_];rw[qc4]at Eb;apply#[D1,?g,?w Eb,?dQ];let f1:?s G1 ?Cu:=?g5;let x1:?p G1 C ?oo C=?j ?oo:=Ab;generalize ?Cu=J at f1 x1;let gJ:=?cP f1;let hDJ:=?Ie gJ;(let hlg:?Kb ?h5 ?zE:=?Ke ?xA);apply#[hDJ,?b2,?If gJ,?X,#[Zk A2 C,?FX,?sy,?Lx ?hC gJ x1],?g];{rw[qd6,hlg];show Ec.snoc ((?ef gJ).keep λc kvs _ e=>?Jk (λz=>by rw[z,hDJ]at e;cases e)) ?h (by rw[Aj λz=>by rw[z,hDJ]at x1;cases x1];show x1)};{rcases x with x | rfl;{show ?sj};show ?qg (?qW hC)};rcases ?Cv with hv | hv;{apply ?M;let ?zU:=la2 v hv;apply ?D;show ?zV};show#[C,qg3.mp hv,?cH]};rintro zs τ G ⟨g,Cu,dd,⟨A2,zI,la2,uQ⟩,_⟩;rw[qh5 ?xA]at dd;apply ?vV;let s2:?s G (?IL G T [?fA,?hA]):=?lX;apply ?Hy #[T,A2,?h,?GJ,#[E,D,zs,Ab,#[ys,s2 _ _ (?Nn hE6),(bn.out.grow zI).same ?GJ,?hC s2],s2 _ _ Cu,?ef s2,la2]]};apply jW λT A7 H7 s67 hP7=>?_;intro sq;let s7:=?rI s67;let hS7:=(?IH s01.trans s1B s7).seq hS;apply ?Ho (?Ng (Br (σ'=?y8) ?rX (Zp A' H' T hs' e9) (∃j,j<=6/\Xr xs hs' e9 j)));{apply#[?k,?g,a,?g,hS7,?dQ];let s2:?s H7 ?DV:=?g5;let x2:?p H7 C ?qk C=?j ?qk:=Ab;generalize ?DV=J at s2 x2;rw[MF]at x2;(let c6:?Mj ?C1 6:=by unfold mG;rw[qd1,qj3];rw[?Ko (HT.sIx ?eJ ?eJ ?n8) 7 7,?Ko (HT.sIx ?eJ 0 ?cT) 1 1];show c6 _);apply#[C,?h,(?ME x2),?_];have Ce5:?ab:=?Lc (?Ng (Br (σ=?y8) (?s J G) (Zp A' G T hs' e9) (Xr xs hs' e9 i)));apply ?cj (K:=K) (a:=C) (xs:=?JU ?C1) Ce5 #[T,A7,_,_,?aI,?fL,hP7.same s2,B14] (?LJ (?N8 ?y4 g x2)) ?_ ?_;{rintro i v σ G hv C9;ext f;revert σ;apply ?j9;intro T A' hs' e9 o6 g hPG Au2 Eg;rw[qa9]at hv;apply ?M;let#[c,hc,?h]:=?d2 hv;apply ?D;let hi:=(?br hc).1;show#[?k,?g,p1,T,c,A',xs,hs',e9,i,?h,?a1 (?IH ?ii s2 g) hLB,hs,#[Ce,?m],hPG,Au2,λT2 A2 hs2 lf2 G2 g2 hP2 B13=>#[T2,A2,hs2,lf2,?g,?s5,hP2,B13]]};rintro σ G C9;revert σ;apply ?j9;intro T A' hs' e9 o6 g hPG Au2 Eg;show ?Hy #[T,A',hs',e9,o6,?h,?hX,hPG,_,by rw[qa5];show c6,Au2]};apply Ai3 λT A' hs' e9 o6 H8 s78 hP8 zr2=>?_;intro sq;have#[j,hj,Bf1]:=zr2;have#[hd,ld,wu8,hT8,#[lu8,B75,bb8,ao8],hld8,dd8,_]:=hP8;let s8:=?ii s78;let pk:=Bf1.pap hj hs Ce;apply ?Ho (σ'=(?Ln o6 (?j ?n6)));{apply#[?g,p1,?a9,?MB (?sh s8) hp1,?dQ];let s2:?s H8 ?A5:=?g5;let x2:?p H8 C ?et C=?dl:=Ab;generalize ?A5=J at s2 x2;apply#[?g,T,_,?i,?Hv s2 hT8,?h,?g,T,_,?i,?Hv s2 hT8,?h,C,hd,ld,A',xs,lu8,wu8,hs',e9,?h,(?M5 C x2 (?IH ?sh s8 s2)),?II B75,bb8.same s2,?II hld8,dd8.same s2,pk,λH' s'=>?_];rw[Ad2 Bf1.L hs Ce];show ?Hy ?h};rintro _ H9 rfl;apply#[?g,?n6,"bool",?n6,?h,?Dw,?h,?dG,?bM];apply ?ip;show#[?g,kq H9]
universe e9
def J0[?gA](h:∀a0,P [a0])[?gH](hl:?IU 1):?f9:=by cases us with| nil=>ext aY| cons a0 u0 =>cases u0 with| nil=>show h a0| cons _ _=>simp at hl
def Ei[?gA](h:∀a0 a1,P [a0,a1])[?gH](hl:?IU 2):?f9:=by cases us with| nil=>ext aY| cons a0 u0 =>cases u0 with| nil=>ext aY| cons a1 u1 =>cases u1 with| nil=>show h a0 a1| cons _ _=>simp at hl
def F8[?gA](h:∀a0 a1 a2,P [a0,a1,a2])[?gH](hl:?IU 3):?f9:=by cases us with| nil=>ext aY| cons a0 u0 =>cases u0 with| nil=>ext aY| cons a1 u1 =>cases u1 with| nil=>ext aY| cons a2 u2 =>cases u2 with| nil=>show h a0 a1 a2| cons _ _=>simp at hl
def XY[?gA](h:∀a0 a1 a2 a3,P [a0,a1,a2,a3])[?gH](hl:?IU 4):?f9:=by cases us with| nil=>ext aY| cons a0 u0 =>cases u0 with| nil=>ext aY| cons a1 u1 =>cases u1 with| nil=>ext aY| cons a2 u2 =>cases u2 with| nil=>ext aY| cons a3 u3 =>cases u3 with| nil=>show h a0 a1 a2 a3| cons _ _=>simp at hl
def RD[?gA](h:∀a0 a1 a2 a3 a4,P [a0,a1,a2,a3,a4])[?gH](hl:?IU 5):?f9:=by cases us with| nil=>ext aY| cons a0 u0 =>cases u0 with| nil=>ext aY| cons a1 u1 =>cases u1 with| nil=>ext aY| cons a2 u2 =>cases u2 with| nil=>ext aY| cons a3 u3 =>cases u3 with| nil=>ext aY| cons a4 u4 =>cases u4 with| nil=>show h a0 a1 a2 a3 a4| cons _ _=>simp at hl
def Bm4[?gA](h:∀a0 a1 a2 a3 a4 a5,P [a0,a1,a2,a3,a4,a5])[?gH](hl:?IU 6):?f9:=by cases us with| nil=>ext aY| cons a0 u0 =>cases u0 with| nil=>ext aY| cons a1 u1 =>cases u1 with| nil=>ext aY| cons a2 u2 =>cases u2 with| nil=>ext aY| cons a3 u3 =>cases u3 with| nil=>ext aY| cons a4 u4 =>cases u4 with| nil=>ext aY| cons a5 u5 =>cases u5 with| nil=>show h a0 a1 a2 a3 a4 a5| cons _ _=>simp at hl
set_option maxHeartbeats 4000000 in def Ce1:?K2 P:=by unfold good;intros;let e:=hfa.symm.trans (?J7 Bo1);cases e;let T:?xT:=#[?J7 mP,#[KW,lW,kU,KR],na_Lines_rows,na_Lines_backs,?J7 HU,#[FU,gK,fT,FQ],na_Stairs_rows,na_Stairs_backs,na_Stairs_starts,?J7 RS,#[QE,qX,qD,QA],na_Work_table,na_Work_width,na_Work_left,na_Work_right,na_Work_numbers,?J7 RU,#[qF,QX,QD,qB],na_Book_pieces,na_Book_levels,na_Book_lifts,#[aX,?J7 RT,?Ip QM 5 (?gp ?cm ?zI)],#[Jz,?J7 Uf,?Ip Tl 4 ?zI],#[_,?J7 Zh],#[_,?J7 HR],#[_,?J7 Uc],?IZ Xw,?IZ Ah9,?IZ vE,?IZ PM,?IZ Ah4,?IZ Ah7,?IZ Ah8,?IZ Ai1,?IZ pN,?IZ VD,?IZ Ai0,?IZ Ah5,?IZ vD,?IZ m8,?IZ Ah6];let K5:=jJ (st:=Fw) Vn V4 Oz;let Mv:=jJ (st:=Gn) Yq Zf Mp;let Oh:=jJ (st:=Hf) w9 AD N7;let A64:=jJ (st:=N4) Bh1 Bn6 Bh4;apply#[W.fnOf ?j4 ?j4 (K3 N4) (Im N4) ?Bt .none XF YC vW yL RM yH,λs v=>.of_eq ?h,λb _ _=>TZ (λ{_ _} A64=>?_) A64 b];let Fe:=?Hr DH (LC F T) ?ae;let Il:=?Hr P8 (Yj F T) ?a6;let Dw:=?Hr dH (lC F T) ?ae;let Re:=?Hr Vw (BZ F T) ?a6;let Ux:=?Hr MD (tF F T) ?aN;let Kn:=?Hr RI (WH F T) ?a6;let Tr:=?Hr RH (wH F T) ?a6;let L1:=?Hr Qa (Yl F T) ?ae;let jI:=?Hr MC (tD F T) ?a6;let cT:=?Hr GV (NY F T) ?a6;let Ko:=?Hr rJ (WI F T) ?ny;let Tt:=?Hr Y6 (EN F T) ?a6;let aW:=?Hr mE (TF F T) ?ae;let cR:?ur:=#[_,_,#[GD,GH,GG,Oz],?D2,Rv K5 T ];let Nl:?DQ:=#[_,_,#[lP,V7,Tp,lV],?D2,Rv K5 T ];let P6:=?Hr DF (KZ F T) ?ae;let Rc:=?Hr Vu (BY F T) ?ae;let Tq:=?JS aD (IU F T) ?a6;let Km:=?Hr Ob (W2 F T) ?ae;let Hi:=?Hr Vv (bZ F T) ?a6;let CV:=?Hr gY (OB F T) ?ae;let Dy:=?Hr Mf (Tb F T) ?ae;let Xe:=?Hr AB (IT F T) ?a6;let Xf:=?Hr aC (iU F T) ?a6;let Jc:=?Hr Zb (ES F T) ?a6;let Xd:=?Hr aB (iT F T) ?aN;let Fd:=?Hr P9 (Yk F T Fe) ?a6;let Ts:=?Hr yD (Ab3 F T Ux) ?a6;let Bp:=?Hr Oc (W3 F T Dw) ?a6;let Iu:=?Hr Mc (S7 F T Fe) ?a6;let Dp:=?Hr GX (oB F T jI) ?a6;let Vq:=?Hr YD (Ab4 F T cT) ?ae;let Tu:=?Hr Y7 (eO F T Ko) ?aN;let Xc:=?Hr z8 (iR F T Ux) ?aN;let Yx:=?Hr mC (sZ F T Ko) ?a6;let O6:?Aq:=(?Ka Zm);let Lz:?wV:=(?Ka Ug);let f9:=JH FW GC Rz (λF=>c9 F T cR) ?aN;let Ge:=?Hr Jf (Ov F T Hi) ?ae;let i5:=?Hr DJ (lF F T Fe) ?ae;let Mt:=?Hr V0 (CB F T Dy) ?a6;let Gf:=?Hr ME (tG F T Dy) ?aN;let O9:=?Hr T8 (aL F T Jc) ?aN;let Dx:=?Hr Mb (S6 F T Fd Dw) ?aN;let Hj:=?Hr Vx (cA F T Fd) ?a6;let g8:=?Hr dI (lD F T Iu) ?a6;let Nm:=?Hr GU (NX F T Tu) ?aN;let P7:=?Hr dM (LG F T Bp) ?aN;let Mr:?tx:=(?KZ aH);let Dj:?wR:=(?KZ V6);let JG:=JH QJ qR Vy (λF=>CA F T Nl Vq) ?aN;let g7:=?Hr DG (LB F T Ts Kn) ?a6;let cU:=?Hr gW (NZ F T Ts Kn) ?a6;let Tw:=?Hr Za (eS F T O9 Xd Jc) ?aN;let cW:=Bk X G GY (λF=>OC F T Mt Gf CV Xe) (?La Bm4 (λ_ _ _ _ _ _=>rfl));let i8:=?Hr dN (LH F T Gf) ?aN;let i9:=?Hr DN (lI F T Gf) ?pE;let XQ:=?Hr yE (Ab5 F T Dw Re Dx) ?a6;let CU:=?Hr GW (oA F T Dx Fe) ?ny;let Cv:=?JS Me (S9 F T Dj) ?aN;let Mq:=?JS Y9 (ER F T Mr O6) ?aN;let g6:=?Hr dG (LA F T Nm Dp Bp P7) ?pE;let Rb:=?JS Zc (eT F T Hj) ?a6;let Kr:=?Hr Of (W6 F T cW i9 i8) ?aN;let F1:=?Hr DK (LF F T CU) ?aN;let O7:=?Hr T6 (aK F T XQ) ?ae;let O5:=?JS Vz (cB F T Cv Dj Lz) ?aN;let Lx:=?JS Rx (c7 F T Cv) ?ae;let Ia:=?JS Md (S8 F T Mq) ?ae;let Fz:=?Hr Ig (Ny F T F1) ?aN;let g9:=?Hr DI (LD F T L1 O7) ?ae;let Ly:=?JS Ry (c8 F T P6 Dj O5) ?a6;let Xa:=?Hr y9 (iQ F T F1 Dw) ?a6;let cV:=?Hr gX (OA F T i5 F1) ?aN;let Gv:=?Hr mD (tE F T Fz Xc) ?a6;let Yy:=?Hr gU (NW F T f9 Nl Ly Lx) ?aN;let Xb:=?Hr z7 (IQ F T Ge cV) ?aN;let i4:=?Hr dJ (lE F T Gv) ?a6;let O8:=?Hr T7 (AK F T Hj Bp Dp Tt Gv) ?a6;let N9:=?JS AA (IS F T Yy Dp) ?ae;let Jy:=?Hr No (Vb F T Dw Gv Ts cU Kn Tr) ?ny;let Jx:=?JS Oe (W5 F T N9 Rc) ?ae;let Kq:=?Hr Od (W4 F T Gv Bp i4 Kn Hi Tr) ?aN;let i6:=?Hr DL (lG F T JG Jx Ia Dp g8) ?a6;let Tv:=?Hr Y8 (EO F T Xa Jy Xb Kq) ?aN;let i7:=Bk X G DM (λF=>lH F T Vq i6 Bp Nm g6 Dp O8) ?ae;let jH:=JH qK qS V1 (λF=>cC F T i7 g7 g9 Km) ?a6;show Au8 A64 T Tw jH Tv Xf Kr Tq Rb
def all_mk{l:PySem.W.OpenLaw}{w:World}{K:W.Frag}{mg:?sJ}{C_Lines C_Stairs C_Work C_Book:Addr}:?K2 l.prog:=xS Ce1 _ _ _ _ _ _ _ _
def walk{l:PySem.W.OpenLaw}{q:Program}{loose:?cN Str}{XP:?sJ->?Gu}{YP:World->?Gu}{d:DefRec}{K:Params->PySem.W.Frag}(hn:l.most=?j 63)(hdf:d.params.defaults=[]) (hY:∀(w:World) (h:Heap),YP w h->?qu h) (F:∀(w:World) (mg:?sJ) (fa:Addr) (h:Heap),?qu h->h.Ns ?B9 mg->mg d.name=?j (?z fa) → ∃fd:FuncData,(∀(s:Shared) (u:Value),BindsTo s fd #[[u],[]] [(?eF,u)])/\∀base:Heap,?qu ?n->base.Ns ?B9 mg->Bs l.prog w ?mf mg ?n Ed 14 fa fd [?eF] ?um) : PySem.W.WalkO q loose XP YP l.row.toRowW d [] (λf vs=>PySem.call f vs) :=L2.walk_ofB (n:=63) (k:=14) (x:=?eF) (CX:=λ_=>Ed) (sp:=λw=>?um) hn ?N hdf #[?h,?N,?N,?h] hY F (λ_ _ a ns hl A08 _ hS=>#[a,ns,?h,hS,hl,A08,?Dt]) λ_ _ _ _ _ z=>z
universe Hb
universe Internal
open Internal
end
mutual
#check(0,[])
namespace PySem.W.Fast
universe t_7l9pv8dq9Cb t_2V3hHcQayRz t_lobugHFHQYG t_1Mz9CKRaYQT t_khtpXoSsTnE t_4iCOQQXKWZF t_9lapsiLeMWV t_bLEiwsniiiK t_h4f2DMi7D4T t_3guW9gTTU0O t_8HONi57Sgkb t_iizroUin9Z3 t_arGi7Mgv761 t_c6EoRGiHVWm t_7BOQx17Ly07 t_eFS7A3NNocS t_9xafZEx0mfs t_29XA3ldH2tF t_ll6LysN1Sgy t_aJbdu2JSWEb t_6d6K2nTFeyV t_bBgFOOrRV31 t_d88yxl3ntBa t_a9PMByUTVVc t_aDDZJ8rNYPT t_63RnePDyHJA t_kX7xMXY8mH8 t_hAWneeLACDz t_aidJJbTFMDy t_i6mDMukBk50 t_l4Rnukz3Zjh t_2NTy7aPwBr8 t_bX0uHISAnvd t_kuAF8ZjqlXT t_dH3ZED9AVLg t_dOq77F6KpTp t_6YpciuBwz3a t_aGmMyvkHm9s t_fmnUOXKgwlE t_DVv44JUGBf t_iAxBhD31ZKj t_6IocqneQmaP t_8LPmYIynRKt t_oNlGuURSt t_6kMLapigusJ t_jPE50nRDChn t_jL7UIB6klGO t_5gTS6rvpwBV t_9OmAsORxxQw t_9hAzH3vOyUJ t_7TVuiW3X5Hi t_fE86XWxfD0X t_7XtVgHgSVuX t_kK6rdhJUMu8 t_j9aLVn7hwnx t_5yv9GvzJ6KO t_10HCEhfKPcn t_6bqAXHlDU7T t_cSV1xPJnBZI t_7NLzulfolhm t_2CLBatJ0Wds t_6UO2fPEFY52 t_5yalqYKzEhs t_5sM70qUvKww t_a1y632vnRuq t_cVDio7RSw3H t_fTUhjSwuUlN t_f6w8jzOluUD t_cUaDIEy2dy9 t_53IBfP7KR4a t_63HTrXTTEOW t_9WiFmzpxEKi t_d4Kez1ogmjG t_hpQSRrVvXo7 t_jFVv0QhiEK3 t_i0utZPe8nW3 t_cIFMYvUV6lY t_g6MXBNpvCNj t_8RLC67GfRyr t_iUmeQmivQvV t_8gxBV1VgwLB t_18tNhSHwFcH t_Qt9DDbBWSa t_eCNOey6eBcb t_8M9jQe3jHHU t_3YdsysEwE7E t_kjbaALNhS17 t_fSHKcFHZ8tG t_hClGQD9RwMw t_6syTewEUGDh t_atfYfrUlM82 t_6vPNWjVWba7 t_20e475tc9lg t_56SYBz73BOC t_lgzYd9GFA7u t_2GBmGTZEKr t_4Gg4CAXPRgj t_ecLJUFpO97i t_3VVY7nJXx8I t_9ybxP9x56Fz t_8cY8fzgqLeX t_db4XP3CnjRm t_j6taGNS7CoD t_lQfqqJycHNv t_3t38XhnVfrg t_4MhuEWS8R9m t_iqoZ6DWNotz t_1sRxqayghtP t_kp27KslAT1G t_6ZvuwTfVygv t_h3HevDSuQ8n t_8QevdnMSR3W t_fnR7tMssaKj t_kZPAbtSrsW8 t_lJ3MSN4wfmO t_gejHaALhP8g t_eeV3KrGu04p t_jt6I7yJIePv t_3M2TQ8IolHB t_TNEWYKLIJq t_duoV4QpSAdz t_l6TxTfQ19PA t_kbGSB2s7tlu t_cIGJlFQhWob t_9PdP9LyeNF5 t_46Ew4DAhi3E t_6VptiWTfS0f t_3Z23rJQAwi0 t_2D6KbahmYjW t_4aI4EY8qKYf t_6ZPkrHMXcn1 t_l2qjUkUqFH7 t_5PeLHXN2Zcj t_etzJfDfNWZG t_hfHNNHYfUNW t_D6LXghhDK2 t_8CQnCJwsQh3 t_3brHNPvXyx1 t_60QfpEDKh0g t_aEPe0Nbh5YC t_fhfGRVngVXH t_l2RDmaldirg t_1X5ZG6BmYuL t_5wplcOFqAmJ t_iodpDPhoJct t_i13D7NsjVUM t_7AQa6vMohjA t_Nw4MEN70NL t_8Ou0hIrzE0I t_hTJq9fDOUqX t_eryouqKSiSI t_aAW4Wieo2rD t_9JRjKS8jQH5 t_4iBEVywVBFG t_6G8xq7CiPnD t_lkFJMnI8NEa t_c38oBQvFE0S t_jqI0d017DYN t_iAR9ObnRdCh t_cXEQvDU3Gxa t_9zMVjLPRmLz t_k7PNO0ro87k t_23LX3hUd3zZ t_fzzb1cjwePI t_k2Lsn4dk8ay t_5VknfAILrii t_f9MUEJUdvtl t_aRCIGJv9e2C t_lDHYVUV20Sa t_1HdKMPXUQ9O t_8X6bgwkIFRr t_fqDpK9kfpF9 t_lV2ruymVi7X t_gZc807Diamq t_7g1bONddEr9 t_4K5Tuoq1sEj t_6LAb7KFJFsw t_iEDuNMNDcQT t_f1lR8Kv1ONs t_8acsQsjQojP t_hiX4QpZhCHJ t_dtVdMcvCRBS t_a27tUuYyMG1 t_1QV6VllZv5B t_79TogpWkFpM t_7GEj79aENRx t_kPcPajQKwJT t_1hOmrxwyMI4 t_68fWsuwi7l8 t_8QcUKCXjefn t_jobJz6ujlV t_bEZjh5R3GC1 t_kyn1KvVzuiC t_atteYj4MPLw t_bqBgy2cAxMy t_7eN4P9pCLFN t_5EHy62omQTk t_if1xXzfSUlK t_FHZysQyLhP t_dI43oJqRaep t_9AIwlPI3Vf9 t_4VtnQz2mFvV t_lO4tNo3zi0N t_lT9fyoAbllq t_kDTDawmZOUG t_9gVksr8a7yl t_acCUnMlz6nC t_7BLLTLfV5KM t_lbnul6qhjGy t_kFf33eAswou t_94TSu3IV00I t_Sy1SD4JkGJ t_jdo6mMIu9rh t_4JoZiw6ITST t_dpJMga62AgP t_b8A26WXkW2I t_9F5eLJljQe0 t_4pMxrglWo76 t_dQ2s0FZapnt t_hZK9XyGoK20 t_cJVL58rjr8r t_aU2alkFsljC t_l038dgjMUvt t_j4bun2C76RA t_1A6gp9oWB3T t_58bq3PZCIcu t_cIF1jdlE95M t_dVcKNCDpY6a t_54AKRB65GHv t_jUFd8YeH5kx t_ZLFyGUTP29 t_7OY15IMIviT t_8WDdlflKumo t_dJyiddhNiT2 t_6KfTDavXguE t_iZnAiEPKSob t_kcgiR4Ghe0Y t_44ZeE9FHKCR t_7d9J5DUyTfx t_dQqtJgfTrQd t_kwg3PysMn6 t_lpY4IIVqnML t_2uzsgMFkgFA t_kk8fEHV2wh0 t_2UY3GFjZvu0 t_cuAgyFTSWzq t_j89llQ5iNxQ t_d600KVa9qXT t_8wU2BT2NqgV t_rB2GOX9uMb t_8U0tZ8sCJFP t_75gETFqBVws t_1kIfaJqhhVV t_hjQ6PvZ35ng t_6pdHYGM4WL4 t_7Xx8AjhhVic t_7rLecXUFIAH t_3UCPH5Bni5X t_dHm8BsEQtPs t_e3uOKsVgP06 t_25iiyAqJ4AE t_axdn0L741n4 t_7ZtP0EBZwPj t_cGLupezwina t_la1tWBaXfK9 t_ePkoFoNIJBD t_jKGEs80W1lf t_20wanv7L4er t_tyfBnwi14X t_jzwGV9arCXR t_bh8jUom6ZFM t_e8WgJIDcsZ1 t_7AFviG4WOaW t_a0eeGcCLwLG t_epCzKkMm1D2 t_2hdvW7yHc5d t_jvvRkxYcZe8 t_fuiEGzLPFFy t_7jGR2uzza50 t_eDj6kPZFt4r t_fbVkI20DfJe t_c9ewGoSqB2f t_7S8IqLGX36J t_7l9q0jUOwiV t_ciCoTXCLwUa t_eKskMZdnf7V t_2g2ajTlXAXy t_8NwgiJF1aLq t_iA3YZqQWeNR t_2yFpMRoIzQY t_eqVfXa1l5Mj t_dglgR2uCY32 t_Yi8FSx8BOE t_6yD3eODzlS6 t_7W8rXyqBYN0 t_2v2wPoam8ts t_4Vkv1UNpVdE t_20pzNCytgcC t_bOHCsnmtAXn t_frSdFXigcaU t_7RezyAlcIgf t_h6QVcePdOaU t_3Wx2uMaTVee t_48aectFzN4X t_9TH5AOgNbzi t_Vomet3omXG t_bjWFxsFOq3F t_ltWJdFp4Ukk t_eU6NepoC38a t_j4QfNmDFQR9 t_el8BvUxxxzF t_dbFmXHFWG1q t_8YK47Z0UQ90 t_hbXfs9Kww8A t_bKTmexKgIQm t_cbBChj31nph t_dXtYt7CMyq0 t_hoaCn7yWJaY t_1Vpg2maStDl t_4JfTbtRQwU9 t_1TPQTjdCxh1 t_lol3kKMzuod t_3qaQpdW1toh t_lcJC0gyejzA t_1n6c9mUJat3 t_4Are4YJwnJn t_7248Hu52BtP t_aVqXlPyCKGx t_9aOelu1XMfv t_f5jyARK98Dm t_9GprKxkGjua t_biCIybhGpYh t_gwYZpxxZfJz t_k8G3p2xWwDh t_cwWM4Q3wINB t_6QT6gR71NlB t_csl0wJ8OuTt t_bYIFwNbJVcD t_i4XJatdM1xT t_cBz6aFb3SyG t_aRt1t6iz4iE t_axHtuiY9qDP t_aOeDU7DIHQy t_g5bEbTQnmRp t_elHwcEezlmp t_lyHdxpjueo7 t_9nfgXvR2UXG t_80Age9xhZqa t_7ckzUfzlGE0 t_4owUsONCT9Y t_c4mEJzeTS4s t_lOXbDJ3dePZ t_doEY9lnyIMe t_i66ZoiVFBcJ t_26muVEko3UJ t_jQkcKJsgqlU t_iPuP2qcfzsI t_coOA0VeiKkG t_ChOd3ANFTa t_1Eqvj9Pa5ZS t_7q20NAC4ZPm t_8oMFcdAPLeT t_9aWVIrGlNDB t_8O0sMArERKf t_cNTUAMQy2DY t_9AVAZuuBGZS t_5XGfA5U7qwS t_9xwVEZWwRBh t_g2O9LN9O4Gj t_cBJpBnz9Y9K t_bSQGN1UInEz t_fKlBrY66mQA t_kdEwd5i0kjq t_iFAjITmLJ1o t_8Tx8BzxeO1W t_26mZQYqftPx t_7po6qhwlDJU t_dfmEfT6LzSP t_hbmB1DWDCKi t_by3UbdCD2O5 t_dMKlEYOAFb5 t_kY3XWa5zkno t_hkSJBfMuAON t_1DbprxIObPs t_h7OdiPUwTAS t_2c9Qwy6PNff t_3lDe3n0eJ3X t_1MpUfinEJVF t_eRch4XZz0Jv t_fdRVyQUXHOU t_9AN7QIETT8z t_fr9m2MDX09f t_aSoo42bLqg0 t_9nvBzcVCAKu t_dXWtUzZZ0Tv t_5If9FOvv7G1 t_1feNs3n8pac t_lAXpMuZDCgj t_R97cAqikj9 t_8p5truNbWwL t_kNJcfY1r08N t_6KpvUBrDqE0 t_eYEmo9otbYr t_caBQe30XpIs t_4Fd3rA4SJWI t_6QXioCo7ch4 t_aqNBZlMBMVx t_ddJXDv29QPp t_kZXVsc5mAUk t_flX4xglyOIG t_cnteAzZVzmx t_24FsIWSGuMy t_ix2SLiTAXry t_erbXinyiNEa t_2doXRT4ULrD t_ewcbh6s7dsM t_33pqkVDPIRT t_8MhHvdP2PTy t_h8Pi9Cilc9y t_3htB3I5X0DZ
universe PySem.W.Fast
end
open PySem PySem.W PyProof.Rows
set_option maxRecDepth 100000 in
set_option maxHeartbeats 0 in
theorem PySem.Challenge.cw_holebook_k68_a_book_told_otherwise_holds : PySem.Challenge.rw_holebook_k68_a_book_told_otherwise.Holds := by
 w_on;o_law;k_head;(case hw=>w_witness2)
 k_fill
 refine Hb.walk (l:=PySem.Challenge.rw_holebook_k68_a_book_told_otherwise) rfl rfl (fun w h Y=>PySem.W.kIn_of Y) ?F
 case F =>
  intro w mg fa h KX G hmg
  refine' Hb.all_mk KX G hmg ..
  all_goals try first | exact⟨_,_,by k_is,⟨⟨_,_,_,_,_,_,_,_,_,rfl,by k_is,by k_is⟩,by k_is⟩⟩ | exact⟨_,_,by k_is,by k_is,⟨⟨_,_,_,_,_,_,_,_,_,rfl,by k_is,by k_is⟩,by k_is⟩⟩ | k_is | kit_is | kts_isx | k_exc | k_qdec | kernel_rfl | decide +kernel
