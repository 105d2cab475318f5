import PyProof.Rows.All
import Wide.All
import OpenK.AllK
import Wide.FinOn
import Lean
import PyProof.EqAt
import PyProof.EqKinds
import PyProof.TupleCall
import PySem.Challenge.RW_holebook_k77_whole_order_does_not_matter
set_option linter.all false
set_option Elab.async false
set_option maxRecDepth 100000
set_option genSizeOf false
set_option tactic.hygienic false
set_option genInjectivity false
set_option maxHeartbeats 0
set_option compiler.extract_closed false
noncomputable section
local macro_rules|`(tactic|ac_rfl)=>`(tactic|first|exact .inl rfl|exact .inr rfl|assumption)
def z1:=Lean.Syntax.node .none
def z2:=Lean.mkAtom
def z3:=@Lean.mkNullNode
def z4:=Lean.Name.str `Lean.Parser.Term
def z5:=Lean.Name.str `Lean.Parser.Tactic
def z6:=Lean.Name.str `Lean.Parser.Command
def z7(a:Array Lean.Syntax):=z1 ``Lean.Parser.Tactic.rcasesPat.one a
def z8:Nat->Lean.Syntax->Lean.Syntax
 | 0,x=>x
 | n+1,x=>if x.isOfKind (z4 "paren") then z8 n x[1] else if x.isOfKind (z4 "anonymousCtor") then z1 ``Lean.Parser.Tactic.rcasesPat.tuple #[x[0],z3 (x[1].getArgs.map fun y=>if y.isAtom then y else z1 (z5 "rcasesPatLo") #[z1 (z5 "rcasesPatMed") #[z3 #[z8 n y]],z3 #[]]),x[2]] else z7 #[if x.isIdent then x else Lean.mkIdent `_y9]
def z9(c:Char):Nat:=if c.isDigit then c.toNat-48 else if c.isUpper then c.toNat-55 else c.toNat-61
def zA(c:Char):Nat:=if c.isLower then c.toNat-97 else c.toNat-39
def zB(s:Lean.Syntax):Nat:=match s.getId.toString.toList with
 | [x]=>zA x
 | [x,y]=>52+zA x*62+z9 y
 | [x,y,z]=>3276+(zA x*62+z9 y)*62+z9 z
 | _=>1000000
def zC(x y:Lean.Syntax):Lean.Syntax:=if y.isOfKind (z4 "syntheticHole")&&zB y[1]<3 then x[1][zB y[1]] else y
def zD(y:Lean.Syntax):Bool:=y.isOfKind (z4 "instBinder")&&y[2].isOfKind (z4 "forall")
def zE(m:Array Lean.Syntax)(x:Lean.Syntax):Lean.Syntax:=
 if x.isOfKind (z4 "syntheticHole") then m.getD (zB x[1]) x
 else if x.isOfKind (z4 "app")&&x[0].isOfKind (z4 "explicit")&&x[0][1].isOfKind (z4 "paren") then x[0][1][1].rewriteBottomUp (zC x)
 else if x.isOfKind Lean.nullKind&&x.getArgs.any zD then x.setArgs (x.getArgs.flatMap fun y=>if zD y then y[2][1].getArgs else #[y])
 else if x.isOfKind ``Lean.Elab.Tactic.Ext.ext then match x.find? (·.isIdent) with
  | some i=>match m[zB i]? with
   | some t=>z1 (z5 "paren") #[z2 "(",t[1],z2 ")"]
   | none=>x
  | none=>x
 else x
def zF(c:Char)(n:Nat):Nat:=n*62+(if c.isDigit then c.toNat-48 else if c.isLower then c.toNat-87 else c.toNat-29)
def zG(x:Lean.Syntax):Lean.Syntax:=(if x.isOfKind (z4 "basicFun") then x.setArg 0 (x[0].setArgs (x[0].getArgs.map fun y=>if y.isOfKind (z4 "hole") then Lean.mkIdent `_y9 else y))
 else if x.isOfKind ``Lean.Parser.Tactic.rcasesPat.ignore then z7 #[Lean.mkIdent `_y9]
 else if x.isOfKind (z5 "apply") then z1 (z5 "refine") #[z2 "refine",x[1]]
 else if x.isOfKind (z5 "refine") then z1 (z5 "apply") #[z2 "apply",x[1]]
 else if x.isIdent&&x.getId.toString.startsWith "t_" then Lean.mkIdent (.mkSimple s!"tw{(x.getId.toString.drop 2).toString.toList.foldl (fun n c=>zF c n) 0}")
 else if x.isOfKind `«term#[_,]» then z1 (z4 "anonymousCtor") #[z2 "⟨",x[1],z2 "⟩"]
 else if x.isOfKind `Vector.«term#v[_,]» then z1 `«term#[_,]» #[z2 "#[",x[1],z2 "]"]
 else if x.isOfKind (z6 "declaration") then
  let d:=x[1]
  if d.isOfKind (z6 "definition") then x.setArg 1 (z1 (z6 "theorem") #[z2 "theorem",d[1],z1 (z6 "declSig") #[d[2][0],d[2][1][0]],d[3]])
  else if d.isOfKind (z6 "abbrev")&&x[0][4].getNumArgs==0 then
   (if d[3][1].isOfKind (z4 "explicit") then x else x.setArg 0 (x[0].setArg 4 (z3 #[z1 (z6 "noncomputable") #[z2 "noncomputable"]]))).setArg 1 (z1 (z6 "definition") #[z2 "def",d[1],d[2],d[3],z3 #[]])
  else x
 else match if x.isOfKind (z5 "tacticLet__") then x.find? (·.isOfKind (z4 "letPatDecl")) else none with
 | some d=>z1 (z5 "obtain") #[z2 "obtain",z3 #[z1 (z5 "rcasesPatMed") #[z3 #[z8 9 d[0]]]],z3 #[],z3 #[d[3],z3 #[d[4]]]]
 | none=>x).setInfo .none
def zH(m:Array Lean.Syntax)(c:Lean.Syntax):Lean.Syntax:=if c.isOfKind (z6 "universe") then z1 (z6 "end") #[z2 "end",z3 (if c[1][0].getId==`e9 then #[] else #[c[1][0],z3])] else (c.rewriteBottomUp (zE m)).rewriteBottomUp zG
local macro_rules|`(command|mutual $cs* end)=>do
 unless cs[0]!.raw.isOfKind ``Lean.Parser.Command.check do Lean.Macro.throwUnsupported
 let some l:=cs[0]!.raw.find? (·.isOfKind `«term[_]»)|Lean.Macro.throwUnsupported
 let mut m:=l[1].getSepArgs.map fun x=>if x.isOfKind ``Lean.Parser.Term.inaccessible then x[1] else x
 for _ in [0:((cs[0]!.raw.find? (·.isOfKind `num)).get!.isNatLit?).get!] do m:=m.map (·.rewriteBottomUp (zE m))
 return Lean.mkNullNode ((cs.extract 1 cs.size).map fun c=>zH m c.raw)
mutual
#check(4,[?a,?b,?c,.(by first|with_reducible(first|assumption|exact Nat.le_trans ‹_› (Nat.le_of_ble_eq_true rfl)|exact Nat.lt_of_lt_of_le ‹_› ‹_›|exact Nat.le_of_lt ‹_›|exact Nat.lt_of_lt_of_eq ‹_› ‹_›|exact Nat.lt_of_lt_of_eq ‹_› (Eq.symm ‹_›)|exact Nat.lt_of_le_of_lt ‹_› ‹_›|exact Nat.succ_le_of_lt ‹_›|exact Nat.le_of_not_lt ‹_›|exact Nat.sub_le _ _|exact Nat.le_of_succ_le ‹_›|exact Nat.lt_succ_of_lt ‹_›|exact Nat.le_add_right _ _|exact Int.toNat_sub _ _|exact Nat.le_trans (Nat.min_le_right _ _) ‹_›|exact Nat.le_trans (Nat.sub_le _ _) (Nat.le_trans (Nat.le_of_eq ‹_›) ‹_›))|lia),.(by first|(apply Hb.let12 ?_;intro _ _ _ _ _ _ _ _ _ _ _ _)|(apply Hb.let10 ?_;intro _ _ _ _ _ _ _ _ _ _)|(apply Hb.let9 ?_;intro _ _ _ _ _ _ _ _ _)|(apply Hb.let8 ?_;intro _ _ _ _ _ _ _ _)|(apply Hb.let7 ?_;intro _ _ _ _ _ _ _)|(apply Hb.let6 ?_;intro _ _ _ _ _ _)|(apply Hb.let5 ?_;intro _ _ _ _ _)|(apply Hb.let4 ?_;intro _ _ _ _)|(apply Hb.let3 ?_;intro _ _ _)|(apply Hb.let2 ?_;intro _ _)),.(by first|(apply Hb.letG6 ?_;intro _ _ _ _ _ _)|(apply Hb.letG5 ?_;intro _ _ _ _ _)|(apply Hb.letG4 ?_;intro _ _ _ _)|(apply Hb.letG3 ?_;intro _ _ _)|(apply Hb.letG2 ?_;intro _ _)|(apply Hb.letG1 ?_;intro _)),rfl,some,∀(K:W.Frag),a,∀(I:?T),a,wpAny,O9m,pos,.inr,.int,X.env,X.A,autoParam,upd,X.K,?gF ?aa X.w,.inl,.(by simp),?h o,X.xe,?C V,.(by let ?my:=ry),decide,List,Zr._auto_1,s.heap.objs.size,?C ?ai,absurd,s.heap,?C Int,.non,.ref,if_neg,.nil,?K a,∀{Ag:Bl}{σ:St}{H:Hp}{s:Shared},a,St->?aN,if_pos,i+1,∀{A:Around},a,?JG H s,?h v,.cons,qa4 _,?C Str,.(by intro Ag s σ H Q I h),C4 I q ?w,.lst,.(by ext d),Reps,its.toArray,Vals,∀(Ag:Bl) (s:Shared) (σ:St) (H:Hp),a,∀(hK:?Ks ?pn),a,∀{us:?F},a,?o i,?K p,pure,?h u,?Kq b,p.isList,∀{E:?e5},a,∀{pos:Pos},a,?LN w,.seq,qa9 hf,qa9 hg,∀(xs:?z),a,∀{s:Shared},a,none,?NT Hp,F5 fam w,name,.(by decide),?KJ 1,.none,∀{es:?df},a,∀{K:W.Frag},a,?C D,∀{u:Value},a,∀{a:Addr},a,?O9 xs,outer,X.prog,?K C,.tup,?K ?E,∀{h:Heap},a,s.heap.get?,sumN,?h ?k4,Value,H p=none,I.kIn,base,?C ?eR,.type,?v ?g,.(by decide +kernel),.(by simp<;>ext d),∀(a:Addr),a,bootBuiltins,_,I.hok,?Lc a xs,eval,I.tuple,?an ?ch,I.list,∀(H:Hp)(Q:VK),a,∀{xs:?z},a,.(by exact ?eG),[?N],.(by ext ap),List.replicate,(n:Int),.bl b,?gF prog w,EP X Ag σ Q,.(by ext aq),?K f,?h c,[a,b],?a4 xs us,.(by let ?fg:=_z),∀(x:V)(y:V)(H:Hp)(Q:VK),a,∀(hc:?jh),a,∀{σ:St}{H:Hp},a,∀(h:Heap),a,?cU H H',I.bare,Pv i σ H,?an ?dO,true,?ez ?ai,qual,Str->?hE,?c0 a,?az hq,k _ _ ?ao e,xs.length,?c1 Int,x=?N,?c6 _,RelV,.builtin,?fP σ H,ObjOk,?bZ x u,∀{P:Program}{w:World}{K:W.Frag},a,∀(X:Cx)(Ag:Bl),a,∀(w:?I),a,∀(s':Shared),a,∀(vs:?z),a,∀(s:Shared),a,?h j,kindOf,?af b=?x,#[t,?g],xs=[?a9],false,Sz.2,∀v,o.data≠?k4 v,?z->?ix,?C Env,s₁,?bZ v u,congrArg,?h ?hW,_,"int",h.get?,Option,2 ^ 62,Bool,Pv i ys τ H,I.ok.hd hc,.str,V.int,compareOp,?ha=?x,?h x,Pv ?R,_::_,.(by intro X hP hw hK hc i Ag s σ H E I hf st hg;subst hP hw hK),.(by exact ?Ch),∀(Pv:?BB)(h0:Pv 0 [] τ H),a,.(by intro Ag s σ H x y v u Q I rx ry h),∀{Q:?e5},a,.(by intro Ag s σ H D I h),∀(us:?F),a,∀{fp:?am},a,∀(ws:LLInt),a,∀{ws:LLInt},a,∀(u:Value),a,IsPair,?MW V,?KM a xs,False.elim,.bool,?ii ?c7,Same,#[_,?g],?h .local,args,S H a xs,?o _,?kY x=?bC,.Call,I.free,?K it,List.range,X.base,#[h1,h2],"list",?ph tI,k+1,?KF vs ds,e::es,.(by let ?bn:=ry),∀(ns:?I),a,∀{ns:?I},a,∀(xs:LLInt),a,∀(fam:Int),a,∀{H H':Hp},a,∀(C:Addr),a,∀{t':Nat},a,X.mg,fam<0,deps ds,I.freeC,qa2.mp,?c6 x,d::ds,?bZ x v,#[H1,I1,q1],λx H' y=>?_,?C Stmt,K.lookup,?KX v d,?JY xs.length,its',[z,TI,TO,i1,i2],.bl _,?cS ?bO,X.stack,codeAny,.(by simp at h),W.findIn,s'.heap,I.cell,g x σ H' λσ2 H2=>tb ?Ae σ2 H2,?OL i,?Ns (W ?R m' σ' H'),W i m σ H,Nat->?jA,.ListComp elt [#[tg,iter,ifs,0]] sc ?m,"tuple",∀(x0:A0) (x1:A1) (x2:A2) (x3:A3) (x4:A4) (x5:A5) (x6:A6),a,.(by cases ry;let ?vR:=?ax q),.(by cases ry;let ?vR:=?az q),.(by cases (?KQ (V.ref a))),.(by intro Ag s σ H xs us Q I r h),∀{K:W.Frag}{a:Addr}{xs:?z},a,.(by let ?o1:=he),.(by let ?o1:=hy),∀{vs:?z}{ds:?aV},a,∀(P:Program)(w:World),a,∀{ws:LLInt}{fam:Int},a,∀{i:Nat}{x:Str},a,.(by let ?bn:=r),∀(r:?bv),a,∀{vs:?z},a,?Lm ?_,?C Expr,λ_=>none,qc4 _ ?g,w::r,?ac ds,?L hk,Itl K a,s.heap.push,?ax hq,_,?gF P w,λ_ _=>False,?L ?a1,I.tok _,?MW Addr,0<=i,?K x,Itt K a,g i j,starEach,∃m,W 0 m σ H,¬?hh,s1.heap.objs.size,?em ?W,?K b,?a0 ys,?ai->?e8,vs++dvs,(n,k),?NT Shared,h.IsListIter,?K D,∀b∈fp,?j2,.Name,Nat->Int,binaryOp,i<=n,qc1 e,?a4 vs us,2 ^ 63,?v z,h'.get?,[a,b,c],"enumerate",(1:Int),"zip",.BoolOp,qq3 _,Addr,∀(hf:?r (?nO\/?Jb ?cW) ?As),a,∀(x:p0) (x:p1) (x:p2) (x:p3) (x:p4) (x:p5) (x:p6),a,.(by let ?F0:=hf it ?w),∀{te:TE}{D:Addr}{Q:?aN}{τ:St}{H:Hp},a,∀(ha:?D2)(hb:?KG b tb),a,∀(hf:?p2),a,.(by let ?bn:=rx),∀(he:?n9),a,∀{xs ys:?z},a,.(by simpa using hb),.(by rw[qc6,←hl]),∀(f:?eD),a,∀{w:?I},a,∀{fam:Int},a,∀{v:Value},a,hlen,v=?N,Value.ref,?eE .Add,?n x,I.hok.fresh,#[u,hu,ru],.function,yU lo n,?Ni b,?MW Value,H' b,FE h0,Itz K a b,?JM ha _,{ s with toks:=?jF },?dm ?ri,?h w,Array,.fields,assign,#[t,e],vs.toArray,(?Lt rv p),qe4.mp,eqDs a b,?eK b,f∈ws,scope,ps.zip us,qb1 _,H l=?pM,?V r t,.(by ext eb),Zd._auto_1,?NL e,{ s with heap:=h' },?KX x d,λz=>?ie,items,body,(?Lu rv p),r.get,?Q hk,D.nx,s₁.heap,?f5 h,2 ^ 64,I.ok.kind,λ_ _ _=>False,pl.isList,0<fam,?a4 xs its,Ite K a,t σ H Q,HT.sIx,?C α,I.os,?a0 xs,I.pin,?rE es x1 tpos,(?LB x r1),Ne.symm,lv fam w,"bool",rv.get,sc.names,backTo,I.laid,(?np).any,.(by cases (?Li (y=?b7));cases (?LW ?kP)),.(by cases (?Lh (y=?b7));cases (?LW (v=?h9 b))),.(by cases (?Li (y=?J));cases (?LW ?lF)),.(by cases (?Lh (y=?J));cases (?LW (v=Value.none))),∀(hd:?H1),a,∀(F:By ?aa X.w ?t ?cu ?cf CX k f fd ps sp),a,.(by cases (?Li ?kV)),.(by cases (?Lh ?kV)),.(by cases (?Li (y=?c6 z))),.(by cases (?Lh (y=?c6 z))),∀{prog:Program}{w:World},a,.(by intro Ag s σ H R I h),∀(hu:X.A.units+n<cLine),a,∀(ha:?uJ),a,∀(Q:?v5),a,∀(Q:VK)(x:V)(H1:Hp),a,∀(lo hi:?bW),a,∀{x1:Nat}{tpos:Pos},a,∀{b:Addr}{o:Obj},a,.(by simp only[eqD]),∀{g:TG}{tc:TT},a,∀{x:?I},a,?L ?w,V->?ix,?v h,?NT Heap,model,?qE ?bQ ?f9 ?E f cd,IsTup,h _ ?w,K.In ?H,?o i t,eqF X H d,bindL,us++ds,λv s1 _z=>?_,qa6 _ e,?h y,uH h0,(i:Int),IsEnum,EZ ?fQ H,?o b,call_meets,Nat.sub_le _ _,sIx ?oY 0 lo,Heap.SameBut,X.env.kindOf,#[#[old,h1],h2],Paired,I.kept,scope.names.lookup,?ac xs,{ s with heap:=h',toks:=t' },x==n,XF.names.lookup,b ∉ ch,V->?bW->?bW->?ix,?oJ=?U,?a0 ds,callerA,IsZip,Do ws acc fs,Nt X Ag H b,¬?cv,b ∉ ex,?fa ?bV 0 lo,(0:Int),?NL o,V0 H H',?o (lo+i),?O9 X.N,X.base.get? b=?x,#[_,e,?g],?bZ y u,.Attribute,G7 k A,?NS b,Q v H',Fb ns,Ft ws rows,?No a o,Value.bool,x∈acc,#[_,ho,?g],Q ?a9 H',bindC,?c1 ?ai,Nat.min_le_right _ _,s.toks,?ag _ n,(a:Addr),RA ?dC,[e,it],qb4 ..,c.nocell,g i,?ag f n,LT K H ?N xs,SameX,?NS c,EY ws f,.(by ext i7),IntsAre vs ns,.(by simp;ext d),.free,?Kq ?E,?LJ us,?L h,?c0 b,sc.names.lookup,(?cy hi).1,V->?aN,?h ?aM,"str",λ_ _ q=>q,fam=0,below,.(by simpa using hv),?a2 ?t H vs ds,?a0 [],?cu x,V->?bs,?c1 V,holding,lI cap σ,i<xs.length,(xs.length:Int),its.toArray.size,u=?ej a,x::xs,p'.isList,UI h0,∀(hdb:?H1) (he:?kx),a,∀{g:TG}{tb:TS}{D:Ends}{σ:St}{H:Hp}(Pv:?jA)(h0:?Gp),a,∀(s:Shared) (Q:?e5) (E:?e5),a,∀{X:Cx}{sc:Scope}{N':?X}{cap:?C ?rD},a,∀(hb:?wa)(hd:?x4)(hx:?Fl),a,.(by show ?wf;ext d),∀(mg:?bR)(base:Heap),a,∀{mg:?bR}{base:Heap},a,.(by let#[_,_,z,_]:=h';cases z),.(by simp only[qc6]<;>ext d),∀(E:?e5),a,∀{Q:Unit->?e8},a,∀{m:?bR},a,∀{vs:?F},a,∀(fs acc:LLInt),a,∀(ha:PT X a tA),a,∀(x:?n0),a,∀(hr:G7 k ?q),a,∀(l acc:LLInt),a,∀(p:?I),a,∀(ds:?aV),a,∀(hg:?n4),a,#[o',e1],X.outer,ns.length<=n,?aA ?bp,ys++[y],ys[i]?=?gQ,La h2,?eC x px,WData.list ?iv,I.loc,?OS Hp ?eR ?z,?h ?gf,pos.line,k b u q,qh3 _ _,(?Lt r' pl),#[z,its,n,r,e],k.toNat,λσ2 H2=>tb { D with nx:=?cB,ct:=?cB,bk:=D.nx } σ2 H2,fs.lookup,.(nomatch z),_,IsPart,JN vW,ns.map,n::ns,λ_ _ z=>no z,qc1 ho,Gm n f,_,λb hb=>(?lL).1,cells.lookup,AllBare,((?u9:Nat):Int),x=?kM,?h ?nU,x=.bl c,?ii WData.int,?K sl,?JN Hp VK,#[y,H2,I2,r2,q2],codeAny_mono,w::vs,?Mv I.ok.bs,?es=none,?ba id,λb o e n hb hx=>?_,?a0 _,#[e,y],?cb (?eC x p) ?cl [] ?m,.bl ?bp,?o n,Nat->?P,I7.unpinned,trk h H,Sum.inl,?bS=?x,s.toks+1,(k:Int),qe2 ?eG,?fe p hp,Pv i zs τ H,#[xs,q,?W],h1.get?,x=?a8,At t u D σ H,?hO+f n,a.length=b.length,ForInStep.yield,qr4 _,?ax q',Q9 ds es hl,It->?aN,I.base.there b o e hx,#[xs,xs[i],q,by simp[hlt]],?f7=?x,?Q h,?dH x c e,?C ?wN,?JM he _,(?LB vs r1),.call,?az q',dep d,Au st,?NS X.calm,#[?d8,mJ,p',_],swapsWith,eqD e d,sc.kind=?eo,H l=none,(k,x)::r,?K t,?Bf ?m ?Fw,value,.(by ext ly),qa6 _ q,?h (.own a),qa9 h1,I.turned,IteG S a,start N vs,s.heap.update,ds.any ?Dd,λb ob q=>?js,I.step,{ cls:=?ay,data:=?aH ?f3 },h2 f hf,.cell,sp vs H Q E,I.base.free,(x:V),Ci xs lo hi,xs.length<=i,[b,c],(p,w)::?mb,b≠e,.Constant,λr s4 _z=>?_,.func,I1.list,?eC x ?m,Nat.min_eq_left,Call_,assignEach,hf b hb',?K l,xs.getD,?JG H' s',u=?h9 b,#[?d8,_,p',_],S H b ys,?N7 ?qz ?bB,Sum.inr,I.len,y=?a8,"dict",(?NR ?gP),X.env.cells.lookup,∀b xs,?N5 ?iV ?iV,#[_,ho2,?g],?as x,Vis ?oO x,?V _ t,vs=[],?oz-?gY,Nat->?gE,"range",bs[i]?,H a=?x,ht.typeIs,Eh ?ev ?gO,.(nomatch h),b ∉ X.fs,Ye X sc N' cap,?v i,env.cells,.(by simpa using h1),tOp r ta tb,callWith,?C L2.D,(d:L2.D),.(by simpa using hx),?Ks (?rt=?Dn::?sE),concat_meets,Q v H,.bl ?bO,fs.map,y xs q,?Mr ?ox,c.cells I.ok,a==b,X.env.locals,I.list_inj,?h ?ng,?ME i,?fi=0,r.inj r',getItem,Nat.le_trans,Ze._auto_1,u=Value.none,(b,o),#[xs.length-?R,?l,?g,hlt,p'],?ac [x,y],neC b o e hx,?KM a ?cT,hf b hb,s.heap.IsCell,.(by simpa using hu),#[us,[]],True.intro,qW S NE a b,?iq s'.gens,A.deeper,?K A,.Assign,.(nomatch e),W.fnOf x ?bQ (Ju st) ?El ?jg ?aS kV doc pm an Dz ct,.own x,ha ?m Ag s σ H _ I h,?Gy C ?E,s.heap.FunFrames,env.kindOf,.bl k,N σ' H',.(by have l1:=r.length;have l2:=r'.length;have l3:=rv.length;have l4:=mJ.length;have e1:its.toArray.size=ds.length:=?bA),.(by have e2:its'.toArray.size=es.length:=?bA),.(by(. obtain rfl:=?aI;obtain rfl:=?aJ;simp[?et])),∀(hN:X.N.Nodup)(hi:?gy)(hx:?mn),a,∀(k:∀b u,?r7),a,∀(hn:?r ?Bg ?fF),a,.(by let ?CL:=he;cases ry),.(by let ?CL:=hy;cases ry),∀{kindOf:Str->?c1 NameKind}{x:Str},a,∀(R:?jU)(vs:?z)(H1:Hp),a,.(by have e:b=it:=?fE),.(by let#[b,ws,z,q',r']:=h';cases z),∀(x7:A7) (x8:A8) (x9:A9) (Tb:nZ),a,.(by(ext i6)),.(by exact#[?aQ,?aQ]),∀(H':Hp) (i:?kO),a,.(by cases (show ?ke from h)),∀(r:?hn),a,∀{f:?BZ},a,.(by intro wh Ag s σ H Q I h),.(by rw[Al (Aq q hn)];exact q),∀(sp:Sp)(dvs:?z)(E:XK),a,.(by have e:i=n:=O9m;subst e),∀{kw:?er},a,∀(cap:?C ?rD),a,∀(x0:A0) (x1:A1) (x2:A2),a,∀(x:p0) (x:p1) (x:p2),a,∀{P:Program}{w:World},a,.(by let#[a,vs,e,q,r]:=h),∀(c:?ko),a,∀(R:?jU),a,∀(a:?uv),a,∀(its:?F),a,∀(outer:?bt),a,∀(g:Int->?mh),a,∀{e:Expr}{te:TE},a,∀(fp:?am),a,∀(ha:?D2),a,∀(hl:?KG l tl),a,∀(r:?eH),a,∀(h:?B9),a,∀(x:?bK),a,∀{X:Cx}{Ag:Bl},a,CZ i,Reps.same,?zi-?gt,Zi._auto_1,?e7::r,.(by simp[Fb,eqDs]),∀x∈ns,x.natAbs<2 ^ Rf,Data.fields _=Data.cell v,?ai->Sem ?ai,?c1 HO,?L hb,sc.names.all,K w.params,?NS ?pb,(?fm cpos ?sE).any,(! ?o2),P.zip vs,.str_str c t z t',x∈?gp,.(by rw[q];simp),Builtin.Slice.slicePlaces,#[_,?dh,?g,?g],Int->V,(xs:LLInt),.bool_list c ?aD ?l,#[e,?_],(n,NameKind.free),.tuple_int i t' p ?l,Loc ?oO x,.(nomatch hf),?JN Int Int,(?mX).In,?hp [ov] (?nA ov m pl),X.s₀.heap.get? b=?x,.none_list ?aD ?l,λp hp=>?_,s₁.heap.Ns,dx≠x,?N7 W.isFn ?bB,#[t',?g],EX ?au e,?MR H h,ws++[w],.tuple_none p ?l,acc++its,Gl X x,ws.toArray,N'.zip cap,?Kq D,eqDs_refl,?KG e te,getMethod,d.name,?cS b,H1 a=?it,∀f∈?aG,?f8,n=?bz\/n=?fj\/n=?hf\/n=?dO\/n=?ch\/n=?kW,h.objs.size<=a,#[v,r,?g,h1,h2],#[v,z],s'.os=s.os,Eh ?jb ?gO,λm hm=>?_,if c then A else B,if ?HG/\f ∉ acc then acc++[f] else acc,X.fn x=true,.same _,(?dm ?r2).objs.size,-?b6<=i,qa8 ?_,?aw e env,.ins C dx fs,.str_bool c t b,tb σ H1 Q,.int_tuple c t p ?l,∀vs H Q E,?k5->?Bv,Un.kept,relabel sc ?p,s₁.heap.get?,Builtin.Int.intBits,s2.heap,qd6 ?_,?Da i j,?h ?bB,.int_list c t ?aD ?l,letOwnedTupleGo,#[v,H,I,r,h],.int_none c t,isTrue,?Gy C dx,?gi p.1,WData.weight,?fm ?m ?sE,#[sl,e1],∃a,w=[a],its.toList,#[od,J,hl],k b o hc e,.(by simpa using h2),?ba "all",?id m=none,qd6 hQ,?JS hb _,sliceBounds lo hi ?aM n,#[a,vs,?g,q,r],eqD d e,D8 K C f,Os ws fam,(hs.2 b (?L0 ?eG (I.ok.cab x c hfn hc))).trans,noFill_tuple_add,λu s1 _z=>?_,.tuple_bool b p ?l,#[n,?w,?fB,h0],On K fd ps [],x=?a9,LLInt->?F7,I1.laid,ns.getD,j<xs.length,_::_::_::?cC,λx1 x2=>x1++x2,.bool_tuple c p ?l,vs[i]?,o.slots,f v u,.Subscript,H p=?pM,X.env.scope,J.go i H,putF f v fs,base.Ns ?s4 mg,Classical.propDecidable _,?C ?ho,?v q,a<h.objs.size,(sizeLine:Nat),o.cls=?bN,items.size,#[o,ho,hd],?h ?rU,List.foldl,ql8 ?_,o.dict=none,(?aG).map,?cx x c e,w.length-1,seqIndex_neg,kk c o hc e,.list_tuple ?aD p' ?l,Ao7 h0,?LV ?bV,.str_int c t i t',d0::ds,?No x o,?hm=none,min v ?b6,.bool_str c z t,xs++ys,?JG H ?fH,ys++[v],F5 fam v,I1.kept,H2.objs.size,wpAny_standAt,sIx ?oY ?oY hi,?hb x=?ah,I.ok.mod.kin,∀b∈fp,?gq,h.Ns1 dx mA,qv0 _,tI x,PA X es t,ws.findIdx,b::rest,∃xs,SqL K H1 a xs,?h ?jG,mA ?aP,#[u,r,l],{ s3 with heap:=s3.heap.push { cls:=?an "slice",data:=?f0 #v[vl,vu,?aS] } },.none_str z t,?ej ?aR::us,Ao6 h0,.list_str z t' ?aD ?l,?Mb ds d,.list_none ?aD ?l,(hs.2 b ?vq).trans,x∈?rh,?h ?fd,.str_tuple c t p ?l,Cls ?t C,.(by simpa using hk),its.length,ds++[d],#[e,n,ne,nf,d],.(by ext i3),?Jp C,.bool_int c i t,?h ?U,Um xs i=?U,?bW->?aN,#[o,e,c,d],?C Keyword,?Ke k,xs.drop,s.TypeIs,λxs ys i=>?k9\/ys.length<=i,?B (a=b),?au p _ hk,xs.map,#[m,hn,hl],w.drop,.FunctionDef,X.wish E,#[o,e,ex],X.K=K,(?OZ (?O5 (eb b o hb e))),J.stop i H,[a,b,c,d],.(by rw[qn1];simp),.tuple_str z t' p ?l,i==j,i<vs.length,typeIs_int,qa0 hj,?JY n,?K i2,I1.hok.fresh ?W,?Nn ns,I.ok.bsz,?OW ys.length,?v #[a,?g],?K i1,?kK es ?p,k b ob q,.(by simpa using h),∀f,Ol (?id f) (mA f),Nq.new _ _,.str_list c t ?aD ?l,?NZ hi _ (λv s1 h1=>Eh h1 λitv s2 h2=>?_),?rB apos.atName,Cn ?Bl,envOfC,λ_ _ z=>z.elim,TP X Ag σ Q,.(by ext sh),attributeBase,u.keep,.int_bool c t b,Aq e h,.ty n,.(by simp[h]),?o x,?Q ?w,imms ds,W.codeIn K Dz ?bQ=true,λ_ q=>q,pa.isList,?o fam,?Mw ?Eg o e,Nat.min_eq_right,?KD 1,.int_str c t z t',?cR hq,?an T,(?KP (if ?h4 then te τ2 H3 ?FD else ?OT ys H3)),#[its2,r2,p2,_],sU _ _ e,.none_int i t,seqIndex_of,λe=>eqD e ?H8,.(by simpa using e),I.base,?ag g n,?h (?a0 us),?h (?f1 ?iR ?p),pb.isList,i.toNat,?h ?yA,id ?iT,y=?e3,seq_tuple_add,x∈ws,its.toArray.size*k.toNat,x.2≠NameKind.cell,#[i,hi],?Kq a,?k6 b o e n hx,(x,NameKind.free),W.keepIn,(hi-lo).toNat,?o ns.sum,{ cls:=?an ?kh,data:=?f0 #v[?o lo t,?o hi u,?o 1 v] },tn i ?H,k b o (λz=>hc (by simp[z])) e,?v e,σ[j]?,?ha=?aB->?f7=?aB,FnScope,∀b o u,?N5 ?qo ?qo,H b=?aB,standAt,.str_none c t,?c1 Nat,.Tuple,[?a8,?o j],wpAny_Name,.bool_none c,if v<0 then(v+?b6).toNat else ?GY,Rep.inj,I.ok.above,Result->?e8,∃a b c,w=?eL,?ml∈sc.names,λi=>?E2,.int_int c t i t',(f,first),Or.inr,?ba ?Fo,.none_tuple p ?l,{ cls:=?ay,data:=?aH ?a3 n },pyIter,Cls K C,PySem.Within,?ac ys,behindInMarks op b=false,Gb X sc N' C s₀ H₀ fp,bU X.env.cells ?fl [],?N2 v e,ds.map YX,BindsTo,?KK Dz,.bool_bool c b,?L7 acc l,PySem.W.emptyDict,?Lr o,getAttr,?c8 .NotEq,#[h0,?_],Zp hij hj,.(λz=>by simp at z),?cU H H1,?ba "sum",(?Lu r1 p1),pK n d,?Ny ?cl,?Lp A,?bZ y v,?No p ?lI,Obj.mapSeq,(j:Int),p.getD,?cR hq',D->?c3,?n ?g,env.cells.lookup,mainGlobals,ws.map tI,?an n,#[cls,dd,data,sl],H4 D=?h ?e4,c.kind,PySem.W.methodObj,?s H4 D (?a0 ?iO),X.pn++Ag,#[_,e],?Ny es,.tuple_list p ?hw ?l,q _ ?e2,?z->?aN,I.write,?Mq e,if w∈ws then ws else ?n1,qu1 _ _,?f5 (?Am b z),?Q ?a1,?No ?E ?lI,preSum,Q () s',?JG H ?gg,?Mw ?zE o e,?L hz,?N2 x d,.none_bool b,(n,NameKind.cell),PySem.W.plainGet,Zk._auto_1,.list_bool b ?aD ?l,Sem ?c3,.list_int i t' ?aD ?l,?eK ?E,.(by rcases Tc h with⟨h0,⟨a,rfl⟩|⟨a,b,rfl⟩|⟨a,b,c,rfl⟩|⟨a,b,c,d,rfl⟩⟩|⟨h0,rfl|⟨a,rfl⟩|⟨a,b,c,rfl⟩⟩|⟨h0,rfl|⟨a,rfl⟩|⟨a,b,rfl⟩|⟨a,b,c,rfl⟩⟩),∀(hch:∀b∈ch,?tY),a,∀(ht:?Kf PTs ifs tc) (he:?Kf PE elt te),a,.(by rw[show putF f v ?jn=(if k=f then(k,v)::r else(k,x)::?CH) from rfl];by_cases hk:k=f),.(by unfold Ay;rw[?dr,?gB,?dr];rfl),∀(hs:?r (∀x,foldedSetIterable iter ?p x=?aA x) ?mO),a,.(by intro Ag s σ H x v vl vu lo hi sl Q I rx hs pl pu h),.(by subst e;exact I1.fpOk ?W ?pz),∀(hg:?Kf PG tg g),a,∀(hl:?KL ?cQ),a,.(by simp only[eqD];by_cases hl:?vF),.(by let(?MZ I):=h;exact(?MZ ?FC)),∀(A:Around) (outer:?bt) (s:Shared) (H:Hp),a,.(by have:=(?Eo).symm;simpa using this),.(by intro Ag s σ H x vs v us Q I rx rv h),∀(e:H a=?it)(c:?pO),a,.(by by_cases hk:?mY),∀(hu:?wK),a,∀(x:V)(lo:?bW)(hi:?bW),a,.(by cases rx;let ?ui:=rv.one),.(by have l1:=rv.length;rw[qa3]at l1),.(by let#[z,its,n,r,hl,e]:=I.lstM hH),.(by let ?iZ:=?dn),.(by exact ?JS hb Q),.(by let#[c,?g,q1]:=q1;cases r1),∀(σ:St)(H:Hp)(Q:?P),a,.(by rcases ?fR with e | e),∀(ho:Uo X (?c8 op) r),a,∀{fd:FuncData}{ps:?X},a,∀(hok:?Ly H' h'),a,∀{c A B:Prop}[Decidable c],a,∀(hz:?A1),a,∀(prog:Program)(w:World),a,∀(sc:Scope)(N':?X),a,∀{mA:?bR},a,∀{z TI TO i1 i2:Addr},a,∀(i j:Int) (t u:Tok),a,∀(h:?ck),a,∀(h:SqT ?t H a xs),a,∀(hn:l.most=?h n),a,∀{B:Addr}{H H1:Hp},a,K.In ?al,.Slice lo hi ?aM p2,?cb (?h2 o ?aP apos) ?cl [] cpos,PA X ?bD ta,?dv::?e6,PG X tg g,I.base.frzs,?Nx ?hL,#[H3,I3,q3],?fP σ H1,qa5 ?q1 I.sz,?OP Ab5,intBits_le_64 h1 h2,#[?g,?g],#[u',r',q],z.sameBut hs (cne y c e),?yP/\?eq/\?Fr,Eh (h ?m Ag s σ H _ I hq) λus s1 #[xs,H1,I1,r,z,q]=>#[by rw[←r.length];exact z,?_],.(by rw[qc6]<;>ext d),(show False from r).elim,λd h=>R8 h,(?Lt rv pl),.(by rw[hD];exact ?W),?MU ?z2,#[_,e,_],∀l,?jm->Q ?kM ?Ar,λτ2 H2=>te τ2 H2 ?FD,∀x:Str,?Bg->mb x=?kb,?od/\o.data=?aH its n/\?JY its.size/\?a4 xs ?ns,(?pl).Ok,λx a e=>?_,?rx f,?NN ?l7,Builtin.Slice.sliceAdjust lo hi 1 ?b6,#[_,o,ho,_],(?Lt r pl),λb o e hx=>?_,?v2=?kT b,I.base.tups,l.row.toRowW,∃sl,?f7=?h { o with slots:=sl },?aH (?NW ?kf).toArray,fin r rv,#[?Ea,ho2,hc2,n2,hd2],#[z,H3,I3,r3,k,e,q3],?AG a [op] [b] ?m,#[xs,x,hq,hx],?eC x pos',∀b ps,H b=?h ?yq->∃more,?es=?h (.tbl (ps++more)),?ig vu hi,?MU ?p8,?Kr ?cw,PySem.W.cellsFrom_some,sIx n 0 lo,YA.extBut,D8 ?t C f,Fn e h (by intro z;cases z),R x y H2,?lb n==?ah,λf vs=>PySem.call f vs,#[m,?A4,_],?Lc b ys,pre_splitW hpre,PA X ?cl t,?cw+1<=n,∀b∈fp,∃o,?bm/\?br,?MY ?s3,newList [],Pc ws fam n layer rows,hn.sameBut,?JL M (storeName ?p x u),λ_ _ _ e=>e,Rk ws w fam,?Lv jC,λ_ e=>?lV,fitsIndex_both h1 h2,?Lv vJ,VT ?bV i,qd6 #[_,?g,qd6 h],.ins C dx [],.(by simpa using I.len),xs[f.toNat]?=?h q,?ba "min",?wj hd,y=?o j,((?ze:Nat):Int),¬ v < 0,s₁.gens=#v[],#[u,?g,ru],#[main,?_],I.pins_of,.none_none,?hi ws fam [] l,?OP vG,?Oa a ys,?LT vI,i.toNat=j,preSum_sum,P σ' H',λc hc=>?_,.dK kvs,?hQ B H H1,?OY ?kX,a c o h,?Lv NS,?h ?j3,λ_ _ _ _ n=>n,#[sl,hL],(?kT a:Key),#[f,h,?w],j<1073741824,?c3->?aN,subscriptTail,?MG n,Eu.mpr ?g,.(λm' hm=>by ext I8),op≠.NotIn,.bl ?rs,Do ws acc ?aG,#[qa,qb],.(by simpa using hi),ds.length=es.length,i.natAbs<2 ^ m,#[?j4,?j4,?k6,?ts,?tu,?tO,?H4],λv hv=>(qg6.mp nd).1 (qs5 hv).1,#[?mg,?_],dep ?p5,?h2 o m apos,VC Q x H1,SqL K,putF f y fs,?af b=?aB->?f7=?aB,ZH _ _ e,(?Lu _ p),Bo Y [] τ' H' s',VN t u vs σ H Q,if v<0 then max (v+?b6) 0 else ?oq,?O1 HP σ Q,∃t,u=Value.str x t,hA b ?me,4*l.length,builtinsNs,ih _ ?G4,?qj+g n,?KQ (V.str b),?zK I r r',Subscript_,?OK us.length,?a4 ys its,?B (x=y),?C4 .Not a ?m,u σ H1 Q,ZH _ _ hc',#[σ7,H7,I7,n7],.(by rw[qb7];exact hz),?Av\/?BY,IsRangeIter,λv H2=>v=?J/\Q ?dv H2,?L0 ?eG ?rK,?G ?g z,I.hok.laid,(?jD a:Key),yZ wi cap g tc te,.(by ext Ia),?Ly H' ?dG,(?bp,?GR),I.ok.noex,?N7 PySem.W.makesIn C,?vt=?jD b,qe2 (?N3 _),eqDs_ok I ds,i=0/\j=1,(n,v)::r,PySem.W.takerIn,#[u,e1,e2],isTrue_or,?N5 ?x ?x,?a4 [x] us,[s1.heap.objs.size],#[xs,hq,hx],{ s with heap:=h',toks:=tk },#[a,vs,?g,q1,r],κ × V,EqD X H s d,Walks.list (show X.A.in1.handled=none from hh) ?E p ?_ ?a3,qg7 _ z,?NS ?xl,qd6 ?uY,∀σ' H',?us->u D σ' H',.ok .next,λi x ys τ H e p=>hs i x ys τ H e p,Str × NameKind,#[?b3,[]],∃c,?s3 n=?bC,qa8 ?ne,Be1 g x y H Q,Q ?Fa H,Q ?dx H,?rJ I hx' hy',Vals.append,(?q5).findIdx?,?af p.1=?h p.2/\H p.1=none/\p.1≠X.env.locals/\p.1 ∉ X.fs/\∀v,p.2.data≠?k4 v,?LT Ab9,∀b∈fp,?za,On ?t fd ps ds,w.length=3,?dH x a ?GF,#[xs,hq],Builtin.List.listTooLong,X.A.units+1+?cw<cLine,?NS (?DW==0&&?eN==1&&?kf==items.size),b ∉ X.ex,?Fy\/?A5,r.append,A.handled=none,.(by simpa using rv),λa e=>?_,Rep K H' v d,.(by ext Io),vs=[y],e0.hok.fresh,wpAny_call,PySem.W.handedIn,.ins C ?E [],?cY/\?kR,PG X ?kH ?mL,-?c2<=j,λ(m:Nat)=>xs[?Dq]?,CE ?aZ P w H s Q u s',?ga x=?ah\/?ga x=?bx,∃o,?c9/\?br,?AV+?cw<cLine,λb ps e=>#[#v[],by rw[e];simp],∀x∈sc.names,?qu,?a4 dvs ds,Q (?o ?dx ?hG) ?ew->?xE,ItFld K f Q x H1,?OH (hc Ag s1 σ H1 vs us Q I1 r1 q1),?KY (ho Ag s2 σ H2 x y v u Q I2 rx ry q),?Nx hv,?ip x=?bC,?No l o,i=0/\j=2,?h e,?KN (f ?gK (?o j u)) E s,Int.not_lt.mp,us.toArray[j],?No x o',?LD sc.isGenerator,?Mv neL,?Kw (c≠b),?bm/\?aC,?h od,TI K H' v ns,again I7 n7,?KT Ew ?cj fd,λw hw=>h w (?Nx hw),?ni tg ?cd u,"type.__call__",.(by ext HV),VA ?t C m g,(?Jl ?ym ?ym),?MG ?bV,#[_,_,_,_,o,_,_,e,ex,_],?Ku h ?aS,qr2 hiσ,r x y H Q,?ac [?a8,x],?MB c->?eK c=?x,IrU g x H Q,∃t,u=Value.bytes b t,#[p,u,v,hp,?g,?g,y1,y2],?Ng h,ho Ag s2 σ H2 x y v u _ I2 r1 r2 q2,?Nn p,Ac1 K R vs H1,hl u hu,g==k,Eh ?jb ?o7,Nat.min_le_left _ _,qr6 (pl:=pl) ?xm ht,.set S n,#[hz,hTI,#[u0,v0,hTO],h1,h2],(w:Int) < (L:Int),λb u q=>?js,f6 fp s5.heap,?w3\/?xC\/?yI,?JR ?uY,?MB it,cellsFrom,deps ?h6,?id f=?U,hd σ H pp,?JG H' s2,#[#[o,e,ex.1],λa e2=>?_],?Mt ?p8,∃o',?f7=?h o',(?au b u e).stay,?cO h TO c d,T.keep _ _ _ st5 λb hb o e=>(?HK).1,?LD (a==sysModules),#[a,b,c,?g],.frz o u,?Mn s.heap.IsTuple,?Jp a,#[m',hm,w7],?e9 it a i,?z->?P,FP ?Bl&&?M5 (?qD-1)&&(?B (?qD<2) || No xs ?rd),?fh hb,i=1/\j=2,VL K R x H1,sU _ _ q,eqDs (Fb a) (Fb b),#[x,n,d,a,b,c,e],λh' st' sb=>?_,Q ?zN H,b∈X.ex\/?JV b,(i+n).toNat,tI ns,VM K R vs H1,?ej ?aR::?gN,?LT NV,{ s with heap:=(?ex).push ?lZ },op≠.In,#[?g,fin],vs=[x],∀b∈fp,?LE b,s3.heap.objs.size,mixKind P w,?Ks ?gy,?KG o ta,y1 xs qa,.(by ext lu;simp[Reps]),.(by rw[I.ok.glob];exact I.mod.glob.keeps I.bk),λi x v e1 e2 e3=>?_,λm=>xs[i+m]?,tn i s7.heap,#[?MM xs.length ?dJ,?C1,?_],Xi ?aa X.w ?t tg J fp it tn,#[p,ys,a,b,c],cap.length=N'.length,g==f,scal x y=true,.tbl ps,c ∉ fp,?NT ?eR,La h1,s.heap.Ns ?l6 m,A.depth+1,?KQ (V.bl b),hk c o n1 n3 n4 n5 e,(a+b)%fam,λj y v' e1 e2 e3=>?_,?iq s.gens,.(by rw[qa7,hb];rfl),a::?p8,UnaryOp_,.(by simpa using hs),#[sl',e2],Ab2 tb σ Q x H1,.ins C dx ?vO,?lS ?gG,Same.refl H,Calls.Name_function_global,{ s with heap:=?dm ?r2,toks:=tk },#[?zN,H,?ds,#[?jF,by rw[qc6,hlen]],q],?Ld ?pl Ag,I.base.keep,?NL iter,xs++[x],fs.length<1000,AI ?l4,?ak a o hk,Reps.inj,#[n-?R,?l,?g,hlt,p'],#[u,r,?_],?o ?C3,vs++ws,subscriptTail_builtinR,Nat.log2_lt,yM ?oO X.N sc N' cap=true,bindArgs,?c6 x t,?hb x=?cW\/?p0,?h2 e f ?m,G7 ?cj A,.(by simpa[e1,e2]using hl),?ba "max",λb=>?_,Nt X Ag H' b,.(by have:=r.un;ext d),?gZ e h' h3,?a4 ys ?d8,sIx n n hi,?OS ?z ?z Nat,qf7 (?OH ?_) (by rw[hs,hs2]) (by rw[hs2];rfl),∀[?bj] [?cN],?re s fd #[[u],[]] [(x,u)],?fa ?bV ?bV hi,step x H5 y5,.(by have:=r.dp;ext d),∃u,us=[u]/\?bd,mg ?nB=?h ?Ev,lo+?Dg*1,h'.objs.size,#[o,e,ex.2.1],?KM p xs,λp hp=>?G hp (by simp[Gb]),#[ok.mod,ok.kind,ok.glob,ok.blt,ok.above,ok.inj,ok.has,ok.cab,ok.hd,ok.frames,ok.stk,ok.exf,ok.bs,ok.bsz,ok.noex,ok.exfs,ok.funs,ok.frf],λ_ s6 _z=>?_,SP X Ag D,?O9 P,?KH ?vL [],if g=f then ?aB else mA g,#[_,?dh,?g,?g,_,?g],mX hij hj,slicePart_none,?JY ys.length,#[j,?g],k a _ ?ao e,#[o,es,ep,ho,r],?Lc p ys,?OY hk,λr s' hq=>?_,(?oQ).map,(?aG).length,?LU hb wh Q,wpAny_comprehension_free,?Mt ?z2,H' p=?qk,compPost,#[v,o,ho,hd],.Compare,loop _ ?g,?ez UInt8,[op,op'],PS X st t,?JY (xs.length+ys.length),es.toList.any,tn i ?dG,G7 ?cj ?q,{ s with heap:=h₁,toks:=s.toks+([]:?er).length },y2 ys qb,?cQ/\?KM b ys,ds[j]' ?l,Ac0 K n neg x y H Q,true==true,A.units+1,#[m0,w0],?o (j:Nat),?Je u s',?ag (λi=>f i j) n,PIE X Ag σ tg R,?KD 4,d.params.defaults=[],G7 k ?gn,{ D with nx:=N,ct:=N,bk:=D.nx },Mut (H x),ob.slots,#[σ,H,I,h],xs.eraseIdx,#[h1,?BV],call_list_seq,Fa K x ?bQ st f fd,I.stkSub,.(λv z=>by rw[d]at z;cases z),us'.toArray[j],a b _ ?uC e,Se _ _ hv,?No l ?e4,Zc._auto_1,ItB Q x H1,λb z=>?G z (noA b),?Oa p ys,¬(?gt=0/\?ME ?zi),#[o,ho,hc,n,hd],?r8 N ps ?f9,?Oa a xs,?KG ?kH (Ax8 i),∃t,u=Value.int i t,.(by subst z;rw[r]at mu;exact mu),subscripted,?LN f,vL R vs H1,W.fnOf ?aP ?bQ params ?fL ?f9 dV kV doc pm an Dz ct,?oe ?DB,hl i σ H hi pp,NQ fam ws,?C WData,Nat->?yF,Int.ofNat_le.mpr q,∃a b,w=?bD,?Lo ?u3 ?mL,λ_ s'=>NP X Ag Q s',?h2 o f pos',#[o,es',ep,ho,r],?Nm Q I,?KQ (?c7 b),λq=>hb (q▸ ?hL),PGs X es t,?Jp b,?Nk H D ?ou,Eh ?ev λc s1 _z=>?_,?kN ?qn [],.of_refs hab main,seqIndex?,I.ok.inj,.(by ext HW),∃c d,?y6,λf hf=>?_,[s.heap.objs.size,p],∃o,?jE,SqT ?t H p ys,?ai->?mT,F.slot_int_rmul,λo=>o.bind λj=>?CN,b∈X.fs,?ba "len",.(by simp[putF]),backToKw,x≠"__name__",#[i,j,?g,?g,q],?gZ z h' h3,RA ?aZ,{ D with nx:=u D },ds.length,PA X [a] ta,?fm ?m (?Ny ?cX),?xx ?aR scope.names [],#[hz,hTI,#[u,v,hTO],h1,h2],pyNext ?cd,VD C m sp dvs E t σ Q x H1,?a0 ?k8,.own ?aR,?nl e ?p whole,?OK vs.length,NT x vs H Q,#[h1,h2,h3,h4],?MN hx rx rv,((?GY:Nat):Int),W2 f y fs,#[?bV,?w,?fB,h0],?C Key × Addr × Value,ys.length,.UnaryOp,fs.length<=1000,I.cne x c e,?NQ ?zL,#[p,bs,a,b,c],h₁.get?,[s.heap.objs.size],vD Q x H1,Ab6 x y H Q,.bl (!c),λx c e=>?_,?No D ?hl,zs++[y],putF f v r,its.toArray[m],s.heap.IsSliceOf sl vl vu ?aS,?n (?v #[a,b,?g]),#[b,ws,?g,q',r'],Or.inl ?g,(?r6).join,o.data=.dict es ep,λ_=>0,∀[?a5] (x:V) [?aK] (v:Value) [?cJ] (Q:VK),?T->?d1->?Nj ?bE (r x xs H Q) (call ?j3 (v::us)),?JM ho _,#[_,_,_,q],Ac3 K n t v σ H Q,PySem.W.lookIn ?aP od,(fam:Int),?OP Ab4,wpAny_execs_cons,?bw ?h e,?jf<=?cw,?N7 PySem.W.plainOver C,∀v,(x,v) ∉ binds,Ab1 i σ H Q,Eh ?lY λus s1 #[vs,H1,I1,r,q]=>#[I1.kIn,?_],nQ X ?fL tb,boot_range,λr s'=>r=.ok (.ret ?dB)/\OldK ?fQ ?dG/\s'.os=s₁.os/\?lR,?G (show ?NS false from hs) qf1,∃u,?eK e=?aB,#[v,r,?g,_,h2],?Mr C,bs.map V.bl,.(by simpa using q7),Q ?eA H',qp5 ?fV ?_,.(by simp[eqDs]at h),h.ok ?au,PT X c tc,λw=>w==f,.byt b,(its.toArray.size:Int),#[a,xs,?g,hx,hw,q],σ.set i ?U,r xs H Q,#[i,?g,q],q _ I.fresh,qf0 (x.above y c (qp6 h)),tn 0 ?H,?KG a ta,?fa ?pQ 0 lo,(qj5.mp hp).elim,?KE ?aP,Mk ?t C f,eq_of_beq,?b5 k xs,?nb b=?x,?Nx hb,λf=>(?hS:Int),?jd ?Ev ?wO,w.length=0,#[hr,I4],hb b hb',?kY x=?h a,ns.length<=63,.(by rw[z];exact hb),.(by rw[hk];exact#[_,I',q]),#[xs,ys,qa,qb,he],(?zO).toArray,?bm->?jX,?LD ?xl,?OK ((?gN).length),wpAny_assign_Name,?rE es k ?m,∀l,?jm->Q ?kM (?No l ?rY),.(by rw[sizeLine_eq];decide),?K ?ya,X.H₀ b=none,λi=>(?ki).getD ?bO,((?gY:Nat):Int),?BR i ?bV,hl j y v' e1 e2 e3,W m σ H,IntMulOk,slot_list_getitem.lookup,?JG H' ({ s with heap:=h',gens:=g',drawn:=d',toks:=t' }),λe=>?jk,?MJ ?ah\/?MJ ?bx,?JY ns.length,((0:Nat):Int),I.tuple_inj,?Nk H p (xs.set j v),Addr × Obj,I.ok.frf,.bl ?ma,b≠it->?DM,(?bp,?fG),VH K x y H Q,.compLoop,(?gS+(m:Int)*1).toNat,Ab3 K f D σ y x H2,ns[i]' ?l,"list.index",?c8 .NotIn,#[_,_,_,_,o,_,_,e,_],∀name,?CU=?h ?pB,pl.isList.typeIs,#[_,hen],eqDs_len,r1.append r2,#[o,_,ho,_],?oE i 0,Int->?c3,Int->?E7,#[f.2.2.2.1,f.2.1,f.2.2.2.2.1,f.2.2.2.2.2],?LD sc.isCoroutine,Int->Int,?oM o i ?m,?KG ?kH (tC v),(mixKind prog w).is,e _ _ h,H dx=?jt,#[u,?g,rx],[v,ov,iv],nsK hns,(?zG).map tI,List.length,?af l=?oa,∃t,u=Value.float b t,Mod ?t ?cu ?cf,?Lv vH,?KG ?j7 (tCB r t),xs=[x,?qM],Heap.get?_update_other,∀d∈ds,?wF,#[mA,O,r,_,_,_],dX I (A:=X.A.in1) ?pT r r' rv mJ ?w2 ?tc,?N7 PySem.W.hasDictIn C,∀c∈?d9,p c,∀y∈sc.names,y.2≠?hW,λ_ s5 _z=>?_,?NZ ha Q (λc s1 e=>?_),c.locals,.(λv q=>by ext Il),.(by ext Hm),#[Bc6,dd2,data2,sl2],(?gG).kindOf,#[os,hos,hcs,hds],λf s1 q=>?_,?KM a us,#[u',r',?_],I.base.slot,σ[i]?=?pW,(?b5 k its).flatten,deps ?ci,#[?s7,ho,hc,n,hd],Hj st,#[u,hr,h4],.(by rw[qc6];ext d),qa9 this,.(by simp at e),?n (?n ?y9),env.scope.kind==?eo,SqT K H' a xs,?aV->?c3,e=x\/H e=?h ?lX,?K fa,k b u (hb b n) q,?gS+1,PI X tg iter wi,?af p=?oa,#[f0,f1,f2,f3,f4,f5],t D σ H,vF tb σ Q x H1,X.A.handled=none,I.ok.exfs,#[a,vs,?g,hq,_],isTrue_and,LLInt->LLInt,λh' tk k=>#[_,H,?gd k,?_,q],Q ?vB H,?NZ hc _ (λd s1 _z=>?_),#[o,e,c],I.unwish,λy H4=>?s8/\?q2/\?OT ?iO ?sB,λh' c' kp e=>fin its r' hz h' c' kp e,#[v,q,e,h1,h2],?KN (?NL ?kH) E s,Nat->?aN,bs[i]' ?l,?v hk,?NL (?KH (?h2 e m apos) ?cX),.(by rw[Al (hm b _ q λz=>z)];exact q),{ cls:=?ay,data:=?aH its'.toArray n' },?Nm _ I,λr s'=>r=w/\?Je r s',κ × Value,Paired.mapP,?No ?E ?hl,?NL a,?Lc a ?cT,Ab7 K n x y H Q,λi j=>?o ?dx,?O1 Bo ?Cw H,(?bp,?FS),#[a',us,e,hq,r],#[_,?g,r],.bl ?GX,vC Q x H',?LN ?eL,jE x vs H Q,.(by rw[hC];exact ?jR),(ns:?I),IrI C g x y H Q,λv _=>v=?l0,q p _ (Same.new hp) (.of Ab),?ac ?k8,?G (show b∈([]:?am) from z) ?w,Uk CX X E,?Lv JC,qp0 _ z,"isinstance",X.prog=P,#[xs,ys,xs[i],ys[i],qa,qb,?bA,?bA],?xK/\∀p∈?sC,p.1≠b,nU K n x vs H Q,T ?nd,Data.seq,?C Key × V,keywordEach [] ?p,?oD (t':=s1.toks) (?OX ?gP) ?W ?_,?KM p ys,?nb a=?h ?k2,hd σ H p,?eC ?kh p,λ_ s'=>?O1 SP D (.next),?ac ?os,λm hm=>hl m (?Nx hm),.(by rw[hj];simpa using ew),#[?Lx xs.length ?dJ,?C1,?_],λz=>(hch c z).2.2.1 x c e ?g,.(by rintro rfl;exact h v qb4),.flt b,(?Nr (?o ?dx) q),?a2 K H' vs ds,#[a,e,?wd,q],qd9.mp hi,?Mv ?vy,ltc x a e,#[p,v,hp,?g,?g,y],λ_=>rfl,(?Lt r ht),#[o,e,_],?Nw ?zL,x.2=NameKind.local->?hb x.1=?h NameKind.local,qc7.mp hf,(sb.2 b hb).trans,Ac2 K R x H1,w.length=1,Rep.same,?NL b,t { nx:=λ_ H'=>Q ?J H',rt:=Q } ?jx H,?OX ?_,#[I3,hn3],?OE hch,NR r' tc σ Q y z H3,bs.all id,min v.toNat n,.dT kvs,#[p,ys,a,b],hl n qb4,VG o i v H Q,Pc ws fam 4 [w] [],p.map ?c7,?w3\/?xC\/(i=0/\j=3)\/?yI\/(i=1/\j=3)\/(i=2/\j=3),?NS (! ?MX a b),LP ?H x dx C mA,λ_ _ e=>e,λz=>?_,λc H1=>Q (!c) H1,?KG o to,#[_,_,_,e,_],?h (?ej ?E)=?h r,?LT Ab8,Pv 0 σ H,?KK cd,∀x∈P,?zU,.Pass #[0,0,0,0],?eE .Mult,?ig vl lo,?OU p,?No p ?xb,dX I (A:=A.in1) (by show ?x1;ext d) r r' rv mJ ?w2 ?tc,PySem.W.instObj,?O1 Bo σ' H',.ret u,?Nd "__debug__",?V ?g ?M,(?NR ((?Mv e0.bs).1)),I.base.tbls,?JY kvs.length,qf7 (Eh ?lY λus s1 _z=>?_) hs ?g,"__getitem__",tI f,?Nn w,?JG H ?wC,λi h h' st k=>st.at λo e=>k it ?w o e,vs=v::r,h.objs.size,?KH ?vL ?cl,vK R vs H1,f ∉ ws,qk7.mp hb,?qy∈sc.names,J.yld i H x H',I7.pin ?lG (qg7 _ (qg7 _ (Pb hb e))),?o ?b6,?c1 Expr,X.s₀.heap.FunFrames,n<=1000000,qa5 (X6 xs lo hi) hz,?MV ?dp,V.ref ?aR,((?r0:Nat):Int)-?Dg,#[ho,ho2,?_],hd ys τ H p,.(by apply ?G6;rintro i m ys τ H ⟨rfl,hi,p⟩;have q:=?MO ys p;by_cases hlt:?hr;{apply ?Jk ?jW (?NQ ?lH);let ?j6:=y;subst e;exact hs i x ys τ _ ?l2 p};have e:?l9:=O9m;subst e;exact ?MT ?HU),.(by apply ?yk;rintro i m σ H ⟨rfl,hi,p⟩;have q:=hl i σ H hi p;by_cases hlt:?hr;{apply ?Jk ?jW (?Nw ?lH);let ?j6:=y;subst e;exact hs i x σ _ ?l2 p};have e:?l9:=O9m;subst e;exact ?MT ?G0),∀(hbase:?Ks (?qI o ?aP ?p ?gv=?gv)) (hfew:?Ks (?NS ((?fm cpos ?rt).all (λx=>!x.1)&&(?Bf cpos ?Fw).all (λx=>x.1.isSome) && ?B ((?cl).length+([]:?pa).length+(if ([]:?pa).isEmpty then 0 else 1)<30)))) (hline:?Ks (?NS (apos.endLine==cpos.line))) (hs:?kx),a,∀(hs:∀i x y zs τ H p,?aY->?iP->?jJ->?aj->g ?a9 τ ?rw (?KP (if ?h4 then te τ2 H3 λy H4=>H4 D=?h (?a0 zs)/\?OW zs.length/\?OT ?CG (?Nk H4 D ?CG) else ?OT zs H3))) (hd:∀zs τ H,Pv n zs τ H->Q H),a,∀(hs:∀i x ys τ H p,?aY->?c4->?aj->g ?a9 τ ?Gw ?qb) (hd:?ol),a,∀(hbody:∀(Dz:Value) [?sp] [?bi] (Q:VK) (E:XK),?O8 ?jg (nQ (LG Ew P w K mg ?al N ?bQ ?jg f Dz A ?aZ s H E).nox ?El t)),a,∀(hs:?NJ ?qb) (hd:?ol),a,.(by simp only[sliceBounds,HT.sIx,Option.getD_none,show ?eN > 0 by decide,if_true];by_cases h:i<0;{simp only[h,if_true]<;>ext d};simp only[h,if_false]<;>first|exact zn3 h|exact zn2 h|ext d),∀(hs:?NJ ?ti) (hd:?ol),a,∀(hs:∀i x y σ H p,?aY->?iP->?M0 ?rw) (hd:?v7),a,∀(hs:∀i x σ H p,?aY->?M0 ?Gw) (hd:?xW),a,.(by apply ?xo;let#[x,H1,I1,rx,a,dx,fs,ex,ea,l,q]:=_z;subst ex;obtain rfl:?hu:=rx;apply Uc I1 ea c hm l ?_),.(by have I1:?ot:=?Js (?O5 (?GN e));let ?pZ:=id st'),∀(hs:?Ks (?Ny ?bD=[?FX,?vx]))(hs2:?Ks (?Ny [b]=[?vx])),a,∀(hs:∀i x σ H,?aY->?bM->g x σ H ?ic) (hd:?xW),a,.(by have I3:?kO:=I2.call' hos hun hok hbare (Bo.fpCh f2);have f3:Nt X Ag H' C:=I2.fpOk hC hHC;let#[_,k1,_,k3,k4,k5]:=f3),.(by let#[j,h1,h2,h3,h4,h5]:=nK he;let#[w,ew,rw']:=?fN h2;have hl:=r.length;have hn:=ES;have fin:?Je w s:=#[z,H,I,rw',q]),.(by first | rfl | simp[Around.under,Code.weight,Code.isCreation,Code.isGuard,Code.isCaller,Code.frames,Code.isFrame,guardIds]),∀(pa:PlainAttrs T)(slot:Slot T ?aP id)(hty:typeOf ?j3=?aA (?an "method_descriptor"))(hm:MtR X id r)(ho:?Gl)(ha:?uJ),a,.(by have I1:?HA:=?gd (?NR (k b o (by simp;exact ?jH) ?gP))),.(by intro value slice Ag s σ H x y v u Q I rx ry h hs;let#[p,xs,i,z,?g,?g,hq,he,q]:=h;cases rx;let ?bn:=ry),.(by rw[e]at e';cases e';rw[d]at d';injection d' with d1 _;have:its=its':=by simpa using ?bw Array.toList d1),∀(mu:?Af)(he:?Eu)(k:∀b u,?kC->?r7)(heo:?Ci),a,∀{x qual:Str}{st:Stmt}{f:Addr}{fd:FuncData}{N ps:?X}{k:Nat}{sp:Sp}(F:?Al)(S:?r8 N ps ?jg),a,.(by let ?ui:=P6 r;cases ru;let ?td:=?bT;have hh:?F3:=?c5),.(by(have ZH:∀c o,H c=?x->?yr:=λc o e hm=>by rw[(hf c hm).1]at e;cases e)),.(by let#[o,e,d]:=T.obj _ _ st5 b hb;exact(?HK).2.1),∀{q:Program}{loose:?X}{XP:?bR->?gE}{YP:World->?gE}{d:DefRec},a,.(by have e2:?LD (op==CmpOp.NotIn):=?KR h2),.(by(have e':its[i]?=?U:=?qh);have hlt:i<its.length:=(?cy e').1),.(by let#[σ3,H3,I3,n3]:=q3;let#[m',hm,w3]:=hN σ3 H3 n3;exact#[m',hm,σ3,H3,I3,w3]),.(by(. rw[?Q hj,?Q hj];exact ?cV);rw[?L hj,?L hj];exact ?cV),.(by have e1:?LD (op==CmpOp.In):=?KR h),.(by let#[x,H5,I5,r5,y5,st5,fr5]:=_z;have I5':=I5.pinned (JN fr5) (T.obj _ _ st5)),.(by(. let ?E1:=pl;exact qe2 ?il);{exact pl.isList.at λo e=>?gP}),.(by let ?u2:=hg;let ?f4:=?bT;let ?en:=?fk hx),∀(hi:?yc)(hx:?r ?mn ?As),a,∀(hs:?Ks (?Np e (?h ?u3))),a,∀{S:?iU}{NE:?zf}{a b:Addr}{xs ys:?z}{n:Nat},a,.(by let#[o',es',yF,ho',r']:=hm;rw[ho]at ho';cases ho';exact#[_,es',yF,hL,r']),∀(h:∀{N:?P},(∀σ' H',?us->?ld)->t { D with nx:=N } σ H),a,.(by apply#[?MM n ?eF,?o9,?_]),∀{to:TE}{t:TA}{name:Str}{apos cpos:Pos}{T id:String}{r:?hn},a,.(by apply ?Aj;rcases ?k3 with z | z | z;{exact ?eJ}),.(by subst e;let ?pZ:=st;exact#[o,e,?An]),.(by have hu':?wf:=by simp only[dep]at hn;ext d),.(by rw[Rq hl];have z:?LD (ds.length==es.length):=by simpa using hl),∀(X:?gJ)(I:?Gh)(hg:?M8 ?aP),a,.(by have hu':?x1:=by simp only[dep]at hu;ext d),∀(hs:?CJ)(pl:?Gu)(pu:?u5),a,∀(hs:?Ks (?Ny [a]=[?FX])),a,.(by let#[i,j,?g,q]:=h;let#[u,w',?g,?bn,?my]:=gD r),.(by have hf:?OU ?e1:=?pz),.(by let#[ia,ra,pa,_]:=?az Yq;let#[ib,rb,pb,_]:=?az PN),∀(hcd:?Nd "__classdict__"),a,∀(hcap:?zR)(hi:?Ey),a,.(by cases y<;>exact ?Ch),.(by let#[p,ys,?g,hq,q]:=h;let ?ED:=P6 r;cases rx),.(by rcases Ef hv with⟨j,u,rfl,rfl⟩|⟨y,u,rfl,rfl⟩),.(by let(?LK lk hcd):=F.ex),∀(hl:?KL ?av),a,∀(hn:?Ks ((?q5).length=n)),a,∀{pl:?sa}(he:?yd)(c:?pO)(hm:VA ?t C m f),a,∀{ta:TA}{p pos:Pos}(hg:Gl X ?kh)(hm:?cu ?kh=none),a,∀{x:Str}{ps:?X}{j k:Nat}{sp:Sp}{p pos:Pos}{e:Expr},a,.(by let#[it,fp,tn,J,H2,e,I2,T,st2,f2,hW]:=h2;subst e),.(by rcases Ef hb with⟨j,u,rfl,e⟩|⟨y,u,rfl,e⟩),.(by unfold Ay;rw[?dr,?qP]),.(by let ?wB:=hg;let ?f4:=?bT),∀(hg:?n4)(hm:?op)(hv:?kb=?aB),a,.(by simp only at hc hd hc2 hd2;subst hc hd hc2 hd2),∀(hl:?K2 ?dJ ?cQ),a,∀(x:p7) (x:p8) (x:p9) (x:zG) (x:p11) (x:p12) (x:p13),a,∀{g':?ez GenState}{t':Nat}{d':Drawn}{ch:?am},a,.(by have e:b=s1.heap.objs.size:=?fE),∀(len:?nY),a,∀{l:?ja}{acc:?dt},a,∀{pl:?sa}{Q:Value × ?F->?e8},a,.(by cases (show ?Fu _ _=Data.cell v from q)),.(by exact ?Nx (ih (λy hy=>hn y (qb3 _ hy)) h)),.(by have hx':=hx;let ?o1:=hx;cases rx),.(by rw[Al ?uC];exact e),∀(ha:?OL n)(hb:n<=ys.length)(he:NE xs ys n),a,∀(k:∀b u,?vP),a,.(by apply ?NZ hl _ ?gO),.(by have hk':k=NameKind.free:=?pP),∀(hp:PassesOwn ?u ?q ?p ?y),a,∀(r:?gk),a,∀{qual:Str}{scope:Scope}{f:Addr}{cd:Value},a,∀(σ':St) (H':Hp) (i:?Gz),a,∀{h':Heap}{Y:?hd}{T:?gE},a,∀(Pv:?jA)(h0:?Gp),a,∀{items:?bP}(x:Nq h a ?fK),a,∀(hg:?Ks ?n4),a,∀(hb:?yZ),a,∀(hd:?LV n),a,∀{cells:?dt}{x:Str},a,∀{tg elt iter:Expr}{ifs:?df},a,∀(hh:?ES),a,∀{X:Cx}{a b c:Expr}{ta tb tc:TE},a,∀{vl vu:Value}{lo hi:?bW},a,∀(D:ZipApart z TI TO i1 i2 a b),a,∀(hn:n=min ?bV ?C3),a,∀{X:Cx}{CX:vP}{k:Nat}{f C:Addr},a,∀(hm:?rZ),a,∀{x qual:Str}{st:Stmt}{f:Addr},a,@((?a).go i H/\∃N:?P,?dK/\∀x H',(?b).yld i H x H'->?dI),@(λσ H Q=>?a σ H λx H1=>?b),@(?k ?u ?q ?a ?b ?y s),@(Bo X Ag σ ?a ?b),@(A0->A1->A2->A3->A4->A5->A6->?a),@(Rj ?a g ?b te D Q τ H),@([?eM,?eO,"dict_itemiterator","dict_reverseitemiterator","odict_iterator","itertools.zip_longest","itertools.pairwise"].contains ?a),@(λσ H Q=>t σ H ?a),@(?k ?a A ?b Q E s),@(?a Ag s σ H ?b I h),@(?a->?b->Prop),@(∀p,?a->Q ?a9 (?s ?b p ?c)),@((sc.names.map λ ?e7=>if (k==?hW&&XF.kind==?eo&&?gi n==?ah) then ?sW else ?e7).lookup p.1=?a),@(Fl X ?a (λxs H Q=>?b)),@(qa8 (m:=Builtin.Tuple.tupleExact _) (qn6 ?a MU)),@(?a Ag s1 σ H1 ?b I1 q1),@(∀(k:Nat) [?bg],?a[k]?=?ey->?aO/\∀f∈?aG,?f8\/?b),@(λx y H Q=>?a),@(X.s₀.heap.objs.size<=?a),@(by rcases h with(h|⟨o,h⟩) | h;{exact ?v (?v ?a)};{exact ?v (?n #[o,?b])};exact ?n h),@((?a).stop i H/\?bb),@(?a<=sizeLine),@(#[?ad,_,?fn (t':=s.toks) (o:=?a) ?k0 ?W ?_,?g,?b]),@(λσ H R=>ta σ H λvs H1=>?a),@(X.env.scope.names.lookup x=?a),@(qq2 ?a ?ak ?b k ?fJ fin),@(by subst hK;exact ?a ?b),@(EP X Ag σ Q ?a ?b),@((?bq ?a ?b).trans ?c),@(go ?a ?g),@(?a λ_ _ _ _ _ _ _ q=>?b q),@(λ_ _ _ H _ I h=>?a),@(show ?a from r),@(?n #[?a,?cB,?b,?d3]),@(λ_ _ _ z=>by let ?a:=z;exact ?b),@(λvs H Q _=>?a),@(by ext Y;apply qu8 (Km I hg hm hv ?_ hn hdb);exact ?a ?x7 he hpl),@(#[?a,?fc,?bL,?qi,?iT,?dH,?cc,?cx,?b,?au,?kU]),@(s.heap.objs.size<=?a),@(by ext cG;let ?Bh:=h;ext eY;ext A;exact rule i j t t' s _ _ ?a),@(Uo X ?a (rI0 λi j=>?b)),@(?jv (t':=s.toks) ?a f0 f1 f3 f4 f5),@(∀{P:?X}[?iB]{i:Nat}[?iA],P.Nodup->?zv->?gl->?a → ?b ?bl ?mb m x=?U),@(qp1 hp (Eh (?a X ?g ?g ?g hc i Ag s3 σ3 H3 ?y I3 ?ih st3 ?b) ?kE)),@(?ky ?hB ?ka ?o6 ?qr qv2 qu6 ?sL ?a ?b),@(?dF ?a ?ab "__setattr__"=?h (?h (?ba "object.__setattr__"))),@(qn7 (?a Y ?g ?g ?g hc i [] s3 τ3 H3 ?dq I3 ?ih st3 ?b) ?kE ?qF),@(?G (qb6 ?a ?b) ?eQ),@(PE X (?kD ?a j ?m) (tC ?b)),@(?a=?h { cls:=?aS,data:=?f0 ps }),@(#[u,?g,iK (s:=?fH) e c d ?aQ #[x,H,I1,ru,#[?g,?a],st',?io]]),@(∀i σ H,?a->?bM->?b),@(by subst h;rw [Int.toNat_natCast];exact (?a (?b (?c h2))).symm),@(?k _ _ ?a _ _ s),@(∀b o,?a->?b),@(λ_ _ _ _ _ st h=>?a ?b h),@(Xi P w K tg ?a [it] it (λi h=>?b)),@(?d5 f=?h #[oc,od,?kF ?a,osl]),@(λD σ H=>?a σ H ?b),@(?ob ?oH #v[] (?b5 ?a ?a3)=(?b5 ?b its).flatten.toArray),@(?a (C4 I q (?bw not ?b))),@(λb o _ _ hc e _=>?a),@(s1.heap.objs.size+?a),@(?dF K ?ab ?a),@(?a2 K H ?a ?b),@(PE X ?a ?b),@(?cb ?a ?b [] ?m),@(∀{binds:?er}[?iA],?Cb->?a ?bl binds m x=m x),@(s.heap.objs.size+?a),@(LG CX P w K mg ?al N ?bQ ?f9 f ?a A ?aZ s H E),@(∀i ys τ H,?dJ->?c4->?a),@(SqL K H ?a ?b),@(?k ?u ?q ?a Q ?b ?c),@(?kJ (Km I hg hm ?a ?b)),@(λτ2 H2=>tc τ2 H2 λb H3=>?a),@(show ?a=_ from h'),@(by cases op<;>first | rfl | exact ?G ?g ?a),@(Eh ?a λv s1 ?fg=>?b),@(By P w K mg ?al ?a ?b f ?c ps sp),@(?h { cls:=?bN,data:=?aH #v[?o ?a ?hG,u] }),@(∀n:Nat,?ag ?a n=?b),@(Un fs ex H ?a h ?b),@(Rep K H ?a ?b),@(Aq2 ha hb I h λv u s2 x y H2 I2 rx ry q=>?a),@(?as ?a=?h (?an ?b)),@((?a).length<=?b),@(∀[?b1][?a7] (n:Nat),?bE->?a4 (?a n) (?b n)),@(∀(i:Nat) (v:Value),its.toArray[i]?=?U->?a),@(by rw[?oh ?a1 ?a]at h1;ext ec;exact ?ju),@(?a==NameKind.free),@(∀C s₀ H₀ fp,?a ?ra ?b ?c),@(λi H=>∃xs x,?a/\?aY),@(?gT ?a e it ?b old),@(?c0 ?a=?x/\?br),@(λb ps q=>#[#v[],by rw[Al ?a,q];simp]),@(show x=?a from hx),@(Uo X ?ek (?a ?b)),@(PI X tg l (?a ?b tl)),@(#[?e1,?wA,_,_,H1,?g,?uw,?a a _,?mg,?de,q]),@(∀i ys τ H,i<n->?c4->g ?gx τ H ?a),@(qt3 (h₀:=X.base) ?p1 ?a ?Cd he hpl),@(H ?a=none),@(A.units+?a<cLine),@(?r ?a ?D),@(?kt ?m f first ?a ?jp),@(?go ?a z TI TO ?b),@(?a (NE:=?pe) ?l ?l ?l Pv h0 hl hs hd),@(∀x c,?ca->?a),@(λi H=>∃xs,?a/\?k9),@(λb o _ hb _ e n=>?a b o e n hb ?w),@(show v=?a from h),@(qe2 (qb6 ?a ?b)),@(Uo X ?a (rI ?b λi j=>?o ?c)),@(NP X Ag ?a s'),@(?a (i:=i) (qg6.mp nd).2 ?kr ?nv hk),@(?h { cls:=?ay,data:=?aH #v[] ?a }),@((?aQ:∀j,j<?a->∀i,i<j->?b) j hj i h),@(λ_ s2=>YP X Ag σ r Y ?Ft ?a s2),@(?hi ws fam ?a ?b),@((∀p H',?bK->SqT K H' p ?a->?hC)->?b),@(#[x,H1,I1,rx,a,C,dx,fs,?a,ex,ea,c,?b,l,q]),@(#[?K ?e1,?s H1 ?e1 ?a,?Fx,?g,q _ hf]),@(#[?a,H1,I1,?b,q1]),@(?a=s.heap.objs.size),@(?a=false),@(?a<s.heap.objs.size),@(∀[?b1][?a7] (i:Nat),?bE->?a4 ?a ?b),@(λi H x H'=>H'=H/\∀xs,?a->?aY),@(by rw[?qf h0 ?a]at h1;exact ?ju),@(G7 k (?lS (?qE ?bQ ?a ?E f Dz))),@(A.under (?ba ?xS #[?ab::?a,kw])),@(#[oc,od,kV,doc,pm,an,Dz,ct,osl,?g,?a,?b]),@(hg _ s5 ?a H5 x u _ I5' r5 ?zj),@(Un ?a ?b H H' ?H ?c),@(Ay ?a fam),@((bU cells l acc).lookup ?a=?bC),@((EZ h H).get? b=?a),@((?kN (?rz ?a 0).toNat []).getD ?b 0),@(#[z,y,?a,r,ob,es,ep,?b,c]),@(#[(hs.2 p.1 ?a).trans e,n,ne,nf,d]),@(?a K x y H Q),@(?a ?b Ag s1 σ H1 ?c I1 q1),@(∀ys τ H,Pv ?a ys τ H->Q H),@(show ?a from ry),@(?xg/\?BU/\?e9 i1 a ?a/\?e9 i2 b ?b),@(?a q loose XP YP ?tv d [] ?uF),@(λσ H R=>tl σ H λx H1=>?a),@(λx lo hi H Q=>?a),@(λacc C=>?AE ?u ?q ?y ?a ?b acc C),@(SqT K H ?a ?b),@(Bo ?a ?b σ H s),@((?a ?gt).take ?mN),@(?a Pv h0 hl ?b hd),@(?a ?bl ?kB m ?b=_),@(show ?a from hy),@(show ?a from he),@(qc1 (show ?bS=?h ?a from x)),@(RcAt A s ?N ?e3 (eqD ?a (?b es))),@(#[?d8,r',#[o',n',e',?a,_,d'],_]),@(λb hb=>?a),@(λAg s σ H Q I hw=>?a ?BI),@(PS X (?lU [?a] e ?m) (wG te ?b)),@(LS P w K mg ?al ?a ?aZ s H),@(?mW (λx=>?B ?a)),@(?bc P w H h a ?a),@(#[od,es,ep,?a,c]),@(#[its,?a,?b,hz]),@(#[its,?a,?b,_]),@(?a K xs H Q),@(∀c,?iu->?a->?b),@(λi m ys τ H=>m=?a-i/\?b/\?c4),@(S6 ?aa X.w ?a ?b),@(Q ?ad { s with heap:=?dm ?a }),@(?bM->?aj->g ?a9 σ ?a ?ic),@(?Ak p ?a ho hc hd ?FE ?hT),@(λ_ H Q=>Q ?a H),@(qu8 (Y8 ?a hg hm ?_ hdb)),@(opI λi j _ _ _ _ _ hc q=>?a),@(ds.all (λe=>D9 xs e ?a)),@(by rw[Al (?a c ?b r)];exact r),@(Fl X ?a (?b K)),@(?sX K C ?a=true),@(?h (?sA ?bB ?a)),@(?bc ?aa X.w ?a h' ?b ?c),@(?af ?a=?x),@((R ?a H1)->?b),@(#[?a,_,I.lnew (t':=s.toks) ?b ?c,?g,?Cz]),@(?a=xs.length),@(?a c o ?C6 hc nch ho ?of),@(∀σ H,Pv ?a σ H->?bb),@(Uo X ?Du (A21 ?a n ?bO)),@(?vf->?zS ?a ?lO=?aA ?fA),@((?na).names.lookup x=?a),@(#[a,b,xs,ys,?g,?g,ha,hb,hx,hz,?a,?b]),@(λx vs H Q=>?a),@(λi m σ H=>m=?a-i/\?b/\?bM),@(kY I (A:=X.A.in1) ?pT ?a ?b r ?c),@(hl i ?a τ H hi ?b),@(by rw[←l];exact r ?a),@(by let ?nH:=h;exact#[v,?a,?g,h1,?b]),@(S6 P w ?a ?b),@(CX ?aZ H s E ?a ?b),@(?v #[?jK,?a]),@(?eP .And ?a ?m),@(?dD ?a ?gn ?DC ?Cg ?bu),@(?C (Str × ?a)),@(?B (?c7 ?a=?c7 ?b)),@((n,(?a n).getD 0)::acc),@(#[σ',H',?a,q]),@(#[o,?a,ep,?b _ o ?c ho,r]),@(?a[i]?=?h ?b),@(?a ?dN 0 ?cd ?eA Y.env),@(λx hx=>qc9 (?a x hx)),@(s.heap.objs.size≠?a),@(p.length=?a),@(by let ?ia:=?au ?a _ ?b;exact ?c),@(PG X ?DQ (Ba4 ?a n t)),@(?fX/\?a ?H a ?a3/\?d7),@(?eB/\W i ?a ys τ' H'),@(λhn b hb=>#[hn b hb,?a]),@(λc o _ _ hc e _=>?a),@(λb o hc e=>?a),@(show ?a a ?a3 from p),@(by rw[?a hc];exact h),@(SlR X (?a ?t)),@(Hv ?l4 ?ro ?a),@(Gb X sc N' ?a s H fp),@(?fk (i:=i) (x:=?a ?b) ?z1),@(?eP .Or ?a ?m),@(?a<s1.heap.objs.size),@(?a b o e),@(?a b ?b ?c n hb hx),@(?a _ _ _ _ ?b),@(YP X Ag σ u ?a ?b fp s2),@(Uo X ?rl (A09 ?a n)),@(UnR X ?a (rU λi=>?o ?b)),@(Rj J g tc te D ?a ?hq ?b),@(Rep ?t H ?a ?b),@(Nat.lt_succ_self ?a),@(MtR X ?Dt (RZ ?a n)),@(H b=?a->?es=?b),@((?s5).findIdx? ?qg=?a ?b),@(?a K ?b=true),@(?a (λq=>nomatch q)),@(?dz/\∀i m σ H,?dL → (?JX ?a)\/(?JD ?b ?c)),@(by ext lx;apply ?a ?BO;let ?d2:=_z;cases c with| true=>exact ?b| false=>exact ?c),@(by intro Ag s σ H Q I hq;apply ?a ?tZ;ext IL;apply(?LA ?b);exact ?c),@(Rd H a ?a ∨ ∃(o:Obj) (its:?bP) (n:Nat),?d5 a=?x/\?b/\?tk),@(St->?JN Hp ?a),@(Q (.bl ?a) H),@(∀[?a5] (D:Ends),?T->?F1->?JF (?a st ?p) ?zu),@(sp ?tM (?s (?s ?a dx ?lX) x ?uZ) ?vp E),@(?a->(?JO ?aj H ?b)->?c),@(by ext Y;exact ?a ?b),@(∀i x ys τ H,?aY->?c4->g x τ H ?a),@(∀[?dX] (n:Nat),?ck->?KF (?a n) (?b n)),@(?aw ?a ?p),@(∀p xs i v,?oB->?kV->?a->?pX->?kz->?b),@(λys hy=>by rw[?a hy hq];exact hx),@(λb u q n _=>by rw[Al ?a];exact n),@(?k ?u ?q (?ni ?ff (?K ?a) r) (?L6 ?b) E ?c),@(λys' τ' H' p'=>?a),@(λb o e=>?a),@(?a=true),@(?a->Prop),@(?a { cls:=?b,data:=?aH ?c }),@(∀a b xs ys,?bX->?qq->?av->?uH->?a),@((items.toList.drop ?gY).take ?a),@(λxs H Q=>?a),@(PI X ?ff (?KH (?eC ?a p) ?b) (?c K ta)),@(Eh (?JM ?a ?b) ?c),@(te ?a ?b λy H4=>?s8/\?q2/\N ?iO ?c ?sB),@(by subst hK;exact(?a).imp ?xV),@(by subst hK;exact(?a).imp (?Jl ?b ?c)),@(?r (?LD (x==(?a:Str))) ?fF),@(tb σ H1 λy H2=>?a),@(?d7/\∃(its:?F) (n:Nat),?fX/\?a),@(?cO ?a TI ?q4 ?py),@(?bo/\SqL ?a H p ?cT/\Q ?r1 H),@(?a≠X.env.locals),@(?a->?b → ?JF ?c ?b9),@(?s ?a ?b (?a0 ?c)),@(qa8 (?a ?b)),@(h Ag s σ H ?a ?b hw),@(TI K H v ?a),@(?s H ?a ?b),@(?jj ?a ?b ?iW ?p=?iN),@(?aj->?bK->?AD->?a2 K H' us ?a->?b),@(#[?a,H,?ds,?cV,?b]),@(∀σ' H',?ld->∃m',m'<m/\?a),@(∀i zs τ H,?eF->?jJ->?a),@(PI X tg (?KH ?G1 ?a) (?b ta)),@(Eh ?nz λu s2 ?iy =>Eh ?xh ?a),@(λσ' H' p'=>?a),@(qb3 _ ?a),@(?dy ?a ?p),@(?aA (?jQ ?a)),@(#[?a,H,I,?g,?b]),@(?a X Ag ?b ?c s'),@(?a (C4 I q ?b)),@(by rw[?a i ?a1];exact q),@((if ?a=i then 1 else 0)*f ?b),@(λb o hb e=>?a),@(V->V->?a->?JN Hp ?aN),@(?as ?a=?h ?b),@(?LI ?a->?k5 → ∃t,?b/\?GS),@(?a[i]?=?cA),@(λp hp=>?D4 (λz=>?fe p ?a) ?b),@(Q (?o ?a) H),@(MA C m sp dvs E ta ?a),@(∀p ys,?bo->?a->?b),@(λz=>(?a _ z).2.1 ?g),@(λc o hc e=>?a),@(acc.length+?a),@(Eh ?lY λus s1 ?jc=>?a),@(?T->?fZ->?JF ?a ?qG),@(#[?ad,_,I3,?g,hY ?e2,?a,hn3]),@(?a=ps.length),@(?a<=xs.length),@(?KE "__init__"=?a),@(?LN [?a]=[[],[]]),@(?aA (bU ?kq ?a ?b)),@(?a K x lo hi H Q),@(?a Ag s1 σ H1 x v ?b I1 r1 q1),@(?a->?NT ?b),@(?a->?JN ?b ?c),@(Pv ?R ?a τ2 ?b),@(H1 ?a=none),@(?CX (?NZ h1 ?a ?Ed)),@(?a<sizeLine),@(λb u e=>?a),@(?ow (t':=s1.toks) ?a),@(λh' eb=>#[?g,?Js ?a]),@(SqL ?t H ?a ?b),@((?a/\?DR)\/(?b/\Q ?a9 H)),@(_=(?OO r ?a:Sem _))])
namespace Internal
def Zr(_:True:=by rfl):True:=trivial
def Zd(_:True:=by decide):True:=trivial
def Zc(_:True:=by ac_rfl):True:=trivial
def Zi(_:True:=by intro _;rfl):True:=trivial
def Ze(_:True:=by exact rfl):True:=trivial
def Zk(_:True:=by ext ap):True:=trivial
def O9m{p:Prop}(h:p:=by ext d):p:=h
def zn1 (a x:Int):x.natAbs <= a.natAbs + (a - x).natAbs:=by have h:=Int.natAbs_sub_le a (a - x);rwa [Int.sub_sub_self] at h
def zn2 {v:Int} {n:Nat} (h:?ug):?oq = ?Bz:=by let#[k, ?g]:=Int.eq_ofNat_of_zero_le (?xF h);rw [Int.toNat_natCast];rcases Nat.le_total k n with q | q;{rw [?kI q, Int.min_eq_left ?BC]};rw [?qW q, Int.min_eq_right ?BC]
def zn3 {v:Int} {n:Nat} (h:?ug):max 0 ?oq = ?Bz:=by rw [zn2 h];exact Int.max_eq_right (Int.natCast_nonneg _)
def zn4 {a b c N:Nat} (h:b + 1 + b <= N):min a b + 1 + (b - c) <= N:=?lD (Nat.add_le_add (Nat.add_le_add_right ?hF 1) ?gX) h
def zn5 {m X:Nat} (h:0 < m) (h':m <= X):X - (m - 1) = X - m + 1:=?a1
def zn6 {a b c:Nat}:min (min a b - c) d <= a:=?lD ?xn (?lD ?gX ?xn)
def zn7 {n w L:Nat} (h:L = n) (h2:¬ ?xr):((L:Int)).toNat = min n w:=?K3 ?kI Int.ofNat_le.mp ?xF
def zn8 {n i s:Nat} (h:i < n) (h2:s <= i):min s (n - 1) + (n - 1 - s + 1) = n:=by rw [?kI (Nat.le_sub_one_of_lt (Nat.lt_of_le_of_lt h2 h))];ext d
def zn9 (L l h:Nat):min (h - l) (L - l) <= L:=?lD ?hF ?gX
def zna {n w L:Nat} (h:L = n) (h2:?xr):((w:Int)).toNat = min n w:=?K3 ?qW Nat.le_of_lt Int.ofNat_lt.mp
abbrev qa0:=@List.getElem?_eq_getElem
abbrev qa1:=@List.getD_eq_getElem?_getD
abbrev qa2:=@List.getElem?_eq_some_iff
abbrev qa3:=@List.length_map
abbrev qa4:=@Nat.le_refl
abbrev qa5:=@Nat.le_trans
abbrev qa6:=@PySem.Heap.get?_push_of_some
abbrev qa7:=@List.getElem?_map
abbrev qa8:=@PySem.wpAny_bind
abbrev qa9:=@Option.some.inj
abbrev qb0:=@List.map_append
abbrev qb1:=@Nat.zero_le
abbrev qb2:=@List.mem_of_getElem?
abbrev qb3:=@List.mem_cons_of_mem
abbrev qb4:=@List.mem_cons_self
abbrev qb5:=@Int.natAbs_mul
abbrev qb6:=@Nat.lt_of_lt_of_le
abbrev qb7:=@List.length_append
abbrev qb8:=@PySem.PassesOwn.never
abbrev qb9:=@List.length_take
abbrev qc0:=@Bool.and_eq_true
abbrev qc1:=@PySem.Heap.lt_size
abbrev qc2:=@Nat.mul_le_mul_right
abbrev qc3:=@List.getElem?_append_left
abbrev qc4:=@PySem.Heap.get?_push_size
abbrev qc5:=@Nat.lt_of_le_of_lt
abbrev qc6:=@List.size_toArray
abbrev qc7:=@List.mem_map
abbrev qc8:=@List.take_length
abbrev qc9:=@of_decide_eq_true
abbrev qd0:=@List.getElem?_append_right
abbrev qd1:=@Int.mul_assoc
abbrev qd2:=@List.map_cons
abbrev qd3:=@Int.natAbs_neg
abbrev qd4:=@Int.mul_zero
abbrev qd5:=@List.length_cons
abbrev qd6:=@PySem.wpAny_pure
abbrev qd7:=@List.getElem_mem
abbrev qd8:=@Int.one_mul
abbrev qd9:=@List.mem_range
abbrev qe0:=@Int.toNat_natCast
abbrev qe1:=@List.take_succ
abbrev qe2:=@Nat.ne_of_lt
abbrev qe3:=@Int.zero_mul
abbrev qe4:=@List.mem_cons
abbrev qe5:=@Nat.pow_add
abbrev qe6:=@List.all_eq_true
abbrev qe7:=@PySem.F.plainAttrs_list
abbrev qe8:=@Int.mul_comm
abbrev qe9:=@Nat.pow_le_pow_right
abbrev qf0:=@Nat.le_of_lt
abbrev qf1:=@Bool.false_ne_true
abbrev qf2:=@List.length_filter_le
abbrev qf3:=@Nat.mul_le_mul_left
abbrev qf4:=@Int.natAbs_add_le
abbrev qf5:=@List.getElem?_of_mem
abbrev qf6:=@Nat.mul_le_mul
abbrev qf7:=@PyProof.Rows.callWith_type1
abbrev qf8:=@decide_eq_true
abbrev qf9:=@Nat.one_mul
abbrev qg0:=@Int.add_zero
abbrev qg1:=@PySem.boot_len
abbrev qg2:=@Nat.add_mul
abbrev qg3:=@List.mem_filter
abbrev qg4:=@Int.fdiv_eq_ediv_of_nonneg
abbrev qg5:=@Nat.lt_or_ge
abbrev qg6:=@List.nodup_cons
abbrev qg7:=@List.mem_append_right
abbrev qg8:=@List.getElem?_take
abbrev qg9:=@List.getElem_of_mem
abbrev qh0:=@Decidable.byContradiction
abbrev qh1:=@Option.map_eq_some_iff
abbrev qh2:=@Nat.pow_lt_pow_right
abbrev qh3:=@Nat.le_add_right
abbrev qh4:=@List.length_drop
abbrev qh5:=@PySem.F.type_list_append
abbrev qh6:=@PySem.F.slot_list_append
abbrev qh7:=@Nat.sub_self
abbrev qh8:=@Nat.pow_succ
abbrev qh9:=@List.getElem?_eq_none
abbrev qi0:=@Nat.le_of_not_lt
abbrev qi1:=@PySem.wpAny_field
abbrev qi2:=@Int.natAbs_ediv_le_natAbs
abbrev qi3:=@List.length_singleton
abbrev qi4:=@List.length_set
abbrev qi5:=@List.length_nil
abbrev qi6:=@Nat.le_mul_of_pos_right
abbrev qi7:=@PySem.Heap.size_push
abbrev qi8:=@List.map_map
abbrev qi9:=@List.filter_append
abbrev qj0:=@List.not_mem_nil
abbrev qj1:=@List.filter_cons
abbrev qj2:=@PySem.wpAny_setField_rec
abbrev qj3:=@PySem.W.mg_none_of
abbrev qj4:=@Nat.le_antisymm
abbrev qj5:=@List.mem_append
abbrev qj6:=@Nat.succ_le_succ
abbrev qj7:=@Int.zero_add
abbrev qj8:=@List.length_eraseIdx_of_lt
abbrev qj9:=@List.take_of_length_le
abbrev qk0:=@List.replicate_succ
abbrev qk1:=@List.mem_map_of_mem
abbrev qk2:=@List.length_range
abbrev qk3:=@List.sum_cons
abbrev qk4:=@List.range_succ
abbrev qk5:=@List.length_replicate
abbrev qk6:=@Int.mul_le_mul_of_nonneg_right
abbrev qk7:=@List.mem_singleton
abbrev qk8:=@Int.mul_ediv_cancel_left
abbrev qk9:=@Int.emod_lt_of_pos
abbrev ql0:=@Nat.lt_of_not_le
abbrev ql1:=@List.take_append_of_le_length
abbrev ql2:=@List.mem_of_mem_take
abbrev ql3:=@Int.mul_nonneg
abbrev ql4:=@Nat.lt_trichotomy
abbrev ql5:=@List.pairwise_map
abbrev ql6:=@beq_eq_false_iff_ne
abbrev ql7:=@Int.mul_one
abbrev ql8:=@PySem.wpAny_truthy_bool
abbrev ql9:=@Nat.mul_lt_mul''
abbrev qm0:=@List.any_eq_true
abbrev qm1:=@Nat.one_le_two_pow
abbrev qm2:=@Int.le_of_dvd
abbrev qm3:=@Int.add_assoc
abbrev qm4:=@List.pairwise_iff_getElem
abbrev qm5:=@PySem.wpAny_call_entry
abbrev qm6:=@List.getElem?_set_ne
abbrev qm7:=@decide_eq_false
abbrev qm8:=@List.flatten_cons
abbrev qm9:=@List.find?_cons
abbrev qn0:=@List.append_assoc
abbrev qn1:=@Bool.eq_iff_iff
abbrev qn2:=@Nat.le_of_eq
abbrev qn3:=@List.map_congr_left
abbrev qn4:=@List.getElem?_range
abbrev qn5:=@Int.eq_ofNat_of_zero_le
abbrev qn6:=@PySem.wpAny_newObj_type
abbrev qn7:=@PySem.wpAny_mono
abbrev qn8:=@Int.mul_le_mul_of_nonneg_left
abbrev qn9:=@Nat.le_mul_of_pos_left
abbrev qo0:=@Nat.ne_of_gt
abbrev qo1:=@Int.emod_nonneg
abbrev qo2:=@PySem.wpAny_seqItems
abbrev qo3:=@List.take_add_one
abbrev qo4:=@List.map_take
abbrev qo5:=@List.getElem?_set
abbrev qo6:=@List.foldl_append
abbrev qo7:=@List.any_cons
abbrev qo8:=@PySem.wpAny_pyIter_tuple
abbrev qo9:=@PySem.Calls.spliced_cons
abbrev qp0:=@List.mem_append_left
abbrev qp1:=@PySem.wpAny_passesOwn
abbrev qp2:=@List.mem_or_eq_of_mem_set
abbrev qp3:=@Int.natAbs_lt_natAbs_of_nonneg_of_lt
abbrev qp4:=@Classical.byContradiction
abbrev qp5:=@PySem.wpAny_pyIter_list
abbrev qp6:=@PySem.mem_of_lookup
abbrev qp7:=@Nat.lt_two_pow_self
abbrev qp8:=@Int.neg_neg
abbrev qp9:=@Int.neg_mul
abbrev qq0:=@Int.add_mul
abbrev qq1:=@PySem.F.slot_tuple_iterator_next
abbrev qq2:=@PySem.W.kia_one
abbrev qq3:=@Nat.lt_irrefl
abbrev qq4:=@List.nil_append
abbrev qq5:=@List.map_drop
abbrev qq6:=@List.getElem?_replicate
abbrev qq7:=@List.getElem?_drop
abbrev qq8:=@List.filter_nil
abbrev qq9:=@List.filter_map
abbrev qr0:=@List.filter_cons_of_pos
abbrev qr1:=@List.filter_cons_of_neg
abbrev qr2:=@List.getElem?_set_self
abbrev qr3:=@decide_eq_true_eq
abbrev qr4:=@Nat.le_succ
abbrev qr5:=@List.ext_getElem?
abbrev qr6:=@PySem.W.methodCall_KW
abbrev qr7:=@List.map_nil
abbrev qr8:=@List.lookup_cons
abbrev qr9:=@List.getElem_map
abbrev qs0:=@List.eq_nil_of_length_eq_zero
abbrev qs1:=@Nat.add_le_add_right
abbrev qs2:=@PySem.Calls.callWith_builtin
abbrev qs3:=@Nat.add_assoc
abbrev qs4:=@Nat.two_pow_pos
abbrev qs5:=@List.of_mem_zip
abbrev qs6:=@List.foldl_cons
abbrev qs7:=@List.filter_sublist
abbrev qs8:=@Int.mul_eq_zero
abbrev qs9:=@PySem.F.slot_enumerate_next
abbrev qt0:=@Bool.or_eq_true
abbrev qt1:=@Nat.mul_lt_mul_of_pos_left
abbrev qt2:=@Nat.le_of_mul_le_mul_right
abbrev qt3:=@PySem.W.callWith_K
abbrev qt4:=@Nat.zero_add
abbrev qt5:=@Bool.false_eq_true
abbrev qt6:=@PySem.wpAny_holding
abbrev qt7:=@Nat.le_of_mul_le_mul_left
abbrev qt8:=@List.drop_eq_getElem_cons
abbrev qt9:=@PySem.F.type_list_insert
abbrev qu0:=@PySem.F.slot_list_insert
abbrev qu1:=@PySem.F.args_tuple_add_2
abbrev qu2:=@List.nodup_append
abbrev qu3:=@Int.not_lt
abbrev qu4:=@Int.dvd_mul_of_dvd_right
abbrev qu5:=@PySem.F.plainAttrs_dict
abbrev qu6:=@PySem.F.entry_tuple_add
abbrev qu7:=@List.getElem?_cons_zero
abbrev qu8:=@PySem.wpAny_Call_Name_kw
abbrev qu9:=@Option.getD_some
abbrev qv0:=@Nat.succ_ne_self
abbrev qv1:=@List.Sublist.map
abbrev qv2:=@PySem.F.slot_tuple_add
abbrev qv3:=@Int.fmod_nonneg_of_pos
abbrev qv4:=@PySem.wpAny_pyIter_enum
abbrev qv5:=@PySem.F.slot_dict_pop
abbrev qv6:=@PySem.F.slot_dict_get
abbrev qv7:=@Nat.min_self
abbrev qv8:=@Nat.lt_trans
abbrev qv9:=@List.append_nil
abbrev qw0:=@Int.natAbs_dvd_natAbs
abbrev qw1:=@Int.le_trans
abbrev qw2:=@PySem.Calls.spliced_nil
abbrev qw3:=@PySem.W.mg_of
abbrev qw4:=@List.replicate_succ'
abbrev qw5:=@PySem.wpAny_pyIter_zip
abbrev qw6:=@PySem.W.plainGet_of
abbrev qw7:=@PySem.F.slot_dict_itemiterator_iter
abbrev qw8:=@Nat.add_le_add_left
abbrev qw9:=@List.filterMap_cons
abbrev qx0:=@Int.le_refl
abbrev qx1:=@Array.length_toList
abbrev qx2:=@PySem.wpAny_execs_nil
abbrev qx3:=@Int.fmod_lt_of_pos
abbrev qx4:=@Int.dvd_trans
abbrev qx5:=@PySem.F.slot_zip_next
abbrev qx6:=@beq_iff_eq
abbrev qx7:=@PyProof.Rows.slot_tuple_getitem
abbrev qx8:=@List.any_eq_false
abbrev qx9:=@PySem.Calls.evalArgs_plain
abbrev qy0:=@Nat.sub_zero
abbrev qy1:=@Nat.pow_zero
abbrev qy2:=@Nat.add_comm
abbrev qy3:=@List.map_set
abbrev qy4:=@Int.add_comm
open PySem in
noncomputable abbrev LLInt:=?C ?I
open PySem in
noncomputable abbrev Bl:=?C ?Dj
open PySem in
noncomputable abbrev Ta:=?ez ?hE
open PySem in
noncomputable abbrev OAddr:=?c1 ?eR
namespace L2
open PySem PySem.Spec PyProof.Rows
noncomputable abbrev Key:=Sum Int Str
abbrev cR:Key->?ai->?c3| ?v k,v=>Value.isInt k v| ?el,v=>Value.isStrOf x v
abbrev Br4(w:World):Key->Int| ?v k=>hashInt k| ?el=>hashStr w x
def Ef:∀{k:Key}[?eg],cR k v=true->(∃i t,k=?jD i/\v=Value.int i t)\/(∃x t,k=?kT x/\v=Value.str x t)| ?kp,v,h=>by let ?f2:=Value.isInt_shape (k:=i) (v:=v) h;exact ?v #[i,t,?g,e]| ?el,v,h=>by let ?f2:=Value.isStrOf_shape (x:=x) (v:=v) h;exact ?n #[x,t,?g,e]
def pJ(i:Int)(t:Tok):cR ?kp ?gK=true:=by simp[cR,Value.isInt]
def pI(x:Str)(t:Tok):cR ?el ?zT=true:=by simp[cR,Value.isStrOf]
def Al2(a b:Int):?B ?w0=?l5:=by by_cases e:a=b;{subst e;simp};have h:¬?w0:=λq=>e (Sum.inl.inj q);rw[qm7 h];exact(ql6.mpr e).symm
def Ak9(a b:Str):?B ?tt=?pf:=by by_cases e:a=b;{subst e;simp};have h:¬?tt:=λq=>e (Sum.inr.inj q);rw[qm7 h,qm7 e]
def Al1(a:Int)(b:Str):?B (?vt=?kT b)=false:=?N8 qm7
def Al0(a:Str)(b:Int):?B (?v2=?jD b)=false:=?N8 qm7
abbrev mixKind[?t9]:PySem.KeyKind prog w Key where
 is:=cR
 hash:=Br4 w
 inj:=λv a b ha hb=>by
  rcases Ef ha with⟨i,t,rfl,rfl⟩|⟨x,t,rfl,rfl⟩
  . ext IZ
    . injection e with e1 _;rw[e1]
    . exact ?lV
  . ext IZ
    . exact ?lV
    . injection e with e1 _;rw[e1]
 byValue:=λk v h=>by
  rcases Ef h with⟨i,t,rfl,rfl⟩|⟨x,t,rfl,rfl⟩<;>rfl
 pyHash:=λhv h=>by
  rcases Ef hv with⟨i,t,rfl,rfl⟩|⟨x,t,rfl,rfl⟩
  . exact wpAny_pyHash_int h
  . exact wpAny_pyHash_str h
 eqBool:=λhu hv h=>by
  rcases Ef hu with⟨i,t,rfl,rfl⟩|⟨x,t,rfl,rfl⟩
  . ext IR
    . rw[Al2]at h;exact wpAny_eqBool_int h
    . rw[Al1]at h;exact SeqAt.EqAt.int_str i t y u _ _ _ _ h
  . ext IR
    . rw[Al0]at h;exact SeqAt.EqAt.str_int x t j u _ _ _ _ h
    . rw[Ak9]at h;exact wpAny_eqBool_str h
 «strs»:=λk x t v h=>by
  rcases Ef h with⟨i,u,rfl,e⟩|⟨y,u,rfl,e⟩
  . exact ?lV
  . injection e with e1 _;subst e1;cases v<;>rfl
def ID[?t9](i:Int)(t:Tok):?EA ?kp ?gK=true:=pJ i t
def IC[?t9](x:Str)(t:Tok):?EA ?el ?zT=true:=pI x t
set_option genInjectivity true in inductive V where| non | bl (b:Bool) | int (i:Int) | str (x:Str) | byt (b:?AI) | flt (b:UInt64) | ref [?ar] | ty (n:String) deriving DecidableEq
noncomputable abbrev rS[?ar]:?ho:=?h ?N
noncomputable abbrev iS(i:Int):?ho:=?h ?a8
abbrev RelV:?JN V ?ai| ?J,u=>?lF| ?b7,u=>?kP| ?a8,u=>?B1| ?cz,u=>?vW| ?Ct,u=>?xe| ?G9,u=>?EJ| ?N,u=>?hu| ?qM,u=>u=Value.type n
noncomputable abbrev Vals:?JN ?z ?F:=?gc ?bZ
def Vals.length[?b1][?a7](r:?bE):xs.length=us.length:=Paired.length r
def Vals.get:∀[?b1][?a7]{i:Nat}{x:V},?bE->?aY->∃u,us[i]?=?aB/\?bd| _,_,_,_,?M,e=>?Ep| _,_,0,_,?V r _,e=>by simp at e;subst e;exact ?FZ| _,_,?R,x,?kd,e=>by let#[u,h1,h2]:=Vals.get (i:=i) (x:=x) t ?qh;exact#[u,?kr,h2]
def Vals.set{x:V}[?aW](r:?bd):?LF (xs.set i x) (us.set i u)| _,_,_,?M=>?M| _,_,0,?kd=>?fD| _,_,?R,?V q t=>?V q (Vals.set r i t)
def Vals.append:∀[?ea]{us ws:?F},?bE->?a4 ys ws->?a4 ?os (us++ws)| _,_,_,_,?M,s=>s| _,_,_,_,?fD,s=>?V r (?wV t s)
def Vals.take:?Kb xs.take us.take| _,_,0,_=>?M| _,_,_+1,?M=>?M| _,_,n+1,?fD=>?V r (Vals.take n t)
def Vals.drop:?Kb ?pc us.drop| _,_,0,r=>r| _,_,_+1,?M=>?M| _,_,n+1,?kd=>Vals.drop n t
abbrev Ol:?JN ?ho ?hE| ?U,?aB=>?bv| none,none=>True| _,_=>False
abbrev KV{κ:Type}:?C ?wE->?C ?FP->Prop:=?gc λ(p:?wE) (q:?FP)=>p.1=q.1/\?bZ p.2 q.2
abbrev kV:Key->V| ?kp=>?a8| ?el=>?cz
inductive HO where| lst [?aK]| tup [?aK]| dK (kvs:?C (Key × V)) | dT (kvs:?C ?Fv)| set (S:?E3) (n:Nat)| ins (C dx:Addr) (fs:?cP)| own (x:Addr)| xd (fs:?cP)| met (f x:Addr)| rng (lo hi:Int)| frz (o:Obj) (u:HO)| tbl (ps:?bP)| ext (φ:?gE)
noncomputable abbrev Hp:=?eR->?mU
abbrev upd(H:Hp)[?ar](o:HO):Hp:=λb=>if b=a then ?x else H b
def Ab{H:Hp}[?aX]{o:HO}:?s H a o a=?x:=by unfold upd;rw[?Q ?g]
def Al{H:Hp}{a b:Addr}{o:HO}(h:b≠a):?s H a o b=H b:=by unfold upd;rw[?hZ]
def Fn{H:Hp}{a b:Addr}{o u:HO}(h:?kj)(h':?rA)(d:o≠u):a≠b:=by intro e;subst e;rw[h]at h';exact d (qa9 h')
def Aq{H:Hp}{a b:Addr}{o:HO}(h:?kj)(h':?aC):a≠b:=by intro e;subst e;rw[h]at h';cases h'
abbrev Nq[?bJ][?ar](items:?bP):Prop:=∃o,?jE/\?oX/\?od/\∃n,o.data=?aH ?fK n
def Nq.tup[?ae][?aX][?Iz]:?gH h a ?fK:=let #[o,e,c,_,d]:=x;?pZ
def Nq.lt[?ae][?aX][?Iz]:?oV:=x.tup.lt
def Nq.new[?bJ](items:?bP):Nq (?NU h.push ?bN ?fK) ?HD ?fK:=?zy
section
variable[?dY]
abbrev ObjOk(H:Hp)[?bJ][?ar]:?NT HO| ?fd=>?Nf (?bS=?oa)| ?gf=>?d7/\∃its:?F,?fX/\Nq h a ?a3| ?uu=>?H5/\?y8/\∃vs,KV kvs vs/\h.DictOf ?yb a vs| ?GZ=>?H5/\?y8/\∃xs:?C ?C2,?gc (λ(p:?Fv) (q:?C2)=>p.1=q.1/\H q.2.1=?h (?ac (p.1.map kV))/\?bZ p.2 q.2.2) kvs xs ∧ ∃o es ep,?jE/\o.ExactDict/\?CO/\es.toList=?ph (entryOfKey (tupleKind ?yb))/\(?ph (·.1)).Nodup| ?xp=>h.SetOf (intKind P w) a S n| ?nU=>?EC/\?C5/\dx≠a/\?bS=?h ?nm ∧ ∃mA,?p3/\?q8/\?rX mA (?l1 (·.1))| .own _=>?BX| .xd fs=>∃mA,h.Ns1 a mA/\?q8| .rng lo hi=>∃t u v,?bS=?h ?r2| ?yA=>?jE/\?bc H h a u| ?yq=>?K0 ?bS| .met f x=>?bS=?M9 ?dv| .ext φ=>φ h/\?BX/\∀h1 h2:Heap,φ h1->(∀o,?jL a=?x->h2.get? a=?x)->φ h2
abbrev S6(H:Hp)[?bJ]:Prop:=∀a o,?kj->?rj
universe e9
section
variable[?m5][?cr]{h h':Heap}[?aX]{o:HO}
def ObjOk.lt(x:?rj):?oV:=by cases o with| lst xs=>let#[_,_,_,_,e]:=x;ext b2| tup xs=>let#[_,_,_,p]:=x;exact p.lt| dK kvs=>let ?Dv:=x;ext b2| dT kvs=>let ?Dv:=x;ext b2| set S n=>let#[o,_,_,_,e,_]:=x;ext b2| ins C dx fs=>let ?Gm:=x;ext b2| own y=>let ?sD:=x;ext b2| xd fs=>let#[_,?Gm,_]:=x;ext b2| rng lo hi=>let#[_,_,_,e]:=x;ext b2| frz ob u=>let#[e,_]:=x;ext b2| tbl ps=>exact ?Lj _| met f y=>exact ?Lj _| ext φ=>let#[_,?sD,_]:=x;ext b2
def Paired.mapP{α β:Type}{F G:?JN α β}:∀{l₁:?fb}{l₂:?C β},?gc F l₁ l₂->(∀a b,F a b->G a b)->?gc G l₁ l₂| _,_,?M,_=>?M| _,_,?fD,f=>?V (f _ _ r) (?FQ t f)
def ObjOk.stay(x:?rj)(k:∀b u,(b=a\/H b=?jt)->?r7) (ho:∀b,?N5 ?jt ?jt) (ht:?kZ):?bc P w H' h' a o:=by induction o with| lst xs=>let ?ia:=x;exact#[z,its,n,r,?bU]| tup xs=>let#[z,its,r,ob,e,c]:=x;exact#[z,its,r,ob,?bU,c]| dK kvs=>let(?LR vs e):=x;exact(?LR vs ?bU)| dT kvs =>let(?LR xs e):=x;exact#[z,y,xs,?FQ r λp q z=>#[z.1,ht _ _ z.2.1,z.2.2],ob,es,ep,?bU,c]| set S n=>let#[ob,es,ep,t,e,c]:=x;exact#[ob,es,ep,t,?bU,c]| ins C dx fs =>let#[d,z,ne,e,mA,(?Ls e2),r]:=x;exact#[ho _ d,z,ne,?bU,mA,(?Ls (k _ _ (?n d) e2)),r]| own y=>let#[ob,e]:=x;exact#[ob,?bU]| xd fs=>let#[mA,(?Ls e),r]:=x;exact#[mA,(?Ls ?bU),r]| rng lo hi=>let#[t,u,v,e]:=x;exact#[t,u,v,?bU]| frz ob u ih=>let#[e,q]:=x;exact#[?bU,ih q]| tbl ps =>have e:?K0 ?bS:=x;show ?K0 (?eK a);exact ?A3| met f y =>have e:?bS=?M9 (?K y):=x;show ?eK a=?M9 (?K y);exact ?A3| ext φ=>let#[p,#[o,e],st]:=x;exact#[st _ _ p λo q=>k _ _ ?ao q,#[o,?bU],st]
def S6.lt[?iE](e:?kj):?oV:=(x a o e).lt
def S6.fresh[?iE](e:?nG):?qw:=by cases q:H a with| none=>rfl| some u=>exact ?Jy (x.lt q) e
def S6.kept[?iE][?li]:?MR H h':=λa o e =>(x a o e).stay (λb u _ q=>?iX) ?qS ?hg
def S6.laid[?iE][?li](hp:?nG)(new:?bc P w ?h8 h' a o):?MR ?h8 h':=?OX (by have hn:=x.fresh hp;by_cases hb:b=a;{subst hb;rw[Ab]at e;cases e;exact new};rw[Al hb]at e;exact(x b u e).stay (λc v _ q=>k c v q) (λc q=>?jr) λc xs q=>?jr)
universe e9
abbrev Rd(H:Hp)[?ar](u:HO):Prop:=H a=?aB\/∃o,H a=?qo
def Rd.ok[?m5]{H:Hp}[?ae][?aX]{u:HO}(r:Rd H a u)[?iE]:?Lr u:=by rcases r with r|⟨o,r⟩;{exact x a u r};let#[_,q]:=x a _ r;exact q
abbrev Mut:?NT ?mU| ?h ?j5=>True| ?h (.dK _)=>True| ?h (.dT _)=>True| ?h (.set _ _)=>True| ?h (.ins _ _ _)=>True| ?h (.ext _)=>True| _=>False
section
variable[?m5]{H:Hp}{h h':Heap}{x e:Addr}{o':HO}
def S6.write(ok:?n0)[?Hr] (new:?bc P w ?xH h' x o'):?MR ?xH h':=λb u q=>by (have A35:∀c y,H c=?h (.own y)->c≠x:=λc y r z=>?B2);(have Bp0:∀c xs,H c=?iV->c≠x:=λc xs r z=>?B2);by_cases hb:b=x;{subst hb;rw[Ab]at q;cases q;exact new};rw[Al hb]at q;by_cases hbe:b=e;{(have q':H b=?h ?lX:=by rcases he with z | z;{exact ?G (hbe.trans z) hb};rw[hbe];exact z);rw[q]at q';cases q';let#[v,hv]:=heo;exact#[v,by rw[hbe];exact hv]};(apply(ok b u q).stay (λc v hc r=>k c v ?_ r) (λc r=>?M6 A35 b) λc xs r=>?M6 Bp0 xs);rcases hc with rfl | hc;{exact hbe};rintro rfl;rcases he with z | z;{exact A35 c b hc z};rw[hc]at z;cases z;exact hb ?g
universe e9
structure Un(fs ex:?am)(H H':Hp)(h h':Heap):Prop where
 keep:?K5 ?c9 (?aC->b ∉ fs->?gs->?jX)
 slot:?K5 ?c9 (?aC->b∈fs->?gs->?tw)
 free:?K5 ?c9 (?aC->?gs->?j2)
 there:?K5 ?c9 (?gs->?y4)
 tups:?kZ
 frzs:?r9
 tbls:?u4
section
variable{fs fs' ex ex':?am}{H H1 H2:Hp}{h h1 h2 h':Heap}{a x e:Addr}{o:HO}
def Un.any(u:?KW H1 h1){b:Addr}{ob:Obj}(q:?ha=?h ob)(n:?aC)(hx:?gs):∃sl,?jL b=?h { ob with slots:=sl }:=by by_cases hb:b∈fs;{exact ?Mw u.slot ob q};exact#[?Ag,?Mw ?qJ ob q]
def Un.kept[?li]:?KW H h' :=#[λb ob q _ _ _=>?q6,λb ob q _ _ _=>#[?Ag,?q6],λ_ _ _ n _=>n,λb ob q _=>#[ob,?q6],?hg,λ_ _ _ q=>q,λ_ ps q=>#[#v[],?me]]
def Un.refl:?KW H h:=?nZ ?hg
def Un.laid[?li](hp:?nG)(hn:?qw):?KW ?h8 h' where
 keep:=λb u q _ _ _=>?iX
 slot:=λb u q _ _ _=>#[u.slots,?iX]
 free:=?NO (?L0 (qc1 q) hp)
 there:=λb u q _=>#[u,?iX]
 tups:=λb xs q=>?jr
 frzs:=λb u xs q=>?jr
 tbls:=?Kj (Aq q hn)
def Un.write[?Hr]:?KW ?oo h':=by (have hx:∀b,?aC->b≠x:=λb n z=>by subst z;rw[n]at mu;exact mu);(have hb:∀b,?aC->?kC:=λb n z=>by subst z;rcases he with r | r;{exact hx b n r};rw[n]at r;cases r);(have hm:∀b u,?rA->¬Mut ?aB->b≠x:=λb u q nm z=>by subst z;rw[q]at mu;exact nm mu);apply#[λb u q n _ _=>?Ew,λb u q n _ _=>#[u.slots,?Ew],?NO (hx b n),λb u q _=>?_,λb xs q=>?FL,λb u xs q=>?FL,?Kj (hm b _ q λz=>z)];by_cases hbe:b=e;{subst hbe;exact heo};exact#[u,k b u hbe q]
universe e9
abbrev trk[?bJ](H:Hp):?am:=(?ce ?HD).filter λa=>(H a).isSome
abbrev EZ[?bJ](H:Hp):Heap:=PySem.W.hideAll h ?jC
def pR[?bJ](H:Hp):(EZ h H).objs.size=h.objs.size:=PySem.W.hideAll_size _ _
def uC[?ae]{H:Hp}[?g7](e:?c9)(n:?aC):?LP ?x :=PySem.W.hideAll_get _ e λhm=>by have q:(H b).isSome=true:=(qg3.mp hm).2;rw[n]at q;simp at q
def xM[?ae]{H:Hp}[?g7](e:?LP ?x):?c9/\?aC:=by have e':?c9:=PySem.W.of_hideAll ?jC e;apply#[e',?_];cases q:H b with| none=>rfl| some x =>have hm:b∈?jC:=qg3.mpr #[qd9.mpr (qc1 e'),by simp[q]];have z:?LP none:=PySem.W.hideAll_none ?jC hm;rw[z]at e;cases e
structure Mod[?i][?i4]:Prop where
 kin:?tI
 glob:?oR
 blt:∃mb,base.Ns ?vZ mb/\?tj
 nolimit:base.NoLimit
structure Cx where
 prog:Program
 w:World
 K:PySem.W.Frag
 mg:?bR
 base:Heap
 A:Around
 N:?X
 s₀:Shared
 H₀:Hp
 env:Env
 outer:?bt
 stack:?bt
 ex:?am
 fn:Str->?c3
 calm:Bool
 pn:Bl
 xe:?e5
abbrev RA(l:?bt):?am:=l.filterMap (·.frame)
noncomputable abbrev Cx.fs(X:Cx):?am:=RA ?iL
abbrev Vis(sc:Scope)(x:Str):Prop:=?hb x=?cW\/?p0\/?hb x=?bx
abbrev Loc(sc:Scope)(x:Str):Prop:=?zU
abbrev B81(env:Env)[?bJ](m:?bR)(x:Str)[?cN]:Prop :=(?lb x=?cW/\m x=?aB)\/((?lb x=?ah\/?lb x=?bx)/\∃c,?s3 x=?bC/\h.IsCell c ?aB)
structure Cx.Ok(X:Cx):Prop where
 mod:?EK
 kind:X.env.scope.kind=?eo
 glob:X.env.globals=mainGlobals
 blt:X.env.builtins=builtinsNs
 above:?JV X.env.locals
 inj:∀x y c,?ca->?kY y=?bC->x=y
 has:∀x,?wz->∃c,?ca
 cab:∀x c,?nO->?ca->?JV c
 hd:?jh->?F3
 frames:X.A.frames=?h ?dC
 stk:X.stack=X.outer\/(X.stack=X.env::X.outer/\X.env.frame=?h ?l6)
 exf:∀b∈X.ex,?eq/\?xK
 bs:?K5 ?gz (?ms/\?DU)
 bsz:X.base.objs.size<=X.s₀.heap.objs.size
 noex:?K5 ?gz ?wh
 exfs:∀b∈X.ex,?kn
 funs:?HN ?cf ?iL
 frf:∀b∈X.fs,?DU
structure Bo[?bf](σ:?oT)(H:Hp)[?bj]:Prop where
 ok:X.Ok
 os:s.os=X.s₀.os
 bare:?z0
 base:Un X.fs X.ex X.H₀ H X.s₀.heap ?H
 loc:∃m,?yu/\∀(i:Nat) (x:Str) (v:V),?gy->?Eh->?kc->∃u,?bv/\B81 ?p ?H m x u
 cell:?Kw (∃v,?lM c v)
 free:?Kq ?l6
 freeC:∀x c,?ca->?Kq c
 pin:∀p∈?sC,?wX
 hok:?Ly H ?H
 len:σ.length=X.N.length
section
variable[?mK]{σ:?oT}[?cr][?aL]{h':Heap}
def Cx.Ok.nofr(ok:X.Ok)[?g7](e:?gz):?kn:=λhb=>by have:=(ok.funs.mem hb).1;rw[e]at this;cases this
def Bo.bs[?j]:?K5 ?gz ?xL:=λb o e =>#[?zE b o (?j1).1 (?j1).2 (I.ok.nofr e) ?GE,?k6 b o (?j1).1 (?j1).2 ?GE]
def Bo.bk[?j]:?K5 ?gz ?bm:=?NR ((?Mv I.bs).1)
def Bo.mod[?j]:?EK:=I.ok.mod
def Bo.kIn[?j]:X.K.In ?H:=I.ok.mod.kin.keeps I.bk
def Bo.lt[?j]:?LE X.env.locals:=let #[_,hn,_]:=I.loc;hn.lt
def Bo.sz[?j]:?JV s.heap.objs.size:=qa5 ?rK (qf0 I.lt)
def Bo.nofs[?j][?aX](h:?yC):a ∉ X.fs:=λhb=>by let ?tq:=I.ok.funs.mem hb;exact ?Jy ?il (qa5 I.sz h)
def Bo.cne[?j]:?Kw (?Ni c):=λx c e z=>by let ?AF:=?jZ;let#[m,#[o',es,ep,ho',hd',_],_]:=I.loc;rw[z,ho']at ho;cases ho;rw[hd']at hd;cases hd
def Bo.funs[?j]:?la ?cf ?iL:=by (have all:∀(l:?bt),(∀b∈RA l,?Bc)->?HN ?cf l->?la ?cf l:=by intro l;induction l with| nil=>intro _ _;trivial| cons env r ih =>intro hs hl;let#[hk,#[L,o,hf,hn,ho,hd],hr]:=hl;have hL:L∈X.fs:=hs L (by unfold RA;rw[qw9,hf];exact qb4);let#[sl,e]:=?Eg L o ho (?Dk L hL) hL λz=>?F4 L z hL;exact#[hk,#[L,_,hf,hn,e,hd],ih (?Lm (hs b (by unfold RA;rw[qw9,hf];exact ?DA))) hr]);exact all ?iL (λ_ hb=>hb) I.ok.funs
def Bo.stack[?j]:?la ?cf ?dC:=by rcases I.ok.stk with e|⟨e,hf⟩;{rw[e];exact I.funs};rw[e];let#[m,hn,_]:=I.loc;apply ?V (by rw[I.ok.kind];decide) hf hn ?_ I.funs;exact Heap.get?_none_of_le (qa5 ?q1 ?rK)
def Bo.stkSub[?j]:∀b∈?hJ,b∈X.env.locals::X.fs:=?Lm (by rcases I.ok.stk with e|⟨e,hf⟩;{rw[e]at hb;exact ?DA};rw[e]at hb;unfold RA at hb;rw[qw9,hf]at hb;exact hb)
def Bo.stkFree[?j]:∀b∈?hJ,?aC:=?Lm (by rcases ?f5 (?Am b hb) with e | hb;{rw[e];exact I.free};let ?tq:=I.ok.funs.mem hb;exact ?k6 b o ho (?Dk b hb) λz=>?F4 b z hb)
def Bo.step[?Ig][?j] [?se] (keep:?K5 ?eq (?kn->?gj->?bm->?aC->?jX)) (slot:?K5 ?eq (?Bc->?gj->?bm->?aC->?tw)) (free:?K5 ?gj (?bm->?aC->?j2)) (there:?K5 ?gj (?bm->?y4)) (tups:?kZ) (frzs:?r9) (tbls:?u4) (ns:∀m,?yu->h'.Ns ?l6 m) [?t6] (hg:?iq g') : ?Dc:=by have neL:?K5 ?ms ?eq:=?NR ?vq;(have neC:?K5 ?ms (?wh->?gj):=λb o e hx hb=>by rcases (hch b hb).1 with z | z;{exact hx z};exact ?Jy ?eG z);(have cellK:?Kw (∀v,?lM c v->h'.IsCell c v):=λx c e v ?oZ=>by have nch:c ∉ ch:=?G7;by_cases hc:c∈X.fs;{let#[sl,q]:=?MF slot;exact#[_,q,hd]};exact#[o,?MF keep,hd]);apply#[I.ok,?fc,hg,#[?j4,?j4,λb o e n hx=>?_,?ts,λb xs e=>tups b xs (?tu b xs e),λb o xs e=>frzs b o xs (?tO b o xs e),λb ps e=>?_],?_,?CE,?_,?CE,?mu,hok,?kU];{exact keep b o ?xJ hb ?lJ ?sS ?qx};{let ?nq:=?qV;let ?z5:=slot b _ ?xJ hb ?lJ e1 ?qx;exact ?z5};{let ?iK:=?jV;exact free b o' ?lJ e1 ?qx};{let ?iK:=?jV;exact there b o' ?lJ e1};{let#[m1,e1]:=?H4 b ps e;let#[m2,e2]:=tbls b _ e1;exact#[m1++m2,by rw[e2,Array.append_assoc]]};{let ?pi:=I.loc;apply#[m,ns m hn,?yh];let ?pC:=hl i x v e1 e2 e3;apply ?zM;rcases l with l|⟨k,c,e,z⟩;{exact ?v l};exact ?n #[k,c,e,cellK x c e _ z]};{let ?nI:=?jZ;exact#[v,cellK x c e v z]};{let#[m,#[o,_,_,ho,_],_]:=I.loc;exact free _ o ?GV ho ?cc};{let ?AF:=?jZ;exact free c o ?G7 ho ?of};let ?pS:=?jI;have nch:p.1 ∉ ch:=λz=>(hch p.1 z).2.2.2 p hp ?g;exact#[keep p.1 p.2 ne nf nch e n,free p.1 p.2 nch e n,ne,nf,d]
def Bo.un[?ct][?j](u:?LM X.fs [] h')[?t6]:?JG H' ?gg:=by let ?uG:=?qp;let ?v1:=u.any ho ?cc ?w;exact ?k1 (g':=s.gens) (d':=s.drawn) (ch:=[]) (λ_ z=>?ie) (?Ky ?qJ) (?Ky u.slot) (λb o _ e n=>u.free b o e n ?w) (λb o _ e=>u.there b o e ?w) u.tups u.frzs u.tbls ?v9 hok ?bL
def Bo.call[?Ig][?j](u:?LM ?hJ ch h')[?t6](hg:?iq g') [?se] : ?Dc:=by let ?uG:=?qp;let ?v1:=u.any ho ?cc ?GV;exact ?k1 (ch:=ch) hch (λb o hL hb hc e n=>?qJ b o e n (λz=>(?sM).elim hL hb) hc) (λb o _ _ hc e n=>u.any e n hc) (λb o hc e n=>u.free b o e n hc) (?Mm (u.there b o e hc)) u.tups u.frzs u.tbls ?v9 hok hg
def Bo.turned[?ct]{it:Addr}[?j](k:∀b o,?Dm)(hn:?Kq it)(hL:?Ni it) (h1:it∈X.ex\/?JV it) (h2:?Kw (c≠it)) (h3:∀p∈?sC,p.1≠it):?sR:=by (have nit:∀b u,?rA->b≠it:=λb u e z=>by rw[z,hn]at e;cases e);apply ?k1 (g':=s.gens) (d':=s.drawn) (ch:=[it]) ?de (?KC ?r4) (?KC #[?oK,?r4]) ?v0 (?Mm #[o,?r4]) ?Gi ?uR ?x2 ?nL ?GT ?bL;{(ext lo);subst e;exact#[h1,hL,h2,h3]};{let ?A4:=hm;exact(?Ma es k (?fh hL))};apply ?y5 (λc v hc q=>k c v ?_ q) ?qS ?hg;rcases hc with z | z;{rw[z];exact nit b u e};exact nit c _ z
def Bo.tok[?j](t:Nat):?JG H ({ s with toks:=t }):=I.un (h':=s.heap) (t':=t) Un.refl ?au
def Bo.kept[?ct][?j][?Iq]:?sR:=I.un (?nZ k) (I.hok.kept k)
def Bo.laid[?aX]{o:HO}[?ct][?j][?Iq](hp:?yC)(new:?MA ?h8 a o) : ?JG ?h8 ?gg:=I.un (Un.laid k hp (?em hp)) (?vs k hp new)
def Bo.write{x e:Addr}{o:HO}[?ct][?j](mu:?Af)(he:?Eu)(k:∀b u,?kC->?vP)(heo:?Ci) (new:?MA ?oo x o):?JG ?oo ?gg:=I.un (Un.write mu he k heo) (I.hok.write mu he k heo new)
def Bo.pins_of{zF:Bl}[?j](h:∀p∈zF,?wX):?Ld X zF :=(?Jo I.ok (?OA ?Fn (h p)))
def iA{N:?X}(hN:N.Nodup){i j:Nat}{x:Str}(a:?O9 N)(b:N[j]?=?cA):i=j:=by let#[h1,e1]:=?cy a;let#[h2,e2]:=?cy b;exact(List.getElem_inj hN).mp (e1.trans e2.symm)
def cC{M:Model}[?S][?aE][?da]{v:V}[?aW][?i9][?j][?lh][?dc] (h:∀s',?FW->(∃a,?gZ a ?H ?dG/\(a=X.env.locals\/?DG))->?sQ) [?eS]:?uQ:=by let ?pi:=?qp;(have hcls:?LD (X.env.scope.kind==.class || (X.env.scope.kind==.module&&X.env.locals != X.env.globals)):=by rw[I.ok.kind];rfl);(have hiσ:i<σ.length:=by rw[I.len];exact ?hc);have cne:=I.cne;(have tracked:∀[?aX]{h':Heap},(∃o,?MB a/\?qw)->?gZ a ?H h'->?Ly H h':=λ{a h'} ha hs b ob e=>by let#[_,_,hfree]:=ha;apply(?au b ob e).stay (λc w' hc q=>(hs.2 c ?_).trans q) ?qS ?hg;rintro rfl;rcases hc with rfl | hc;{rw[hfree]at e;cases e};rw[hfree]at hc;cases hc);rcases hx with hk | hk;{apply wpAny_storeName_local hk hn (λh' hn' hs=>?_) hcls;let#[oL,_,_,hoL,_]:=id hn;apply h _ #[I.ok,?fc,?bL,?vH,#[_,hn',?yz],λy c e=>?_,?cc,?cx,?mu,tracked #[oL,hoL,?cc] hs,?ua] #[_,hs,?ao];{exact ?pK ?sS};{let ?nq:=?qV;exact#[sl,?pK e1]};{let ?iK:=?jV;exact#[o',?pK e1]};{by_cases hj:j=i;{subst hj;rw[hi]at e1;cases e1;rw[?xZ]at e2;cases e2;exact#[u,r,?v #[hk,?w]]};rw[qm6 (?fh hj)]at e2;let ?tW:=?DY;apply ?Ef;rcases q with⟨k,e⟩|⟨k,c,e,z⟩;{apply ?v #[k,?_];have:y≠x:=λe=>hj (iA hN e1 (e▸hi));simp[this,e]};exact ?n #[k,c,e,?tX]};{let#[w',z]:=?dH y c e;exact#[w',?tX]};let ?pS:=?jI;exact(?LS ne)};(have hfn:?nO:=by rcases hf with z | z;{exact z};rw[z]at hk;cases hk);let#[c,hc]:=I.ok.has x ?FJ;let#[w',z]:=?dH x c hc;apply wpAny_storeName_cell ?fT hk hc z (λh' hc' hs=>?_);let#[oc,hoc,Bu3]:=id z;apply h ?fH #[I.ok,?fc,?bL,?vH,#[m,?uP hs (?fh (cne x c hc)),?yz],λy c' e=>?_,?cc,?cx,?mu,tracked #[oc,hoc,?cx x c hc] hs,?ua] #[c,hs,?n hc];{exact ?o5 ?sS};{let ?nq:=?qV;exact#[sl,?o5 e1]};{let ?iK:=?jV;exact#[o',?o5 e1]};{by_cases hj:j=i;{subst hj;rw[hi]at e1;cases e1;rw[?xZ]at e2;cases e2;exact#[u,r,?n #[?FJ,c,hc,hc']]};rw[qm6 (?fh hj)]at e2;let ?tW:=?DY;apply ?Ef;rcases q with q|⟨k,c',e,z'⟩;{exact ?oU};apply ?n #[k,c',e,z'.sameBut hs ?_];rintro rfl;exact hj (iA hN e1 (?BS _ _ _ e hc▸hi))};{by_cases hcc:c'=c;{subst hcc;exact#[_,hc']};let#[w2,z2]:=?dH y c' e;exact#[w2,z2.sameBut hs hcc]};let ?pS:=?jI;apply(?LS ?_);intro q;rw[q,hoc]at e;have q':oc=p.2:=qa9 e;exact d w' (by rw[←q'];exact Bu3)
def GJ{M:Model}[?S][?aE][?da]{v:V}[?aW][?i9][?j][?lh][?dc] (h:∀s',?FW->?sQ) [?eS]:?uQ :=cC I hN hi hx r (λs' I' _=>h s' I') hf
def Bo.call'{s':Shared}{ch:?am}[?j](ho:?nJ)(u:?LM ?hJ ch ?dG)(hok:?vw)(hg:?lR) [?se]:?kO:=by let#[h',g',d',t',o']:=s';have e:o'=s.os:=ho;subst e;exact I.call (g':=g') (t':=t') (d':=d') u hok hg hch
universe e9
noncomputable abbrev XK:=?ai->OAddr->?aN
noncomputable abbrev St:=?oT
noncomputable abbrev VK:=?hd
noncomputable abbrev TE:=St->?ix
noncomputable abbrev TT:=?ND ?v5
noncomputable abbrev TA:=?ND ?sH
structure Ends where
 nx:?P
 rt:VK
 bk:?P:=?dq
 ct:?P:=?dq
noncomputable abbrev TS:=Ends->?P
inductive EP[?bf](σ:St)(Q:VK)[?cN][?bh]:Prop| mk (v:V) [?lt] [?dc] (q:?h5):?AY
inductive TP[?bf](σ:St)[?g3](b:Bool)[?bh]:Prop| mk [?lt] (q:Q b H'):TP X Ag σ Q b s'
inductive AP[?bf](σ:St)(Q:?sH)[?cJ][?bh]:Prop| mk [?bi] [?lt] [?mH] (q:Q vs H'):AP X Ag σ Q us s'
inductive NP[?bf](N:?P)[?bh]:Prop| mk [?Iw] (q:?ld):?L2 N
inductive HP[?bf](σ:St)(Q:?aN)[?bh]:Prop| mk [?lt] (q:Q H'):?vV
inductive YP[?bf](σ:St)[?cN](Y:?hd)(T:Prop)[?mE](s2:Shared):Prop| mk (x:V) (H':Hp) (i:?y1) (r:?bd) (y:Y x H') (t:T) (f:?eB):?My Y T
inductive RP[?bf](Q:VK)[?cN][?bh]:Prop| mk (v:V) [?Iw] [?dc] (q:?h5):?O1 RP Q u
abbrev SP[?bf](D:Ends)(f:Flow)[?bh]:Prop :=match f with| .next=>?L2 ?fP| .brk=>?L2 D.bk| .cont=>?L2 D.ct| ?H0=>?O1 RP D.rt u
abbrev PE(X:Cx)(e:Expr)(t:TE):Prop :=∀[?a5] (Q:VK),?T->?fZ->?JF ?fG ?b9
abbrev PT(X:Cx)(e:Expr)(t:TT):Prop :=∀[?a5] [?g3],?OI (?nl e ?p ?fG)
abbrev PW(X:Cx)(e:Expr)(t:TT):Prop :=∀(whole:Sem ?ai) [?a5] [?g3],?OI ?Bu
def PW.pt{X:Cx}{e:Expr}{t:TT}(h:PW X e t):PT X e t:=h _
abbrev PA(X:Cx)(es:?df)(t:TA):Prop :=∀(pos:Pos) [?a5] (Q:?sH),?T->?fZ->?JF (spliced ?np) (AP X Ag σ Q)
abbrev PS(X:Cx)(st:Stmt)(t:TS):Prop :=?NF exec
abbrev nQ(X:Cx)(st:?d4)(t:TS):Prop :=?NF execs
def Eh{α:Type}{t:Sem α}{Q Q':α->?e8}{M:Model}[?S][?aE][?aL](h:?JL M t)(hQ:∀a s,Q a s->Q' a s):?k M A t Q' E s:=qn7 h hQ λ_ _ x=>x
section
variable{X:Cx}
inductive Ab1(i:Nat)(σ:St)[?b0]:Prop| mk:∀v,?Eh->?kz->?Cc
abbrev Ax8(i:Nat):TE:=λσ H Q=>?Cc
abbrev tC(v:V):TE:=λ_ H Q=>?kz
def Ag9[?da][?aF](hN:?gy)(hv:?kc)[?ft][?IN]:?B0:=by ext Y;let#[v,e,h]:=h;let ?pi:=I.loc;let ?pC:=hl i x v hN e hv;have fin:?Je u s:=?nj;rcases l with⟨hk,hm⟩|⟨hk,c,hc,hcell⟩;{exact ?rG (wpAny_loadName_local ?fT hk hn hm fin) hd};rcases hk with hk | hk;{exact ?rG (wpAny_loadName_cell ?fT hk hc hcell fin) hd};exact ?rG (wpAny_loadName_free ?fT hk hc hcell fin hcd) hd
def Ak{i j pos}:?Jz ?a8 ?a8:=?Ji (wpAny_Constant_int (?Nr ?a8 h))
def N9{b j pos}:?Jz ?nC ?b7:=?Ji (Constant_bool (?O0 ?b7 h))
def JW{j pos}:?Jz ?aS ?J:=?Ji (Constant_none (?O0 ?J h))
def O6{x j pos}:?Jz ?cz ?cz:=?Ji (Calls.Constant_str (?Nr ?cz h))
abbrev Gl(X:Cx)(x:Str):Prop:=?ga x=?h .globalImplicit
def Y8[?aE]{Ag:Bl}[?aL][?bI]{x:Str}[?aW][?aF][?cH][?j][?iJ](hm:?hm=?aB)(h:Q u s) [?ft]:?FG :=?zA ?fT hg (Calls.loadGlobal_global ?yg hm h) hd
def Km[?aE]{Ag:Bl}[?aL][?bI]{x:Str}[?aW][?aF][?cH][?j][?Ic](h:Q u s) [?lj] [?ft]:?FG:=by let#[mb,h1,h2]:=I.mod.blt;exact ?zA ?fT hg (Calls.loadGlobal_builtin ?yg hm (by rw[I.ok.blt];exact h1.keeps I.bk) ((h2 x hn).trans hv) h) hd
def Ig{x:Str}{v:V}[?aW][?aF][?iJ](hm:?hm=?aB)[?dc][?ft]:?E9 :=?Ji (Y8 I hg hm ?nj hd)
def O7{x:Str}{v:V}[?aW][?aF][?Ic][?dc][?lj][?ft]:?E9 :=?Ji (Km I hg hm hv ?nj hn hd)
variable{a b:Expr}{ta tb:TE}[?aF]
def A36(b:Expr){op:CmpOp}(h:?yW)(h2:?vA):?rZ:=by
 ext I1
 ext Hx
 cases b<;>simp[behindInMarks,e1,e2]
inductive ItB[?g3](x:V)(H1:Hp):Prop| mk:?Lw (Q c H1) ?At
abbrev tB(t:TE):TT:=?JE t ?At
def Je{e:Expr}{t:TE}(h:?KG e t)(he:?r (∀whole,?Bu=(do let v ←whole;?rB e.pos;?hp [v] (truthy v))) ?mO):PT X e (tB t):=by intro Ag s σ H Q I hw;apply isTrue_plain (Eh ?FN ?gO) (he _);ext bF;let#[d,?g,q]:=q1;cases r1;exact ql8 #[H1,I1,q]
variable{tA tB':TT}{rest:?df}
abbrev Bm8(t u:TT):TT:=?JK (λc H1=>if ?hR then ?vj else Q ?bp H1)
abbrev tOr(t u:TT):TT:=?JK (λc H1=>if ?hR then Q ?bO H1 else ?vj)
abbrev Bm5(t:TT):TT:=?JK ?Gk
def Y4[?iD]:PW X (?MU [a]) tA:=by ext lx;apply ?F6 ?EW;cases c with| true=>exact isTrue_and_nil e| false=>exact e
def jV[?iD]:PW X (?Mt [a]) tA:=by ext lx;apply ?w7 ?EW;cases c with| false=>exact isTrue_or_nil e| true=>exact e
def EA[?iD](hb:PW X ?u6 tB'):PW X ?tf (Bm8 tA tB'):=?NA ?F6 ?AA ?d2
def sD[?iD](hb:PW X ?y3 tB'):PW X ?AC (tOr tA tB'):=?NA ?w7 ?d2 ?AA
def Ki[?iD]:PT X ?vi (Bm5 tA):=?NI isTrue_not (Eh (?JM ha ?Gk) λc s1 ?d2=>?d2)
inductive vF(tb:TE)(σ:St)[?g4]:Prop| mk:?Lw (if ?hR then ?nW else Q ?j8 H1) ?F2
abbrev Az1(ta tb:TE):TE:=?JE ta ?F2
inductive Ab2(tb:TE)(σ:St)[?g4]:Prop| mk:?Lw (if ?hR then Q ?l0 H1 else ?nW) ?z6
abbrev Bm4(ta tb:TE):TE:=?JE ta ?z6
inductive vD[?g4]:Prop| mk:?Lw (Q ?CD H1) ?CB
abbrev Ay3(ta:TE):TE:=?JE ta ?CB
def Qq{op}{t:TE}(h:?KG a t):?KG (?eP op [a] ?m) t:=?Ln BoolOp_one
def O8[?mF](hb:?KG ?u6 tb):?KG ?tf (Az1 ta tb):=by ext Y;apply BoolOp_and ?kl;ext bF;ext t1;apply ?oc;cases c with| true=>ext t0| false=>exact(?LB ?j8 ?g)
def A26[?mF](hb:?KG ?y3 tb):?KG ?AC (Bm4 ta tb):=by ext Y;apply BoolOp_or ?kl;ext bF;ext t1;apply ?oc;cases c with| false=>ext t0| true=>exact(?LB ?l0 ?g)
def Ah0[?mF]:?KG ?vi (Ay3 ta):=by ext Y;apply ?z3 ?kl;ext bF;ext t1;exact not_of (ql8 (?LB ?CD ?g))
abbrev tIf(t:TT)(ta tb:TE):TE:=?JK (λc H1=>if ?hR then ta σ H1 Q else ?nW)
def f7{c:Expr}(hc:PT X c tA)[?eW]:?KG (.IfExp c a b ?m) (tIf tA ta tb):=by ext Y;apply wpAny_IfExp ?FA;let ?d2:=_z;cases d with| true=>exact ?JS ha Q| false=>ext t0
universe e9
abbrev SqL[?i](H:Hp)[?ar][?aK]:Prop :=?NC ?fd (o.cls=?ay)
abbrev SqT[?i](H:Hp)[?ar][?aK]:Prop :=?NC ?gf ?oX
abbrev B22:?ai->?ho| ?aS=>?h ?J| ?nC=>?h ?b7| ?o i _=>?h ?a8| ?c6 x _=>?h ?cz| .bytes b _=>?h ?Ct| .float b _=>?h ?G9| ?N=>?h ?N| ?s6=>?h ?qM| _=>none
def RelV.abs{x:V}[?aW](r:?bd):B22 u=?cA:=by cases x with| non=>cases r;rfl| bl _=>cases r;rfl| int _=>ext db;rfl| str _=>ext db;rfl| byt _=>ext db;rfl| flt _=>ext db;rfl| ref _=>cases r;rfl| ty _=>cases r;rfl
def RelV.inj{x y:V}[?aW](r:?bd)(q:?h1):x=y:=qa9 (r.abs.symm.trans q.abs)
def Vals.inj:∀[?ea][?a7],?bE->?a4 ys us->xs=ys| _,_,_,?M,?M=>rfl| _,_,_,?fD,?V r' t'=>by rw[?lB,Vals.inj t t']
section
variable{X:Cx}[?O][?aX][?ea]
def SqL.of[?aU](h:H a=?pM):?cQ:=?v ?gD
def SqT.of[?aU](h:H a=?iV):?av:=?v ?gD
def Bo.list[?j](h:?Az):∃its:?F,?Mi PlainL:=by rcases h with h|⟨o,its,n,hk,hc,hd,hs,hz,r⟩;{let ?ia:=?Cq;exact#[its,r,#[_,n,e,?g,?g,?g],z]};apply#[?ns,r,#[o,n,?zJ,hc,hd,?z4],?_];have e:=r.length;simp only[qx1]at e;ext d
def Bo.tuple[?j][?tF]:∃its:?F,?Mi ?gH:=by rcases h with h|⟨o,its,n,hk,hc,_,hs,hz,r⟩;{let#[z,its,r,p]:=?Cq;exact#[its,r,p.tup,z]};apply#[?ns,r,#[o,?zJ,hc,n,?z4],?_];have e:=r.length;simp only[qx1]at e;ext d
def Bo.list_inj[?j](h:?Az)(h':?uo):xs=ys:=by
 let(?Lu r #[o,n,e,_,_,d]):=?az h;let(?Ll _):=?az h';ext Hq
 subst this;exact ?lB
def Bo.tuple_inj[?j][?tF](h':SqT ?t H a ys):xs=ys:=by
 let(?Lu r #[o,e,_,n,d]):=?ax h;let#[?d8,r',#[o',e',_,n',d'],_]:=?ax h';ext Hq
 subst this;exact ?lB
universe e9
noncomputable abbrev Cx.wish(X:Cx)[?i8]:Cx:={ X with xe:=E }
noncomputable abbrev Cx.nox(X:Cx):Cx:=X.wish ?dq
def Cx.Ok.wish{X:Cx}(ok:X.Ok)[?i8]:?tl :=?zs
def Cx.Ok.unwish{X:Cx}[?aE](ok:?tl):X.Ok :=?zs
section
variable{X:Cx}[?O][?aE]
def Bo.wish[?j][?i8]:?zD:=(?Jo (I.ok.wish E) ?fe)
def Bo.unwish(I:?zD):?T:=(?Jo I.ok.unwish ?fe)
def SP.unwish{D:Ends}{f:Flow}{s':Shared}(h:SP ?pl Ag D f s'):?O1 SP D f:=by cases f with| next=>ext so| brk=>ext so| cont=>ext so| ret u=>let#[v,σ',H',I,r,q]:=h;exact#[v,σ',H',?FC,r,q]
def nQ.nox{st:?d4}{t:TS}(h:nQ X.nox st t):nQ X st t:=λAg s σ H D I hw =>qn7 (?Nm D (I.wish _)) (λ_ _ q=>q.unwish) λ_ _ z=>?cR z
universe e9
section
variable{X:Cx}{st:Stmt}{rest:?d4}{t u:TS}[?mD][?aF]
abbrev Ay4:TS:=λD σ H=>?bb
abbrev At(t u:TS):TS:=λD σ H=>t ?Bk σ H
def Bn:nQ X [] Ay4:=λ_ _ σ H _ I h=>qx2 ?Ah
set_option tactic.hygienic true in def Ae(h1:?AK)(h2:nQ X rest u):nQ X (st::rest) (At t u):=by ext cI;apply ?OV ?Bk;cases f with| next =>let(?MZ I'):=q;exact h2 Ag s1 σ' H' D I' q| ret v=>exact q| brk=>exact q| cont=>exact q
def Ai(h1:?AK):nQ X [st] t:=by ext cI;apply ?OV D;cases f with| next=>exact qx2 q| ret v=>exact q| brk=>exact q| cont=>exact q
def Bo.quiet[?O][?j]:interactive ?p=false:=by simp[interactive,I.ok.kind]
abbrev Ay7(te:TE):TS:=?K9 te (λ_ H1=>?tR)
def Bt[?eZ](hs:?Ks (?Np e ?aM)):PS X (.Expr e ?m) (Ay7 te):=by ext cI;exact wpAny_Expr_any (Eh ?jb λv s1 ?fg=>#[σ,H1,I1,q1]) I.quiet hs
abbrev Bm3(te:TE):TS:=?K9 te D.rt
def Bd[?eZ]:PS X (.Return ?xD ?m) (Bm3 te):=by ext cI;exact wpAny_Return_some (?KS ?jb #[x,σ,H1,I1,r1,q1])
abbrev WE(c:TT)(t u:TS):TS:=?K9 c (λb H1=>if ?h4 then t D σ H1 else u D σ H1)
def Cc{c:Expr}{a b:?d4}{tc:TT}(hc:?Cr)(ha:nQ X a t)(hb:nQ X b u):PS X (.If c a b ?m) (WE tc t u):=by ext cI;apply wpAny_If ?FA;let ?d2:=_z;cases d with| true=>exact ?JS ha D| false=>exact ?JS hb D
abbrev Ae6:TS:=?fU
def N6:PS X st Ae6:=λ_ _ _ _ _ _ h=>h.elim
universe e9
noncomputable abbrev TG:=V->?ND ?P
noncomputable abbrev vY:=?z->?ND ?P
abbrev PG(X:Cx)(target:Expr)(t:TG):Prop :=∀[?a5] (v:V) [?cN] (Q:?P),?T->?bv->t v σ H Q → ?JF (?f1 target ?p u) ?BF
abbrev PGs(X:Cx)(ts:?df)(t:vY):Prop :=∀[?a5] [?bi] [?cJ] (Q:?P),?T->?eH->t vs σ H Q → ?k ?u ?q (assignInOrder ((?kK ts ?p).map (·.2)) us) ?BF ?y s
noncomputable abbrev Aq4:=?O6 V
abbrev Bd4(X:Cx)(t:Aq4):Prop :=∀[?a5] (o i v:V) (ov iv u:Value) (Q:?aN),?T->?bZ o ov->?bZ i iv->?bv->t o i v H Q → ?JF (setItem ov iv u) (λ_ s'=>?vV)
section
variable{X:Cx}[?aF]
abbrev CZ(i:Nat):TG:=λv σ H Q=>Q ?Cw H
def xA[?da][?lh][?eS]:?wv:=by intro Ag s σ H v u Q I r h;exact ?DP (GJ I hN hi hx r (λs' I'=>#[_,H,I',h]) hf)
def An[?da](hN:X.N.Nodup)[?I5][?eS]:?wv:=xA hN hi hx hf
structure Be2[?bi][?t2]:Prop where
 mk::(left:?ke) (right:Q σ H)
abbrev B04:vY:=λvs σ H Q=>Be2 vs σ H Q
inductive VN(t:TG)(u:vY)[?bi][?t2]:Prop| mk:∀v r,?HC->(t v σ H λσ' H'=>u r σ' H' Q)->?vT
abbrev Ba6(t:TG)(u:vY):vY:=λvs σ H Q=>?vT
def Dr:PGs X [] B04:=by intro Ag s σ H vs us Q I r h;let#[e,h]:=h;subst e;cases r;exact assignInOrder_nil ?Ah
def Bi{e:Expr}[?aT]{t:TG}{u:vY}(h1:PG X e t)(h2:PGs X es u) (hs:?r ((?kK ?cl ?p).map (·.2)=?f1 e ?p::(?q5).map (·.2)) ?D):PGs X ?cl (Ba6 t u):=by intro Ag s σ H vs us Q I r h;let#[v,vr,e1,h]:=h;subst e1;cases r with| cons r rr =>rw[hs];apply assignInOrder_cons (Eh (h1 Ag s σ H _ _ _ I r h) λ_ s1 _z=>?_);let#[σ1,H1,I1,q1]:=_z;exact h2 Ag s1 σ1 H1 _ _ Q I1 rr q1
inductive Ac3[?i](n:Nat)(t:vY)(v:V)[?t2]:Prop| mk:∀a xs,?ei->?av->(xs.length=n)->(t xs σ H Q)->?CT
abbrev Ba4[?i](n:Nat)(t:vY):TG:=λv σ H Q=>?CT
def Ag8[?aT]{k:Nat}{t:vY}{n:Nat}[?bH](h:?BL) [?IU] (hst:?r (?wW (·.1)=none) ?D):?Mh ?t:=by intro Ag s σ H v u Q I r hw;let#[a,xs,e1,hq,hl,hw]:=hw;subst e1;cases r;let(?Lt rv ht):=?dn;apply assign_Tuple_tuple ?c5 ht (by simp[hn,←hl,rv.length]) hst λh' hx=>?_;have I1:?ot:=?gd (t':=s.toks) (?NR (hx b o ?jH e));exact h Ag _ σ H xs _ Q I1 ?wl hw
abbrev B03(to ti:TE)(t:Aq4):TG:=λv σ H Q=>to σ H λo H1=>ti σ H1 λi H2=>t o i v H2 λH3=>Q σ H3
def Kk{o i:Expr}{to ti:TE}{t:Aq4}(ho:?Gl)(hi:?KG i ti)(hs:Bd4 X t)
 (ha:?r (∀v,?f1 ?E8 ?p v=(do
   let ov ←?hp [v] ?gv
   let iv ←?hp [v,ov] (?NL i)
   ?rB ?m
   ?hp ?EE (setItem ov iv v)
   release ?EE [])) ?mO):PG X ?E8 (B03 to ti t):=by
 intro Ag s σ H v u Q I r h;rw[ha];apply ?Nl qt6 (Eh ?CR λov s1 _z=>?_);ext bF;apply ?Nl qt6 (Eh (?JS hi _) λiv s2 _z=>?_);let ?iy:=_z;apply ?Nl ?oy (qa8 (qt6 (Eh (hs Ag s2 σ H2 x y v ov iv u _ I2 r1 r2 r q2) λ_ s3 _z=>?_)));let ?tQ:=_z;exact wpAny_release #[σ,H3,I3,q3]
abbrev wG(te:TE)(g:TG):TS:=?K9 te (λx H1=>g x σ H1 ?fP)
def Kj{tg e:Expr}{te:TE}{g:TG}[?eZ](hg:?tN)(hs:?Ks (swapsWithSole [tg] e ?iW ?p=?iN))(hw:?Ks (swappedStores [tg] e ?p=?aA ?aM)) (h1:?r ((?kK [tg] ?p).map (·.2)=[?f1 tg ?p]) ?D):?Lo tg g:=by ext cI;apply wpAny_Assign_stores ?nK hs hw;ext bF;rw[h1];exact Eh (?OQ hg _) λ_ s2 q=>q
def Ag5[?da][?mD]{pos':Pos}[?lh][?eZ][?I6][?eS] : ?BE:=by ext cI;apply wpAny_Assign_Name ?nK hs;let(?LB y r1):=_z;exact GJ I1 hN hi hx r1 (λs2 I2=>#[_,H1,I2,q1]) hf
def Ap[?da][?mD]{pos':Pos}(hN:X.N.Nodup)[?eZ][?I5][?I6][?eS]:?BE:=Ag5 hN hi hx he hs hf
universe e9
section
variable{X:Cx}[?aF]
abbrev Ae4(c:TT)(tb:TS):TS:=λD σ H=>∃W:?jA,(∃m,?DZ)/\∀m σ H,?DZ → c σ H λb H1=>if ?h4 then ∃N:?P,(?Ns (W m' σ' H'))/\tb ?Ae σ H1 else ?tR
set_option tactic.hygienic true in
def U5{c:Expr}{body:?d4}{tc:TT}{tb:TS}[?It](hc:?Cr)(hb:?Ce):PS X (.While c ?fL [] ?m) (Ae4 tc tb):=by
 intro Ag s σ H D I h;let#[W,#[m0,w0],turn]:=h;apply wpAny_While (codeAny_whileLoop (λn s'=>∃σ' H',Bo X Ag σ' H' s'/\W n σ' H') ?_ m0 #[σ,H,I,w0]);rintro n s1 ⟨σ1,H1,I1,w1⟩;apply qp1 hp (Eh (hc Ag s1 σ1 H1 _ I1 (turn n σ1 H1 w1)) λb s2 _z=>?_);let#[H2,I2,q2]:=_z;cases b with
 | true =>
   let#[N,hN,q2]:=q2;rw[if_pos rfl];apply qp1 hp (Eh (hb Ag s2 σ1 H2 _ I2 q2) λf s3 q3=>?_);cases f with
   | next =>
     ext Hz
   | cont =>
     ext Hz
   | brk=>exact q3
   | ret v=>exact q3
 | false =>
   rw[?L qf1];exact qx2 #[σ1,H2,I2,q2]
universe e9
structure It where
 go:?FH
 yld:Nat->Hp->?hd
 stop:?FH
abbrev Nt[?bf](H:Hp)(b:Addr):Prop :=?aC/\?eq/\?kn/\?yP/\?Fr
def Bo.fpOk[?mK]{σ:St}[?cr][?aL]{b:Addr}[?j](hb:?BM)(hn:?j2):?za:=by apply#[hn,qo0 (qb6 I.lt hb),I.nofs hb,?n (qa5 I.sz hb),λx c e z=>?_,λp hp z=>?_];{let#[v,q]:=?jZ;exact ?Jy q.lt ?DI};exact ?Jy (qc1 (?jI).1) ?DI
structure Xi[?dY][?i](tg:Expr)(J:It)[?mE](it:Addr)(tn:?kg):Prop where
 mem:it∈fp
 obj:∀i h,tn i h->∀b∈fp,?x0
 keep:∀i h h',tn i h->(∀b∈fp,∀o,?c9->?jX)->tn i h'
 item:∀(X:Cx),?Fp->X.w=w->?pn->?jh->∀(i:Nat) [?a5] [?i8],?T->?p2->?r3->?oP →
  ?k ?dp ?q ?Bq (λr s1=>∃u,r=?aB ∧
   ?k ?dp ?q ?xR (λ_ s2=>?My (J.yld i H) (tn ?R ?nd)) E s1) E s
 done:∀(X:Cx),?Fp->X.w=w->?pn->?jh->∀(i:Nat) [?a5] [?i8],?T->?p2->?r3->?pp →
  ?k ?dp ?q ?Bq (λr s1=>r=none/\?JG H s1) E s
 self:∀(A:Around) (i:Nat) [?i0],?r3->Q ?cd s->?JL ?dp (?rV ?cd)
noncomputable abbrev TI:=?ND ?jU
abbrev PIE[?bf](σ:St)(tg:Expr)[?m8](itv:Value)(s2:Shared):Prop :=∃(it:Addr) (fp:?am) (tn:?kg) (J:It) (H':Hp),itv=?cd/\?y1/\?yl/\tn 0 ?nd/\?wZ/\R J H'
abbrev PI(X:Cx)(tg iter:Expr)(wi:TI):Prop :=∀[?a5] [?m8],?T->wi σ H R → ?JF ?zF (λv s1=>?k ?u ?q (?rV v) ?Aa ?y s1)
def iK{M:Model}[?S][?aE][?aL]{tg:Expr}{it:Addr}[?aW]{o:Obj}{n:String}{vs:?bP}[?i9](ho:?xw)(hc:o.cls=?s6)(hd:o.data=?f0 vs) (hn:?JJ n=false) (hQ:Q () s):?JL M ?xR:=by unfold letOwnedTupleGo;cases tg<;>first| exact ?ny| (cases u<;>first| exact ?ny| (apply qa8 (wpAny_load ho ?_);rw[hc,hd];show ?k M A (if ?NS (?JJ n&&vs[0]?==?h (rawInt _)) then _ else _) Q E s;rw[?L (by intro h;rw[hn,Bool.false_and]at h;cases h)];exact ?ny))
abbrev Itl[?i][?ar]:It :=#[?Kg ?cQ,?LG ?cQ,?Kx ?cQ]
abbrev Itt[?i][?ar]:It :=#[?Kg ?av,?LG ?av,?Kx ?av]
abbrev yU(lo:Int)(n:Nat):It:=#[λi _=>i<n,λi H x H'=>H'=H/\x=?gx,λi _=>n<=i]
def oB[?be]{tg:Expr}(a it:Addr):?K7 ?dl ?yE where
 mem:=?w
 obj:=λi h st b hb=>by
  ext lo
  ext ID
 keep:=?HB
 item:=by
  ext cD;ext I4;ext eU;apply wpAny_pyNext_list_item st ?aD (x:=u) ?lN ?yN;ext Hh;exact(?K1 ?to)
 done:=by
  ext cD;ext Ib;ext eU;have hl:=rv.length;exact wpAny_pyNext_list_end ?c5 st ?aD ?hV ?po
 self:=?K6 wpAny_pyIter_listiter st
def JK[?be]{tg:Expr}(a it:Addr):?K7 ?dw (h.IsTupleIter it a i) where
 mem:=?w
 obj:=λi h st b hb=>by
  ext lo
  ext ID
 keep:=?HB
 item:=by
  ext cD;let ?u2:=hg;let ?f4:=?dn;let ?en:=?fk hx;ext eU;apply wpAny_pyNext_tuple_item st ?yB (x:=u) ?lN ?yN;ext Hh;exact(?K1 (?NN ?Dh))
 done:=by
  ext cD;let ?wB:=hg;let ?f4:=?dn;ext eU;have hl:=rv.length;exact wpAny_pyNext_tuple_end ?c5 st ?yB ?hV ?po
 self:=?K6 wpAny_pyIter_tupleiter st
def jL[?be]{tg:Expr}(it:Addr)(lo:Int)(n:Nat):?K7 ?ep (?vo h it (lo+(i:Nat)*1) (?b6-(i:Nat)) 1) where
 mem:=?w
 obj:=λi h st b hb=>by
  ext lo
  subst e
  exact#[_,st,λv z=>by
   have z':?mS:=z;cases z']
 keep:=λi h h' st k=>k it ?w _ st
 item:=by
  ext cD;ext eU;have W:=Walks.range (prog:=X.prog) (w:=X.w) ?c5 it lo 1 n;apply W.item i s _ _ hg st λv h' tk hv st' kk=>?_;let ?bn:=hv;have I1:?HA:=?jv (?O5 (kk b o ?fE e)) f0 f1 f3 f4 f5;apply#[_,?g,iK (s:=?wC) (n:="range_iterator") st' ?g ?g ?aQ #[?gx,H,I1,#[t,?_],?tV,st',?io]];rw[ql7]
 done:=by
  ext cD;ext eU;exact wpAny_pyNext_range_end ?c5 st (by have:n<=i:=hg;ext d) ?po
 self:=?K6 wpAny_pyIter_rangeiter st
section
variable{X:Cx}{tg:Expr}
inductive VL[?i][?m8](x:V)(H1:Hp):Prop| mk:∀a,?bX->?p9->?MC ?dl ?yJ
abbrev zU[?i](tl:TE):TI:=?LZ ?yJ
inductive Ac2[?i][?m8](x:V)(H1:Hp):Prop| mk:∀a,?bX->((∃xs,SqT K H1 a xs))->?MC ?dw ?GO
abbrev A58[?i](tl:TE):TI:=?LZ ?GO
def wZ{l:Expr}{tl:TE}[?mG]:?Km zU ?t:=by
 ext g0;ext Ir;ext bF;let ?GC:=q1;subst e;cases r1;let ?f4:=?kG hq;apply qp5 ?aD ?_;apply(?Kn oB);ext Ih
 ext sk
def Ag7{l:Expr}{tl:TE}[?mG]:?Km A58 ?t:=by
 ext g0;ext Ir;ext bF;let ?GC:=q1;subst e;cases r1;let ?f4:=I1.tuple hq;apply qo8 (?Mn s1.heap.IsTuple) ?_;apply(?Kn JK);ext Ih
 ext sk
def HA[?O]{R:?jU}[?aE]{lo hi:Int}{t u v:Tok}{tk:Nat}[?j](h1:-?c2<=lo)(h2:lo<?c2)(h3:-?c2<=hi)(h4:hi<?c2) (q:R (yU lo ?r0) H):?k ?u ?q (?rV ?ad) ?Aa E ?zB:=by apply wpAny_pyIter_range (IsRange.new ..) (small_one h1 h2 h3 h4) ?_;have I1:?JG H ?zB:=?gd ?kX;apply#[?nQ,[?nQ],_,_,H,?g,?ow (t':=tk) ?kX,jL _ lo ?r0,?_,?de,q];{(have e1:?zn=lo:=?w);(have e2:?HS=Builtin.Range.rangeSize lo hi 1:=by rw[rangeSize_one];split<;>ext d);show ?vo _ _ ?zn ?HS 1;rw[e1,e2];exact ?dh};(have e:b=?nQ:=?fE);ext sk
inductive vL[?ln]:Prop| mk:∀j:Int,(vs=[?o j])->?ww->(j<?c2)->?MC (yU 0 j.toNat) ?B5
abbrev A60(ta:TA):TI:=?Ja ?B5
inductive vK[?ln]:Prop| mk:∀i j:Int,(vs=?rF)->((-?c2<=i/\i<?c2/\?ww/\j<?c2))->?MC (yU i (j-i).toNat) ?HF
abbrev A59(ta:TA):TI:=?Ja ?HF
def Cf{a:Expr}[?IW](ha:?Bm)[?IJ]:?Nu [a] A60:=by ext g0;apply ?KO ?Cf ?H6;let ?jc:=_z;let#[j,e,q1,q2,q]:=q1;subst e;cases r1 with| cons r rr =>cases rr;ext db;exact call_range_1 (HA I1 ?l ?l q1 q2 (by simpa using q))
def cI{a b:Expr}[?IW](ha:?tL)[?Hi] : ?Nu ?bD A59:=by ext g0;apply ?KO ?Cf ?zg;let#[i,j,e,#[q1,q2,q3,q4],q]:=q1;subst e;cases r1 with| cons r rr =>cases rr with| cons r' rr =>cases rr;ext db;let ?my:=r';exact call_range_2 (HA I1 q1 q2 q3 q4 q)
abbrev Bm7(wi:TI)(g:TG)(tb:TS):TS:=?K9 wi (λJ H1=>∃W:?dM,(∃m,W 0 m σ H1)/\∀i m σ H,?dL → (?pp/\?bb)\/(?oP/\∃N:?P,?dK/\∀x H',?HJ->?dI))
abbrev f6[?mE][?bJ]:Bl:=fp.filterMap λb=>(?ha).map λo=>?lG
def Pb[?cK][?ae][?g7](hb:b∈fp)(e:?c9):?lG∈f6 fp h:=List.mem_filterMap.mpr #[b,hb,by rw[e];rfl]
def oY[?cK][?ae]{p:?Dj}(hp:p∈f6 fp h):p.1∈fp/\?c0 p.1=?h p.2:=by let#[b,hb,e]:=List.mem_filterMap.mp hp;cases q:?ha with| none=>rw[q]at e;cases e| some o =>rw[q]at e;have e':?lG=p:=qa9 e;subst e';exact#[hb,q]
def Bo.pinned[?O][?cK][?j][?eX](ho:?uL):?Ld X (Ag++f6 fp ?H) :=?uk (?OA ?wH (λz=>by let#[hb,e]:=oY z;let#[f0,f1,f2,_]:=hf p.1 hb;let#[o,e',d]:=ho p.1 hb;rw[e]at e';cases e';exact#[e,f0,f1,f2,d]))
def Bo.unpinned{Ag pl:Bl}[?bI][?aL](I:?Ld X (Ag++pl)):?T:=?uk λp hp=>?fe p (qg7 _ (qp0 _ hp))
def Cb{iter:Expr}{body:?d4}{wi:TI}{g:TG}{tb:TS}[?aF][?It][?bH](hi:?Ey)(hg:?tN)(hb:?Ce) [?si]:PS X (.For tg iter ?fL [] ?m) (Bm7 wi g tb):=by ext cI;apply wpAny_For ?qB hs;let#[it,fp,tn,J,H2,e,I2,T,st2,f2,W,?AW,turn]:=h2;subst e;have JN:∀{H':Hp},?eB->?wZ:=?Mk ((f2 b hb).2);apply codeAny_forLoop_any (λn s'=>∃i σ' H',?Gz/\?AN/\?eB/\W i n σ' H') ?_ m0 #[0,σ,H2,I2,st2,?Lm ((f2 b hb).1),w0];rintro n s3 ⟨i,σ3,H3,I3,st3,vW,w3⟩;rcases turn i n σ3 H3 w3 with⟨stop,qn⟩|⟨go,N,hN,step⟩;{apply ?Ju T.done stop;let ?DE:=_z;subst hr;exact qx2 #[σ3,H3,I4,qn]};apply ?Ju T.item go;let ?Em:=_z;subst hr;apply qp1 hp (Eh h4 ?EV);ext I2;apply qp1 hp (Eh (?LL σ3) ?zt);let#[σ6,H6,I6,q6]:=_z;apply qp1 hp (Eh (hb _ s6 σ6 H6 _ I6 q6) λf s7 q7=>?_);(have again:∀{σ7:St}{H7:Hp},Bo X (Ag++?xt) σ7 H7 s7->N σ7 H7->∃m,m<n/\∃i σ' H',Bo X Ag σ' H' s7/\?yj/\?eB/\W i m σ' H':=λ{σ7 H7} I7 n7=>by let ?yD:=hN σ7 H7 n7;apply#[m',hm,?R,σ7,H7,?jB,?y7,?de,w7];ext Hv);cases f with| next=>let ?vl:=q7;exact ?xO| cont=>let ?vl:=q7;exact ?xO| brk=>let#[σ7,H7,I7,q7]:=q7;exact#[σ7,H7,?jB,q7]| ret v=>let#[x7,σ7,H7,I7,r7,q7]:=q7;exact#[x7,σ7,H7,?jB,r7,q7]
universe e9
def for_list[?dU][?hz][?Ie] [?Hj] : ∃W:?dM,?N9 ?dl ?dl ?dl:=?BT
def YE[?dU][?hz](hl:?K2 ?dJ ?av) [?Hj] : ∃W:?dM,?N9 ?dw ?dw ?dw:=?BT
def Ck{lo:Int}{n:Nat}[?hz] (hs:∀i σ H,i<n->?bM->g ?gx σ H ?ic) (hd:?v7) : ∃W:?dM,?N9 ?ep ?ep ?ep:=by ext IA;rintro i m σ H ⟨rfl,hi,p⟩;by_cases hlt:i<n;{apply ?Jk hlt ?GK;let ?j6:=y;subst e y;exact hs i σ _ hlt p};ext m0;exact ?v #[?W,?G0]
noncomputable abbrev R2:=V->?gC
abbrev Uo(X:Cx)(f:?BZ)(r:R2):Prop :=∀[?a5] (x y:V) (v u:Value) (Q:VK),?T->?d1->?Nj ?h1 ?xa ?oL
abbrev UnR(X:Cx)(f:?mT)(r:?gC):Prop :=∀[?a5] (x:V) (v:Value) (Q:VK),?T->?Nj ?d1 (r x H Q) (f v)
abbrev Fl(X:Cx)(f:Value)(r:?bs):Prop :=∀[?a5] [?aK] [?cJ] (Q:VK),?T->?Nj ?bE ?Cx (call f us)
abbrev tOp(r:R2)(ta tb:TE):TE:=?JE ta (?Ne (r x y H2 Q))
abbrev tUn(r:?gC)(ta:TE):TE:=?JE ta (r x H1 Q)
inductive IrI(C:?mp)[?mC][?bG]:Prop| mk:∀i j,?jM->?ue->(C i j)->?wT->?Fg
abbrev rI(C:?mp)[?mC]:R2:=?JU ?Fg
inductive Be1[?mC][?bG]:Prop| mk:∀i j,?jM->?ue->?wT->?wR
abbrev rI0[?mC]:R2:=?JU ?wR
inductive IrU(g:?mh)(x:V)[?b0]:Prop| mk:∀i,?jM->(Q ?hN H)->?xd
abbrev rU(g:?mh):?gC:=λx H Q=>?xd
section
variable[?J6][?aF]
def Aq2[?eW]{Ag:Bl}[?aL][?bI]{R:V->?hd}[?j] (h:ta σ H λx H1=>?Ne ?uD) [?cH][?lw] (hf:∀v u s2 x y H2,?JG H2 s2->?d1->?h1->?uD->?KN ?oL ?y s2) : ?JF ?FS (λv s₁=>?k ?u ?q ?GR (λu s₂=>?k ?u ?q ?oL Q ?y s₂) ?y ?bu):=by apply ?kl;ext bF;apply Eh ?nz λu s2 _z=>?_;let ?iy:=_z;exact hf v u s2 x y H2 I2 r1 r2 q2
def Bh{op:Operator}{r:R2}(ho:Uo X (?eE op) r)[?eW]:?KG (.BinOp a op b ?m) ?ks:=?NI wpAny_BinOp ?x8
def N7{op:UnaryOp}{r:?gC}(ho:UnR X (unaryOp op) r)[?mF]:?KG (?C4 op a ?m) (tUn r ta):=?NI ?z3 (?KS ?ev (?OQ ho Q))
def opI[?lw]{C:?mp}{g:?E4} (rule:∀[?tD] [?i0],C i j->?x5) : Uo X f (rI C ?FV):=by ext cG;let#[i,j,?g,?g,hc,q]:=h;ext eY;ext A;exact rule i j t t' s _ _ hc ?GA
def A31[?lw]{g:?E4} (rule:∀[?tD] [?i0],?x5) : Uo X f (rI0 ?FV):=?Jq ?GA
def Ah6[?lw]{g:Int->?E3} (rule:∀[?tD] [?i0],Q (?cS ?dx) s->?xE) : ?Jr f (.bl ?dx):=?Jq (?O0 (.bl ?dx) q)
abbrev B92(i j:Int):Prop:=0<j/\?v4
abbrev Ar9(i j:Int):Prop:=(-?fS<i/\i<?fS)\/(-?fS<j/\j<?fS)
def Ar9.ok{i j:Int}(h:Ar9 i j):?nf:=by rcases h with⟨h1,h2⟩|⟨h1,h2⟩;{exact .of_left ?tU};exact .of_right ?tU
def Df:?Jr ?ek (?o (i+j)):=?Jh A31 add_int
def Jf:?Jr (?eE .Sub) (?o (i-j)):=?Jh A31 sub_int
def O9:?L1 (?eE .FloorDiv) B92 (i / j):=?M4 (by have h1:?gu<j:=hc.1;have h2:?v4:=hc.2;exact floordiv_int ?l (?O3 qg4) (?v (PyProof.noPylong_small ?l)))
def Fq:?L1 (?eE .Mod) (λ_ j=>0<j) (i%j):=?M4 (by have h1:?gu<j:=hc;exact mod_int' ?l (?O3 Int.fmod_eq_emod_of_nonneg))
def unI{f:?mT}{g:?E7} (rule:∀(i:Int) (t:Tok) [?i0],Q (?o ?hN ?hG) ?ew->?KN (f ?gK) E s) : ?N0 f ?hN:=by intro Ag s σ H x v Q I rx h;let ?Cy:=h;ext eY;exact rule i t s _ _ (?Nr (?o ?hN) q)
def Iy:?N0 (unaryOp .USub) (-i):=unI λ_ _ _ _ _ q=>neg_int q
universe e9
abbrev scal:V->V->?c3| ?J,?J=>true | ?J,?cZ=>true | ?cZ,?J=>true | ?J,?dA=>true | ?dA,?J=>true | ?J,?bY=>true | ?bY,?J=>true| ?cZ,?cZ=>true | ?dA,?dA=>true | ?bY,?bY=>true | .byt _,.byt _=>true| ?cZ,?bY=>true | ?bY,?cZ=>true | ?dA,?bY=>true | ?bY,?dA=>true| _,_=>false
structure B85[?bG]:Prop where
 mk::(left:?yp) (right:?NE ?vh)
abbrev rEq:R2:=?JU (B85 x y H Q)
structure B84[?bG]:Prop where
 mk::(left:?yp) (right:?NE (! ?vh))
abbrev rNe:R2:=?JU (B84 x y H Q)
def NC{i j:Int}:?MX i j=?pt:=?pr
def uN{i j:Bool}:?B (V.bl i=V.bl j)=?pt:=?pr
def NB{i j:Str}:?B (V.str i=V.str j)=?pt:=?pr
def ND{i j:?AI}:?B (V.byt i=V.byt j)=(i.toList==j.toList):=by rw[qn1];cases i;cases j;simp
section
variable[?J6][?aF]
def C4[?O]{Q:VK}{k k':Bool}[?j](q:Q ?lc H)(e:k=k'):?Je (?cS k') s:=by subst e;exact(?O0 ?lc q)
def Er:Uo X (?c8 .Eq) rEq:=by
 intro Ag s σ H x y v u Q I rx ry h;let#[hs,q]:=h;cases x with
 | non =>
   cases rx;cases y with
   | non=>cases ry;exact PySem.EqNone.eq_none_none ?Z
   | bl j=>cases ry;exact PySem.EqNone.eq_none_bool ?Z
   | int j=>ext A;exact PySem.EqNone.eq_none_int ?Z
   | str j=>ext A;exact PySem.EqNone.eq_none_str ?Z
   | _=>ext cE
 | bl i =>
   cases rx;cases y with
   | non=>cases ry;exact PySem.EqNone.eq_bool_none ?Z
   | bl j=>cases ry;exact ?O2 eq_bool uN
   | str j=>ext A;exact PySem.EqMixed.eq_bool_str ?Z
   | _=>ext cE
 | int i =>
   let#[t,rfl]:=rx;cases y with
   | non=>cases ry;exact PySem.EqNone.eq_int_none ?Z
   | int j=>ext A;exact ?O2 eq_int NC
   | str j=>ext A;exact PySem.EqMixed.eq_int_str ?Z
   | _=>ext cE
 | str i =>
   let#[t,rfl]:=rx;cases y with
   | non=>cases ry;exact PySem.EqNone.eq_str_none ?Z
   | bl j=>cases ry;exact PySem.EqMixed.eq_str_bool ?Z
   | int j=>ext A;exact PySem.EqMixed.eq_str_int ?Z
   | str j=>ext A;exact ?O2 eq_str NB
   | _=>ext cE
 | byt i =>
   let#[t,rfl]:=rx;cases y with
   | byt j=>ext A;exact ?O2 PySem.W.eq_bytes ND
   | _=>ext cE
 | _=>ext IP
def Ku:Uo X ?rl rNe:=by
 intro Ag s σ H x y v u Q I rx ry h;let#[hs,q]:=h;cases x with
 | non =>
   cases rx;cases y with
   | non=>cases ry;exact PySem.EqNone.ne_none_none ?Z
   | bl j=>cases ry;exact PySem.EqNone.ne_none_bool ?Z
   | int j=>ext A;exact PySem.EqNone.ne_none_int ?Z
   | str j=>ext A;exact PySem.EqNone.ne_none_str ?Z
   | _=>ext cE
 | bl i =>
   cases rx;cases y with
   | non=>cases ry;exact PySem.EqNone.ne_bool_none ?Z
   | bl j=>cases ry;exact ?KB ne_bool uN
   | str j=>ext A;exact PySem.EqMixed.ne_bool_str ?Z
   | _=>ext cE
 | int i =>
   let#[t,rfl]:=rx;cases y with
   | non=>cases ry;exact PySem.EqNone.ne_int_none ?Z
   | int j=>ext A;exact ?KB ne_int NC
   | str j=>ext A;exact PySem.EqMixed.ne_int_str ?Z
   | _=>ext cE
 | str i =>
   let#[t,rfl]:=rx;cases y with
   | non=>cases ry;exact PySem.EqNone.ne_str_none ?Z
   | bl j=>cases ry;exact PySem.EqMixed.ne_str_bool ?Z
   | int j=>ext A;exact PySem.EqMixed.ne_str_int ?Z
   | str j=>ext A;exact ?KB ne_str NB
   | _=>ext cE
 | byt i =>
   let#[t,rfl]:=rx;cases y with
   | byt j=>ext A;exact ?KB PySem.W.ne_bytes ND
   | _=>ext cE
 | _=>ext IP
def U8:?Jr (?c8 .Lt) (.bl (?B (i<j))):=?Jh Ah6 lt_int
def MM:?Jr (?c8 .LtE) (.bl (?B (i<=j))):=?Jh Ah6 le_int
def HF:?Jr (?c8 .Gt) (.bl (?B (j<i))):=?Jh Ah6 gt_int
def Ah5:Uo X (?c8 .Is) (?JU (y=?J/\?NE (?B (x=?J)))):=by ext cG;let#[?g,q]:=h;cases ry;apply ?O2 is_none_gen ?_;cases x<;>first| (cases rx;rfl)| (ext eY;rfl)
def Bm(b:Expr){op:CmpOp}(h:?r ?yW ?fF)(h2:?r ?vA ?fF):?rZ:=by
 ext I1
 ext Hx
 cases b<;>simp[behindInMarks,e1,e2]
def Mp{op:CmpOp}{r:R2}[?t4][?eW][?JB]:?KG ?u1 ?ks:=by ext Y;exact wpAny_Compare1 ?x8 hm
inductive vC[?g3](x:V)(H':Hp):Prop| mk:∀k,(x=?lc)->(Q k H')->?Fb
abbrev Ay0(t:TE):TT:=?JK (λx H'=>?Fb)
def Bf{op:CmpOp}{r:R2}[?t4][?eW][?JB]:PT X ?u1 (Ay0 ?ks):=by ext Y;apply wpAny_isTrue_Compare1 (?KS ?ev (?Nv (λc s3 ?u0=>?_))) hm;subst e;cases r3;exact ql8 ?tQ
inductive NR(r':R2)(tc:TE)(σ:St)(Q:VK)(y:V)(z:V)(H3:Hp):Prop| mk:∀k,(z=?lc)->((if ?NS k then tc σ H3 λw' H4=>r' y w' H4 Q else Q ?j8 H3))->?GW
abbrev Af0(r r':R2)(ta tb tc:TE):TE:=?JE ta (?Ne (r x y H2 λz H3=>?GW))
def SK{op op':CmpOp}{r r':R2}[?t4](ho':Uo X (?c8 op') r')[?eW](hc:?KG c tc) (hm:lastMarks ?AJ ?kA=false:=by with_unfolding_all rfl):?KG (?AG a ?AJ ?kA ?m) (Af0 r r' ta tb tc):=by ext Y;apply Compare_chain (?KS ?ev (chain_link (?Nv (λd s3 ?u0=>?_)))) hm;subst e;cases r3;apply ?oc;cases k with| false=>exact ite_ff #[?j8,H3,I3,?g,q3]| true=>exact ite_tt (chain_last (Eh (hc Ag s3 σ H3 _ I3 q3) λw' s4 #[z',H4,I4,r4,q4]=>ho' Ag s4 σ H4 y z' u w' Q I4 r2 r4 q4))
def ES:?oW<?eI:=?DS
def P6{x:V}[?a7](r:?w9):?zl:=by cases r with| cons r1 r2=>cases r2;exact#[_,?g,r1]
def gD{x y:V}[?a7](r:?a4 [x,y] us):∃u w',us=[u,w']/\?bd/\?bZ y w':=by cases r with| cons r1 r2 =>cases r2 with| cons r3 r4=>cases r4;exact#[_,_,?g,r1,r3]
def dJ[?bH]:?JQ ?zY (∃i j,xs=?rF/\?OB (if j > i then j else i)):=by ext dT;ext IK;apply max_two_ints ?c5 ?F8;by_cases hj:j > i;ext I0
def qL[?bH]:?JQ ?uc (∃i j,xs=?rF/\?OB (if j<i then j else i)):=by ext dT;ext IK;apply min_two_ints ?c5 ?F8;by_cases hj:j<i;ext I0
universe e9
structure LP[?bJ](x dx C:Addr)(mA:?bR):Prop where
 obj:?c0 x=?h ?nm
 ns:?p3
 ne:?mw
set_option tactic.hygienic true in def pC[?ae]{dx:Addr}[?tB](n:?p3):∃od,?c0 dx=?xM/\?Dw:=by let#[o,es,ep,ho,hd,hk,_,hm]:=n;apply#[o,ho,λname=>?_];have e:=hm ?aP;unfold nsFind findBy at e;rw[←Array.find?_toList]at e;unfold PySem.W.lookIn;rw[hd];dsimp only;split;{rename_i y q;rw[q]at e;exact ?CY};rename_i q;rw[q]at e;(have a:?AM (·.refKey)=false:=by rw[qx8];intro y hy;let#[z,t,hkey]:=hk y (Array.mem_toList_iff.mp hy);simp[DictEntry.refKey,hkey]);(have a':¬?AM (·.refKey)=true:=by rw[a];exact qf1);rw[?L a'];exact ?CY
def LP.look[?ae]{x dx C:Addr}[?tB](I:LP h x dx C mA):∃od,PySem.W.InstAt h x ?nm C ?xM/\?Dw :=
 let #[od,ho,hl]:=pC I.ns
 #[od,#[I.obj,?g,?g,ho],hl]
section
variable[?fz][?S][?aE][?aL][?aU]{x dx C f:Addr}[?tB]{name:Str}[?eg]
def yD{expr:Bool}[?cH][?IG][?J5] (ha:?D5=?he) (hv:?pB=?U) (hv':?ws v=true) (h:Q v ?ew) : ?JL ?b8 (?rk ?dv ?aP expr):=by let ?nt:=I.look;exact PySem.W.get_value X J (qw6 hg).1 (PySem.W.findObj_own hh ha ?g (by rw[hl,hv])) hv' h
def UG[?Ik][?IG] (hf:?D5=?l8) (ht:?mx) (hv:?pB=none) (h:Q (?bB,[?dv]) s) : ?JL ?b8 (?nA ?dv ?aP pl):=by let ?nt:=I.look;exact PySem.W.method_fn X J (qw6 hg).1 (qw6 hg).2 hf (qx6.mp ht) (by show(?CU).map (·.isSome)=?h ?bp;rw[hl,hv];rfl) h
def WL{ns:?X}[?i9](X:?gJ)(I:?Gh) (hs:?Jw K) (hp:?Ca) (ht:?w5 K C ?aP=?he) [?J5] (hw:?rX mA ns) (hsz:?Df) (h:∀h',LP h' x dx C (λy=>if y=name then ?U else mA y)->?gZ dx ?H h'->Q () { s with heap:=h',toks:=s.toks+2 }) : ?JL ?b8 (setAttr ?dv ?aP v):=by let ?nt:=I.look;apply PySem.W.set_plain X J hs (PySem.W.osa_open (s:=?ew) (r:=none) X J hp ht ?zZ);let#[cd,hc,hd']:=PySem.W.any_some hh;have hx:?af x=?h #[?ab,?h dx,.plain,#v[]]:=I.obj;apply ?Nl qd6 (qa8 (qa8 (wpAny_loadPart hx (qa8 (PySem.W.Looks.here (s:=?ew) (PySem.W.looks_clsIn X hc) ?_)))));rw[hd'];apply qd6 (a:=?h dx) (?Nl qd6 ?nS);apply wpAny_nsSet1 (s:=?ew) I.ns λh' hn2 hs2=>?_;let#[oD,esD,epD,hoD,hdD,hcD]:=hn2.count (PySem.Within.cons ?aP v hw);apply qa8 (wpAny_lookBehind hoD (by rw[hdD];exact pastItsLine_dict (qa5 hcD (by rw[qd5];ext d))) ?_);exact qd6 (h _ #[(hs2.2 _ (?fh I.ne)).trans I.obj,hn2,I.ne] hs2)
def tM{R:?rL}[?iB][?m1](X:?gJ)(hm:?vz) (hi:?OM ?l8) (hf:PySem.W.typeIn K ?bB=?h (?an "function")) (h:?dD ?b8 (?LJ vs) (?jd ?bB #[?K ?aR::vs,kw]) (PySem.W.InitBack ?aR R) ?yV) : ?dD ?b8 A (?jd ?ab #[vs,kw]) R s:=by let#[hh,g,d,t,os]:=s;exact PySem.W.make_core (PySem.W.makes_of X hm) (PySem.W.looks_findIn X hi) (λself=>PySem.W.bind_fn X self hf) ?ao h
universe e9
abbrev putF(f:Str)(v:V):?cP->?cP| []=>[(f,v)]| (g,x)::r=>if g=f then(g,v)::r else(g,x)::?CH
def As(f g:Str)(v:V):∀fs:?cP,(?oQ).lookup g=if g=f then ?U else ?id g| []=>by show List.lookup g [(f,v)]=_;by_cases h:g=f;{have hb:?NS ?yo:=qx6.mpr h;simp only[List.lookup,hb,?jY]};have hb:?LD ?yo:=ql6.mpr h;simp only[List.lookup,hb,?hZ]| ?jn=>by have ih:=As f g v r;ext sg;{rw[?fO];by_cases h:g=k;{have hb:?wI:=qx6.mpr h;simp only[List.lookup,hb,?Q (h.trans hk)]};have hb:?DN:=ql6.mpr h;simp only[List.lookup,hb,?L (λe:g=f=>h (e.trans hk.symm))]};rw[?dk];by_cases h:g=k;{have hb:?wI:=qx6.mpr h;simp only[List.lookup,hb,?L (λe:g=f=>hk (h.symm.trans e))]};have hb:?DN:=ql6.mpr h;simp only[List.lookup,hb];exact ih
def W2(f:Str)(v:V):∀fs:?cP,f∈?A8 (·.1)/\∀g,g∈?l1 (·.1)->g∈?A8 (·.1)| []=>#[?Be,λg h=>?dE]| ?jn=>by let#[i1,i2]:=W2 f v r;ext sg;{rw[?fO];subst hk;exact#[?w,λg h=>?q7]};rw[?dk];apply#[?_,λg h=>?_];{rw[qd2];exact ?Nx i1};rw[qd2]at h ⊢;ext t3;{exact qe4.mpr ?r5};exact ?Nx (i2 g e)
def Cg(f:Str)(v:V):∀fs:?cP,?Ka ?oQ (fs.length+1)| []=>?Be| ?jn=>by have ih:=Cg f v r;ext sg;{rw[?fO,qd5,qd5];ext d};rw[?dk,qd5,qd5];ext d
def Ol.some_of{v:V}{o:?hE}(r:Ol ?U o):∃u,o=?aB/\?bv:=by cases o with| none=>exact ?tb| some u=>exact#[u,?g,r]
def Ol.none_of{o:?hE}(r:Ol ?aM o):o=none:=by cases o with| none=>rfl| some u=>exact ?tb
def PV{v:V}[?aW][?dc]:?ws u=true:=by cases v with| non=>cases (?Jj ?lF);rfl| bl b=>cases (?Jj ?kP);rfl| int i=>let ?f2:=(?Jj ?B1);cases e;rfl| str x=>let ?f2:=(?Jj ?vW);cases e;rfl| byt b=>let ?f2:=(?Jj ?xe);cases e;rfl| flt b=>let ?f2:=(?Jj ?EJ);cases e;rfl| ref a=>cases (?Jj ?hu);rfl| ty n=>cases (?Jj (u=Value.type n));rfl
section
variable[?m5][?cr]{h h':Heap}{a C dx:Addr}{fs fs':?cP}
def EX(hok:?n0)(e:H a=?it):∃mA,LP h a dx C mA/\?q8/\?rX mA (?l1 (·.1))/\?C5/\?EC:=by let#[d,z,ne,ob,mA,n,r,q]:=(show ?Lr ?nU from hok a _ e);exact#[mA,#[ob,n,ne],r,q,z,d]
universe e9
structure Cls[?i][?cs]:Prop where
 pg:?M8 Str.empty
 hd:?ES
 po:?Ca
 sa:?Jw K
def Cls.get[?aU]{C:Addr}(c:?rW)(f:Str):?M8 f:=c.pg
abbrev D8[?i][?cs](f:Str):Prop:=?KE f=?he
def D8.taker[?aU]{C:Addr}{f:Str}(n:?o3):?w5 K C f=?he:=by unfold PySem.W.takerIn;rw[show ?KE f=?he from n];rfl
structure VA[?i][?cs](m:Str)(f:Addr):Prop where
 at_:?KE m=?l8
 fn:?mx
 kp:?kS
section
variable{X:Cx}[?O]{a C dx:Addr}{fs:?cP}{f:Str}{v:V}[?S][?aE]
def kR{b:Bool}[?cH][?j][?ss](n:?uB)(l:?xz) (h:∀u s',?JG H s'->?bv->Q u s'):?JL ?u (?rk ?N f b):=by let ?EQ:=?mz;let ?en:=Ol.some_of (v:=v) (o:=mA f) (?MP f);exact yD ?ak O (c.get f) c.hd n hu (PV ru) (h u _ ?ds ru)
def Uc{m:Str}{g:Addr}[?Ik][?j][?ss](k:?xU)(l:?nx) (h:Q (?K g,?b3) s):?JL ?u (?nA ?N m pl):=by let ?EQ:=?mz;have hn:mA m=none:=Ol.none_of (?MP m);exact UG ?ak O (c.get m) k.at_ k.fn hn h
def jQ{y:V}[?aW][?i9][?j][?ss](n:?uB)(hl:?zH)(ry:?h1) (h:∀s',?JG (?No a ?z7) s'->?sQ):?JL ?u (setAttr ?N f u):=by let#[mA,O,r,wi,_,ho]:=?mz;(have hz:(?l1 (·.1)).length<=sizeLine:=by rw[qa3,sizeLine_eq];ext d);apply WL ?ak O c.sa c.po n.taker c.hd wi hz λh' O' sb=>h _ ?_;have hd:∃o,?eK dx=?x:=let #[o,_,_,e',_]:=O'.ns;#[o,e'];apply ?sI (x:=a) (e:=dx) (by rw[e];exact True.intro) (?n ho) (λb q hb z=>?GN z) hd ?_;apply#[by rw[Al O.ne];exact ho,?_,O.ne,O'.obj,_,O'.ns,λg=>?_,λg hg=>?_];{have:=Cg f y fs;ext d};{show Ol ((?vO).lookup g) ?zx;rw[As];by_cases q:g=f;{rw[?Q q,?Q q];exact ry};rw[?L q,?L q];exact r g};by_cases q:g=f;{rw[q];exact(?C0).1};apply(?C0).2 g (wi g λz=>hg ?_);show ?zx=none;rw[?L q];exact z
def Bo.made[?j]:?JG (?s (?No ?E ?Bt) ?aR ?wt) ?yV:=by have e1:(?ex).get? ?E=?h ?ri:=qc4 ?H ?g;(have e2:((?ex).push ?lZ).get? ?aR=?h ?lZ:=by have:=qc4 ?ex (o:=?lZ) ?g;rwa [qi7]at this);have e3:(?ex).Ns ?E ?dg:=#[?ri,#v[],_,e1,?g,(λe he=>?G he ?w),?GH];have I1:=?fn (a:=s.heap.objs.size) (o:=?Bt) (h':=?ex) (t':=s.toks) ?xs ?W #[_,e1];apply ?oD (a:=?aR) (o:=?wt) (t':=s.toks) ?xs (qn2 (qi7 _ _)) ?_;have ne:?Me ?aR:=?w1;apply#[by rw[Al ne,Ab],?fB,ne,e2,?dg,(Heap.Ns1.of_empty e3).at λo q=>?js,λ_=>True.intro,λy hy=>?G ?g hy]
def yP[?fz]{env:Env}{e:Expr}{f:Str}[?aF][?aL][?cH](hb:?qI e f env ?nT=?nT) (h:?k ?b8 A ?nT (λo s₁=>?k ?b8 A (?rk o f ?bO) Q E ?bu) E s):?JL ?b8 (?aw ?zV env) :=Attribute_any_ h (by rw[arm_eval_Attribute,hb])
universe e9
inductive ItFld[?i](f:Str)[?g4]:Prop| mk:∀a C dx fs v,?bX->?nD->?rW->?o3->?xz->(Q v H1)->?x6
abbrev Ay6[?i](ta:TE)(f:Str):TE:=?JE ta ?x6
inductive Ab3[?i](f:Str)(D:Ends)(σ:St)(y:V)(x:V)(H2:Hp):Prop| mk:∀a C dx fs,?bX->(H2 a=?it)->?rW->?o3->?zH->(?fP σ (?s H2 a ?z7))->?Dr
abbrev Az9[?i](ta tv:TE)(f:Str):TS:=?K9 tv (λy H1=>ta σ H1 λx H2=>?Dr)
section
variable{X:Cx}{o e value:Expr}{f:Str}{pos pos' tpos:Pos}{ta tv:TE}
def Ah1(he:?KG e ta)(hb:?qI e f ?p ?fG=?fG):?KG ?zV (Ay6 ?t ta f):=by ext Y;apply yP hb ?xm;let(?L9 v n):=_z;subst ex;obtain rfl:?hu:=rx;exact kR I1 ea c n l λu' s2 I2 ru=>#[v,H1,I2,ru,q]
def Ag6(ha:?yd)(hv:?KG ?jq tv)(hs:?Np ?jq (?h ?BG)):PS X (?lU [?BG] ?jq ?m) (Az9 ?t ta tv f):=by ext cI;apply plainObj_wpAny_Assign_Attribute (Eh (?JM hv _) λu s1 #[y,H1,I1,ry,q]=>Eh (ha Ag s1 σ H1 _ I1 q) λov s2 _z=>?_) hs;let#[x,H2,I2,rx,a,C,dx,fs,ex,ea,c,n,l,q2]:=_z;subst ex;obtain rfl:ov=?ej a:=rx;exact jQ I2 ea c n l ry λs3 I3=>#[σ,_,I3,q2]
def zL{pl:?sa}{m:Str}{apos:Pos}{args:?df}{Ag:Bl}[?aL][?bI][?cH]{te:TE}[?eZ][?j]
 (h:te σ H λx H1=>∃a C dx fs g,?bX/\?nD/\?pO/\?xU/\?nx ∧
   ∀s1,?JG H1 s1->?KN (?kt ?m (?K g) ?b3 ?Bn ?jp) ?y s1)
 (ht:?FK=(do
   let ov ←?fG
   ?qC
   let ?rQ ←?mr
   ?Kt ?Bn)) :
 ?JF ?FK Q:=by
 apply ?xo;let(?L9 g k):=_z;subst ex;obtain rfl:?hu:=rx;exact Uc I1 ea c k l (q s1 I1)
universe e9
section
variable{X:Cx}[?O][?S][?aE][?cH]{c:Value}{b:Bool}
universe e9
structure G7(k:Nat)(A:Around):Prop where
 hd:?wk
 dp:A.depth+3*k+5<recursionLimit
 un:A.units+16*k+200<cLine
 gd:A.guards=?h []
def G7.mono{j k:Nat}[?S](r:?h3)(h:j<=k):G7 j A:=#[r.hd,?zk,?zb,r.gd]
def G7.deeper{k:Nat}[?S](r:?zW)(env:Env):G7 k (?lS env) :=#[r.hd,by have:=r.dp;show ?yv+3*k+5<_;ext d,by have:=r.un;show A.units+3+16*k+200<_;ext d,r.gd]
def KJ[?S]{C:Addr}[?a7][?m1]:(?hY).depth=?yv:=?EZ
def IE[?S]{C:Addr}[?a7][?m1]:(?hY).guards=A.guards:=?EZ
def kJ[?S]{C:Addr}[?a7][?m1]:(?hY).units=?AV:=by first | rfl | simp[Around.under,Code.cUnits,Code.frames,Code.isFrame]
def G7.make{k:Nat}[?S](r:?zW)[?cs][?cJ](kw:?er):G7 k ?hY :=#[r.hd,by have:=r.dp;rw[KJ];ext d,by have:=r.un;rw[kJ];ext d,by rw[IE];exact r.gd]
def G7.depth{k:Nat}[?S](r:?h3):A.depth<recursionLimit:=?zk
def G7.units{k:Nat}[?S](r:?h3):?Kr 64:=?zb
def G7.u8{k:Nat}[?S](h:?h3):?Kr 8:=by have:=h.units;ext d
abbrev Ae5:TA:=?M2 []
abbrev Az0(ta:TE)(tr:TA):TA:=?JE ta (tr σ H1 λxs H2=>Q ?hv H2)
section
variable{X:Cx}{e:Expr}[?aT]{te:TE}{t:TA}[?aF]
def Ac:PA X [] Ae5:=λ_ _ _ _ H Q I h=>qw2 #[[],H,I,?M,h]
def Aa(ha:?n9)(hr:?p6)(hs:?kx):PA X ?cl (Az0 te t):=by intro pos Ag s σ H Q I h;rw[hs];show ?K4 (spliced (?Dn::?np));apply qo9 (Eh ?ev ?o7);ext bF;exact Eh (?LU hr ?m _) λus s2 #[xs,H2,I2,r2,q2]=>#[?hv,H2,I2,?V r1 r2,q2]
structure Bd9(Q:VK)[?aK](H1:Hp):Prop where
 mk::(left:?d7) (right:?JO ?Gv H1 ?gf)
abbrev Ax9(t:TA):TE:=?JK (λxs H1=>Bd9 Q xs H1)
structure Be0(Q:VK)[?aK](H1:Hp):Prop where
 mk::(left:?d7) (right:?JO ?Gv H1 ?fd)
abbrev Bm6(t:TA):TE:=?JK (λxs H1=>Be0 Q xs H1)
def De{x1}(h:?p6):?KG (?rE es x1 ?m) (Ax9 t):=?NB wpAny_Tuple_spliced ?gf #[z,us,r,?zy]
def Fp(h:?p6):?KG (.List es ?m) (Bm6 t):=?NB wpAny_List_spliced ?fd #[z,us,0,r,?dh]
universe e9
noncomputable abbrev Sp:=?z->?OS Hp VK XK
noncomputable abbrev vP:=?bt->Hp->Shared->XK->?e5
structure LS[?dY][?i][?i4](A:Around)[?mB][?bj](H:Hp):Prop where
 frames:A.frames=?h ?aZ
 mod:Mod K mg ?al
 bs:?K5 (base.get? b=?x) ?xL
 bsz:base.objs.size<=s.heap.objs.size
 funs:?la ?al ?aZ
 frf:∀b∈?Bj,?aC
 hok:?MR H ?H
 bare:?z0
abbrev CE[?mB][?dY](H:Hp)[?bj](Q:VK)[?cN][?bh]:Prop :=∃v H',?nJ/\?lR/\?LM ?Bj [] ?dG/\?MR H' ?dG/\?bv/\?h5
abbrev CR(CX:vP)[?mB][?dY](H:Hp)[?bj](Q:VK)(E:XK)(r:Result)[?bh]:Prop :=match r with| .ok ?H0=>?wy| .ok _=>False| .error e=>?MS e s'
structure By[?dY][?i][?i4](CX:vP)(k:Nat)(f:Addr)(fd:FuncData)(ps:?X)(sp:Sp):Prop where
 len:?nY
 run:∀[?sp] (args:Args) [?cJ] [?bi] (Q:VK) (E:XK),?h3->?ru->?re s fd ?cX ?fA->?eH->?k5 →
  ?dD ?dp A (?jd ?bB ?cX) (CR CX ?aZ P w H s Q E) s
def LS.make[?be][?i5][?S]{outer:?bt}[?aL]{H:Hp}(e:?ru)[?cs][?cJ](kw:?er) : ?Lp ?hY:=#[by first | exact e.frames | (simpa[Around.under,Code.envs,Code.isFrame,pushEnvs]using e.frames),e.mod,e.bs,e.bsz,e.funs,e.frf,e.hok,e.bare]
section
variable[?mK][?bI]{s s':Shared}
def Bo.env0[?j]:LS ?aa X.w ?t ?cu ?cf ?q ?dC s H :=#[I.ok.frames,I.ok.mod,I.bs,?tS,I.stack,I.stkFree,?au,?bL]
def Bo.after{Q:VK}[?aW][?j](h:CE ?dC ?aa X.w H s Q u s'):?AY:=by let#[v,H',os,bare,un,hok,r,q]:=h;let#[hh,g,d,t,os']:=s';obtain rfl:os'=s.os:=os;exact#[v,H',I.call (h':=hh) (g':=g) (d':=d) (t':=t) (ch:=[]) un hok bare (λb z=>?G z ?w),r,q]
universe e9
abbrev tCall[?lz](t:TA):TE:=?JK (λvs H1=>sp ?e6 H1 Q E)
inductive VD[?cs](m:Str)[?lz](t:TA)(σ:St)[?g4]:Prop| mk:∀a dx fs,?bX->?nD->?nx->(t σ H1 λvs H2=>sp (x::?e6) H2 Q E)->?Br
abbrev MA[?cs](m:Str)[?lz](ta:TE)(t:TA):TE:=?JE ta ?Br
abbrev yY[?cs][?lz](t:TA):TE:=?JK (λvs H1=>∀x dx,?OU x->?OU dx->?mw → ?NG H1)
abbrev On[?i](fd:FuncData)(ps:?X)(ds:?F):Prop :=∀[?bj] [?cJ],?gJ->?DO->?re s fd ?lO (ps.zip ?gN)
def On.all[?aU][?t5](h:∀us:?F,?MI fd):?oA:=λs us _ hl=>by rw[qv9]at hl ⊢;exact .of_eq (h us hl)
abbrev Uk(CX:vP)(X:Cx)(E:XK):Prop:=∀(Ag:Bl) (σ:St) (H:Hp) [?bj] (e:Value) [?bh],?T->CX ?dC H s E e s'->?y e s'
section
variable[?JA][?t5]{sp:Sp}{dvs:?z}{ds:?F}{E:XK}{x m:Str}{p pos apos:Pos}{e o:Expr}[?aT]{ta:TE}{t:TA}
def DZ[?O]{Q:VK}[?a7][?dd][?fu][?iF][?i2] [?j] [?mH] (h:sp ?e6 H Q E):?JF (call ?bB us) ?b9:=by have r2:?a4 ?e6 ?gN:=?ud;(have hl:?DO:=by rw[←r2.length];exact ?Mx F.len h);apply ?wr (?iz (F.run ?q ?dC s H ?lO ?gN ?e6 Q E hr I.env0 (hb s us ?ak hl) r2 h) ?A7);cases r with| error e=>exact hx Ag σ H s e s' I hq| ok fl =>cases fl with| ret u=>exact I.after hq| next=>exact ?qZ| brk=>exact ?qZ| cont=>exact ?qZ
def XE[?fu][?iF][?iJ](hm:?hm=?ng)(hk:?qz ?t ?bB=true)[?i2] [?g2] [?hy] (hpl:?r (?fo (·.1)=false) ?D) : ?KG ?j7 (tCall sp dvs E t):=by ext Y;apply ?M3 I;apply ?Kp hk;exact DZ F hr hb hd hx I1 r q
def xC[?IV][?fu][?iF][?i2][?g2]
 (hst:?kx) (hpl:?r (?fo (·.1)=false) ?D)
 (ht:?r (?NL ?HE=(do
   let ov ←?gv
   ?qC
   let ?rQ ←?mr
   ?Kt (?fm ?m ?rt))) ?D) :
 ?KG ?HE (?OC t):=by
 ext Y;ext Hg;apply qt3 (first:=?b3) (h₀:=X.base) ?p1 hm.kp (Eh (ha ?m Ag s1 σ H1 _ I1 q) λus s2 #[vs,H2,I2,r,q2]=>#[I2.kIn,?_]) hst hpl;exact DZ (us:=?N::us) (vs:=?N::vs) F hr hb hd hx I2 (?V ?g r) q2
def sJ[?IV][?fu][?iF][?i2]
 (ht:?r (?NL ?zw=(do
   let ov ←?gv
   ?qC
   let ?rQ ←?mr
   ?Kt (?fm ?m (?Ny [])))) ?D) :
 ?KG ?zw (?OC Ae5):=by
 ext Y;ext Hg;exact PySem.W.callWith_K0 (first:=?b3) I1.kIn hm.kp (DZ (us:=?b3) (vs:=?b3) F hr hb hd hx I1 ?H2 q)
structure Mk[?i](C f:Addr):Prop where
 makes:?vz
 init:?OM ?l8
 fn:?mx
 kp:?N7 ?qz ?ab
def rZ[?O]{Q:VK}[?a7][?dd](M:?D6)[?fu](hr:?AO)(hb:?wa)(hd:?x4) (hx:?Fl) [?j] [?mH] (h:∀x dx,?Kq x->?Kq dx->?mw->?NG H) : ?JF (call ?ab us) ?b9:=by have hq:=h ?aR ?E (?em ?jR) ?e2 ?w1;have I2:=Bo.made (C:=C) I;have r2:?a4 (?HR::?e6) ?yT:=?V ?g ?ud;(have hl:?OK ((?pF++ds).length):=by have e:=r2.length;rw[?Mx F.len hq]at e;exact e.symm);apply ?wr (tM (f:=f) ?ak M.makes M.init (qx6.mp M.fn) (?iz (F.run _ ?dC _ _ #[?pF,[]] ?yT _ _ E (hr.make C us []) (I2.env0.make C us []) (hb _ ?pF I2.kIn hl) r2 hq) λr s' hq'=>?_));cases r with| error e=>exact hx Ag σ _ _ e s' I2 hq'| ok fl =>cases fl with| ret u =>let#[v,H',I3,rv,ev,q3]:=I2.after hq';subst ev;exact#[rv,#[?HR,H',I3,?g,q3]]| next=>exact ?s0| brk=>exact ?s0| cont=>exact ?s0
def XC(M:?D6)[?fu](hr:?AO)[?iJ](hm:?hm=?h ?ab)[?i2] [?g2] [?hy] (hpl:?r (?fo (·.1)=false) ?D) : ?KG ?j7 (yY C sp dvs E t):=by ext Y;apply ?M3 I;apply ?Kp M.kp;exact rZ M F hr hb hd hx I1 r q
universe e9
section
variable[?JA]{fd:FuncData}{ps ks:?X}{sp:Sp}{E:XK}{x m:Str}{p pos apos kpos:Pos}{e o:Expr}[?aT]{kws:?pa}{te ta:TE}{t tk:TA}{nm:?c1 Str}
variable{g:?F->?F->?F}{gV:?z->?z->?z}
universe e9
structure FnScope(N P:?X)(sc:Scope):Prop where
 kind:?jl
 co:?E6
 gen:?xI
 nd:N.Nodup
 pre:N.take P.length=P
 par:?Gr
 nofree:?EU
def DL[?lm]:?KI ?gM| [],_,_=>rfl| ?w4,m,h=>by unfold bindL;rw[DL ?xQ];split;{(have:x≠n:=?G8);simp[this]};rfl
def Bg{N P:?X}{sc:Scope}(h1:?r ?jl ?lE)(h2:?r ?E6 ?lE)(h3:?r ?xI ?lE)(h4:?r (N.Nodup) ?sY)(h5:?r (N.take P.length=P) ?lE) (h6:?r ?Gr ?sY) (h7:?r ?EU ?sY):?r8 N P sc:=#[h1,h2,h3,h4,h5,h6,h7]
def DM[?lm]:?KI ?hD| [],_,_=>rfl| ?w4,m,h=>by unfold bindC;rw[DM ?xQ];split;{rfl};(have:x≠n:=?G8);simp[this]
def dM[?lm][?eg]:?Jt (?bl x=?cW) ?gM| [],_,_,_,_,h,_,_=>?dE| ?cC,[],_,_,_,_,h,_=>?dE| p::P,?j0,0,m,nd,h1,h2,hk=>by simp at h1 h2;subst h1;subst h2;show ?Lg ?gM p;unfold bindL;rw[DL ?vI,?fO];simp| p::P,?j0,?R,m,nd,h1,h2,hk=>by show ?Lg ?gM x;unfold bindL;exact ?L3 dM
def dN[?lm][?eg]:?Jt (?bl x≠?cW) ?hD| [],_,_,_,_,h,_,_=>?dE| ?cC,[],_,_,_,_,h,_=>?dE| p::P,?j0,0,m,nd,h1,h2,hk=>by simp at h1 h2;subst h1;subst h2;show ?Lg ?hD p;unfold bindC;rw[DM ?vI,?dk];simp| p::P,?j0,?R,m,nd,h1,h2,hk=>by show ?Lg ?hD x;unfold bindC;exact ?L3 dN
abbrev start(N:?X)[?bi]:St:=vs.map ?h++?b5 (N.length-vs.length) ?aM
abbrev LG(CX:vP)[?dY][?i][?i4](N:?X)(qual:Str)(scope:Scope)(f:Addr)(cd:Value)(A:Around)[?mB][?bj](H:Hp)(E:XK):Cx where
 prog:=P
 w:=w
 K:=K
 mg:=mg
 base:=base
 A:=?z8
 N:=N
 s₀:=s
 H₀:=H
 env:=?gG
 outer:=outer
 stack:=?gG::outer
 ex:=[]
 calm:=true
 fn:=λ_=>true
 pn:=[]
 xe:=λe s'=>?k ?dp ?z8 (leaving ?gG e) (λ_ s''=>?MS e s'') (λe' s''=>?MS e' s'') s'
def iU{sc:Scope}{n:Nat}{x:Str}(h:?p0):∃c,(?xx n ?fl []).lookup x=?bC:=by have q:=?u8 ?fl n [] ?gD;exact Option.isSome_iff_exists.mp q
def pL{CX:vP}[?be][?i5]{N ps:?X}[?Iv][?S]{outer:?bt}{s s1:Shared}{H:Hp}{E:XK}[?a7][?dd] (S:?Ay) (hd:?wk) (e0:?ru) (hl:?Bv) [?mH] (x:InCallC s ?E (?gM ?Eb ?fA ?dg) ?Bo (?hD ?Eb ?fA ?dg) s1) : Bo ?Gq [] ?jx H s1:=by (have hpl:ps.length<=N.length:=by have:=?bw ?EH S.pre;rw[qb9]at this;ext d);let#[h1,tk,?g,hk]:=x.done;have noA:∀b:Addr,b ∉ (?Gq).ex:=λb z=>?Fk;apply#[#[e0.mod,S.kind,?g,?g,?W,λy z c h1 h2=>?_,λy hy=>?_,λy c _ h=>?_,λ_=>hd,Around.frames_deeper e0.frames,?n ?tV,?Au,e0.bs,e0.bsz,λb _ _=>noA b,?Au,e0.funs,e0.frf],?g,e0.bare,?nZ hk,#[_,x.toInCall.ns,λi y v h1 h2 h3=>?_],λy c h=>#[_,x.cell y c h],?wq ?W,λy c h=>?_,λp hp=>?G (show p∈([]:Bl) from hp) ?w,e0.hok.kept hk,?_];{exact name_of_addr x.apart (qp6 h1) (qp6 h2)};{have hy:?ge y=?ah\/?ge y=?bx:=hy;rcases hy with hy | hy;{exact iU hy};exact ?G ?g (S.nofree _ (qp6 hy))};{exact ?D0};{(have hi:?pu:=by unfold start at h2;by_cases hi:?pu;{exact hi};rw[qd0 ?vE]at h2;rw[qq6]at h2;split at h2<;>cases h2);(have ha:?gl:=by unfold start at h2;rw[qc3 ?vE,qa7]at h2;cases e:?oJ with| none=>rw[e]at h2;cases h2| some a=>rw[e]at h2;cases h2;rfl);let#[u,hu,rv]:=?fN ha;(have hp:ps[i]?=?gQ:=by rw[←S.pre,List.getElem?_take_of_lt ?a1];exact h1);(have ndP:ps.Nodup:=by rw[←S.pre];exact S.nd.sublist (List.take_sublist _ _));apply#[u,rv,?_];rcases S.par y (qb2 hp) with k | k;{exact ?v #[k,dM ndP hp hu k]};let#[c,e]:=iU (n:=?aR) k;apply ?n #[?v k,c,e,?_];have q:=x.cell y c e;rw[dN ndP hp hu (by show ?ge y≠_;rw[k];decide)]at q;exact q};{exact ?wq ?D0};unfold start;show _=N.length;rw[qb7,qa3,qk5];ext d
set_option tactic.hygienic true in def Bb0{CX:vP}[?be][?i5]{k:Nat}{f:Addr}{name qual:Str}{params:Arguments}{body:?d4}{scope:Scope}{dV kV doc pm Dz ct oc:Value}{an od:OAddr} {osl:Ta}{N ps:?X}{sp:Sp} (lk:?K8 ?B6) (hcd:?qR) (S:?Ay) [?Ii] (hbody:∀[?sp] [?bi] (Q:VK) (E:XK),?O8 ?f9 (nQ ?rf ?fL t)) : ?KT CX ?cj ?B6:=by apply#[len,λA outer s H args us vs Q E hr e0 hb r y4=>?_];have hl:=?Mx len y4;have KX:?gJ:=e0.mod.kin.keeps ?H3;have lim:s.heap.NoLimit:=e0.mod.nolimit.keeps ?H3;(have hkind:∀y∈?fA,?ge y.1=?cW\/(?ge y.1=?ah/\((?Bo).lookup y.1).isSome=true):=λ#[n,v] hy=>by rcases S.par n (qs5 hy).1 with q | q;{exact ?oU};exact ?n #[q,?u8 _ _ _ ?oU]);apply codeAny_call_function hr.depth (KX _ _ lk) ?g S.co S.gen ?g (PySem.W.codeRec_of KX hcd) (?Mx hb ?_);apply wpAny_newFunctionEnv_cells S.kind hkind λenv he s1 x=>?_;subst he;apply#[lim.keeps x.toInCall.keep,codeAny_func ?_];let#[t,ht,hq]:=hbody A ?aZ s H vs Q E (hr.deeper _) y4;have I:Bo ?rf [] ?jx H s1:=pL S hr.hd e0 hl r x;apply qn7 (ht [] s1 ?jx H _ I hq) (λfl s' hs=>?_) λe s' hs=>hs;have fin:∀{σ':St}{H':Hp}{v:V}[?aW],Bo ?rf [] σ' H' s'->?bv->?h5->?wy :=λ{σ' H' v u} J rv q=>#[v,H',J.os,J.bare,J.base,J.hok,rv,q];cases fl with| ret u =>let#[v,σ',H',J,rv,q]:=hs;exact fin J rv q| next =>let(?MZ J):=hs;exact fin (v:=V.non) (u:=Value.none) J ?g q| brk =>let ?CS:=hs;exact ?cR q| cont =>let ?CS:=hs;exact ?cR q
section
variable{X:Cx}{x:Str}{p pos:Pos}{e:Expr}[?aT]{t:TA}{id T:String}{r:?bs}
abbrev tCB(r:?bs)(t:TA):TE:=?JK (λvs H1=>r vs H1 Q)
def Bc(hc:Fl X ?j3 r)(hm:?op)(hv:?kb=?uz)[?g2][?J0][?lj][?hy] (hpl:?r (?fo (·.1)=false) ?D):?EM:=?Jn PyProof.Rows.callWith_builtin1
def Cu(hc:Fl X ?qa r)[?iJ](hm:?op)(hv:?kb=?h ?qa)[?g2][?lj][?hy] (hpl:?r (?fo (·.1)=false) ?D):?EM:=?Jn qf7
universe e9
universe L2
namespace HT
open PySem PyProof.Rows
section
open PySem.SeqAt
open PySem.AutoSeq1 (wpAny_loadPart')
open PySem.MeetsSeq PySem.MeetsSeq2 PySem.MeetsSeq3
universe e9
section
variable[?fz][?S][?aE][?aL]
def cat_tup{t b:Addr}{vs ws:?F}[?cH](ht:?gH ?H t ?f3)(hb:?gH ?H b ?n5)(hv:vs≠[]) (h1:ws=[]->Q ?jo s) (h2:ws≠[]->?Lz ({ cls:=?bN,data:=?aH ?DL })) (hsz:?JY (vs.length+ws.length)):?JL ?b8 (?eE .Add ?jo ?e3):=by let ?Ek:=id ht;let ?tz:=id hb;ext Id;(have e:vs.toArray++ws.toArray=?DL:=?w);by_cases hw:ws=[];{exact ?Jv (tuple_addW1 t b ?f3 ?n5 n n2 dd dd2 sl sl2 ?hj (by simp[hw])) #[ho,ho2,h1 hw]};apply ?Jv (tuple_addW2 t b ?f3 ?n5 n n2 dd dd2 sl sl2 ?hj (by simpa using hw) (by rw[qc6,qc6];exact hsz)) ?HT;rw[e];exact h2 hw
abbrev sIx(n d:Nat):?bW->Nat| none=>d| ?U=>?rI
def sIx_none(n d:Nat):sIx n d ?aM=d:=rfl
def sIx_nat(n d k:Nat):sIx n d ?pA=min k n:=by show(if ?jG<0 then(?jG+?b6).toNat else min (k:Int).toNat n)=min k n;rw[?dr,qe0]
def Af5(n d:Nat)(hd:d<=n)(o:?bW):sIx n d o<=n:=by cases o with| none=>exact hd| some v =>show ?rI<=n;by_cases hv:v<0;{rw[?Q hv];ext d};rw[?L hv];exact ?hF
def nG(v:Int)(n d:Nat):?vU=((sIx n d ?U:Nat):Int):=by show ?vU=((?rI:Nat):Int);by_cases hv:v<0;{simp only[?Q hv];ext d};simp only[?L hv];first|exact zn2 hv|ext d
def LN[?g5](n:Nat):?tp=(?ir,?uf):=by have h1:¬(?eN<0):=O9m;unfold Builtin.Slice.sliceAdjust;simp only[h1,if_false];apply Prod.ext ?_ ?_;{cases lo with| none=>rfl| some v=>exact nG v n 0};cases hi with| none=>rfl| some v=>exact nG v n n
def jW(i j:Nat):?mf ?gS ?ry 1=j-i:=by unfold Builtin.Slice.slicePlaces;have h1:?eN > 0:=O9m;simp only[h1,if_true,Int.ediv_one];split<;>ext d
def Z0[?eg]{o:?bW}{Q:?bW->?e8}(p:?ig v o)(h:Q o s):?JL ?b8 (Builtin.Slice.slicePartIndex v):=by cases p with| none=>exact ?A0 h| int i t=>exact slicePart_int h
def Wh{sl:Addr}[?J7]{n:Nat}{Q:Int × Int × Nat->?e8}[?II] (h:Q (?ir,1,?ze-?u9) s):?JL ?b8 (Builtin.Slice.sliceApplied ?iw (?aA ?b6)):=by let ?Ec:=id hs;unfold Builtin.Slice.sliceApplied Builtin.Slice.sliceFields;apply ?Nl qa8 (qi1 hos hds (x:=vl) ?g (qa8 (qi1 hos hds (x:=vu) ?g (qa8 (qi1 hos hds (x:=?aS) ?g ?ne)))));apply ?Nl ?A0 ?_;show ?K4 (if ?NS (?eN==0) then _ else _);rw[?L ?aQ];apply qa8 (Z0 pl (qa8 (Z0 pu ?wQ)));show ?K4 (match ?tp with | (lo,hi)=>?aA (lo,?eN,?mf lo hi 1));rw[LN lo hi n];show ?K4 (?aA (?ir,?eN,?mf ?ir ?uf 1));rw[jW];exact qd6 h
def SH(xs:?bP)(i k:Nat):((?ce k).filterMap ?wx).toArray=((xs.toList.drop i).take k).toArray:=by (have e:?wx=?yi:=by funext m;have:?Dq=i+m:=O9m;rw[this]);rw[e];have:=pick_run xs i k;rw[List.filterMap_map]at this;have e2:((λx=>xs[x]?) ∘ λx=>i+x)=?yi:=rfl;rw[e2]at this;rw[this]
def getItem_tuple_cut{t sl:Addr}{items:?bP}[?J7][?cH](ht:?gH ?H t ?fK)[?II] (hw:¬(?gY=0/\?oz=items.size)) (h:?Lz ({ cls:=?bN,data:=?tx })) (hsz:?JY items.size):?JL ?b8 (?lC ?jo ?iw):=by (have MU:sizeOk ?tx:=by show ?JY ((?NW ?kf).toArray.size);rw[qc6,qb9,qh4,qx1];exact qa5 ?hF (qa5 ?gX hsz));have hj:?oz<=items.size:=Af5 _ _ ?W hi;let ?Ec:=id hs;have hTs:?pd ?iw "slice":=#[os,hos,hcs];unfold getItem;(try with_reducible apply qt6 ?_);(first | apply ?wQ | skip);apply qa8 (wpAny_sequenceKey ?kk ?aQ ?_);apply qa8 (wpAny_callSpecial?_slot (name:=Str.ofString ?H7) ?kk qx7 (qm5 qx7 ?kk entry_tuple_getitem ?_ (args_tuple_getitem _ _)));show ?K4 (Builtin.Tuple.tupleItemsOf ?jo>>=_);apply qa8 (tupleItemsOf_ ht ?_);apply qa8 (wpAny_typeOf hTs ?_);rw[?Q ?aQ];apply qa8 (Wh hs pl pu ?_);(have hno:¬?wg:=by intro q;rw[qc0,qc0]at q;have q1:?DW=0:=?D7 q.1.1;have q2:?kf=items.size:=?D7 q.2;exact hw #[?l,?l]);show ?K4 (if ?wg then _ else _);rw[?L hno,SH];first| exact ?xv| exact ?JR (qa8 ?wJ)| exact qa8 (?JR ?wJ)| exact qa8 ?xv
universe e9
universe HT
namespace L2
open PySem PySem.Spec PyProof.Rows
noncomputable abbrev TO:=?ND ?pY
abbrev PO(X:Cx)(e:?HM)(t:TO):Prop :=∀[?a5] (Q:?pY),?T->?fZ → ?JF (evalPart e ?p) (λu s'=>∃o H',?kO/\?ig u o/\Q o H')
abbrev WD:TO:=?M2 ?aM
inductive VC(Q:?pY)(x:V)(H1:Hp):Prop| mk:∀i,?jM->(Q (?h i) H1)->?vM
abbrev Ay1(t:TE):TO:=?JE t ?vM
section
variable{X:Cx}[?mD]{lo hi:?HM}{tl th:TO}{pos p2:Pos}
def Fc:PO X ?aM WD:=by ext Y;rw[evalPart_none];exact qd6 #[?aM,H,I,?aS,h]
def C9(h:?n9):PO X ?xD (Ay1 te):=by intro Ag s σ H Q I hw;rw[evalPart_some];apply Eh ?FN ?o7;ext bF;let ?Cy:=q1;let ?bn:=r1;exact#[?h i,H1,I1,?gK,q]
abbrev SlR(X:Cx)[?Iu]:Prop :=∀[?a5] (x:V) (v vl vu:Value) [?g5] (sl:Addr) (Q:VK),?T->?d1->?CJ->?Gu->?u5->r x lo hi H Q → ∃T id,typeLookup ?qa ?H7=?aA ?uz/\?pd v T/\?JF (?lC v ?iw) ?b9
abbrev tSl[?Iu](te:TE)(tl th:TO):TE:=?JE te (tl σ H1 λl H2=>th σ H2 λu H3=>r x l u H3 Q)
def C7{r:?gk}(hr:SlR X r)[?eZ](hl:PO X lo tl)(hu:PO X hi th):?KG (?oM e ?tJ ?m) (tSl r te tl th):=by ext Y;apply ?ve ?nK;ext bF;apply wpAny_Slice (Eh (?JS hl _) λvl s2 #[l,H2,I2,pl,q2]=>Eh (hu Ag s2 σ H2 _ I2 q2) λvu s3 _z=>?_);let#[u,H3,I3,pu,q3]:=_z;rw[evalPart_none];apply ?ne;have I4:?JG H3 ?pD:=I3.kept (t':=s3.toks) ?k0;let#[T,id,hT,ht,hg]:=hr Ag ?pD σ H3 x v vl vu l u ?ya Q I4 r1 (Heap.IsSliceOf.new ..) pl pu q3;show ?k ?u ?q (?v6 e ?tJ v ?DT) ?b9 ?y ?pD;exact tail_any (ops:=[?DT,v]) ht hT hg (by with_unfolding_all rfl)
abbrev Ci[?aK][?g5]:?z:=?Le ?pc
def X6[?aK][?g5]:?Ka ?k8 xs.length:=by unfold Ci;rw[qb9,qh4];exact qa5 ?hF ?gX
inductive Ab4[?i][?sv][?b0]:Prop| mk:∀a xs,?bX->?av->?NH ?Aw ?Fj ?CW
abbrev Bo4[?i]:?gk:=?La ?CW
def Af3:?Mp Bo4:=by
 ext sj;let ?Cv:=h;cases rx;let ?GI:=?ax hx;have hlen:?ME its.toArray.size:=by rw[qc6];exact r.length.symm
 apply#[?dO,_,qx7.lookup,?kk,?_];apply HT.getItem_tuple_cut ht hs pl pu (by rw[hlen];exact hw) ?_ (by rw[hlen];exact hz);rw[hlen];apply(?JZ ?Fj ?sG);exact#[?HP,_,?Le r.drop,?q9]
inductive vI[?i][?bG]:Prop| mk:?NV ((xs≠[])->?AL->((ys=[]->Q ?N H))->((ys≠[]->?JO ?aj H ?G3))->?up)
abbrev A22[?i]:R2:=?JU ?up
def Vals.nil_iff[?b1][?a7](r:?bE):us=[]↔xs=[]:=by cases r with| nil=>simp| cons _ _=>simp
def XG:?Kl A22 ?t:=by ext cG;let(?MK q1 q2):=h;cases rx;cases ry;let ?rr:=?ax ha;let ?qc:=?ax hb;apply HT.cat_tup p1 p2 (λz=>hx (r1.nil_iff.mp z)) (λz=>(?O0 ?N (q1 (r2.nil_iff.mp z)))) ?Gj (by rw[←r1.length,←r2.length];exact hz);apply(?JZ ?G3 (q2 (λw=>z (r2.nil_iff.mpr w)) _ ?e2));exact#[?vm,_,?E0,?q9]
universe e9
abbrev VT(n:Nat)(i:Int):?rD:=if ?du then(if i<n then ?h ?qn else none) else if ?nR then ?h ?yQ else none
abbrev Um{α:Type}(xs:?fb)(i:Int):?c1 α:=(?uX).bind λj=>xs[j]?
def mU{n:Nat}{i:Int}{j:Nat}(h:VT n i=?bk):?BR i n=?bk/\j<n/\?nR/\i<n:=by unfold VT at h;by_cases h0:?du;{rw[?Q h0]at h;by_cases h1:i<n;{rw[?Q h1]at h;have e:?uq:=qa9 h;exact#[by rw[?qf h0 h1,e],?l,?l,h1]};rw[?L h1]at h;cases h};rw[?L h0]at h;by_cases h1:?nR;{rw[?Q h1]at h;have e:?yQ=j:=qa9 h;exact#[by rw[?oh ?a1 h1,e],?l,h1,?l]};rw[?L h1]at h;cases h
def nK{α:Type}{xs:?fb}{i:Int}{v:α}(h:?pX):∃j,?DX=?bk/\xs[j]?=?U/\?oF/\-?hs<=i/\?hr:=by unfold Um at h;cases e:?uX with| none=>rw[e]at h;cases h| some j =>rw[e]at h;let ?Bx:=mU e;exact#[j,h1,h,h2,h3,h4]
def Bj{α:Type}{xs:?fb}{j:Nat}{v:α}(h:xs[j]?=?U):Um xs ?ry=?U:=by have hj:?oF:=(?cy h).1;(have e:VT ?bV ?ry=?bk:=by unfold VT;rw[?sN,?sN];simp);unfold Um;rw[e];exact h
abbrev nO(b:Expr):Prop:=∀o i,?B3 b ?bp o i=operate [o,i] (?lC o i)
abbrev IxR(X:Cx)(r:R2):Prop :=∀(value slice:Expr) [?a5] (x y:V) (v u:Value) (Q:VK),?T->?d1->?h1->?xa → ?B3 slice ?bp v u=operate [v,u] (?lC v u)->?JF (?v6 ?jq slice v u) ?b9
abbrev MtR(X:Cx)(id:String)[?lv]:Prop :=?CQ
section
variable{X:Cx}{a b:Expr}{ta tb:TE}[?aF]
def Ba{r:R2}(hr:IxR X r)[?eW](hs:nO b):?KG (?oM a b ?m) ?ks:=?NI ?ve (?KY (hr a b Ag s2 σ H2 x y v u Q I2 rx ry q (hs _ _)))
inductive Ab9[?i][?bG]:Prop| mk:?NM ?zq ?wY
abbrev A20[?i]:R2:=?JU ?wY
inductive Ab8[?i][?bG]:Prop| mk:?NM (?Lc p xs) ?Go
abbrev Ag1[?i]:R2:=?JU ?Go
def XY:IxR X (A20 ?t):=by ext Hp;let ?tr:=?bT;ext Hl;by_cases h0:?du;{(have hj:?uq:=?LH h5);exact item_listR ?fV h0 ?l ?G5 fin hs};(have hj:(i+?Cu).toNat=j:=?Kd h4);exact ?zP (x:=w) ?Dx ?Db (wpAny_getItem_list_neg (Q:=?FO) ?fV ?l ?ta ?l ?G5 ?yX) hs
def Al3:IxR X (Ag1 ?t):=by ext Hp;let ?tr:=?dn;ext Hl;exact ?zP (x:=w) pl.typeIs slot_tuple_getitem.lookup (getItem_tuple (j:=j) (Q:=?FO) pl ?l ?l (by ext ec;exact h1) (by simpa using ew) ?yX) hs
def KI[?mA](n j:Nat)[?cN]:?rx (·.setIfInBounds j u) ?rU={ cls:=?ay,data:=?aH (its.set j u).toArray n }:=by simp[Obj.mapSeq]
def Bo.lst[?O]{p:Addr}[?b1][?j](h:?oN) : ∃(its:?F) (n:Nat),?fX/\?Ez/\?d7:=?Mg p h #[its,n,r,e,z]
def Bo.lstUpd[?O]{p:Addr}[?ea]{its its':?F}{n n':Nat}{f:Obj->Obj}[?j](h:?oN) (ho:?Ez) (hf:f ?rU=?FM) (r:?zd) [?t8] (t:Nat) : ?JG (?No p ?e4) ({ s with heap:=?jy p f,toks:=t }):=by (have e:(?jy p f).get? p=?h ?FM:=by rw[Heap.get?_update_self f ho (by rw[hf]<;>rfl),hf]);apply ?sI (x:=p) (e:=p) (by rw[h];trivial) ?ao (λb u hb q=>(?EO _ _ ?yH).trans q) ?sD ?_;exact#[hz,?d8,n',r,e]
inductive VG(o:V)(i:V)(v:V)(H:Hp)(Q:?aN):Prop| mk:∀p xs k j,(o=?a9)->(i=?o k)->?oN->(VT ?bV k=?bk)->(Q ?Di)->?Gc
abbrev A08:?O6 V:=λo i v H Q=>?Gc
def Fu:Bd4 X A08:=by intro Ag s σ H o i v ov iv u Q I ro ri rv h;let#[p,xs,k,j,?g,?g,hp,hj,q]:=h;cases ro;let ?bn:=ri;let#[its,n,r,ho,hz]:=I.lst hp;let ?Bx:=mU hj;have hl:=r.length;have hn:=ES;have I':Bo X Ag σ ?Di { s with heap:=?jy p (?rx (·.setIfInBounds j u)) } :=I.lstUpd hp ho (KI its n j u) (r.set rv j) (by rw[qi4];exact hz) ?hG;by_cases h0:0<=k;{(have hk:k.toNat=j:=?LH h4);exact PySem.W.ki_setAt ho h0 ?l (by ext ec;exact h4) ?DJ};(have hk:(k+?Cu).toNat=j:=?Kd h3);exact PySem.W.ki_setBack ho ?l (by ext ec;exact h3) ?l ?DJ
def DV[?g5](n:Nat):(?o0).1=((?fa n 0 lo:Nat):Int)/\(?o0).2.1=((?fa n n hi:Nat):Int)/\(?o0).2.2=1:=by apply#[?_,?_,?g];{cases lo with| none=>simp[sliceBounds,HT.sIx]| some i =>ext Hc};cases hi with| none=>simp[sliceBounds,HT.sIx]| some i =>ext Hc
def AW[?mA][?g5]:slicePick ?a3 lo hi ?aM=((its.drop ?D3).take (?fa ?pQ ?pQ hi-?D3)).toArray:=by let#[h1,h2,h3]:=DV lo hi ?ht;unfold slicePick;rw[h1,h2,h3];simp only[sliceRange_one,pick_run,qc6]<;>rfl
inductive Ab5[?i][?sv][?b0]:Prop| mk:∀a xs,?bX->?NH ?cQ ?Bs ?tT
abbrev A07[?i]:?gk:=?La ?tT
def WK:?Mp A07:=by ext sj;let#[a,xs,?g,hx,q]:=h;cases rx;let ?GI:=?az hx;have hlen:=r.length;apply#[?ch,_,?Db,ht.isList.typeIs,?_];apply wpAny_getItem_list_slice ht.isList hs pl pu ?aS ?w ?_ ?ta;rw[AW,←hlen];apply(?JZ ?Bs ?sG);exact#[?HP,_,0,?Le r.drop,?dh]
def FT:?JQ ?Bd (∃p ys,?bo/\?vn/\?yO):=by ext dT;ext IQ;have hn:=ES;rcases hq with hq | hq;{let ?iZ:=?bT;have hlen:=r'.length;exact Calls.call_len_list ?fV ?hT ?zC};ext sz;have hlen:=r'.length;exact len_tuple pl ?hT ?zC
def fT:?JQ ?ay (∃p ys,?bo/\?vn/\?th):=by ext dT;ext IQ;have fin:∀[?mA],?vg->?A1->∀(h':Heap) (c':Nat),(∀b o',?af b=?h o'->?f7=?h o') → ?sc=?h { cls:=?ay,dict:=none,data:=?aH ?a3 c',slots:=#v[] }->?Je ?ad ?fH:=λits r' hz h' c' kp e =>#[?ad,_,?fn (t':=s.toks) kp ?W (show ?MA _ _ ?e4 from#[hz,its,c',r',e]),?g,?sG];rcases hq with hq | hq;{let ?iZ:=?bT;have hlen:=r'.length;let ?Ax:=pl.isList;exact ?M1 ?ao};ext sz;have hlen:=r'.length;let ?Ax:=pl;exact ?M1 ?s2
def BU:?JQ ?bN (∃p ys,?bo/\(?Ob ?Av ?BY)):=by ext dT;let#[p,ys,?g,h]:=h;let ?ED:=P6 r;cases rx;rcases h with⟨hq,q⟩|⟨hq,q⟩;{let ?iZ:=?bT;have hlen:=r'.length;apply call_tuple_list ?fV (λh' kp=>?_) ?hT;have I1:?ot:=?gd (t':=s.toks) kp;have I2:?JG (?No ?zo ?rY) ({ s with heap:=?NU h'.push ?bN ?a3 }) :=?oD (t':=s.toks) ?kX ?W (show ?bc ?aa X.w _ _ _ ?rY from#[hz,its,r',?q9]);exact#[?K ?zo,_,I2,?g,q _ ?pz]};ext sz;exact call_tuple_same pl (?O0 ?a9 q)
abbrev tyV[?i](T:String)(x:V)(H:Hp):Prop:=match x with| ?bY=>T=?hf| ?cZ=>T=?bz| ?a9=>(T=?ch/\∃xs,?zq)\/(T=?dO/\∃o,?d5 p=?x/\?oX/\?od) ∨ (T=?kW/\((∃kvs,H p=?h ?uu)\/∃kvs,H p=?h ?GZ))\/(T="set"/\∃S n,H p=?h ?xp)| _=>False
def Ae0[?O]{T:String}{x:V}[?eg][?j](r:?d1)(ty:tyV ?t T x H) : ?pd v T/\∀a,?ei->∃ob,?af a=?h ob/\ob.dict=none:=by cases x with| str z =>ext db;cases (show T=?hf from ty);exact#[typeIs_str s z t,?uU]| int i =>ext db;cases (show T=?bz from ty);exact#[?pv s i t,?uU]| ref p =>cases r;rcases ty with⟨rfl,xs,hq⟩|⟨rfl,o,hk,hc,hd⟩|⟨rfl,hk⟩|⟨rfl,S,n,hk⟩;{let(?Lu _ pl):=?bT;apply#[?Dx,?wm];cases e;let#[o,n,e,c,hd,_]:=pl;exact#[o,e,hd]};{apply#[#[o,?ak p o hk,hc],?wm];cases e;exact#[o,?ak _ o hk,hd]};{(have z:∃o,?MB p/\o.ExactDict:=by rcases hk with⟨kvs,hk⟩|⟨kvs,hk⟩;{let ?xX:=?pg;exact ?pm};let ?xX:=?pg;exact ?pm);let ?pm:=z;apply ?y2;cases e2;exact ?zp};let#[o,_,_,_,e,ex,_]:=?pg;apply ?y2;cases e2;exact ?zp| _=>exact ?cR ty
structure B82[?i](T:String)[?lv](t:TA)(σ:St)[?g4]:Prop where
 mk::(left:tyV K T x H1) (right:t σ H1 λxs H2=>r x xs H2 Q)
abbrev tBM[?i](T:String)[?lv](to:TE)(t:TA):TE:=?JE to (B82 K T r t σ Q x H1)
variable{o e:Expr}[?aT][?IB]
def A27[?Hn] [?HX] (hplain:?r (?mZ (·.1)=false) ?D) : ?KG ?tK (tBM ?t T r to t):=by ext Y;apply wpAny_Call_method_late hbase hfew hline ?g (Eh ?CR ?gO);let#[x,H1,I1,r1,ty,q1]:=_z;let ?cg:=Ae0 I1 r1 ty;apply#[T,id,pa,slot,hty,h1,h2,?_];have hA:=?LU ha cpos _;rw[hs]at hA ⊢;apply qs2 (by show(false || ?mZ (·.1))=false;rw[hplain]<;>rfl) (qx9 ?_);exact Eh hA λus s2 #[vs,H2,I2,r2,q2]=>hm Ag s2 σ H2 x vs v us Q I2 r1 r2 q2
universe e9
abbrev MtM(X:Cx)(id:String)[?lv]:Prop :=?CQ
def Vals.one:∀{x:V}[?a7],?w9->?zl| _,_,?V r ?M=>?FZ
def Vals.eraseIdx:?LF (?Ai i) (us.eraseIdx i)| _,_,_,?M=>?M| _,_,0,?kd=>t| _,_,?R,?fD=>?V r (Vals.eraseIdx i t)
def Vals.rep[?b1][?a7](h:?bE):∀k:Nat,?a4 (?D8).flatten (?b5 k us).flatten| 0=>?M| ?cj=>by rw[qk0,qk0,qm8,qm8];exact ?wV h (Vals.rep h k)
def CO{α:Type}:∀(l:?fb) (i:Nat),(l.eraseIdx i).length<=l.length| [],_=>?W| ?cC,0=>?jR| _::r,?R=>qj6 (CO r i)
def DB[?mA]:∀(k:Nat) (acc:?F),?ob ?oH acc.toArray (?b5 k ?a3)=(acc++?Ei).toArray| 0,acc=>?w| ?cj,acc=>by (have e:acc.toArray++its.toArray=(?n3).toArray:=?w);(have e2:?n3++?Ei=acc++(?b5 ?cj its).flatten:=by rw[qk0,qm8,qn0]);rw[←e2,←DB its k ?n3,←e,qk0,qs6]
section
variable{X:Cx}[?O]{l b:Addr}{xs ys zs:?z}
def Bo.lset{its its':?F}{n:Nat}{f:?bP->?bP}[?ct][?j](hH:?fC) (e:?EI) (hf:f ?a3=its'.toArray) (hv:?zd) [?t8] : ?JG ?Ar ({ s with heap:=?jy l ?tn,toks:=t' }):=by have q:=PySem.IsL.update e f;rw[hf]at q;apply ?sI (x:=l) (e:=l) (by rw[hH];exact trivial) ?ao (λb' u hb hu=>(?EO ?H ?tn ?yH).trans hu) #[_,q] ?_;exact#[hz,?d8,_,hv,q]
def Bo.lnew{its:?F}[?ct][?j](hv:?vg)[?t8] : ?JG (?No ?E ?e4) ({ s with heap:=?NU ?dm ?ay ?a3,toks:=t' }) :=?fn (λ_ _ q=>?js) ?W #[hz,its,0,hv,?dh]
def Bo.fresh[?j]:?hX:=?e2
def Bo.lstM[?j](hH:?fC):?Nf (xs.length=its.length/\?EI):=?Mg l hH #[z,its,n,r,r.length,e]
def sV{n:Nat}(h:?px):?we n=false:=by unfold Builtin.List.listTooLong;exact qm7 ?l
universe e9
section
variable{X:Cx}
inductive jE(x:V)[?bi][?b0]:Prop| mk:∀l xs y,?is->?wp->?fC->(?OW xs.length)->(Q ?J (?Nk H l (xs++[y])))->?Fd
abbrev wU:?hn:=?ML ?Fd
def Fx:MtM X "list.append" wU:=by ext sr;let#[l,xs,y,?g,?g,hH,hz,q]:=h;ext sw;ext sy;apply ?gW F.slot_list_append ?h0 F.entry_list_append (F.args_list_append_2 _ _) (PySem.list_append l ?a3 n u ?En) ?mk;apply#[?J,_,I.lset (its':=its++[u]) hH e ?w (?wj (?V ru ?M)) ?_,?g,q];rw[qb7,qi3];ext d
inductive NT(x:V)[?bi][?b0]:Prop| mk:∀l xs i k y,?is->(vs=[?a8])->?fC->(-?eI<=i)->(i<?eI)->(?DX=?h k)->(xs[k]?=?gQ)->(Q y (?Nk H l (?Ai k)))->?Bw
abbrev Ag0:?hn:=?ML ?Bw
def IB:MtM X "list.pop" Ag0:=by ext sr;let#[l,xs,i,k,y,?g,?g,hH,h1,h2,hk,hy,q]:=h;ext sw;let ?bn:=ru;ext sy;let#[w,hw,rw']:=?fN hy;apply ?gW F.slot_list_pop ?h0 F.entry_list_pop (F.args_list_pop_2 _ _) (MeetsSeq.list_pop_at l ?a3 n i t k w ?uV (by ext ec;exact hk) (by rw[←Array.getElem?_toList];exact hw) ?En) ?mk;apply#[y,_,I.lset (its':=its.eraseIdx k) hH e ?_ (r.eraseIdx k) ?_,rw',q];{show its.toArray.eraseIdxIfInBounds k=(its.eraseIdx k).toArray;rw[List.eraseIdxIfInBounds_toArray]};have:=CO xs k;ext d
inductive Ab6[?bG]:Prop| mk:∀l k xs,?is->(y=?o k)->?fC->(-?eI<=k)->(k<?eI)->?NH (?JY (xs.length*k.toNat)) (?a0 (?b5 ?ib xs).flatten) ?CC
abbrev Bo5:R2:=?JU ?CC
def XW{α:Type}(xs:?fb)(k:Nat):(?D8).flatten.length=k*xs.length:=by induction k with| zero=>simp| succ k ih=>rw[qk0,qm8,qb7,ih,Nat.succ_mul,qy2]
def jY:Uo X ?Gt Bo5:=by ext cG;let#[l,k,xs,?g,?g,hH,h1,h2,hz,q]:=h;cases rx;ext cm;ext sy;(have hlen:?JY ?qt:=by ext ec;exact hz);(have hcap:¬?qt > (?eI-1) / 8:=by (have:?oW<=(?eI-1) / 8:=?aQ);ext d);(have hfit:¬?NS (!Builtin.List.listFitsIndex k):=by rw[?uV];exact qf1);(have A78:¬?we ?qt=true:=by rw[sV ?eh];exact qf1);(have hnew:?KA (if ?NS its.toArray.isEmpty then 0 else k.toNat) ?ib:=by (have f0:∀m:Nat,?KA m m:=λm=>by have:=DB its m [];rw[qq4]at this;exact this);rw[f0];cases its with| nil=>simp| cons a r'=>rw[?gB]);apply wpAny_binaryOp_repeat_ref (T:=?ch) (U:=?bz) ?aQ ?h0 (λs'=>?pv s' k t) noFill_list_mul F.fills_int_mul ?Ba repeat_list F.slot_int_index.lookup (?gW ?Ba (?pv s k t) F.entry_int_rmul (F.args_int_rmul_2 _ _) (int___rmul___int_list k t l ?a3 n) #[e,?g,?h0,?gW F.slot_list_mul ?h0 F.entry_list_mul (F.args_list_mul_2 _ _) (AutoListH.list___mul___list_int_3 l ?a3 n k t hfit hcap A78) ?mk]);rw[hnew];exact(?MD (?K _) (r.rep ?ib) (by rw[XW,Nat.mul_comm];exact hz))
universe e9
section
variable[?fz][?S][?aE][?aL]
universe e9
section
variable{X:Cx}
universe e9
universe L2
namespace Att
open PySem PySem.W PySem.Calls PyProof.Rows
def Yp{P:Params}[?ae]:∀[?cn] (vs:?F),WellAll P h vs ?iv->?hU:=by intro ns;induction ns with| nil =>intro vs w;rw[qr7]at w;cases w;exact ?M| cons n ns ih =>intro vs w;rw[qd2]at w;cases w with| cons a b =>cases a;exact ?V _ _ (ih _ b)
def script_of{l:OpenLaw}{n:Nat}[?tG]{P:Params}[?ae]{args:?BA}{vals:?F} (hpre:l.row.toRowW.claim.pre ?cX=true) (hwl:WellAll P h vals ?cX) : ∃a vs ns,vals=[?ej a]/\args=[?iS]/\?bS=?h ?k2/\?hU/\?iM:=by have hsh:WShape.hasAll [] ?cX [.list ?o]=true:=(?uI).1;have hc:l.pre.holds [] { args:=args }=true:=(?uI).2;let#[d,r,?g,h1,h2]:=hasAllW_cons hsh;obtain rfl:=hasAllW_nil h2;let#[xs,?g,h3]:=hasW_list h1;let#[ns,?g]:=items_int h3;(have hlen:?iM:=by unfold OpenLaw.pre at hc;(have h4:(WTm.not (.lt (.lit ?HL) (.len (.arg 0)))).holds [] { args:=[.list (?ii ?o)] }=true:=by have h4:=(holds_andW hc).1;rw[hn]at h4;exact h4);have h5:=condW_of h4 (w_not (w_lt w_lit (w_len_list (w_arg ?g))));rw[qa3]at h5;apply qi0 λq=>?_;have q':?b6<((ns.length:Nat):Int):=O9m;first| (rw[qf8 q']at h5;exact ?G h5 ?aQ)| (simp at h5;ext d));cases hwl with| cons w1 w2 =>cases w2;cases w1 with| list ho hall=>exact#[_,_,ns,?g,?g,ho,Yp ns _ hall,?eh]
def post_true(l:OpenLaw)(args:?BA):l.row.toRowW.claim.post ?cX ?dB ?cX=true :=postW_of (r:=l.row.toRowW) (X:=?AU) (show WShape.has [] ?dB ?cS=true by first | rfl | decide | simp[WShape.has,WShape.arms,WShape.armsAll]) (show(WTm.eq .res (.lit ?dB)).value [] { args:=args,res:=?h ?dB,after:=args }=?h (?cS ?AU) from w_eq_bool (w_res ?g) w_lit) ?g
section
variable[?fz][?S][?aE][?aL]{K:Frag}
universe e9
universe Att
namespace L2
open PySem PySem.Spec PyProof.Rows
def BZ:∀[?iB][?co],?hU->?a4 ?cT vs| _,_,?M=>?M| _,_,?V n t h=>?V ?bn (BZ h)
abbrev Aq7(H:Hp):Prop:=∀b,?aC\/∃o xs,H b=?h (.frz o ?fd)
def tU[?be]{mg mb:?bR}{CX:vP}{k:Nat}{fa a:Addr}{fd:FuncData}{x:Str}{sp:Sp}{s₁:Shared}[?iB][?co] (KX:K.In ?fQ) (hns:?mv ?s4 mg) (hb:?mv ?vZ mb) (hbb:?tj) (hlim:s₁.heap.NoLimit) (hg:?uh) (ha:?Fz) (hi:?hU) (hl:?Df) (hr:?Ad) (F:∀base:Heap,?tI->?oR->By P w K mg ?al CX k fa fd [x] sp) (hbind:?zh) (y4:∀H:Hp,Aq7 H->?lK->sp ?b3 H ?Fh ?fU) (hCX:∀H e s',CX [] H ?bu ?fU e s'->False) : ?HQ:=by have rv:=BZ hi;have Bq6:=hi.length;(have core:∀H:Hp,Aq7 H->?lK->?MR H ?fQ->(∀b,H b≠none->b=a)->(H a≠none->?d5 a=none) → ?HQ:=by intro H hO hS hok hA hK;have NJ:∀[?g7],?D9->?aC->(?gU).get? b=?x:=λe n=>uC e n;(have noA:∀[?g7]{es:?ez DictEntry}{ep:Nat},?D9->?CO->?aC:=λ{b o es ep} e d=>by cases q:H b with| none=>rfl| some u =>have e':b=a:=?vX;subst e';rw[ha]at e;cases e;have d':?Fu ?f3 _=Data.dict es ep:=d;cases d');have nsK:∀{b:Addr}[?iA],?mv b m->(?gU).Ns b m:=λ{b m} #[o,es,ep,e,d,r]=>#[o,es,ep,NJ e (noA e d),d,r];have hKb:K.In ?gU:=?NR (NJ (?Mv KX) (by cases q:H b with| none=>rfl| some u =>have e':b=a:=?vX;subst e';rw[hK ?me]at e;cases e));have hM:Mod K mg ?gU:=#[hKb,?EF,#[mb,nsK hb,hbb],let #[mc,h1,h2]:=hlim;#[mc,nsK h1,h2]];have e0:LS P w K mg ?gU ?gn [] ?bu H:=#[?g,hM,?NR (xM e),qn2 (pR _ _),trivial,?Lm (?G (show b∈([]:?am) from hb) ?w),hok,.of_eq hg];apply ?iz ((F _ hKb ?EF).run ?gn [] ?bu H ?wO ?b3 ?b3 _ _ hr e0 (hbind ?bu ?N) ?H2 (y4 H hO hS)) λr s' h=>?_;cases r with| error e=>exact(hCX H e s' h).elim| ok fl =>cases fl with| next=>exact ?cR h| brk=>exact ?cR h| cont=>exact ?cR h| ret u =>let#[v,H',os,bare,un,Bu2,r',q]:=h;have q':v=?l0:=q;subst q';obtain rfl:u=?h9 ?bO:=r';apply#[?g,OldK.of_keep (?NR ?_),os,bare];cases q:H b with| none=>exact un.keep b o e q (by intro z;exact ?Fk) ?w| some u =>rcases hO b with z|⟨ob,xs,z⟩;{rw[q]at z;cases z};have z2:=un.frzs b ob _ z;let#[e1,_]:=hok b _ z;let#[e2,_]:=Bu2 b _ z2;rw[e]at e1;cases e1;exact e2);cases hk:?d5 a with| some o =>have e:=KX a o hk;rw[ha]at e;cases e;apply core ?dg (λ_=>?ao) (?n #[_,?f3,_,hk,?g,?g,?g,by rw[qc6,Bq6];exact hl,?wl]) (λb u z=>by have z':(none:?mU)=?aB:=z;cases z') (λb z=>?vr) λz=>?vr| none =>apply core (λb=>if b=a then ?h (.frz ?k2 (?a0 ?cT)) else none) ?zZ (?v (?n #[?k2,?Q ?g])) (λb u z=>?_) (λb z=>?_) λ_=>hk;{by_cases hb:b=a;{exact ?n #[_,_,?Q hb]};exact ?v ?mV};{by_cases hb:b=a;{have z':=(?Q hb).symm.trans z;cases z';subst hb;exact#[ha,by rw[qa3];exact hl,vs,_,rv,ha]};have z':=(?mV).symm.trans z;cases z'};by_cases hb:b=a;{exact hb};exact ?G ?mV z
abbrev Eo(s:Stmt)(j:Nat):Stmt:=match s with| .ClassDef _ _ _ ?fL _ _ _ _ _ _ _=>body.getD j ?Gs| _=>?Gs
abbrev Ju(s:Stmt):Arguments:=match s with| ?pk _ a _ _ _ _ _ _ _ _=>a| _=>{ posonlyargs:=[],args:=[],vararg:=none,kwonlyargs:=[],kw_defaults:=[],kwarg:=none,defaults:=[] }
abbrev Hj(s:Stmt):?d4:=match s with| ?pk _ _ b _ _ _ _ _ _ _=>b| _=>[]
abbrev Au(s:Stmt):Scope:=match s with| ?pk _ _ _ _ _ _ sc _ _ _=>sc| _=>{ kind:=?eo,names:=[],isGenerator:=false,isCoroutine:=false }
noncomputable abbrev Ew:vP:=λ_ _ _ _ _ _=>False
noncomputable abbrev E0:XK:=?fU
def HC{X:Cx}:Uk Ew X E0:=λ_ _ _ _ _ _ _ h=>h.elim
structure Fa[?i](x qual:Str)(st:Stmt)(f:Addr)(fd:FuncData):Prop where
 ex:∃(oc:Value) (od:OAddr) (kV doc pm:Value) (an:OAddr) (Dz ct:Value) (osl:Ta),
  fd=?lW/\?K8 fd/\?qR
 kp:?kS
section
variable[?be][?i5]
def Fa.ok[?Hs][?Ii] [?Ha]:?xP:=by ext IS;apply Bb0 lk hcd S len λA outer s H vs Q E hr y4=>?_;let#[t,h,q]:=hbody Dz A ?aZ s H vs Q E hr y4;exact#[t,h.nox,q]
def Fa.okZ[?Hs] [?Ha] (len:?nY:=by intro vs H Q E h;set_option tactic.hygienic true in(repeat (rcases h with⟨⟩;rename_i h));all_goals first | exact ?bw ?EH (by assumption) | (subst_vars;rfl)):?xP:=F.ok S len hbody
def Fa.binds[?JC][?t5](F:?Al) (h:∀(kV doc pm:Value) (an:OAddr) (Dz ct:Value) [?cJ],?MI ?lW):?oA:=by ext IS;exact .all (h kV doc pm an Dz ct)
def FD[?JC]{oc:Value}{od an:OAddr}{osl:Ta}{kV doc pm Dz ct:Value}(l:?K8 ?lW) (c:?qR) (k:?kS):Fa K x ?bQ st f ?lW:=#[(?LK l c),k]
universe e9
section
variable{X:Cx}
def pv(i:Nat){x:Str}[?aF](hN:?yc)(hv:?kc:=by first | exact ?CM | exact ?rR ?CM | exact ?rR (?rR ?g))[?ft] [?IN]:?B0:=Ag9 hN hv hd hcd
universe e9
def ite2[?t7](h1:c->A)(h2:¬c->B):?nM:=by by_cases h:c;{rw[?jY];exact h1 h};rw[?hZ];exact h2 h
abbrev Same(H H':Hp):Prop:=∀b o,?w8
def Same.refl(H:Hp):?cU H H:=λ_ _ h=>h
def Same.trans{H H1 H2:Hp}(a:?rp)(b:?cU H1 H2):?cU H H2:=λc o h=>b c o ?ux
def Same.free[?cr](e:?bK){l:Addr}(h:H' l=Option.none):H l=Option.none:=by cases q:H l with| none=>rfl| some o =>rw[e l o q]at h;cases h
def Same.seq[?aU][?cr][?aX][?b1](e:?bK)(h:?cQ):SqL K H' a xs:=?JW ?EB ?EB
abbrev bU(cells:?dt):?ja->?dt->?dt| [],acc=>acc| ?mP,acc=>bU cells r (if ?mY then ?MY ?ip else acc)
def AI{sc:Scope}{env:Env}(h:∀n,?rN->?wP):closureFor sc env=?OO ?fl []:=by (have all:∀(l:?ja) (acc:?dt),(∀n,?ml∈l->?wP) → (forIn l acc λ(x:?wN) (cs:?dt)=>match x with| (?aP,kind)=>if ?NS (?Ke kind) then(do let c ←cellOf env ?aP;?Nz ((?aP,c)::cs)) else ?Nz cs)=(?OO l acc:Sem _):=by intro l;induction l with| nil=>intro acc _;rfl| cons x r ih =>intro acc hl;let#[n,k]:=x;rw[List.forIn_cons];ext st;{(ext Is);subst hk';let#[c,hc]:=?Gb;(have e1:cellOf env n=?aA c:=by unfold cellOf;rw[hc]);simp only[beq_self_eq_true,if_true,e1,pure_bind];rw[?va];show ?Oc (if ?NS (?Ke NameKind.free) then ?uM else acc);rw[?qP,hc];rfl};(have hk2:?LD ?pb:=?pP);simp only[hk2,qt5,if_false,pure_bind];rw[?va];show ?Oc (if ?mY then ?uM else acc);rw[?dk]);have:=all ?fl [] h;unfold closureFor;dsimp only;rw[this,pure_bind]
def Hv[?J3]{c:Addr}:∀[?Ij],(∀n,?ml∈l->∃c,?ip n=?bC) → (acc.lookup x=?bC->?xA)->?LO x->?xA| [],_,_,ha,h=>ha h| ?mP,acc,hl,ha,h=>by apply Hv (l:=r) ?G4 ?_ h;ext st;{rw[?fO];(ext Is);subst hk';let#[d,hd]:=?Gb;intro e;rw[qr8]at e;cases hx:?gh with| true =>rw[hx]at e;(have hxn:x=n:=?kw);subst hxn;rw[hd]at e ⊢;exact e| false=>rw[hx]at e;exact ha e};rw[?dk];exact ha
def aJ[?J3]:∀[?Ij],(?qy∈l\/∃c,acc.lookup x=?bC)->∃c,?LO x| [],_,h=>by rcases h with h | h;{exact ?km};exact h| ?mP,acc,h=>by apply aJ (l:=r) ?_;ext st;{rw[?fO];by_cases hx:?NS ?gh;{exact ?n #[(?ip n).getD 0,by rw[qr8,hx]]};(have hx2:?LD ?gh:=?kw);rcases h with h|⟨c,h⟩;{rcases ?fR with e | e;{have e1:x=n:=?bw Prod.fst e;exact ?G (by simp[e1]) hx};exact ?r5};exact ?n #[c,by rw[qr8,hx2];exact h]};rw[?dk];rcases h with h | h;{rcases ?fR with e | e;{have e2:NameKind.free=k:=?bw Prod.snd e;exact ?G (by simp[←e2]) hk};exact ?r5};exact ?n h
abbrev Gb(X:Cx)[?tA][?cs](s₀:Shared)(H₀:Hp)[?mE]:Cx where
 prog:=X.prog
 w:=X.w
 K:=X.K
 mg:=X.mg
 base:=X.base
 A:=X.A
 N:=N'
 s₀:=s₀
 H₀:=H₀
 env:=compEnvC sc ?rb C ?p
 outer:=X.stack
 stack:=X.stack
 ex:=fp
 fn:=λ_=>false
 calm:=X.calm
 pn:=[]
 xe:=?dq
abbrev lI[?m2](σ:St):St:=cap.map ?Bb
structure Ye(X:Cx)[?tA][?m2]:Prop where
 kind:?jl
 len:?yn
 nocell:?x3
 locals:∀x∈sc.names,?GL
 free:∀n,?rN->?ga n=?ah\/?ga n=?bx
 slots:∀(i j:Nat) (x:Str),?O9 N'->?Mb cap ?bk->X.N[j]?=?cA/\?De/\?kc
section
variable[?i1][?O]{C:Addr}[?cK]
def Ye.cells[?m7](ok:X.Ok):∀n,?rN->∃c,?kY n=?bC:=λn hn=>ok.has n (c.free n hn)
def Mm{env:Env}{x:Str}{k:NameKind}(hnc:?x3)(h:(relabel sc env).names.lookup x=?h k)(hk:k=?k4\/k=?hW):?HI:=by (have all:∀(l:?ja),(∀x∈l,?qu)->(l.map λ ?e7=>if (?pb&&?Er&&?uE) then ?sW else ?e7).lookup x=?h k->?qy∈l:=by intro l;induction l with| nil=>intro _ h;exact ?km| cons p r ih =>intro hn h;let#[n,q]:=p;rw[qd2,qr8]at h;by_cases hc:?NS (?Ke q&&?Er&&?uE);{(have hq:q=NameKind.free:=by have:=hc;simp only[qc0]at this;simpa using this.1.1);simp only[hc,if_true]at h;cases hx:?gh with| true =>(have e:x=n:=?kw);rw[e,hq];exact qb4| false =>rw[hx]at h;ext Im};simp only[hc]at h;cases hx:?gh with| true =>(have e:x=n:=?kw);simp only[qt5,if_false,hx]at h;(have e2:q=k:=?q7);rcases hk with z | z;{exact ?G (e2.trans z) (hn (n,q) qb4)};rw[e,←z,←e2];exact qb4| false =>simp only[qt5,if_false,hx]at h;ext Im);exact all ?fl hnc h
def yL[?m7][?j](hC:?pU)[?eX][?J1]:(?Ck).Ok where
 mod:=I.ok.mod
 kind:=c.kind
 glob:=I.ok.glob
 blt:=I.ok.blt
 above:=hC
 inj:=λx y a hx hy=>?BS x y a (?Mq hx) (?Mq hy)
 has:=λx hx=>by
  apply aJ (?v ?_);rcases hx with hx | hx
  . exact Mm ?hM hx ?ao
  . exact Mm ?hM hx ?s2
 cab:=λ_ _ h=>?km
 hd:=I.ok.hd
 frames:=I.ok.frames
 stk:=?ao
 exf:=λb hb'=>#[?L0 ?DF hC,λx a e=>(?kL).2.2.2.2.1 x a ?sJ]
 bs:=I.bs
 bsz:=?tS
 noex:=λb o e hb'=>by
  rcases (?kL).2.2.2.1 with z | z
  . exact ?vy b o e z
  . exact ?Jy ?eG (qa5 ?q1 z)
 exfs:=λb hb' z=>by
  let#[_,f1,f2,_]:=?kL;rcases ?sM with e | e
  . exact f1 e
  . exact f2 e
 funs:=I.stack
 frf:=I.stkFree
def US[?m7][?j]{D:Addr}{h1:Heap}{t:Nat}(hC:C=?aR)(hD:?LC D)[?eX][?J1] (hn:h1.Ns C ?dg) (hl:?jL D=?L4 0) (k:?K5 ?bm (?jL b=?x)) : Bo ?Ck [] ?hq ?CF { s with heap:=h1,toks:=t }:=by (have hCs:?pU:=?Fe);(have hCD:C≠D:=by rw[hC,hD];exact ?p4);have ok:=yL (C:=C) (fp:=fp) c I hCs hf hb;(have hDn:?n7:=by rw[hD];exact I.fresh);have ltc:∀x a,(?rb).lookup x=?h a->?DG:=λx a e=>?sJ;have cel:∀a v,?lM a v->h1.IsCell a v:=λa v ?oZ=>#[o,k a o ho,hd];(have ltD:∀a v,?lM a v->a≠D:=λa v ?oZ=>by rw[hD];exact qe2 ?il);apply#[ok,?g,?bL,Un.laid k ?te hDn,#[_,hn,?yh],?tm,?_,?tm,?zr,?_,?_];{(have e2':cap[i]?.map ?Bb=?pW:=by have:=e2;unfold lI at this;rw[qa7]at this;exact this);cases hc:cap[i]? with| none=>rw[hc]at e2';cases e2'| some o =>rw[hc]at e2';cases o with| none=>cases e2'| some j =>(have e4:?CN=?U:=by simpa using e2');let#[q1,q2',q3]:=c.slots i j x e1 hc;have q2:?HI:=q2'.elim (λz=>Mm ?hM z ?ao) λz=>Mm ?hM z ?s2;let#[m,hm,hl']:=I.loc;(have e5:?r6=?pW:=by cases z:?r6 with| none=>rw[z]at e4;cases e4| some y=>rw[z]at e4;cases y with| none=>cases e4| some y'=>cases e4;rfl);let ?pC:=hl' j x v q1 e5 q3;apply ?zM;let#[a,ha]:=aJ (cells:=X.env.cells) (l:=sc.names) (acc:=[]) (x:=x) (?v q2);have kd:?wz:=c.free x q2;rcases l with⟨hk,_⟩|⟨hk,a',ha',hcell⟩;{rcases kd with z | z<;>rw[z]at hk<;>cases hk};(have e6:a'=a:=by have:=ltc x a ha;rw[ha']at this;exact ?Eo);apply ?n #[q2',a,ha,?_];rw[←e6];exact cel _ _ hcell};{let ?nI:=?wc;exact#[v,cel a v z]};{show ?s H D ?hl C=none;rw[Al hCD];exact ?em hCs};{show ?s H D ?hl a=none;let ?nI:=?wc;rw[Al (ltD a v z)];exact ?cx x a ?GF};{exact ?vs k ?te #[?fB,[],0,?M,hl]};show(?hq).length=N'.length;unfold lI;rw[qa3,c.len]
universe e9
abbrev yM(XF:Scope)(N:?X)[?tA][?m2]:Bool :=?B ?jl&&?B ?yn&&?Lq ?qu&&?Lq ?GL && ?Lq (x.2=NameKind.free->(?gi x.1=?ah\/?gi x.1=?bx)) && (?n6).all (λp=>match p.2 with| none=>true| ?bk=>?B (N[j]?=?h p.1)&&?B ((?JP ?ah) ∨ (?JP ?bx)) && ?B (?nn=?cW\/?nn=?ah\/?nn=?bx))
def NG[?i1](h:?zR):?ko:=by unfold yM at h;rw[qc0,qc0,qc0,qc0,qc0,qe6,qe6,qe6,qe6]at h;let#[#[#[#[?cg,h3],h4],h5],h6]:=h;apply#[qc9 h1,qc9 h2,?Md h3,?Md h4,λn hn=>qc9 (h5 _ hn) ?g,λi j x e1 e2=>?_];(have hm:(x,?bk)∈?n6:=by (have e:?Mb ?n6 (x,?bk):=by rw[List.getElem?_zip_eq_some];exact#[e1,e2]);exact qb2 e);have h7:=h6 _ hm;dsimp only at h7;rw[qc0,qc0]at h7;let#[#[h8,h9],h10]:=h7;exact#[qc9 h8,qc9 (p:=?De) h9,qc9 (p:=?Jb ?cW\/?Jb ?ah\/?Jb ?bx) h10]
abbrev PTs(X:Cx)(ifs:?df)(t:TT):Prop :=∀[?a5] [?g3],?T->?fZ → ?JF (forIn ifs ?bO λc r=>if ?NS r then do let ok ←?nl c ?p (?NL c);?Nz ok else ?Nz r) ?qG
abbrev OH:TT:=?M2 ?bO
def Ca{X:Cx}:PTs X [] OH:=?Ji (wpAny_tests_nil #[H,I,h])
def Mn{X:Cx}{c:Expr}{t:TT}(h:PT X c t):PTs X [c] t:=?Ln wpAny_tests_one
abbrev Rj(J:It)(g:TG)(tc:TT)(te:TE)(D:Addr)(Q:?aN)(τ:St)(H:Hp):Prop :=∃W:Nat->?BB,(∃m,W 0 m [] τ H)/\∀i m ys τ H,W i m ys τ H → (?pp/\Q H) ∨ (?oP/\∃N:?yF,(∀ys' τ' H',N ys' τ' H'->∃m',m'<m/\W ?R m' ys' τ' H') ∧ ∀x H',?HJ->g x τ H' (?KP (if ?h4 then ?Na τ2 H3 τ2 else N ys τ2 H3)))
section
variable[?i1][?J4][?aF][?g9]{te:TE}
def qJ{Y:Cx}{J:It}[?cK]{it D:Addr}{tn:?kg}{R:?rL}{Q:?aN}{τ:St}{H:Hp}[?aL] (hx:Y.xe=?dq) (hc:?NS Y.calm) (hg:PG Y tg g) (ht:PTs Y ifs tc) (he:PE Y elt te) (T:Xi Y.prog Y.w Y.K tg J fp it tn) (st:?D1) (hf:∀b∈fp,Nt Y [] H b) (I:Bo Y [] τ H s) (h:?JI J tc) (hR:∀τ' H' s',?vS->Q H'->R ?wL s') : ?dD (?gF Y.prog Y.w) Y.A (?Mc ?Dp) R s:=by let#[W,?AW,turn]:=h;have JN:∀{H':Hp},?eB->∀b∈fp,Nt Y [] H' b:=?Mk ((?lL).2);(have no:∀{P:Prop}{e:Value}{s':Shared},Y.xe e s'->P:=λz=>by rw[hx]at z;exact z.elim);apply codeAny_loop ?g (λn s'=>∃i ys τ' H',?vS/\?AN/\?Mj n) ?_ m0 #[0,[],τ,H,I,st,?io,w0];rintro n s3 ⟨i,ys,τ3,H3,I3,st3,vW,w3⟩;show ?k _ Y.A ((?Mc compTurn).onRaise (λx=>do noteFrame x Y.env;theTreesLotGoes x)) _ _ s3;apply wpAny_noted ?_;rw[compTurn_list];apply ?Nl ?oy ?nS;rcases turn i n ys τ3 H3 w3 with⟨stop,qn⟩|⟨go,N,hN,step⟩;{apply ?Jx T.done stop;let ?DE:=_z;subst hr;exact qd6 (hR _ _ _ I4 qn)};apply ?Jx T.item go;let ?Em:=_z;subst hr;apply qa8 (qn7 h4 ?EV ?qF);ext I2;(have again:∀{τ7:St}{H7:Hp}{ys7:?z}{s7:Shared},Bo Y ([]++?xt) τ7 H7 s7->N ys7 τ7 H7->∃m,m<n/\∃i ys τ' H',Bo Y [] τ' H' s7/\?yj/\?Mj m:=λ{τ7 H7 ys7 s7} I7 n7=>by let ?yD:=hN ys7 τ7 H7 n7;apply#[m',hm,?R,ys7,τ7,H7,?jB,?y7,?de,w7];ext Hv);apply qa8 (qn7 (?LL τ3) ?zt ?ik);let#[τ6,H6,I6,q6]:=_z;apply qa8 (qn7 (ht _ s6 τ6 H6 _ I6 q6) (λok s7 _z=>?_) ?ik);let#[H7,I7,q7]:=_z;cases ok with| false =>(have q8:N ys τ6 H7:=?Cm);exact qd6 #[?g,again I7 q8]| true =>(have q8:?Na τ6 H7 τ6:=?Cm);apply ?Nl qa8 (qn7 (he _ s7 τ6 H7 _ I7 q8) (λy s8 _z=>?_) ?ik);let#[v8,H8,I8,r8,hD,hl,n8]:=_z;apply qa8 (qn7 (Fx _ s8 τ6 H8 ?eA [v8] ?eA [y] (λ_ H9=>N (ys++[v8]) τ6 H9) I8 ?g (?V r8 ?M) #[D,ys,v8,?g,?g,hD,hl,n8]) (λ_ s9 _z=>?_) ?ik);let#[_,H9,I9,_,n9]:=_z;exact qd6 (qd6 #[?g,again I9 n9])
def aI[?O]{J:It}[?cK]{it:Addr}{tn:?kg}{RR:?ai->?eR->?rL}{Q:?eR->?aN}[?aE] [?m7] [?bH] [?sl] [?sf] [?j] (T:?yl) (st:?D1) [?eX] (h:∀D,?n7->?N1 (Q D) ?CF) (hR:∀D C s' H' m',?n7->?pU->?nJ->?lR->?LM ?hJ fp ?dG->?vw->s'.heap.Ns C m'->H' C=none->C ∉ fp->Q D H'->RR ?eA C ?wL s') : ?k ?u ?q ?uN (λacc s₃=>?k ?u ?q (newFunctionEnv sc X.env.globals ?rb [] X.env.qual ?aM ?aS (?h ?p)) (λcenv s₄ =>?dD ?u ?q (.compStart ?dN 0 ?cd acc { cenv with scope:=?na }) (RR acc cenv.locals) s₄) E s₃) E s:=by (have hb:?yZ:=?Lm (by let ?GJ:=T.obj _ _ st b hb;ext b2));apply qn6 (wpAny_newFunctionEnv ?hM (by intro y hy;simp at hy) (λh₁ Am4 YA=>?_) ?s9);dsimp only at Am4 YA ⊢;generalize hH2:?dm { cls:=?ay,dict:=none,data:=?aH ([]:?F).toArray }=H2 at Am4 YA ⊢;(have hC:H2.objs.size=?aR:=by rw[←hH2,qi7]);(have hCl:?Jp H2.objs.size:=?Fe);(have hCn:?Me H2.objs.size:=by rw[hC];exact(?p4).symm);(have old:?K5 ?bm (?C9 b=?x):=?NR (by have l1:=?eG;exact ?uA b o (?L0 l1 hCl) (qa6 _ (hH2▸ ?gP))));have hl:?C9 ?E=?L4 0:=?uA _ _ hCn (qa6 _ (hH2▸ ?dh));(have Bu5:h₁.Ns ?ox ?dg:=by simpa using Am4);have I4:Bo ?l3 [] ?hq ?FR ?AP:=US c I hC ?g hf hb Bu5 hl old;have hfr:?hX:=I.fresh;(have f4:∀b∈fp,Nt ?l3 [] ?FR b:=λb hb'=>by let ?F0:=?kL;have lb:=?DF;apply#[by rw[Al (qe2 lb)];exact f0,(?L0 lb hCl:b≠H2.objs.size),?Gj,?v hb',λx a e=>f4 x a ?sJ,?zr];rcases ?sM with e | e;{exact f1 e};exact f2 e);have st4:tn 0 h₁:=T.keep _ _ _ st λb _ o e=>?Mv old;(have loop:∀s₅:Shared,s₅=?AP → ?dD ?u ?q (?Dp ?dN 0 ?cd ?ad (?l3).env) (RR ?ad ?ox) s₅:=by rintro s₅ rfl;apply qJ (Y:=?l3) (J:=J) (fp:=fp) (tn:=tn) (Q:=Q ?E) ?g hc (hg _ _ _ _) (ht _ _ _ _) (he _ _ _ _) T st4 f4 I4 (h _ hfr) λτ' H' s' I' q'=>?_;let#[m',hn',_]:=I'.loc;exact hR _ _ s' H' m' hfr hCl I'.os I'.bare I'.base I'.hok hn' I'.free (λz=>?Jy (hb _ z) hCl) q');exact codeAny_compStart_list ?AH (T.self _ 0 _ _ _ st4 ?AH)
abbrev yZ(wi:TI)[?m2](g:TG)(tc:TT)(te:TE):TE:=λσ H Q=>wi σ H λJ H1=>∀D,?OU D->?N1 (λH'=>?Cn) (?s H1 D ?hl)
def Bo.fpCh{Ag:Bl}{H:Hp}[?cK][?eX]:∀b∈fp,?tY :=?Lm (let #[_,f1,_,f3,f4,f5]:=?lL;#[f3,f1,f4,f5])
def B6{wi:TI}[?bH][?IO][?sl][?sf] [?si]:?KG ?dN ?vu:=by ext Y;have c:?ko:=NG hcap;rw[eval_ListComp];apply ?AB (use:=none) ?g hs ?zI ?s9 ?EX ?qB;ext IY;apply aI (RR:=?Lb ?aM ?b9) (Q:=λD H'=>?Cn) c hc hg ht he I2 T st2 f2 hW ?_;intro D C s' H' m' hD hC hos hbare hun hok hn hHC hCf q;apply#[m',hn,λh' Sz=>?_];ext Hk;have I4:?JG H' ({ s' with heap:=h' }):=I3.turned (t':=s'.toks) (λb o hb e=>?Jf b hb e) hHC k1 k3 k4 k5;exact#[?eA,H',I4,?g,q]
set_option tactic.hygienic true in def U6{wi:TI}[?da]{px spos:Pos}(hN:X.N.Nodup)(hi':?gy)(hx:?mn)[?bH][?IO] [?sl] [?sf] (hsw:?Ks (?jj ?dN (?h ?iR) spos.line ?p=?aA ?bO)) [?si] [?eS] : PS X (?lU [?iR] ?dN spos) (wG ?vu ?mL):=by ext cI;have c:?ko:=NG hcap;rw[?Mx exec_Assign_Name_used hsw];apply ?Nl ?oy ?nS;show ?k _ ?q (do let _ ←comprehension ?dN sc ?p _ ?uN ?bp ?zF ?ql) _ _ s;apply qa8 (Eh (?AB (use:=?ql) (Q:=?G2) ?g hs ?zI ?s9 ?EX ?qB) λ_ s' hq=>qd6 (qd6 hq));ext IY;apply aI (RR:=?Lb ?ql ?G2) (Q:=λA H'=>CZ i ?lT σ H' ?fP) c hc hg ht he I2 T st2 f2 hW ?_;intro A C s' H' m' hD hC hos hbare hun hok hn hHC hCf q;ext Hk;show ?k _ ?q (?f1 ?iR ?p ?lT) _ _ s';apply ?DP (cC I3 hN hi' hx (v:=?lT) ?g (λs'' I'' _z=>?_) hf);let#[a,Sz,ha]:=_z;(have hCa:C≠a:=by rcases ha with z | z;{rw[z];exact k1};exact λz'=>k4 x a z z'.symm);apply#[m',?uP Sz hCa,λh' Bt4=>?_];have I4:Bo X Ag (σ.set i (?h ?lT)) H' { s'' with heap:=h' }:=I''.turned (t':=s''.toks) (?O5 ((Bt4.2 b hb).trans e)) hHC k1 k3 k4 k5;exact#[_,H',I4,q]
universe e9
section
variable[?g9][?eV]
def Jj[?dU][?cF][?sm] [?Hb]:?JI ?dl tc:=?xT
def uS[?dU][?cF][?IT] [?Hb]:?JI ?dw tc:=?xT
def AH{lo:Int}{n:Nat}[?cF] (hs:?Ko ?qb) [?J2]:?JI ?ep tc:=by apply#[?Lx n ?eF,?o9,?_];rintro i m ys τ H ⟨rfl,hi,p⟩;by_cases hlt:i<n;{apply ?Jk hlt ?C7;let ?j6:=y;subst e y;exact hs i ys τ _ hlt p};ext m0;exact ?v #[?W,?HU]
universe e9
universe L2
namespace L2
open PySem PySem.Spec PyProof.Rows PySem.SeqAt
inductive D where| non | bl (b:Bool) | int (i:Int) | str (x:Str) | tup [?iI] | lst [?iI]
mutual abbrev Rep[?i](H:Hp):?JN V D| v,?J=>v=?J| v,?b7=>v=?b7| v,?a8=>v=?a8| v,?cz=>v=?cz| v,?dj=>∃a vs,?ei/\?Lc a vs/\?ck| v,?gm=>∃a vs,?ei/\?KM a vs/\?ck abbrev Reps[?i](H:Hp):?JN ?z ?aV| vs,[]=>?ke| vs,?d0=>∃v r,?HC/\?d6/\?KF r ds end
mutual abbrev imm:?s1| ?j5=>false| ?dj=>?qQ| _=>true abbrev imms:?Et| []=>true| ?d0=>imm d&&?qQ end
mutual abbrev dep:D->Nat| ?gm=>?cw+1| ?dj=>?cw+1| _=>0 abbrev deps:?aV->Nat| []=>0| ?d0=>max ?jf ?cw end
mutual abbrev eqD:D->?s1| ?J,?J=>true| .bl a,?b7=>?l5| .bl a,?gV=>(if a then 1 else 0)==b| ?o a,?b7=>a==(if b then 1 else 0)| ?o a,?gV=>?l5| ?c6 a,?c6 b=>?l5| ?ac a,?ac b=>?f6| ?a0 a,?a0 b=>?f6| _,_=>false abbrev eqDs:?aV->?Et| [],[]=>true| a::r,b::q=>eqD a b&&eqDs r q| _,_=>false end
mutual def Ra(d:D):eqD d d=true:=by cases d with| non=>rfl| bl b=>simp[eqD]| int b=>simp[eqD]| str b=>simp[eqD]| tup ds=>ext g8;exact ?n8 ds| lst ds=>ext g8;exact ?n8 ds def eqDs_refl[?iI]:eqDs ds ds=true:=by cases ds with| nil=>rfl| cons d r=>simp only[eqDs,qc0];exact#[Ra d,?n8 r] end
def eqDs_len:∀{a b:?aV},?NS ?f6->?jP| [],[],_=>rfl| [],?cC,h=>?Cp| ?cC,[],h=>?Cp| x::a,y::b,h=>by simp only[eqDs,qc0]at h;rw[qd5,qd5,?Dz h.2]
def Q9:∀(a b:?aV),?jP->?f6=(?ce a.length).all λj=>match a[j]?,b[j]? with | ?cA,?gQ=>eqD x y | _,_=>true
 | [],[],_=>by simp[eqDs]
 | [],?cC,h=>?dE
 | ?cC,[],h=>?dE
 | x::a,y::b,h=>by
   have h':?jP:=?q7
   rw[qd5,List.range_succ_eq_map,List.all_cons,List.all_map];simp only[eqDs,Q9 a b h']
   congr 1
structure V0(H H':Hp):Prop where
 tup:?kZ
 frz:?r9
section
variable[?aU]{H H' H1 H2:Hp}{a l p:Addr}[?b1]{o:HO}
def Same.t[?mJ]:?gw:=#[λb xs h=>x b _ h,λb o u h=>x b _ h]
def V0.lst(h:?fC):V0 H ?xB:=#[λb ys e=>?wo,λb ob u e=>?wo]
def Same.new(h:?jm):?cU H ?xB:=?OX (by rw[Al ?qL];exact e)
def Same.turn(x:?rp)(h:?jm):?cU H (?s H1 l o):=?OX (by rw[Al ?qL];exact x b u e)
def SqT.t(x:?gw)(h:?av):?Es:=?JW (x.tup _ _ h) (x.frz _ _ _ h)
def Same.seqT[?mJ](h:?av):?Es:=h.t x.t
mutual def Rep.t(x:?gw){v:V}{d:D}(hi:imm d=true)(h:?d6):?wn:=by cases d with| non=>exact h| bl b=>exact h| int i=>exact h| str x=>exact h| tup ds =>ext m6;exact#[a,vs,e,q.t x,Reps.t x (by simpa[imm]using hi) r]| lst ds=>simp[imm]at hi def Reps.t(x:?gw)[?dX](hi:?NS ?qQ)[?tE]:?GB:=by cases ds with| nil=>exact h| cons d r =>let ?FF:=h;simp only[imms,qc0]at hi;exact#[v,q,e,Rep.t x hi.1 h1,Reps.t x hi.2 h2] end
mutual def Rep.same[?mJ]{v:V}{d:D}(h:?d6):?wn:=by cases d with| non=>exact h| bl b=>exact h| int i=>exact h| str x=>exact h| tup ds =>ext m6;exact#[a,vs,e,x.seqT q,?mM x r]| lst ds =>ext m6;exact#[a,vs,e,x.seq q,?mM x r] def Reps.same[?mJ][?dX][?tE]:?GB:=by cases ds with| nil=>exact h| cons d r =>let ?FF:=h;exact#[v,q,e,?GQ x h1,?mM x h2] end
def Reps.length:∀[?dX],?ck->vs.length=ds.length| vs,[],h=>by ext lu;rfl| vs,?d0,h=>by let ?Cj:=h;rw[qd5,qd5,Reps.length h2]
def Reps.get:∀[?dX]{i:Nat}{d:D},?ck->?pI->∃v,?gl/\?d6| vs,[],i,d,h,e=>?Ep| vs,?on,0,d,h,e=>by let#[v,r,?g,h1,_]:=h;simp only[qu7,Option.some.injEq]at e;subst e;exact#[v,?w,h1]| vs,?on,?R,d,h,e=>by let ?Cj:=h;let ?w6:=Reps.get (i:=i) h2 ?qh;exact#[u,by simpa using e1,e2]
def Reps.getV:∀[?dX]{i:Nat}{v:V},?ck->?gl->∃d,?pI/\?d6:=λ{vs ds i v} h e=>by have hl:=h.length;have hi:?pu:=(?cy e).1;obtain⟨d,hd⟩:∃d,?pI:=#[ds[i]' ?l,?bA];let ?w6:=h.get hd;rw[e]at e1;cases e1;exact#[d,hd,e2]
def Reps.append:∀{vs ws:?z}{ds es:?aV},?ck->?KF ws es->?KF ?zO (ds++es)| vs,ws,[],es,h,h'=>by ext lu;exact h'| vs,ws,?d0,es,h,h'=>?MQ (r++ws) (Reps.append h2 h')
def Reps.one{v:V}{d:D}(h:?d6):?KF [v] [d]:=#[v,[],?g,h,?g]
def Reps.snoc[?dX]{v:V}{d:D}[?tE](h':?d6):?KF (vs++[v]) ?pR:=h.append (.one h')
def Reps.take:?NK vs.take ds.take| vs,ds,0,h=>by simp[Reps]| vs,[],n+1,h=>?yf| vs,?d0,n+1,h=>?MQ (r.take n) (Reps.take n h2)
def Reps.drop:?NK vs.drop ds.drop| vs,ds,0,h=>h| vs,[],n+1,h=>?yf| vs,?d0,n+1,h=>by let ?nH:=h;exact Reps.drop n h2
abbrev Fb[?cn]:?aV:=?ii D.int
noncomputable abbrev tI[?cn]:D:=?ac ?h6
def CU:∀ns:?I,imms ?h6=true| []=>rfl| ?ij=>by show ?NS (imm ?j9&&imms ?h6);rw[CU ns];rfl
def uA[?cn]:imm ?yR=true:=CU ns
def v9:∀xs:LLInt,imms ?ci=true| []=>rfl| ?hv=>by show ?NS (imm ?p5&&imms ?ci);rw[v9 xs,uA];rfl
def DE:∀a b:?I,?yL=?pf| [],[]=>?mQ| [],?cC=>?mQ| ?cC,[]=>?mQ| x::a,y::b=>by show(eqD ?qO (?o y)&&?yL)=_;rw[DE a b];ext g8;by_cases e:x=y;{subst e;by_cases e2:a=b<;>simp[e2]};simp[e]
def uK(a b:?I):eqD (tI a) (tI b)=?pf:=by ext g8;exact DE a b
def Eu:∀[?dd][?co],?KF vs ?h6↔vs=?cT| vs,[]=>Iff.rfl| vs,?ij=>by constructor;{rintro ⟨v,r,rfl,h1,h2⟩;have jG:v=?j9:=h1;rw[jG,Eu.mp h2];rfl};rintro rfl;exact#[?j9,?cT,?g,?g,?v8]
universe e9
section
variable{X:Cx}[?O]
def MO[?j][?aX][?ea][?tF](h':?uo):False:=by
 let(?Lu r #[o,e,c,n,d]):=?ax h;let(?Ll c'):=?az h';rw[e]at e';cases e';rw[c]at c';have z:(?dO:String)=?ch:=by injection c'
 exact ?G z ?aQ
mutual
def Rep.inj[?j]{v:V}{d e:D}(h:?N2 v d)(h':?rc):d=e:=by
 cases d with
 | non=>cases (?Kz ?J);cases e<;>first | rfl | (exfalso;first | (cases (?KQ V.non)) | ext lr)
 | bl b=>cases (?Kz ?b7);cases e<;>first | (cases ?yw;rfl) | (exfalso;first | (cases ?yw) | ext lr)
 | int b=>cases (?Kz ?gV);cases e<;>first | (cases ?BJ;rfl) | (exfalso;first | (cases ?BJ) | ext lr)
 | str b=>cases (?Kz (?c6 b));cases e<;>first | (cases ?vc;rfl) | (exfalso;first | (cases ?vc) | ext lr)
 | tup ds =>
   let#[a,vs,rfl,q,r]:=h;cases e with
   | tup es =>
     ext lp;have e1:=?Dh q q';subst e1;rw[?vd]
   | lst es =>
     ext lp;exact(MO I q q').elim
   | non=>ext dS
   | bl _=>ext dS
   | int _=>ext dS
   | str _=>ext dS
 | lst ds =>
   let#[a,vs,rfl,q,r]:=h;cases e with
   | lst es =>
     ext lp;have e1:=?l7 q q';subst e1;rw[?vd]
   | tup es =>
     ext lp;exact(MO I q' q).elim
   | non=>ext dS
   | bl _=>ext dS
   | int _=>ext dS
   | str _=>ext dS
 def Reps.inj[?j][?dd]{ds es:?aV}(h:?hk)(h':?a2 ?t H vs es):ds=es:=by
 cases ds with
 | nil =>
   cases (show vs=[] from h);cases es with
   | nil=>rfl
   | cons e es=>ext i6
 | cons d ds =>
   let#[v,r,rfl,h1,h2]:=h;cases es with
   | nil=>cases (show v::r=[] from h')
   | cons e es =>
     let#[v',r',z,jG,h2']:=h';cases z;rw[?rJ I h1 jG,?zK I h2 h2']
end
abbrev EqD(X:Cx)(H:Hp)[?bj](d:D):Prop:=∀(A:Around) (x y:V) (u v:Value) (e:D),?Kr ?jf->?sU->?N2 y e->?bd->?rv->RcAt A s u v ?o2/\EqAt A s u v ?o2
def dX[?j]{ds es:?aV}{vs ws:?z}{us us':?F}[?S](hu:?u7)(r:?hk)(r':?a2 ?t H ws es)(rv:?eH)(mJ:?a4 ws us')
 (ih:?EP) (hdm:∀d∈ds,?CZ):∀j (h1:j<us.toArray.size) (h2:j<us'.toArray.size),EqAt A s ?xG ?Ao (match ds[j]?,es[j]? with | ?cA,?gQ=>eqD x y | _,_=>true):=by
 intro j h1 h2;have l1:=r.length;have l2:=r'.length;have l3:=rv.length;have l4:=mJ.length;have jG:j<us.length:=?kr
 have h2':j<us'.length:=?nv
 have e1:ds[j]?=?h ?AS:=?bA
 have e2:es[j]?=?h (es[j]' ?l):=?bA
 let#[v,ev,rd]:=?fN e1;let#[w,ew,re]:=r'.get e2;let#[u,eu,ru]:=?fk ev;let#[u',eu',ru']:=mJ.get ew
 have f1:?xG=u:=by
  have:us[j]?=?h us[j]:=?w
  rw[eu]at this;ext sq
 have f2:?Ao=u':=by
  have:us'[j]?=?h us'[j]:=?w
  rw[eu']at this;ext sq
 rw[f1,f2,e1,e2];have hm:?AS∈ds:=qd7 _;exact(ih _ hm A v w u u' _ (by have:=hdm _ hm;ext d) rd re ru ru').2
def R8:∀{ds:?aV}{d:D},d∈ds->?CZ| ?on,d,h=>by simp only[deps];rcases ?fR with rfl | h;{ext d};have:=R8 h;ext d
def Rq{a b:?aV}(h:¬?jP):?LD ?f6:=by cases q:?f6 with| false=>rfl| true=>exact ?G (?Dz q) h
mutual
def UK[?j](d:D):?wF:=by
 intro A x y u v e hu hx hy rx ry;cases d with
 | non =>
   cases (show x=.non from hx);cases (show u=Value.none from rx);cases e with
   | non=>ext fs;exact#[?ul,?nP]
   | bl b=>ext fq;exact#[?sV,?sV]
   | int i=>ext fw;ext cm;exact#[?qe,?qe]
   | str z=>ext fy;ext cm;exact#[?pE,?pE]
   | tup es=>ext dW;ext dQ;exact#[?rT,?rT]
   | lst es=>ext dW;ext dR;exact#[?mt,?mt]
 | bl c =>
   cases (show x=.bl c from hx);cases (show u=Value.bool c from rx);cases e with
   | non=>ext fs;exact#[?rH,?rH]
   | bl b=>ext fq;exact#[?rg,?rg]
   | int i=>ext fw;ext cm;exact#[?pV,?pV]
   | str z=>ext fy;ext cm;exact#[?or,?or]
   | tup es=>ext dW;ext dQ;exact#[?oI,?oI]
   | lst es=>ext dW;ext dR;exact#[?mj,?mj]
 | int c =>
   cases (show x=.int c from hx);let#[t,rfl]:=rx;cases e with
   | non=>ext fs;exact#[?nk,?nk]
   | bl b=>ext fq;exact#[?qK,?qK]
   | int i=>ext fw;ext A;exact#[?rP,?rP]
   | str z=>ext fy;ext A;exact#[?qY,?qY]
   | tup es=>ext dW;ext dQ;exact#[?nX,?nX]
   | lst es=>ext dW;ext dR;exact#[?nh,?nh]
 | str c =>
   cases (show x=.str c from hx);let#[t,rfl]:=rx;cases e with
   | non=>ext fs;exact#[?rC,?rC]
   | bl b=>ext fq;exact#[?nV,?nV]
   | int i=>ext fw;ext A;exact#[?om,?om]
   | str z=>ext fy;ext A;exact#[?mc,?mc]
   | tup es=>ext dW;ext dQ;exact#[?pN,?pN]
   | lst es=>ext dW;ext dR;exact#[?qA,?qA]
 | tup ds =>
   ext In;let ?fM:=?ax q;ext IH
   cases e with
   | non=>ext fs;exact#[?n2,?n2]
   | bl b=>ext fq;exact#[?o8,?o8]
   | int i=>ext fw;ext A;exact#[?mm,?mm]
   | str z=>ext fy;ext A;exact#[?ps,?ps]
   | lst es=>ext ll;let ?kQ:=?je;exact#[?sF,?sF]
   | tup es =>
     have hy':=hy;ext ll;let ?ji:=?jS
     have main:?Lk ?dj ?ac:=by
      have:=RcAt.tuples (A:=A) p p' ?l ?Gx;ext le
      ext lf
      rw[e1,e2]at this;ext sn
      . rw[?jT];rw[←hl,qv7]at this;simpa using this
      . ext IF
        rw[z,Bool.and_false]at this;exact this
     apply ?uj;by_cases hab:a=b
     . subst hab;have e3:D.tup ds=D.tup es:=?wU;rw[e3,Ra];exact ?nP
     . exact ?BQ
 | lst ds =>
   ext In;let ?fM:=?az q;ext IH
   cases e with
   | non=>ext fs;exact#[?pJ,?pJ]
   | bl b=>ext fq;exact#[?sZ,?sZ]
   | int i=>ext fw;ext A;exact#[?sb,?sb]
   | str z=>ext fy;ext A;exact#[?pH,?pH]
   | tup es=>ext ll;let ?kQ:=?jS;exact#[?oj,?oj]
   | lst es =>
     have hy':=hy;ext ll;let ?ji:=?je
     have main:?Lk ?gm ?a0:=by
      ext le
      ext lf
      ext sn
      . have:=RcAt.lists (A:=A) ?aD ?hw ?l ?l ?Gx;rw[e1]at this;rw[?jT];exact this
      . rw[Rq hl];exact RcAt.lists_lengths ?aD ?hw ?zX ?l
     apply ?uj;by_cases hab:a=b
     . subst hab;have e3:D.lst ds=D.lst es:=?wU;rw[e3,Ra];exact ?nP
     . exact ?BQ
 def eqDs_ok[?j][?iI]:?EP:=by
 cases ds with
 | nil=>exact λ_ h=>?km
 | cons d0 r =>
   intro d h;rcases ?fR with e | h
   . exact e▸UK I d0
   . exact eqDs_ok I r d h
end
universe e9
universe L2
namespace L2
open PySem PySem.Spec PyProof.Rows PySem.SeqAt
section
variable{X:Cx}
abbrev eqF(X:Cx)(H:Hp)(d:D)[?cN]:Bool:=@decide (∃v e,?bv/\?rc/\?NS ?jk) ?oS
def kX[?O][?j]{d e:D}{v:V}[?aW][?dc](h:?rc):eqF X H d u=?jk:=by cases q:?jk with| true=>exact @qf8 _ ?oS #[v,e,r,h,q]| false =>apply @qm7 _ ?oS ?_;rintro ⟨v',e',r',h',q'⟩;have:=?lB;subst this;rw[?rJ I h h']at q;rw[q]at q';cases q'
def kY[?O][?j][?S]{x:V}[?eg]{d:D}[?dd][?a7]{ds:?aV}(hu:?u7)(hx:?sU)(rx:?d1) (r:?hk) (rv:?eH):∀y,y∈us.toArray->EqAt A s y v (eqF X H d y):=by intro y hy;(have hy':y∈us:=by simpa using hy);let ?qv:=qf5 hy';have hlt:i<us.length:=?hc;have l1:=rv.length;obtain⟨w,hw⟩:∃w,?oJ=?ey:=#[vs[i]' ?l,?bA];let#[u,XZ,ru]:=?fk hw;rw[hi]at XZ;cases XZ;let#[e,he,re]:=r.getV hw;rw[kX I ru re];have hm:e∈ds:=qb2 he;exact(UK I e A w x y v d (by have:=R8 hm;ext d) re hx ru rx).2
def NK[?O][?j]{d:D}:∀[?dd][?a7]{ds:?aV},?hk->?eH->us.any ?gL=?jz| vs,us,[],r,rv=>by cases (?Jj ?ke);cases rv;rfl| vs,us,e::ds,r,rv=>by let#[v,q,?g,h1,h2]:=r;cases rv with| cons r1 r2=>rw[qo7,qo7,kX I r1 h1,NK I h2 r2]
abbrev Bd2[?i](H:Hp)(y:V)[?iI]:Prop:=?KX y ?gm\/?KX y ?dj
inductive Ac0[?i](n:Nat)(neg:Bool)[?bG]:Prop| mk:∀d ds,?fI->(Bd2 K H y ds)->?uK->(?NE (if neg then ! ?jz else ?jz))->?AT
abbrev A21[?i](n:Nat)(neg:Bool):R2:=?JU ?AT
def oU{n:Nat}[?g1]:?MH ?t:=by ext cG;let#[d,ds,hx,hs,hn,q]:=h;have fin:∀[?a7][?dd],?hk->?eH->?Je (?cS (!us.toArray.any ?gL)) s:=λr rv =>#[.bl (! ?jz),H,I,by show ?h9 _=?h9 _;rw[List.any_toArray,NK I r rv],q];rcases hs with⟨a,vs,rfl,hq,r⟩|⟨a,vs,rfl,hq,r⟩;{cases ry;let ?fM:=?bT;exact notIn_listAt ?gL ?aD ?By ?ty};cases ry;let ?fM:=?dn;exact notIn_tupleAt ?gL p ?By ?ty
inductive nU[?i](n:Nat)(x:V)[?bi][?b0]:Prop| mk:∀ds y d j,?wp->(?KX x ?gm)->(?KX y d)->?uK->(ds.findIdx? ?Dd=?bk)->(Q ?AX H)->?Fs
abbrev RZ[?i](n:Nat):?hn:=?ML ?Fs
def tH{n:Nat}[?g1]:?N4 ?t:=by ext sr;let#[ds,y,d,j,?g,#[a,ws,?g,hq,r],hy,hn,hj,q]:=h;ext sw;let(?Lt rw' p):=?bT;have l1:=r.length;have l2:=rw'.length;let#[hlt,hit,hno]:=List.findIdx?_eq_some_iff_getElem.mp hj;(have at':∀m (hm:m<its.toArray.size) (hm':m<ds.length),eqF X H d ?CI=eqD ds[m] d:=λm hm hm'=>by let#[w,hw,re]:=?fN (i:=m) (d:=ds[m]) ?w;let#[u',hu',ru']:=rw'.get hw;(have e1:?CI=u':=by (have hm2:m<its.length:=by simpa using hm);(have:its[m]?=?h its[m]:=?w);rw[hu']at this;ext sq);rw[e1];exact kX I ru' re);let#[o,k,ho,hc,hdn,hd]:=id p;let ?s7:=o;simp only at hc hdn hd;subst hc hdn hd;have hsz:?JY ds.length:=O9m;(have big:?oW<?c2:=?DS);apply ?gW PySem.F.slot_list_index ?hB PySem.F.entry_list_index (PySem.F.args_list_index_2 _ _) (list_indexAt a ?a3 k ?aM sl u ?gL j ?bA ?l ?_ ?_) #[ho,?MN hy ru rw',?_];{rw[at' j ?bA hlt];exact hit};{intro m hm hmj;rw[at' m hm ?a1];have:=hno m hmj;simpa using this};exact(?Nr ?AX q)
inductive Ab7[?i](n:Nat)[?bG]:Prop| mk:∀d e,?fI->(?KX y e)->(?jf<=n)->(Q ?Dl H)->?FU
abbrev A09[?i](n:Nat):R2:=?JU ?FU
def Ah4{n:Nat}[?g1]:?Mz ?t:=by
 ext cG;let#[d,e,hd,he,hn,q]:=h;have fin:?Je (?cS ?ma) s:=(?O0 ?Dl q)
 have go:∀{k:Bool},RcNeAt ?q s v u k->k=?ma->?JF (?c8 .NotEq v u) ?b9:=λh1 h2=>by
  subst h2;exact h1 ?aa X.w ?y _ fin
 cases d with
 | non =>
   cases (show x=.non from hd);cases (show v=Value.none from rx);cases e with
   | non=>ext fr;exact ?Jg ?ul
   | bl b=>ext fp;exact ?Jg ?sV
   | int i=>ext fv;ext cm;exact ?Jg ?qe
   | str z=>ext fx;ext cm;exact ?Jg ?pE
   | tup es=>ext dV;ext dQ;exact ?Jg ?rT
   | lst es=>ext dV;ext dR;exact ?Jg ?mt
 | bl c =>
   cases (show x=.bl c from hd);cases (show v=Value.bool c from rx);cases e with
   | non=>ext fr;exact ?Jg ?rH
   | bl b=>ext fp;exact ?Jg ?rg
   | int i=>ext fv;ext cm;exact ?Jg ?pV
   | str z=>ext fx;ext cm;exact ?Jg ?or
   | tup es=>ext dV;ext dQ;exact ?Jg ?oI
   | lst es=>ext dV;ext dR;exact ?Jg ?mj
 | int c =>
   cases (show x=.int c from hd);let#[t,rfl]:=rx;cases e with
   | non=>ext fr;exact ?Jg ?nk
   | bl b=>ext fp;exact ?Jg ?qK
   | int i=>ext fv;ext A;exact ?Jg ?rP
   | str z=>ext fx;ext A;exact ?Jg ?qY
   | tup es=>ext dV;ext dQ;exact ?Jg ?nX
   | lst es=>ext dV;ext dR;exact ?Jg ?nh
 | str c =>
   cases (show x=.str c from hd);let#[t,rfl]:=rx;cases e with
   | non=>ext fr;exact ?Jg ?rC
   | bl b=>ext fp;exact ?Jg ?nV
   | int i=>ext fv;ext A;exact ?Jg ?om
   | str z=>ext fx;ext A;exact ?Jg ?mc
   | tup es=>ext dV;ext dQ;exact ?Jg ?pN
   | lst es=>ext dV;ext dR;exact ?Jg ?qA
 | tup ds =>
   let ?wD:=hd;cases rx;let ?fM:=?ax q1;ext IE
   cases e with
   | non=>ext fr;exact ?Jg ?n2
   | bl b=>ext fp;exact ?Jg ?o8
   | int i=>ext fv;ext A;exact ?Jg ?mm
   | str z=>ext fx;ext A;exact ?Jg ?ps
   | lst es=>ext lk;let ?kQ:=?je;exact ?Jg ?sF
   | tup es =>
     ext lk;let ?ji:=?jS;apply go (RcNeAt.tuples p p' ?l ?ER) ?_;ext le
     ext lf
     rw[e1,e2];ext sn
     . rw[?jT,←hl,qv7];simp
     . ext IF
       rw[z,Bool.and_false]
 | lst ds =>
   let ?wD:=hd;cases rx;let ?fM:=?az q1;ext IE
   cases e with
   | non=>ext fr;exact ?Jg ?pJ
   | bl b=>ext fp;exact ?Jg ?sZ
   | int i=>ext fv;ext A;exact ?Jg ?sb
   | str z=>ext fx;ext A;exact ?Jg ?pH
   | tup es=>ext lk;let ?kQ:=?jS;exact ?Jg ?oj
   | lst es =>
     ext lk;let ?ji:=?je;ext le
     ext lf
     by_cases hl:?vF
     . apply go (RcNeAt.lists ?aD ?hw ?l ?l ?ER) ?_;rw[e1];ext g8;rw[?jT]
     . apply go (RcNeAt.lists_lengths ?aD ?hw ?zX ?l) ?_;ext g8;rw[Rq hl];rfl
abbrev pK(n:String):?s1| ?J=>false| ?dA=>n==?bz || n==?fj| ?cZ=>n==?bz| ?bY=>n==?hf| ?ac _=>n==?dO| ?j5=>n==?ch
abbrev tyD:D->String| ?J=>"NoneType"| ?dA=>?fj| ?cZ=>?bz| ?bY=>?hf| ?ac _=>?dO| ?j5=>?ch
def Ak8[?aU]{n:String}{d:D}(hn:?nF):PySem.W.kitOne K (?an (tyD d)) ?s6=?h ?rs:=by rcases hn with rfl | rfl | rfl | rfl | rfl | rfl<;>cases d<;>(unfold PySem.W.kitOne PySem.W.kitCls PySem.W.subIn tyD pK;first | rfl | ext ap)
def IU:?JQ ?rS (∃x n d,?EN/\?nF/\?sU/\?F9):=by ext dT;let#[x,n,d,?g,hn,hx,q]:=h;let#[u,v,?g,rx,rt]:=gD r;cases rt;have k:=Ak8 (K:=X.K) (d:=d) hn;have fin:∀tk,?Je (?cS ?rs) ({ s with toks:=tk }):=λtk=>#[?vB,H,I.tok tk,?g,q];cases d with| non=>cases (?Kk ?J);cases (show ?lF from rx);exact ?Jc PySem.W.kitx_none ?lP| bl b=>cases (?Kk ?b7);cases (show ?kP from rx);exact ?Jc PySem.W.kitx_bool ?lP| int b=>cases (?Kk ?gV);ext eY;exact ?Jc PySem.W.kitx_int ?lP| str b=>cases (?Kk (?c6 b));ext eY;exact ?Jc PySem.W.kitx_str ?lP| tup ds =>let ?F5:=hx;cases rx;let(?Lu _ #[o,e,c,_]):=?dn;exact ?Jc PySem.W.kitx_tuple ?FB| lst ds =>let ?F5:=hx;cases rx;let(?Lu _ #[o,_,e,c,_]):=?bT;exact ?Jc PySem.W.kitx_list ?FB
inductive VH[?i][?bG]:Prop| mk:?NV (?AL->?L8 ?os ?Do)
abbrev zE[?i]:R2:=?JU ?Do
def xG:?Kl zE ?t:=by ext cG;let#[a,b,xs,ys,?g,?g,ha,hb,hz,q]:=h;by_cases hx:xs=[];{subst hx;cases rx;cases ry;let ?rr:=?ax ha;let ?qc:=?ax hb;cases r1;let ?Ek:=id p1;let ?tz:=id p2;simp only at hc hd hc2 hd2;subst hc hd hc2 hd2;exact ?Jv (tuple_addW0 a b _ _ n n2 dd dd2 sl sl2 ?w) #[ho,ho2,(?O0 ?e3 (q b H ?z9 ?fE))]};apply XG Ag s σ H ?N ?e3 v u Q I rx ry (?MK (λe=>?_) (λe p hp=>?_));{subst e;exact q a H ?z9 (by simpa using ha)};exact ?Fi
inductive vG[?i][?sv][?b0]:Prop| mk:∀a xs,?bX->?av->?Aw->?L8 ?k8 ?un
abbrev ZD[?i]:?gk:=?La ?un
def wK:?Mp ZD:=by ext sj;let ?Cv:=h;exact Af3 Ag s σ H ?N v vl vu lo hi sl Q I rx hs pl pu #[a,xs,?g,hx,hw,λp hp=>?Fi]
inductive NV[?i][?bG]:Prop| mk:∀l b xs zs,?is->?qq->(?KM l xs)->(?KM b zs)->?NH (?JY (xs.length+zs.length)) (?a0 (xs++zs)) ?yU
abbrev sA[?i]:R2:=?JU ?yU
def sP:?Kl sA ?t:=by ext cG;let#[l,b,xs,zs,?g,?g,hl,hb,hz,q]:=h;cases rx;cases ry;let ?rr:=?az hl;let ?qc:=?az hb;let#[?s7,n,ho,hc,hdd,hd]:=id p1;let#[?Ea,n2,ho2,hc2,hdd2,hd2]:=id p2;ext Id;apply ?ky ?hB ?ka noFill_list_add seq_list_add PySem.F.slot_list_add PySem.F.entry_list_add (PySem.F.args_list_add_2 _ _) (list_addW l b ?a3 its2.toArray n n2 dd dd2 sl sl2 (by rw[qc6,qc6,←r1.length,←r2.length];exact hz)) ?HT;rw[show its.toArray++its2.toArray=(its++its2).toArray by simp];exact(?MD ?ad ?E0 ?vm)
def qN[?bH]:?JQ ?nw (∃(p:Addr) (bs:?C ?c3),?bo/\?Oa p ?Cl/\?wS):=by ext dT;let#[p,bs,?g,hq,q]:=h;ext Ht;(have rel:?Kc (∃b,?ki=?h b/\v=?nC):=λi v e=>by ext Hy;ext sx;(have hb:?ki=?h ?FI:=?bA);let ?en:=?Ms V.bl ?FI;rw[e']at hu;cases hu;exact#[_,hb,ru]);apply call_all_walk ?Co;apply#[?E,?BW,?CA,?ht,_,_,?DV,?g,?wG,?vJ,?_,λh' tk k=>?_];ext I3;{intro i v s' Q' E' hv hQ;let#[b,hb,?g]:=rel i v hv;dsimp only at hQ;rw[hb]at hQ;exact ql8 hQ};(have e:(?ce ?ht).all ?DV=?GX:=by ext sx;rw[qc6,←l1];rw[qn1,qe6,qe6];constructor;{intro hx b hb;let ?qv:=qf5 hb;have:=hx i (qd9.mpr ?hc);rw[hi]at this;exact this};intro hx i hi;have hlt:=?GD;(have hb:?ki=?h bs[i]:=?w);rw[hb];exact hx _ (qd7 _));rw[e];ext Ho;exact#[?Fa,H,I1,?g,q]
universe e9
structure Has[?dY][?i][?i4](x:Str)(ps:?X)(k:Nat)(sp:Sp):Prop where
 ex:∃(f:Addr) (fd:FuncData),mg x=?ng/\?kS/\?oA/\?KT Ew k fd
section
variable{X:Cx}[?IX][?aT]{t:TA}
def Ao(h:Has ?aa X.w ?t ?cu ?cf x ps j sp)[?iF][?g2][?J0](hk:?r (j<=k) ?fF)[?hy] (hpl:?r (?fo (·.1)=false) ?D):?KG ?j7 (tCall sp [] E0 t):=by let#[f,fd,h1,h2,h3,h4]:=h.ex;exact XE h4 (hr.mono hk) hg h1 h2 h3 ?M HC ha hdb he hpl
universe e9
def boot_intT:?KZ ?bz ?bz:=?b4
def LK:?KZ ?fj ?fj:=?b4
def Ka:?O7 ?dO ?bN:=?b4
def El:?O7 ?ch ?ay:=?b4
def Gc:?KZ ?kW ?kW:=?b4
def DJ:?O7 "max" ?zY:=?b4
def qP:?O7 "min" ?uc:=?b4
def Sc:?O7 "all" ?nw:=?b4
def Dn:?O7 ?Fo ?rS:=?b4
universe L2
namespace L2
open PySem PySem.Spec PyProof.Rows
section
variable{X:Cx}[?aU]{tg l:Expr}{tl:TE}{n:Nat}
def Fl.imp{X:Cx}{f:Value}{r r':?bs}(h:Fl X f r)(i:∀xs H Q,r' xs H Q->?Cx):Fl X f r':=λAg s σ H xs us Q I v q=>h Ag s σ H xs us Q I v (i xs H Q q)
inductive vH[?i][?aK][?b0]:Prop| mk:?OD ?wi (?yO->?EL)
abbrev A19[?i]:?bs:=?NX ?EL
inductive jC[?i][?aK][?b0]:Prop| mk:?OD ?wi (?th->?uT)
abbrev WQ[?i]:?bs:=?NX ?uT
inductive NS[?i][?aK][?b0]:Prop| mk:?OD ((?Ob ?Fy ?A5)) ?uy
abbrev Af9[?i]:?bs:=?NX ?uy
inductive JC[?i][?aK][?b0]:Prop| mk:∀x n d,?EN->?nF->?fI->?F9->?Fm
abbrev wR[?i]:?bs:=?NX ?Fm
inductive vJ[?i][?aK][?b0]:Prop| mk:∀(p:Addr) (bs:?C ?c3),?bo->(?KM p ?Cl)->?wS->?uW
abbrev A23[?i]:?bs:=?NX ?uW
def Q3[?a6]:?Kl zE K:=by subst hK;exact xG
def Jg[?a6]:?Kl sA K:=by subst hK;exact sP
def Ob[?a6]:SlR X (ZD K):=by subst hK;exact wK
def E3[?a6]:SlR X (A07 K):=by subst hK;exact WK
def Az[?a6]:IxR X (A20 K):=by subst hK;exact XY
def Be[?a6]:IxR X (Ag1 K):=by subst hK;exact Al3
def Aw[?a6]:?M7 ?Bd A19:=?Nb FT
def E9[?a6]:?M7 ?ay WQ:=?Nb fT
def Im[?a6]:?M7 ?bN Af9:=?Nc BU ?Ga ?Ga
def Gg[?a6]:?M7 ?rS wR:=?Nc IU ?yM ?yM
def Pe[?bH][?a6]:?M7 ?nw A23:=by subst hK;exact(qN hc).imp (?Jl ?C8 ?C8)
def Lz[?g1][?a6]:?MH K:=?Jd oU hu
def mT[?g1][?a6]:?Mz K:=?Jd Ah4 hu
def pH[?g1][?a6]:?N4 K:=?Jd tH hu
def Bz[?mG][?a6]:?Km zU K:=?Jd wZ hl
def Vg[?mG][?a6]:?Km A58 K:=?Jd Ag7 hl
variable{o e:Expr}[?aT][?IB]
def Hn[?Hn][?a6] [?HX] (hplain:?r (?mZ (·.1)=false) ?D) : ?KG ?tK (tBM K T r to t):=by subst hK;exact A27 pa slot hty hm ho ha hbase hfew hline hs hplain
def Ds[?aT]{k:Nat}{t:vY}{n:Nat}[?aF][?bH](h:?BL)[?a6] [?IU] (hst:?r (?wW (·.1)=none) ?D):?Mh K:=by subst hK;exact Ag8 hc h hn hst
universe e9
universe L2
namespace Hb
abbrev Ay[?bg][?cq]:LLInt :=if ?hh then(if w.length<2 then [] else(?ce w.length).map λi=>w.take i++?pj ?R) else if ?DD then [] else if ?cv then(if ?GP then [[],[]] else w.map λl=>[l]) else ?pj 1::((?ce ?og).map λi=>w.take i++[(w.getD i 0+w.getD ?R 0)%fam]++?pj (i+2))++[w.take ?og]
abbrev F5[?cq][?bg]:Prop :=(?hh/\1<=w.length/\w.length<=4)\/(?cv/\(?DD\/?GP\/?wb))\/(?fW/\w.length<=3)
abbrev lv[?cq][?bg]:Nat:=if ?hh then ?og else if ?cv then(if ?wb then 2 else w.length) else w.length
def Tc[?ef][?ee](h:?aO) : (?hh/\(?nr\/?BD\/?rM\/∃a b c d,w=?pq)) ∨ (?cv/\(w=[]\/?nr\/?rM)) ∨ (?fW/\(w=[]\/?nr\/?BD\/?rM)):=by rcases h with⟨h0,h1,h2⟩|⟨h0,h1⟩|⟨h0,h1⟩;{left;apply ?rm;match w,h1,h2 with| [a],_,_=>exact ?q3| ?bD,_,_=>exact ?CK| ?eL,_,_=>exact ?n (?n (?v ?y9))| ?pq,_,_=>exact ?n (?n (?n #[a,b,c,d,?g]))| _::?oG,_,h=>simp at h};{right;left;apply ?rm;match w,h1 with| [],_=>exact ?ao| [a],_=>exact ?n ?q3| ?bD,h=>simp at h| ?eL,_=>exact ?Eq| ?oG,h=>simp at h};right;right;apply ?rm;match w,h1 with| [],_=>exact ?ao| [a],_=>exact ?n ?q3| ?bD,_=>exact ?n ?CK| ?eL,_=>exact ?n ?Eq| ?oG,h=>simp at h
def Bb3(a:Int):Ay [a] 0=[]:=rfl
def Bb2(a b:Int):Ay ?bD 0=[[b],[a]]:=rfl
def Ap2(a b c:Int):Ay ?eL 0=[?kA,[a,c],?bD]:=rfl
def Ap1(a b c d:Int):Ay ?pq 0=[[b,c,d],[a,c,d],[a,b,d],?eL]:=rfl
section
variable[?ef]
def Bb1(h:?cv):?LN []=[]:=?vv
def UI(h:?cv)(a:Int):?ON a:=by unfold Ay;rw[?dr,?gB,?jY,?qP]
def Ao7(h:?cv)(a b c:Int):?Fc=[[a],[b],[c]]:=by unfold Ay;rw[?dr,?gB,?jY,?gB];rfl
def Ba9(h:?fW):?LN []=[]:=?vv
def uH(h:?fW)(a:Int):?ON a:=?qH
def FE(h:?fW)(a b:Int):?LN ?bD=[[b],[?yy],[a]]:=?qH
def Ao6(h:?fW)(a b c:Int):?Fc=[?kA,[?yy,c],[a,(b+c)%fam],?bD]:=?qH
def Po{w f:?I}(h:?aO)(hf:f∈?aG):F5 fam f/\lv fam f+1=?fi:=by ext sd;{subst h0;rw[Bb3]at hf;exact ?mo};{subst h0;rw[Bb2]at hf;simp only[qe4,qj0,or_false]at hf;rcases hf with rfl | rfl<;>simp[F5,lv]};{subst h0;rw[Ap2]at hf;simp only[qe4,qj0,or_false]at hf;rcases hf with rfl | rfl | rfl<;>simp[F5,lv]};{subst h0;rw[Ap1]at hf;simp only[qe4,qj0,or_false]at hf;rcases hf with rfl | rfl | rfl | rfl<;>simp[F5,lv]};{rw[Bb1 h0]at hf;exact ?mo};{rw[?hx]at hf;simp only[qe4,qj0,or_false,or_self]at hf;subst hf;have e:?e0:=O9m;simp[F5,lv,h0,e]};{rw[?ok]at hf;have e:?e0:=O9m;simp only[qe4,qj0,or_false]at hf;rcases hf with rfl | rfl | rfl<;>simp[F5,lv,h0,e]};{rw[Ba9 h0]at hf;exact ?mo};{rw[?gR]at hf;have e:?e0:=O9m;have e':?gr:=O9m;simp only[qe4,qj0,or_false,or_self]at hf;subst hf;simp[F5,lv,h0,e,e']};{rw[?et]at hf;have e:?e0:=O9m;have e':?gr:=O9m;simp only[qe4,qj0,or_false]at hf;rcases hf with rfl | rfl | rfl<;>simp[F5,lv,h0,e,e']};rw[?pG]at hf;have e:?e0:=O9m;have e':?gr:=O9m;simp only[qe4,qj0,or_false]at hf;rcases hf with rfl | rfl | rfl | rfl<;>simp[F5,lv,h0,e,e']
def Lc[?ee](h:?aO):?A9=(if ?lA then 0 else ?fi+1)/\?fi<=3:=by ext sd;{subst h0;simp[Bb3,lv]};{subst h0;simp[Bb2,lv]};{subst h0;simp[Ap2,lv]};{subst h0;simp[Ap1,lv]};(all_goals have e:?e0:=O9m);{simp[Bb1 h0,lv,e,h0]};{simp[?hx,lv,e,h0]};{simp[?ok,lv,e,h0]};(all_goals have e':?gr:=O9m);{simp[Ba9 h0,lv,e,e']};{simp[?gR,lv,e,e']};{simp[?et,lv,e,e']};simp[?pG,lv,e,e']
def Zp{i j:Nat}(h:i<j)(hj:j<3):?xu :=?L5 3 ?xu
def mX{i j:Nat}(h:i<j)(hj:j<4):?Gf :=?L5 4 ?Gf
def faces_agree{w f g:?I}{i j:Nat}(h:?aO)(hl:2<=?fi)(hij:i<j)(hf:?aG[j]?=?h f)(hg:?Mb ?aG g):?B4[i]?=(?LN g)[j-1]?:=by have hj:j<?A9:=(?cy hf).1;ext sd;{subst h0;simp[lv]at hl};{subst h0;simp[lv]at hl};{subst h0;rw[Ap2]at hf hg hj;have hc:=?rn;rcases hc with⟨rfl,rfl⟩|⟨rfl,rfl⟩|⟨rfl,rfl⟩;{obtain rfl:=?aI;obtain rfl:=?aJ;rfl};{obtain rfl:=?aI;obtain rfl:=?aJ;rfl};obtain rfl:=?aI;obtain rfl:=?aJ;rfl};{subst h0;rw[Ap1]at hf hg hj;have hc:=?zz;rcases hc with⟨rfl,rfl⟩|⟨rfl,rfl⟩|⟨rfl,rfl⟩|⟨rfl,rfl⟩|⟨rfl,rfl⟩|⟨rfl,rfl⟩;{obtain rfl:=?aI;obtain rfl:=?aJ;rfl};{obtain rfl:=?aI;obtain rfl:=?aJ;rfl};{obtain rfl:=?aI;obtain rfl:=?aJ;rfl};{obtain rfl:=?aI;obtain rfl:=?aJ;rfl};{obtain rfl:=?aI;obtain rfl:=?aJ;rfl};obtain rfl:=?aI;obtain rfl:=?aJ;rfl};(all_goals have e:?e0:=O9m);{simp[lv,e,h0]at hl};{simp[lv,e,h0]at hl};{rw[?ok]at hf hg hj;have hc:=?rn;rcases hc with⟨rfl,rfl⟩|⟨rfl,rfl⟩|⟨rfl,rfl⟩;{obtain rfl:=?aI;obtain rfl:=?aJ;simp[?hx]};{obtain rfl:=?aI;obtain rfl:=?aJ;simp[?hx]};obtain rfl:=?aI;obtain rfl:=?aJ;simp[?hx]};(all_goals have e':?gr:=O9m);{simp[lv,e,e']at hl};{simp[lv,e,e']at hl};{rw[?et]at hf hg hj;have hc:=?rn;rcases hc with⟨rfl,rfl⟩|⟨rfl,rfl⟩|⟨rfl,rfl⟩;{obtain rfl:=?aI;obtain rfl:=?aJ;simp[?gR]};{obtain rfl:=?aI;obtain rfl:=?aJ;simp[?gR]};obtain rfl:=?aI;obtain rfl:=?aJ;simp[?gR]};rw[?pG]at hf hg hj;have hc:=?zz;rcases hc with⟨rfl,rfl⟩|⟨rfl,rfl⟩|⟨rfl,rfl⟩|⟨rfl,rfl⟩|⟨rfl,rfl⟩|⟨rfl,rfl⟩;ext lg;ext lg;ext lg;{skip;obtain rfl:=?aI;obtain rfl:=?aJ;simp only[?et,List.getElem?_cons_succ,qu7,Nat.add_one_sub_one];congr 2;rw[Int.add_emod_emod,Int.emod_add_emod,qm3]};ext lg;obtain rfl:=?aI;obtain rfl:=?aJ;simp[?et]
universe e9
abbrev lev[?iH]:Nat:=p.length-1
structure vO[?cp][?iH]:Prop where
 cnt:?Mf 0\/?Mf 2\/?Mf 3\/?Mf 4
 low:∀f∈p,0<=f
 bel:∀f∈p,∃q,?ub/\lev q+1=lev p
 agr:3<=p.length->∀(i j:Nat) (f g:Int) (q r:?I),i<j->p[j]?=?h f->?Mb p g->?ub->xs[g.toNat]?=?h r->q[i]?=r[j-1]?
abbrev Bk[?cp]:Prop:=∀(k:Nat) [?iH],xs[k]?=?h p->vO (xs.take k) p
abbrev NQ[?cq][?cL]:Prop:=∀(k:Nat) [?bg],ws[k]?=?ey->?aO/\∀f∈?aG,f∈ws.take k
def NQ.nil[?ef]:NQ fam []:=λk w h=>?dE
def NQ.snoc[?ef][?cM][?ee][?mI](hw:?aO)(hf:?nE):NQ fam ?n1:=by intro k v hk;by_cases hlt:k<ws.length;{rw[qc3 hlt]at hk;rw[ql1 ?a1];exact h k v hk};have hk':k<(?n1).length:=(?cy hk).1;(have e:k=ws.length:=by simp at hk';ext d);subst e;simp at hk;subst hk;rw[ql1 ?W,qc8];exact#[hw,hf]
def NQ.mem[?ef][?cM][?mI][?ee](hw:w∈ws):?aO/\?nE:=by let#[k,hk]:=qf5 hw;let ?cg:=h k w hk;exact#[h1,λf hf=>ql2 ?k3]
abbrev Ft[?cL]:?F7| []=>ws| ?di=>Ft ?sK r
def aR:∀(rows ws:LLInt),?Ka ?h7 (ws.length+rows.length)| [],ws=>by simp[Ft]| ?di,ws=>by have h1:=aR r ?sK;(have h2:?Ka ?sK (ws.length+1):=by split;{ext d};simp);simp only[Ft,qd5];ext d
def AQ[?ef]:∀(rows ws:LLInt),?B9->(?JT rows (f∈rows.take k))->NQ fam ?h7| [],ws,h,_=>h| ?di,ws,h,hr=>by have h0:=hr 0 w ?g;have hw:?nE:=λf hf=>(h0.2 f hf).resolve_right ?w;simp only[Ft];apply AQ r _ ?_ λk v hk=>?_;{split;{exact h};exact h.snoc h0.1 hw};let ?cg:=hr ?cj v ?pP;apply ?Aj;rcases ?k3 with z | z;{left;split;{exact z};exact ?Fn};rw[List.take_succ_cons]at z;rcases ?f5 z with z | z;{left;subst z;split;{assumption};simp};exact ?n z
abbrev Do[?cL]:?oC| acc,[]=>acc| acc,f::r=>Do ws ?nN r
def aP[?cM][?gA]:∀[?iC],?md->?hA\/x∈fs| [],acc,h=>?gD| f::r,acc,h=>by rcases aP r _ h with z | z;{split at z;{rcases qj5.mp z with z | z;{exact ?eJ};exact ?n (by simp at z;simp[z])};exact ?eJ};exact ?n (?Nx z)
def Rh[?cM][?gA]:∀[?iC],?hA->?md| [],acc,h=>h| f::r,acc,h=>Rh r _ (by split;exact qp0 _ h;exact h)
def aQ[?cM][?gA]:∀[?iC],x∈fs->?qs\/?md| f::r,acc,h=>by ext t3;{subst e;by_cases h1:?qs;{exact ?v h1};right;apply Rh r _ ?_;by_cases h2:?hA;{rw[?L (by simp[h2])];exact h2};rw[?Q ?cg];simp};exact aQ r _ e
def Uh[?cM]:∀[?iC],?Ka ?gp (?OG fs.length)| [],acc=>by simp[Do]| f::r,acc=>by have h1:=Uh (ws:=ws) r ?nN;(have h2:?Ka ?nN (?OG 1):=by split;{simp};ext d);simp only[Do,qd5];ext d
abbrev below[?cL][?cq]:?oC| acc,[]=>acc| acc,?di=>?L7 ?vC r
def Se[?dZ][?gA]:∀[?iG],?pL->?hA\/∃w∈l,x∈?aG| [],acc,h=>?gD| ?di,acc,h=>by rcases Se r _ h with z|⟨v,hv,z⟩;{rcases aP _ _ z with z | z;{exact ?eJ};exact ?n #[w,qb4,z]};exact ?n #[v,?x9,z]
def AM[?dZ][?gA]:∀[?iG],?hA->?pL| [],acc,h=>h| ?di,acc,h=>AM r _ (Rh _ _ h)
def dO[?dZ]{x w:?I}:∀[?iG],w∈l->x∈?aG->?qs\/?pL| v::r,acc,h,hx=>by ext t3;{subst e;rcases aQ (ws:=ws) _ acc hx with z | z;{exact ?eJ};exact ?n (AM r _ z)};exact dO r _ e hx
def Oh[?dZ]:∀[?iG],(∀w∈l,?aO)->?Ka ?rh (?OG ?vY)| [],acc,_=>by simp[below]| ?di,acc,h=>by have h1:=Oh (ws:=ws) r ?vC λv hv=>h v ?x9;have h2:=Uh (ws:=ws) ?aG acc;have h3:=Lc (h w qb4);simp only[below,qd5];split at h3<;>ext d
def Yb[?cL](f:?I):∀[?iC],Do ws acc (fs++[f])=(if ?HG/\f ∉ ?gp then ?gp++[f] else ?gp)| [],acc=>rfl| g::fs,acc=>Yb ws f fs _
def aM[?cL][?cq][?bg]:∀[?iG],?L7 acc (l++[w])=Do ws ?rh ?aG| [],acc=>rfl| v::l,acc=>aM ws fam w l _
def Yc[?bg]:∀(rows ws:LLInt),Ft ws (rows++[w])=(if w∈?h7 then ?h7 else ?h7++[w])| [],ws=>rfl| v::rows,ws=>Yc w rows _
abbrev Pc[?cL][?cq]:Nat->?oC| 0,layer,rows=>rows| n+1,layer,rows=>Pc ws fam n (?L7 [] layer) (layer++rows)
def CP[?dZ]:∀(n:Nat) (layer rows:LLInt),(∀w∈layer,?aO/\?fi<n) → (?JT rows (f∈layer\/f∈rows.take k)) → ?JT ?uO (f∈(?uO).take k)| 0,layer,rows,hl,hr,k,w,hk=>by let ?cg:=hr k w hk;ext IC;{exact ?G (hl f z).2 ?l};exact ?n z| n+1,layer,rows,hl,hr,k,w,hk=>by apply CP n _ _ ?_ ?_ k w hk;{intro v hv;rcases ?Aq with z|⟨u,hu,z⟩;{exact ?ie};let#[q1,q2]:=?xk;let#[q3,q4]:=Po q1 z;exact#[q3,?l]};intro m v hm;by_cases hlt:m<layer.length;{rw[qc3 hlt]at hm;have hv:v∈layer:=qb2 hm;apply#[(hl v hv).1,?BV];rcases dO (ws:=ws) layer [] hv hf with z | z;{exact ?eJ};exact ?n ?eJ};rw[qd0 ?a1]at hm;let ?cg:=hr _ v hm;ext IC;{right;right;rw[List.take_append];apply qp0 _ ?_;rw[qj9 ?a1];exact z};right;right;rw[List.take_append];exact ?wH
abbrev Rk[?cL][?bg][?cq]:LLInt:=Ft ws ?Gd
def AV[?cM][?ee][?ef][?mI](hw:?aO):NQ fam ?uS:=by apply AQ _ _ h (CP 4 [w] [] ?_ ?_);{intro v hv;(have e:v=w:=?hj);subst e;exact#[hw,by have:=(Lc hw).2;ext d]};intro k v hk;simp at hk
abbrev EY[?cL](f:?I):Nat:=?p7 (·==f)
def xZ[?cM]{f:?I}(h:?f8):ws[?hS]?=?h f:=by unfold EY;have hl:?p7 (·==f)<ws.length:=List.findIdx_lt_length_of_exists ?v3;rw[qa0 hl];have:=List.findIdx_getElem (xs:=ws) (p:=(·==f)) (w:=hl);simpa using this
set_option tactic.hygienic true in def Al9[?cM]{f:?I}{k:Nat}(h:f∈ws.take k):?hS<k:=by unfold EY;let ?qv:=qf5 h;have hlt:i<(ws.take k).length:=?hc;rw[qg8]at hi;split at hi;{rename_i hik;have hl:i<ws.length:=?hc;(have e:ws[i]=f:=by rw[qa0 hl]at hi;exact qa9 hi);(have hle:?p7 (·==f)<=i:=by refine qi0;intro hgt;have:=List.not_of_lt_findIdx hgt;simp[e]at this);ext d};cases hi
abbrev Os[?cL][?cq]:LLInt:=ws.map λw=>?B7
def gS[?dZ]{k:Nat}[?ee](h:ws[k]?=?ey):?o4[k]?=?h ?B7:=by unfold Os;rw[qa7,h];rfl
def AX[?dZ][?mI]:Bk ?o4:=by intro k p hp;unfold Os at hp;rw[qa7]at hp;cases hw:ws[k]? with| none=>rw[hw]at hp;cases hp| some w =>rw[hw]at hp;(have X1:?oe ?DB=p:=by simpa using hp);subst X1;let ?cg:=h k w hw;let#[n1,n2]:=Lc h1;(have look:∀f∈?aG,((?o4).take k)[((?hS:Nat):Int).toNat]?=?h ((?B4).map λg=>(EY ws g:Int)):=λf hf=>by have hm:=?k3;have hlt:=Al9 hm;rw[qe0,qg8,?Q hlt];exact gS (xZ (ql2 hm)));apply#[?_,?_,?_,?_];{rw[qa3];by_cases hz:?lA;{rw[?Q hz]at n1;ext d};rw[?sT]at n1;ext d};{intro f hf;let#[g,_,?g]:=?GM;ext d};{intro f hf;let#[g,hg,?g]:=?GM;apply#[_,look g hg,?_];let#[w1,l1]:=Po h1 hg;let#[m1,_]:=Lc w1;unfold lev;rw[qa3,qa3];have hz:¬?lA:=O9m;rw[?sT]at n1;by_cases hy:lv fam g=0;{rw[?Q hy]at m1;ext d};rw[?L hy]at m1;ext d};intro hl i j f g q r hij hf hg hq hr;rw[qa3]at hl;rw[qa7]at hf hg;cases ef:?aG[j]? with| none=>rw[ef]at hf;cases hf| some F =>cases eg:?aG[i]? with| none=>rw[eg]at hg;cases hg| some G =>rw[ef]at hf;rw[eg]at hg;(have ef':((EY ws F:Nat):Int)=f:=by simpa using hf);(have eg':((EY ws G:Nat):Int)=g:=by simpa using hg);subst ef' eg';rw[look F (qb2 ef)]at hq;rw[look G (qb2 eg)]at hr;cases hq;cases hr;(have hz:¬?lA:=by intro z;rw[?Q z]at n1;ext d);rw[?sT]at n1;rw[qa7,qa7,faces_agree h1 ?a1 hij ef eg]
def kN[?dZ][?ee](hw:?aO):?Ka ?Gd 85:=by (have step:∀l:LLInt,(∀v∈l,?ov)->?Ka ?um ?vY/\∀v∈?um,?ov:=λl hl=>by apply#[by have:=Oh (ws:=ws) l [] hl;simpa using this,λv hv=>?_];rcases ?Aq with z|⟨u,hu,z⟩;{exact ?ie};exact(Po ?xk z).1);(have s0:∀v∈[w],?ov:=λv hv=>by (have e:v=w:=?hj);subst e;exact hw);let#[a1,b1]:=step _ s0;let#[a2,b2]:=step _ b1;let#[a3,b3]:=step _ b2;simp only[Pc,qb7,qi5,qd5]at a1 a2 a3 ⊢;ext d
section
variable{xs:LLInt}
universe e9
universe Hb
namespace L2
inductive Ec{A0:Type}(p:?NT A0):Prop| mk (x0:A0) (x:p x0):Ec p
inductive Kc{A0 A1:Type}(p:?JN A0 A1):Prop| mk (x0:A0) (x1:A1) (x:p x0 x1):Kc p
inductive Op{A0 A1 A2:Type}(p:?OS A0 A1 A2):Prop| mk [?m3] (x:p x0 x1 x2):Op p
inductive S8{A0 A1 A2 A3:Type}(p:A0->?OS A1 A2 A3):Prop| mk [?m3] (x3:A3) (x:p x0 x1 x2 x3):S8 p
inductive Yd{A0 A1 A2 A3 A4:Type}(p:A0->A1->?OS A2 A3 A4):Prop| mk [?m3] (x3:A3) (x4:A4) (x:p x0 x1 x2 x3 x4):Yd p
inductive lR{A0 A1 A2 A3 A4 A5:Type}(p:A0->A1->A2->?OS A3 A4 A5):Prop| mk [?m3] (x3:A3) (x4:A4) (x5:A5) (x:p x0 x1 x2 x3 x4 x5):lR p
inductive Ex7{A0 A1 A2 A3 A4 A5 A6:Type}(p:A0->A1->A2->A3->?OS A4 A5 A6):Prop| mk [?dP] (x:p x0 x1 x2 x3 x4 x5 x6):Ex7 p
inductive nX{A0 A1 A2 A3 A4 A5 A6 A7:Type}(p:?JH (?NT A7)):Prop| mk [?dP] (x7:A7) (x:p x0 x1 x2 x3 x4 x5 x6 x7):nX p
inductive Ex9{A0 A1 A2 A3 A4 A5 A6 A7 A8:Type}(p:?JH (?OR A7 A8)):Prop| mk [?dP] (x7:A7) (x8:A8) (x:p x0 x1 x2 x3 x4 x5 x6 x7 x8):Ex9 p
inductive QW{A0 A1 A2 A3 A4 A5 A6 A7 A8 A9:Type}(p:?JH (A7->?OR A8 A9)):Prop| mk [?dP] (x7:A7) (x8:A8) (x9:A9) (x:p x0 x1 x2 x3 x4 x5 x6 x7 x8 x9):QW p
inductive lS{A0 A1 A2 A3 A4 A5 A6 A7 A8 A9 nZ:Type}(p:?JH (A7->A8->?OR A9 nZ)):Prop| mk [?dP] [?lq] (x:p x0 x1 x2 x3 x4 x5 x6 x7 x8 x9 Tb):lS p
inductive VO{A0 A1 A2 A3 A4 A5 A6 A7 A8 A9 nZ A11:Type}(p:?JH (A7->A8->A9->?OR nZ A11)):Prop| mk [?dP] [?lq] (x11:A11) (x:p x0 x1 x2 x3 x4 x5 x6 x7 x8 x9 Tb x11):VO p
inductive Ar6{A0 A1 A2 A3 A4 A5 A6 A7 A8 A9 nZ A11 A12:Type}(p:?JH (A7->A8->A9->nZ->?OR A11 A12)):Prop| mk [?dP] [?lq] (x11:A11) (x12:A12) (x:p x0 x1 x2 x3 x4 x5 x6 x7 x8 x9 Tb x11 x12):Ar6 p
inductive Be5{A0 A1 A2 A3 A4 A5 A6 A7 A8 A9 nZ A11 A12 A13 A14 A15 A16 A17 A18:Type}(p:?JH (A7->A8->A9->nZ->A11->A12->A13->A14->A15->A16->?OR A17 A18)):Prop| mk [?dP] [?lq] (x11:A11) (x12:A12) (x13:A13) (x14:A14) (x15:A15) (x16:A16) (x17:A17) (x18:A18) (x:p x0 x1 x2 x3 x4 x5 x6 x7 x8 x9 Tb x11 x12 x13 x14 x15 x16 x17 x18):Be5 p
inductive Fm(p0 p1 p2:Prop):Prop| mk [?m4]:Fm p0 p1 p2
inductive Bw(p0 p1 p2 p3:Prop):Prop| mk [?m4] (x:p3):Bw p0 p1 p2 p3
inductive Da(p0 p1 p2 p3 p4:Prop):Prop| mk [?m4] (x:p3) (x:p4):Da p0 p1 p2 p3 p4
inductive G9(p0 p1 p2 p3 p4 p5:Prop):Prop| mk [?m4] (x:p3) (x:p4) (x:p5):G9 p0 p1 p2 p3 p4 p5
inductive Mb(p0 p1 p2 p3 p4 p5 p6:Prop):Prop| mk [?eT]:Mb p0 p1 p2 p3 p4 p5 p6
inductive Xn(p0 p1 p2 p3 p4 p5 p6 p7:Prop):Prop| mk [?eT] (x:p7):Xn p0 p1 p2 p3 p4 p5 p6 p7
inductive aV(p0 p1 p2 p3 p4 p5 p6 p7 p8:Prop):Prop| mk [?eT] (x:p7) (x:p8):aV p0 p1 p2 p3 p4 p5 p6 p7 p8
inductive NY(p0 p1 p2 p3 p4 p5 p6 p7 p8 p9:Prop):Prop| mk [?eT] (x:p7) (x:p8) (x:p9):NY p0 p1 p2 p3 p4 p5 p6 p7 p8 p9
inductive nY(p0 p1 p2 p3 p4 p5 p6 p7 p8 p9 zG:Prop):Prop| mk [?eT] (x:p7) (x:p8) (x:p9) (x:zG):nY p0 p1 p2 p3 p4 p5 p6 p7 p8 p9 zG
inductive Ac6(p0 p1 p2 p3 p4 p5 p6 p7 p8 p9 zG p11 p12 p13:Prop):Prop| mk [?eT] [?If]:Ac6 p0 p1 p2 p3 p4 p5 p6 p7 p8 p9 zG p11 p12 p13
inductive Ac5(p0 p1 p2 p3 p4 p5 p6 p7 p8 p9 zG p11 p12 p13 p14 p15:Prop):Prop| mk [?eT] [?If] (x:p14) (x:p15):Ac5 p0 p1 p2 p3 p4 p5 p6 p7 p8 p9 zG p11 p12 p13 p14 p15
universe L2
namespace Hb
open PySem L2
abbrev AJ[?cn](k:Int):Int:=?oE ?ib 0
noncomputable abbrev LT[?i](H:Hp)(v:V)[?cp]:Prop:=?KX v (?a0 ?ci)
noncomputable abbrev TI[?i](H:Hp)(v:V)[?cn]:Prop:=?KX v ?yR
section
variable[?aU][?cr]
def TI.sq{v:V}[?co](h:?q0):∃a,?ei/\?FT:=by ext m6;rw[Eu.mp r]at q;exact#[a,e,q]
def TI.mk[?aX][?co](h:?FT):TI K H ?N ns:=#[a,_,?g,h,?v8]
def TI.same{v:V}[?co](s:?bK)(h:?q0):?xN:=?GQ s h
def TI.t{v:V}[?co](s:?gw)(h:?q0):?xN:=Rep.t s (uA ns) h
def J8[?aK](k:Nat):Ci xs ?aM ?pA=xs.take k:=by unfold Ci;rw[HT.sIx_none,HT.sIx_nat,qy0,List.drop_zero,List.take_eq_take_iff];ext d
def Ir[?aK](k:Nat):Ci xs ?pA ?aM=?pc k:=by unfold Ci;rw[HT.sIx_none,HT.sIx_nat];by_cases h:?OL k;{rw[?kI h,qj9 (by rw[qh4];ext d)]};rw[?qW ?a1,List.drop_length,List.drop_of_length_le ?a1];simp
def OQ{D:Addr}{ys:?z}{v:V}{d:L2.D}{ds:?ku}(hD:H D=?h ?e4)(r:?KF ys ds)(rv:?d6)(hi:imms ?pR=true):?a2 K ?BN ?ou ?pR :=(r.snoc rv).t (V0.lst hD) hi
def K0{D:Addr}{ys:?z}{v:V}{xs:LLInt}[?gA](hD:H D=?h ?e4)(r:?KF ys ?ci)(rv:?Nn x):?a2 K ?BN ?ou ?EG:=by
 have e:?EG=?ci++[?p5]:=?w
 have h:=v9 ?zG;rw[e]at h ⊢;exact OQ hD r rv h
abbrev SameX(B:Addr)(H H':Hp):Prop:=?K5 (b≠B) ?w8
def SameX.refl(B:Addr)(H:Hp):?hQ B H H:=λ_ _ _ h=>h
def SameX.trans{B:Addr}{H H1 H2:Hp}[?m9](b:?hQ B H1 H2):?hQ B H H2:=λc o n h=>b c o n (a c o n h)
def SameX.of[?tH](a:?rp):?uv:=λc o _ h=>?ux
def SameX.upd[?tH]{o:HO}[?m9]:?hQ B H (?s H1 B o):=λc u n h=>by rw[Al n];exact a c u n h
def SameX.t[?tH]{us:?z}[?m9](h:H B=?qk):V0 H H1 :=#[λb xs e=>?Ap,λb o u e=>?Ap]
def SameX.same{B:Addr}{H0 H H1:Hp}[?m9](s:?cU H0 H)(h:H0 B=none):?cU H0 H1:=?NR (a b o ?qL (?Mv s))
def Ld:∀ns:?I,?xy=0| []=>rfl| ?ij=>by show max (dep ?j9) ?xy=0;rw[Ld ns];rfl
def Rb:∀xs:LLInt,?Ej<=1| []=>?fB| ?hv=>by have h1:=Rb xs;(have h2:?vK=1:=by show deps (Fb x)+1=1;rw[Ld]);show max ?vK ?Ej<=1;ext d
def Ug(f:?I):∀xs:LLInt,(?ci).any ?qg=?B (f∈xs)| []=>rfl| ?hv=>by rw[qd2,qo7,Ug f xs,uK];by_cases h:x=f;{subst h;simp};have h':¬f=x:=λz=>h z.symm;simp[h,h']
def eY[?t7](hc:c)(h:A):?nM:=?Mo ?Q
def Oo[?t7](hc:¬c)(h:B):?nM:=?Mo ?L
def neI{a b:Int}(h:¬a=b):?Gg:=?qN
def eqI{a b:Int}(h:a=b):¬?Gg:=?qN
def isI{a b:Int}(h:a=b):?MX a b=true:=?qN
def C5{g:TG}[?eV][?dU][?cF][?sm] [?Hd]:?JI ?dl OH:=?Lf Jj ?wM
def R9{g:TG}[?eV][?dU][?cF][?IT] [?Hd]:?JI ?dw OH:=?Lf uS ?wM
def J9{g:TG}[?eV]{lo:Int}{n:Nat}[?cF] (hs:?Ko ?ti) [?J2]:?JI ?ep OH:=AH Pv h0 (λi ys τ H e p=>hs i ys τ H e p) hd
def Am{t u:TS}{D:Ends}[?bI](P:?P)[?su][?I9]:?jN:=h hu
def qy5{t u:TS}{D:Ends}[?bI](P:?P)[?I9][?su]:?jN:=h hu
def Ff{t u:TS}{D:Ends}[?bI](P:?P)[?su](h:?wK->?jN):?jN:=h hu
def KW{f:?I}:∀[?cM],?f8->?N6 ?h ?hS:=λ{ws} h=>by (have e:?N6 ws.findIdx? ?Cs:=by rw[List.findIdx?_map];congr 1;funext w;show eqD (tI w) ?H8=(w==f);rw[uK];by_cases z:w=f;{subst z;simp};simp[z]);rw[e,List.findIdx?_eq_some_of_exists (xs:=ws) (p:=?Cs) ?v3];rfl
def small{n:Nat}(h:?HO):?OW n:=qc5 h ?aQ
def Br{n:Nat}(h:?HO):?px:=qf0 (small h)
universe e9
section
variable[?i]
abbrev jP:Sp:=?Jm (Op λ ?hI ?Ff ?jG=>Da (vs=[?N,?o k]) ?lK (0<=k) ?DH (?OB (AJ ns k)))
abbrev GN:Sp:=?Jm (Op λ(v:V) (w:?I) ?CV=>Bw (vs=[v,?qU]) ?H9 ?aO (∀(p:Addr) (us:?z) (H':Hp),?Nq (?oe tI) ?hC))
abbrev JO:Sp:=?Jm (Op λ(c fam letters:Int)=>Da (vs=[?o c,?qU,?o letters]) (0<letters) (letters<100) (fam<100) (∀(v:V) (H':Hp) [?bg],?bK->TI K H' v w->?aO->?h5))
abbrev aW:Sp:=?Jm (lR λ(l:Addr) (us:?z) (v:V) (ws:LLInt) (w:?I) ?CV=>Mb (vs=[?kM,v,?qU]) (H l=?qk) (?a2 K H us ?s5) ?H9 ?aO (ws.length<=100) (∀(p:Addr) (us':?z) (H':Hp),?aj->?bK->H' p=?h (?a0 us')->?a2 K H' us' ((?uS).map tI)->?hC))
abbrev GL:Sp:=?Jm (S8 λ ?hI ?Ff (kind most:Int)=>G9 (vs=[?o kind,?N,?o most]) ?lK ?DH (0<=most) (most<=100) (∀(p:Addr) (us:?z) (H':Hp) [?cp],?Nq ?ci (Bk xs->?hs<=most->?hC)))
universe e9
abbrev Td(d:L2.D):Bool:=pK ?bz d&&!pK ?fj d
abbrev belowD(d:L2.D)(b:Int):Bool:=match d with| ?a8=>?B ?du&&?B (i<b)| _=>false
abbrev Cn(n:Nat):Int:=if ?gu > ?b6-1 then 0 else ?b6-1
abbrev D9[?cp](d:L2.D)(l:Int):Bool:=match d with| ?a8=>?B ?du&&?B (i<?hs)&&?B (Cn (?BP).length=l)| _=>false
abbrev Vx[?cp][?iH](j i:Nat):Bool:=?B (?LQ j i=?LQ i (j-1))
abbrev No[?cp][?iH]:Bool:=(?ce p.length).all λj=>(?ce j).all λi=>Vx xs p j i
abbrev YX:L2.D->Int| ?a8=>i| _=>0
abbrev FP(n:Nat):Bool:=n==0 || n==2 || n==3 || n==4
abbrev AB[?cp](d:L2.D):Bool:=match d with| ?dj=>?yG| _=>false
def R7[?cp](ds:?ku):AB xs ?dj=?yG:=rfl
def YL{n:Nat}(h:FP n=true):n<=4/\n≠1:=by match n,h with| 0,_=>ext ls| 2,_=>ext ls| 3,_=>ext ls| 4,_=>ext ls
def zfp(n:Nat):((Fb [0,2,3,4]).any λe=>eqD e ?HL)=FP n:=by simp only[Fb,qd2,qr7,qo7,List.any_nil,eqD];match n with| 0=>rfl| 1=>rfl| 2=>rfl| 3=>rfl| 4=>rfl| _+5=>rfl
section
variable[?i]
abbrev Mi:Sp:=?Jm (Kc λ ?k7 ?kv=>Fm ?yY ?fI (?NE (Td d)))
abbrev Hz:Sp:=?Jm (Op λ ?k7 ?kv (b:Int)=>Fm (vs=[x,?gV]) ?fI (?NE (belowD d b)))
abbrev Mh:Sp:=?Jm (Kc λ ?k7 (ds:?ku)=>Fm ?yY (Bd2 K H x ds) (?OB ?qD))
abbrev F7:Sp:=?Jm (Yd λ ?hI ?k7 ?kv (l:Int) ?mi=>Bw (vs=[?N,x,?o l]) ?hP ?fI (?NE (D9 xs d l)))
abbrev Qc:Sp:=?Jm (S8 λ ?hI (v:V) ?mi (p:?I)=>G9 (vs=[?N,v]) ?hP ?xi (p.length<=4) ((∀f∈p,0<=f/\f<?hs/\(?kN f.toNat []).length+1=p.length)) (?NE (No xs p)))
abbrev MF:Sp:=?Jm (S8 λ ?hI (th:V) ?kv ?mi=>Bw (vs=[?N,th]) ?hP (Rep K H th d) (∀H',?bK->Q (.bl (AB xs d)) H'))
noncomputable abbrev Oq:Sp:=jP K
noncomputable abbrev My:Sp:=GN K
noncomputable abbrev Uz:Sp:=JO K
noncomputable abbrev Py:Sp:=aW K
noncomputable abbrev Ss:Sp:=GL K
universe e9
section
variable[?aU]{H:Hp}
def jI{d:L2.D}(h:Td d=true):∃i,d=?a8:=by cases d<;>simp[Td,pK]at h;exact ?cV
def LT.get[?aX]{xs:LLInt}{i:Int}(h:?hP)(h0:?du)(h1:i<?hs):∃us v,?Ee/\Um us i=?U/\?Nn ?BP:=by let ?FY:=h;cases e;let ?A2:=qn5 h0;have hj:?oF:=O9m;(have e:?ci[j]?=?h (tI xs[j]):=by rw[qa7,?pw];rfl);let#[v,hv,tv]:=?fN e;apply#[us,v,hq,Bj hv,?_];rw[qe0,qa1,?pw];exact tv
def LT.len[?aX]{xs:LLInt}(h:?hP):∃us,?Ee/\?ME us.length:=by let ?FY:=h;cases e;exact#[us,hq,by have:=r.length;simpa using this]
def TI.get{v:V}{p:?I}{i:Int}(h:?xi)(h0:?du)(h1:i<(p.length:Int)):∃a,?ei/\?Lc a ?Ge/\Um ?Ge i=?h (?o (?rz ?qn 0)):=by let#[a,e,hq]:=h.sq;apply#[a,e,hq,?_];let ?A2:=qn5 h0;have hj:j<p.length:=O9m;apply Bj ?_;rw[qa7,?pw];simp[hj]
def eU(n:Nat):Cn n=((n-1:Nat):Int):=by unfold Cn;split<;>ext d
def iZ{xs:LLInt}{l:Int}:∀{ds:?ku},?M5 l=true->ds=Fb ?rd| [],_=>rfl| ?d0,h=>by simp only[List.all_cons,qc0]at h;cases d with| int i =>show L2.D.int i::ds=L2.D.int i::Fb ?rd;rw[←iZ h.2]| _=>simp[D9]at h
universe e9
universe Hb
namespace L2
open PySem PySem.Spec PyProof.Rows
section
variable[?i1]{xc:Str}[?O]{C c:Addr}[?cK]
universe e9
section
variable[?i1]{xc:Str}[?J4][?aF][?g9]{te:TE}
universe e9
section
variable{fs:?am}[?cr]{h B h' h2:Heap}
universe e9
noncomputable abbrev XJ:=?ai->OAddr->?P
section
variable[?mK]{σ:St}[?cr]{s s':Shared}{e:Addr}{cls a0:Value}{dx:OAddr}
universe e9
section
variable[?be][?i5]{N:?X}[?Iv][?S]{outer:?bt}[?aL]{H:Hp}{E:XK}
universe e9
section
variable{X:Cx}{J:XJ}[?IX][?aT]{t:TA}
universe e9
universe L2
namespace L2
open PySem PySem.Spec PyProof.Rows PySem.W
section
variable{X:Cx}{Ag pn:Bl}[?bI][?aL]{J:XJ}
universe e9
section
variable{X:Cx}{th:Ends->XJ}
universe e9
section
variable[?fz][?S][?aE][?ae]{g:?ez GenState}{d:Drawn}{t:Nat}{os:OsState}{a C:Addr}{o:Obj}{K:Frag}
universe e9
section
variable{X:Cx}{K:Frag}
universe e9
universe L2
namespace L2
open PySem PySem.Spec PyProof.Rows
def Bo.tupN{X:Cx}[?O]{h':Heap}[?ct][?cK]{x y:V}{u v:Value}[?j](kk:∀c o,?yr->?xc)[?eX](hl:?uL) (ht:?sc=?h { cls:=?bN,data:=?aH #v[u,v] }) (ru:?bd) (rv:?rv):?JG ?sO ?gg/\∀b∈fp,?s H ?E ?lI b=none:=by have hfresh:?hX:=?e2;ext Hu;have sU:∀c o,H c=?x->?s H ?E ?lI c=?x:=λc o e=>(Al (Aq e hfresh)).trans e;apply#[Bo.step (s:=s) (h':=h') (t':=t') (H':=?sO) I (g':=s.gens) (d':=s.drawn) (ch:=fp) ?ut (?Ml ?oi) (?Ml #[?oK,?oi]) (λc o hc e n=>?_) (?OF #[o,?oi]) (λc zs e=>?qd) (λc o w' e=>?qd) (λc ps e=>#[#v[],by rw[?qd];simp]) ?nL (λc w' e=>?_) ?bL,?ut];{have f:=hf c hc;exact ?E5};{rw[Al ?jH];exact n};{let ?BH:=hm;exact(?Ma es' kk (λq=>(hf _ q).2.1 ?g))};{by_cases hcs:?LC c;{subst hcs;rw[Ab]at e;cases e;exact#[(by show ?JY ((2:Nat));decide),[u,v],?V ru (?V rv ?M),#[_,ht,?g,?g,_,?g]]};rw[Al hcs]at e;apply(?au c w' e).stay (λc' y' hc' q=>?_) (λc' q=>?yK) λc' zs q=>?yK;rcases hc' with rfl | hc';{exact kk _ _ ?vQ q};exact kk _ _ ?vk q};let ?GJ:=hl c hc;rw[Al ?jH];exact(hf c hc).1
def La[?ae]{j t:Addr}{n:Nat}(g:?e9 j t n):∃o,?Ki j:=by let#[o,q,_,d]:=g;exact#[o,q,?An]
def aC[?ae]{e it:Addr}{i:Int}{old:Value}(h1:?Kh h i)(h2:∃o,?Ki it):∀b∈?hK,?x0:=?Lm (by rcases ?f5 hb with rfl | hb;{exact#[_,h1,λv z=>by cases (show ?mS from z)]};rw[?HH];exact h2)
def Bo.fp2{X:Cx}[?O][?j]:∀b∈[?aR,s.heap.objs.size],?gq:=?Lm (by (have lb:?BM:=by rcases ?f5 hb with rfl | hb;{exact ?jR};rw[?HH];exact ?W);exact I.fpOk lb (?em lb))
abbrev IteG(S:?iU)[?ar]:It :=#[?Kg ?cY,λi H x H'=>∃p v,?aj/\?oB/\H'=?No p (?ac [?a8,v])/\∀xs,?cY->xs[i]?=?U,?Kx ?cY]
def dF{X:Cx}[?O][?aE][?aT][?g6]{e it:Addr}{i:Nat}{old:Value}{x:V}[?aW][?Ix] (hne:e≠it) [?j] (hf:∀b∈?hK,?gq) (h1:?Kh ?H ?gS) (h2:∃o,?xw/\?br) (ru:?bd) (hout:IsEnumOut h' e it ?Ex u ?E) (htup:?sc=?KU i) (hk:?K5 ?kC ?Dm) (hT:∀h3,?zc->(∃old,?Kh h3 ?Ex)->T h3) (hY:?hX->Y ?ad (?No ?E ?xb)) : ∃r,?Gn/\?NP e ?hK ({ s with heap:=h',toks:=?jF }):=by apply#[_,?g,wpAny_letOwnedTupleGo_enum hout λh3 hen Sz=>?_];replace Sz:?zc:=Sz;have lte:?LE e:=qc1 h1;have ht3:h3.get? ?E=?KU i:=?Jf _ (qo0 lte) htup;let ?GU:=I.tupN (t':=?jF) (fp:=?hK) (x:=?a8) (y:=x) (λb o hb z=>?Jf b ?BK (hk b o ?BK (λq=>hb (q▸ ?tP)) z)) hf (aC h1 h2) ht3 ?cV ru;exact(?OJ (hT h3 Sz ?Dy))
section
variable[?g9][?eV]{S:?iU}
def LH[?aX][?b1][?cF](hl:?KL ?cY) [?HZ]:?JI ?jw tc:=by apply ?G6;rintro i m ys τ H ⟨rfl,hi,pp⟩;have q:=?MO ys pp;by_cases hlt:?hr;{apply ?Jk ?jW (?NQ ?lH);let ?GG:=y;exact hs i v ys τ _ p ?l2 pp hp};have e:?l9:=O9m;subst e;exact ?MT (hd ys τ H pp)
def DA[?aX][?b1][?hz](hl:?K2 ?dJ ?cY) [?Hf] : ∃W:?dM,?N9 ?jw ?jw ?jw:=by apply ?yk;rintro i m σ H ⟨rfl,hi,pp⟩;have q:=?B8;by_cases hlt:?hr;{apply ?Jk ?jW (?Nw ?lH);let ?GG:=y;exact hs i v σ _ p ?l2 pp hp};have e:?l9:=O9m;subst e;exact ?MT ?y0
universe e9
abbrev Ite[?i][?ar]:It:=IteG ?vN a
def OD[?be][?aT][?g6](a e it:Addr)(hne:e≠it):Xi P w K ?ff ?fY ?hK e (λi h=>(∃old,?Kh h ?gS)/\?yE) where
 mem:=?hL
 obj:=λi h ?gb=>aC h1 ?iQ
 keep:=λi h h' ?gb k=>#[#[old,k e ?hL _ h1],h2.at λo z=>k it ?tP o z]
 item:=by
  ext cD;let ?gb:=st;ext I4;exact wpAny_pyNext_enum_item h1 h2 ?aD (x:=u) ?lN hne λh' hout pP htup hsz hk=>dF (i:=i) (Y:=(Ite ?t a).yld i H) (T:=λh=>(∃old,?Kh h (((?R:Nat):Int)))/\?e9 it a ?R) hne I hf h1 ?iQ ru hout htup hk (λh3 Sz he=>#[he,pP.at λo z=>?Jf it hne.symm z]) λhn=>#[_,x,hn,?g,?g,?to]
 done:=by
  ext cD;let ?gb:=st;ext Ib;ext eU;have hl:=rv.length;exact wpAny_pyNext_enum_end ?c5 h1 h2 ?aD ?hV (?OZ (λb o hb z=>eb b o hb z))
 self:=λ_ _ _ _ _ st h=>by
  let ?gb:=st;exact qv4 h1 h
inductive VM[?i][?ln]:Prop| mk:∀a,(vs=?b3)->?p9->?MC ?fY ?yS
abbrev A62[?i](ta:TA):TI:=?Ja ?yS
def Yv:?KZ ?eM ?eM:=?b4
def U7{X:Cx}[?aU][?aT][?g6]{a:Expr}{ta:TA}{p pos:Pos}(hg:Gl X ?eM)(hm:?cu ?eM=none)(ha:?Bm)[?a6][?IJ]:?NY ?eM [a] A62:=by subst hK;ext g0;apply ?KO Yv ?H6;let ?jc:=_z;let#[l,e,?wd,q]:=q1;subst e;cases r1 with| cons r rr =>cases rr;cases r;let ?td:=?kG hq;apply call_enumerate_list ?fV λh' hen hit hsz hk=>?_;apply qv4 hen #[?qX,[?qX,s1.heap.objs.size],_,_,H1,?g,?A6,OD l _ _ ?p4,#[?Dy,hit],I1.fp2,q]
section
variable[?g9][?eV]
def dI[?dU][?cF][?sm] [?HZ]:?JI ?fY tc:=?Lf LH hs
def aB[?dU][?hz][?Ie] [?Hf] : ∃W:?dM,?N9 ?fY ?fY ?fY:=?Lf DA hs
universe e9
def Bo.turnedN{X:Cx}[?O]{h':Heap}[?ct][?cK][?j](k:?K5 (b ∉ fp) ?DM)[?eX] : ?sR:=by ext Hu;apply ?k1 (g':=s.gens) (d':=s.drawn) (ch:=fp) ?de (?KC ?nu) (?KC #[?oK,?nu]) ?v0 (?Mm #[o,?nu]) ?Gi ?uR ?x2 ?nL ?GT ?bL;{have f:=?lL;exact ?E5};{let ?BH:=hm;exact(?Ma es' k (?OE hf))};apply ?y5 (λc y hc' q=>?_) (λc q=>q) λc ys q=>q;rcases hc' with rfl | hc';{exact k _ _ ?vQ q};exact k _ _ ?vk q
def Ai2{c z TI TO i1 i2:Addr}(h:c ∉ ?d9):c≠z/\c≠TI/\c≠TO/\c≠i1/\c≠i2:=by simpa only[qe4,qj0,or_false,not_or]using h
def Bc9{p:?ys}[?tC](h1:p z)(h2:p TI)(h3:p TO)(h4:p i1)(h5:p i2):?ET:=λc hc=>by simp only[qe4,qj0,or_false]at hc;rcases hc with rfl | rfl | rfl | rfl | rfl<;>assumption
def of5{p:?ys}[?tC](h:?ET):p z/\p TI/\p TO/\p i1/\p i2:=#[?gI,?gI,?gI,?gI,?gI]
def DQ[?ae][?tC]{a b c d e:Value}(h1:?Ku h e)(h2:?cO h TI a b)(h3:?y6)(h4:∃o,?Ki i1)(h5:∃o,?Ki i2):∀c∈?d9,∃o,?Ki c :=Bc9 #[_,h1,λv q=>by cases (show ?mS from q)] #[_,h2,?EY] #[_,h3,?EY] h4 h5
def GA{X:Cx}[?O][?aE][?aT][?g6]{a b z TI TO i1 i2:Addr}{x y:V}{u v u0 v0:Value}[?Ix] [?J8] [?j] (hf:∀b∈?d9,?gq) (hz:?Ku ?H ?aS) (hTI:?Ng ?H) (hTO:?cO ?H TO u0 v0) (h4:∃o,?MB i1/\?br) (h5:∃o,?MB i2/\?br) (ru:?bd) (rv:?rv) (hz':?Ku h' (rawInt ?E)) (uF:?cO h' TO u v) (htup:?cO h' ?E u v) (hk:∀c o,c≠z->c≠TO->c≠i1->c≠i2->?xc) (hT:∀h3,?Bi->?Ku h3 ?aS->?Ng h3->(∃c d,?cO h3 TO c d)->T h3) (hY:?hX->Y ?ad ?sO) : ∃r,?Gn/\?NP z ?d9 ?fH:=by apply#[_,?g,wpAny_letOwnedTupleGo_zip hz' λh3 hz3 Sz=>?_];replace Sz:?Bi:=Sz;have ltz:=qc1 hz;let ?GU:=I.tupN (t':=s.toks) (fp:=?d9) (x:=x) (y:=y) (h':=h3) (?OF (let #[n1,_,n3,n4,n5]:=Ai2 hc;?Jf c n1 ?yx)) hf (DQ hz hTI hTO h4 h5) (?Jf _ (qo0 ltz) htup) ru rv;exact(?OJ (hT h3 Sz hz3 (?Jf TI D.TIz (hk _ _ D.TIz D.TITO D.TIi1 D.TIi2 hTI)) #[_,_,?Jf TO D.TOz uF]))
def Bo.fp5{X:Cx}[?O][?j]:∀b∈[?KJ 4,?KJ 2,?KJ 3,s.heap.objs.size,?aR],?gq:=λc hc=>by have lc:=Bc9 (p:=λc=>?Jp c) ?iY ?iY ?iY ?W ?iY c hc;exact I.fpOk lc (?em lc)
abbrev qW(S:?iU)(N:?zf)(a b:Addr):It :=#[λi H=>∃xs ys x y,?cY/\?kR/\?aY/\?iP,λi H v H'=>∃p x y,?aj/\v=?a9/\H'=?rw/\(∀xs,?cY->?aY)/\∀ys,?kR->?iP,λi H=>∃xs ys,?cY/\?kR/\N xs ys i]
abbrev Itz[?i](a b:Addr):It:=qW ?vN ?pe a b
def RL[?be][?aT][?g6](a b z TI TO i1 i2:Addr)[?J8] :
 Xi P w K ?ff ?eu ?d9 z (λi h=>?xY/\?LX i i) where
 mem:=?hL
 obj:=λi h ?Bp=>DQ hz hTI hTO ?yt ?iQ
 keep:=λi h h' ?Bp k=>by
  let#[k1,k2,k3,k4,k5]:=of5 k;exact#[k1 _ hz,k2 _ hTI,#[u,v,k3 _ hTO],h1.at λo q=>k4 o q,h2.at λo q=>k5 o q]
 item:=by
  ext cD;let ?xq:=st;let#[xs,ys,x,y,Yq,PN,hx,hy]:=hg;ext IM;let ?en:=ra.get hx;let#[v,hv,rv]:=rb.get hy
  exact wpAny_pyNext_zip_item D hz hTI hTO h1 h2 ?qT ?qm (x:=u) (y:=v) ?lN ?hj λh' hz' uF jG h2' htup hsz hk =>
   GA (Y:=(Itz ?t a b).yld i H) (T:=λh=>?xY/\?LX ?R ?R) D I hf hz hTI hTO ?yt ?iQ ru rv hz' uF htup hk (λh3 Sz q1 q2 q3=>#[q1,q2,q3,jG.at λo e=>?Jf i1 D.i1z e,h2'.at λo e=>?Jf i2 D.i2z e]) λhn=>#[_,x,y,hn,?g,?g,λzs q=>by rw[?l7 q Yq];exact hx,λzs q=>by rw[?l7 q PN];exact hy]
 done:=by
  ext cD;let ?xq:=st;let#[xs,ys,Yq,PN,hx]:=hg;ext IM;have la:=ra.length;have lb:=rb.length;apply wpAny_pyNext_zip_end ?c5 D hz hTI hTO h1 h2 ?qT ?qm ?_ λh' hk=>#[?g,I.turnedN (t':=s.toks) (fp:=?d9) (?OF ?_) hf]
  . rcases hx with q | q
    . exact ?v ?hV
    . exact ?n ?hV
  . let#[n1,n2,n3,n4,n5]:=Ai2 hc;exact ?yx
 self:=?K6 qw5 (st.1)
inductive Ac1[?i][?ln]:Prop| mk:∀a b,(vs=[?N,?e3])->?p9->((∃ys,SqL K H1 b ys))->?MC ?eu ?xj
abbrev Br9[?i](ta:TA):TI:=?Ja ?xj
def qO:?KZ ?eO ?eO:=?b4
def EF{X:Cx}[?aU][?aT][?g6]{a b:Expr}{ta:TA}{p pos:Pos}(hg:Gl X ?eO)(hm:?cu ?eO=none)(ha:?tL)[?a6][?Hi] : ?NY ?eO ?bD Br9:=by subst hK;ext g0;apply ?KO qO ?zg;let#[la,lb,e,#[xs,Yq],#[ys,PN],q]:=q1;subst e;cases r1 with| cons ra rr =>cases rr with| cons rb rr =>cases rr;cases ra;cases rb;let#[ia,_,pa,_]:=?kG Yq;let#[ib,_,pb,_]:=?kG PN;(have a1:?Mu la:=by let ?tg:=pa.isList;ext b2);(have a2:?Mu lb:=by let ?tg:=pb.isList;ext b2);apply call_zip_2 ?qT ?qm λh' hz hTI hTO hi1 hi2 hsz hk=>?_;apply qw5 hz #[?Ab,[?Ab,?KD 2,?KD 3,s1.heap.objs.size,?qX],_,_,H1,?g,?A6,RL la lb _ _ _ _ _ (zipApart_new a1 a2),#[hz,hTI,#[_,_,hTO],hi1,hi2],I1.fp5,q]
section
variable[?g9][?eV]
def dH[?I7][?Ip][?cF](hl:?Nt ?wu) [?HY]:?JI ?lQ tc:=by apply#[λi m zs τ H=>m=n-i/\?eF/\?jJ,?o9,?_];rintro i m zs τ H ⟨rfl,hi,pp⟩;let ?vD:=?MO zs pp;by_cases hlt:i<n;{apply ?Jk ?Fq ?C7;let ?xf:=y;exact hs i u v zs τ _ p ?ye ?AQ pp hp};ext m0;exact ?v #[?DK,hd zs τ H pp]
def UH[?I7]{g:TG}{tb:TS}{D:Ends}[?bI][?Ip][?Iy](hl:?K2 ?eF ?wu) [?He] : ∃W:?dM,?N9 ?lQ ?lQ ?lQ:=by ext IA;rintro i m σ H ⟨rfl,hi,pp⟩;let ?vD:=?B8;by_cases hlt:i<n;{apply ?Jk ?Fq ?GK;let ?xf:=y;exact hs i u v σ _ p ?ye ?AQ pp hp};ext m0;exact ?v #[?DK,?y0]
def IS[?aU]{a b:Addr}[?ea]{n:Nat}[?J9][?cF](hl:?Nt ?AR) [?HY]:?JI ?eu tc:=?Kv dH
def yE[?aU]{a b:Addr}[?ea]{n:Nat}{g:TG}{tb:TS}{D:Ends}[?bI][?J9][?Iy](hl:?K2 ?eF ?AR) [?He] : ∃W:?dM,?N9 ?eu ?eu ?eu:=?Kv UH
universe e9
def preSum_sum[?cn]:∀k,k<=ns.length->?sP ?rO k=(ns.take k).sum| 0,_=>by simp[preSum]| ?cj,h=>by show ?sP _ k+?oE k 0=_;rw[?ur ns k ?a1,qe1,qa0 ?a1,List.sum_append,qa1,qa0 ?a1];simp
def QK{X:Cx}[?bH]:?JQ ?rq (∃(p:Addr) (ns:?I),?Nh ?t):=by ext dT;let#[p,ns,?g,hq,q]:=h;ext Ht;ext sx;(have rel:?Kc (∃t,v=?o ?E2 t):=λi v e=>by ext Hy;(have hb:?Mb ns ?Ds:=?bA);let ?en:=?Ms ?c7 ?Ds;rw[e']at hu;cases hu;rw[qa1,hb];exact ru);apply call_sum_walkG ?Co;apply#[?E,?BW,?CA,?ht,_,_,?rO,?g,?wG,?vJ,?_,rel,λh' tk t' k=>?_];ext I3;{intro b hb;(have hb':?LC b\/b=p:=?fE);rw[qi7];rcases hb' with rfl | rfl;{exact ?N3 _};let ?E1:=pl;exact Nat.lt_succ_of_lt ?il};ext Ho;apply#[?r1,H,I1,#[t',?_],q];(have e:?sP ?rO ?ht=ns.sum:=by rw[qc6,←l1,?ur ns _ ?W,qc8]);rw[e]
def KN{X:Cx}[?aU][?bH][?a6]:?JQ ?rq (∃(p:Addr) (ns:?I),?Nh K):=?Jd QK hc
def QO:?O7 "sum" ?rq:=?b4
def K3{X:Cx}:?L1 ?Gt ?Da (i*j):=opI λ_ _ _ _ _ _ _ hc q=>mul_int q hc
set_option tactic.hygienic true in def NI{i:Int}{m:Nat}(h:?vG):?nc i<=m:=by unfold Builtin.Int.intBits;split;{exact ?fB};rename_i h0;(have hne:i.natAbs≠0:=by intro z;exact h0 (by have:i=0:=O9m;simp[this]));exact(?zQ hne).mpr h
def Lx{i j:Int}{m n:Nat}(hi:?vG)(hj:j.natAbs<2 ^ n)(h:m+n<=134217728):?nf:=by have h1:=NI hi;have h2:=NI hj;(have h3:¬((?nc i:Nat):Int)+((?nc j:Nat):Int) > ((bitsLine:Nat):Int):=by (have:bitsLine=134217728:=?aQ);ext d);unfold IntMulOk;intro hz;simp only[qc0]at hz;have h4:=hz.2;unfold Builtin.Int.intTooBig at h4;exact h3 (by simpa using h4)
def eO{i j:Int}(h1:-?fS<i)(h2:i<?fS):?nf:=Ar9.ok (?v ?cg)
universe L2
namespace L2
open PySem PySem.W PySem.Calls PyProof.Rows
abbrev Rf:Nat:=1048576
def Zk:∀[?co]{x:Int},x∈ns->?no ?qO<=WData.weightAll ?iv| ?ij,x,h=>by rw[qd2];simp only[WData.weightAll];rcases ?fR with rfl | h;{ext d};have:=Zk h;ext d
def QJ[?co](h:WData.layableAll [?iS]=true):?mR:=by intro x hx;(have h1:?B (?no ?iS<=2 ^ 20)=true:=by (have:WData.layable ?iS=true:=by simpa[WData.layableAll]using h);unfold WData.layable at this;exact(Bool.and_eq_true_iff.mp this).2);(have h2:WData.weightAll ?iv<=1048576:=by have:=qc9 h1;simpa only[WData.weight]using this);have h3:=Zk hx;by_cases h0:x.natAbs=0;{rw[h0];exact Nat.pow_pos ?aQ};(have h4:?no ?qO=x.natAbs.log2+1:=by simp only[WData.weight];rw[?L λz=>h0 (by rw[show x=0 by simpa using z];rfl)]);(have h5:x.natAbs.log2<Rf:=by show _<1048576;ext d);exact(?zQ h0).mp h5
def fV{l:OpenLaw}{n:Nat}[?Hw] [?tG] (hdf:?Ac) (call:∀(w:World) (s₀ s₁:Shared) (mg mb:?bR) (fa:Addr) (o:Obj) (pm cd doc:Value) [?ar] (vs:?F) [?cn],?mR → Ground q loose [] XP w s₀ mg mb ?fQ->YP w ?fQ → ?nb fa=?x->o.data=?kF (docDef ?nB d.params d.body d.scope pm cd doc)->s₁.heap.CodeRec cd ?nB->?zm → ?Fz->?hU->?iM->?uh → ?MV (?gF l.prog w)) : ?LY WalkO:=by intro w s₀ s₁ mg mb G Y fa o pm cd doc dV kV ho hd hcd hD hmg hg args vals as hpre hlay hrd hwl hlo;obtain rfl:dV=?aS:=Dflts.none hD hdf;obtain rfl:kV=?aS:=Dflts.noKw hD;let#[a,vs,ns,?g,?g,hobj,hints,?eh]:=Att.script_of hn hpre hwl;apply enter_call (?iz (call w s₀ ?bu mg mb fa o pm cd doc a vs ns (QJ hlay) G Y ho (fd_plain hd) hcd hmg hobj hints ?eh hg) ?A7);let#[?g,h2,h3,h4]:=hq;exact#[?v #[?dB,?dB,[],?g,?GH,?dB,Att.post_true l _,λ_=>#[List.Pairwise.nil,λ_ hm=>(nomatch hm)]],h2,h3,h4]
def walk_ofB{l:PySem.W.OpenLaw}{n k:Nat}[?Hw]{K:Params->PySem.W.Frag}{CX:World->vP}{sp:World->Sp}{x:Str} [?tG] (hn2:?px) (hdf:?Ac) (hr:?Ad) (hY:∀(w:World) [?bJ],YP w h->?mq h) (F:∀(w:World) (mg:?bR) (fa:Addr) [?bJ],?mq h->h.Ns ?s4 mg->?zm → ∃fd:FuncData,?zh ∧ ∀base:Heap,?mq ?al->?oR->By l.prog w ?mX mg ?al (CX w) k fa fd [x] (sp w)) (y4:∀(w:World) (H:Hp) [?ar] [?cn],?iM->?mR->Aq7 H->SqL ?mX H a ?cT->sp w ?b3 H ?Fh ?fU) (hCX:∀(w:World) (H:Hp) [?bj] (e:Value) [?bh],CX w [] H s ?fU e s'->False) : ?LY PySem.W.WalkO:=by apply fV hn hdf λw s₀ s₁ mg mb fa o pm cd doc a vs ns An0 G Y ho hd hcd hmg hobj hints hlen hg=>?_;have KX:=hY w _ Y;let#[fd,hb,hF]:=F w mg fa _ KX G.T.g hmg;exact tU KX G.T.g G.T.b G.T.builtins G.T.nolimit hg hobj hints (qa5 ?eh hn2) hr hF hb (λH hO hS=>y4 w H a ns ?eh An0 hO hS) λH e s'=>hCX w H ?bu e s'
universe L2
namespace Hb
abbrev sumN[?ed]:?eD| 0=>0| n+1=>?jO
def Ad{f g:?eD}:∀{n:Nat},(∀k,k<n->f k=g k)->?hO=?qj| 0,_=>rfl| n+1,h=>by show ?jO=?vb;rw[Ad λk hk=>h k ?a1,h n ?a1]
def Nw:?KV ?CP 0| 0=>rfl| n+1=>by show ?hH+0=0;rw[Nw n];rfl
def Cq(f g:?eD):?KV (λk=>f k+g k) (?hO+?qj)| 0=>rfl| n+1=>by show ?hH+(f n+g n)=?jO+?vb;rw[Cq f g n];ext d
def Ax(c:Int)[?ed]:?KV (λk=>c*f k) (c*?hO)| 0=>by show ?gu=c*0;rw[qd4]| n+1=>by show ?hH+c*f n=c*?jO;rw[Ax c f n,Int.mul_add]
def B9(c:Int)[?ed](n:Nat):?ag (λk=>f k*c) n=?hO*c:=by rw[qe8,←Ax];exact Ad λk _=>qe8 ..
def Bs(f:Nat->?eD)(m:Nat):?KV (λi=>?ag (f i) m) (?ag (λj=>?AZ) m)| 0=>(Nw m).symm| n+1=>by show ?hH+?ag (f n) m=?ag (λj=>?AZ+f n j) m;rw[Bs f m n,Cq]
def D6[?ed](i:Nat):?KV (λk=>?O4 k k) (if i<n then f i else 0)| 0=>by simp[sumN]| n+1=>by show ?hH+?O4 n n=_;rw[D6 f i n];by_cases h:n=i;{subst h;simp};by_cases h2:i<n;{rw[?Q h2,?hZ,?sN];ext d};rw[?L h2,?hZ,?dr];ext d
abbrev Gm(n:Nat)[?ed]:?I:=(?ce n).map f
def F1(n:Nat)[?ed]:(?im).length=n:=by unfold Gm;rw[qa3,qk2]
def Ru{n i:Nat}{f:?eD}(h:i<n):?Mb ?im (f i):=by unfold Gm;rw[qa7,qn4 h];rfl
def n0(n:Nat)[?ed]:Gm (n+1) f=?im++[f n]:=by unfold Gm;rw[qk4,qb0];rfl
def CM{n:Nat}{f g:?eD}(h:∀i,i<n->f i=?hN):?im=Gm n g:=by unfold Gm;apply qn3 λi hi=>h i ?GD
def XU(n:Nat):(?b5 n [?gu]).flatten=Gm n ?CP:=by induction n with| zero=>rfl| succ n ih =>rw[n0,←ih];clear ih;induction n with| zero=>rfl| succ n ih =>rw[qk0,qm8,ih];have ih':=ih;rw[qk0,qm8]at ih';rw[←qn0,ih']
end
mutual
#check(4,[?a,?b,?c,.(by first|with_reducible(first|assumption|exact Nat.le_trans ‹_› (Nat.le_of_ble_eq_true rfl)|exact Nat.lt_of_lt_of_le ‹_› ‹_›|exact Nat.le_of_lt ‹_›|exact Nat.lt_of_lt_of_eq ‹_› ‹_›|exact Nat.lt_of_lt_of_eq ‹_› (Eq.symm ‹_›)|exact Nat.lt_of_le_of_lt ‹_› ‹_›|exact Nat.succ_le_of_lt ‹_›|exact Nat.le_of_not_lt ‹_›|exact Nat.sub_le _ _|exact Nat.le_of_succ_le ‹_›|exact Nat.lt_succ_of_lt ‹_›|exact Nat.le_add_right _ _|exact Int.toNat_sub _ _|exact Nat.le_trans (Nat.min_le_right _ _) ‹_›|exact Nat.le_trans (Nat.sub_le _ _) (Nat.le_trans (Nat.le_of_eq ‹_›) ‹_›))|lia),.(by first|(apply Hb.let12 ?_;intro _ _ _ _ _ _ _ _ _ _ _ _)|(apply Hb.let10 ?_;intro _ _ _ _ _ _ _ _ _ _)|(apply Hb.let9 ?_;intro _ _ _ _ _ _ _ _ _)|(apply Hb.let8 ?_;intro _ _ _ _ _ _ _ _)|(apply Hb.let7 ?_;intro _ _ _ _ _ _ _)|(apply Hb.let6 ?_;intro _ _ _ _ _ _)|(apply Hb.let5 ?_;intro _ _ _ _ _)|(apply Hb.let4 ?_;intro _ _ _ _)|(apply Hb.let3 ?_;intro _ _ _)|(apply Hb.let2 ?_;intro _ _)),.(by first|(apply Hb.letG6 ?_;intro _ _ _ _ _ _)|(apply Hb.letG5 ?_;intro _ _ _ _ _)|(apply Hb.letG4 ?_;intro _ _ _ _)|(apply Hb.letG3 ?_;intro _ _ _)|(apply Hb.letG2 ?_;intro _ _)|(apply Hb.letG1 ?_;intro _)),O9m,.(by ext d),rfl,spot,some,i+1,qa4 _,sumN,if_neg,∀{t:?J},a,?o ?h,Nat->Int,det,qa8,n+1,prodN,if_pos,i<n,.int,.ref,t j,?w ?i,wpAny,spot+1,w+n,∀(t:?J),a,addR,t l,j+1,Nat->Nat,.lst,f i,List,?w ?h,.(by intro z;cases z),X.env,qb1 _,2 ^ b,.inl,∀{f:?r},a,m+1,k+1,2 ^ c,.inr,this,(-1),.(by grind),2 ^ π,t k,f j,Lat.Mat × Lat.Mat,autoParam,In.row,blendR,.(by simp),∀(f:?r),a,.(by decide),∀{K:W.Frag},a,?z p,shrS,moveR,?k o,d+1,?z a,sumN_all0,i-d,∀(R B:Mat),a,∀(n w:Nat),a,Zr._auto_1,s.heap.objs.size,h.pos,beside,#[x,hx],V.int,Dw ?g,(?Md ?_),sumN_one,.nil,?w z,∀{n W w i:Nat}{G:?ap},a,.(by split<;>ext d),.(by exact this),p+1,T k k,none,.(by ext O),R j ?A,?aJ+1,funext,∀(I:?C5),a,s.heap,Mat × Mat,r<=j,(R,B),i-?D,H a,c+1,?P7 Nat,Good,Ct ne,?M V,_,h.zero,z.symm,model prog w,kt i,r<=i,s l,RelV,eval,.type,.none,unit,∀(hp:p<n)(hq:q<n)(ne:?dm),a,IsPair,D i j hi hj,.dK kvs,false,?z b,A p,r<=n,w+a,kv.1,kt j,?cN t ?j st,?aP w T P,?o e1,A.fdiv B,∀(s:?a4),a,∀{kvs:?bi},a,∀{P:Program}{w:World},a,.(by simpa using hb),t i,t ?j,.cons,p.1=k,.(by ext aY),decide,i-?dp,f+d,j<=i,2 ^ ?Hr,R r c,Q .non H',?cN t i ?ax,∀{G:?ap}{M B0 R B:Mat},a,∀{Q:?Bi},a,∀(ms:?fh),a,∀(K:W.Frag),a,∀{n w:Nat},a,?eC H H',h.old,?M ?tJ,A p c,spot<=i,I.hok,.tup,H.hi,Bits,.Call,?v f m,j=spot,?w e,?o e,∀(K:W.Frag)(CL CS CW:Addr),a,∀(x:?H0),a,∀{f:?cd},a,∀{s:?aj},a,_,.(by rw[Bv];ext d),.(by unfold moveR),s c,2 ^ β,mixKind ?eN X.w,fs.lookup,T' k k,R p c,absurd,starEach,IsZip,downS,?aE R i s,?P7 Addr,.(by ext bN),?V+m,h.inc,.ins,Hk ne,?s n A,T k c,?cM+?dd,ih ?g,η+1,insT,∀{X:Cx}{Ag:Bl}{σ:St}{H:Hp}{s:Shared}{a:Addr},a,∀{A:Around}{E:?Bi},a,∀{kt t:?J}{hd:?r},a,∀{C:?ap}{δ:Nat},a,.(by rw[this];simp),.(by simpa using e),.(by rw[?cg]),∀(i j:Nat),a,∀(n W:Nat),a,∀{R B:Mat},a,∀(hi:?x),a,?OU ?_,?D+d,A q,?Ml ne,Nat->?r,r-1,?Rd p,?o z,mvI i s r,i≠j,λ_=>0,.(by ext cT),?RS h,?k x,P7 kvs k,(1:Int),β-?cM,(H0:Hp),∀{n p q:Nat},a,∀(hp:p<n),a,π+1,Value.ref,spot<l,model ?eN X.w,?M Expr,[it],?y i,s.1 i ?bP,(?e6).natAbs,?k v,?o e2,λl=>?e6,Vp ?bl e,.fields,i+d,tr T,keep,n<=1000,#[z,hd,vs,rel,dd],(?ae).natAbs,value,?ML ?_,put2,kvs.map,(-q),VI n f,?z D,R j c,?n f n,λ_ _=>rfl,Option.none,j-1,?hb-1,h.low,cS π i,as.map ?iL,?z ?aN,.builtin,λc=>c<w,kV k,?Q1 hx,n+w,?G R p q k,ObjOk,?RY t d,x.ne,Es π b r,Part,λz=>?_,(v:V),.(by intro X hP hw hK hc i Ag s σ H E I hf st hg;subst hP hw hK),∀(H:?nZ)(h:?oV),a,∀{R0 B0 R B:Mat},a,∀(a b c d:Int),a,∀(hs:?gp),a,p≠q,X.mg,_,e+1,qc4 _ ?i,w1.extBut,Bx e,Tw f ne,w3.extBut,?z z,call,T i c,#[t,?i],qa2.mp,?L / g,λk hk=>h k ?g,x.sm,qd6 ?_,R i c,r≠p,R l ?H,Pv i zs τ H,λr c=>R r ?c1,R k ?a2,?o h2,.Attribute,Same,cM π i,?v f n,?P7 Hp,hst.zero,addS,f<=j,r1.fdiv r2,λr l=>R r ?H,cpos,Itm d o,X.prog,n-k,?M Key,insAt,Hm R p,r<=w,(pb R t k ?eO).natAbs,?SG ?_,?o h1,IntMulOk,m<=n,I.ok.hd hc,"range",addR_row_ne,λj=>?iE,Q c,T j c,R' p ?H,#[h1,h2],?v f k,a*d-b*c,s.heap.IsTuple,λj=>T j ?A,qi0 ?df,apos,∀{kvs:?ft}{vs:?Nd κ Value}(r:?fV),a,∀(h:?Jg),a,∀(bb:?zu),a,.(by rw[?q]),.(by apply qu3.mp λy=>?_),∀(hi:?x)(hs:s<=i),a,∀(R:Mat)(p q:Nat),a,∀(s:?aj),a,∀{as:?fq},a,∀(ry:?b0 y u),a,∀{H H':Hp},a,BB.bo,2 ^ δ,?v ?FB r,(?OB R),kt ?j,Pv i σ H,?o a1,?Rd D,x.2.1,?t ?_,.(by ext gV),Itk d o,?eH i ?j ?dH ?al,T r ?c1,.(by ext bz),(0:Int),S.same,Yg s r c,mixKind P w,hst.lt,h.red,-(b*q),?w h1,.seq,A r c,(n W:Nat),?Rt p q,A / g,Array ?kC,?e4=0,(i:Nat),λ_ _ _=>rfl,c<=?bP,{ s with heap:=h' },KV kvs vs,.Name,2*π,H.part.inc,?M Int,x.2.2,?NJ ?_,m+d,2 ^ η,λa=>a=nm,if p<i then p else p-1,d<=?l,?M ?l3,h.gc,X2 n r kt,k+m<i,i<=n,(s:?a4),?ON kvs (k,v),Bx ?h,b+i+3+?fX,?M Addr,s.1 ?j ?bP,?w a1,?M ?xq,Rows,?z it,R ?j c,hd j,x.nu,spot<r,?fp+i*?ct,(n w:Nat),"list",?hp V,V r c,"zip",-r2,Cr ms k,(?kp).1,R ?cE ?Hm,?Rq s',λj hj=>O9m,Lat.shrS,s2.1,Pv ?l,(?bY).natAbs,Sum.inl k,blendS ?j i x y z u ?al,h.st.lt,∀(_K:W.Frag)(CL CS CW:Addr),a,∀(n W w i:Nat)(G:?ap),a,.(by rw[move_row];unfold mvI),∀(R:?O6 H1 as),a,∀(h:?kv),a,.(by apply ql0 ?df),.(by by_cases e:?bR),.(by exact True.intro),.(by clear hz2;ext d),∀(ok:?wE),a,∀{n W w r i:Nat},a,.(by by_cases e:r=p),.(by decide +kernel),s.heap.get?,?k u,?w e1,λb hb=>?_,?ca<=i,S1.same,h x y hx hy,?Rw ?aO,spot-r,?k _,b+c+1,r1-?eJ*r2,#[y,hy],?Rq ?al,m<=w,#[u,hu,ru],h1.symm.trans e,R j ?H,t ?bV,spot<i,?Nh e,?w h2,?k y,blend_row_p ne,t m,?e0*?a3,?P0 ?ay ?Ao,λc=>?t9,ih ?h,.(by simpa using e1),p+d+1,I.tok _,?Pn st j,.dK [],D5 w r T' t,h'.IsTupleIter,St->?eF,?Nd TE TE,?P7 ?a4,?w e2,tr R,(?hq).congr,?Ci n w T,?Rs ?l,R.row j a e,H' a=?lb,(a==sysModules)=false,k-1,w2.extBut,2 ^ ?t0,kvs.length,h.IsTupleIter,H d=?lb,R r x,tr Oj,s.1 i c,?aE R i ?j,?z t,(?Q7 ?_),?RK e,hst.ge,?wD<0,?hp ?kC,K.pos,Z r c,?G P i j 1,?P7 Shared,(n:Int),upd H' a ?b8,β+(π+2),its.toArray,R' p c,β+?eD,Nb kvs p.1 p.2,v ?A,j<spot,?Qv k T,w<=1000,?an=?k ?b8,a m*U m c,SameX,Option,?a6 hj,?z l,s1.heap.push,pb R t k m,?v ?d4 i,?u-1-k,#[a,b],λi hi=>?_,x1*y2-x2*y1,λj=>?ae,.(by simp;ext d),?Nd ?eP V,0<?ae,β+?dd,.frz o ?b8,?an=none,?S6 u,?M α,h.ker,h.st.inc,ChainAt,dd.typeIs,?Ml e,D.nx σ H,T j j,?M Str,?n (λi=>Ul i*A i 0*?GT) ?u,(?pq).get?,?jl ry,R' p ?A / ?ae,h'.get?,V.ref,x k*?e9,?Rs i,h.st.pos,i-r,?o ne,f+m,Oj k k,K.head,call_meetsIn,w+c,Rd H a ?b8,β+?jD,?NP H v ?jX,e::es,R.free,b*f x,2 ^ ?ct,L+2,∀(K:?p6)(h:?BP)(hi:?ay),a,_,.(by unfold insT;rw[?q,?B]),.(by intro Ag s σ H xs us Q I r h),∀{A B r1 x1 y1 r2 x2 y2:Int},a,∀(kvs:?ft)(k:κ),a,∀{n w r:Nat}{E:Nat}{e:Int},a,∀(l r:?a4),a,∀{R B:Mat}(h:?J7),a,_,∀{R:Mat}(h:?Oa b R),a,∀{prog:Program}{w:World},a,.(by intro Ag s σ H Q I h),.(by rw[←Ax,←Ax,←Cq]),∀(e:?hm),a,.(by rw[←rel.length]),∀{w r:Nat}{R:Mat},a,∀{π b spot:Nat},a,∀(h:?FW),a,∀(u v:?r),a,∀{es:?cx},a,∀{i:Nat}{R:Mat},a,∀{y:V}{u:Value},a,∀{G:?ap},a,∀(h:?yU),a,∀{CL CW:Addr},a,∀{o:?g3},a,∀{u:?r},a,?gW b=?aF,?cI=0,if i=j then 1 else 0,?w hi,r1*r2,?l-d,j<?l,Gn π b i,hr.mono hk,?b2 ?g5,.(by rw[h,qd8]),qh9 ?fB,hst.pos,#[_,?dq,?i,?i],?eC H0 H,?n ?k6 i,[e,f],u l,?v ?yR m,?Nu ?zI,?a1*?d1,.ad i j n,?v f' m,?IE t ?j st,h.good.rest,2 ^ e,qe9 ?aA ?g,dT h w f,?k (w:Int),?w y,vs=[?aC],?w a2,?Gl n w M,?b2 "tuple",(i:Int),h c hc,(t:?J),[?aH],upd H a ?i4,h<=1000,-y1*r2,kV_is,?ab=0,Lat.Shares,-(?N1 m ?Hm),(K:Int),?bE=k,?PJ H',lo<=n,(?b9,?RK b),λx hx=>?_,R k c,qk6 ?g ?g,Hx ?Y,kvs.any ?oJ,λr l=>R r ?FV,{ s with heap:=h',toks:=tk },slice,?Mg H s',?o a2,?y n,M i i,λk=>B k a*?sg,?Oy ?aO,?n _ ?u,qs8.mp,?X (?X z),h.st.zero,Value,?MS r (?iE∣e),?ni vs k,2 ^ ?fX*h,(p L R nm:Addr),field,?RK o,?v f ?fc,?M ?DA,Int.mul_pos,U k c,h.st.red,?vW ?m,h1.2.2.2.1,?as->Hp->?P7 VK,-?tR,λj c hj=>O9m,2 ^ m,(p q:Addr),?w h,lx.nb,P x,w5.extBut,?fp+spot*?ct,(M:Lat.Mat),h.good.trans,Good.refl ..,.dK ?xx,#[h1,_,h3],I1.kept,?an≠none,Zd._auto_1,?g9*?ht,Nat->?r->?JL,M a ?A,(f:?cd),A-?bJ*B,?b0 ?dW u,congrArg,?aD t p f ?al d,?a2=k,Ly R t i ?bU,2 ^ 61,λd hd=>?_,?n f j,F3 n w r E e T,W<=1000,h _ ?g,h.tab,.(by unfold cM;ext d),λc=>c<?E,w4.extBut,Call_,Int × Int,r≠i,?aD t p f s m,?SP j*?d1,?hp Lat.Mat,?S9 z,R i x,w<=60,Jm n w r e T,Cy ?h,moveS,R j,?l+m,?eE*f n,?bU+1,"dict",bb.2.1,?o ?Bo,cK ms,qc1 e,?o h,?Mv 1,(M:?cC),h n ?g,s.1 j ?A,bs[i]?,?MS i (?A<?E),(?Pe ?_),?jI j hj,x=?aH,Itd hi n,?Nz ?_,H b=?gX,r-k-1,?k ?i4,(?sJ).2.2,K.zero,?L∣ ?a3,λa=>a=nm\/a=r2\/a=b2,(Lat.one,Lat.one),u ?ao,?Ob r c,lx.nr,.(by kernel_rfl),(?o0).natAbs,t ?ob,2 ^ Y,?Pn ?f1 j,s.heap.push ?vk,base l h1 h2,List.range,.(by rw[e];ext gQ),i<=kvs.length,?eC H H1,?MM i j 0,?Po c b,?aD t p ?D ?al d,this.table,n-1-k,?k ob,f i c,?A<?a2,VB K a b,[a,b],tr A,?b2 ?lI,pT n B R a b,?ff+1,as.length=h,Es π b i,?y w,Shares,ms.map,?RY ?ba d,?N5 kvs.length,Yg s j c,Gy A i,(z▸hN),s2.bwd,?o y,backTo,(l r:?a4),.ellipsis,?Qh f m,tr S,I.laid,?gp->st<?bP,?y j,Kp H H',∀(D:?DF z a b i1 i2 t1 t2)(gz:?NH ?ai ?b3)(ga:?b6 ?ai a ?r5 ?r1)(gb:?b6 ?ai b u v) (g1:?qw i1 t1 n) (g2:?qw i2 t2 m) (e1:?ei t1 xs) (e2:?ei t2 ys),a,.(by let#[ho,hsys,hl,vs,es',yF,rel,hd',hsz,ex,hm]:=Xb I hz;rw[hd]at hd';cases hd'),∀{kvs:?i1}{xs:?oq}(r:?wJ),a,.(by repeat (first | rw[?B] | rw[?iQ] | rw[?o ne'])),∀{C p r b:Addr}{sv:?g3}{n W:Nat}{s:?a4},a,.(by have hn:es.size=vs.length:=by rw[hsz,rel.length]),∀{ns:?fZ}(x:?BB),a,∀{z a b i1 i2 t1 t2:Addr}{n m:Nat}{xs ys:?fP},a,∀(hp:?zn)(sx:?pW),a,∀{te:TE}{D:Addr}{Q:?eF}{τ:St}{H:Hp},a,∀(hK:?a5 (X.K=K) ?aM),a,∀{p C dx:Addr}{fs:?nv},a,.(by apply#[?aT,?aT]),.(by exact(show False from r).elim),∀(hz:?Rz ?bP ?fQ),a,∀(x:?sS),a,∀(kt:?J)(hd:?r),a,∀{a b c d:Int}(h:?eh=1),a,∀{kt:?J}{hd:?r},a,∀{n w r:Nat}{e:Int}{T:Mat},a,∀(he:0<e)(h:?lB),a,.(by intro Ag s σ H R I h),∀{D:Nat}(hD:P5 m G M D),a,∀(e:?iW),a,∀(h:?Jl),a,.(by apply Ad ?hx),∀(ZY:∀c,G c->c<W),a,∀(h:Heap)(a b:Addr),a,∀{R:Mat}{p q r:Nat},a,∀(R:It->?eF),a,∀(hc:X.calm=true),a,∀{n p:Nat}{A:Mat},a,∀{R B R' B':Mat},a,∀{X:Cx}{pos:Pos},a,∀{n W w i m:Nat},a,∀(as:?fq),a,∀{M B0 R B:Mat},a,∀{N:?cC},a,∀{n W w lo:Nat},a,∀(s:?bg),a,B.fdiv r2,qh2 ?aA ?g,(?hE).2.2,run d hd,Builtin.SmallTypes.nextOf,λr x hr hx=>?_,C=CL\/C=CS,Lat.downS,?z j,r=spot,λy a=>R y ?bD,λr x=>?_,λx a=>R x ?bD,?ME (l≠i),?b4 e j j,λc=>c<W,?o x2,I2.thaw e2 hb,gU T s k,po x x1 x2,?Mv 3,h.st.s0,h.detsD,I.bare,i-1-k,β+(c+i+3),?MS i (?A<W),?NS G R0 B0,one j c,A ?qj ?ao,qh3 _ _,?QS y.natAbs,?QU q,λi=>?C8,?G B q p (-k),?R5 (?Sa k k) m,valueAt,?z L,hst.inc,?Me (?bP<?H),?Oy st.lt,#[kvs,kvs[i].1,kvs[i].2,q,?pA],?Ng n (0<f k),λσ2 H2=>tb { D with nx:=?gE,ct:=?gE,bk:=D.nx } σ2 H2,holding [ov] (getMethod ov m pl),?jB<=r/\r<i,qw2 ?_,?qd hc,y kvs q,?Nd Str V,?k M',h.partOf,?HS i c ?m,?aI ?lU,?v ?d4 j,c<?A->?dK=0,?SM u (vX t),β+?Jv,?Rs ?V,k5.objs.size,y1*y2,In.zero,h.st.next,#[p,eA],y1-q*y2,?w hj,wL i j g a b f r,Gm n f,?QJ x ?a3,?RO y1,M k ?bF,x m*U m c,x.same _ _ e,λkv=>?bT ?jq,x.keep,xs=[?aC],?OC ?_,?p4 hx k kr v0,QY i M,j-?D,?pY*μ,Nv π b η r n,?o hne,.of ?_,pT n B0 M a ?A,?MK ?j R B,Heap.SameBut,λk=>x k*?kM,?w e3,aD kvs k,?o e3,if l<k then l else l+1,#[r,t,KP,hst,hz],h.skip,?S6 v,?Mv 4,Paired,r=?ff,(f k).natAbs,?l+Y+2,Nat->?h6,A.handled=none,On K fd ps []/\By P w K mg base Ew k f fd ps sp,?M ?kC,?a7 B p q d (-c) (-b) a,?s i ?JZ,?Nd ?eP (Addr × Value),?v ?eb r<=E,#[kvs.length-?l,?g,?i,hlt,p'],Nb kvs k v,?RT h.pv,?ME (?gg=(c+b)+1),2 ^ b0,wpAny_rule,(-r1).fmod ?g6,?RI ?j ?gH,(N:?cC),r1≠0,r2≠0,?aE B i s,hst.lead,λk _=>?_,?Mt W M,λx H' y=>?_,∃m,W 0 m σ H,B≠0,.(by simp[hlt]),t1 j,blend_row_ne,n<=60,(?N1 ?eO c).natAbs,#[as,a1,a2],#[w',hw,rw'],Iu W ?Fa st,(f:?r),kk b ob hb z,?NB EuA r2,?RS ?fi,"keys",zz+π+1,(?gj).1,qf3 _ ?g,.Subscript,f j c,?X h,Ly R t i r,?Rs r,?b4 ?hD i d,?ho p H H',us.length=h,2 ^ i,qk8 _ g0,(LY n).map ?aR,(aT▸hi),?Ox ?gh r2.natAbs,x1-q*x2,Rd H a ?t3,"dict.update.loop",?z D2,Lat.insS i ?j st s',?RO y2,(t:Tn),?w hr,Cr ns j,?z r,bK.zero,?a3 / g,?pC e2 e3,zt5 ?ai a b,?RD a ?dI,iM ?bl e,(zt4 ?ai a b).objs.size,?aP n S ?s3,Lat.blendS,EV ?bl eb,qp3 m0 m1,?o e4,?a3*?L,e.symm,Ad ?p5,∀H',?bg->?E8,?M (?hp Expr),.(by ext ig),BO n W s,?aP w R ?nK,id hin,?bh l _ ?h h2,.bool ?b9,f q-g q,?MS i (G ?A),?k ?bA,?o x1,-?po,?jn ?L ?a3 g a b,λp=>?bT ?bR,R0 r c,∃q,?iK a=?k q,B4 (B4 R j (R ?I)) ?I ?lE,Str.ofString "__next__",Em (?ME (l≠spot)) ?nL,tupleKind_room_in1 hu,?Mv 2,λk c _ hc=>?nt,?NG p,MZ ?bl e,?PC H' as f,λk=>x k*?jv,I.turnedN,λy=>hne y.symm,#[kr,ht],KT × Value,(sv:?g3),?gI j hj,if j=i then 1 else 0,?y 0 0,?hi*?o0,tnA t,beside_lo,?s i ?ym,.(by ext tm;ext aY),?v ?eb k,h k c hk hc,?bp (?fW ?eZ q) [a] [] pos2,if r<i then r else r+1,sq.flip,λk hk=>O9m,h.back x hx,let #[q,_,_,hq,_]:=RC;#[q,hq],s.TypeIs,.(by rw[←qe5];congr 1;ext d),FY n w i j f l r,values,?MY R' B',?V+l,D j j hi hi,?R5 (a k*?MU A p (U k)) m,s.heap.IsTupleIter,2 ^ ?oP*μ*?R,.(by rw[x.1];exact hi),β+i*?eD,(?hq).mix,?z i2,A ?AI ?ao,qe8 ..,In.sum,?z i1,?N1 m ?H,H b=?PQ (k.map kV),λj hj hne=>?_,x2*r1+?tC,?cA ?bG i ?gA ?l,.(λM' e=>by cases e),h.st.pg,Q8 hA hB,?n ?oX m,?y (hi-i),#[y,H2,I2,ry,q2],tPairs,standAt apos.atName,?v _ m,π<=8990,Du e c,T' k c,#[T',s1,s2],s _ _ e,Q ?dJ H',λ_ _ _ q=>q,(?lx).1,-(B / g),?QS q.natAbs,j<=spot,attributeBase,x1*x2,?Nb (?qb*?zZ) i,?cM<=β,?Om ?l R0,a∈as,Dw (by ext gR),f p-g p,?y ?L,r-?l,λb o e=>?gq,h.prod,E7 n w T T',?lD i ?j x,λ_ _ x=>x,i-1-j,{ cls:=?b2 "dict_items",data:=?d6 #v[?z d] },rawInt,?k ?ux,shF i j g f,?QS x.natAbs,?y (w:Int),?MS r (?A=j),h.col0,?l*(?l+?g0+2),λk hk hne=>?_,?Nb (a j*U j c) m,λ_ _ _ _=>rfl,U m M l r,I ?j s',?n ?yV m,Oj k l,κ*D,?FY i,λx a=>S x (n+a),2 ^ 9000,HT.sIx,b2 a ha,D i i hi hi,R i ?iV,#[ok,ov,hit],?aD t p f s d,Lat.addS,?Rj t ?db m,.(by simp at e),(f,first),hf it ?a8,2 ^ (z-2),g x σ H' λσ2 H2=>tb { D with nx:=N,ct:=N,bk:=D.nx } σ2 H2,?l*?oj,a2 a ha,(h w:Nat),Ii kvs more,wpAny_callSpecial?_slot,Ol.some_of,shL i j g b f l,?Na p ?IV,.bl true,?MS r (?A<w),LX H C p r b sv n W s N,?a7 R ?j i x y z u,(?b9,?RK a),λz=>e (?GD z),R i ?a2,?Ol (n-r),x.same.trans,s.1 j ?lo,?z D1,?aE B i ?j,X.base,#[λj k _=>?i9 j k,λj c _=>?kB j c,λj _=>?iO j,λk j _=>?kN k j],?eQ k y xs,stored,R k ?A,(?gj).2,2 ^ ?x0,Hm B p,s.free,λa c=>?xs,Lat.Mat->?JL,getItem,λc q=>?G5,[a,b,c],?dU "any",R1 r c,?S ?i,?k M,.bl ?BL,?ON ts t,Ne.symm,∀σ' H',N σ' H'->∃m',m'<m/\W ?l m' σ' H',0<=?sg/\?sg<?ae,?b2 ?g2,β+c,#[c,hc,h0],?Q1 ZY,.dT kvs,?o ?yM,sumN_pair,qi6 _ ?g,.(by ext it;exact z),?E<=W,a*u c+b*v c,Lat.beside,W i m σ H,-x1*r2,T i d*X d j,U m M' l' r',Ad ?hS,Kp H H1,spot≠i,#[hp,g,d,tk,os],Key × V,Nat->?ok,?v f ?u,h.s0.inc,P.zero,λc xs q=>?G5,(?hu).natAbs,I ?j s,b*?a3 / g,?RY t 0,π+zz,i*D<=?R,(?mL pos ?JI).any,?OI R v,.(by(have t2:?cN t i ?ax i=?ax:=?q4)),.(by have D:?Oj n (?G7=?j8):=h),.(by let#[dx,fs,h1,h2]:=x.ob;let ?pF:=x.rw;let ?It:=x.bk),.(by rw[?q,?q,?q]),∀{p L R nm:Addr}{n w:Nat}{M:?l7}{l r:?a4},a,.(by let#[σ',H',I2,e2,q]:=hq;exact#[σ',_,?nP,q]),∀(h:?Me ?F4),a,∀{x y z u:Int}(e:NX π ?Fu ?GP x y z u),a,.(by exact ?Oh x0),∀{i:Nat}{T:Mat}(h:?Rf i (r<c->T r c=0))(s:?J),a,.(by let(?MG hp _):=x.ob),∀(hG:?Oz (r<i->G c->?AH)),a,∀(hq:?Ng i ((Ly R t i k).natAbs<?W))(hi:?x),a,∀(mg:?DE)(base:Heap)(C:Addr),a,.(by have e':¬q.1=k:=?sV),.(by unfold mvI;split;ext d;split;ext d),∀{C:?ap}{R:Mat}(h:?QD b R),a,∀(hu:X.A.units+1<cLine)(ho:?AL),a,∀(hq:q<n){k:Int}(hk:?zx),a,∀{x:?aj}(h:?MF β x),a,.(by have z:b=it:=?cD),.(by rw[?wp]),∀(hk:?a5 (j<=k) ?kh),a,∀(x:?uU),a,.(by let ?vo:=P6 r;cases ru),∀{Q:?hW->?ha},a,∀(A B r1 x1 y1 r2 x2 y2:Int),a,∀(h:?O5 n G),a,∀(ps:?iF)(k:Nat)(sp:Sp),a,∀(spot i:Nat)(A B g a b:Int),a,.(by let#[f,fd,h1,h2,h3]:=h.ex),∀(hn:?x)(hp:p<=spot\/p=i),a,∀(k:Nat)(y:α)(xs:?i7),a,∀{T Oj:Mat}(s:?EZ),a,∀{T T':Mat}(s:?rh),a,∀{vs:?kK},a,∀(G:?ap)(M B0:Mat),a,∀(P:?Qh ?D i),a,∀(xs:?as)(H:Hp)(Q:VK),a,∀(ns:?fh),a,∀(P:Program)(w:World),a,∀(hu:A.units+1<cLine),a,∀(hi:i.natAbs<?kT),a,∀(hn:?ol),a,∀(p:Nat)(u:?r),a,∀(g:?kv),a,∀(hA:0<A)(hB:?p9),a,∀(vs:?as)(H1:Hp),a,∀{x1:Nat}{tpos:Pos},a,∀(f:?cd),a,∀(hij:i<j)(hj:j<m),a,∀{b p spot μ:Nat},a,?ME (?D-r=?ge+1),(i*j).natAbs,?S5 i ty,?ME (A+1<=-?bJ),λc _=>?_,?Nr s N,?G R i ?j ?dH,?Mm H s,I.base.frzs,e1.extBut ?dr D.l1z,?Qm i,?N0 H ?ac r,?b2 "type",Builtin.Range.rangeSize,#[dx,fs,e _ _ h1,h2],(?fL).natAbs,.(by rw[HT.sIx_nat];ext d),#[?i,?i],ys[i]?=?gs,E7 n w T R,?PU ?hX,vM R x H1,?v ?C9 ?eO,c<w->i<c->?dx=0,?w2 k u=true,?a7 R p q x y z u,λj h1 h2=>O9m,?PH (bK.ge k kq2),?Qs (2 ^ n),t ?iR,#[_,e,_],?Rc i,qn8 ?g ?g,(a*x+k*y).natAbs,Q (?z tp) H',[?aH,u,r],?z q,?h5 i2 t2 ?U,hnew.typeIs,R k ?bF,?n (λj=>(?n (λd=>?tD) r-?Eb)*?ed) r,h _ _ ?bS ?g,c1.2.2.2.1,?PT h3,?an=?k ?t3,λi H=>∃kvs,?hM/\kvs.length<=i,.(by rw[Int.neg_fmod_neg];ext d),Eh ?EN λu s1 _z=>?_,?h5 i1 t1 ?u,tl _ ?m,(h a z).elim,pos.line,?ni ?CB k,(?s6).2.2,ib.toArray,(?R3 t).objs.size,?wy h1,ZT hkey,S3 R t j ?rk ?gu,?Mu (by ext gL;ext ta),λτ2 H2=>tc τ2 H2 λb H3=>if b=true then te τ2 H3 ?Hh else Pv ?l zs τ2 H3,(?Jb).natAbs,.(by ext LT),Sf c η r e,g1.extBut ?dr D.i1z,?Mu ?Bj,D.TOi2.symm,?OG i ?By/\?RU ?E (?i3+?Fq) s/\?Ft,hz c ?h,PA X ?iZ t,?Q5 t s s,I.hok.fresh,.(by rw[Fo];exact d),?N3 he,qf3 _ r1p,?N1 m ?a2,c<w->T' i c=0,#[ok,ov,h1],Em e1 e2,λk=>B k a*R k b,?v ?hz r,-q*?gn,?fG l hl2,qm2 pk d2,?ei b ys,{ cls:=?m6,data:=.dict #v[] },∀a∈?JO,?ra,hx k ?h,λ_ _ q=>qa6 _ q,#[u,?i,ru],Es π b ?l,qd6 ?Cy,(?cu t==Value.none)=true,?Gl n w M',qc2 _ ?aS,xs[n]?=none,G7 k X.A,show(-0:Int)=0 from rfl,qn2 ?_,DecidableEq,t ?ca,?b4 e j c,P5 r ?dV T E,(?fF).is,?SO ?Ip,h.good.eqv n ?m,?v f' l,#[i,hi,?i],i<=a/\a<?d7,h.s0.zero,sumN_cut,y.natAbs*?ey,Int.dvd_add,#[t',?i],?aE R i ?j ?j st,S6 P w H h,?dQ (j:=?cE) (l:=l) ?h ?h,hst.only,?mC A B g a b,atKey ?CB k,KT H kvs xs,λc=>1*P i c+1*P j c,?rm ?o5,#[kvs,q,?m],NN n w k Oj,.(by ext LY),k<=xs.length,show ?ei a ?Da from pa,?S5 ?dD tv,entryFor,?R5 (f k+-1*g k) n,qf0 hi,(Sum.inl p.1:Key),?MZ ?dV ?bH PB,?ME (0<=-B),?NR H ?ac,Fin k f l r,Xk n w T ?mP,?eB o m ?el,Sf c η r d,qc1 ho,B p x*R p y,(aT▸hj),k<m->x k=0,?Nh ?Ix,?n ?Gr m,vs=[v,?mB],λb hb=>(hf b hb).1,qy2 c β,b+e+1,?mF/\?hG/\∃vs,?fV/\h.DictOf ?fF a vs,?RI p ?al,?HS i _ ?m,?S6 ?cb,λc=>y c*?wi,1*?c6+k*R q c,bootBuiltins,(∃o,?iK e=?aF/\o.cls=?Dg)->E (?z e) ?fU,β-δ,∃t,u=Value.str x t,?Mh ?FN,tup_cell,qf0 (hq r z.2),zz-2,PySem.F.args_dict_get_3 _ _ _,?S6 _,"dict.pop",UR ?m,(p dx:Addr),Ly R ?ba i k,?P0 ?x (r<=c->?Gx),?fW x np,VI w (f (n+j)),Eh (?Ne he) λv s1 _z=>?_,?C3 ?fF,hst.mono,IsRangeIter,dT n w f,dT n w M,if ?hV then oZ ?j ?El else ?El,qa0 hi',.(λb u q n z=>by rw[z,e]at q;exact n (qa9 q).symm),Pv 0 [] τ H,?z nm,D j i hj hi,hrep M' e,?ME (i<?l),g.typeIs,call_meets,?Rv ?au,#[e1,e2,e3,e4,e5],wpAny_setField,?RD a xs,#[x,H1,I1,rx,q1],?n ?k6 ?d7,?gW b=?m0,?N1 m ?c1,(0:Int).natAbs,putI ms k v,?cG C dx fs,x1-?eJ*x2,qo0 lz,Em e e2 a b c d k,hh d ?h j ?h,?gb l _ ?h,ks.map kV,VI ?E f,#[?U,?m,?Md (by ext Lf),?un],(zt1 ?ai a).objs.size,.(λc _=>by ext c0;rw[?gY]),?iT i hi hn,z+π+1,s _ _ hp,zt3 h a b,dk_empty ?ai I.big,κ × V,?G B ?j i q,if c<w then T a c else 0,λj=>?Gy,(?xB).is,h.2 b hb ?g,λd _=>?_,Ii [] kvs,VE Q x y H2,?Nd V V->?eF,Ix ms k,x.natAbs*?ey,wpAny_typeOf,a≠r/\a≠b/\¬N a,?MS r (0<?iE),?a6 hq,?Na a ob,Int.lt_or_gt_of_ne,R1 l ?H,VI W ?L,B j a*?ae,?QS e.natAbs,bK.pos k kq2,min n w,λc=>?Br,Int.mul_neg_of_neg_of_pos,?Mv 5,p*f x-q*?L,?NH h' (?rm ?aN),Int.ediv_nonneg,?MS n (?ae<=D),B q x*R q y,?Ml hne,∀l,l<i->G ?az,k5.IsTupleIter,.(by rw[qb9];ext d),e' j _ ?h ?nm,?QJ x y,Heap.IsTuple,(?wV,?aR p.2),Jl i R t,λk=>a k*?kM,Int.mul_neg_of_pos_of_neg,?v (λk=>f ?V) n,hM a _ ha ?qY,#[kvs,hz,hx],qb2 e,?Nt hf,#[P,inc,hG],a*R p k+b*R q k,?cA ?bG i ?gj ?l,.(by rw[qd8]),VF D σ v x y H3,.(by simp at hl),IsD H1 a,ql3 ?g m0,bil_congr,(?ot).length,?OB T,#[g1,_,g3],?fa i _ (qa0 hi),?n ?wr w,?S2 I.big,(?b9,?RK c),?P1 ?_,λxs _ i=>xs.length<=i,h.step h2,?ME (?jB=?af),kvs.length<sizeLine,?G R' p j (-?iJ),?P7 Tn,λc hc=>O9m,?QW R,?NB EuR r2,D5 w r T t,?n ?EI w,λj c h1 h2 h3=>?_,dd.mapOf,Nb kvs k y,.(by show ?fC<1;decide),λi H=>∃kvs k v,?hM/\?fn,h Ag s σ _ _ I' (hw (I.nodupK (?S ea)) o),?c4 m=none,?qo ?aH ?lI,Aq9 i t R,hx k hkn,.(by simpa using q),.(by rw[←l];exact rel.val k),?c9 h z TI TO ?b3,?bm ?xg,?zb->?iK c=?aF,λi=>(?lS).getD ?b9,(?a3).natAbs,λc=>?bj+k*A q c,?l-?aG,?b6 h TI ?r5 ?r1,?RQ ?ac (Gm m f),?b6 h' ?aN x y,?P0 ?ay ?Cb,?ON as c,.(by unfold Hm;rw[Bp];ext d),Aq6 n W i t s I,?ME (?u+j=n+?I),?NR H' ?dN,bs.map ?iL,t1 j ?h,#[hz,hTI,#[u0,v0,hTO],h1,h2],S3 R t j ?rk c,?V+?eO,?gW c=?aF,items[i],?mF/\?hG ∧ ∃xs,?wJ/\h.DictOfH ?xB a xs,?Rv ?w8,∀ob u,X.H₀ a≠?k (.frz ob u),?RY t ?aG,s1.heap.IsTuple,?Rd b',∀a∈as,∀o,?Cf,x=?z d,i<kvs.length,h q c hq hc,H p=?k ?xa,#[?Q,?Q,?gB,?kS,λi j _ hj=>O9m],?aU hr ?ru,Nat.log2_self_le ?g,.(by rw[←hz2];exact ?nc),.(λkvs' q=>by rw[hz]at q;cases q;exact hx),qc2 _ ?wU,?MF β ?al,A.natAbs<L9,?au j c h1 h2 h3,k.natAbs<?W,?n ?ve n,?Mu (Bx ?g c),h w' _ ?h1 rw',kvs++more,(?dI).length,?g8 ?bV ?go,#[a,b,c],qg4 _ ?h,(2*a).log2,.(λc _=>by rw[Bx ne,Bp,Bp]),Ul ?aa*A ?aa 0*?Ed,R' r c=?bY,ChainTo m i f,(?B3).natAbs,putF "rows" r [],?v ?C9 ?lz,one x,Int.lt_trichotomy,upd H nm (?K (ns'.map ?aR)),?gF<=?R,if r<p then r else r+1,#[q1,q2],Em h1 h2,?S5 o td,?S5 o ta,?aD t i ?D ?oz ?am,h p c hp hc,w7.extBut,#[q1,q2,q3,q4],?PT key,∀spot,?bk->Eb n W w i G R B t π b ?j R B,i<=a/\a<n,as++[b],?Po m n,#[q,u,hqw,bK,UA],?ei a xs,?Qv k Oj,?Ol (?iP+1),A a b*q b,I1.tuple,k*R q ?az,.(by rw[qg2];ext d),?S6 ?bB,λ_=>False,#[h1,h2,h3],?y ?hK,#[vs,H1,I1,r1,q1],{ s with heap:=h1 },?sB i j 1 l,?Sb e,.(by rw[qa7,hb];rfl),?bT (q.1≠k)=true,?x->?vb,?P0 ?ay (?x->?HK),?MV p q,jD xs H Q,?a6 ?g,acc'.toList,λl=>?NZ (T l ?bO*?iN) l 1,?hb-?G3,?o7 ..,λ_ hc=>hc,λc=>- ?bj,show X.A.in1.handled=none from hh,?RY ?ba ?l,i.natAbs<L9,?RD b (VI w ?L),?v ?d4 k,?PT c3,Int.natAbs,r≠spot,?wy h2,?Pr x2.natAbs/\?Ps y2.natAbs,swapsWith,?Na ?aN ?IV,?MI H M ns,?RU ?E ?Ew s,#[e1,e2,e3],D q j hq hj,Builtin.«zip.__next__» #[[?dv],[]],?Rv zero,hx j ?h,?Oy h.hd,?Mx (u c=v c),?b6 h' b x y,bs.any id,Hk ne a b c d k,?z r1,qf7 (Eh (?Ph pos s I) λus s1 ?Ai=>?_) (by rw[hs,hs2]) (by rw[hs2];rfl),?Mk i G M,(?iG).natAbs,(?hf).natAbs,?M Bool,ns.map ?aR,Ul p*A p 0*?I3,B4 A q v,(as.set i D1).set j D2,?MS r (In w n T ?KS),h'.DictOf,e.natAbs.log2<=L,s.2 i x,λc=>?rE,0<=?ee/\?ee<?e6,(?iJ).natAbs,?Pl V r,p-q-1,?bp ?wb [] [] pos,if x=y then f x else 0,?kC->?ha,Em ?g ?g _ _ _ _ c,#[?g,?g,?ss,λd h1 h2=>?ef],{ s1 with heap:=?hs ?rl },h _ _ ?h1 ?_,?Dr pos ?IW,?Ml e2,#[_,?i,?_],if ?hV then Hm ?hQ ?j else ?hQ,R ?cE ?c1,#[?g,?_],tr T',.(by simp[e]),?sB i ?j (-k) s,∀(i:Nat) t,?sv->∃kv:?tJ,?ON kvs kv/\H t=?PQ [kV ?bE,kv.2],?NQ ?jB ?db ?db,?cK+?iP*?cM,?cA ?bG i ?gj d,(?hi).natAbs,(?fR:Int),#[_,?i],tupleKind,ItDGet2 ty tx σ Q x H1,?Mg H s,r.repl k ry,?i3+?EL+?Fg,dL w ?L,λl=>f ?qt,?dn ?eZ=none,q::qs,nJ n w A,R0 j ?A,typeLookup,k2 ?D ?m,?pY*?bX,?hU k hlt,Oj (u k) k,?Rw hp,hp k ?g,#[p,k,v,hp,?i,?i,y],D i p hi hp,?NC 4,r1.fmod r2,[?aH,?bA],λl=>?gn,#[oi,h1,c1,d1],ob.slots,?Y i ?g,kvs++[p],(?cI).natAbs,Kz f e1 e2,I.turned,?dG (?NO (?bE,y)),a1.same e,?ME (spot<?l),?x->?Gx,Lat.ChainTo,?v ?JH i,(a:Addr),?an=?aF->H' a=?aF,(b4 a ha).2.2,{ s with heap:=?lp },Straight,Nat->?sm,wpAny_updateSeq_pair,∃t,u=Value.int i t,H' a≠none,subscripted,?bl b _ e,?Rw ht,?bp (?eB ?x8 m ?el) ?iZ [] pos,[z,TI,TO,i1,i2],?N5 ((?xx).length),Nd kvs [],h.move hi hs,λk=>?yd,?Mo t d s,?Pr x1.natAbs,?t fin,.(by rw[eB];exact ?pZ),(?oG).natAbs,Nat->?as->?h6,Heap.SameBut.update ..,I2.hok.fresh ?m,(?Ml hj),?eB o f pos',nV xs H Q,?M Keyword,Shared.heap,?d9 j c ?h,Key × Value,-?pT*?l9,?hu*v c+?Z*?rX,?QP m f,Str->?hW,ZipApart,(x,y)::ps,o.getD d,h'.objs.size=?lO,?S5 e td,?NS G R B,.(by simpa using z),(z▸x.mq),Du ?g c,∃c d,?b6 h TO c d,qa5 ?g (qf0 qp7),λc=>?ws,β+?ao,qn6 ?_ (by size_fits),#[i-1,?g],λa=>f ?bD,?G R j q k,∃r,?bC/\?sR/\?Mh (w<=?A),?MQ ?aw (pyNext ?dv),?S5 e ty,#[?hK,?a8,?Q,h0],ia.toArray,?aH::u::more,(apos.endLine==cpos.line)=true,?bh j c ?g hji,?PU ?i8,?aP n ?hA one,?b2 ?IA,k r c hr,Kz f z hne,.Tuple tes x1 tpos,?Nh ?dq,?dU "len",.(by simp[P7,qm9,e]),w8.extBut,bb.2.2 r x hr hx,#[o,ho,r],?v ?JH m,backToKw,(zt2 ?ai a b).objs.size,(?N2 ?cB).congr,Jl ?l R t,#[hz,hTI,#[u,v,hTO],h1,h2],qd6 ?e3,λb u q=>?_,PySem.F.entry_dict_get,λ_=>?fC,?z b2,.(λz=>nomatch z),B.natAbs<L9,Nat.min_eq_left,Paired.length,λj _ h=>O9m,(x / h).natAbs,?aP n ?hA Q,Q ?sQ H',R1 ?aJ ?H,qe9 ?aA h,.(by ext Ld),H1 d=?lb,"dict_itemiterator",R' j c=?dK,zs++[y],?Md ?hq,#[ob,h1,h2.2.1],λk=>?Pa k k k,λk=>?HF,o.data=.dict es ep,?Ol ?ge,∀r c,?e5->?A9,?Ne ho,(?Q9 (h _ ?_)),b≠s.heap.objs.size,h.2.2 r c hr hc,.(by simpa using h),?aO k hk,fs.length<=10,hs9 j ?g,?R5 (T c k*X k i) r,.(by rw[l];exact rel.val k),.(λx=>by rw[h.rows,?q]),?aP w A one,Xk n w T Oj,(?L).natAbs,if i=j then e else 0,dL n f,?s n (Gy A ?aa),(B i x).natAbs,?bQ ?_ ih,λk j h1 h2 h3=>?_,?NG r,λi c a b d=>?kB i c b (by have:=h2 i a b;ext d),boot_range,?ME (?hv=?eO),?lD i ?j ?al,?Mg H' s',bs.map V.bl,.(by ext Ke),?MS i ?i2,F.entry_zip_next,λb u q n=>?Qa (ne b u q n),D.s0.pos,∀kvs,?hM->?fn,b1.mono ?kz,NN n w k T,β+?mA,In w r R v,show 1<=?W from qm1,?Mu ?_,tr R x c,?cn=none,(?GK).isSome,s _ _ ?fy,(R p ?H).natAbs<=μ*?d1,VJ K R vs H1,h.s.same,?aP n ?d8 Q,.(by rw[h.a.e1,h.a.e2];grind),?ON prs p,?K ?pa,λj=>T' j ?A,?pQ o i pos',?ky j h1 ?g,?Q1 hs,b1.same e,?MF (β+?aG*?sI) ?sC,(?xG).2=_,?Oy ?HR,ts[i]' ?g,?bE=p.1,putF "backs" b ?AC,if ?hV then Hm ?sb ?j else ?sb,?KK<=?fd,wpAny_letGo,(?GK).map,zt2 h a b,pT n B R a ?A,?Nk ?bH PB,λh' eb=>#[?i,?ND ?cy (?SH (eb b ob ?cD z))],?NC 1,cH t k c l,D5 w r R t,?dU ?x3,prs.drop,?Rb H,s'.1 i,B4 ?i6 q v,?Ob ?j c,λc _=>?zS,?fH k j h1 h2 h3,p*y2-1,?cK+?ge*?cM+spot+3,?NG b,?Q7 ?ES,?MS i ((B j a).natAbs<=2 ^ j*m),?Nk ?bH B,D.TOz.symm,Vj H ?fe a,Dw h4,?PU hη,wpAny_Call_method,?Ol ?iP,?Rs m,?V+?lz,?MS i ((?lR).natAbs<L9),R ?j ?bP,.dK ?oZ,#[h1,λj k a b=>?i9 j k a ?g,λj c a b=>?kB j c ?g b,λj a=>?Rw ?iO,λk j a b=>?kN k j a ?g],Gl X ?eZ,IsRange.new ..,its.toArray[i]?,Paired.snoc,λspot st s' hs hI hB hex=>?_,λkv=>(kV ?bE,kv.2),((0:Nat):Int),H.hd l h2,up c _ q ?ad,?Oc ?IM,?P2 (R i) (B j),?MF ?Io ?db,I.tuple_inj,?Oo n,∀l,l<k->T k ?H=0,(?b9,?hT),h1.trans,PySem.F.entry_dict_pop,?ME ?jC,NU xs H Q,nW R x H1,?G B' j p ?iJ,.(by simp at h),atKey xs k,?RS bd,?Qx H o,#[ob,_,_,h1,h2,_],?bo n n β B,R i ?bP,(?x6).natAbs,(?dz hi).1,#[x,λ_=>hx],?s n ?mH,?S e,?iX<=big,.(by simp<;>ext d),λc=>?xX,?bT (p.1≠k)=true,Nat->?aj,r1-q*r2,(?hs ?rl).objs.size,F.args_zip_next_1 _,vE Q vs H1,h.good.restB,PySem.F.slot_dict_items,insAt_get,0<=?dx/\?dx<=e,Eb n W w i G R0 B0 t π b ?j s.1 s.2,?r->?r->Int,(?dL).natAbs,Lat.Straight,?z f,?Nk ?q6 RB,pD n w R B i j,?RI i ?f9,?Qm ts.length,λk=>x k*?cJ,show ?ei b ?vF from pb,(?hN).natAbs,?MT ?fw ?R,{ cls:=?R0 ?b2,data:=?QK ?aH },k3 c hcw,c<w->?dx=0,S j (u j),#[r0,r1],?PC H as f,#[a,kvs,?i,e,q],?RD a us,y1-?eJ*y2,callWith,?Nq h hp h,#[kq,hu],#[b1,b2],(?dS).set,?AD*f k,?Ng j (v ?a2=0),?ci->T i j=0,?Rs ?aG,Vj H Z a,.(by rw[Al (sU b _ z)];exact z),c*R p k+d*R q k,Vj H Z,?a5 (?IM=?GC::?JI) ?aM,#[f0,f1,f2,f3,f4,f5],?Pm j,c<w->?fQ,X.A.handled=none,#[kvs,k,v,hz,hx],#[n,e,hn,q],q-p-1,λc=>?lh,?eC ?HG (Vj H' Z),h.s0.pos,h.st.good.rest,?Rt p j,vs.any ?oJ,?K [],?u*FF n,PySem.F.args_dict_pop_3 _ _ _,?n ?qS r,?s i ?nQ,?SS ?W,hk1 _ _ zV,Q ?nj H',upd H a ?b8 b,.(by have:=?nk k l hl1 hl2;ext d),bs[i]' ?g,λj c hj hcw hne=>?_,λy H4=>?RB H4 D zs/\zs.length<sizeLine/\Pv ?l ?EF τ2 (upd H4 D (?K ?EF)),?nF t i s d,h i j hi hj,Nat->?J->?P7 ?aj,Obj.data_mapFields,t ?cE,(?c6).natAbs,?b0 v w'->Q w' s',?Oy st.pos,D.i1z.symm,?fX+1,.Tuple es x1 tpos,i<its.length,?dP+?G3*?Z,∀j c,j<i->?o1,?R5 (X l k*U k i) ?lF,?Pf m3,(?NJ (?RT h)),h1.DictOf,(ns:?fZ),upd H p ?b8,?eC H1 H2,?s n ?K7,x a u n1 n2 e,(r-k)*?id,JD x vs H Q,h r x hr hx,IsItemIter,(?hE).2.1,"StopIteration",s1.toks+1,?v ?oE m,?fG i ?g,Lat.insT,B4 A p w,?RA T ?kX ?ec,Nat->?J->?h8,?MQ ?aw (?nC ?nG),r*?id,vs=[?aC,r,b],?mL ?eL (?c8 ?jM ?P),?c8 ?iZ ?P,if k=a then 1 else 0,?Na p (?bm [x,y]),fdiv_small,Lat.Bits,?Ps y1.natAbs,qf4 (a*x) (k*y),?fD j _ e,g3 q u hqw bK UA,?bm [?dW,v],keywordEach [] ?P,?bh ?j _ ?m hs,?OD T,e0.step ?bJ,?z ?o5,?Mu ?DN,D.TOi1.symm,qb6 ?I7 ?jW,?Qa (sU c _ q),Nat->?h8,?OY R1 B1 t1,FF n*B ^ n,s.1 i,?X ?i,cJ pV hs,ly.keep s,hk1 _ _ hoD,?h0+1,β+d*?sI,λb ob z=>?Nh z,vN R vs H1,(?nI) c,h.st.st.red,#[bs,b1,b2],?Y n ?m,?c2<=?hJ,(?dz e').1,?Nh ?Dk,#[a1,a2],.(by rw[eA];exact ?pZ),F0 w n ?pu SB,λp=>if ?bR then(p.1,v) else p,Rep.same,A24 j hj e,Int.mul_fdiv_add_fmod,.(by rw[Ia,Ia]),#[o,q1,q2],?Nk R B,h q x hq hx,items[i]?,List.range',?S5 f tx,P7 (p::r) k,#[?iB,λb q=>?_,hd],wpAny_attempt,?Q8 ?_,qn9 _ gn,λj=>(?sl) j j,?c8 es ?P,λa ha=>?_,Nat.mul_comm,?a4->?h8,mvI_back,QV n w r L m T,?eQ s ci (as.eraseIdx i),its.toArray.size,?Qs L9,D j j hj hj,?QB (u=?cu b),?Q1 ?fi,.(by simp[atKey,qm9,e']),skip_prod,bb.1 r x hr hx,(?xG).1=_,?Oy ?iO,iB V Z k,?Rt j q,R ?j ?H,Pv 0 σ H,λc=>?rz,#[z,hd,xs,rel,dd],"starts",?O5 i G,(zt3 ?ai a b).objs.size,λhr=>?_,ms.any ?qG,.(by ext Lk),?MF β s,#[j,h1,h2,?i],#[kv',e1,e2],Int.natAbs_mul_self,(?dL+f n).natAbs,∀m,?eX->∃r,r<=m/\?sR/\∀j,?ak->j<m->w<=?A,?OI R u,?MS r (u j=j),hx c ?h,?a6 (R:=Hm R j) hj,spot*?eD,?Na p ?h3,Int.neg_dvd.mpr,?MF ?qz ?gj,Int.mul_le_mul,qf2 _ _,?RH i p ?bI,(M r c).natAbs<=?ow,Good.add,?Mg H ?k0,.(by simp[valueAt,qm9,e']),(?kb g).trans,Gy A p,?v ?eb i,ih ?h ?h,?b4 e l k,hst.s0.low,h.objs.size,?bp ?wb ?iZ [] pos,λc hcw hne=>?_,LX H CS p r b ?rn n W s M,Iu W u st,?bl a _ e,?Rd r',Heap.DictOf.new,(?fx).natAbs,?QW M,n<=1000000,Sem Bool,?ML (qb6 ?cl (qe9 ?aA hb)),RD.start,Y k d f l r,?Mm H' s',?b4 e j,λa=>p a*?n (λb=>?Aa) w,run d ?g,#[k1,k2,k3],.(by have:=h.pos;ext d),s2.keep h1.flip,.(by let#[o,q1,q2,q3]:=id g;let#[p,p1,_,m,p2]:=gt;unfold Builtin.SmallTypes.nextOf;apply ?t (?sM (name:=?qK) ?xO qq1 (qm5 qq1 ?xO F.entry_tuple_iterator_next ?_ (F.args_tuple_iterator_next_1 _)));show ?MJ (?kH ?nG 0>>=_) s;apply ?t (qi1 q1 q3 (x:=?hR) ?i ?_);show ?MJ (if ?vr then _ else _) s;rw[?o (show ¬?vr from qf1)];show ?MJ (?kH ?nG 1>>=_) s;apply ?t (qi1 q1 q3 (x:=?y n 0) ?i ?_);show ?MJ (seqItems? ?hR>>=_) s;apply ?t (qo2 p1 p2 ?_)),.(by show ?MJ (Builtin.SmallTypes.ownedTupleIsFree ?dv>>=_) _;apply ?f6;unfold Builtin.SmallTypes.ownedTupleIsFree;apply ?Mp ?b3 ?e3;simp only[if_true];apply ?OK ?ox;apply ?Mp ?bA ?_;apply ?t (qj2 gz ?a8 λk1 gz1 w1=>?_);replace gz1:?NH k1 ?mN:=gz1;apply ?f6;simp only[List.zipIdx_cons,List.zipIdx_nil,List.forIn_cons,List.forIn_nil];apply ?Rm ?t),∀(hs:?SX (?uf->?e7->?cf->g ?aC τ ?IO λτ2 H2=>te τ2 H2 ?Hh)) (hd:?GA),a,.(by show ?MJ (?kH ?dv 2>>=_) _;apply ?Mp ?q9 ?_;show ?MJ (?kH ?dv 3>>=_) _;apply ?Mp ?aH ?_;apply ?No ga),.(by(have hp:(keyPart u).isSome=true:=by cases k with| inl i=>let#[t,q]:=(?QB ?Cl);subst q;rfl| inr x=>let#[t,q]:=(?QB ?ww);subst q;rfl)),.(by apply#[λi m σ H=>?Px ?f2,?DZ,?_];rintro i m σ H ⟨rfl,hi,pp⟩;have q:=hl i σ H hi pp;by_cases hlt:?zl),.(by rcases h with(h|⟨o,h⟩) | h;{exact ?S (?S ?H5)};{exact ?S (?X #[o,?H5])};exact ?pS),.(by intro i s acc hn hi hz hd hit hb k;apply codeAny_builtin X4 ?_;rw[Around.under_plainId Mo];have hLs:s.heap.IsList l items:=let ?Dp:=hL;#[o,hb _ _ nld nli ho,r]),.(by let ?Gz:=H.part.red ?j l ?Q h1 h2;rw[←?IX,←?q8]at r1;rw[←?IX]at r0;have p:=?aO l h2),∀{K:W.Frag}{a b:Addr}{xs ys:?as}{n:Nat}(hn:xs.length=n/\ys.length=n)(Pv:?D1)(h0:?xJ)(hl:?OR ?FZ SqT),a,.(by by_cases e1:r<s;{rw[?gY]};rw[?bI];by_cases e2:r=s;{rw[?h9,e2,show i=s by ext d]};rw[?d3,?q]),.(by let#[x,H1,I1,r1,d,o,kvs,ex,hz,q]:=_z;subst ex;obtain rfl:v=?cu d:=r1;let#[ho,hsys,hl,vs,es,ep,rel,hd,hsz,exd,hm]:=Xb I1 hz),.(by(have:(?KK:Int)<=((?fd:Nat):Int):=by rw[Int.natAbs_of_nonneg ?h];exact_mod_cast q);exact_mod_cast this),.(by apply ?nz;by_cases e:l<k;{rw[x0 l e];simp};rw[?PG ?eG ?xC];simp),.(by let#[x,H1,I1,rx,a,ex,d,q1]:=_z;subst ex;obtain rfl:u=?cu a:=rx;let#[t1,t2,_]:=tY I1 d;apply#[t1,t2,?_];rw[m.trees]),.(by exact(?bl b u q).stay ?rQ ?so ?tO),∀{g:TG}{tb:TS}{D:Ends}{σ:St}{H:Hp}(Pv:?ok)(h0:?Jc)(hl:∀i σ H,?lt->?f2->?hM),a,.(by(. exact#[1,by rw[z];ext d]);let#[g,hg]:=ihm ?g;exact#[g*T m ?gu,by show ?rJ*T m ?gu=_;rw[hg,qd1]]),∀(hs:?bk)(h0:?Rz st ?fQ)(h1:R i st≠0)(hW:st<W)(hG:G st)(hpg:?qB)(hex:?mR),a,.(by have z:?Rn q:=λw=>Fy hp hq ne ?A7),.(by(have zb:?fp+?D*?ct=?kZ+π+1:=?Ad);rw[zb]),.(by show ?g9*?r6+?jo*R ?cE ?H=0),∀{pl:?KN}(he:?AM)(c:Cls X.K C)(h:?OP Jn)(hr:?vv),a,.(by have e:=lP (w:=w) (n:=n) (f:=f) (g:=?DU) (h:=f) ?dM ?dM),.(by(have g0:g≠0:=?KW);(have k1:?fO=p:=?Iz)),.(by let(?MG hp hrep):=x.ob;let#[r1,b1,r2,b2,lx,ly,f]:=x.li),.(by rw[show ?s0=0 from ?PG ?pn bK.mono];simp),∀(hst:?HH),a,.(by subst ey;cases ?JS;let ?Je:=?ps),∀(hr:?bC)(hst:?h4)(hz:?gw)(s2:E7 w n ?Bt ?hO),a,∀{x y z u:Int}(hx:?SS ?jV)(hy:y.natAbs<?jV)(hz:z.natAbs<?jV)(hu:u.natAbs<?jV),a,.(by exact#[r,?g,b,?Nz (by by_cases q:j=m;{rw[q];ext d};exact c j h1 ?g)]),.(by have e:?uX:=O9m;subst e;exact ?S #[?wM,hd σ H pp]),.(by have f1:?co-?bJ*0=x2:=O9m;have f2:?fC-?bJ*1=y2:=O9m),.(by rcases h with h|⟨hB,e1,e2,e3,e4,e5,e6⟩|⟨hB,e1,e2,e3,e4,e5,e6⟩),.(by have e0:EuA A B A 1 0 B 0 1:=?Bk),.(by rw[Fy (p:=j) (q:=k) ?h hk hne ?uR,qd4];rw[Bp,Bx hne]),.(by have e1:=a2 hlt;rw[htk]at e1;have pk:=?jI k hlt;rw[htk]at pk),.(by have hl:?N5 ?yl:=by have:=Q2 kvs k v;ext d),∀{i:Nat}{T V Z:Mat}(h:?Rf i (c<i->?g4=?Nb (T r j*Z j c) (r+1))),a,.(by show ?MJ (?nC ?r5>>=_) _),.(by(. rw[?bs,?w ?q0]);rw[?bt,?o ?iC]),∀{n w:Nat}{A Q T P:Mat}(h:?Rg (?cJ=?MV (P k) ?ec)),a,.(by have he:0<?ez:=?SN ?lV),∀(d it:Addr)(o:Obj){es:Array DictEntry}{ep:Nat}(hd:?EK),a,∀(hc:?x7)(Mq:?BX),a,∀(hM:?Mq W ?K2)(hD:P5 n ?nN M D),a,∀(hr:?vv)(hg:Gl X x)(hm:?dn x=?k (?z C))(ha:?vU),a,.(by have ht:?qo ?dv ?g5:=#[_,gz,?i];unfold pyNext),.(by have t1:?MS i (?cN t i ?ax j=?A):=?Md ?oB),.(by rw[←?ar,←?ar,←?ar,←?ar,z u,z v]at e0;ext d),.(by let#[ia,ra,pa,_]:=I.tuple Yq;let#[ib,rb,pb,_]:=I.tuple PN),.(by rw[e0,Ze _ hk,?aU (j:=k) ?h ?r8]),.(by rcases g with⟨kvs,k,e,ey,l⟩|⟨kvs,k,b,e,ey,eb,l⟩),∀(h:?Q6 m ?F4),a,∀{CL CT:Addr}{H H':Hp}{Z:?cC}{p L R dn:Addr}{h w B:Nat},a,∀(h:?yU)(ht:?nY){v:?r}(hv:?Ri v),a,.(by rw[?bh ?j c ?m hs];exact H.rw ?j c hs hc),∀(hdb:?a5 ((x==("__debug__":Str))=false) ?kh),a,.(by intro _;exact#[0,?m,?gB,λj _ hj=>O9m]),.(by intro hm;let#[r,a,b,c]:=?cL;by_cases z:?gu<w),.(by rw[?jH,?jH]),.(by rw[←qe5,←qe5];exact ?rb),.(by unfold insS;by_cases z:?hV),∀(g:?qw j t n)(gt:?ei t vs),a,∀(hst:?z2)(hz:?zQ),a,.(by apply qj4 a (qi0 λy=>?_);have:=c r ?m y),.(by rw[Al (Fn h hn ?ad)];exact h),∀(h1:?QS D)(h2:?tU)(h3:b0<=π)(h4:b0<=b),a,.(by by_cases q:j=m;{rw[q];exact z};exact ?Rw b),.(by exact I2.fpOk ?m ?D3),.(by have d1:?c5∣ ?ab:=#[x k,by rw[e1,qe8]]),.(by have:=?fY j ?j ?Q ?g hs;ext d),.(by let#[o,I']:=I.freeze ea;have hb:=I.notfrz ea),.(by rw[Al (λz=>by rw[z,e]at n;cases n)];exact n),.(by show _=?qg*?ab*_;rw[qd1]),.(by show ?MJ (pyNext ?fv>>=_) s),∀(Pv:?D1)(h0:?xJ),a,∀(h:Ui n w r E L m e A T P PB Q QB kl kr hl hr),a,∀{w n:Nat}{R:Mat}{u v:?r}(hu:?Jr),a,∀(f3:?NV H0 r2)(f4:?NV H0 b2),a,∀(hp:p<lo)(hm:m<=lo)(hn:?js)(hpf:p<f\/m<=p),a,∀(hd:?Pv ?hK),a,∀{i j:Int}(hi:?B1)(hj:?JQ),a,∀{r b:Addr}{H H':Hp}{o:HO}(x:?jr),a,∀(K:?Mt ?E ?bH),a,∀{g a b:Int}(S:?mC ?L ?a3 g a b),a,∀(hp:p<lo)(hq:q<lo)(hn:?js)(ne:?dm),a,∀(gx:xs[n]?=?cm) (gy:ys[m]?=?gs),a,∀{j k:Nat}{C:Addr}{ps:?iF}{sp:Sp},a,∀(h:?O5 i ?nN),a,∀(ts:?fq) (kvs:?bi),a,∀(h:?BP),a,∀(he:?GP=q*?Fu),a,∀{a:Addr}{xs:?as}(h:?FZ),a,∀{p:?xq}{r:?ft}{k:κ},a,∀(h4:b0<=b)(hβ:b<β)(hβ2:n+b0<β),a,∀(hη:?Mh (?fx<=?fd)),a,∀{j t:Addr}{n:Nat}{vs:?fP},a,∀(e:?an=?lb),a,∀{n w m E:Nat}{A P PB Q QB:Mat},a,∀(H:?nZ),a,∀(h:?NB EuI r2),a,∀(h:?z1),a,@(show ?a by ext d),@(BB n W C δ ?a ?b),@(#[tv,dx,fs,?a,l1,l2,l3,l4,l5,l6,l7,?b]),@(λvs H Q _=>?a),@(WX K CL CW H0 ?a p L R nm n w ?b l r ?c),@(?C _ _ ?a _ _ ?b),@(Eb n W w i G R0 B0 t π b ?a ?b ?c),@(λr c hr hc=>?a),@((if ?a=?b then ?co else 0)=?c),@(?a λi c h1 h2 h3=>?b i c h1 h2 h3),@((?a).go i H/\∃N:?h6,?sx/\∀x H',(?b).yld i H x H'->?sH),@(by intro m;induction m with| zero=>intro h;(ext d)| succ m ihm =>intro h;by_cases z:?a=?U;ext Kp),@(?C ?a A ?b Q E s),@(?k (?K ?a)),@(∀j,j<?a->?b),@((?a).natAbs<=?b),@(?s n (B4 ?a ?b ?c)),@(bil n w A ?a ?b),@(∀l,?cv->l<i->(?a7 R ?j i x y z u ?a ?H).natAbs<=?bX*(?a7 R ?j i x y z u l ?H).natAbs),@(fr _ _ (λz=>?a ?l8) (λz=>?b ?kA) e),@(?aq n W w lo R B ?a ?b),@(Cp n ?E w r i ?a ?b ?c kt hd t s.1 s.2),@((?a i ?b).natAbs<=?c),@(BY n W w i G R B t b p ?j μ ?a ?b ?c),@((if ?a=?b then 1 else 0)*?c),@(λj hj=>?a),@(∀l,?cv->l<i->?a),@(Fl X ?sq (λxs H Q=>∃(p:Addr) (bs:?BS),?oL/\SqL ?a H p ?En/\Q ?su H)),@(Bo X Ag σ ?a ?b),@(∀j,?ak->j<n->?a),@(RD n W w lo R B t p f m ?a μ ?b ?c),@(?a5 (?c8 ?a ?P=?b) ?aM),@(Cp n W w r ?a ?b ?c B0 kt hd t R B),@(λz=>?a ?av),@(SX CS H0 ?a p q M n W t cnt ?b),@(show ?a=0 by ext d),@(Pq n i β c ?a R B ?b ?c),@(?t (qi1 gz ?i (x:=?a) ?i ?b)),@(∀r c,r<n->c<?a->?b),@(by ext LZ;{rw[?aW];show ?a;rw[?aW];rfl};ext cU;show ?b;ext cU;rfl),@(λi c hi h1 h2=>by let ?aQ:=?a i hi;rw[hx c h2];exact ?aI λk hk=>?b),@(Sl n ?a w r kt hd ?b),@(λr c hr=>?a),@(s.heap.objs.size+?a),@(?t (?JE (?sM (name:=?qK) ht qx5 (qm5 qx5 ht ?Eq ?a ?Gc)))),@(∀c,c<w->?a),@(by have:?a=0:=?b;ext cS),@(by ext eq;have:=?a ?b ?c;ext d),@(LX ?a CL R r2 b2 ?b w w ?c ?fe),@(S3 R t k ?a ?b),@(?a6 (R:=?a) hj),@(?a Ag s1 σ H1 _ I1 q1),@(λl hl=>by show T' ?jN ?a=0;rw[hu l hl];exact ?kP l ?b hl ?c ?g),@(?a<=sizeLine),@(td σ H λx H1=>?a),@(by have:=?a k ?b ?g ?c;ext d),@(λm hm=>?a R ?g ?g ne ?b),@(?c4 (?a:Str)=?k ?b),@(?bp (?fW ?a p) ?b [] pos),@(?a A B r1 x1 y1 ?b x2 y2),@(s1.heap.objs.size+?a),@(?qT (t':=s.toks) (fp:=?a) ?b hf),@(λd hd=>(?a d hd).mono ?kz),@(YU n W w i G R0 B0 ?bG ?g0 ?a ?b),@(H0 ?a=none),@(?c9 ?a z a b ?b),@(?aI λk hk=>?a),@(λl h1 h2=>?a),@(PE X (?bp (?eB o ?a ?el) ?jM [] ?eL) (?b td ty tx)),@(?mQ (a:=s.heap.objs.size) (o:=?a) (t':=s.toks) ?b ?m ?c),@(?a<s.heap.objs.size),@(λσ' H'=>?hF/\?a σ' ?hc),@(λkv=>if ?jq then ?a else kv),@(Rep K ?a ?b ?c),@(P4 n W w i R B t ?a (?b).1 (?c).2),@(LX ?a CL L r1 b1 ?b n n l ?lf),@(Kx n W w i ?a ?b ?c t π b),@(Cp n W w r ?l G M B0 kt hd ?a ?b ?c),@(?nx H (R1:=?a) λr c h1 h2=>?b),@(?a ?b=Option.none),@(λk c hk hc=>?a k c hk (by rw[?b k hk];exact hc)),@(by rw[show ?a=?b+2 by ext gR,qe5];simp;try ext d),@(Rj ?a g ?b te D Q τ H),@(?a*(if d=?b then ?c else 0)),@(upd H ?a ?b),@(?n (λj=>?a) ?b),@(?ag λc=>?a),@(?M (?a × ?b)),@(?a Ag s σ H _ I h),@(by rw[qe5];exact ?a ?b ?c),@(∀k,k<?a->?b),@(qa6 _ ?a),@(by rw[?a];exact ?b),@(by (have:?a=(-?b)*?jA:=?a0);rw[this];exact ql3 ?c h.rr),@(F0 n w ?a ?b),@(?a<n->(∀c,c<n->?bj=?b)->?j7),@(∀x c,x<w->c<n->?F0=bil w n ?m5 ?a ?Ir),@(Fs ?a u v 1 1 ?b),@(?t (qo2 ?a ?i ?_)),@(∀k c,k<n->c<w->?a=?b k c),@(sx _ _ (Fn ?a ?b ?ad) ?c),@(LX H' C p r b sv n W ?a ?b),@(?a7 R p q a b c d ?a k),@(?a Ag s2 σ H2 _ I2 q2),@(∀c o,c≠z->c≠b->c≠i1->c≠i2->?a),@(λa u n1 n2 e=>by rw[Al ?a];exact ?I4),@(by unfold dot;ext ir;exact Ad λc _=>?a),@(WX K CL CW H0 H' p L R nm n w ?dN ?a ?b ns),@(∀j k,j<k->k<?a->?m2),@(λj h1 h2=>?a),@(λi hi=>(?a i hi).cols ?b λc hc=>?c i c hi hc),@(YU n W w i G ?a ?b ?c Y R1 B1),@(Sl w ?dY n r kr hr ?a),@(RE W n R ?a),@(In n w ?d8 (?b4 ?a i)),@(Eg n W w ?a ?b M B0 t R B),@(?fu H ?a D ?b w f),@(?da P w H h a ?a),@(∀b u,?lZ->u≠?a->?b),@(∀j,?bW->?a),@(λx c hx hc=>?a),@(λr l=>?a r ?az),@(λm hm=>?a),@(λi j=>?a j i),@(λa o e=>fr _ _ (Aq e ?a) (Aq e ?b) ?oI),@(λ_ _ _ _ _ st h=>?a ?b h),@(dQ n r ?a kt ?b s.1),@(by have:=?J4 ?a ?b;rw[qe8]at this;ext d),@(In w n ?a ?b),@(?zG/\?zN/\?DO/\?hL i1 a ?a/\?hL i2 b ?b),@(?t (?a ?_)),@(?a7 R p q a b c d ?a),@((λj=>T' j ?a2) ?a=0),@(?a[i]?=?k ?b),@(?a*(if c=?b then e else 0)),@(?a ?eN X.w X.K ?dn ?sc C m ps j sp),@(?a #[?nn,?gE,λσ' H' p'=>?os,?p7]),@(∀i zs τ H,?fl->?e7->?a/\?b K H b ys),@(by ext Lc;have:=?a r m y ?g;ext d),@(λc hc=>by rw[←?a c hc,?b];exact Ad λk hk=>?c),@(λc hc=>?a),@(ta σ H λvs H1=>?a),@(by rw[m,qd3,←qd3 ?a];exact ?px),@(P4 n W w i R0 B0 t ?a ?b ?c),@(P4 n W w i ?a ?b ?c 0 R2 B2),@(?fY ?a ?hH ?Q ?g ?g),@(?bo n W ?a ?b),@(?aE R i ?j ?a ?b),@(?H4 pos f first (?mL pos ?a) ?Bn),@(?Fp m.base m.few m.line qu5 ?a ?b ?v8),@(?a A B r2 x2 y2 ?gh ?xb ?H3/\?pc),@(pT n ?a ?b a b=?m7),@(_*(if m<w then T m m else 0)=?a),@(?aI λl hl=>by rw[?a l ?h];simp),@(?B9 ?dD (?k ?a) ?vC ?P=pure ?b9),@(∀i j,?x->j<?a->?b),@(hs i x y zs τ H p e1 e2 ?a hp),@(Sf ?cK η r ?a),@(?aq n W w ?a ?b B0 R B),@((?a).stop i H/\?iD),@(∀zs τ H,Pv ?a zs τ H->Q H),@(∀spot s,?gp->?tQ->(∀c,?a->?hP=0)->?b),@(∀d o kvs,?zk->?EC->(R ?a H1)->?b),@(qd6 #[plainId_quiet Mo ?a,?_]),@(Fs (B4 A q ?a) ?bB ?cb a b hp),@(?t5 hp hq ne (λj _ h1 h2=>?a) ?_),@(?a5 (?rV e ?a ?P ?hT=?hT) ?aM),@((Sz.2 ?a ?b).trans ?c),@((Gm ?a ?b).map ?aR),@((?a).natAbs<?b),@(?a j hj),@(∀r c,?fz->?a),@(∀i c,?a->?b),@(λi j hi hj hne=>?a),@(dot n w ?a ?b),@(?du _ _ ?a (?b _ _ c3 (?dr _ _ c1 ?c))),@(?aP w T P ?a ?b),@(?G ?hZ j i ?fI ?a),@((?a).push { cls:=?jd,data:=?fK #v[?b,?c] }),@(?a->Prop),@(?a t #v[key,p.2]/\?b p.1 key=true),@(?a j c ?g hcw hne),@(λc _=>by ext c0;rw[?bI,?d3,?a]),@(YU n W w i G R B ?ba ?a R B),@(TA ?a r ?b n W ?c),@(F2 n R ?a),@(?jL+(if ?a then ?kk else 0)),@(?au k _ hk (?cF ?a k ?h hk)),@(?a l k hl (qb6 z (?b k l ?h hl))),@(qj4 ?ek ?a),@(Zf I ?ls hs he (aE ?a hd ?b RC)),@(Xm r b H ?a),@(PE X ?a (MA C m sp [] E0 ta ?b)),@(LX ?a CL q r b ?ac m m s N),@(Data.fields _=Data.cell ?a),@(D6 (λ_=>?a) ?b ?c),@(Classical.axiomOfChoice ?a),@(?k { cls:=?sz,data:=?fK ?a ?b }),@(?k (?bm ?a)),@(?dF f i j x y ?a),@((?a:Shared).TypeIs ?b ?c),@(?a r t KP hst hz),@(?a j h1 h2),@(λa ha=>#[(?a).1,(?b).2.1,?df]),@(Uj n w M l r (λM' l' r'=>?a)),@(PS X (.Assign [?a] ?dD pos) ?b),@(AS n W w i G R B t b p ?j μ ?a ?b),@(?e7->?cf->g ?aC τ ?a ?vL),@((if ?a<r then X ?b i else 0)*T c ?c),@(?a t ?j i ?fr ?d0 g a b s),@(∀k j,k<j->j<?a->?b),@(∀b o,?j6->?a),@(λl hl=>?a),@(λd hd=>?ex (?a d ?g) ?g),@(qe2 (qc1 ?a)),@(ha ?a Ag ?b σ H _ ?c h),@(Xi P w K tg ?a ?cy it (λi h=>?b)),@(LX H' CS p ?a ?b ?rn n W s' M),@(I2.kept (t':=s1.toks) ?a),@(?v (λj=>?a j j) ?b),@(?iA m i ?a f),@(?cN t ?j ?a ?b),@(2 ^ (?a+?b)),@(1*(-q*0+p*f ?a)),@((?a).map ?aR),@(?a<=B.natAbs),@(?a<=A.natAbs),@(?a ?j st s' hs hI hB hex),@(?a ?b c ?g hc),@(∀σ H,Pv ?a σ H->?iD),@(rv.get (i:=i) (x:=?a ?b) ?Am),@(m=kvs.length-i/\?lt/\?a),@(h.imp λ{a b} n z=>n ?a),@(Reps K ?a ?b ((?JA n ?c).map ?nf)),@(MP ?a ?b (?lq).1 ?ou (?lq).2),@(?a c hc),@(?a (λz=>?b ?mI) λa ha z=>?c ?mI),@(?a (p:=i) (q:=j) ?g ?g ne ?b),@(∀r c,?ay->G c->?gF<=?a),@(∀m,m<d->?aD ?a ?aJ ?af ?b m=?c),@(∀l,f<=l->l<?a->?b),@(λk hk=>?a),@(λj a e=>?a),@(λh' RC hs=>?a),@(λa ha=>kp a (?a a ha)),@(show ?a from ry),@(qb6 ?a ?aS),@(S9 n C δ ?a ?b),@(?sN (v:=v) (o:=?kE) ?a),@(?n (λc=>A k c*?a c) w),@(?iH ?a=?gf),@(?gC t ?a ?D ?b ?am),@(?eI->j<m->?a),@(?dF f i j ?a ?b),@(?d6 #v[?a,?qa]),@((λc=>?n ?a ?U)=λc=>1*(?b) c+?c),@(λb ob _ _ hb z _=>?a),@(_=if r<r+1 then ?a else ?b),@(M2 X o ?a ?el e f ?eL),@(Dx n w ?a E A P PB Q QB ?b),@(?t (?xS q1 q3 ?a8 ?a)),@(?nU hD ?a (s:=t) h.pg),@(?a<=?a1),@(∀m,?a<=m->∃g,?Fr=?b*g),@(up b _ ?a ?ad),@(qc5 (qc2 _ ?a) (qt1 ?b p)),@(qV n w A Q ?a),@(kvs.length+?a),@(kk _ _ (ZH _ _ ?a) q),@(hx _ (h.lt ?a ?b)),@(by rw[Al ?a];exact q),@(ZL (qa5 ?a ?b) ?g),@(Sl n ?E w r kl hl ?a),@(PPs X pos ?a ?b ?c),@(Fs A ?bB ?bB ?a 0 hp),@(?iU qv6 ?iB ?Dy ?x1 ?a ?b),@(?ex (k2 ?a ?g).2 hbd),@(?de R t ?a ?b),@(?I8 ?a it d i ?b ep ok ov),@(2 ^ ?am*?a*?R),@((rel.val ?a).getD rd),@((?a ?g).cols ?qO ?rw),@(?a=kvs.length),@(?a<s1.heap.objs.size),@(∀a kvs,(xs=?a)->?iW->?b->?c),@(λv H'=>?hF/\?a v ?hc),@(λj c hj=>?a j c ?g),@(z λc=>1*u c+1*v ?a),@(j.natAbs<?a),@(h Ag s σ H ?a I hw),@(by unfold Vj;rw[?a]),@(Om n w ?a ?b),@(Jv R p ?a a b c d k),@(DGet ?a a y ?b),@(?qq/\(?le->?a)/\∀g a b,?qF->?b),@(?a=s.heap.objs.size),@(?a "tuple_iterator"),@(?p8/\∀i m σ H,?tB → (?On ?a)\/(?MO ?b ?c)),@(λt1 Y R1 B1 R2 B2 I1 D1 j hj=>by have:=(?a I1 D1).headD dets ?b ?GF;exact ?Qb ?Y ?c),@(?hs { cls:=?b2 ?eZ,data:=?d6 #v[?y ?dP ?a,?y ?Z t',?y ?Z t''] }),@(∀d,?ga->?MF ?hg (?aD t ?a ?D ?b d)),@(?n (λk=>?a) ?b),@(by show _=1*?s i ?a;rw[qd8];exact Di (?ML (by show _=?b;ext ep))),@(qs2 ?i (qx9 (qo9 (Eh ?vY λiv s2 ?rG =>qo9 (Eh ?yb ?a))))),@(∀h',?yI->?BK->?v9->?uy->?zP->?DI → ?jP->Q ?a ?fU),@(WX K CL CW H0 H' p L' R' nm n w ?nw l' r' ?a->?bZ),@(∀x c,x<n->c<w->?a x c=?MV ?b ?c),@(?a ?b=?MR ?c),@(∀{m:Nat},?fk->?a),@(SqL K H ?a ?b),@(SX CS H0 H' p q M n W t ?a ?b),@(?k (?cG ?a dx ?b)),@((if r<?a then ?fE else ?fA)=?b),@(show ?MM ?a ?b 0 from ?c),@(?aD t ?a ?D ?b ?am),@(?a (if r<?b then r else r+1) ?c),@(?b1 ?a ?P),@(by rw[Al ?a];exact e),@(S8 λ ?dg ?sK ?kl=>Da ?wj ?iY ?a ?hl ?b),@(Bx (?ME (?a≠?b))),@(?o (?Ml ?a)),@(by have:A k 0=0:=qh0 λz=>?a ?b;ext cS),@(WX K CL CW H0 H p L R nm n w ?a l r ?b),@(ty σ H1 λy H2=>tx σ H2 λz H3=>?a),@(?a r c hr hc),@(?a l ?g h2),@(BB n ?a ?fj ?cp ?b ?c),@(∀i t s,?a->?lT),@(SqT K H' L [?y g,?y a,?y ?a]),@(?o (?ME (¬?a))),@(?cA ?a i ?al ?b),@(λk _ hne=>?My (one ?a k) ?t4),@(show ?O7 ?a from zD ok e),@(SqT K ?a a xs),@(SX CS H0 H p q M n W t ?a s),@(H ?a=none),@(∀x y,x<n->y<w->?a),@(∀r c,r<?a->?b),@(∀k c,k<n->c<w->?a),@(show ?lv from ?a),@(In W i R ?a),@(?aD ?a ?aJ ?af ?b ?c),@(B4 ?a k λc=>?Nb (T k j*?b) ?V),@(?pn c k ?a (?N7 bK.inc c ?b)),@(?a (?OK wpAny_onRaise)),@(∀w:?r,?MU ?IF ?a w=0),@(λj hj1 hj2=>?a),@(λi c h1 h2 h3=>?a),@(insS i ?j st ?a),@(dP n W t ?a ?D i ?b),@(?v ?ej ?a),@(?a7 R ?a ?b a b c d),@((?a r c hr).trans (?b r c hr)),@(?a j c hj hc),@(?a j ?g),@(?l2 (Km I hg hm ?a ?BO)),@((if r<?a then ?hY else ?g4)=?b),@(∀c,c<?a->?b),@(∀(i:Nat) (x:Value),?a=?cm->?b),@(λxs H Q=>?a),@(ql6.mpr (?sw (qe2 ?a))),@(by show ?a=?b+?c;ext d),@(a*?P2 u x+b*?P2 ?a ?b),@(PE X ?a ?b),@(B4 A p ?a),@(?t (?y2 (show ?a from ?b) ?_)),@(?aq n W w ?a R B R' B'),@(?X (?S ?a)),@(2 ^ ?a*m*h),@((?a).natAbs<=m),@(qh0 λy=>z #[c,hc,?a]),@(∀r t,?bC->?h4->?gw->?a),@(∀k,k<=i->?s i ?a=?qg*?b),@(∀i,?x->?OI ?a (?b i)),@(λj c hj hc=>?a),@(λb ob hb z=>?a),@(λAg s σ H Q I h =>?a ?b),@(qa5 (h.rowD hD ?a ?b ?c hc) h2),@(l<i->?Ma ?a ?H ?a1),@(a m*?MU A p (U ?a)),@(Rep K H ?a ?b),@(Co (?Md ?a)),@(?kf (t':=s1.toks) ?a),@(2 ^ (?a-f)*μ),@((?a m hm).trans (?b m hm)),@(λσ H R=>?OV ?a),@(x.natAbs<?a),@(by rw[x0 k ?a];simp),@(?G R i ?j ?dH ?a ?H),@(?OO (T i d) d=?a),@((?N2 ?a).congr λc _=>?b),@(∀i x y zs τ H p,xs[i]?=?cm->?a),@(?s i (B4 ?e8 k ?a)),@(H p=?RF ?a []),@(x ?a*?MV (U ?b) q),@(∀i,i<r->?O4 ?a),@(newL H ?a ?b Q)])
def aN{i j:Int}{m n:Nat}[?uD](hj:?up):?uO<?AV:=by rw[qb5,qe5];exact ql9 hi hj
def LM{i j:Int}{m:Nat}[?uD](hj:?Qs ?kT):(i+j).natAbs<2 ^ ?U:=by have h:=qf4 i j;rw[qh8];generalize ?kT=q at *;ext d
def YO{i:Int}{m n:Nat}[?uD](h:?eX):i.natAbs<2 ^ n:=qb6 hi ?EA
def Uf[?T]{m:Nat}:∀{n:Nat},(?Ng n (?oi<?kT))->?Gk<?AV| 0,_=>by show ?xY<_;exact Nat.pow_pos ?aA| ?u,h=>by have h1:=Uf (n:=n) (f:=f) ?e1;show ?Jp<2 ^ (m+n+1);exact LM h1 (YO ?lQ (qh3 m n))
universe Hb
namespace Hb
open PySem L2
noncomputable abbrev VI(n:Nat)[?a9]:?as:=?Pq ?oD
abbrev dL(n:Nat)[?a9]:L2.D:=?K (Fb ?oD)
abbrev dT(h w:Nat)[?uK]:L2.D:=?K ((?lr h).map ?nf)
section
variable[?aB]{H H' H1 H2:Hp}
def Bv(n:Nat)[?a9]:?A2=n:=by rw[qa3,F1]
def Cy{n i:Nat}[?T](h:?x):?ON ?dI ?rd:=by rw[qa7,Ru h];rfl
def Bd1{n i:Nat}[?T](h:?x):Um ?dI ?C1=?k ?rd:=Bj (Cy h)
def Xh{n i:Nat}[?T]{u:V}(h:?dI[i]?=?gX):?x/\u=?rd:=by have h1:i<?A2:=(?dz h).1;rw[Bv]at h1;rw[Cy h1]at h;exact#[h1,(qa9 h).symm]
def Vz(n:Nat)[?a9]:VI ?u f=?dI++[?y (f n)]:=by show ?Ow ?u f=_;rw[n0,qb0];rfl
def Ri{n:Nat}{f g:?r}(h:∀i,?x->?L=g i):?dI=VI n g:=by show ?Pq ?oD=?Ow n g;rw[CM h]
def Aq3(n:Nat):(List.replicate n [?aR 0]).flatten=VI n ?cj:=by show _=?Ow n ?cj;rw[←XU,List.map_flatten,List.map_replicate];rfl
def Bc5{v:V}{n:Nat}[?T](h:?NP H v ?Ec):∃a,v=?aH/\?pr:=by let#[a,vs,e,q,r]:=h;rw[Eu.mp r]at q;exact#[a,e,q]
def uR{a:Addr}{n:Nat}[?T](h:?pr):?NP H ?aH ?Ec:=#[a,_,?i,h,Eu.mpr ?i]
def Iq{v:V}{h w:Nat}[?bw](r:?iY):∃a us,v=?aH/\?H2/\?pX/\∀i u,us[i]?=?gX->i<h/\∃b,u=?bA/\?B2:=by
 let#[a,us,e,q,r]:=r;have hl:?pX:=by have:=r.length;simpa using this
 apply#[a,us,e,q,hl,λi u hu=>?_];have hi:i<h:=by have:=(?dz hu).1;ext d
 let#[d,hd,rd]:=r.getV hu;rw[qa7,qn4 hi]at hd;have e2:d=?C8:=(qa9 hd).symm;subst e2;exact#[hi,Bc5 rd]
structure Rows(H H1:Hp)(D:Addr)[?n3](w:Nat)[?uK]:Prop where
 same:?lu
 free:?f4
 «at»:?RB H1 D ?dS
 row:∀j a,as[j]?=?k a->?i5/\a≠D/\?RB H1 a (VI w ?a3)
def Rows.nil{D:Addr}{w:Nat}[?bw](h:?f4):?fu H (?Na D ?HV) D [] w f:=#[Same.new h,h,Ab,?Q8 ?sD]
def Rows.push{D b:Addr}[?eu]{w:Nat}[?bw][?gM](hb:H1 b=none)(s:?I2)(h2:?RB H2 b (VI w (f as.length))):?O6 (upd H2 D (?K (?dS++[?bA]))) ?AU:=by (have hne:b≠D:=λz=>by rw[z,R.at]at hb;cases hb);apply#[(R.same.trans s).turn ?ia,?ia,by rw[Ab,qb0];rfl,?JF];by_cases hj:j<as.length;{rw[qc3 hj]at e;let#[h1,h2',h3]:=?hE;exact#[h1,h2',by rw[Al h2'];exact s _ _ h3]};have hl:j<(?AU).length:=(?dz e).1;(have ej:j=as.length:=by simp at hl;ext d);subst ej;(have eb:b=a:=?ck);subst eb;exact#[R.same.free hb,hne,by rw[Al hne];exact h2]
def Rows.rep{D:Addr}[?eu]{h w:Nat}[?bw][?gM](hl:?m9):?NP H1 ?dJ ?jX:=by apply#[D,_,?i,.of R.at,?_];subst hl;(have go:∀(bs:?fq) (n:Nat),(∀j a,bs[j]?=?k a->?RB H1 a ?x9)->?Pz H1 ?zW bs.length:=by intro bs;induction bs with| nil=>intro n _;rfl| cons b bs ih =>intro n hr;apply#[?bA,?zW,?i,uR ?oT,?_];{have:=hr 0 b ?i;simpa using this};apply ih ?u ?JF;have:=hr ?I a ?ck;rw[?zU];ext aZ);(have:=go as 0 (?Q8 (by rw[qt4];exact ?nA)));rw[List.range_eq_range'];ext aZ
def Rows.later{D:Addr}[?eu]{w:Nat}[?bw][?gM](s:?I2):?O6 H2 as :=#[R.same.trans s,?ia,s _ _ R.at,?Q8 #[(?hE).1,?I9,s _ _ ?nA]]
def Rows.earlier{H0:Hp}{D:Addr}[?eu]{w:Nat}[?bw](s:?jK)[?gM]:?fu H0 H1 D as w f :=#[s.trans R.same,?sk ?ia,R.at,?Q8 #[?sk (?hE).1,?I9,?nA]]
def DH{g:TG}[?md][?aB]{a b:Addr}{xs ys:?as}{n:Nat}(hn:n=min xs.length ys.length)[?Ln](hl:?OR ?xT SqL) [?Ka]:?NY (Itz K a b) OH:=IS hn Pv h0 hl (λi x y zs τ H p e1 e2 pp hp=>?Ok pp) hd
universe e9
abbrev newL(H:Hp)(n:Nat)[?a9](Q:V->?eF):Prop:=∀(D:Addr) (H':Hp),?f4->?bg->?RB H' D ?dI->?rP
abbrev XO(H:Hp)(h w:Nat)[?uK](Q:V->?eF):Prop:=∀(D:Addr) [?n3] (H':Hp),?m9->?O6 H' as->?rP
section
variable[?be]
abbrev cD:Sp:=?MH (Yd λ ?dg (h w j:Nat) ?kl=>Da (vs=[v,?mS]) ?iY ?jj (j<w) (?Sc h (λi=>f i j)))
abbrev Iz:Sp:=?MH (?RM ?jj (XO H w h (λi j=>f j i) Q))
universe e9
section
variable[?be]
abbrev Y1:Sp:=?MH (Kc λ ?Ce ?I0=>Da (vs=?jh) (?RD a ?BT) (ns.length<=63) ((∀x∈ns,?SS (2 ^ Rf))) (∀H',?E8))
abbrev Uw:Sp:=?MH (Ex7 λ(a b:Int) (x y:Addr) (n:Nat) (p q:?r)=>G9 (vs=[?y a,?z x,?y b,?z y]) (?RD x (VI n p)) (?RD y (VI n q)) ?dA ((∀j,j<n->?eW a (p j)/\?eW b (q j))) (?Sc n (λj=>a*p j+b*q j)))
abbrev Sq:Sp:=?MH (lR λ(x:Addr) ?dg ?sK (a:?r) ?kl=>Mb (vs=[?z x,v,?mB]) (?RD x (VI h a)) ?iY ?jj ?hl ((∀k j,k<h->j<w->?eW (a k) (f k j))) (?Sc w (λj=>?R5 (a k*f k j) h)))
abbrev Tg:Sp:=?MH (Ex7 λ(u v:V) (h d w:Nat) (f g:?cd)=>Xn (vs=[u,v,?mB]) (?SM u (dT h d f)) (?SM v (dT d w g)) ?jj (d<=1000) ?hl ((∀i k j,i<h->k<d->j<w->?eW (f i k) (g k j))) (XO H h w (λi j=>?R5 (f i k*g k j) d) Q))
abbrev Zt(_K:W.Frag):Sp:=?MH (∃n i:Nat,vs=[?k4,?cz]/\?dA/\?Sc n (λj=>?qZ))
abbrev DU(_K:W.Frag):Sp:=?MH (∃n:Nat,vs=[?k4]/\?dA/\XO H n n (λi j=>?qZ) Q)
universe e9
universe Hb
namespace L2
open PySem PySem.Spec PyProof.Rows
structure Jn[?uB][?be][?tk](m:Str)[?tz]:Prop where
 ex:∃(f:Addr) (fd:FuncData),VA K C m f/\?om
structure JE[?uB][?be][?tk][?tz]:Prop where
 ex:∃(f:Addr) (fd:FuncData),Mk K C f/\?om
section
variable{X:Cx}[?aB][?Lz]{x m f:Str}{p pos apos pos':Pos}{e o value:Expr}[?iy]{ta tv:TE}{t:TA}
def Cm[?Ku](ha:?vU)[?tt]
 [?Kz] (hpl:?a5 (?tV (·.1)=false) ?aM)
 (ht:?a5 (?RK ?KD=(do
   let ov ←?kI
   ?rI
   let ?sE ←?nq
   ?G6)) ?aM) :
 ?PK ?KD t:=by
 ext u1;exact xC he c h1 h3 ?jE h2 ?aV HC ha hst hpl ht
def N8[?Ku][?tt]
 (ht:?a5 (?RK ?Bg=(do
   let ov ←?kI
   ?rI
   let ?sE ←?nq
   ?Oc (?c8 [] ?P))) ?aM) :
 ?PK ?Bg Ae5:=by
 ext u1;exact sJ he c h1 h3 ?jE h2 ?aV HC ht
def Lu(h:JE ?eN X.w X.K ?dn ?sc C ps j sp)[?LJ](hk:?a5 (?I<=k) ?kh)[?LU] (he:?HH) (hpl:?a5 (?tV (·.1)=false) ?aM):?S5 (?NA x ?iZ) (yY C sp [] E0 t):=by ext u1;exact XC h1 h3 ?jE hg hm h2 ?aV HC ha hdb he hpl
def Bb(he:?S5 e ta)[?me](hb:?Ou f):?S5 (?eB e f pos) (Ay6 K ta f):=by subst hK;exact Ah1 he hb
def Fd(ha:?AM)(hv:?wR)[?me](hs:?a5 (?Oi ?D5) ?aM):?PX ?D5 (Az9 K ta tv f):=by subst hK;exact Ag6 ha hv hs
universe e9
noncomputable abbrev TJ:=St->Hp->?P7 ?eF
section
variable{X:Cx}{e v₁ v₂:Expr}{es rest:?cx}{te:TE}{tj:TJ}{pos:Pos}
universe e9
universe L2
namespace Hb
open PySem L2
inductive Tn where| mi (i:Nat) | sw [?cV] | ad [?cV] (n:Int)
abbrev vX:Tn->L2.D| .mi i=>?bm [.str "minus",?cz]| .sw i j=>?bm [.str "swap",?cz,?mS]| ?jR=>?bm [.str "add",?cz,?mS,?k4]
abbrev wC:Tn->?cd->?cd| .mi i,f=>λr c=>if r=i then -?m1 else f r c| .sw i j,f=>λr c=>if r=j then ?m1 else if r=i then ?pR else f r c| ?jR,f=>λr c=>if r=i then 1*?m1+n*?pR else f r c
abbrev tnB:Tn->Tn| ?jR=>.ad i j (-n)| t=>t
abbrev tnA:Tn->Tn| ?jR=>.ad j i (-n)| t=>t
abbrev tB(B:Nat):?yy| .ad _ _ n=>n.natAbs<2 ^ B| _=>True
def N5{f:Str}{v:V}:∀{fs:?nv}{x:V},?c4 f=?cm->(putF f v fs).length=fs.length| [],x,h=>by cases h| (g,y)::r,x,h=>by unfold putF;by_cases e:g=f;{rw[?bs];rfl};rw[?bt,qd5,qd5];rw[qr8]at h;(have e2:(f==g)=false:=by simpa using ?iC);rw[e2]at h;rw[N5 h]
abbrev Vj(H:Hp)(Z:?cC):Hp:=λa=>@ite _ (Z a) (Classical.propDecidable _) ?ac ?an
section
variable[?aB]{H H' H1:Hp}{Z:?cC}
def Vi{a:Addr}(h:¬Z a):?HD=?an:=?Qu ?lN
def y7{a:Addr}(h:Z a):?HD=none:=?Qu ?kV
def Oc:?eC ?HG H:=λa o e=>by by_cases h:Z a;{rw[y7 h]at e;cases e};rw[Vi h]at e;exact e
def cV(h:∀a o,¬Z a->?Cf):?HQ:=λa o e=>by by_cases hz:Z a;{rw[y7 hz]at e;cases e};rw[Vi hz]at e ⊢;exact h a o hz e
def RW[?n7]:?HQ:=cV λa o _ e=>s a o e
def iR{a:Addr}{us:?as}{h w:Nat}[?bw](hq:?H2)(hl:?pX)(hr:∀i,i<h->∃b,us[i]?=?qC/\?B2):?NP H ?aH ?jX:=by apply#[a,us,?i,hq,?_];subst hl;(have go:∀(vs:?as) (n:Nat),(?MS vs.length (∃b,vs[j]?=?qC/\?RD b ?x9))->?Pz H vs vs.length:=by intro vs;induction vs with| nil=>intro n _;rfl| cons v vs ih =>intro n hv;let#[b,e,hb]:=hv 0 ?a8;(have ev:v=?bA:=?ck);subst ev;apply#[?bA,vs,?i,uR ?cD,?_];apply ih ?u ?aT;let#[b',e',hb']:=hv ?I (by simpa using hj);apply#[b',by simpa using e',?_];rw[?zU];exact hb');(have:=go us 0 λj hj=>by rw[qt4];exact ?Oy hr);rw[List.range_eq_range'];ext aZ
def Rows.hid{D:Addr}[?eu]{h w:Nat}[?bw][?gM](hl:?m9)(hz:∀a,Z a->?kg):?NP (Vj H1 Z) ?dJ ?jX:=by have nz:∀a,?i5->¬Z a:=λa e z=>hz a z e;apply iR (us:=?dS) ?oT (by rw[qa3];exact hl) ?hx;{rw[Vi (nz D ?ia)];exact R.at};have hi':i<as.length:=O9m;let ?ke:=R.row i as[i] ?xH;apply#[as[i],by rw[qa7,?xH];rfl,?oT];rw[Vi (nz _ h1)];exact h3
universe e9
section
variable[?be]
abbrev Jy:Sp:=?MH (Op λ ?Ce (n:Nat) ?pI=>Bw (vs=[?aH,?k4]) ?pr ?dA ?q2)
abbrev Xr:Sp:=?MH (?RM (h<=40) ?q2)
abbrev cE:Sp:=?MH (Kc λ(u:V) ?pj=>Fm (vs=[u]) ?o2 (∀(v:V) (H':Hp),?bg->Rep K H' v (vX ?qc)->Q v H'))
variable(CL CT:Addr)
universe e9
section
variable[?aB][?LR][?bw]{ds:?Nd Bool Tn}
abbrev Ls(H H':Hp):Prop:=∀c q,?RB H c q->?RB H' c q
abbrev Kp(H H':Hp):Prop:=∀a,?kg->?Cm
def Kp.trans{H H1 H2:Hp}(x:?tG)(y:Kp H1 H2):Kp H H2:=λa e=>y a (x a e)
def Kp.of{H H1:Hp}(s:?lu):?tG:=λa e z=>e (?sk z)
def Kp.upd{H:Hp}{p:Addr}{o:HO}:Kp H (?Na p o):=λa e z=>by by_cases hap:a=p;{rw[hap,Ab]at z;cases z};rw[Al hap]at z;exact e z
def Kp.x{H H1:Hp}{p:Addr}{o:HO}(s:?ho p H H1)(hp:H1 p=?aF):?tG:=λa e z=>by by_cases hap:a=p;{rw[hap,hp]at z;cases z};cases q:?an with| none=>exact e q| some o'=>rw[s a o' hap q]at z;cases z
universe e9
section
variable[?be]
universe e9
section
variable[?aB][?LR][?bw]{ds:?Nd Bool Tn}
universe e9
universe Hb
namespace L2
open PySem PySem.Spec PyProof.Rows PySem.W
section
variable{X:Cx}
abbrev V4(_i j:Int):Prop:=j≠0/\j.natAbs.log2<9000
def V4.of{i j:Int}(h0:j≠0)(h:?Qs ?s4):V4 i j:=#[h0,(Nat.log2_lt ?g).mpr h]
def J5:Uo X (binaryOp .FloorDiv) (rI V4 λi j=>?y (i.fdiv j)):=opI λ_ _ _ _ _ _ _ hc q=>floordiv_int hc.1 q (?S (PyProof.noPylong_of_log2 hc.2))
abbrev insAt[?u3]:?i7:=xs.take k++y::xs.drop k
inductive JD(x:V)(vs:?as)(H:Hp)(Q:VK):Prop| mk:∀(l:Addr) (xs:?as) (k:Nat) (y:V),(x=?hr)->(vs=[?y k,y])->(?RB H l xs)->?wP->(xs.length<sizeLine)->(Q .non (?Na l (?K ?se)))->?I6
abbrev WS:V->?kQ:=λx vs H Q=>?I6
def Ww:MtM X "list.insert" WS:=by intro Ag s σ H x vs v us Q I rx rv h;let#[l,xs,k,y,?i,?i,hH,hk,hz,q]:=h;cases rx;let#[u1,u2,?i,r1,r2]:=gD rv;let ?dy:=r1;let#[z,its,n,r,hl,e]:=I.lstM hH;(have hsl:((k:Nat):Int)<2 ^ 63:=by have h1:?N5 k:=O9m;(have h2:sizeLine<=2 ^ 62:=?f7);have h3:=qa5 h1 h2;ext d);(have hfit:¬(!Builtin.List.listFitsIndex (k:Int))=true:=by rw[fitsIndex_both ?h hsl];exact qf1);(have hsz:?N5 its.toArray.size:=by rw[qc6];ext d);obtain⟨ki,hki⟩:∃ki:Int,ki=(k:Int):=?C2;rw[←hki]at hfit ⊢;have hm:=AutoSeq1.list_insert_list_int_val_1 l ?he n ki t u2 hfit hsz;apply ?xP F.slot_list_insert #[_,e,?i] F.entry_list_insert (F.args_list_insert_3 _ _ _) hm #[e,?_];apply#[.non,_,I.lset (its':=?eQ k u2 its) hH e ?_ ?_ ?_,?i,q];{have hkl:k<=its.length:=O9m;have hkn:ki.toNat=k:=O9m;simp only[qc6,hkn];rw[?q,?E3 hkl];refine Array.ext';simp only[insAt,Array.toList_append,Array.toList_push,Array.toList_extract,List.extract_eq_drop_take,List.drop_zero,qy0];rw[qn0,qj9 (i:=its.length-k) (by rw[qh4];ext d)];rfl};{exact(r.take k).append (?bQ r2 (r.drop k))};unfold insAt;rw[qb7,qd5,qb9,qh4];ext d
structure Be6(K:Frag)(D:Addr)(m:Str)(f:Addr):Prop where
 rd:readsIn K D ?uZ=true
 fc:findCls K ?dJ ?uZ m=?k (.val ?Gm)
 ga:specialIn K ?dJ "__getattribute__"=?k (?k (?dU "type.__getattribute__"))
 kp:W.keepIn K ?Gm=true
structure Ar3[?uB](K:Frag)[?tk](m:Str)[?tz]:Prop where
 ex:∃(f:Addr) (fd:FuncData),Be6 K C m f/\?om
def xE[?Lz]{x m:Str}{np apos pos:Pos}{e:Expr}[?iy]{t:TA}{pl:?KN}(h:?OP Ar3)[?LJ][?tt]
 [?LU] [?Kz] (hpl:?a5 (?tV (·.1)=false) ?aM)
 (ht:?a5 (?RK ?Cq=(do
   let ov ←?RK ?x8
   ?rI
   let ?sE ←?nq
   ?G6)) ?aM) :
 ?S5 ?Cq (tCall sp [] E0 t):=by
 let#[f,fd,B,hb,F]:=h.ex;ext iq;apply qr6 (pl:=pl) (Y8 I hg hm ?_ hdb) ht;apply method_cls I.kIn B.ga (cls_value I.kIn B.rd B.fc ?i ?_);apply qt3 (h₀:=X.base) I.ok.mod.kin B.kp (Eh (?Ph pos _ ?h1) λus s1 #[vs,H1,I1,r,q]=>#[I1.kIn,?_]) hst hpl;exact DZ F ?jE hb ?aV HC I1 r q
universe e9
universe L2
namespace L2
open PySem PySem.Spec PyProof.Rows
section
variable[?ip][?cP]{s:Shared}
def Kl[?M8]{x:Value}[?bc][?La](gx:vs[n]?=?cm) (k:∀h',?h5 j t ?u->?oW j ?ai h'->Q x ?fU):?II:=by ext KY;simp only[qe0,gx];apply ?QQ (qd6 #[x,?i,qd6 (k _ ?_ ?D2)]);exact#[_,Heap.get?_update_self _ q1 (Obj.isFreed_of_fields (?Hl q3 _)),(Obj.cls_mapFields ..).trans q2,by rw[?Hl q3];simp[rawInt]]
def Qz[?M8][?bc][?uE][?La](gx:vs[n]?=none) (k:∀h' e,Heap.ExtBut j ?ai h'->?wu):?II:=by ext KY;simp only[qe0,gx];apply ?t (?ox (?QQ ?_));show ?MJ (newExc ?Dg []>>=_) _;apply ?f6;simp only[newExc,newTuple];apply ?t ?DS;apply ?t (m:=firstArgMember _ _) (wpAny_of_eq (a:=Value.none) (by first | rfl | (simp only[firstArgMember];rfl)) ?_);apply ?DS;simp only[raiseNew];apply ?OK wpAny_handled;(first | rw[show A.in1.handled=none from hn] | rw[hn]);apply ?t (qd6 (wpAny_throw ?_));exact k _ _ (((?D2).extBut.push _).push _) #[_,?dq,?i]
def NZ[?mb]{x y u v:Value}[?bc][?mU] [?Ly] (k:?R8 ?dT) : ?C ?aw A ?BF (λfin s'=>∃r,fin=.done (.ret r)/\Q r s') E s:=by ext Kb;ext KZ;ext LC;apply ?t (Kl ?vP ?uW gx λk2 f1 w2=>?e3);have gb2:?b6 k2 b u v:=?hI _ _ D.TOi1 (?dr _ _ D.TOz gb);apply ?No gb2;apply ?t (?Ck gb2 λk3 gb3 w3=>?_);replace gb3:?b6 k3 b x v:=gb3;apply ?t (?FO ?e3);apply ?Rm ?t;show ?MJ (?nC ?r1>>=_) _;apply ?t (Kl (((g2.extBut ?dr D.i2z).extBut ?hI D.i12.symm).extBut ?du ?vR) (((e2.extBut ?dr D.l2z).extBut ?hI D.l2i1).extBut ?du D.l2TO) gy λk4 f2 w4=>?e3);have gb4:?b6 k4 b x v:=?l1 _ _ D.TOi2 gb3;apply ?No gb4;apply ?t (?Ck gb4 λk5 gb5 w5=>?_);replace gb5:?b6 k5 b x y:=gb5;apply ?t (?FO ?Dw);apply ?No gb5;apply ?OK wpAny_newTuple;(have sz:?Qz k5.objs.size:=by rw[w5.1,w4.1,w3.1,w2.1,w1.1]);have gz5:?NH k5 ?mN:=?kY _ _ ?Fl (?l1 _ _ D.i2z.symm (?du _ _ ?Fl (?hI _ _ ?Hq gz1)));have kp:?Nu (?zb->k5.get? c=?aF):=λc o c1 c2 c3 c4 e=>?kY _ _ c2 (?l1 _ _ c4 (?P3 c2 ?hI e));have f15:?yO i1 t1 ?u:=((f1.extBut ?du ?Ic).extBut ?l1 D.i12).extBut ?kY ?Ic;have f25:?yO i2 t2 ?U:=f2.extBut ?kY ?vR;have lz:z<k5.objs.size:=qc1 gz5;show ?MJ (Builtin.SmallTypes.ownedTupleHandOut ?dv ?Ia>>=_) _;apply ?f6;unfold Builtin.SmallTypes.ownedTupleHandOut;have gz6:?NH (k5.push { cls:=?jd,data:=?fK #v[x,y] }) ?mN:=?Nh gz5;apply ?t (qj2 gz6 ?a8 λk7 gz7 w7=>?_);replace gz7:?NH k7 ?wL:=gz7;apply qj2 gz7 ?a8 λk8 gz8 w8=>?_;replace gz8:?NH k8 ?wL:=gz8;have up:∀c o,c≠z->k5.get? c=?aF->k8.get? c=?aF:=λc o c1 e=>?Dn _ _ c1 (?AP _ _ c1 ?gq);have gt:?b6 k8 ?o5 x y:=?Dn _ _ ?xc (?AP _ _ ?xc ?dq);(have s8:k8.objs.size=k5.objs.size+1:=by rw[w8.1,w7.1,qi7]);rw[sz]at gz8 gt s8;apply qd6 ?Bp;show Q ?Ia _;rw[sz];exact k k8 gz8 (up _ _ D.TOz gb5) (f15.at λo e=>up _ o D.i1z e) (f25.at λo e=>up _ o D.i2z e) gt s8 λc o c1 c2 c3 c4 e=>up c o c1 (kp c o c1 c2 c3 c4 e)
def rH[?mb]{u v:Value}{Q:PySem.Fin->?ha}[?uE][?mU] (gx:?vu) (k:∀h' e,?jP->?wu) : ?MQ ?aw ?BF:=by ext Kb;ext KZ;ext LC;apply ?t (Qz hn ?vP ?uW gx λk2 e w2 he=>?_);let#[oe,ge,ce]:=he;have gz2:?NH k2 ?mN:=w2 _ _ ?Hq gz1;(have ne:e≠z:=λq=>by subst q;rw[gz2]at ge;cases ge;simp at ce);apply qj2 gz2 ?a8 λk3 _ w3=>k k3 e (λc o c1 _ c3 _ q=>?P3 c1 w2 q) #[oe,?du _ _ ne ge,ce]
def j9[?mb]{x y u v:Value}[?tw][?mU] [?Ly] (k:?R8 (?k ?dT)):?DX:=by ext LK;exact ?Mw (NZ D gz ga gb g1 g2 e1 e2 gx gy λh' a1 a2 a3 a4 a5 a6 a7=>qd6 (k h' a1 a2 a3 a4 a5 a6 a7))
def bI[?mb]{u v:Value}[?tw][?uE][?mU] (gx:?vu) (k:∀h',?jP->Q ?ac ?fU):?DX:=by ext LK;apply ?Mw (rH hn D gz ga gb g1 g2 e1 e2 gx λh' e kp he=>?_);let ?J6:=he;exact ?t (wpAny_isInstance (T:=?IA) (b:=true) ?J6 isSubtype_stop (qd6 (k _ kp)))
universe e9
noncomputable abbrev zt1(h:Heap)(a:Addr):Heap:=h.push ?Gv
noncomputable abbrev zt2[?mv]:Heap:=(zt1 h a).push { cls:=?R0 ?b2,data:=?QK ?bA }
noncomputable abbrev zt3[?mv]:Heap:=?P6 ?FQ (?z ?KC) (?z (zt1 h a).objs.size)
noncomputable abbrev zt4[?mv]:Heap:=?P6 ?xo ?b3 ?b3
noncomputable abbrev zt5[?mv]:Heap:=(zt4 h a b).push { cls:=?jF,data:=?d6 #v[?b3,?q9,?q9,?z (?FQ).objs.size,?z (?xo).objs.size] }
def RG(a b:Addr)(xs ys:?fP):Meets (Builtin.«zip.__new__» #[[?jF,?aH,?bA],[]]) (λ_ R s=>?AX/\?vj/\R (.ok (.ret (?z ?pt))) { s with heap:=?pq }) :=.of_wp λprog w A R s h=>by let ?tI:=s;let#[h1,h2,h]:=h;have hsub:=sub_zip;have g1:?yS (?D8 ?tI) a xs:=h1;have g2:?yS (?D8 #[hp.push ?Gv,g,d,tk,os]) b ys:=Heap.IsTuple.push h2 _;wp_walk using qo8 g1,qo8 g2;exact#[_,?i,h]
section
variable[?ip][?cP]{s:Shared}
def qK{a b:Addr}{xs ys:?fP}[?bc](h1:?AX)(h2:?vj) (k:∀h',?c9 h' ?of ?qN ?nS ?b3->?b6 h' ?qN ?dT (?z ?lO) → ?b6 h' ?nS ?b3 ?b3->?h5 ?aN a 0->?h5 ?lO b 0->h'.objs.size=?yG → (∀c o,?zI)->Q (?z ?of) ?fU):?MQ ?aw (?dw ?jF ?CP):=by apply callType_new F.called_zip ?aA (F.typeCall_zip_2 _ _) (F.newCall_zip_2 _ _) (λobj=>F.args_object_init_3 obj _ _) F.entry_zip_new (RG a b xs ys) #[h1,h2,?_];have z1:?xj=?lO:=qi7 ..;(have z2:?Ds=?qN:=by rw[qi7,z1]);(have z3:?Jh=?nS:=by rw[qi7,z2]);(have z4:?pt=?of:=by rw[qi7,z3]);(have z5:(?pq).objs.size=?yG:=by rw[qi7,z4]);have q5:?QG ?pt:=?dq;have q4:?QG ?Jh:=?Dk;have q3:?QG ?Ds:=?Ix;have q2:?QG ?xj:=?wh;have q1:?QG ?aN:=?Nh ?wh;show _/\_;rw[z2,z3,z4]at q5;rw[z1,z2]at q3;rw[z3]at q4;rw[z1]at q2;rw[z4];exact#[#[_,q5,?i],k _ q5 q3 q4 #[_,q1,?i,?i] #[_,q2,?i,?i] z5 λc o x=>?Nh (qa6 _ (qa6 _ (qa6 _ (qa6 _ x))))]
universe e9
def tup_cell{h:Heap}{j t:Addr}{n:Nat}(g:?hL j t n):∃o,h.get? j=?aF/\∀v,o.data≠.cell v:=by let#[o,q,_,d]:=g;exact#[o,q,λv z=>by rw[d]at z;cases z]
abbrev VB[?be](a b:Addr):It:=qW (SqT K) ?yt a b
def OA[?bM][?aB][?iy][?uJ](a b z TI TO i1 i2:Addr)(D:?DF z TI TO i1 i2 a b) :
 Xi P w K ?Hs ?m3 ?Cr z (λi h=>?OJ i i) where
 mem:=qb4 ..
 obj:=λi h ?Dv=>DQ hz hTI hTO ?vH ?B7
 keep:=λi h h' ?Dv k=>by
  let#[k1,k2,k3,k4,k5]:=of5 k;exact#[k1 _ hz,k2 _ hTI,#[u,v,k3 _ hTO],h1.at λo q=>k4 o q,h2.at λo q=>k5 o q]
 item:=by
  ext dh;let ?zY:=st;let#[xs,ys,x,y,Yq,PN,hx,hy]:=hg;ext LN;let ?gl:=ra.get hx;let#[v,hv,rv]:=rb.get hy
  exact j9 D hz hTI hTO h1 h2 ?wQ ?Gs (x:=u) (y:=v) (by simpa using hu) (by simpa using hv) λh' hz' uF jG h2' htup hsz hk =>
   GA (Y:=(VB X.K a b).yld i H) (T:=λh=>?OJ ?l ?l) D I hf hz hTI hTO ?vH ?B7 ru rv hz' uF htup hk (λh3 Sz q1 q2 q3=>#[q1,q2,q3,jG.at λo e=>?Ov i1 D.i1z e,h2'.at λo e=>?Ov i2 D.i2z e]) λhn=>#[_,x,y,hn,?i,?i,λzs q=>by rw[?G9 q Yq];exact hx,λzs q=>by rw[?G9 q PN];exact hy]
 done:=by
  ext dh;let ?zY:=st;let#[xs,ys,Yq,PN,hx]:=hg;ext LN;have la:=ra.length;have lb:=rb.length;apply bI ?eY D hz hTI hTO h1 h2 ?wQ ?Gs ?_ λh' hk=>#[?i,?ND ?Cr (λc o hc e=>?_)]
  . simp;ext d
  . let#[n1,n2,n3,n4,n5]:=Ai2 hc;exact hk c o n1 n3 n4 n5 e
 self:=?OF qw5 (st.1)
inductive VJ[?be][?mx][?uI]:Prop| mk:∀a b,(vs=?CP)->((∃xs,?Rb H1))->((∃ys,SqT K H1 b ys))->(R ?m3 H1)->?F5
abbrev A57[?be](ta:TA):TI:=?SR ?F5
def LJ:?wt ?g5=?k ?jF:=?f7
def WY{X:Cx}[?aB][?iy][?uJ]{a b:Expr}{ta:TA}{p pos:Pos}(hg:Gl X ?g5)(hm:?dn ?g5=none)(ha:PA X ?m4 ta)[?me](hs:?Mj ?m4 [?sU,?jt])(hs2:?Mj [b] [?jt]) : PI X ?Hs (?NA ?g5 ?m4) (A57 K ta):=by subst hK;ext mp;apply ?Rx LJ;let#[la,lb,e,#[xs,Yq],#[ys,PN],q]:=q1;subst e;cases r1 with| cons ra rr =>cases rr with| cons rb rr =>cases rr;cases ra;cases rb;let#[ia,_,pa,_]:=?Ab Yq;let#[ib,_,pb,_]:=?Ab PN;(have a1:?Qn la:=by let ?ur:=pa;exact ?lM);(have a2:?Qn lb:=by let ?ur:=pb;exact ?lM);apply qK (show ?zh la ?Da from pa) (show ?zh lb ?vF from pb) λh' hz hTI hTO hi1 hi2 hsz hk=>?_;apply qw5 hz #[?CN,[?CN,?NC 2,?NC 3,s1.heap.objs.size,?FU],_,_,H1,?i,?SO hk,OA la lb _ _ _ _ _ (zipApart_new a1 a2),#[hz,hTI,#[_,_,hTO],hi1,hi2],I1.fp5,q]
section
variable{g:TG}{tc:TT}[?md]
def QI[?Kh] (hs:?SX (?uf->?PZ ?IO)) (hd:?GA):?NY ?m3 tc:=dH (NE:=?yt) ?g ?g ?g Pv h0 hl hs hd
universe e9
section
variable{κ:Type}[?vy κ]
abbrev P7[?ij]:?g3:=(kvs.find? ?oJ).map (·.2)
abbrev Nb[?ij](v:V):?ft :=if ?jy=true then ?dG (?NO (?bE,v)) else kvs++[(k,v)]
abbrev aD[?ij]:?ft:=kvs.filter λkv=>?bT (?bE≠k)
def Zm[?M5](e:?bR):?JC=?k p.2:=?Dm
def Zn[?M5](e:¬?bR):?JC=P7 r k:=?Dm
def GD(k:κ):∀kvs:?ft,?jy=(?cn).isSome| []=>rfl| p::r=>by rw[qo7];ext gP;{simp only[Zm e,qf8 e,Bool.true_or,Option.isSome_some]};rw[Zn e,qm7 e,Bool.false_or];exact GD k r
def Q2[?ij](v:V):?yl<=?QX 1:=by unfold Nb;split;{rw[qa3];ext d};rw[qb7,qd5,qi5];ext d
def Ol.isSome_eq[?j4]{u:?hW}(r:Ol o u):o.isSome=u.isSome:=by
 cases o with
 | none=>cases u with
   | none=>rfl
   | some _=>ext mh
 | some _=>cases u with
   | none=>ext mh
   | some _=>rfl
def Ol.getD[?j4]{u:?hW}{d:V}{d':Value}(r:Ol o u)(rd:?b0 d d'):?b0 ?DH (u.getD d'):=by
 cases o with
 | none=>cases u with
   | none=>exact rd
   | some _=>ext mh
 | some _=>cases u with
   | none=>ext mh
   | some _=>exact r
def KV.val[?em](k:κ):Ol ?cn ?kE:=by unfold KV at r;induction r with| nil=>ext gQ| @cons p q ps qs h t ih =>let ?ef:=h;ext gP;{have e':q.1=k:=?gm;(have b:?vD=?k q.2:=?K5);rw[Zm e,b];exact h2};ext tl;(have b:?vD=?ni qs k:=?K5);rw[Zn e,b];exact ih
def KV.any[?em](k:κ):?jy=?HU:=by unfold KV at r;induction r with| nil=>rfl| cons h t ih=>rw[qo7,qo7,ih,h.1]
def KV.repl[?em](k:κ)[?j0][?ev] : KV ?CY (vs.map (?NO (?bE,u))):=by unfold KV at r ⊢;induction r with| nil=>exact ?aV| @cons p q ps qs h t ih =>rw[qd2,qd2];apply ?Ef;let ?ef:=h;ext gP;{rw[?bs,?w ?gm];exact#[h1,ry]};rw[?bt,?o ?sV];exact ?ef
def KV.put[?em](k:κ)[?j0][?ev]:KV ?z6 (?sf vs k u):=by unfold Nb stored;rw[r.any k];by_cases e:?HU=true;{rw[?bs,?bs];exact ?C6};rw[?bt,?bt];exact ?G0 r #[?i,ry]
def KV.drop[?em](k:κ):KV ?oZ (without vs k):=by unfold KV at r ⊢;unfold aD without;induction r with| nil=>exact ?aV| @cons p q ps qs h t ih =>let ?ef:=h;rw[qj1,qj1];ext gP;{(have a:¬?GY:=?Bu);(have b:¬?An:=by simp[?gm]);rw[?o a,?o b];exact ih};ext tl;(have a:?GY:=?Bu);(have b:?An:=by simp[e']);rw[?w a,?w b];exact ?bQ ?ef ih
def KV.keys[?em]:?dG (·.1)=vs.map (·.1):=by unfold KV at r;induction r with| nil=>rfl| cons h t ih=>rw[qd2,qd2,ih,h.1]
def KV.length[?em]:kvs.length=vs.length:=?E4 r
def UL[?ij]:(?oZ).length<=kvs.length:=?K0
universe e9
def kV_is[?bM]{k:Key}{u:Value}(r:?kn):?ul:=by cases k with| inl i=>let#[t,e]:=(show ?Cl from r);subst e;exact ID P w i t| inr x=>let#[t,e]:=(show ?ww from r);subst e;exact IC P w x t
def cT[?bM]:∀{ks:?eP}{us:?on},Vals ?xg us->ItemsAre ?fF ks us| [],_,r=>by rw[qr7]at r;cases r;exact ?aV| k::ks,_,r=>by rw[qd2]at r;cases r with| cons h t=>exact ?bQ (?jl h) (cT t)
noncomputable abbrev KT(H:Hp):?i1->?oq->Prop:=?og λp q=>p.1=q.1/\H q.2.1=?PQ (p.1.map kV)/\?b0 p.2 q.2.2
def KT.val{H:Hp}[?mW](k:?eP):Ol ?cn (?FP (·.2)):=by induction r with| nil=>ext gQ| @cons p q ps qs h t ih =>let#[h1,_,h2]:=h;ext gP;{have e':q.1=k:=?gm;(have b:?wI=?k q.2:=?JU);rw[Zm e,b];exact h2};ext tl;(have b:?wI=atKey qs k:=?JU);rw[Zn e,b];exact ih
def KT.repl{H:Hp}[?mW](k:?eP)[?j0][?ev] : KT H ?CY (xs.map (putAt k u)):=by induction r with| nil=>exact ?aV| @cons p q ps qs h t ih =>rw[qd2,qd2];apply ?Ef;let ?Ag:=h;unfold putAt;ext gP;{rw[?bs,?w ?gm];exact#[h1,h2,ry]};rw[?bt,?o ?sV];exact ?Ag
def KT.put{H:Hp}[?mW](k:?eP){b:Addr}[?j0](hb:?r7)[?ev] : KT H ?z6 (storedH xs k b u):=by (have e:?jy=?F2:=by rw[GD,(r.val k).isSome_eq,Option.isSome_map]);unfold Nb storedH;rw[e];by_cases q:?F2=true;{rw[?w q,?w q];exact ?C6};rw[?o q,?o q];exact ?G0 r #[?i,hb,ry]
def KT.keeps[?ew][?mW](ht:∀b ys,H b=?PQ ys->H' b=?PQ ys):KT H' kvs xs :=Paired.mapP r λ_ _ z=>#[z.1,ht _ _ z.2.1,z.2.2]
section
variable[?bM]{H:Hp}{h:Heap}{a:Addr}
def zD{u:HO}[?gS](e:Rd H a u):?O7 u:=e.ok ok
def Vp[?bL][?gS][?mr]:?wn :=?Ra ?b8
def MZ[?bL][?gS][?is]:?wn:=Vp ok ?GU
def EV{ks:?eP}[?gS](e:?an=?k ?zH):?xu h ks a:=by let#[_,its,r,o,h1,h2,_,n,h3]:=(show ?O7 ?zH from ok a _ e);exact#[o,?he,n,h1,h2,h3,by simpa using cT r]
def iM{kvs:?i1}[?gS](e:?pe):?zd:=by let#[z,y,xs,r,o,es,ep,h1,h2,h3,h4,h5]:=(?Ra ?t3);apply#[z,y,xs,r,o,es,ep,h1,h2,h3,h4,?ju,h5];(have all:∀{l:?i1}{m:?oq},KT H l m->∀x∈m,?xu h x.1 ?f5:=by intro l m q;induction q with| nil=>intro x hx;exact nomatch hx| @cons p q ps qs hq t ih =>intro x hx;rcases qe4.mp hx with e | hx;{subst e;exact EV ok (by rw[←hq.1];exact hq.2.1)};exact ih x hx);exact all r x hx
def Bc1{kvs:?i1}[?gS](e:?v5):?zd:=iM ok ?GU
universe e9
abbrev DGet(H:Hp)(a:Addr)(y:V)(r:?g3):Prop :=(∃kvs k,?iW/\y=?dW/\r=?cn)\/∃kvs k b,?pe/\y=?bA/\?r7/\r=?cn
abbrev Ar8(H:Hp)(a:Addr)(y v:V)(H':Hp):Prop :=(∃kvs k,?hm/\y=?dW/\?yw/\H'=?Na a (.dK ?ot)) ∨ ∃kvs k b,?v5/\y=?bA/\?r7/\?yw/\H'=?Na a (.dT ?ot)
section
variable[?cO]{y v:V}{u r:Value}[?j4][?cP]
def Bo.big[?ah]:?NM sysModules:=by have h:?NM mainGlobals:=(I.mod.glob.keeps I.bk).lt;exact qv8 ?aA h
def QH[?bc][?uC][?ah](g:?Qx H ?d2)[?ev](h:∀w' s',?k2->?Ho) : ?MQ ?cw (?sn ?aH u):=by ext LP;{subst ey;let ?dB:=?d5;let ?pG:=?QE ?EW;exact wpAny_getItem_of ?iI ?z5 hw ?A0};ext L0;let ?pG:=?sN (v:=v) (o:=?FP (·.2)) ?EW;let#[p,hp,hp2]:=qh1.mp hw;apply wpAny_getItem_heap ?qM ?pw dd hp ?_;rw[hp2];exact ?A0
def Zf{h':Heap}{t':Nat}{ob:HO}[?ah](mu:Mut ?an)(hs:?oW a ?ai h')(he:?qI)(new:?da ?eN X.w ?y6 h' a ob) : ?Mg ?y6 ({ s with heap:=h',toks:=t' }) :=I.write (x:=a) (e:=a) mu ?ss (λb q hb z=>(hs.2 b hb).trans z) he new
def aE[?bM]{H':Hp}{h':Heap}[?bL][?u6](z:?mF)(hd:?hG)(rel:?fV)(dd:?BY ?fF a vs) : ?da P w H' h' a ?b8:=?dB
def qF{H':Hp}{Q:Unit->?ha}[?uC][?ah](g:Ar8 H a y v H')[?ev](rv:?b0 v r)(h:∀s',?Em->Q () s') : ?MQ ?cw (setItem ?aH u r):=by rcases g with⟨kvs,k,e,ey,l,eH⟩|⟨kvs,k,b,e,ey,eb,l,eH⟩;{subst ey eH;let ?dB:=?qQ;(have hz:?N5 vs.length:=?t7);(ext LA);apply wpAny_setItem_pairs (hsz:=hz) ?iI dd ?EO;have he:?qI:=?qn;exact ?PI hl (rel.put k rv)};subst ey eH;cases ?JS;let ?Je:=Bc1 ?bl e;(have hz:?N5 xs.length:=by rw[←?E4 rel];exact z);(ext LA);apply wpAny_setItem_heap (hsz:=hz) ?qM ?pw dd ?EO;let#[q,es,ep,hq,h2,h3,h4,_,h5]:=RC;apply Zf I ?ls hs #[q,hq] #[hl,hd,_,(rel.put k eb rv).keeps λc ys ec=>?_,q,es,ep,hq,h2,h3,h4,h5];rw[Al (Fn ec e ?E1)];exact ec
universe e9
section
variable[?cO][?bL]{k:Key}{u:Value}[?cP]
def Bc3{v:V}{more:?on}[?bc][?ah][?is](ry:?kn)(l:?cn=?d2)(hm:more=[]\/∃x,more=[x]) (h:∀w' s',?Mg (upd H a ?Fv) s'->?Ho):?MQ ?cw (?dw ?FX ?Db):=by let ?dB:=?qQ;let ?pG:=?QE ?zF;ext Kc;(have ha:argsOk ?x3 #[?Db,[]]:=by rcases hm with q|⟨x,q⟩;{subst q;exact PySem.F.args_dict_pop_2 _ _};subst q;exact ?HX);apply ?iU qv5 ?iB ?GE ha (meets_dict_pop_there ?c3 a ?iI more hm hp) #[vs,w',dd,?t7,hw,?Q9 (h w' _ ?_ rw')];have he:?qI:=?qn;exact ?PI (qa5 (UL kvs k) z) (rel.drop k)
def Ap4{r:Value}[?bc][?ah][?is](ry:?kn)(l:?F1)(h:∀s',?k2->Q r s') : ?MQ ?cw (?dw ?FX ?uw):=by let ?dB:=?qQ;have hn:?kE=none:=Ol.none_of ?zF;ext Kc;exact ?iU qv5 ?iB ?GE ?HX (meets_dict_pop_default ?c3 a ?iI hd hp r) #[vs,dd,hn,h _ ?h1]
def Bc4[?bc][?ah][?mr](h:∀t s',?k2->Q (?y ?hK t) s'):?MQ ?cw (?dw ?Dl ?jh):=by let ?dB:=?d5;apply call_len_dict hd dd (by ext it;rw[sizeLine_eq]at z;ext d) ?_;ext it;exact h _ _ ?h1
universe e9
abbrev NoSl(i:Expr):Prop:=∀ov iv,?Cn i ?b9 ov iv=operate [ov,iv] (?sn ov iv)
def WI[?ip][?cP]{s:Shared}{env:Env}{value slice:Expr}{pos:Pos}{T id:String}[?bc] (hl:?CE (?b2 T) "__getitem__"=pure (?k (?dU id))) (hs:NoSl ?k1) (h:?C ?aw A (?b1 ?dD env) (λo s₁=>?C ?aw A (?b1 ?k1 env) (λi s₂=>s₂.TypeIs o T/\?C ?aw A (?sn o i) Q E s₂) E s₁) E s) : ?MQ ?aw (?b1 (?pQ ?dD ?k1 pos) env):=by apply Subscript_ (qn7 h (λo s₁ h₁=>qn7 h₁ (λi s₂ h₂=>?_) ?rj) ?rj);let#[hT,h₂]:=h₂;unfold subscriptTail;apply ?f6;rw[getitemInPython_of_ne hT.not_modules];apply ?t (wpAny_specialOf hT hl ?_);(have fin:?C ?aw A (?Cn ?k1 ?b9 o i) (λr s₃=>?C ?aw A (letTemporaryGo ?dD o r>>=λ_=>pure r) Q E s₃) E s₂:=by rw[hs o i];exact wpAny_operating (qn7 h₂ (λr s₃ h₃=>?t (wpAny_letTemporaryGo (qd6 h₃))) ?rj));first| exact ?vq| exact ?t ?vq| exact ?Cy
def IM[?cO]{y:V}[?j4][?ah](g:?GM):?zB:=by rcases g with⟨kvs,k,e,_,_⟩|⟨kvs,k,b,e,_,_,_⟩;{let#[_,_,vs,_,dd]:=?d5;exact dd.typeIs};let#[_,_,xs,_,dd]:=?ps;exact dd.typeIs
inductive VE(Q:VK)(x:V)(y:V)(H2:Hp):Prop| mk:∀a v,?lW->(?Qx H2 ?d2)->(Q v H2)->?xy
abbrev Ay9(td ty:TE):TE:=λσ H Q=>?N6 (ty σ H1 λy H2=>?xy)
inductive VF(D:Ends)(σ:St)(v:V)(x:V)(y:V)(H3:Hp):Prop| mk:∀a H4,?lW->(Ar8 H3 a y v H4)->(D.nx σ H4)->?yg
abbrev A00(td ty tv:TE):TS:=λD σ H=>tv σ H λv H1=>td σ H1 λx H2=>ty σ H2 λy H3=>?yg
section
variable{X:Cx}{o i e value:Expr}{pos pos' tpos:Pos}{td ty tv:TE}
def Y6[?to](hi:?uP)(hs:NoSl i):?S5 (?pQ o i pos) (Ay9 td ty):=by ext iq;apply WI PySem.F.slot_dict_getitem.lookup hs (Eh ?EN λu s1 ?xU=>Eh (?N3 hi) λiv s2 _z=>?_);let#[y,H2,I2,ry,a,v,ex,g,q2]:=_z;subst ex;obtain rfl:u=?cu a:=rx;exact#[IM I2 g,QH hu I2 g ry λw' s3 I3 rw'=>#[v,H2,I3,rw',q2]]
def Y5[?to](hi:?uP)(hv:?wR)(hs:?Oi ?FC) : ?PX ?FC (A00 td ty tv):=by intro Ag s σ H D I h;apply wpAny_Assign_Subscript (Eh (?Ne hv) λr s1 #[v,H1,I1,rv,q1]=>Eh (?N3 ho) λu s2 #[x,H2,I2,rx,q2]=>Eh (?Nt hi) λiv s3 _z=>?_) hs;let#[y,H3,I3,ry,a,H4,ex,g,q3]:=_z;subst ex;obtain rfl:u=?cu a:=rx;exact qF hu I3 g ry rv λs4 I4=>#[σ,H4,I4,q3]
universe e9
def dk_empty[?bM]{H:Hp}(h:Heap)(hb:sysModules<h.objs.size):?da P w H (h.push ?vk) ?KC ?h3 :=#[?Q,?S2 hb,[],?aV,?KJ h]
abbrev Ae8:TE:=λ_ H Q=>∀p,?cf->Q ?aC ?Jw
section
variable[?n1]
def Jz:?S5 (.Dict [] [] pos) Ae8:=?SI wpAny_Dict_empty #[?dT,_,?NL ?h3 ?vn ?xp,?i,h _ ?kO]
universe e9
abbrev tPairs:?h7->St->Hp->?xz->Prop| [],_,H,Q=>Q [] H| (tk,tv)::r,σ,H,Q=>tk σ H λx H1=>tv σ H1 λy H2=>?rH r σ H2 λps H3=>Q ?DG H3
noncomputable abbrev VV:?Nd V V->?Nd Value Value->Prop:=?og λp q=>?b0 p.1 q.1/\?b0 p.2 q.2
abbrev PPs(X:Cx)(pos:Pos)(keys:?q3)(values:?cx)(WB:?h7):Prop :=∀(Ag:Bl) (s:Shared) (σ:St) (H:Hp) (Q:?xz),?C5->?rH WB σ H Q → ?C ?cw X.A (evalPairs (pairTrees keys ?qr ?P pos)) (λvs s'=>∃ps H',?Em/\VV ps vs/\Q ps H') X.xe s
def mK[?n1]:?Qd [] [] []:=λAg s σ H Q I h=>pairTrees_nil_walk #[[],H,I,?aV,h]
def d6[?n1]{k v:Expr}{ks:?q3}{vs:?cx}{tk tv:TE}{WB:?h7}(hk:?S5 k tk)(hv:?S5 v tv)(hr:?Qd ks vs WB) : ?Qd (?k k::ks) (v::vs) ((tk,tv)::WB):=?SI pairTrees_cons_walk (Eh (?Ne hk) λu s1 ?xU=>Eh (?N3 hv) λw2 s2 ?rG =>Eh (?Nt hr) λws s3 #[ps,H3,I3,rel,q3]=>#[?DG,H3,I3,?bQ #[rx,ry] rel,q3])
abbrev Ii(kvs more:?bi):?bi:=more.foldl (λacc kv=>Nb acc ?bE kv.2) kvs
def KV.merge:∀{more:?bi}{rs:?kK}[?bL][?u6],KV more rs->?fV->KV ?sL (merged vs rs):=by intro more rs kvs vs r;unfold KV at r;induction r generalizing kvs vs with| nil=>intro q;exact q| @cons p q ps qs h t ih =>intro r0;(have e:KV ?hh (?sf vs q.1 q.2):=by have:=r0.put p.1 h.2;rw[←h.1];ext aZ);exact ih e
def Nd:∀(more kvs:?bi),(?sL).length<=?QX more.length| [],kvs=>by show kvs.length<=?QX 0;(ext d)| p::r,kvs=>by have h1:=Nd r ?hh;have h2:=Q2 kvs p.1 p.2;show(Ii ?hh r).length<=_;rw[qd5];ext d
def aK[?bM]:∀[?bL]{ws:?Nd Value Value},VV (?dG ?G2) ws->∃rs,Carries ?fF ws rs/\KV kvs rs| [],_,r=>by rw[qr7]at r;cases r;exact#[[],True.intro,?aV]| p::kvs,_,r=>by rw[qd2]at r;cases r with| @cons a b as bs h t =>let#[rs,c,q]:=aK (P:=P) (w:=w) t;let ?H7:=b;exact#[(p.1,b2)::rs,#[?jl h.1,?i,c],?bQ #[?i,h.2] q]
abbrev Ay8(WB:?h7):TE:=λσ H Q=>∀p,?cf->?rH WB σ ?Jw λps H2=>H2 p=?k ?h3/\∃kvs:?bi,ps=?dG ?G2/\kvs.length<=15/\Q ?aC (upd H2 p ?kd)
def mL[?n1]{keys:?q3}{values:?cx}{WB:?h7}(h:?Qd keys ?qr WB)(hall:keys.all (·.isSome)=true)(hl:keys.length=values.length)(h0:keys≠[]) (h15:keys.length<=15):?S5 (.Dict keys ?qr pos) (Ay8 WB):=by intro Ag s σ H Q I q;have hn:=?vW (qa4 ?aN);have I1:=?mQ (a:=s.heap.objs.size) (o:=?h3) (h':=?lp) (t':=s.toks) ?vn ?m ?xp;apply wpAny_Dict_walk (knd:=?c3) hall hl h0 h15 (Eh (h Ag _ σ _ _ I1 (q _ hn)) λws s2 _z=>?_);let#[ps,H2,I2,rel,e,kvs,ep,lk,q2]:=_z;subst ep;let#[rs,c,rk]:=aK (P:=X.prog) (w:=X.w) rel;let#[z,hd,vs0,r0,dd]:=MZ I2.hok e;cases r0;apply#[rs,c,dd,?Q9 #[?dT,_,?_,?i,q2]];(have hz:?Cs:=by have h1:=?Ct;rw[qi5]at h1;rw[sizeLine_eq];ext d);have he:∃q,?iK ?aN=?k q:=?qn;exact Zf I2 ?ls hs he (aE hz hd (rk.merge ?aV) RC)
structure M2(X:Cx)(o:Expr)(m:Str)(apos:Pos)(e f:Expr)(cpos:Pos):Prop where
 base:?rV o m ?P ?kI=?kI
 few:((?IL).all (λx=>!x.1)&&(?Dr ?eL ?IW).all (λx=>x.1.isSome)
  && ?bT ((?jM:?cx).length+([]:?D7).length+(if ([]:?D7).isEmpty then 0 else 1)<30))=true
 line:?Dc
 trees:?IL=[?GC,(?b9,?RK f)]
abbrev IsD(H:Hp)(a:Addr):Prop:=(∃kvs,?iW)\/∃kvs,?pe
def tY[?cO][?ah](d:IsD H a) : ?zB/\(∀b,?cu a=?bA->∃ob,?xW/\ob.dict=none)/\?hG:=by rcases d with⟨kvs,e⟩|⟨kvs,e⟩;{let#[_,hd,vs,_,dd]:=?d5;apply ?JD;cases q;let ?GN:=dd;exact ?EH};let#[_,hd,xs,_,dd]:=?ps;apply ?JD;cases q;let ?GN:=dd;exact ?EH
section
variable[?cO]{y d:V}{u r:Value}[?j4][?cP]
def Ap7[?bc][?uC][?ah](g:?GM)[?ev](rd:?b0 d r)(h:∀w' s',?k2->?b0 ?DH w'->Q w' s') : ?MQ ?cw (?dw (?dU "dict.get") ?uw):=by ext LP;{subst ey;let ?dB:=?d5;apply ?Qf (meets_dict_get_default ?c3 a ?iI hd r) #[_,?z5,?Bm];rw[l];exact ?Qk k};ext L0;apply ?Qf (meetsH_dict_get_default (?C3 ?c3) a b hd r) #[?qM,k,xs,?pw,dd,?Bm];rw[l];exact ?Qk k
universe e9
inductive ItDGet2(ty:TE)(tx:TE)(σ:St)(Q:VK)(x:V)(H1:Hp):Prop| mk:∀a,?lW->?yi->(?RR (∃o,?Qx H3 o/\Q (o.getD z) H3))->?C4
abbrev Ae9(td ty tx:TE):TE:=λσ H Q=>?N6 ?C4
abbrev Ae7(td ty tx:TE):TE:=λσ H Q=>?N6 (∃a,?lW/\?yi/\?RR (∃kvs k,H3 a=?k ?b8/\y=?dW ∧ (∀v,?cn=?d2->Q v (upd H3 a ?Fv))/\(?F1->Q z H3)))
section
variable{X:Cx}{o e f:Expr}{apos cpos:Pos}{td ty tx:TE}
def Qr[?to](he:?DY)(hf:?JB)(m:?QO "get"):?NK "get" Ae9:=by ext iq;apply ?Od qv6 PySem.F.type_dict_get;ext Km;apply ?R7 (λfv s3 #[z,H3,I3,rz,ov,g,q3]=>?ns);exact Ap7 hu I3 g ry rz λw' s4 I4 rw'=>#[_,H3,I4,rw',q3]
def SJ(ho:?AL)(he:?DY)(hf:?JB)(m:?QO "pop"):?NK "pop" Ae7:=by ext iq;apply ?Od qv5 PySem.F.type_dict_pop;ext Km;apply ?R7 (λfv s3 #[z,H3,I3,rz,kvs,k,ea,ey,q3,q4]=>?ns);subst ey;cases l:?cn with| some v=>exact Bc3 I3 ea ry l (?X #[fv,?i]) λw' s4 I4 rw'=>#[v,_,I4,rw',q3 v l]| none=>exact Ap4 I3 ea ry l λs4 I4=>#[z,H3,I4,rz,q4 l]
universe e9
section
variable[?cO][?bL][?cP]
def uO[?bc][?ah][?mr](h:∀p s',?cf->?Mg ?I1 s'->Q ?aC s'):?MQ ?cw (?dw ?m6 ?jh):=by let ?dB:=?d5;apply kt_call_dict hd dd ?t7 (?Q9 ?_);apply h _ _ ?kO (?NL ?b8 (λb q hq=>?_) (aE z ?yq rel RC));exact(hs.2 b (?Pg hq)).trans (?Nh hq)
universe e9
section
variable[?cO][?j0][?cP]
universe e9
section
variable{X:Cx}
def QL:Fl X ?Dl (?S1 (∃a kvs,xs=[?iL a]/\?hm/\Q ?Ah H)):=by ext ih;let#[a,kvs,?i,ha,q]:=h;ext tv;exact Bc4 I (?S ha) λt s' I'=>#[?Ah,H,I',?dy,q]
universe e9
universe L2
namespace L2
open PySem PySem.Spec PyProof.Rows PySem.SeqAt
abbrev cK[?bd]:?bi:=?mD λp=>(Sum.inl p.1,?aR p.2)
abbrev Cr[?bd](k:Int):?hp Int:=(ms.find? ?qG).map (·.2)
universe L2
namespace L2
open PySem PySem.Spec PyProof.Rows
section
variable[?ip][?cP]
def eS:?CE ?sz ?pM=pure ?ac:=am_miss_of_fast ?lk
def r6{s:Shared}{a:Addr}{xs:?fP}{k:Nat}[?tw] (hx:?gW a=?PP xs k) (hA:?ol) (h:∀h' tk,(?Pd (?iK b=?aF))->Q ?ac ?k0) : ?MQ ?aw (getAttr? ?aH ?pM):=by let ?tI:=s;have hT:∀tk',?PS #[hp,g,d,tk',os] ?aH ?g2:=λ_=>#[_,hx,?i];have f1:=sub_AttributeError;have f3:=F.slot_list_getattribute.lookup;have f4:=F.slot_list_getattribute.bind ?aH;have f5:=am_list_getattr_none;unfold getAttr? getAttrBy? getAttrBy;(repeat (any_goals (first | assumption | exact hT _ | ((with_reducible show ?MJ (?dw (Value.builtin "list.__getattribute__") _ _) _);apply ?xP F.slot_list_getattribute (hT _) am_entry_list_getattribute (F.args_list_getattribute_2 _ _) (meets_getattribute_miss_list a xs k #v[] ?pM _ eS ?f7) #[hx,hA,λh' tk' e hx'=>?_]) | wp_step)));let#[t',u',he]:=hx'.there;show ?MJ (getattributeRaised _ _ _ _ _ _ _) _;unfold getattributeRaised;(repeat (any_goals (first | assumption | wp_step)));exact h _ _ hx'.keeps
def Mo:plainId ?pf=true:=?f7
def X4:?wS table ?pf=?k Builtin.«dict.update.loop»:=entryFor_of_fast ?lk
variable{KT:Type}[?vy KT]{knd:KeyKind prog w KT}
abbrev Be7(d it:Addr)(h0 h:Heap):Prop:=∀b o,b≠d->b≠it->h0.get? b=?aF->h.get? b=?aF
def QD(hh:?ol){d it l:Addr}{items:?fP}{prs:?M ?qW}(hl:prs.length=items.size)(ndi:d≠it)(nld:l≠d)(nli:l≠it){h0:Heap}(hL:h0.IsList l items) (hP:?S0 ?J9 (∃(p:?qW) (t:Addr) (key:Value),?F9/\x=?hR/\t≠d/\t≠it/\?P8 h0.IsTuple knd.is)) {R:Result->?ha} : ∀(n i:Nat) (s:Shared) (acc:?M ?qW),prs.length-i=n->i<=prs.length->?N5 (acc.length+n)->s.heap.DictOf knd d acc->s.heap.IsListIter it l i->Be7 d it h0 ?ai → (∀h' tk,?BY knd d (merged acc ?s2)->Be7 d it h0 h'->R (.ok (.ret ?b3)) ?k0) → codeAny ?aw A (?dU ?pf #[[?z d,?fv,?rm i,?b3],[]]) R s:=by intro n;induction n with| zero =>ext Kf;(have hx:?J9=none:=?i0);ext Lm;apply ?t (wpAny_pyNext_list_end hh hit hLs hx λh' he=>?_);show ?MJ (Builtin.Dict.addKeywords d []>>=_) _;apply ?t ?Dw;(have e:?s2=[]:=?i0);have k':=k h' s.toks (by rw[e];exact hd.extBut he ndi) λb o n1 n2 q=>he b o n2 (hb b o n1 n2 q);exact k'| succ n ih =>ext Kf;have hlt:i<items.size:=O9m;let#[p,t,key,hp,ex,ntd,nti,hT,hkey]:=hP i ?zc ?pA;ext Lm;apply ?t (wpAny_pyNext_list_item hit hLs (x:=?zc) ?pA λh1 Bv4 hs1=>?_);rw[ex];have hT1:h1.IsTuple t #v[key,p.2]:=let ?Dp:=hT;#[o,(hs1.2 t nti).trans (hb _ _ ntd nti ho),r];have hd1:?Hz knd d acc:=hd.sameBut hs1 ndi;let#[o,ho,hc,m,hdat]:=hT1;apply ?OK qt6;apply ?OK wpAny_tryCatch;unfold Builtin.Dict.pairItems;apply ?S7 (?PS ?Aj ?hR "tuple") #[o,ho,hc];rw[?w ?aA];apply ?t (qo2 ho hdat ?e3);show ?MJ (holding [key,p.2] (dictSet d key p.2)) _;apply qt6 (wpAny_dictSet_pairs (s:=?Aj) hkey hd1 (λh2 hd2 hs2=>?_) ?g);apply ?Or _;(have e2:?s2=p::?FY ?l:=by rw[qt8 ?h];congr 1;rw[qa0 ?h]at hp;exact qa9 hp);have hl2:=stored_length_le acc p.1 p.2;apply ih ?l { s with heap:=h2,toks:=s.toks+1 } (?sf acc p.1 p.2) ?g ?g ?g hd2 ?_ (λb o' n1 n2 q=>?_) (λh' tk hd' hb'=>k h' tk (by rw[e2];exact hd') hb');{let#[oi,hoi,ri]:=Bv4;exact#[oi,(hs2.2 it (?sw ndi)).trans hoi,ri]};exact(hs2.2 b n1).trans ((hs1.2 b n2).trans (hb b o' n1 n2 q))
universe e9
def vals_pair{x y:V}{us:?on}(r:Vals [x,y] us):∃a b,us=?m4/\?b0 x a/\?b0 y b:=by cases r with| cons h1 r =>cases r with| cons h2 r =>cases r;exact#[_,_,?i,h1,h2]
def HD[?bM]{H:Hp}{h:Heap}(hok:?wE):∀[?M1],?Gq->?Bw → ∃prs:?kK,KV kvs prs/\prs.length=ts.length/\∀(i:Nat) t,?sv->∃(p:?DA) (key:Value),?F9/\?P8 h.IsTuple ?w2| [],[],_,_=>#[[],?aV,?i,λi t e=>?sD]| [],_::_,hl,_=>?yh| _::_,[],hl,_=>?yh| t::ts,kv::kvs,hl,hk=>by (let#[prs,h1,h2,h3]:=HD hok ts kvs (by simpa using hl) λi t e=>by let ?Jn:=hk ?l t ?ck;exact#[kv',?gz,e2]);let ?Jn:=hk 0 t ?i;(have e1':kv=kv':=?gz);subst e1';let#[_,its,rv,o,ho,hc,hdn,n,hd]:=hok t _ e2;let#[a,b,?i,ra,rb]:=vals_pair rv;apply#[(?bE,b)::prs,?bQ #[?i,rb] h1,by simp[h2],λi t' e=>?_];cases i with| zero =>(have:t=t':=?ck);subst this;exact#[(?bE,b),a,?i,#[o,ho,hc,n,hd],?jl ra]| succ i =>let#[p,key,q1,q2,q3]:=h3 i t' ?ck;exact#[p,key,by simpa using q1,q2,q3]
inductive NU[?u9]:Prop| mk:∀(p:Addr) [?M1],?oL->(?RB H p (ts.map ?iL))->?Gq->?Bw->(∀D,?f4->Q ?dJ (?Na D ?kd))->?GG
abbrev Ag3:?kQ:=?S1 ?GG
def AK{X:Cx}[?my]:Fl X ?m6 Ag3:=by ext ih;let#[l,ts,kvs,?i,hl,hlen,hk,q]:=h;ext tv;have hh:?HL:=?eY;let#[hz,its,n,rv,ho]:=?bl l _ hl;rw[qa3]at hz;(have hil:its.length=ts.length:=by rw[←rv.length,qa3]);let#[prs,hkv,hpl,hP]:=HD ?bl ts kvs hlen hk;(have at_:?S0 ?Fz (∃t,?sv/\x=?hR):=λi x e=>by (have e':its[i]?=?cm:=?ck);have hlt:?Ht:=?Iw;(have hb:?ON ts ?FJ:=?GW);let ?gl:=?Pw ?iL ?FJ;rw[e']at hu;cases hu;cases ru;exact#[_,hb,?i]);apply callType_codes (Q₁:=λobj s₁=>obj=?dT/\s₁=?Ch) PySem.F.kt_called_dict (PySem.F.kt_typeCall_dict_1 _) PySem.F.entry_dict_init (kt_code_dict_new _ ?ue) ?_;rintro obj s₁ ⟨rfl,rfl⟩;have hnew:(?lp).DictOf ?c3 ?aN []:=?KJ ?ai;apply#[?uz,PySem.F.args_dict_init_2 _ _,?_];unfold Builtin.«dict.__init__»;apply ?f6;unfold Builtin.Dict.selfAndRest;apply ?t (wpAny_notOrdered_dict ?uz ?_);show ?MJ (pure (?aN,[?cu l])) _;apply ?e3;show ?MJ (Builtin.Dict.updateFrom "dict.__init__" ?aN ?hr [] ?b3) _;unfold Builtin.Dict.updateFrom;have zV:(?lp).get? l=?PP ?he n:=?Nh ho;apply ?S7 (?PS ?Ch ?hr ?g2) #[_,zV,?i];rw[?w ?aA];apply ?t (r6 zV hh λh1 tk hk1=>?_);rw[?w (show(none:?hW).isNone=true from rfl)];apply ?OK ?ox;have hl1:h1.IsList l ?he:=#[_,?Hb,?i,n,?i];apply ?t (qp5 hl1 ?_);apply ?Or _;have lt0:?NM l:=?wd;have nD:?Pd ?EP:=λb o e=>qe2 ?lM;have up:?Pd (h1.get? b=?aF):=λb o e=>hk1 _ _ ?gq;have nI:?Pd (b≠h1.objs.size):=λb o e=>?Pg (up b o e);let#[oD,esD,epD,hoD,rD]:=id hnew;have Dt:?Hz ?c3 ?aN []:=#[oD,esD,epD,?Im,rD];have ndi:s.heap.objs.size≠h1.objs.size:=?Pg ?Im;apply QD (knd:=?c3) ?Az (prs:=prs) (items:=its.toArray) (l:=l) (d:=s.heap.objs.size) (it:=h1.objs.size) (h0:=h1.push { cls:=?b2 "list_iterator",data:=?QK ?hr }) ?i0 ndi (nD _ _ ho) (nI _ _ ho) #[_,?Nh ?Hb,?i,n,?i] (λi x e=>?_) prs.length 0 _ [] ?g ?g ?_ (Dt.push _) ?jJ (λb o _ _ e=>e) (λh' tk' hd' hb'=>?_);{let#[t,e1,?i]:=at_ i x e;let#[p,key,e2,#[o,ho',r'],e4]:=hP i t e1;exact#[p,t,key,e2,?i,nD _ _ ho',nI _ _ ho',#[o,?Nh (up _ _ ho'),r'],e4]};{have e0:([]:?kK).length=0:=rfl;ext d};apply#[?i,?dT,?Na ?aN ?kd,?_,?i,q _ ?kO];(have hzz:?Cs:=by have h1:=?Ct;rw[qi5]at h1;ext d);apply ?mQ (a:=s.heap.objs.size) (o:=?kd) (t':=tk') (λb o e=>hb' b o (nD _ _ e) (nI _ _ e) (?Nh (up _ _ e))) ?m (aE hzz ?yq (hkv.merge ?aV) ?_);simpa using hd'
def Pa:∀(more kvs:?bi),((?A1).map (·.1)).Nodup->?sL=?A1| [],kvs,_=>by simp[Ii]| p::more,kvs,h=>by (have hnot:(kvs.any λkv=>?bT ?FK)=false:=by rw[qx8];intro kv hkv hd;(have e:?FK:=by simpa using hd);rw[qb0,qu2]at h;exact h.2.2 ?bE (qk1 hkv) p.1 ?a8 e);(have e:?hh=?CU:=by unfold Nb;rw[?o (by rw[hnot];decide)]);show Ii ?hh more=_;rw[e,Pa more ?CU ?ER];simp
universe L2
namespace L2
open PySem PySem.Spec PyProof.Rows PySem.SeqAt
universe L2
namespace L2
open PySem PySem.Spec PyProof.Rows
section
variable[?cO][?bL]
def Bo.freeze[?ah][?is]:∃o,?Mg ?ji s:=by let#[z,y,vs,r,o,es,ep,ho,c]:=id ?KH;apply#[o,?_];(have ne:?O8 ?b8 (b≠a):=?xI);(have up:?O8 ?b8 (upd H a ?i4 b=?gX):=?Er);apply I.step (g':=s.gens) (t':=s.toks) (d':=s.drawn) (h':=s.heap) (H':=?ji) (ch:=[]) (λ_ q=>nomatch q) (λb ob _ _ _ q _=>q) (λb ob _ _ _ q _=>#[?CS,q]) (λb ob _ q n=>?Jk) (λb ob _ q=>#[ob,q]) (λb xs q=>?ne) (λb ob u q=>?ne) (λb ps q=>#[#v[],by rw[?ne];simp]) (λm q=>q) ?Dx ?nV;by_cases hb:b=a;{subst hb;rw[Ab]at q;cases q;exact#[ho,(?Co).stay ?rQ ?so ?tO]};rw[Al hb]at q;ext Kn
def Bo.thaw{o:Obj}[?ah][?M9](hb:?zf):?Mg (upd H a ?b8) s:=by (have ne:?O8 ?i4 (b≠a):=?xI);(have up:?O8 ?i4 (?Hd=?gX):=?Er);(have no:∀b,?Rd b->?Hd=none:=λb n=>?Jk);apply#[I.ok,I.os,?nV,#[I.base.keep,I.base.slot,λb ob q n x=>no b (I.base.free b ob q n x),I.base.there,λb xs q=>?QU (I.base.tups b xs q),λb ob u q=>?_,λb ps q=>?_],I.loc,I.cell,no _ I.free,λx c q=>no _ (I.freeC x c q),λp hp=>?_,?Dx,I.len];{have hne:b≠a:=λz=>hb ob u (z▸q);rw[Al hne];exact ?uV b ob u q};{let#[m,q']:=I.base.tbls b ps q;exact#[m,?QU q']};{let#[p1,p2,p3]:=I.pin p hp;exact#[p1,no _ p2,p3]};by_cases hba:b=a;{subst hba;rw[Ab]at q;cases q;let#[_,q']:=?Co;exact q'.stay ?rQ ?so ?tO};rw[Al hba]at q;ext Kn
def Bo.notfrz[?ah][?is]:?zf:=λob u q=>by have:=?uV a ob u q;rw[e]at this;cases this
def Bo.nodupK[?ah][?mr]:(?dG (·.1)).Nodup:=by let#[z,hd,vs,rel,o,es,ep,_,_,_,_,_,hn]:=?d5;rw[rel.keys];exact hn
universe e9
abbrev tFrz(t:TE):TE:=λσ H Q=>t σ H Q\/∃(a:Addr) (kvs:?bi),?hm/\((?dG (·.1)).Nodup->∀o:Obj,t σ ?ji (?Qp Q))
abbrev Bn2(t:TS):TS:=λD σ H=>t D σ H\/∃(a:Addr) (kvs:?bi),?hm/\((?dG (·.1)).Nodup->∀o:Obj,t #[?NN D.nx,?Qp D.rt,?NN D.bk,?NN D.ct] σ ?ji)
def jX{X:Cx}{e:Expr}{t:TE}(h:?S5 e t):?S5 e (tFrz t):=by intro Ag s σ H Q I hw;rcases hw with hw|⟨a,kvs,ea,hw⟩;{exact ?Qt Q};ext Lj;apply Eh ?z9 λu s' #[v,H',I2,r,e2,q]=>#[v,_,?nP,r,q]
def Ty{X:Cx}{st:Stmt}{t:TS}(h:PS X st t):PS X st (Bn2 t):=by intro Ag s σ H D I hw;rcases hw with hw|⟨a,kvs,ea,hw⟩;{exact ?Qt D};ext Lj;apply Eh ?z9 λf s' hq=>?_;cases f with| next=>ext tc| brk=>ext tc| cont=>ext tc| ret u=>let#[v,σ',H',I2,r,e2,q]:=hq;exact#[v,σ',_,?nP,r,q]
def Xb[?cO][?bL]{o:Obj}[?ah][?M9] : ?gW a=?aF/\?hG/\?mF/\∃vs es ep,?fV/\?EK/\?Qm es.size/\o.ExactDict/\s.heap.DictAt ?c3 a vs ep:=by let#[ho,z,y,vs,r,o',es,ep,ho',ex,hd,hk,hp,hn]:=?KH;rw[ho]at ho';cases ho';apply#[ho,y,z,vs,es,ep,r,hd,?_,ex,#[o,es,ho,ex,hd,hk,hp,hn]];rw[r.length,←hp.length];simp
def KV.getV:∀[?bL][?u6]{i:Nat}{k:Key}{v:V},?fV->?fn->∃u,?ON vs (k,u)/\?b0 v u| _,_,i,k,v,?aV,e=>?sD| _,_,0,k,v,?bQ (b:=q) r t,e=>by simp only[qu7,Option.some.injEq]at e;subst e;let#[k',u]:=q;have e1:k=k':=r.1;subst e1;exact#[u,?a8,r.2]| _,_,?l,k,v,?bQ r t,e=>by let#[u,e1,e2]:=KV.getV (i:=i) t ?ck;exact#[u,?gz,e2]
def ZT[?bM]{k:Key}{u:Value}(h:?ul):?kn:=by rcases Ef h with⟨i,t,rfl,rfl⟩|⟨x,t,rfl,rfl⟩;{exact ?dy};exact ?dy
abbrev Itm(d:Addr)(o:Obj):It :=#[?z8,λi H x H'=>∃p k v,?cf/\x=?aC/\H'=?sP/\?Et,?v6]
def Yi[?ip][?cP]{s:Shared}{it d:Addr}{i n ep:Nat}{ok ov:Value}[?bc](hit:?Qi ?ai n)(h:Q ?fv s):?MQ ?aw (pyIter ?fv):=by have hT:?qo ?fv ?ED:=#[_,hit,?i];apply wpAny_pyIter_slot hT qw7 (qm5 qw7 hT (entryFor_alias (id':="dict_keyiterator.__iter__") ?lk ?i ?f7 ?lk:?wS table "dict_itemiterator.__iter__"=?k Builtin.«dict_keyiterator.__iter__») ?_ (PySem.F.args_dict_itemiterator_iter_1 _));show ?MJ (ret ?fv) s;exact qd6 #[_,?i,?ED,_,hT,PySem.F.slot_dict_itemiterator_next.lookup,h]
def jM[?bM][?aB]{tes:?cx}[?uJ][?LG] :
 Xi P w K ?Dj ?eM ?cy it (λi h=>∃ok ov,?Qi h es.size) where
 mem:=?a8
 obj:=λi h st b hb=>by
  let ?vc:=st;ext tr
  subst z;exact#[_,h1,λv q=>by cases (show ?PM v from q)]
 keep:=λi h h' st k=>by
  let ?vc:=st;exact#[ok,ov,k it ?a8 _ h1]
 item:=by
  ext dh;let ?s9:=st;let ?HM:=hg;ext mV;let ?gl:=rel.getV hx;ext mZ
  have fi:=?sF;have lti:?NM it:=qc1 hit;have hfresh:?Rd ?aN:=?kO;rw[hn]at hit;apply wpAny_pyNext_items_item hit hm hu λkey h' hkey hout htup hsz' hk=>?_;apply#[_,?i,wpAny_letOwnedTupleGo_items hout λh3 hen Sz=>?_]
  replace Sz:?oW it h' h3:=Sz
  have kk:∀b ob,b ∉ ?cy->?xW->h3.get? b=?m0:=λb ob n z=>by
   have n1:b≠it:=by simpa using n
   exact ?Ov b n1 (hk b ob n1 z)
  have ht3:h3.get? ?aN=?k { cls:=?jd,data:=?fK #v[key,u] }:=?Ov _ (qo0 lti) htup;have ZH:∀c ob,H c=?m0->c ∉ ?cy:=λc ob e hm=>by rw[(hf c hm).1]at e;cases e
  have sU:∀b ob,H b=?m0->?EP:=λb ob z=>Aq z hfresh;apply#[?dT,?BA,?_,?i,#[?aN,k,v,hfresh,?i,?i,?zs],#[_,_,by rw[hn];exact hen],?gZ]
  . apply Bo.step (s:=s) (h':=h3) (t':=s.toks) (H':=?BA) I (g':=s.gens) (d':=s.drawn) (ch:=?cy) ?gZ (?QM ?pJ) (?QM #[?CS,?pJ]) (λb ob hb z n=>?_) (?SH #[ob,?pJ])
     (λb ys z=>?HE) (λb ob w' z=>?HE) (λb ps z=>#[#v[],by rw[Al (sU b _ z),z];simp]) ?oM (λb w' z=>?_) ?nV
    . have f:=hf b hb;exact#[f.2.2.2.1,f.2.1,f.2.2.2.2.1,f.2.2.2.2.2]
    . rw[Al (?Pg z)];exact n
    . let#[ob,es',yF,hob,r]:=hm;exact#[ob,es',yF,kk _ ob (λq=>(hf _ q).2.1 ?i) hob,r]
    . by_cases hb:?Qz b
      . subst hb;rw[Ab]at z;cases z;exact#[(by show ?N5 ((2:Nat));decide),[key,u],?bQ ?vI (?bQ ru ?aV),#[_,ht3,?i,?i,_,?i]]
      . rw[Al hb]at z;apply(?bl b w' z).stay (λc y hc' q=>?_) (λc q=>?Ie) λc ys q=>?Ie
        rcases hc' with rfl | hc'
        . exact ?QY z
        . exact ?QY hc'
  . ext tr
    subst z;rw[Al (qe2 lti)];exact(hf b hb).1
 done:=by
  ext dh;let ?s9:=st;let ?yZ:=hg;ext mV;ext mZ
  have hl2:=rel.length;rw[hn]at hit;exact wpAny_pyNext_items_end ?eY hit hm ?i0 ?FT
 self:=λ_ _ _ _ _ st h=>by
  let ?s9:=st;exact Yi hit h
inductive nW[?mx](x:V)(H1:Hp):Prop| mk:?Oq ?eM ?GH
abbrev Am0(td:TE):TI:=λσ H R=>?N6 ?GH
def Lr{X:Cx}{tes:?cx}{x1:Nat}{tpos apos cpos:Pos}{e:Expr}{td:TE}(he:?DJ) (hbase:?Ou "items") (hline:?a5 ?Dc ?aM):PI X ?Dj (?bp (?eB e "items" ?el) [] [] ?eL) (Am0 td):=by ext mp;apply wpAny_Call_method0_late hbase hline ?xA;ext Kj;apply#[?lI,"dict.items",qu5,?Gf,PySem.F.type_dict_items,#[o,ho,exd.1],λb e=>by cases e;exact#[o,ho,exd.2.1],qs2 ?i (PySem.evalArgs_none ?_)];apply ?iU ?Gf hm.dictOf.typeIs PySem.F.entry_dict_items (PySem.F.args_dict_items_1 _) (meets_dict_items ?c3 d hsys) #[#[vs,hm.dictOf],?_];have I2:?Mg H1 ?Bl:=?w3;have hm2:=hm.push ?rl;apply wpAny_pyIter_items (s:=?Bl) (v:=s1.heap.objs.size) (d:=d) ?jJ hm2 ?_;have hsz2:?Gb=?FU:=qi7 ..;apply#[_,[_],_,?eM,H1,?i,?Pk ?Ip,jM d _ o hd,#[?b3,?b3,?_],?gZ,q];{rw[hsz,rel.length];exact ?dq};(have z:b=?Gb:=?cD);subst z;ext Lg
abbrev Itk(d:Addr)(o:Obj):It :=#[?z8,λi H x H'=>H'=H/\∃k v,x=?dW/\?Et,?v6]
def OB[?bM][?aB]{tg:Expr}[?LG] :
 ?Pi ?f8 (h.IsKeyIter it d i es.size ep) where
 mem:=?a8
 obj:=λi h st b hb=>by
  let ?CR:=st;ext tr
  subst z;exact#[oi,h1,λv q=>by rw[d1]at q;cases q]
 keep:=λi h h' st k=>st.at λob z=>k it ?a8 ob z
 item:=by
  ext dh;let ?HM:=hg;ext mV;let ?gl:=rel.getV hx;ext mZ
  rw[hn]at st;apply wpAny_pyNext_dict_item st hm hu λkey h' hkey pP hs'=>?_;apply ?Bp;let ?CR:=id pP;apply iK h1 c1 d1 ?aA #[?dW,H,?_,?vI,#[?i,k,v,?i,?zs],by rw[hn];exact pP,?wk];exact ?ND ?cy (?SH ((hs'.2 b ?cD).trans z))
 done:=by
  ext dh;let ?yZ:=hg;ext mV;ext mZ
  have hl2:=rel.length;rw[hn]at st;exact wpAny_pyNext_dict_end ?eY st hm ?i0 ?FT
 self:=?OF wpAny_pyIter_keyiter st
inductive vM[?mx](x:V)(H1:Hp):Prop| mk:?Oq ?f8 ?ui
abbrev A61(td:TE):TI:=λσ H R=>?N6 ?ui
def eG{X:Cx}{tg e:Expr}{td:TE}(he:?DJ):PI X tg e (A61 td):=by ext mp;apply ?xA;ext Kj;apply wpAny_pyIter_dict hsys hm ?_;apply#[_,[_],_,?f8,H1,?i,?w3,OB d _ o hd,?_,?gZ,q];{rw[hsz,rel.length];exact ?jJ};(have z:b=s1.heap.objs.size:=?cD);subst z;exact I1.fpOk ?m (I1.hok.fresh ?m)
section
variable{g:TG}{tc:TT}[?md]
def Ue{d:Addr}{o:Obj}[?bL][?Ln](hl:∀i zs τ H,?lt->?e7->?hM) (hs:∀i k v zs τ H p,?fn->?PZ ?sP) (hd:?Oo ?hK):?NY ?eM tc:=by apply#[λi m zs τ H=>?Px ?e7,?DZ,?_];rintro i m zs τ H ⟨rfl,hi,pp⟩;have q:=hl i zs τ H hi pp;by_cases hlt:?zl;{apply ?X #[?nn,?gE,λys' τ' H' p'=>?os,?p7];let ?CL:=y;exact hs i k v zs τ _ p ?nu pp hp};have e:?uX:=O9m;subst e;exact ?S #[?wM,hd zs τ H pp]
def R6{d:Addr}{o:Obj}[?bL][?Ko] (hs:∀i k v σ H p,?fn->?f2->?cf->g ?aC σ ?sP ?np) [?Ls] : ∃W:?tK,?R1 ?eM ?eM ?eM:=by ext Kd;{apply ?OQ ?X;let ?CL:=y;exact hs i k v σ _ p ?nu pp hp};ext L4
def AA{d:Addr}{o:Obj}[?bL][?Ko] (hs:∀i k v σ H,?fn->?f2->g ?dW σ H ?np) [?Ls] : ∃W:?tK,?R1 ?f8 ?f8 ?f8:=by ext Kd;{apply ?OQ ?X;let#[?i,k,v,?i,y]:=y;exact hs i k v σ _ ?nu pp};ext L4
universe e9
universe L2
namespace L2
open PySem PySem.Spec PyProof.Rows PySem.SeqAt
def Vd{ms:?fh}:((?lL).map (·.1)).Nodup↔(?mD (·.1)).Nodup:=by unfold cK List.Nodup;rw[qi8,ql5,ql5];constructor;{intro h;exact ?Py (by simp[z])};intro h;exact ?Py ?DL
section
variable[?cO]{ms:?fh}
universe e9
section
variable{X:Cx}{n:Nat}[?aB]
inductive jD[?u9]:Prop| mk:?Qo [?aH,.ty ?lI] (Q ?sQ H) ?Ar
abbrev WR:?kQ:=?S1 ?Ar
def iV:Fl X (?dU "isinstance") WR:=by ext ih;let ?H1:=h;let#[u,v,?i,rx,rt]:=gD r;cases rt;cases rx;let#[z,hd,vs,rel,o,es,ep,ho,ex,_]:=?d5;exact PySem.IsiPair.dict_dict ho ex.1 #[?sQ,H,I,?i,q]
universe e9
universe L2
namespace L2
open PySem PySem.Spec PyProof.Rows
inductive nV[?u9]:Prop| mk:?Qo ?jh (∀p,?cf->Q ?aC ?I1) ?D6
abbrev Ag4:?kQ:=?S1 ?D6
def L7{X:Cx}:Fl X ?m6 Ag4:=by ext ih;let ?H1:=h;let#[u,?i,rx]:=P6 r;cases rx;exact uO I e λp s' hp I'=>#[?aC,_,I',?i,q p hp]
def u1{n c:Nat}(h:n+8<c):?u<c:=O9m
abbrev Av[?bd](k:Int):Int:=(?g7).getD 0
abbrev putI[?bd](k v:Int):?fh:=if ?Jj=true then ?mD ?J1 else ms++[(k,v)]
abbrev Ix[?bd](k:Int):?fh:=ms.filter λp=>?bT (p.1≠k)
def lJ[?bd](k v:Int):Nb ?lL ?gG (?aR v)=cK ?xZ:=by unfold Nb putI cK;(have e:((?mD λp=>?yT).any λkv=>?bT (?bE=?gG))=?Jj:=by rw[List.any_map];congr 1;funext p;simp);rw[e];split;{rw[qi8,qi8];congr 1;funext p;simp only[Function.comp];by_cases q:?bR;{simp[q]};have q':¬?wV=?gG:=λz=>q ?DL;simp[q]};simp
def YM[?bd](k:Int):aD ?lL ?gG=cK ?y0:=by unfold aD Ix cK;rw[qq9];congr 1;congr 1;funext p;simp
def FU[?bd](k:Int):P7 ?lL ?gG=?Pq ?g7:=by unfold Cr cK P7;rw[List.find?_map,Option.map_map,Option.map_map];(have e:((λp:?tJ=>?bT (p.1=?gG)) ∘ λp:?l3=>?yT)=λp:?l3=>?bT ?bR:=by funext p;simp);rw[e];rfl
def Zh[?bd](k:Int):(?Pq ?g7).getD (?aR 0)=?aR (Av ms k):=by unfold Av;cases ?g7<;>rfl
def D7(p:?l3)[?bd](k:Int):Cr (p::ms) k=if ?bR then ?k p.2 else ?g7:=by unfold Cr;by_cases q:?bR;{rw[List.find?_cons_of_pos ?zE,?w q];rfl};rw[List.find?_cons_of_neg ?zE,?o q]
def CN[?bd](k v j:Int):Cr ?xZ j=if j=k then ?d2 else Cr ms j:=by (have hs:∀[?uA],Cr (ns.map ?J1) j=if j=k then(?pl).map (λ_=>v) else ?pl:=by intro ns;induction ns with| nil=>simp[Cr]| cons p ns ih =>rw[qd2,D7,D7,ih];by_cases e1:?bR;{by_cases e2:j=k;{simp[e1,e2]};have e3:¬k=j:=?Bo;simp[e1,e2,e3]};by_cases e2:j=k;{simp[e1,e2]};simp[e1,e2]);(have hn:∀[?uA],(ns.any ?qG)=(Cr ns k).isSome:=by intro ns;induction ns with| nil=>rfl| cons p ns ih =>rw[qo7,D7,ih];by_cases e1:?bR<;>simp[e1]);(have ha:∀[?uA],Cr (ns++[(k,v)]) j=(?pl).or (if k=j then ?d2 else none):=by intro ns;induction ns with| nil=>simp[D7,Cr]| cons p ns ih =>rw[List.cons_append,D7,D7,ih];by_cases e1:p.1=j<;>simp[e1]);unfold putI;rw[hn];cases q:?g7 with| some z =>simp only[Option.isSome_some,if_true];rw[hs];by_cases e:j=k;{subst e;simp[q]};simp[e]| none =>simp only[Option.isSome_none,qt5,if_false];rw[ha];by_cases e:j=k;{subst e;simp[q]};have e':¬k=j:=?iC;simp[e,e']
def kL[?bd](k j:Int):Cr ?y0 j=if j=k then none else Cr ms j:=by unfold Ix;induction ms with| nil=>simp[Cr]| cons p ms ih =>rw[qj1,D7];by_cases e1:?bR;{rw[?o ?gz,ih];by_cases e2:j=k;{simp[e2]};have e3:¬p.1=j:=λz=>e2 (by rw[←z,e1]);simp[e2,e3]};rw[?w ?gz,D7,ih];by_cases e2:j=k;{subst e2;simp[e1]};simp[e2]
section
variable[?bM][?aB]{mg:?DE}{base:Heap}
universe e9
section
variable{X:Cx}{x:Str}{ps:?iF}{j k:Nat}{sp:Sp}{p pos:Pos}{e:Expr}[?iy]{t:TA}
universe e9
def Su{α β:Type}{F:α->?P7 β}:∀{l:?i7}{m:?M β},l.length=m.length->(∀(i:Nat) (x:α) (y:β),l[i]?=?cm->m[i]?=?gs->F x y)->?og F l m| [],[],_,_=>?aV| [],_::_,h,_=>?GJ| _::_,[],h,_=>?GJ| x::l,y::m,h,f=>?bQ (f 0 x y ?i ?i) (Su ?ER λi a b ha hb=>f ?l a b (by simpa using ha) ?cD)
abbrev LY(n:Nat):?fZ:=(?lr n).map λ ?fR=>?je
def Rl(n:Nat):(LY n).length=n:=by simp[LY]
def lY{n i:Nat}(h:?x):?ON (LY n) ?je:=by unfold LY;rw[qa7,qn4 h];rfl
inductive vE(Q:VK)[?uI]:Prop| mk:∀n:Nat,(vs=[?y ?hb])->?KM->(∀l,H1 l=none->Q ?hr (upd H1 l ?FA))->?Gd
abbrev Ay5(ta:TA):TE:=λσ H Q=>?OV ?Gd
def EG{X:Cx}{a:Expr}{ta:TA}{p q pos pos2:Pos}[?my](hg1:Gl X ?g2)(hm1:?dn ?g2=none)(hg2:?Fx)(hm2:?CA)(ha:PA X [a] ta) (hs:?Mj [a] [?sU]) (hs2:?Mj [?qi] [(?b9,?RK ?qi)]) : ?S5 (?NA ?g2 [?qi]) (Ay5 ta):=by ext iq;apply ?l2 (Km I hg1 hm1 El (qf7 ?_ hs2 ?i));rw[hs2];apply qo9 ?_;apply ?l2 (Km I hg2 hm2 ?Ej (qf7 (Eh (?Ph pos2 s I) λus s1 _z=>?_) hs ?i));let ?Ai:=_z;let ?HN:=q1;subst e;let ?vo:=P6 r1;let ?dy:=ru;apply call_range_1 ?ns;have I2:=?kf (h':=?hs { cls:=?b2 ?eZ,data:=?d6 #v[?y 0 s1.toks,?y ?hb t,?y 1 ?IB] }) (t':=?IB+1) ?rf;apply call_list_range (n:=n) (I2.ok.hd hc) ?Fy (small_one ?aA ?aA ?g ?g) ?_ ?g λh' tk acc' c' kp e it=>?_;{rw[rangeSize_one];split<;>ext d};let#[sz,get]:=it;have hf:=?D3;(have hz:?N5 ((?pa).length):=by rw[qa3,Rl,sizeLine_eq];ext d);(have rel:Vals ?pa ?At:=by apply Su ?_ ?_;{rw[qa3,Rl];simpa using sz.symm};intro i x y hx hy;(have hi:?x:=by have:=(?dz hx).1;rwa [qa3,Rl]at this);rw[qa7,lY hi]at hx;cases hx;let ?wC:=get i y (by simpa using hy);exact#[t',?a8]);apply#[?z _,_,I2.laid (t':=tk) kp ?m (show ?da ?eN X.w _ h' _ ?FA from#[hz,?At,c',rel,?_]),?i,q _ hf];ext cT
abbrev Itd(hi:Int)(n:Nat):It:=#[λi _=>?x,λi H x H'=>H'=H/\x=?rF,λi _=>n<=i]
def Qp(a b:Int):?ua a b ?Z=if b<a then a-b else 0:=by unfold Builtin.Range.rangeSize;rw[?o ?aA];split;{show(a-b-1) / 1+1=a-b;rw[Int.ediv_one];ext d};rfl
def JP{a b:Int}(ha:-?ks<=a)(ha':a<?ks)(hb:-?ks<=b)(hb':b<?ks):Builtin.Range.small a b ?Z=true:=by unfold Builtin.Range.small;rw[Qp];simp only[Builtin.Range.rangeFitsLong,qc0,qt0,qr3,qx6];split<;>simp<;>ext d
def oE[?bM][?aB]{tg:Expr}(it:Addr)(hi:Int)(n:Nat):?Pi ?lX (?xD h it (hi+?fR*?Z) (?hb-?fR) ?Z) where
 mem:=?a8
 obj:=λi h st b hb=>by
  have e:b=it:=?cD
  subst e
  exact#[_,st,λv z=>by
   have z':?PM v:=z;cases z']
 keep:=λi h h' st k=>k it ?a8 _ st
 item:=by
  ext dh;let ?HI:=?sF;have W:=Walks.range (prog:=X.prog) (w:=X.w) ?eY it hi ?Z n;apply W.item i s _ _ hg st λv h' tk hv st' kk=>?_;let ?dy:=hv;have I1:?K4:=?CX (λb o hb e=>kk b o ?cD e) f0 f1 f3 f4 f5;apply#[_,?i,iK (s:=?k0) (n:="range_iterator") st' ?i ?i ?aA #[?rF,H,I1,#[t,?_],?ue,st',?wk]];rw[?ME (hi+?je*?Z=hi-i)]
 done:=by
  ext dh;let ?HI:=?sF;exact wpAny_pyNext_range_end ?eY st (by have:n<=i:=hg;ext d) λh' eb=>#[?i,?CX (t':=s.toks) (λb o hb e=>eb b o hb e) f0 f1 f3 f4 f5]
 self:=?OF wpAny_pyIter_rangeiter st
inductive vN[?mx][?uI]:Prop| mk:∀(n:Nat),(vs=[?y ?dP,?y ?Z,?y ?Z])->?KM->(R (Itd ?dP n) H1)->?Iq
abbrev A63(ta:TA):TI:=?SR ?Iq
def WZ{X:Cx}{tg:Expr}{a b c:Expr}{ta:TA}{p pos:Pos}(hg:?Fx)(hm:?CA)(ha:PA X ?sp ta)(hs:?Mj ?sp [?sU,?jt,?yr])(hs2:?Mj [b,c] [?jt,?yr]) : PI X tg (?NA ?eZ ?sp) (A63 ta):=by ext mp;apply ?Rx ?Ej;let ?HN:=q1;subst e;cases r1 with| cons r rr =>cases rr with| cons r' rr =>cases rr with| cons r'' rr =>cases rr;let ?dy:=r;let ?wC:=r';let#[t'',?i]:=r'';apply call_range_3 ?aA ?_ (Or.inl (PyProof.noPylong_small ?g));apply wpAny_pyIter_range ?Fy (JP ?g ?g ?g ?g) ?_;have I2:?Mg H1 ({ s1 with heap:=?R3 t,toks:=s1.toks }):=?kf ?rf;apply#[?vG,[_],_,_,H1,?i,?Pk ?rf,oE _ ?dP n,?_,?gZ,q];{(have e1:?Hu=?dP:=?a8);(have e2:?Av=?ua ?dP ?Z ?Z:=by rw[Qp];ext aY);show ?xD _ _ ?Hu ?Av ?Z;rw[e1,e2];exact ?dq};(have e:b=?vG:=?cD);subst e;ext Lg
def uI{hi:Int}{n:Nat}{g:TG}{tb:TS}{D:Ends}{σ:St}{H:Hp}(Pv:?ok)(h0:?Jc) (hs:∀i σ H,?x->?f2->g ?rF σ H ?np) (hd:?Pv n) : ∃W:?tK,?R1 ?lX ?lX ?lX:=by apply#[λi m σ H=>m=n-i/\?fl/\?f2,#[n,?a8,?Q,h0],?_];rintro i m σ H ⟨hm,hi',hp⟩;by_cases hlt:?x;{apply ?X #[hlt,?gE,λσ' H' h=>#[n-?l,?g,?i,?g,h],?_];rintro x H' ⟨rfl,rfl⟩;exact hs i σ _ hlt hp};apply ?S #[by show n<=i;ext d,hd σ H (by have:i=n:=O9m;subst this;exact hp)]
universe L2
namespace Lat
open Hb
noncomputable abbrev Mat:=?cd
def sumN_all0[?T]{n:Nat}(h:?Ng n (f k=0)):?dL=0:=by rw[Ad h,Nw]
def sumN_one[?T]:∀{n j:Nat},j<n->(?Ng n (k≠j->f k=0))->?dL=?a3| ?u,j,hj,h=>by show ?dL+f n=?a3;by_cases e:j=n;{subst e;rw[?NI (h k ?h ?h)];ext d};rw[?aU (n:=n) (j:=j) ?h λk hk=>h k ?h,h n ?h ?iC];ext d
abbrev In(w n:Nat)(R:Mat)(v:?r):Prop:=∃x:?r,?Mx (v c=?n ?qS n)
def In.row{w n:Nat}{R:Mat}{j:Nat}(hj:j<n):?OI R ?lE:=#[λk=>if k=j then 1 else 0,λc _=>by rw[D6 (λk=>?jv) j n,?oB]]
def In.zero(w n:Nat)(R:Mat):?OI R ?cj:=#[?cj,λc _=>by rw[sumN_all0];intro k _;simp]
def In.mix[?Lp](hv:?tW)(a b:Int):?OI R ?gx:=by let ?aQ:=hu;let ?gi:=hv;apply#[λk=>a*x k+b*y k,?cZ];show ?t9=_;rw[?dX,?Q1 hy,←Ax,←Ax,←Cq];apply ?q1;rw[qq0,qd1,qd1]
def In.congr[?Lp](h:?BJ):?tW:=by let ?aQ:=hu;exact#[x,?OU (by rw[←?jf];exact ?dX)]
structure D5(w r:Nat)(R:Mat)[?F]:Prop where
 lt:?sR
 inc:?Ny r
 zero:∀j c,j<r->?o1
 pos:?MS r ?i2
 red:?Pc r ?sy
def D5.mono[?iu][?p][?iw]:∀j k,j<=k->k<r->?A<=?a2:=λj k h1 h2=>by rcases qg5 j k with z | z;{exact qf0 (?cF j k z h2)};rw[show j=k by ext d];exact ?m
def D5.ge[?iu][?p][?iw]:?MS r (j<=?A)| 0,_=>?Q| ?I,hj=>by have:=?Rw h.ge;have:=?cF j ?I ?g hj;ext d
def D5.lead[?iu][?p][?iw]{v x:?r}(hx:?Mx (v c=?HY)) : ∀j,j<=r->?HA->(?Ng j (x k=0))/\(j<r->?hi=x j*?ae):=by intro j;induction j with| zero =>intro _ _;apply#[?ql,?Ji];rw[?QZ 0 hr,?zp];rw[?PF 0];simp| succ j ih =>intro hj hv;let ?ef:=ih ?g λk hk=>hv k ?g;(have hxj:x j=0:=by have e:=h2 ?g;rw[hv j ?h]at e;rcases ?k9 ?q0 with z | z;{exact z};have:=?gd;ext d);(have hall:?Ng ?I (x k=0):=?Q7 (by by_cases e:k=j;{rw[e];exact hxj};exact h1 k ?g));apply#[hall,?Ji];rw[?QZ _ hr,?zp];by_cases e:k<?I;{rw[hall k e];simp};rw[?PF ?I];simp
def D5.only[?iu][?p][?iw]{v:?r}(hv:?Ex){j:Nat}(hj:j<r)(h0:?HA)(h1:?hi=?ae)(h2:∀k,j<k->k<r->v ?a2=0):?Mx (v c=?dK):=by let ?aQ:=hv;let ?Iy:=h.lead hx j ?g h0;(have xj:x j=1:=by have e:=a2 hj;rw[h1]at e;have p:=?k7;(have:(x j-1)*?ae=0:=by rw[Int.sub_mul];ext d);rcases ?k9 ?Y with z | z<;>ext d);(have rest:∀m,m<=r->∀k,j<k->?wg:=by intro m;induction m with| zero=>intro _ k _ hk;(ext d)| succ m ih =>intro hm k hjk hk;by_cases e:k<m;{exact ih ?g k hjk e};have ek:k=m:=O9m;subst ek;have hv2:=h2 k hjk ?g;(have e2:v ?a2=R j ?a2+?iM:=by rw[?QZ k ?h];(have:?n (λi=>x i*?sW) r=?n (λi=>(?j8*?sW)+(?Mc i k ?iM)) r:=by ext mt;by_cases e1:i=j;{subst e1;rw[xj,?B,?q];simp};rw[?bI];by_cases e3:i=k;{subst e3;rw[?B];simp};rw[?oa];by_cases e4:i<j;{rw[a1 i e4];simp};by_cases e5:i<k;{rw[ih ?h i ?h e5];simp};rw[?au i _ hi (?cF k i ?h hi)];simp);rw[this,Cq,D6 (λi=>?sW) j r,?oB,?PN ?iM k r,?N]);rw[hv2]at e2;let ?Gz:=?fH j k hjk ?g;have p:=?aO k ?g;rcases ?AF (x k) 0 with z | z | z;{have:?iM<=-1*?e9:=?jw;ext d};{exact z};have:1*?e9<=?iM:=?jw;ext d);intro c hc;rw[?dX,?aU hj ?ru,xj,qd8];by_cases e:k<j;{rw[a1 k e];simp};rw[rest r ?m k ?h hk];simp
structure E7[?aL](T T':Mat):Prop where
 fwd:?SF T T'
 bwd:?SF T' T
 st:∃r t,?bC/\?h4/\?gw
def In.sub{w n r:Nat}{R:Mat}{v:?r}(h:?tW)(hr:?bC)(hz:?Ap):?Ex:=by let ?aQ:=h;apply#[x,?cZ];rw[?dX];(have:∀m,r<=m->?eX->?n ?qS m=?HY:=by intro m;induction m with| zero=>intro h1 _;rw[?Mn r]| succ m ih =>intro h1 h2;by_cases e:r=?U;{rw[e]};show ?n _ m+x m*R m c=_;rw[?K9,hz m c ?h ?h hc];simp);exact ?Y n hr ?m
abbrev Om(n w k:Nat)(T:Mat):Prop:=k<=n/\k<=w/\(?MS k (0<?iE))/\(∀j c,j<k->c<w->c≠j->?ed=0)/\(?Oj k ?HB)
def Om.flip{n w k:Nat}{T:Mat}(h:?hk):Om w n k ?IY:=#[h.2.1,h.1,h.2.2.1,λj c hj hc hne=>h.2.2.2.2 c j hc hj hne,?P1 (h.2.2.2.1 j i hj hi hne)]
abbrev NN(n w k:Nat)(T:Mat):Prop:=?hk/\k<n/\k<w/\0<?ab/\?Mx (c≠k->?cJ=0)
def E7.keep[?bf][?u5]:∀{k:Nat},?hk->?Qv k T'/\(∀j c,j<k->c<w->T' j c=?ed)/\?SD (k<=r/\?MS k (?A=j)):=by intro k;induction k with| zero =>intro h;exact#[?zo,?kS,λr t _ _ _=>#[?Q,?gB]]| succ k ih =>intro h;let#[hn,hw,hp,hr,hc]:=h;let#[c1,c2,c3]:=ih #[?g,?g,?Md ?CJ,?Qq hr,λi j hi hj=>hc i j hi ?g];(have key:?SD (k<r/\?kq/\(?Mx (?rM=?cJ))):=by intro r t KP hst hz;let ?qV:=?B4;have hin:=(s.bwd k ?g).sub KP hz;let ?aQ:=?q7;(have v0:?GB:=?Pe (by rw[ht l hl];exact hc k l ?g ?g ?g));let#[x0,_]:=?oN;have hpk:=?CK;(have hlt:k<r:=by ext gO;(have:?jm:=by rw[?vm];ext tf);ext d);(have htk:?kq:=by have g:=?CH;apply ?PH g;(have:?jm:=by rw[?vm];ext Kl);ext d);let#[_,a2]:=?oN;ext L9;let ?gi:=s.fwd k ?g;(have e2:?c5=y k*?ab:=by rw[hy k ?h];exact ?aU ?g λl hl hne=>by rw[hc l k hl ?h hne];simp);(have same:?ab=?c5:=by ext Lh;have d2:?ab∣ ?c5:=#[y k,by rw[e2,qe8]];exact Int.le_antisymm ?vi (qm2 hpk d1));apply#[hlt,htk,λc hcw=>?_];exact(?wG hin hlt v0 (by rw[htk];exact same) (λl hl1 hl2=>hr k ?H ?g ?vh ?He) c hcw).symm);let ?oc:=s.st;let ?KV:=?AR;apply#[#[hn,hw,?aT,?Hg,?ys],λj c hj hcw=>?_,λr t KP hst hz=>?_];{by_cases e:j=k;{subst e;rw[k3 j ?h];exact ?CJ};exact c1.2.2.1 j ?g};{by_cases e:j=k;{subst e;rw[?Gw];exact ?P9 hr};exact ?P9 ?v3};{by_cases e:j=k;{subst e;by_cases e2:i<j;{exact ?v3 i j e2 ?g ?g};by_cases e3:i<r;{exact ?eG i j e3 (by have:=?nk j i ?g e3;ext d)};exact hz i j ?g hi ?g};exact c1.2.2.2.2 i j hi ?g hne};{by_cases e:j=k;{subst e;exact ?Gw};exact c2 j c ?g hcw};let#[a,b,_]:=?AR;let#[_,ht]:=?B4;apply#[a,?aT];by_cases e:j=k;{rw[e];exact b};exact ?Cp
abbrev Xk[?aL](T Oj:Mat):Prop:=∃T',?rh/\E7 w n (?OD T') (?OD Oj)
abbrev Straight[?aL](T:Mat):Prop:=?Oj w ?HB
def Xk.next{n w k:Nat}[?u4](h:?hk):?AY/\(?Ci n w Oj\/?wN):=by let ?rN:=s;let ?ke:=s1.keep h;let ?yn:=?KX;have hc:?AY:=g1.flip;apply#[hc,?_];let ?oc:=s1.st;let ?AW:=s2.st;let ?qV:=?v4;let ?H6:=?IU;by_cases e:k<r;{right;have p:=?jI k e;have tw:=?fG k e;have tk:k<=?a2:=?hU k e;have hin:=(?mJ ?a2 tw).sub hqw UA;let ?aQ:=?q7;(have v0:∀l,l<k->?OM ?jN:=?N4 ?a2 ?a2 tw);let#[x0,_]:=bK.lead hx k kq v0;have hkn:k<n:=O9m;(have kq2:k<q:=by ext gO;(have:T' k ?a2=0:=by show ?OM k;rw[?zD];ext tf);ext d);(have huk:u k=k:=by apply ?uo;(have:T' k ?a2=0:=by show ?OM k;rw[?zD];apply ?nz;by_cases e2:l<k;{rw[x0 l e2];simp};show x l*?s0=0;ext Ky);ext d);have p2:=?yC;rw[huk]at p2;apply#[hc,hkn,?g,p2,?KE];rcases qg5 c k with z | z;{exact hc.2.2.2.2 k c hkn z ?g};by_cases e3:c<q;{exact ?Rl e3 e3};exact UA c k ?g hcw hkn};left;have T'0:?P0 (k<=i) ?Ao:=λi c hi hin hcw=>hz i c ?g hin hcw;intro i j hi hj hne;rcases qg5 i k with z | z;{exact hc.2.2.2.1 i j z hj (λw=>hne w.symm)};let ?gi:=?Oy s2.fwd;have:Oj i j=?n (λl=>y l*T' i l) w:=hy i hi;rw[this];exact ?aI λl hl=>by rw[T'0 i l z hi hl];simp
set_option tactic.hygienic true in def Xk.less{n w k:Nat}[?u4](h:?Ev):?Qv ?V Oj\/(?wN/\?iS∣ ?ab/\?iS<?ab):=by let#[hcl,hn,hw,hp,hr]:=h;have s0:=s;let ?rN:=s;let ?ke:=s1.keep hcl;let ?oc:=s1.st;let ?qV:=?v4;have hin:=(s1.bwd k hn).sub KP hz;let ?aQ:=?q7;(have v0:?GB:=?Pe (by rw[ht l hl];exact hr l ?g ?g));let#[x0,a2]:=?oN;(have hlt:k<r:=by ext gO;(have:?jm:=by rw[hx k hw];ext tf);ext d);(have htk:?kq:=by apply ?PH ?CH;(have:?jm:=by rw[hx k hw];ext Kl);ext d);ext L9;ext Lh;have le1:=qm2 hp d1;(have below:∀i,?x->i≠k->T' i k=0:=λi hi hne=>by rcases qg5 i k with z | z;{exact ?kP i k z hw ?g};by_cases e3:i<r;{exact ?eG i k e3 (?N7 ?nk i e3)};exact hz i k ?g hi hw);by_cases same:?c5=?ab;{left;have row:?Mx (?cJ=?rM):=?wG hin hlt v0 (by rw[htk];exact same.symm) (λl hl1 hl2=>hr ?H ?vh ?He);(have cl':?Qv ?V T':=by apply#[?g,?g,?aT,?Hg,?ys];{by_cases e:j=k;{subst e;exact pk};exact h1.2.2.1 j ?g};{by_cases e:j=k;{subst e;rw[←row c hcw];exact hr c hcw hne};exact ?P9 ?kP};by_cases e:j=k;{subst e;exact below i hi hne};exact h1.2.2.2.2 i j hi ?g hne);exact(s2.keep cl'.flip).1.flip};right;have lt1:?c5<?ab:=O9m;let#[hc2,q2]:=s0.next hcl;let ?yn:=?KX;let ?AW:=s2.st;let ?H6:=?IU;have Bv6:=(?mJ k hw).sub hqw UA;let ?gi:=id Bv6;(have w0:∀l,l<k->(λj=>T' j k) ?jN=0:=?N4 k k hw);let#[y0,b2]:=bK.lead hy k kq w0;have hyk:?c5=?n (λl=>y l*?s0) q:=hy k hn;(have kq2:k<q:=by ext gO;(have:?c5=0:=by rw[hyk];exact ?Oh y0);ext d);(have huk:u k=k:=by apply ?uo;(have:?c5=0:=by rw[hyk];apply ?nz;by_cases e2:l<k;{rw[y0 l e2];simp};ext Ky);ext d);have e3:T' (u k) k=y k*?CI:=b2 kq2;rw[huk]at e3;have p2:0<?CI:=?yC;rw[huk]at p2;have d2:?iS∣ ?c5:=#[y k,by rw[e3,qe8]];have le2:=?vi;apply#[#[hc2,hn,hw,p2,?KE],qx4 d2 d1,?g];rcases qg5 c k with z | z;{exact hc2.2.2.2.2 k c hn z ?g};by_cases e4:c<q;{exact ?Rl e4 e4};exact UA c k ?g hcw hn
abbrev Ul(i:Nat):Int:=if i%2=0 then 1 else -1
def Z3(i:Nat):Ul ?l=- Ul i:=by unfold Ul;by_cases h:i%2=0;{rw[?q,?kV]};rw[?N,?lN];rfl
def Y2(i:Nat):(Ul i).natAbs=1:=by unfold Ul;split<;>rfl
abbrev Gy(A:Mat)(i:Nat):Mat:=λr c=>?nb
abbrev det:Nat->Mat->Int| 0,_=>1| ?u,A=>?iG
def Di:∀{n:Nat}{A B:Mat},(?Mq n (?fL=B r c))->?cI=?s n B| 0,_,_,_=>rfl| ?u,A,B,h=>by ext mt;rw[h i 0 hi ?h,Di (n:=n) (A:=?mH) (B:=Gy B i)];intro r c hr hc;exact ?v2
abbrev B4(A:Mat)[?uF]:Mat:=λr c=>if r=p then u c else ?fL
def Bp(A:Mat)[?uF](c:Nat):B4 A p u p c=u c:=?B
def Bx{A:Mat}{p r:Nat}[?j5](h:?e5)(c:Nat):B4 A p u r c=?fL:=?lN
def Ve{A:Mat}{p i:Nat}[?j5](h:i≠p):Gy ?i6 i=B4 ?mH ?ff ?HP:=by funext r c;show(if ?qj=p then ?lh else ?nb)=if ?oh then ?lh else ?nb;(have e:(?qj=p)↔ ?oh:=by split<;>split<;>ext d);by_cases z:?oh;{rw[?aW,?w (e.mpr z)]};rw[?cg,?o λw=>z (e.mp w)]
def Jq{A:Mat}{p:Nat}[?j5]:Gy ?i6 p=?K7:=by funext r c;show(if ?AI=p then ?lh else ?r2)=?r2;rw[?o ?bS]
def Fs:∀{n p:Nat} (A:Mat) [?ix] (a b:Int),p<n->?MU A p ?gx=a*?s n ?i6+b*?s n ?oe| ?u,p,A,u,v,a,b,hp=>by show ?k8=a*?k8+b*?k8;ext ir;ext mt;by_cases e:i=p;{subst e;rw[Bp,Bp,Bp,Jq,Jq,Jq];grind};rw[?ds,?ds,?ds,Ve e,Ve e,Ve e];rw[Fs ?mH ?HP (λc=>v ?ao) a b ?bS];grind
set_option tactic.hygienic true in def Ia(A:Mat)(p:Nat):?Ae=A:=by funext r c;unfold B4;split;{rename_i h;rw[h]};rfl
def Ct{A:Mat}{p q:Nat}(h:?dm)[?ix]:?Fb=B4 ?BV p u:=by funext r c;unfold B4;by_cases e:r=q;{rw[?bs,?q,?bs]};rw[?bt,?bt]
def FI:∀[?mz],?Nl ?aa (A ?aa c)| ?u,p,A,hp,h=>by show ?iG=0;(have same:?I3=?Ed:=Di (?ML (by show ?r2=?RJ A ?aa ?ao;ext gU;{subst e;rw[?q,?N];exact(?kx).symm};by_cases e2:r<p;{rw[?h9,?N]};rw[?d3,?q])));(have two:?iG=?n (λi=>(?Mc i p ?BU)+(?Mc i ?aa ?A8)) ?u:=by ext mt;by_cases e1:i=p;{subst e1;rw[?B,?q];simp};by_cases e2:i=?aa;{subst e2;rw[?q,?B];simp};rw[?bI,?d3];(have z:?GT=0:=by apply FI (p:=?ff) ?bS ?cZ;show A (if ?ff<i then ?ff else ?m8) ?ao=A (if ?m8<i then ?m8 else ?m8+1) ?ao;by_cases e3:p<i;{rw[?oY,?oY,?N];exact ?kx};rw[?oa,?q,?q,?ME (p-1+1=p)];exact ?kx);rw[z];simp);rw[two,Cq,?PN ?BU p ?u,?N,?PN ?A8 ?aa ?u,?N];rw[Z3,←same,←h 0 ?h];grind
def dG[?mz](hp:?aa<n)[?ix]:?MU ?i6 ?aa v=- ?MU ?oe ?aa u:=by have ne:p≠?aa:=O9m;(have z:?Rn ?aa:=λw=>FI hp ?A7);have e0:=?Qr c;rw[?Nn ?x2 hp,?ar,?ar,?Nn (B4 A ?aa u) ?h,?Nn (B4 A ?aa v) ?h]at e0;ext LM
def fH:∀(d:Nat) [?mz],?Nl ?h0 (A ?h0 c)| 0,n,p,A,hp,h=>FI hp h| ?aG,n,p,A,hp,h=>by (have e:A=B4 (B4 A ?h0 (A ?h0)) ?In (A ?In):=?J5);rw[e,dG ?h];rw[fH d (p:=p) ?h ?cZ];{rfl};rw[?fo,?fo,?fo,Bp];exact ?jf
def Fy[?cr]{A:Mat}[?cs](hq:q<n)(hne:?dm)(h:?Rz n (?bj=A q c)):?j7:=by rcases qg5 p q with z | z;{exact fH ?HO (p:=p) ?g (by rw[?ME (p+?HO+1=q)];exact h)};exact fH ?Bf (p:=q) ?g (by rw[?ME (q+?Bf+1=p)];exact ?OU ((?jf).symm))
def YH[?cr](A:Mat)[?cs](hq:q<n)(hne:?dm)(k:Int):?MU A p ?zL=?cI:=by have:=Fs A ?bB ?cb 1 k hp;rw[Ia,Fy (A:=?wq) hp hq hne λc _=>by rw[Bp,Bx ?yM]]at this;rw[←show(λc=>1*?bj+k*A q c)=?zL from ?Nc ?yf,this];ext d
def iN[?cr]{A:Mat}[?b5][?ix]:?s n ?Fb=- ?MU ?oe q u:=by
 ext Kr
 have e0:=?Qr c;rw[?Nn ?x2 hq,?ar,?ar,?Nn (B4 A q u) hp,?Nn ?BV hp]at e0;ext LM
def yH{n p:Nat}(A:Mat)[?cs]:?MU A p ?Ay=- ?cI:=by have:=?Qe ?Z;rw[Ia]at this;rw[show ?Ay=λc=>-1*?bj+0*?bj from ?Nc ?h,this];ext d
def qE[?cr](A:Mat)[?b5][?dk](h:?eh=1) : ?s n (B4 (?S6 (λk=>a*A p k+b*A q k)) q λk=>c*A p k+d*A q k)=?cI:=by (ext Kr);(have e:?MU ?Ae q ?cb=?cI:=?J5);have e2:=iN (A:=A) hp hq ne ?bB ?cb;rw[Fs _ ?bB ?cb c d hq,?ar,?ar,?Os ?bB,?Os ?cb];rw[←?ar,←?ar,←?ar,←?ar,z ?bB,z ?cb];rw[e]at e2 ⊢;have e3:?MU ?wq q ?bB=- ?cI:=O9m;rw[e3];grind
abbrev prodN[?a9]:?r| 0=>1| ?u=>?lG
def Xw[?a9]:∀n,?tL=f 0*?yX| 0=>by simp[prodN]| ?u=>by show ?tL*f ?u=f 0*(?yX*f ?u);rw[Xw f n,qd1]
def Vr:∀{n:Nat}{A:Mat},(?Mq r (?fL=0))->?cI=?Pl A n| 0,_,_=>rfl| ?u,A,h=>by show ?iG=_;rw[?aU (j:=0) ?h λk hk hne=>by rw[h k 0 hk ?h];simp,Xw];rw[Vr (n:=n) (A:=Gy A 0) (?ML (by show ?RJ A 0 ?ao=0;ext ep;exact h _ _ ?h ?h))];show 1*A 0 0*?v (λj=>A (if j<0 then j else ?I) ?I) n=_;rw[qd8];rfl
abbrev FF:?J| 0=>1| ?u=>?HW
def P9[?T]{M:Nat}:∀{n:Nat},(?Ng n (?oi<=M))->?Gk<=n*M| 0,_=>by simp[sumN]| ?u,h=>by have a:=P9 (n:=n) ?e1;have b:=?lQ;have c:=qf4 ?dL (f n);show ?Jp<=?u*M;rw[qg2,qf9];ext d
def uM:∀{n:Nat}{A:Mat}{B:Nat},(?Mq n (?uc<=B))->?CV<=?Ih| 0,_,_,_=>by simp[det,FF]| ?u,A,B,h=>by show ?MT ?k8 (?HW*B ^ ?u);(have:?BQ<=?u*(B*?Ih):=by apply P9 ?hx;rw[qb5,qb5,Y2,qf9];exact qf6 (h i 0 hi ?g) (uM (?ML ?v2)));apply qa5 ?Y ?vx;rw[qh8];grind
structure Jl(i:Nat)(R:Mat)[?F]:Prop where
 inc:?Ny i
 zero:?Hv
 pos:?Ep
def D5.s0[?iu][?p][?iw]:Jl r R t:=#[?cF,?au,?aO]
def Jl.low[?iz][?p][?j2]{j l:Nat}(hj:j<i)(hl:l<j):?gn=0:=?au j _ hj (?cF l j hl hj)
set_option tactic.hygienic true in def Vq:∀[?mz],?Nl p 0:=λ{n p A} hp h=>by have:=?Qe 0;rw[show(λc=>0*?bj+0*?bj)=?Dz from ?Nc ?h]at this;rw[show ?cI=?MU A p ?cj from Di (?ML (by unfold B4;split;{rename_i e;rw[e];exact ?jf};rfl)),this];ext d
def Co[?T]:∀{n:Nat},?no->0<?eE| 0,_=>?z7| ?u,h=>?kL (Co ?e1) ?lQ
abbrev pb(R:Mat)[?F](k:Nat):?r| 0=>1| ?U=>?ki
abbrev S3(R:Mat)[?F](k:Nat):Nat->?r| 0=>R k| ?U=>λc=>?g9*?N1 m c+?jo*R ?cE c
section
variable[?iz][?p][?j2]
include h
def sM{k:Nat}:?RC (0<?ht)| 0,_=>?z7| ?U,hm=>?kL (?aO _ ?g) (sM ?g)
def FQ{k l:Nat}(hl:l<k):?RC (?r6=0)| 0,hm=>?dQ hm hl| ?U,hm=>by ext Kt;rw[FQ hl ?h,?wF];simp
def IT{k:Nat}:?RC (?va=?ht*?e9)| 0,_=>by show ?e9=1*?e9;(ext d)| ?U,hm=>by show ?g9*?va+?jo*R ?cE ?a2=?ki*?e9;rw[IT ?h,?dQ (j:=?cE) (l:=k) ?h ?h,qd1];simp
def fQ{k:Nat}:∀{m l:Nat},?fk->k<l->l<=k+m->?r6=0| 0,l,_,h1,h2=>O9m| ?U,l,hm,h1,h2=>by ext Kt;by_cases e:l=?cE;{subst e;rw[qe8,qp9];ext d};rw[fQ ?h h1 ?h,?wF];simp
def uU{W:Nat}{k:Nat}:?RC (In W i R (S3 R t k m))| 0,hm=>?a6 hm| ?U,hm=>(uU ?g).mix ?As _ _
def NF{k:Nat}(s:?J):?RC (?SY ?GX=?ht*?s i ?e8)| 0,hm=>by show ?SY ((?e8) k)=1*_;rw[Ia];(ext d)| ?U,hm=>by show ?SY (λc=>?g9*?xX+?jo*?Br)=_;rw[Fs ?e8 ?GX ?yE _ _ ?h,NF s ?h];rw[Fy (p:=k) (q:=?cE) (A:=B4 ?e8 k ?yE) ?h ?h ?h λc _=>by rw[Bp,?fo]];show _=?ki*_;rw[qd1];ext d
universe e9
def skip_prod[?T]{k:Nat}:∀(n:Nat),k<=n->?v (λl=>f ?ob) n=?eg*?uj| 0,h=>by have:k=0:=O9m;subst this;simp[prodN]| ?u,h=>by by_cases e:k=?u;{subst e;rw[?ME (?u-?u=0)];show ?v _ ?u=?tL*1;(have:∀m,m<=?u->?v (λl=>f (if l<?u then l else l+1)) m=?bq:=by intro m;induction m with| zero=>intro _;rfl| succ m ih =>intro hm;show ?rJ*f (if m<?u then m else ?U)=?bq*f m;rw[?gy,?N]);rw[?Y _ ?m];ext d};show ?v _ n*f (if n<k then n else ?u)=_;rw[?JV n ?h,?q,?ME (?u-k=?eO+1)];show _=?eg*(?uj*f ?za);rw[?ME (?za=?u),qd1]
def EH(R:Mat)[?F](k:Nat):∀m,?ht=?v (λl=>R ?qt (t ?qt)) m| 0=>rfl| ?U=>by show ?ki=?rJ*?g9;rw[EH R t k m,qe8]
abbrev cH[?F](k c:Nat):?J| 0=>c| l+1=>?lm
def Aq0[?iz][?p][?j2]{k c:Nat}(hk:k<i){D:Nat}(hD:?Ma ?s ?jz D):(?N1 ?nW c).natAbs<=D:=by
 have hm:k+?nW<i:=O9m
 have e1:=NF h (k:=k) (cH t k c) hm
 have hu0:∀l,l<i->l≠k->?N1 ?nW ?H=0:=λl hl hne=>by
  rcases qg5 l k with z | z
  . exact FQ h z hm
  . exact fQ h hm ?g ?g
 obtain⟨n,rfl⟩:∃n,i=?u:=?DT
 have e2:?s ?u (B4 ?jz k λl=>?N1 ?hv ?FV)=Ul k*?N1 ?hv c*?v (λl=>R ?ob ?lm) n:=by
  show ?Nb (Ul j*B4 _ k _ j 0*?s n (Gy (B4 _ k _) j)) ?u=_;rw[?aU (j:=k) hk ?r8]
  . rw[Bp,Jq]
    congr 1
    apply Vr λr l hr hl=>?_;show ?RJ R k ?lm=0;apply ?dQ ?bS ?_;split<;>split<;>ext d
  . rw[Ve hne,Vq (p:=if k<j then k else ?hH) ?bS ?lU]
    . simp
    . rw[Bp];show ?N1 ?hv ?lm=0;exact hu0 _ ?bS ?bS
 rw[e1]at e2;rw[?JV (f:=?d4) n ?h,←EH,?Ek]at e2;rw[?Ek];have pp:=sM h (k:=k) (m:=?eO) ?g;have qp:0<?B3:=?SN ?gd;have e3:=?ko ?B5 e2;rw[qb5,qb5,qb5,qb5,Y2,qf9]at e3;have p1:0<?eT:=O9m
 have q1:1<=?AB:=O9m
 have:?eT*?pE<=?eT*D:=by
  calc ?eT*?pE<=?pE*(?AB*?eT):=by
        rw[?JK ?eT];exact qf3 _ (qn9 _ q1)
   _=?eT*(?s ?u ?jz).natAbs:=e3.symm
   _<=_:=qf3 _ hD
 exact qt7 ?Y p1
def cW[?iz][?p][?j2]:?s i ?eK=?hu:=Vr (?ML (?dQ hr hc))
def c8[?T]:∀{n j:Nat},?no->j<n->?a3<=?eE| ?u,j,h,hj=>by have p:=Co (n:=n) ?e1;have q:=?lQ;show ?a3<=?lG;by_cases e:j=n;{subst e;have:1*?a3<=?v f j*?a3:=?jw;ext d};have ih:=c8 (n:=n) (j:=j) ?e1 ?g;have:?eE*1<=?lG:=?ut;ext d
def YB[?iz][?p][?j2]{D:Nat}(hD:?Ma ?s ?eK D){j:Nat}(hj:j<i):?ae<=D:=by rw[cW h]at hD;have a:=c8 (f:=?d4) ?Fi hj;have b:=Co (f:=?d4) (n:=i) ?Fi;ext d
def Jl.none{W i:Nat}{R:Mat}[?p][?LS](h0:?MS i (?hi=0)):?Rz W (v c=0):=by let ?aQ:=hv;(have x0:∀m,m<=i->?MS m (x j=0):=by intro m;induction m with| zero=>intro _ j hj;(ext d)| succ m ih =>intro hm j hj;by_cases e:j<m;{exact ih ?g j e};have ej:j=m:=O9m;subst ej;have e1:=hx ?A ?Cp;rw[h0 j ?h,?aU (j:=j) ?h ?ru]at e1;{rcases ?k9 e1.symm with z | z;{exact z};have:=?gd;ext d};by_cases e2:k<j;{rw[ih ?h k e2];simp};rw[?dQ hk ?h];simp);intro c hc;rw[?dX];exact ?NI (by rw[x0 i ?m k hk];simp)
def In.sum{W i:Nat}{R:Mat}{a:?r}{U:Mat}:∀{m:Nat},(?MS m (?Ri (U j)))->?Ri (λc=>?rv)| 0,_=>?o7 W i R| ?U,h=>by have:=(?r4 (a:=a) (U:=U) (m:=m) λj hj=>?Rw h).mix (h m ?g) 1 (a m);exact this.congr λc _=>?S3 (1*?rv+?hn) ?rv ?hn
def Tz[?a9]:∀(n k:Nat),k<n->?eE=?eg*?H9| ?u,k,h=>by by_cases e:k=n;{subst e;rw[?ME (?V-1-k=0)];show ?eg*f k=?eg*(1*f k);rw[qd8]};show ?lG=_;rw[Tz f n k ?h,?ME (?hv=?lz+1)];show _=?eg*(?v _ ?lz*f ?Fs*f k);rw[?ME (?Fs=n)];grind
def A49[?T]:∀{n k:Nat},(∀l,l<n->0<f l)->k<n->?eg*f k<=?eE:=λ{n k} h hk=>by rw[Tz f n k hk];have a:=Co (n:=k) λl hl=>h l ?g;have b:0<?AD:=Co (?Pe ?kx);have c:=h k hk;have d:1*f k<=?H9:=?jw;rw[qd8]at d;exact qn8 d ?g
def WJ{W i:Nat}{R:Mat}[?p][?LS]{κ D c:Nat}(hc:c<W)(hκ:?MS i (?C0<=κ*?dC))
 (hD:∀k,k<i->?Ma ?s ?jz D):(v c).natAbs<=i*?s1:=by
 have hp:∀l,l<i->0<(?d4) l:=?Pe (?aO l hl);have EP:=Co (n:=i) hp
 have key:?hu*v c=?rX:=by
  have hin:?Ri (λc=>?DC) :=
   hv.mix (?r4 (a:=λj=>?qb) (U:=λj=>S3 R t j ?rk) λj hj=>uU h ?g) _ _
  have:=h.none ht hin ?oM c hc
  . show _=_;have t:?DC=0:=this;ext d
  . show ?hu*v ?gu+?Z*?Nb (?qb*?vJ) i=0;rw[?aU (j:=m) hm ?r8]
    . rw[IT h ?h,EH,Tz ?d4 i m hm]
      grind
    . have:?vJ=0:=by
       rcases qg5 m j with z | z
       . exact FQ h z ?g
       . exact fQ h ?g ?g ?g
      ext cS
 have e:=?ko ?B5 key;rw[qb5]at e
 have le:?MT ?rX (i*(?tP*?s1)):=by
  apply P9 ?aT;rw[qb5,qb5];have a1:=?Oy hκ;have a2:=Aq0 h hj (?Oy hD);have a3:=A49 hp hj;have a4:=Co (n:=j) λl hl=>hp l ?g;have a5:=?Oy hp
  have a6:?ll*?dC<=?tP:=by
   rw[←qb5];have:0<?o0*?ae:=?kL a4 a5;ext d
  calc ?C0*?ll*(?zZ).natAbs
   ≤ κ*?dC*?ll*D:=qf6 (qc2 _ a1) a2
   _=?ll*?dC*?s1:=?a0
   _<=_:=qc2 _ a6
 rw[←e]at le;have E1:0<?tP:=O9m
 apply qt7 (qa5 le ?vx) E1
 grind
def In.trans{W n m:Nat}{R R':Mat}{v:?r}(hv:In W n R v)(h:?MS n (In W m R' ?lE)):In W m R' v:=by let ?aQ:=hv;exact(?r4 (a:=x) (U:=R) h).congr λc hc=>(?dX).symm
abbrev RE(W n:Nat)(R R':Mat):Prop:=(?MS n (In W n R (R' j)))/\(?MS n (In W n R' ?lE))
def RE.refl(W n:Nat)(R:Mat):?O3 R:=#[?EG,?EG]
def RE.trans{W n:Nat}{R S T:Mat}(h1:?O3 S)(h2:RE W n S T):?O3 T:=#[?Md ((h2.1 j hj).trans h1.1),?Md ((h1.2 j hj).trans h2.2)]
abbrev F2(n:Nat)(R R':Mat):Prop:=∀s:?J,(?s n (?OB R')).natAbs=(?s n ?f0).natAbs
def F2.refl(n:Nat)(R:Mat):?PD R:=λ_=>rfl
def F2.trans{n:Nat}{R S T:Mat}(h1:?PD S)(h2:F2 n S T):?PD T:=λs=>(h2 s).trans (h1 s)
def N3(R:Mat)[?uF](s:?J):(λr l=>B4 R p u r ?az)=B4 ?f0 p (λl=>u ?az):=by funext r l;unfold B4;split<;>rfl
abbrev addR[?es](k:Int):Mat:=B4 R p ?DQ
def Cv[?es](k:Int)(c:Nat):?G R p q k p c=?ws:=Bp ..
def Du[?mw]{k:Int}(h:?e5)(c:Nat):?G R p q k r c=?bY:=Bx h c
def YQ[?cr](R:Mat)[?b5](k:Int):?PD ?dZ:=λs=>by unfold addR;rw[N3];have:=YH ?f0 hp hq ne k;rw[show(λl=>1*R p ?az+?Ac)=λl=>R p ?az+?Ac from ?ag λl=>?yf,this]
def yQ{W n p q:Nat}(R:Mat)[?b5](k:Int):?O3 ?dZ:=by ext mg;{by_cases e:j=p;{subst e;exact(?r0 ?y5 1 k).congr λc _=>(Cv R j q k c).symm};exact ?hB λc _=>(?rL).symm};by_cases e:j=p;{subst e;apply((?N2 ?DV).mix (?a6 (R:=?DV) hq) 1 (-k)).congr ?uR;rw[Cv,Du ?cc];show 1*(1*?dK+k*R q c)+-k*R q c=?dK;rw[qp9];ext d};exact ?SW ?dZ ?rL
abbrev Hm(R:Mat)(p:Nat):Mat:=B4 R p λc=>- ?c6
def xQ{n p:Nat}(R:Mat)[?cs]:?PD ?eR:=λs=>by unfold Hm;rw[N3,yH ?f0 hp,qd3]
def xP{W n p:Nat}(R:Mat)[?cs]:?O3 ?eR:=by ext mg;{by_cases e:j=p;{subst e;exact(?r0 ?hq ?Z 0).congr ?Fd};exact ?hB λc _=>(Bx e c).symm};by_cases e:j=p;{subst e;exact((?Ju).mix ?Ju ?Z 0).congr ?Fd};exact ?SW ?eR (Bx e c)
abbrev blendR[?es][?dk]:Mat:=B4 (B4 R p ?Cv) q ?EJ
def Hk{R:Mat}{p q:Nat}(ne:?dm)[?dk](k:Nat):?Ns p=?yd:=by unfold blendR;rw[Bx ne,Bp]
def Jv[?es][?dk](k:Nat):?Ns q=?HF:=by unfold blendR;rw[Bp]
def Em[?mw](h1:?e5)(h2:r≠q)[?dk](k:Nat):?Ns r=R r k:=by unfold blendR;rw[Bx h2,Bx h1]
def QS[?cr](R:Mat)[?b5][?ml]:?PD ?fN:=λs=>by unfold blendR;rw[N3,N3];rw[qE ?f0 hp hq ne a b c d h]
def qS{W n p q:Nat}(R:Mat)[?b5][?ml]:?O3 ?fN:=by ext mg;{by_cases e:j=p;{subst e;exact(?r0 ?y5 a b).congr λk _=>(?BM).symm};by_cases e2:j=q;{subst e2;exact((?a6 hp).mix ?hq c d).congr λk _=>(?Qw j).symm};exact ?hB λk _=>(?xd).symm};by_cases e:j=p;{subst e;apply((?N2 ?Ja).mix (?a6 (R:=?Ja) hq) d (-b)).congr ?p5;rw[?cH,Jv];(have:R j k=?eh*R j k:=?jG);grind};by_cases e2:j=q;{subst e2;apply((?a6 (R:=?HT) hp).mix (?N2 ?HT) (-c) a).congr ?p5;rw[?cH,Jv];(have:R j k=?eh*R j k:=?jG);grind};exact(?N2 ?fN).congr λk _=>?xd
abbrev moveR(R:Mat)(i s:Nat):Mat:=λr c=>if r<s then ?bY else if r=s then ?e4 else if ?ay then R ?ce c else ?bY
def iC{n:Nat}:∀(d:Nat) (R:Mat) {i s:Nat},?x->i=s+d->?PD ?cB| 0,R,i,s,hi,e=>by (have:?cB=R:=by funext r c;ext c0;ext Ki);rw[this];exact F2.refl n R| ?aG,R,i,s,hi,e=>by obtain⟨j,rfl⟩:∃j,i=?I:=?DT;(have h1:?PD ?qJ:=λt=>by rw[N3,N3,dG ?h,qd3];rw[show B4 (B4 ?eK j ?CQ) ?I (λl=>R ?I ?H)=?eK from by have:=Ia ?eK j;rw[show ?CQ=(?eK) j from rfl,this];exact Ia ?eK ?I]);have h2:=iC (n:=n) d ?qJ (i:=j) (s:=s) ?g ?g;(have e3:?aE ?qJ j s=?aE R ?I s:=by funext r c;ext c0;by_cases e1:r<s;{rw[?gY,?gY,?fo,?fo]};rw[?bI,?bI];by_cases e2:r=s;{rw[?h9,?h9,?RN j ?I,Bp]};rw[?d3,?d3];by_cases e4:?ak;{rw[?w e4,?w (?ME (r<=?I)),?RN ?ce ?I,?RN ?ce j]};rw[?py];by_cases e5:r=?I;{subst e5;rw[Bp,?N];rfl};rw[?RX (r<=?I),Bx e5,?RN r j]);rw[e3]at h2;exact ?GD h2
def TH{W n:Nat}(R:Mat){i s:Nat}[?er]:?O3 ?cB:=by ext mg;{by_cases e1:j<s;{exact ?hB ?xk};by_cases e2:j=s;{exact(?a6 hi).congr λc _=>by ext c0;rw[?bI,?h9]};by_cases e3:?bW;{exact(?a6 (R:=R) (j:=?dO) ?g).congr (?PA ?oY)};exact ?hB (?PA ?oa)};by_cases e1:j<s;{exact ?Dt ?xk};by_cases e2:j=i;{exact(?a6 (R:=?cB) (j:=s) ?g).congr λc _=>by ext c0;rw[?q,?B,e2]};by_cases e3:j<i;{exact(?a6 (R:=?cB) (j:=?I) ?g).congr λc _=>by ext c0;rw[?q,?q,?N];rfl};exact ?Dt λc _=>by ext c0;ext ta
def sumN_pair{f g:?r}[?cr][?b5](h:?Ng n (k≠p->k≠q->f k=g k))(e:f p+f q=g p+g q):?dL=?n g n:=by (have z:?wT=?rc+?qA:=by (have e1:?wT=?R5 (?Mc k p ?rc+?Mc k q ?qA) n:=by apply ?tF;by_cases e1:k=p;{subst e1;rw[?B,?iQ];ext d};rw[?bI];by_cases e2:k=q;{subst e2;rw[?B];ext d};rw[?d3,h k hk e1 e2];ext d);rw[e1,Cq,?PN ?rc p n,?w hp,?PN ?qA q n,?w hq]);rw[Cq,Ax]at z;ext d
abbrev pT(n:Nat)(B R:Mat)(a b:Nat):Int:=?zy
def JX[?cr](B R:Mat)[?b5](k:Int)(a b:Nat):?Of ?ng ?dZ:=by apply ?Ot (by rw[Du h2,Du h1]);rw[Du (r:=p) (p:=q) ne,Cv R p q k,Cv B q p (-k),Du ?cc];grind
def Ah3{n p:Nat}(B R:Mat)(a b:Nat):?Of ?sj ?eR:=by apply ?q1;by_cases e:k=p;{subst e;unfold Hm;rw[Bp,Bp,Int.neg_mul_neg]};unfold Hm;rw[?ds,?ds]
def HE[?cr](B R:Mat)[?b5][?ml](x y:Nat):pT n ?oo ?fN x y=pT n B R x y:=by
 apply ?Ot (by rw[?AK,?AK]);rw[?cH,?cH,Jv,Jv];have e1:?we=?eh*?we:=?jG
 have e2:?yL=?eh*?yL:=?jG
 grind
def CB[?a9]:∀(d:Nat) {n i s:Nat},?x->i=s+d->?n (λr=>if r<s then f r else if r=s then ?L else if ?ay then f ?ce else f r) n=?dL| 0,n,i,s,hi,e=>Ad λr _=>by ext Ki| ?aG,n,i,s,hi,e=>by rw[←CB f d (n:=n) (i:=i) (s:=s+1) hi ?h];apply ?t5 (p:=s) (q:=s+1) ?g ?g ?g (λr _ h1 h2=>?_) ?_;{by_cases e1:r<s;{rw[?gY,?N]};rw[?bI,?eV,?RX (r<s+1),?eA]};rw[?q,?B,?q,?q,?N,?N,?q,?B];show ?L+f (s+1-1)=f s+?L;rw[?ME (s+1-1=s)];ext d
def xF{n:Nat}(B R:Mat){i s:Nat}[?er](a b:Nat):?Of ?p3 ?cB:=by show ?R5 (?aE B i s k a*?aE R i s k b) n=?zy;rw[←CB ?ve (i-s) (n:=n) (i:=i) (s:=s) hi ?h];apply Ad λr _=>?_;ext c0;split;{rfl};split;{rfl};split<;>rfl
abbrev pD[?aL][?aK][?cV]:Int:=?n (λc=>?s8*B j c) n
abbrev F0[?aL][?aK]:Prop:=?Oj n (?Go=?j8)
abbrev dot[?aL][?ix]:Int:=?n (λc=>u ?iV*v c) n
def Ek[?aL](u v x:?r)(a b:Int):?P2 ?gx x=?S4 v x:=?Nw (by rw[qq0,qd1,qd1])
def G6[?aL](u x y:?r)(a b:Int):?P2 u (λc=>a*x c+b*y c)=?S4 u y:=?Nw ?a0
def f8[?aL][?aK][?cV]:?Go=?G7:=rfl
def Oi[?es](k:Int):?G R p q k p=?DQ:=?Nc (Cv ..)
def addR_row_ne[?mw]{k:Int}(h:?e5):?G R p q k r=R r:=?Nc (Du h c)
def blend_row_p{R:Mat}{p q:Nat}(ne:?dm)[?dk]:?OL p=?Cv:=?ag λk=>?BM
def blend_row_q[?es][?dk]:?OL q=?EJ:=?ag λk=>?Qw q
def blend_row_ne[?mw](h1:?e5)(h2:r≠q)[?dk]:?OL r=R r:=?ag λk=>Em h1 h2 a b c d k
def F0.add{n w p q:Nat}[?im][?b5](k:Int):?Nk ?dZ ?ng:=λi j hi hj=>by ext tY;rw[f8];by_cases e1:i=p;{subst e1;rw[Oi];by_cases e2:j=q;{subst e2;rw[Oi,G6,Ek,Ek,?b7,?JR,?s7,?xL];rw[?iQ,?B,?B,?o ?cc];ext d};rw[?ea e2,Ek,?b7,?BE,?RH q j ?lK];ext d};rw[?ea e1];by_cases e2:j=q;{subst e2;rw[Oi,G6,?b7,?CM,?K1];ext d};rw[?ea e2];exact ?b7
def F0.neg{n w p:Nat}[?im][?cs]:?Nk ?eR ?sj:=λi j hi hj=>by ext tY;(have s1:∀(R:Mat),Hm R p p=λc=>-1*?c6+0*?c6:=λR=>?Nc ?zS);have s2:∀(R:Mat) {r:Nat},?e5->Hm R p r=R r:=λR r hr=>?Nc (Bx hr c);rw[f8];by_cases e1:i=p;{subst e1;by_cases e2:j=i;{subst e2;rw[s1,s1,G6,Ek,?qu];rw[?B];ext d};rw[s1,s2 B e2,Ek,?b7,?lK];ext d};by_cases e2:j=p;{subst e2;rw[s1,s2 R e1,G6,?b7,?bI];ext d};rw[s2 R e1,s2 B e2];exact ?b7
def F0.blend{n w p q:Nat}[?im][?b5]{a b c d:Int}(h1:?eh=1):?Nk ?fN ?oo:=λi j hi hj=>by ext tY;have ne':q≠p:=?cc;rw[f8];by_cases e1:i=p;{subst e1;rw[?gt];by_cases e2:j=i;{subst e2;rw[?gt,G6,Ek,Ek,?qu,D q j hq hi,D j q hi hq,D q q hq hq];(ext mX);grind};by_cases e3:j=q;{subst e3;rw[blend_row_q,G6,Ek,Ek,?s7,D j i hq hi,D i j hi hq,D j j hq hq];(ext mX);grind};rw[?pp,Ek,?b7,?BE,?Rh ?lK,show ?MM q j 0 from ?RO e3];ext d};by_cases e4:i=q;{subst e4;rw[blend_row_q];by_cases e2:j=p;{subst e2;rw[?gt,G6,Ek,Ek,?JR,?b7,?xL,?s7];(ext mX);grind};by_cases e3:j=i;{subst e3;rw[blend_row_q,G6,Ek,Ek,D p p hp hp,D j p hi hp,D p j hp hi,?qu];(ext mX);grind};rw[?pp,Ek,D p j hp hj,?b7,?RH p j ?lK,show ?lv from ?RO e3];ext d};rw[?pC e1 e4];by_cases e2:j=p;{subst e2;rw[?gt,G6,?b7,D i q hi hq,?Rh ?bI,?RH i q ?py];ext d};by_cases e3:j=q;{subst e3;rw[blend_row_q,G6,?CM,?b7,?K1,?Rh ?py];ext d};rw[?pp];exact ?b7
abbrev mvI(i s r:Nat):Nat:=if r<s then r else if r=s then i else if ?ay then ?ce else r
def move_row(R:Mat)(i s r:Nat):?aE R i s r=R ?ch:=by funext c;unfold moveR mvI;split;{rfl};split;{rfl};split<;>rfl
def mvI_back{i s:Nat}(hs:s<=i)(r:Nat):(if ?ch<s then ?ch else if ?ch=i then s else if ?ch<i then ?ch+1 else ?ch)=r:=by unfold mvI;by_cases a1:r<s;{rw[?fs,?fs]};rw[?f3];by_cases a2:r=s;{rw[?jb,?o (Nat.not_lt.mpr hs),?B];exact a2.symm};rw[?k3];by_cases a3:?ay;{rw[?w a3,?q,?q,?N];ext d};rw[?o a3,?f3,?q,?q]
def F0.move{n w i s:Nat}[?im][?er]:?Nk ?cB ?p3:=λx y hx hy=>by rw[f8,move_row,move_row];(have l:∀r,r<n->?ch<n:=λr hr=>?qf);have:=h _ _ (l x hx) (l y hy);rw[f8]at this;rw[this];have inj:(mvI i s x=mvI i s y)↔x=y:=#[λe=>by rw[←?JM hs x,e,?JM hs y],?ko _];by_cases e:x=y;{rw[?bs,?w (inj.mpr e)]};rw[?bt,?o λz=>e (inj.mp z)]
structure Good(n W w lo:Nat)(R B R' B':Mat):Prop where
 eqv:∀m,lo<=m->RE W m R R'
 det:∀m,lo<=m->F2 m R R'
 pt:∀a b,?Of B' R'
 dual:?J7->?Nk R' B'
 rest:∀r c,lo<=r->?A9
 restB:∀r c,lo<=r->B' r c=B r c
def Good.refl(n W w lo:Nat)[?aK]:?MY R B:=#[λm _=>RE.refl W m R,λm _=>F2.refl m R,?dM,id,?fS,?fS]
def Good.trans[?n6]{R B R' B' S C:Mat}(h1:?qs)(h2:?aq n W w lo R' B' S C):?MY S C :=#[?OC (?SQ h1.eqv h2.eqv),?OC (?SQ h1.det h2.det),λa b=>(h2.pt a b).trans (h1.pt a b),λd=>h2.dual (h1.dual d),?Mu (?Ru h2.rest h1.rest),?Mu (?Ru h2.restB h1.restB)]
def Good.mono{n W w lo lo':Nat}[?n0](h:?qs)(hl:lo<=lo'):?S8 lo':=#[?OC (h.eqv m ?g),?OC (h.det m ?g),h.pt,h.dual,?Mu (h.rest r c ?g),?Mu (h.restB r c ?g)]
def Good.add{n W w lo p q:Nat}[?aK][?Lx](k:Int):?MY ?dZ ?ng :=#[?N8 yQ k,?N8 YQ k,λa b=>JX B R ?g ?g ne k a b,λd=>d.add ?g ?g ne k,?Ib,?Ib]
def Good.neg{n W w lo p:Nat}[?aK](hp:p<lo)(hn:?js):?MY ?eR ?sj :=#[?OC (xP R ?g),?OC (xQ R ?g),λa b=>Ah3 B R a b,λd=>d.neg ?g,?zz,?zz]
def Good.blend{n W w lo p q:Nat}[?aK][?Lx][?ml]:?MY ?fN ?oo :=#[?N8 qS h,?N8 QS h,λx y=>HE B R ?g ?g ne h x y,λe=>e.blend ?g ?g ne h,?vQ,?vQ]
def Good.move{n W w lo i s:Nat}[?aK](hi:i<lo)(hs:s<=i)(hn:?js):?MY ?cB ?p3 :=#[?OC (TH R ?g hs),?OC (iC (i-s) R ?g ?g),λa b=>xF B R ?g hs a b,λd=>d.move ?g hs,?vK,?vK]
def F0.row{n w i:Nat}[?im][?cY]:∃c,c<n/\?s8≠0:=by apply qh0 ?df;have e:=h i i hi hi;rw[?B]at e;unfold pD at e;rw[?aI ?cZ]at e;{cases e};have:?s8=0:=?SC y;ext cS
def MX{x h:Int}{K:Nat}(hh:0<h)(hx:x.natAbs<=K*h.natAbs):?E6<=K:=by have e:(h.natAbs:Int)=h:=O9m;(have hx':(x.natAbs:Int)<=?jp*h:=by rw[←e];exact_mod_cast hx);(have u1:x / h<=?jp:=by have:x<=?jp*h:=O9m;exact Int.ediv_le_of_le_mul hh ?Y);(have u2:-?jp<=x / h:=by apply(Int.le_ediv_iff_mul_le hh).mpr ?_;rw[qp9];ext d);ext d
structure Part(R:Mat)[?F](f m:Nat):Prop where
 inc:∀j k,?eI->j<k->k<m->?m2
 zero:∀j c,?QI ?o1
 pos:∀j,?QI ?i2
 red:∀k j,f<=k->k<j->j<m->?sy
structure RD(n W w lo:Nat)[?aK][?F](p f m j μ:Nat)(R' B':Mat):Prop where
 good:?qs
 same:?EM
 left:∀c,(?Q6 m (c<?H))->?hf=?c6
 red:?Q6 j ?Bc
 rel:∀l,j<=l->l<m->?MT ?ee ?l6
 ins:∀W',∃v:?r,In W' lo R v/\∀c,?hf=?c6+v c
def RD.start[?n6][?cX][?p]{p f m μ:Nat}[?LQ]:?Mi f R B :=#[?kc,?fS,?dM,λl h1 h2=>O9m,?NJ (by rw[qh7,qy1,qf9];exact h l h1 h2),λW'=>#[?cj,?o7 W' lo R,λc=>?S3 ?c6 ?c6 0]]
def DO[?es]:?G R p q 0=R:=by funext r c;ext gU;{subst e;rw[Cv];ext d};exact ?rL
def RD.step[?n6][?n0][?p]{p f m j μ:Nat}(h:?Mi j R' B')(P:?mO)(hf:?eI)(hj:j<m)[?Lr] : ?Bd<=?SP j/\?Mi ?I ?yx ?GI:=by have hh:=P.pos j hf hj;have ne:p≠j:=O9m;have q1:=MX hh (h.rel j ?m hj);apply#[q1,?_];generalize hq:?iJ=q at q1;have rj:∀c,?EE:=λc=>h.same j c ?cc;apply#[?kb ?_,?Ez,?cZ,?fb,?fb,λW'=>?_];{have:=?K3 (n:=n) (W:=W) (w:=w) (lo:=lo) R' B' hp (?ME (j<lo)) hn ne ?dH;rw[qp8]at this;exact this};{rw[Du hr];exact h.same r c hr};{rw[Cv,?Q1 h.left,rj,?tN j c hf hj (hc j hf hj)];simp};{rw[Cv,rj];by_cases e:l=j;{subst e;have d1:=qo1 ?ee (?ME (?e6≠0));have d2:=qk9 ?ee hh;have d3:=Int.mul_ediv_add_emod ?ee ?e6;rw[hq]at d3;have d4:?e6*q=q*?e6:=?r3;rw[qp9];ext d};have z:?gn=0:=?tN j _ hf hj (P.inc l j h1 ?g hj);rw[z,qd4,qg0,qd8];exact ?fH l h1 ?g};{rw[Cv,rj];have a:=?RT h.rel;let ?H7:=P.red j l hf ?g h2;have b:?MT ?gn ?d1:=O9m;have c:=qf4 (1*?ee) ?vg;rw[qd8]at c;rw[qd8];(have d:?MT ?vg ?l6:=by rw[qb5,qd3];exact qf6 q1 b);rw[?ME (?I-f=(j-f)+1),qh8];(have e:2 ^ (j-f)*2*μ*?d1=?l6+?l6:=?a0);ext d};let#[v,hv,hc]:=h.ins W';apply#[λc=>1*v c+?dH*?dK,hv.mix ?As 1 ?dH,λc=>?_];rw[Cv,hc c,rj];grind
abbrev Bits(n W b:Nat)(R:Mat):Prop:=?Mq W (?gF<?R)
def IX{x y a k:Int}{b c:Nat}(hx:?SS ?R)(hy:y.natAbs<?R)(ha:a.natAbs<?W)(hk:?zx):?uu<2 ^ ?gg:=by
 have e:=?IS;rw[qb5,qb5]at e;have u:a.natAbs*x.natAbs<?lw:=?Nf ql9 ha hx
 have v:k.natAbs*y.natAbs<?lw:=?Nf ql9 hk hy
 rw[?ov,qh8];ext d
def Bits.mono{n W b b':Nat}[?io](hb:b<=b'):?Oa b' R:=?KO
def Bits.add{n W b c p q:Nat}[?io][?cs][?tp]:?Oa ?gg ?dZ:=λr x hr hx=>by ext gU;{subst e;rw[Cv];(have h1:(1:Int).natAbs<2 ^ ?ao:=by have:1<=?W:=qm1;rw[qh8];show 1<_;ext d);have e1:=qf4 (1*?hN) (k*R q x);rw[qd8,qb5]at e1;rw[qd8];(have u:k.natAbs*(R q x).natAbs<?lw:=?Nf ql9 hk ?J8);have v:?Gt<?lw:=?Id;rw[?ov,qh8];ext d};rw[Du e];exact ?Id
def Bits.blend{n W b e p q:Nat}[?io][?b5][?L2]:?Oa ?wm ?um:=?ML (by by_cases e1:r=p;{subst e1;rw[?cH];exact IX ?cl ?zm hx hy};by_cases e2:r=q;{subst e2;rw[Jv];exact IX ?AO ?cl hz hu};rw[?vd];exact qb6 ?cl ?jW)
def Bits.neg{n W b p:Nat}[?io]:?Oa b ?eR:=?ML (by unfold Hm;ext gU;{subst e;rw[Bp,qd3];exact ?cl};rw[?ds];exact ?cl)
def Bits.move{n W b i s:Nat}[?io][?er]:?Oa b ?cB:=?ML (by rw[move_row];exact h _ c ?qf hc)
structure Eb[?gK](R0 B0:Mat)[?F](π b:Nat)(spot:Nat)[?aK]:Prop where
 good:?rZ
 zero:?Hv
 pos:?Ep
 old:∀j c,spot<=j->j<i->?dK=R0 j c
 pass:∀j c,?hj->c<=?A->?fQ
 pv:∀l,spot<=l->?SK R
 gc:?Q4 (2 ^ ?kZ)
structure Kx[?gK](R0 B0:Mat)[?F](π b:Nat):Prop where
 hi:?x
 part:?de R0 t 0 i
 lt:?nY
 hd:?MS i ((?CD).natAbs<=?a1)
 rw:?Rf i (G c->?MT ?qH ?R)
 ri:∀c,G c->?Ma R0 c ?R
 rp:∀l,?SK R0
def Part.sub{R:Mat}[?p]{f f' m:Nat}(h:?mO)(hf:f<=f'):?Qh f' m:=#[λj k h1=>?cF j k ?g,λj c h1=>?au j c ?g,λj h1=>?gd,λk j h1=>?fH k j ?g]
def Part.congr{R R':Mat}[?p]{f m:Nat}(h:?mO)(e:∀j c,?QI ?EE):?de R' t f m :=#[?cF,λj c h1 h2 h3=>by rw[e j c h1 h2];exact ?zw,?Nz (by rw[e j _ h1 h2];exact ?aO j h1 h2),λk j h1 h2 h3=>by rw[e k _ h1 ?h,e j _ ?h h3];exact ?Fe]
def Eb.start[?aX]{R0 B0:Mat}[?p]{π b:Nat}(h:?nZ):?MK 0 R0 B0:=by apply#[?kc,?SG (h.part.zero j c ?Q hj hc),?Md (h.part.pos j ?Q hj),?rw,?kS,λl _ hl=>h.rp l hl,?dE];have e:?R<=2 ^ (?fp+0*?ct):=?jW;by_cases z:r=i;{subst z;exact qa5 (?Q1 h.ri) e};exact qa5 (?Pu h.rw r) e
def Eb.skip[?aX][?dj][?p][?iv](h:?oV)(hz:∀c,?fT->?fQ):?MK ?D R B:=by apply#[h.good,?au,?aO,?Qq ?bh,?eU,?Pe (h.pv l ?g),?ML (qa5 ?pL (qe9 ?aA ?_))];{by_cases e:?br;{subst e;exact ?Q1 hz};exact ?Pu h.pass j};rw[qg2];ext d
structure AS[?gK][?aK][?F](b p spot μ:Nat)(R' B':Mat):Prop where
 good:?S8 ?l
 same:?EM
 left:∀c,?fT->?hf=?c6
 red:?Me ?Bc
 gc:∀c,G c->?BR<=?Hn+?Qj μ
structure BY[?gK][?aK][?F](b p spot μ j:Nat)(R' B':Mat):Prop where
 s:RD n W w ?l R B t p ?D i j μ R' B'
 gc:∀c,G c->?BR+μ*?R<=?Hn+?qx
def BY.start[?aX][?cX][?p][?uM][?td]:?Mb ?D R B :=#[?KP ?Hy,λc _=>by rw[qh7,qy1,qf9];exact ?m]
def BY.step[?aX][?n0][?p]{b p spot μ j:Nat}(h:?Mb j R' B')[?u8][?ti](hf:spot<j)(hj:j<i)[?u2] : ?Bd<=?oQ/\?Mb ?I ?yx ?GI:=by let#[q,s]:=h.s.step P ?g hj ?g ?g ?g ?g;apply#[qa5 q (qc2 _ ?jW),s,?cZ];have ne:p≠j:=O9m;rw[Cv,?F6 j c ?cc];have a:=?JT;have e:=qf4 (1*?hf) (-?iJ*?dK);rw[qd8,qb5,qd3]at e;rw[qd8];have m:=qf6 q (hG j c hf hj hc);rw[?ME (?I-?D=?oP+1),qh8];(have z:2 ^ ?oP*2*μ*?R=?qx+?qx:=?a0);ext d
def BY.done[?aX][?n0][?p][?uM](h:?Mb i R' B')(P:?nl):?PY R' B' :=#[h.s.good,?F6,λc hc=>h.s.left c (?NJ (by have:=?RT P;ext d)),?NJ (?RT h.s.red),?OU (by have:=?JT;ext d)]
def Dw{a b:Nat}(h:a<=b):2 ^ a<=?R:=?EA
def XS{x y a b:Nat}(hx:x<=2 ^ a)(hy:y<=?R):x*y<=?Po a b:=?Nf qf6 hx hy
def Eb.addPre[?aX][?dj][?p][?iv][?di][?dl]{q:Int}(hq:?rT) : ?Me ((?SU i).natAbs<=?ic*(?SU l).natAbs):=λl h1 h2=>by rw[Cv,Du ?nL];ext Kg;have a:=?ou;have e:=qf4 (1*R i ?H) (-q*?Jb);rw[qd8,qb5,qd3]at e;rw[qd8];have m:q.natAbs*?vM<=?jQ:=qf6 hq ?g;have m2:?a1*1<=?jQ:=?pP;rw[qh8];(have z:?a1*2*?d1=?jQ+?jQ:=?a0);ext d
def Eb.metAdd[?aX]{R0 B0 R B R2 B2:Mat}[?p][?iv][?di][?dl]{q:Int}(hq:?rT)[?mi][?M3] (S:AS n W w i G ?uT ?xr t b i ?j ?ic R2 B2):?MK ?D R2 B2:=by have ne:i≠spot:=O9m;(have keep:∀r c,?l4->R2 r c=?bY:=?Mu (by rw[?fD r c hr,Du hr]));apply#[?_,λj c hj hc=>?Ni ?D9 ?xQ,?Md (by rw[?d9 j _ ?h];exact ?k7),λj c hj hji=>?Ni ?D9 ?Dd,?eU,?fb,?dE];{have g:=?K3 (n:=n) (W:=W) (w:=w) (lo:=?l) R B ?xN ?Ca ?bn ne ?dH;rw[qp8]at g;exact ?K6 S.good};{(have ts:?fT:=by by_cases e:?br;{rw[←e];exact hc};ext Li);rw[S.left c ts,Cv];by_cases e:c=?bP;{rw[e,he,qd8,qp9];ext d};rw[?vT,?au ?j c hs ?h];simp};{let#[a,c]:=?RT S.red;rw[Du ?nL]at c;have d:=?G4;rw[←?q8]at d;ext d};ext Ks;generalize hz2:?kZ=z;(have hzb:?fp<=z:=?zr);by_cases e:r=i;{subst e;have a:=?Q1 S.gc;have g:=?fi r c ?m hc;rw[hz2]at g;(have rs:?Gu:=?vN);have e1:=qf4 (1*?bY) (-q*?fw);rw[qd8,qb5,qd3]at e1;rw[Cv,qd8]at a;have m1:=XS hq rs;(have m2:2 ^ (r-?D)*?ic*?R<=?sG:=?wO);have m3:?Po π b<=?sG:=?rb;(have m4:4*?sG=2 ^ z:=?NX z (z-2));(have m5:2*2 ^ z<=2 ^ ?xm:=by rw[?ME (?xm=1+(z+π)),qe5];exact qf6 ?aA ?aS);ext d};rw[?d9 r c e];have g:=?pL;rw[hz2]at g;exact qa5 g ?aS
structure NX(π:Nat)(h0 o0 x y z u:Int):Prop where
 one:x*u-y*z=1
 hd:0<x*h0+y*o0
 ot:z*h0+u*o0=0
 lx:?rp
 ly:?nd
 lz:?QS z.natAbs
 lu:?QS u.natAbs
def MP{x y a c:Int}{π h:Nat}(hx:?rp)(hy:?nd)(ha:a.natAbs<=h)(hc:?QS c.natAbs)(h1:1<=h):(x*a+y*c).natAbs<=?bX*h:=by
 have e:=qf4 (x*a) (y*c);rw[qb5,qb5]at e;have m1:x.natAbs*a.natAbs<=?kF:=qf6 (qa5 hx ?aS) ha;have m2:y.natAbs*c.natAbs<=?kF:=qa5 (XS hy hc) (by rw[?ME (π+π=?fX)];exact qi6 _ h1);rw[qh8];have z:2 ^ ?fX*2*h=?kF+?kF:=?a0
 ext d
def Eb.blendPre[?aX][?dj][?p][?iv][?di][?dl][?te] : (?MW ?j)/\(?MW i):=by have ne:?tH:=O9m;(have base:?Me (?vM<=?d1/\1<=?d1):=?NJ (by ext Kg;ext d));apply#[?fb,?fb];{rw[?cH,?qL];exact ?Q0 e.lx e.ly};rw[Jv,?qL];exact ?Q0 e.lz e.lu
def Eb.metBlend[?aX]{R0 B0 R B R2 B2 R3 B3:Mat}[?p][?iv][?di][?dl][?te][?mi] (S1:AS n W w i G ?sT (?a7 B ?j i u (-z) (-y) x) t b ?j ?j ?bX R2 B2) (S2:AS n W w i G R2 B2 t b i ?j ?bX R3 B3):?MK ?D R3 B3:=by have ne:?tH:=O9m;(have keep:∀r c,?l4->?B6->R3 r c=?bY:=λr c h1 h2=>by rw[S2.same r c h1,?gb r c h2,Em h2 h1]);have rs:∀c,R3 ?j c=R2 ?j c:=λc=>S2.same ?j c ne;(have r2i:∀c,R2 i c=z*?fw+u*?e4:=λc=>by rw[?gb i c (λw=>ne w.symm),Jv]);have gz:?Rz ?bP (?fw=0):=?OU (?au ?j c hs hc);apply#[?_,?eU,?aT,λj c hj hji=>by rw[?d9 j c ?h ?h];exact ?Dd,?eU,?fb,?dE];{have g:=Good.blend (n:=n) (W:=W) (w:=w) (lo:=?l) R B ?Ca ?xN ?bn ne e.one;exact(?K6 S1.good).trans S2.good};{by_cases e1:?br;{subst e1;rw[rs,S1.left c ?h,?cH,?Q1 gz,?Q1 hz];simp};rw[?d9 j c ?h e1];exact ?xQ};{by_cases e1:?br;{subst e1;rw[rs,S1.left _ ?m,?cH];exact e.hd};rw[?d9 j _ ?h e1];exact ?k7};{(have ts:?fT:=by by_cases e1:?br;{rw[←e1];exact hc};ext Li);rw[S2.left c ts,r2i];by_cases e1:c=?bP;{rw[e1];exact e.ot};rw[?vT,gz c ?h];simp};{let#[a,c]:=?RT S2.red;rw[?xf,?qL]at c;have d:=?G4;rw[←?q8]at d;ext d};ext Ks;have g0:=?Pu ?fi ?j;have gi:=?fi i c ?m hc;have gr:=?pL;generalize hz2:?kZ=zz at g0 gi gr;(have hzb:?fp<=zz:=?zr);(have rsb:?Gu:=?vN);(have bnd:∀{x y:Int},?rp->?nd->(x*?fw+y*?e4).natAbs+?Qj ?bX<=2 ^ ?pN:=λ{x y} hx hy=>by have e1:=qf4 (x*?fw) (y*?e4);rw[qb5,qb5]at e1;have m1:=XS hx rsb;have m2:=XS hy gi;(have m3:?Qj ?bX<=?si:=?wO);have m4:?Po π b<=?si:=?rb;(have m5:4*?si=2 ^ zz:=?NX zz ?x0);have m6:2 ^ zz<=2 ^ ?tT:=?aS;(have m7:2 ^ ?pN=2*2 ^ ?tT:=by rw[?ME (?pN=1+?tT),qe5,Nat.pow_one]);ext d);by_cases e1:r=i;{subst e1;have a:=?Q1 S2.gc;rw[r2i]at a;exact qa5 a (bnd e.lz e.lu)};by_cases e2:?nH;{subst e2;have a:=?Q1 S1.gc;rw[?cH]at a;rw[rs];exact qa5 a (bnd e.lx e.ly)};rw[?d9 r c e1 e2];exact qa5 gr ?aS
abbrev insT[?F](s st:Nat):?J:=λr=>if r<s then t r else if r=s then st else t ?ce
structure YU[?gK](R0 B0:Mat)(t1:?J)(Y:Nat)[?aK]:Prop where
 good:?rZ
 s0:Jl ?l R t1
 lt:?O9 (?pB<W)
 pg:?O9 (G ?pB)
 gc:?Q4 ?ln
def Eb.ins[?aX][?dj][?p]{π b spot st:Nat}[?di][?Kq] : ?NF ?Bq ?FM:=by (have row:∀c,?Fc=?e4:=λc=>by ext gL;rw[?q,?B]);(have lo:?Rf spot (?li=?bY):=?Mu (by ext gL;rw[?pk]));(have up:?Oz (?ay->?li=R ?ce c):=λr c hr hi=>by ext gL;rw[?q,?q,?j9]);have gm:?aq n W w ?l R0 B0 ?hQ ?sb:=?kb (Good.move R B ?g hs ?bn);(have tl:∀j,?hj->?A<st:=?Md (by apply ql0 λz=>h1 (h.pass j st hj z)));(have inc:∀j k,j<k->k<?l->?h2<?Pn st k:=λj k hjk hk=>by unfold insT;by_cases a1:?hj;{rw[?fs];by_cases b1:k<spot;{rw[?w b1];exact ?fY j k ?Q hjk ?g};rw[?o b1];by_cases b2:k=spot;{rw[?w b2];exact tl j a1};rw[?o b2];exact ?OZ j};rw[?f3,?RX (k<spot),?RX (k=spot)];by_cases a2:?br;{rw[?jb];have e:=hex ?g;by_cases e2:?hH=spot;{rw[e2];exact e};exact qv8 e (?OZ ?j)};rw[?k3];exact ?OZ ?dO);(have zero:∀j c,?jC->c<?h2->?Ob j c=0:=?SG (by unfold insT at hc;by_cases a1:?hj;{rw[?fs]at hc;rw[lo j c a1];exact ?Pu ?au j};rw[?f3]at hc;by_cases a2:?br;{rw[?jb]at hc;rw[a2,row];exact ?Q1 h0};rw[?k3]at hc;rw[up j c ?h ?h];exact ?Pu ?au ?dO));(have A24:∀j,?jC->j≠spot->0<?Ob j ?h2:=λj hj hne=>by unfold insT;by_cases a1:?hj;{rw[?fs,lo j _ a1];exact ?gd};rw[?f3,?oS,up j _ ?h ?h];exact ?aO ?dO ?g);(have ts:?Pn st ?j=st:=?q4);(have bd:∀r c,?ay->G c->?MT ?li (2 ^ ?g0):=?ML (by rw[move_row];(have lm:mvI i ?j r<=i:=by unfold mvI;by_cases a1:r<spot;{rw[?fs];ext d};rw[?f3];by_cases a2:?nH;{rw[?jb];ext d};rw[?k3,?pk];ext d);apply qa5 (?fi _ c lm hc) (Dw ?_);have:=qc2 ?ct hs;ext d));(have lt:?O9 (?h2<W):=?Md (by unfold insT;split;{exact ?Rw H.lt};split;{exact hW};exact H.lt ?dO ?g));(have pg:?O9 (G ?h2):=?Md (by unfold insT;split;{exact ?Rw hpg};split;{exact hG};exact hpg ?dO ?g));by_cases neg:?hV;{rw[?w neg,?w neg];have nr:∀c,Hm ?hQ ?j ?j c=- ?Fc:=λc=>Bp ..;have nn:∀r c,?B6->Hm ?hQ ?j r c=?li:=?Mu (Bx hr c);apply#[gm.trans (Good.neg _ _ ?g ?bn),#[inc,?eU,?aT],lt,pg,?dE];{by_cases e:?br;{have z:=?BG;rw[e]at z ⊢;rw[nr,z];rfl};rw[nn j c e];exact ?BG};{by_cases e:?br;{rw[e,nr,ts];ext d};rw[nn j _ e];exact ?J3};by_cases e:?nH;{have z:=?GL;rw[e]at z ⊢;rw[nr,qd3];exact z};rw[nn r c e];exact ?GL};rw[?o neg,?o neg];apply#[gm,#[inc,zero,?aT],lt,pg,bd];by_cases e:?br;{rw[e,ts];(have:?wD≠0:=by rw[row];exact h1);ext d};exact ?J3
structure P4(n W w i:Nat)(R0 B0:Mat)[?F](k:Nat)[?aK]:Prop where
 good:?rZ
 s0:?Du
 old:?Rf k (?bY=?qH)
 red:∀r j,k<=r->r<j->?bW->0<=R r ?A/\R r ?A<?ae
 hd:?O9 (?ae=?CD)
def P4.start{n W w i:Nat}[?cX][?p](h:?Du):P4 n W w i R B t ?l R B:=#[?kc,h,?fS,λr j h1 h2 h3=>O9m,?dM]
def P4.part{n W w i:Nat}[?dj][?p]{k:Nat}(h:?OX k R B):?Qh k ?l:=#[λj l _ h1 h2=>?tM j l h1 h2,λj c _ h1 h2=>?w8 j c h1 h2,λj _ h1=>?HR j h1,λr j h1 h2 h3=>?fH r j h1 h2 ?g]
def P4.next{n W w i:Nat}{R0 B0 R B R' B':Mat}[?p]{k μ:Nat}(h:?OX ?V R B)(hk:k<=i)(S:RD n W w ?l R B t k ?V ?l ?l μ R' B'):?OX k R' B':=by (have tl:∀c,c<=?a2->R' k c=?jv:=λc hc=>S.left c λl h1 h2=>?N7 ?tM l h2);apply#[?kb S.good,#[?tM,?eU,?aT],?Ez,λr j h1 h2 h3=>?_,?aT];{by_cases e:j=k;{subst e;rw[tl c ?h];exact ?ze};rw[?fD j c e];exact ?ze};{by_cases e:j=k;{subst e;rw[?vA];exact ?FI};rw[?IT];exact ?FI};{rw[?fD r c ?h];exact ?bh r c ?g};{rw[?fD j _ (?ME (j≠k))];by_cases e:r=k;{subst e;exact S.red j ?g ?g};rw[?fD r _ e];exact ?fH r j ?g h2 h3};by_cases e:j=k;{subst e;rw[?vA];exact ?BI};rw[?IT];exact ?BI
structure Eg[?gK](M B0:Mat)[?F][?aK]:Prop where
 good:?Om i M
 st:D5 W i R t
 pg:?qB
def Eg.start(n W w:Nat)[?u7][?F]:Eg n W w 0 G M B0 t M B0:=#[?kc,#[?gB,λj k _ hk=>O9m,?kS,?gB,λk j _ hj=>O9m],?gB]
def Eg.next[?aX]{M B0 R B R1 B1 R2 B2:Mat}{t t1:?J}{Y:Nat}[?en](I:?O1 R B t1)(D:?Ig):Eg n W w ?l G M B0 t1 R2 B2 :=#[((h.good.mono ?g).trans I.good).trans D.good,#[?Md (?Rw I.lt),D.s0.inc,D.s0.zero,?Es,λk j h1 h2=>D.red k j ?Q h1 ?g],?Md (?Rw I.pg)]
def Eg.rows{n W w:Nat}[?bb][?p][?ty](hw:w<=W):E7 n w M R:=by have e:=?w4;have cut:∀{S:Mat}{v:?r},In W n S v->?OI S v:=λ ?aQ=>#[x,?OU (hx c ?g)];apply#[λi hi=>cut (e.1 i hi),λi hi=>cut (e.2 i hi),?_];(obtain⟨r,hr,h1,h2⟩:?DW:=by (have:?Jq:=by intro m;induction m with| zero=>ext LV| succ m ih =>ext LW;{(have hrm:r=m:=?OS ?i9);exact ?xi};ext L3);exact ?Iu);exact#[r,t,hr,?Fw,?Ei]
abbrev unit(e:Int)(j:Nat):?r:=λc=>if c=j then e else 0
noncomputable abbrev tr(T:Mat):Mat:=?IY
structure Jm(n w r:Nat)(e:Int)(T:Mat):Prop where
 rn:?bC
 rw:?eS
 row0:?zQ
 col0:?x7
 rows:?BX
 cols:?Al
def Jm.flip[?mn](h:?lB):Jm w n r e ?d8:=#[h.rw,h.rn,?Rp (?rs c i h3 h1 h2),?Rp (h.row0 c i h2 h3 h1),h.cols,h.rows]
def Uu{n w r r':Nat}{e:Int}{T:Mat}[?p](he:0<e)(hr:?eS)(hr':r'<=n)(hst:D5 w r' T t)(hz:?P0 (r'<=i) ?Cb)[?LH] : r'=r/\?rr/\?kD:=by (have tl:?MS r' (?A<r):=?Md (by ext gO;have p:=?lV;rw[hc j ?A ?h z (?fG j hj)]at p;ext d));(have main:∀j,j<=r->j<=r'/\(?Ng j ?kq)/\?Ng j (?ab∣e):=by intro j;induction j with| zero=>intro _;exact#[?Q,?ql,?ql]| succ j ih =>intro hj;let ?A4:=?cL;let ?aQ:=(?Rw Mq).sub hr' hz;(have v0:?Ng j (?b4 e j ?a2=0):=?Q7 (by rw[b k hk];exact ?o ?g));let#[x0,x1]:=?p4 hx j a v0;have ej:?nM=e:=?B;(have lt:j<r':=by ext gO;(have:?nM=0:=by rw[?BH];exact ?NI (?ST ?h));ext d);(have tj:?A=j:=by apply ?PH (?hU j lt);(have:?nM=0:=by rw[?BH];apply ?aI ?hS;by_cases e1:k<j;{rw[x0 k e1];simp};rw[?eG k j hk (qb6 z (?xC j k ?h hk))];simp);ext d);have d:=x1 lt;rw[tj,ej]at d;apply#[lt,?hS,?hS];{by_cases e1:k=j;{rw[e1];exact tj};exact b k ?g};by_cases e1:k=j;{rw[e1];exact#[x j,by rw[d,qe8]]};exact c k ?g);let ?A4:=main r ?m;apply#[?PH a,b,c];have:=tl r z;have:=?hU r z;ext d
def Zs[?mn][?p](KP:?bC)(hrw:?eS)[?Lb][?LH]:?Al:=by (have ch:∀j,∃x:?r,j<r->?Mx (?w0=?n ?Gr r):=λj=>by by_cases hj:j<r;{let ?aQ:=(?Oy Mq).sub KP hz;exact ?GS};exact#[?cj,λz=>?c7 z hj]);obtain⟨X,hX⟩:∃X:?cd,?MS r (∀c,c<w->?w0=?R5 (X j k*?cJ) r):=?PO ch;(have key:∀i,i<r->?MS r (?n (λc=>?dx*X c j) r=?Eb):=by intro i hi;(have hz0:?Mx ((?Dz) c=?v1):=by intro c hcw;(have e1:?v1=?Nb (?n (λd=>?tD*?ed) r+?Z*(?qZ*(e*?ed))) r:=by apply Ad λj _=>?_;rw[Int.sub_mul,←B9];by_cases z:i=j;{subst z;rw[?B,?B];ext d};rw[?cg,?o λy=>z y.symm];ext d);rw[e1,Cq,Ax,D6 (λj=>e*?ed) i r,?j9,Bs];(have e2:?n (λd=>?Nb (?tD*?ed) r) r=?n (λd=>T i d*?b4 e d c) r:=by apply Ad ?kt;rw[hX d hd c hcw,←Ax];exact Ad λj _=>qd1 ..);rw[e2];show ?fC=_;by_cases hcr:c<r;{rw[?aU (j:=c) hcr λd hd hne=>by show ?SV 0;rw[?o ?qU];simp];show ?fC=?OO ?dx c+-1*(e*?dx);rw[?B,qe8];ext d};rw[?aI λd hd=>by show ?SV 0;ext ep;simp,hc i c ?h ?h hcw];simp);let#[a,_]:=?p4 hz0 r ?m ?dM;intro j hj;have:=?Oy a;ext d);intro i hi;apply#[λc=>if c<r then X c i else 0,λc hcn=>?_];show ?b4 e i c=?z3;(have e1:?z3=?EV:=by (have:∀m,r<=m->?gk->?n ?EI m=?EV:=by intro m;induction m with| zero =>intro h1 _;have:r=0:=O9m;subst this;rfl| succ m ih =>intro h1 h2;by_cases q:r=?U;{subst q;apply ?tF;rw[?w hk,qe8]};show ?n _ m+?Pa m m m=_;rw[?K9,?q];simp);exact ?Y w hrw ?m);rw[e1];by_cases hcr:c<r;{rw[key c hcr i hi];rfl};rw[?NI (by rw[hz c k ?h hcn ?h];simp)];exact ?o ?g
def E7.square{n w r:Nat}{e:Int}[?u5][?mo]:Jm n w r e T'/\∃t,?h4/\?rr/\?MS r (T' j j∣e):=by let#[r',t,hr',hst,hz]:=s.st;(have hc:?P0 ?x (r<=c->?vb):=?Ms s.fwd (by rw[?rs k c hk h1 h2];simp));have Mq:?MS r (In w n T' ?KS):=?Md ((h.rows j hj).trans s.bwd);let ?BD:=Uu he h.rw hr' hst hz hc Mq;subst e1;exact#[#[h.rn,h.rw,hz,hc,Mq,Zs h.rn h.rw hst hz hc Mq],t,hst,e2,e3]
def oK[?mn][?p][?mo](hst:?z2)(ht:?rr)(hd:?kD){i c:Nat}[?cY](hc:c<w):?Gh:=by by_cases a:i<r;{by_cases b:c<r;{have l:=qm2 he (hd c b);rcases ql4 i c with z | z | z;{have:=hst.red i c z b;rw[ht c b]at this;ext d};{subst z;have:=?jI i a;rw[ht i a]at this;ext d};rw[?eG i c a (by rw[ht i a];exact z)];ext d};rw[?rs i c hi ?h hc];ext d};rw[h.row0 i c ?h hi hc];ext d
def kW{n w r:Nat}{T:Mat}[?p](KP:?bC)[?Lb]:?Sb ?pU:=by (have main:∀m i,i<m->m<=r->?O4 ?hD:=by intro m;induction m with| zero=>intro i hi;(ext d)| succ m ih =>intro i hi hm;by_cases q:i<m;{exact ih i q ?g};have qi:i=m:=O9m;subst qi;(have up:∀k,k<=i->In n w ?d8 (λd=>?n ?Au k):=by intro k;induction k with| zero=>intro _;exact ?Aw| succ k ihk =>intro hk;have hk2:=ih k ?g ?g;(obtain⟨g,hg⟩:∃g,?iN=?o4*g:=by (have:?QT ?V ?o4:=?MP ?V);exact ?CT);apply((ihk ?g).mix hk2 1 (T k ?bO*g)).congr ?xw;show 1*?n _ k+?NZ (T k ?bO*g) k ?o4=?n _ k+?NZ (T k ?bO*?iN) k 1;rw[hg];by_cases z:d=k;{rw[?aW,?aW];grind};rw[?cg,?cg];ext d);have col:In n w ?d8 (tr T ?bO):=?a6 ?ID;apply(col.mix (up i ?m) ?iN ?Z).congr ?kt;show ?iN*T d ?bO+-1*?n ?Au i=?pV;by_cases z:d<i;{rw[?aU (j:=d) z λl hl hne=>by rw[?o ?qU];simp,?B];rw[show ?pV=0 from ?q];grind};rw[?aI λl hl=>by ext ep;simp];by_cases z2:d=i;{subst z2;rw[show ?b4 ?HC d d=?HC from ?B];show _=?Rs d*T d (t d);ext d};rw[show ?pV=0 from ?o z2];(have:T d ?bO=0:=by by_cases z3:d<r;{exact ?KB z3 ?g};exact hz d _ ?g hd ?ID);ext cS);intro i hi;(obtain⟨g,hg⟩:∃g,?pU=?hD*g:=by (have:?QT ?l ?hD:=?MP ?l);exact ?Y r hi);apply((main r i hi ?m).mix ?Aw g 0).congr ?xw;show ?NZ g i ?hD+0*0=if d=i then ?pU else 0;by_cases z:d=i;{rw[?aW,?aW,hg];grind};rw[?cg,?cg];ext d
def Xk.square[?bf]{T T' Oj:Mat}{r:Nat}[?p][?L1]:?eS/\Jm n w r ?ez Oj/\∃u,D5 n r ?hO u/\?Js/\?MS r (Oj j j∣ ?ez):=by ext LF;let#[q,u,hq,bK,UA]:=s2.st;(have hrw:?eS:=by by_cases z:r=0;{ext d};have:=?hU ?ce ?g;have:=?fG ?ce ?g;ext d);(have hc:∀i c,i<w->r<=c->c<n->tr Oj i c=0:=?Ms s2.fwd (by rw[show tr T' k c=0 from hz c k h1 h2 hk];simp));have Mq:?MS r (In n w ?hO (?b4 ?ez j)):=?Md ((kW hr hst hz j hj).trans ?mJ);let ?BD:=Uu he hr hq bK UA hc Mq;subst e1;have sq:Jm w n q (?v ?FB q) ?hO:=#[hrw,hr,UA,hc,Mq,Zs hrw hr bK UA hc Mq];exact#[hrw,?qk,u,bK,e2,e3]
def RT:∀{n:Nat}{A:Mat},(?Mq n (?uc<=1))->(∀c r r',c<n->r<n->r'<n->?fL≠0->A r' c≠0->r=r')->?CV<=1| 0,_,_,_=>by simp[det]| ?u,A,h1,h2=>by show ?BQ<=1;by_cases e:∃r,r<?u/\A r 0≠0;{let#[r,hr,hne]:=e;rw[?aU (j:=r) hr λk hk hkr=>?RP hkr (h2 0 k r ?h hk hr z hne)];rw[qb5,qb5,Y2,qf9];(have ih:=RT (n:=n) (A:=Gy A r) (?OA (h1 _ _ ?bS ?g)) λc x x' hc hx hx' a b=>by have:=h2 ?ao (if x<r then x else x+1) (if x'<r then x' else x'+1) ?g ?bS ?bS a b;split at this<;>split at this<;>ext d);exact qa5 (qf6 (h1 r 0 hr ?g) ih) ?aA};rw[?NI (?RP e #[k,hk,z])];decide
def Ze{n p:Nat}(A:Mat)[?cs](a:?r)(U:Mat):∀m,?MU A p ?Jd=?qv| 0=>by show ?MU A p (λc=>?fC)=0;exact Vq hp λc _=>Bp ..| ?U=>by (have e:?QL ?yV ?Jd ?hn:=?Nc (?S3 (?rz+?hn) (1*?rz) ?hn));rw[e,Fs A _ _ 1 (a m) hp,Ze A hp a U m];show 1*?qv+?SL m=?qv+?SL m;rw[qd8]
abbrev Yg(s:?J):Mat:=λr l=>if ?az=r then 1 else 0
abbrev gU(T:Mat)(s:?J)(k:Nat):Mat:=λr l=>if r<k then Yg s r l else T r ?az
def oM[?tg]{k:Nat}(hk:k<i):?HZ=?ab*?s i (gU T s ?V):=by (have e0:?nQ=?Rk ?nQ ?mG:=by funext r c;by_cases z:r=k;{subst z;rw[Bp];show ?RG r _;rw[?q];by_cases y:?c1<r+1;{rw[?aU (j:=?c1) y λj _ hne=>?My ?mG ?t4];have:Yg s ?c1 c=1:=?B;rw[this];simp};rw[?aI λj hj=>?My ?mG ?q];exact h r ?c1 hk ?g};rw[Bx z]);ext LO;{congr 1;apply Di ?dE;by_cases z:r=k;{subst z;rw[Bp];show ?QN ?fE ?fA;rw[?N]};rw[Bx z];show ?RG k (if r<?V then ?fE else ?fA);by_cases y:r<k;{rw[?jZ,?N]};rw[?mK,?q]};ext L8;show(if j<k then ?mG else T j ?c1)=_;rw[?N]
def LZ[?tg]:?SE ?ym ?HZ| 0,_=>?R6 (gU T s 0) (if r<0 then ?fE else ?fA)| ?V,hk=>by rw[LZ h s k ?h,oM h s ?h];ext Ll
def Ae2[?tg]:?MT ?qe ((?K8).natAbs):=by rw[LZ h s i ?m,qb5];(have e:?Ma ?s (gU T s i) 1:=by (have k:?Rf i (gU T s i r c=if ?c1=r then 1 else 0):=?Mu (by show ?RG i _;rw[?pk];rfl));apply RT ?dE λc r r' hc hr hr' a b=>?_;{rw[?Dh];split<;>decide};rw[?Dh]at a;rw[k r' c hr']at b;split at a;{split at b;{ext d};exact ?c7 ?i b};exact ?c7 ?i a);exact qa5 (qf3 _ e) ?g
abbrev P5(n:Nat)(G:?ap)(M:Mat)(D:Nat):Prop:=∀i,?fl->∀s:?J,?yN->?Ma ?s (λr l=>M r ?az) D
def Eg.detsD[?n2][?bb][?p][?mq][?en](hi:i<=m){s:?J}(hs:?yN):?Ma ?s ?f0 D:=by rw[h.good.det i ?m s];exact hD i hi s hs
def Eg.headD[?n2][?bb][?p][?mq][?en](hi:i<=m){j:Nat}(hj:j<i):?dC<=D:=by have:=YB ?nT (?QR hi) hj;have p:=?JY;ext d
def Eg.rowD[?n2][?bb][?p][?mq][?en](hi:i<=m)[?mu]{r c:Nat}(hr:r<i)(hc:G c):?gF<=i*D:=by have:=WJ ?nT ?gI (?a6 hr) (κ:=1) (D:=D) ?t2 ?aT λk hk=>?nU hD hi ?lU;{rw[qf9]at this;exact this};{rw[qf9];rcases ql4 r j with z | z | z;{let ?hw:=?kN r j z hj;ext d};{rw[z];exact ?m};rw[h.st.s0.low hr z];exact ?Q};cases l with| zero=>exact hc| succ l=>exact h.pg _ ?bS
def Eg.putD[?n2][?bb][?p][?mq][?en](hm:i<=m)[?cY][?mu]{b0 π b:Nat}(hM:∀c,G c->?Ma M c ?ow)[?Le]:?DK:=by apply#[hi,?sd,?gI,?Md (qa5 (h.headD hD hm hj) h1),?ML (?SJ hm ZY hr),?cZ,?lU];{rw[?jU i c ?m];exact qa5 (?Q1 hM) ?Fn};rw[?jU i _ ?m];exact qa5 (hM _ (h.pg l hl)) (Dw h3)
def Jm.free[?mn][?mo]{m:Nat}(hm:m<=r){x:?r}(hx:?Mx (?wi=0)):∀k,?wg:=by intro l hl;let ?gi:=h.cols l ?g;(have e1:?yp=0:=?aI λc hc=>by rw[?dX];simp);(have e2:?yp=?R5 (x k*?KA) m:=by rw[show ?wr=λc=>?R5 (x k*(y c*?cJ)) m from ?Nc (by rw[←Ax];exact Ad λk _=>?a0)];rw[Bs];apply ?tF;rw[hy k (by have:=h.rn;ext d),←Ax]);rw[e2,?aU (j:=l) hl λk _ hne=>?My ?KA ?oS]at e1;have:?b4 e l l=e:=?B;rw[this]at e1;rcases ?k9 e1 with z | z;{exact z};ext d
def wD[?gT]{e:Int}{T M B0 R B:Mat}[?mo](hM:?Rg (M k c=?cJ))(hi:i<r)(g:?Om ?l M)(hW:?t8)(d:?Nk M B0):∃c,c<w/\?e4≠0:=by have rn:=h.rn;apply qh0 ?df;have z0:∀c,?HK:=?OU (?SC y);let ?aQ:=(g.eqv ?l ?m).1 i ?g;(have x0:=h.free he (m:=?l) ?g (x:=x) (?OT z0 ?Jt (by rw[hM k c ?h hc])));let#[c,hc,hne]:=(g.dual d).row (i:=i) ?g;apply hne ?_;rw[hx ?iV ?h];exact ?NI (?ST hk)
structure Sl(n W w r:Nat)[?mk](M:Mat):Prop where
 zero:∀j c,?ak->j<n->c<?bF->M j c=0
 inc:∀j k,?ak->j<k->k<n->?bF<kt k
 ge:?Mh (w<=?bF)
 lt:?Mh (?bF<W)
 head:?Mh (M j ?bF=?fx)
 pos:?Mh (0<?fx)
 red:∀k j,?ak->k<j->j<n->0<=?oG/\?oG<?fx
structure Cp(n W w r i:Nat)[?u7][?mk][?F][?aK]:Prop where
 st:?Jg
 tab:?MS r (j<i->?A<w)
 ker:∀j,?ak->j<i->?A=?bF/\?ae=?fx
def Cp.start(n W w r:Nat)[?u7][?mk][?F]:Cp n W w r 0 G M B0 kt hd t M B0:=#[Eg.start ..,?E5,?E5]
set_option tactic.hygienic true in def Cp.next[?gT][?j1]{M B0 R B R1 B1 R2 B2:Mat}[?cQ]{Y spot st:Nat}[?M2](hi:i<r)(hst:st<w)(hs:?bk)(I:?O1 R B ?bG)(D:?OY R1 B1 ?bG):?NT ?bG R2 B2:=by apply#[?o8 I D,?lY,?un];unfold insT;split;{exact ?FD};split;{exact hst};exact ?ky ?dO ?g ?g
def Cp.skip[?gT][?bb][?cQ][?ie](hn:?x){spot c:Nat}[?dl](hc:?fT):?fQ:=by rw[?ny];apply ?ld i c hi hn ?_;have g:=K.ge i hi hn;by_cases z:?fz;{have:=?ky ?j z hs;ext d};have:=(?i8 ?j ?g hs).1;have:=K.inc ?j i ?g hs hn;ext d
def Rt(R:Mat)(i:Nat):?aE R i i=R:=by funext r;ext gL;by_cases a:r<i;{rw[?w a]};rw[?o a];by_cases b:r=i;{rw[?w b,b]};rw[?o b,?q]
def Cp.ins[?gT][?bb][?cQ]{π b:Nat}[?ie](H:?DK)(hG:G ?ax):?PB ?g0/\?AS:=by (have all:?AS:=by intro spot;induction spot with| zero=>intro _;exact Eb.start H| succ s ih=>intro hs;exact(?cL).skip λc hc=>?od K hi ?bn ?g hc);apply#[?_,all];(have e:R i ?ax=hd i:=by ext ts;exact ?iT i hi ?bn);have p:=?hX i hi ?bn;have:=(all i ?m).ins H ?m (st:=?ax) (?OU (by rw[?ny];exact ?ld i c hi ?bn hc)) ?g (K.lt i hi ?bn) hG ?rC (λz=>O9m);rw[Rt,Rt,?q,?q]at this;ext aZ
set_option tactic.hygienic true in def Cp.nextK[?gT][?j1]{M B0 R B R2 B2:Mat}[?cQ]{Y:Nat}[?ie](hn:?x)(I:?PB Y)(D:?OY R B ?ba):?NT ?ba R2 B2:=by ext LL;ext tX;apply#[?o8 I D,λj h1 h2=>?Ni ?zX ?FD,?lY];rw[D.hd j ?h];by_cases z:j=i;{rw[z,t2];exact#[?i,by ext ts;exact ?xl]};rw[?zX];exact ?i8 j h1 ?g
def Cp.done{n W w r:Nat}[?bb][?cQ](K:?p6)(h:?Mk n G M):?Mt W R:=by apply#[?z4,K.inc,K.ge,K.lt,?lY,?hX,?Eg];{rw[←(?De).1]at h3;exact h.st.st.zero j c h2 h3};{let ?hw:=?De;rw[←a];exact b};let ?hw:=?i8 j h1 h3;rw[←a,←b];exact ?Is k j h2 h3
abbrev iB(V Z:Mat)(k:Nat):Mat:=λr l=>if r<k then Z r l else V r l
def pA[?LB]{k:Nat}(hk:k<i):?op=?ab*?s i (iB V Z ?V):=by (have e0:?op=?s i (?Rk ?JZ (Z j c)):=Di (?ML (by by_cases z:r=k;{subst z;rw[Bp];show ?Ry r _;rw[?q];exact ?cl};rw[Bx z])));ext LO;{congr 1;apply Di ?dE;by_cases z:r=k;{subst z;rw[Bp];show ?QN ?hY ?g4;rw[?N]};rw[Bx z];show ?Ry k (if r<?V then ?hY else ?g4);by_cases y:r<k;{rw[?jZ,?N]};rw[?mK,?q]};ext L8;show(if j<k then Z j c else V j c)=_;rw[?N]
def DS[?LB]:?SE V ?op| 0,_=>?R6 (iB V Z 0) (if r<0 then ?hY else ?g4)| ?V,hk=>by rw[DS h k ?h,pA h ?h];ext Ll
def CV{w r:Nat}{U V:Mat}(hw:?eS)(hU:∀k c,k<r->c<k->?kM=0)(hV:∀l,l<r->In w r U (V l))(h0:∀l i,l<r->i<r->l<i->V l i=0):?Pl U r∣ ?Be:=by (have ch:∀l,∃x:?r,l<r->?Mx (V l c=?n ?oX r):=λl=>by by_cases hl:l<r;{let ?aQ:=hV l hl;exact ?GS};exact#[?cj,λz=>?c7 z hl]);obtain⟨X,hX⟩:∃X:?cd,∀l,l<r->?Mx (V l c=?R5 (X l k*?kM) r):=?PO ch;have e1:?s r (tr V)=?Be:=Vr (A:=tr V) λi l hi hl=>h0 l i ?g hi hl;have e2:=DS (i:=r) (T:=tr U) (V:=tr V) (Z:=tr X) (λi l hi hl=>?_) r ?m;{rw[e1]at e2;exact#[_,e2]};show V l i=_;rw[hX l hl i ?h];(have:∀m,m<=?re->?Hw=?Nb (tr U i j*tr X j l) ?l:=by intro m;induction m with| zero=>intro _;exact Ad λk _=>?r3| succ m ih =>intro hm;show ?Hw+X l ?lF*U ?lF i=_;rw[?gy,hU ?lF i ?h ?h];ext d);have:=?Y ?re ?m;rw[?ME (?l+?re=r)]at this;ext aZ
def c7[?T]{n:Nat}(h:?no):∀m,?eX->?bq<=?eE:=λm hm=>by (have:∀d,?fc<=n->?bq<=?kJ:=by intro d;induction d with| zero=>intro _;exact qx0 _| succ d ih =>intro hd;apply qw1 ?cL ?_;show ?kJ<=?kJ*f ?fc;have p:=Co (n:=?fc) ?e1;have q:=h ?fc ?g;have:=qn8 (?ME (1<=f ?fc)) (?ME (0<=?kJ));rw[ql7]at this;ext aZ);have:=?Y (n-m) ?g;rw[?ME (m+(n-m)=n)]at this;ext aZ
def tO{w r:Nat}{T:Mat}{E:Nat}(hp:?y4)(h:∀i c,i<r->?uk)(hE:?or):?w1:=λi hi s hs=>by have t:=Ae2 (i:=i) (T:=?sl) (λa c ha hac=>by show ?xs=0;by_cases z:c<w;{rw[?aW];exact h a c ?g z hac};ext cU) s;have e:?qe=?s i (?OB (?sl)):=Di λa c ha hc=>(?w ?FE).symm;rw[e];apply qa5 t ?_;by_cases z:i<=w;{(have e2:?Cd=?K8:=by (have:∀m,?gk->?Dq=?v ?eb m:=by intro m;induction m with| zero=>intro _;rfl| succ m ih =>intro hm;show _*_=_*_;rw[?gy];show ?Og _;rw[?N]);exact ?Y i z);rw[e2];have a:=c7 (n:=r) (f:=?eb) hp i hi;have b:=Co (n:=i) (f:=?eb) (?Q7 ?CK);ext d};(have e2:?Cd=0:=by (have:∀m,w<m->?Dq=0:=by intro m;induction m with| zero=>intro _;(ext d)| succ m ih =>intro hm;show ?Og 0;by_cases y:w<m;{rw[ih y];simp};ext ep;simp);exact ?CT);rw[e2];exact ?Q
structure F3(n w r:Nat)(E:Nat)(e:Int)(T:Mat):Prop where
 sq:?lB
 low:?P0 ?x ?uk
 pos:?y4
 dvd:?kD
 prod:?or
 le:?P0 ?x (c<w->?Gh)
 red:?Pc r (0<=T j k/\T j k<?iE)
def IJ[?ik]{T:Mat}{u:?J}(he:0<e)(sq:?lB)(hst:D5 n r ?d8 u)(hu:?Js)(hd:?kD)(hE:?or):?kv:=by apply#[sq,λi c hi hc hic=>?_,?aT,hd,hE,λi c hi hc=>oK he ?qk hst hu hd hc hi,λk j hk hj=>by have:=hst.red k j hk hj;rw[?Oy hu]at this;ext aZ];{by_cases z:c<r;{exact ?eG c i z (by rw[hu c z];exact hic)};exact sq.col0 i c hi ?g hc};have:=?lV;rw[?Oy hu]at this;ext aZ
def E7.going[?ik][?u5](he:0<e)[?gN]:F3 w n r E e ?Bt:=by
 let#[sq,t,hst,ht,hd]:=s.square he h.sq;have pos:?MS r (0<T' j j):=?Md (by have:=?lV;rw[ht j hj]at this;ext aZ)
 apply IJ he ?qk hst ht hd ?_;have rn:=h.sq.rn;have rw':=h.sq.rw;have d:=CV (w:=w) (r:=r) (U:=T') (V:=T) rw' (?NW ?eG ht) (?Pe ((s.bwd l ?g).sub rn sq.row0)) (λl i hl hi hli=>?dQ l i ?g ?g hli);have p:=Co (n:=r) (f:=?eb) ?aO;exact qw1 (qm2 p d) ?rg
def Xk.going[?ik][?u4](he:0<e)[?gN]:F3 n w r E e Oj:=by let ?rN:=s;exact s2.going he (s1.going he h)
def Xk.first{n w r:Nat}{E:Nat}{T T' Oj:Mat}[?p][?L1](hE:?ez<=E):F3 n w r E ?ez Oj:=by let#[hw,sq,u,hu,XZ,hd]:=Xk.square (T:=T) hr hst hz s2;ext LF;apply IJ he sq hu XZ hd ?_;have d:=CV (w:=n) (r:=r) (U:=?hO) (V:=λl i=>T' i ?H) hr (?NW hu.zero XZ) (?Pe ((?mJ ?H (?fG l hl)).sub hw sq.flip.row0)) (λl i hl hi hli=>?KB hi hli);exact qw1 (qm2 he d) hE
def F3.dets[?ik]{T:Mat}[?gN]:?w1:=tO ?aO (λi c hi=>?dQ i c (by have:=h.sq.rn;ext d)) ?rg
abbrev QV(n w r L m:Nat)(T:Mat):Prop:=?hC\/(∃k,k<=r/\?hk/\?I5<=m)\/(∃k,k<r/\?Ev/\?la*?id+(?ab).natAbs.log2+1<=m)
def F3.straight[?ik]{T:Mat}[?gN](c:?Qv r T):?hC:=?P1 (by by_cases z:i<r;{exact c.2.2.2.1 i j z hj ?qU};exact h.sq.row0 i j ?g hi hj)
def log2_lt{a b:Nat}(ha:0<a)(h:a∣b)(hlt:a<b):a.log2<b.log2:=by let#[k,hk]:=h;(have k2:2<=k:=by rcases k with _ | _ | k;{ext d};{ext d};ext d);(have b2:2*a<=b:=by rw[hk,?JK 2 a];exact qf3 _ k2);have e:?A6=a.log2+1:=Nat.log2_two_mul ?g;(have m:?A6<=b.log2:=by rw[Nat.le_log2 ?h];exact qa5 ?zq b2);ext d
def QV.start{n w r L:Nat}{E:Nat}{e:Int}{T:Mat}[?gN]:QV n w r L ?IJ T:=?S9 #[0,?Q,?zo,by rw[qy0];exact ?m]
set_option tactic.hygienic true in def F3.next{n w r L m:Nat}{E:Nat}{e:Int}{T Oj:Mat}(he:0<e)(hL:?BZ)[?gN](s:?EZ)(f:?JN)(ns:¬?hC):0<m/\QV n w r L (m-1) Oj:=by have g:=s.going he h;rcases f with f|⟨k,hk,c,hm⟩|⟨k,hk,c,hm⟩;{exact ?c7 f ns};{(have kr:k<r:=by apply Nat.lt_of_le_of_ne hk λz=>ns ?_;subst z;exact h.straight c);(have e1:?I5=?la*?id+?id:=by rw[?ME (r-k=?la+1),qg2,qf9,Nat.add_sub_cancel]);apply ?Bs;let#[c2,q]:=s.next c;rcases q with q | q;{exact ?S q};apply ?X (?X #[k,kr,q,?_]);have d:=h.dvd k kr;have d2:=g.dvd k kr;have p:=g.pos k kr;(have l:(?iS).natAbs.log2<=L:=by apply qa5 ?_ hL;rw[Nat.le_log2 ?h];apply qa5 ?zq ?_;have:=qm2 he d2;ext d);ext d};apply ?Bs;rcases s.less c with q|⟨q1,q2,q3⟩;{apply ?S9 #[?V,?g,q,?_];rw[?ME (r-?V=?la)];ext d};apply ?X (?X #[k,hk,q1,?_]);have p:=g.pos k hk;have p0:=?ES;have:=log2_lt (a:=(?iS).natAbs) (b:=(?ab).natAbs) ?g (qw0.mpr q2) ?g;ext d
universe Lat
namespace Lat
structure EuA[?tx]:Prop where
 e1:r1=x1*A+y1*B
 e2:r2=x2*A+y2*B
 dt:?hy=1\/?hy=-1
 dv:∀d:Int,d∣r1->d∣r2->d∣A/\d∣B
structure EuR[?tx]:Prop where
 a:?pK
 rr:0<=?jA
 r0:?p1
 xx:?rW<=0
 yy:?o6<=0
 lx:?Cx
 ly:?IR
def mC{u v:Int}(h:0<=u*v):(u+v).natAbs=u.natAbs+v.natAbs:=by rcases ?AF u 0 with z | z | z;{(have:v<=0:=?Mz ?yF z y);ext d};{subst z;ext d};(have:0<=v:=?Mz ?yW z y);ext d
def EuR.next_le[?ii][?MD]:?B8:=by (have r1p:1<=r1.natAbs:=by have:=h.r0;ext d);(have hA:A.natAbs=(y2*r1+?jk).natAbs:=by (have e:?hy*A=y2*r1+?jk:=?F8);rcases h.a.dt with d | d;{rw[d,qd8]at e;rw[e]};rw[d]at e;have:A.natAbs=(-1*A).natAbs:=O9m;rw[this,e]);(have hB:B.natAbs=(?r9).natAbs:=by (have e:?hy*B=-?r9:=?F8);rcases h.a.dt with d | d;{rw[d,qd8]at e;rw[e,qd3]};rw[d]at e;have:B=?r9:=O9m;rw[this]);(have k1:0<=(y2*r1)*?jk:=?Nj ((y2*r1)*?jk) ?o6 (by have:=h.yy;ext d));(have k2:0<=(x2*r1)*?tC:=?Nj ((x2*r1)*?tC) ?rW (by have:=h.xx;ext d));rw[mC k1,qb5]at hA;rw[mC k2,qb5]at hB;have a1:x2.natAbs*1<=x2.natAbs*r1.natAbs:=?vZ;have a2:y2.natAbs*1<=y2.natAbs*r1.natAbs:=?vZ;ext d
def EuA.step[?ii](h:?pK)(q:Int):EuA A B r2 x2 y2 ?Ga ?pd ?oA:=by apply#[h.e2,?_,?_,λd h1 h2=>h.dv d ?_ h1];{rw[h.e1,h.e2];grind};{(have:x2*?oA-?pd*y2=-?hy:=?a0);rw[this];rcases h.dt with z | z<;>rw[z]<;>ext d};have:=?wB h2 (qu4 (a:=d) (b:=q) h1);have e:?Ga+q*r2=r1:=O9m;rw[e]at this;ext aZ
def dD{r1 r2:Int}(h:0<=?jA)(h2:?p2):0<=?eJ/\?pc/\0<=r2*?gh:=by (have e:?gh=?CO:=?OH r1 r2);rw[e];rcases ?y7 h2 with z | z;{(have r1n:r1<=0:=?Mz ?yW y z);(have q:?eJ=(-r1).fdiv ?g6:=by rw[Int.neg_fdiv_neg]);(have m:?CO=-?oy:=?v7);have m0:=qv3 (a:=-r1) (b:=?g6) ?g;have m1:=qx3 (-r1) (b:=?g6) ?g;apply#[?_,?OW r2,?_];{rw[q,?A5];exact ?yJ ?g ?g};rw[m];(have:r2*-?oy=?g6*?oy:=by rw[Int.mul_neg,qp9]);rw[this];exact ?yj};(have r1p:0<=r1:=?Mz ?yF y z);have m0:=qv3 (a:=r1) (b:=r2) z;have m1:=qx3 r1 z;apply#[?_,?px,?yj];rw[?A5];exact ?yJ r1p ?g
def EuR.step[?ii][?MD](h2:?p2):?Oe EuR:=by let#[q0,q1,q2]:=dD h.rr h2;let#[l1,l2]:=h.next_le;generalize ?eJ=q at *;apply#[#[h.a.step q,q2,h2,?_,?_,l1,l2],q1];{(have:x2*?pd=?rW-q*(x2*x2):=?a0);rw[this];have a:=h.xx;have b:0<=q*(x2*x2):=ql3 q0 (by rw[←?Jo (a:=x2)];ext d);ext d};(have:y2*?oA=?o6-q*(y2*y2):=?a0);rw[this];have a:=h.yy;have b:0<=q*(y2*y2):=ql3 q0 (by rw[←?Jo (a:=y2)];ext d);ext d
abbrev EuI[?tx]:Prop :=?z1\/(B<0/\r1=A/\x1=1/\y1=0/\r2=B/\x2=0/\y2=1) ∨ (B<0/\r1=B/\x1=0/\y1=1/\r2=?km/\x2=1/\y2=-?bJ)
def EuI.start{A B:Int}[?uH]:EuI A B A 1 0 B 0 1:=by rcases ?y7 hB with z | z;{exact ?S9 #[z,?i,?i,?i,?i,?i,?i]};apply ?S #[?Bk,ql3 ?g ?g,?g,?g,?g,?g,?g]
def Q8{A B:Int}(hA:0<A)(hB:B<0):?bJ<=-1/\-A<=?bJ/\?km<=0/\?Ox ?km B.natAbs:=by (have e:?km=A.fmod B:=?OH A B);(have m:A.fmod B=-((-A).fmod (-B)):=?v7);have m0:=qv3 (a:=-A) (b:=-B) ?g;have m1:=qx3 (-A) (b:=-B) ?g;have k:?bJ*B=A-A.fmod B:=O9m;rw[e];(have q1:?bJ<=-1:=by ext eq;have:=ql3 (?ME (0<=?bJ)) ?wX;rw[Int.mul_neg]at this;ext d);apply#[q1,?_,?g,?OW B];ext eq;have h:=?Jz ?uQ (?ME (1<=-B)) ?g ?g;(have h2:-?bJ*-B=?bJ*B:=by rw[Int.neg_mul_neg]);rw[h2]at h;have h3:=?Jz ?uQ (qx0 (-B)) ?g ?g;rw[h2,qq0]at h3;have h4:A*1<=A*-B:=?ut;ext d
def EuI.step[?ii](hA:0<A)[?MC](h2:?p2) : ?Oe EuI:=by ext L6;{exact#[?S (?yu).1,(?yu).2]};{subst e1 e2 e3 e4 e5 e6;let#[_,_,_,q]:=?rD;exact#[?X (?X #[hB,?i,?i,?i,?i,?g,?g]),q]};let ?AQ:=?rD;ext L7;have e7:=?IZ;rw[←e4]at e7 q3 q4;(have rr:0<=B*r2:=by have:=ql3 ?wX (?ME (0<=?g6));rw[Int.neg_mul_neg]at this;ext aZ);let#[p0,p1,p2]:=dD rr h2;(have p3:1<=?n8:=by ext eq;have:?n8=0:=O9m;rw[this]at p1;ext d);ext L5;rw[f1,f2]at e7;have e8:=e7.step ?n8;subst e1 e2 e3;apply#[?S #[e8,p2,h2,?_,?_,?g,?g],p1];{subst e5;ext d};generalize ?eJ=p at *;(have g1:y2*(1-p*y2)=-(?Ff*y2):=?a0);rw[g1];have g2:1*y2<=p*y2:=qk6 p3 ?g;have:=ql3 (?ME (0<=?Ff)) (?ME (0<=y2));ext d
def EuI.all[?ii][?uH][?MC] : ?pK/\?p1/\?Cx/\?IR/\?B8:=by ext L7;ext L6;{exact#[h.a,h.r0,h.lx,h.ly,h.next_le.1,h.next_le.2]};{subst e1 e2 e3 e4 e5 e6;exact#[e0,?g,?g,?g,?g,?g]};let ?AQ:=?rD;have e7:=?IZ;ext L5;rw[f1,f2,←e4]at e7;subst e1 e2 e3;exact#[e7,?g,?g,?g,?g,?g]
structure Shares(A B g a b:Int):Prop where
 pos:0<g
 e:g=a*A+b*B
 dA:g∣A
 dB:g∣B
 la:?Pr a.natAbs
 lb:?Ps b.natAbs
def EuI.last{A B r1 x1 y1 x2 y2:Int}[?uH](h:?NB EuI 0) : (0<r1->?mC A B r1 x1 y1)/\(r1<0->?mC A B (-r1) (-x1) (-y1))/\?p1:=by let#[k,r0,a1,a2,_,_]:=h.all hA hB;let#[d1,d2]:=k.dv r1 (Int.dvd_refl _) (Int.dvd_zero _);apply#[λp=>#[p,k.e1,d1,d2,a1,a2],λp=>#[?g,?_,?Jx d1,?Jx d2,?g,?g],r0];rw[k.e1,qp9,qp9];ext d
def Shares.blend{A B g a b:Int}{π:Nat}(hA:0<A)(h:?wH)(lA:?QS A.natAbs)(lB:?QS B.natAbs):NX π A B a b ?rS ?fO:=by let ?o9:=h.dA;let#[q,eB]:=h.dB;ext Kw;(have k2:B / g=q:=?Cz);(have gn:1<=g.natAbs:=?KW);(have n1:?Ps p.natAbs:=by rw[eA,qb5];exact ?JG);(have n2:?Pr q.natAbs:=by rw[eB,qb5];exact ?JG);rw[k1,k2];apply#[?_,by have:=h.pos;have:=h.e;ext d,?_,qa5 h.la lB,qa5 h.lb lA,?g,?g];{have e:=h.e;(have:g*(a*p-b*-q)=g*1:=by rw[ql7];apply Eq.trans ?_ ?q0;rw[eA,eB];grind);exact Int.eq_of_mul_eq_mul_left g0 ?Y};rw[eA,eB];grind
universe Lat
namespace Lat
open Hb
abbrev S9(n:Nat)(C:?ap)(δ b:Nat)(R:Mat):Prop:=?Rf n (C c->?gF*?ey<?R)
def Sd{x y a k:Int}{δ b c:Nat}(hx:?y1<?R)(hy:?wA<?R)(ha:a.natAbs<=?W)(hk:k.natAbs<=?W):?uu*?ey<2 ^ ?gg:=by have e:=?IS;rw[qb5,qb5]at e;have e2:=qc2 ?ey e;rw[qg2,Nat.mul_assoc,Nat.mul_assoc]at e2;have p:0<?W:=qs4 c;have u:a.natAbs*?y1<?W*?R:=?QV ha hx;have v:k.natAbs*?wA<?W*?R:=?QV hk hy;rw[?ov,qh8,qe5];ext d
def S9.mono{n δ b b':Nat}[?tn](hb:b<=b'):?QD b' R:=?KO
def S9.add{n δ b c p q:Nat}[?tn][?tp]:?QD ?gg ?dZ:=λr x hr hx=>by ext gU;{subst e;rw[Cv];exact Sd ?I7 ?J8 ?Ey (qf0 hk)};rw[Du e];exact(h.mono ?g) r x hr hx
def S9.blend{n δ b e p q:Nat}[?tn][?b5][?L2]:?QD ?wm ?um:=?ML (by by_cases e1:r=p;{subst e1;rw[?cH];exact Sd ?cl ?zm (qf0 hx) (qf0 hy)};by_cases e2:r=q;{subst e2;rw[Jv];exact Sd ?AO ?cl (qf0 hz) (qf0 hu)};rw[?vd];exact ?RS (h.mono ?g))
variable[?cR]
abbrev BB[?cW](C:?ap)(δ β:Nat)[?et]:Prop:=?bo n W β s.1/\?bo n n β s.2/\S9 n C δ β s.1
def BB.mono{n W β β':Nat}[?bx][?ms](hb:β<=β'):?MF β' s:=#[h.1.mono hb,h.2.1.mono hb,h.2.2.mono hb]
abbrev addS(p q:Nat)(k:Int)[?et]:?aj:=(?G s.1 p q k,?G s.2 q p (-k))
abbrev blendS(p q:Nat)(x y z u:Int)[?et]:?aj:=(?a7 s.1 p q x y z u,?a7 s.2 p q u (-z) (-y) x)
def BB.add{n W β c p q:Nat}[?bx][?ms][?cs][?tp]:?MF ?DR (?eH p q k s) :=#[(h.1.add hp hq hk).mono ?g,(h.2.1.add hq hp (k:=-k) (by rw[qd3];exact hk)).mono ?g,(h.2.2.add hq hk).mono ?g]
def BB.blend{n W β c p q:Nat}[?bx][?ms][?b5]{x y z u:Int}(hx:?Ha)(hy:y.natAbs<?W)(hz:z.natAbs<?W)(hu:u.natAbs<?W):?MF ?DR (blendS p q x y z u s) :=#[(h.1.blend hp hq ne hx hy hz hu).mono ?g,(h.2.1.blend hp hq ne (x:=u) (y:=-z) (z:=-y) (u:=x) hu (by rw[qd3];exact hz) (by rw[qd3];exact hy) hx).mono ?g,(h.2.2.blend hp hq ne hx hy hz hu).mono ?g]
abbrev shrS[?F](p f:Nat)[?et]:?GZ| 0=>s| ?aG=>?eH p ?bV (-((?sA).1 p ?go / (?sA).1 ?bV ?go)) ?sA
def mH[?n6][?cX][?p]{p f m μ β c:Nat}(P:?mO)[?LQ][?Lr](hc:?SP m<?W)(b:?zu) : ∀d,?bV<=m->?Mi ?bV ?g8 ((?kp).2)/\?MF (β+d*?ao) ?kp/\∀l c,l≠p->?g8 l c=R l c:=by intro d;induction d with| zero=>intro _;exact#[?KP h,b.mono ?g,?fS]| succ d ih =>intro hd;let#[i1,i2,i3]:=?cL;let ?AJ:=i1.step P ?g (?ME (?bV<m)) hp hm hn hpf;have e:?A3=R ?bV ?go:=i3 _ _ ?g;(have qb:(-(?g8 p ?go / ?A3)).natAbs<?W:=by rw[qd3,e];apply qc5 q1 (qc5 ?_ hc);exact ?vt);apply#[?_,(i2.add ?g ?g qb).mono ?Ad,λl c hl=>?_];{show RD n W w lo R B t p f m (?bV+1) μ (?G ?g8 p ?bV _) (?G (?kp).2 ?bV p _);rw[e,qp8];exact q2};show ?G ?g8 p ?bV _ l c=_;rw[Du hl];exact i3 l c hl
def RQ[?aX][?cX][?p][?uM][?u8][?td][?ti][?u2] : ∀d,?ga->BY n W w i G R B t b p ?j μ ?ca ?rR (?lx).2:=by intro d;induction d with| zero=>intro _;exact BY.start h| succ d ih =>intro hd;have i1:=?cL;let ?AJ:=i1.step P hG ?g (?ME (?ca<i)) hn hp;have e:?rR ?ca ?vz=R ?ca ?vz:=i1.s.same _ _ ?g;show BY n W w i G R B t b p ?j μ (?ca+1) (?G ?rR p ?ca _) (?G (?lx).2 ?ca p _);rw[e,qp8];exact q2
def Th[?aX][?cX][?p]{b p spot μ β c:Nat}[?u8](inc:?nl)[?td][?ti][?dl][?u2](hc:?oQ<?W)[?eo] : ?PY ((?wo).1) ((?wo).2)/\∀d,?ga->?MF (β+i*?ao) ?lx:=by have r:=RQ (W:=W) (w:=w) (B:=B) (b:=b) P h hG hn hp ?am ?g;rw[?ME (?D+?am=i)]at r;apply#[r.done inc,?kt];have:=(mH (W:=W) (w:=w) (lo:=?l) (B:=B) P ?Hy ?g ?g ?g ?g (c:=c) (qc5 ?vt hc) bb d hd).2.1;apply this.mono ?_;have:=qc2 ?ao (?ME (d<=i));ext d
universe Lat
namespace Lat
open Hb
variable[?cR]
noncomputable abbrev cS(π i:Nat):Nat:=i+?fX+2
noncomputable abbrev cM(π i:Nat):Nat:=π+2+2*(i*(?dR+1))
def CK{x π:Nat}(h:?QS x):x<?ic:=by have:?QS 1:=qm1;rw[qh8];ext d
def UR{π i μ:Nat}(h:μ<=?bX):?oQ<2 ^ ?dR:=by (have e:2 ^ ?dR=2*?CG:=by rw[show ?dR=1+(i+?Hr) by unfold cS;ext d,qe5,qe5,Nat.pow_one]);rw[e];have a:=qf3 ?pY h;(have b:1<=?CG:=by rw[←qe5];exact qm1);ext d
variable[?aX][?dj][?p]{π b spot β:Nat}
def Eb.partOf[?di]{R1:Mat}(e:?Oz (r<i->?sr=?bY)) : ?de R1 t ?D i/\?nl/\∀r c,?fz->r<i->G c->?MT ?sr ?R:=by have k:?Oz (r<i->?sr=?qH):=λr c h1 h2=>(e r c h1 h2).trans (?bh r c ?g h2);apply#[(H.part.sub ?Q).congr λj c h1 h2=>k j c ?g h2,?NJ (?fY ?j l ?Q h1 h2),λr c h1 h2 hc=>?_];rw[k r c h1 h2];exact H.rw r c h2 hc
def Eb.meetAdd[?di][?dl][?mi]{q:Int}[?M3][?eo] : ?MK ?D ((?Gp).1) ((?Gp).2) ∧ ?MF ?hg ?f9/\?R4 i ?f9:=by have hn:=H.hi;(have hq:?rT:=by have a:=h.pv ?j ?m hs;have p:=?aO ?j hs;rw[he,qb5]at a;exact qa5 ?t6 a);have b1:?MF ?hd ?f9:=bb.add hn ?g (c:=?ct) (by rw[qd3];exact CK hq);let ?yc:=?NU ?uT ?DN;let#[S,bs]:=Th (n:=n) (W:=W) (w:=w) (G:=G) (B:=(?f9).2) (p:=i) (μ:=?ic) (β:=?hd) (c:=?dR) P inc (h.addPre H hs hq) hG hs hn ?Ij (UR ?aS) b1;apply#[h.metAdd H hs hq hz he ?_,?Eu,?NE bs];(have e:(?f9).2=?xr:=by show ?G B ?j i (- -q)=_;rw[qp8]);rw[←e];exact S
def Eb.meetBlend[?di][?dl][?mi][?te][?eo] : ?MK ?D ((?AN).1) ((?AN).2) ∧ ?MF ?hg ?gH/\(?R4 ?j ?gH) ∧ ?R4 i ?oz:=by have hn:=H.hi;have ne:?tH:=O9m;have b1:?MF ?hd ?gH:=bb.blend ?g hn ne (c:=?ct) (CK e.lx) (CK e.ly) (CK e.lz) (CK e.lu);let#[p1,p2]:=h.blendPre H hs e;let ?yc:=?NU ?sT ?Bj;let#[S1,bs1]:=Th (n:=n) (W:=W) (w:=w) (G:=G) (B:=(?gH).2) (p:=spot) (μ:=?bX) (β:=?hd) (c:=?dR) P inc p1 hG hs hn (?S ?m) ?x4 b1;have b2:=bs1 ?am ?g;generalize hs2:?oz=s2 at *;have Bt5:?RI ?j (?sT,(?gH).2)=s2:=hs2;rw[Bt5]at S1 b2;(let#[P2,Br7,hG2]:=?NU ?gD (by rw[?gb r c ?h,Em ?h ?h]));(have p3:∀l,?cv->l<i->?Ma ?gD ?H (?bX*(?gD l ?H).natAbs):=?NJ (by rw[?gb i _ ?cc,?xf];exact p2 l h1 h2));let#[S2,bs2]:=Th (n:=n) (W:=W) (w:=w) (G:=G) (R:=?gD) (B:=s2.2) (p:=i) (μ:=?bX) (β:=?hd+i*(?dR+1)) (c:=?dR) P2 Br7 p3 hG2 hs hn ?Ij ?x4 b2;exact#[h.metBlend H hs e hz S1 S2,?Eu,?NE bs1,?NE bs2]
universe Lat
namespace Lat
open Hb
variable[?cR]
abbrev downS[?F](i:Nat)[?et]:?GZ| 0=>s| ?aG=>?Rj t (?cA t i s d) d
set_option tactic.hygienic true in def AD[?aX][?dj][?p]{Y β:Nat}(I:YU n W w i G R0 B0 t Y R B)[?cY][?eo] : ∀d,?fg->?Bx/\?G8 ∧ (d<=i->∀m,m<=d->?FG):=by intro d;(have nxt:∀d,d<=i->?Bx->?G8 → ∀m,m<=d->RD n W w ?l (?db).1 (?db).2 t ?aJ ?af ?l (?af+m) ?ln (?sC).1 (?sC).2/\?FG:=by intro d hd D b m hm;generalize hs:?db=s at *;let#[R1,B1]:=s;have P:=D.part;rw[?yv]at P D;(have rel:∀l,?af<=l->l<?l->?MT ?E9 (?ln*(?y8).natAbs):=?NJ (by have o:?E9=R ?aJ ?H:=D.old ?aJ ?H ?g;have p:0<?y8:=?Es l h2;rw[o];apply qa5 (I.gc ?aJ ?H ?g (I.pg l ?g)) ?t6));have run:=mH (n:=n) (W:=W) (w:=w) (lo:=?l) (R:=R1) (B:=B1) (p:=?aJ) (f:=?af) (m:=?l) (μ:=?ln) (c:=?l+Y+1) (β:=?Io) P rel ?g ?m hi (?S ?g) (by rw[←qe5];exact ?n9) b m ?g;apply#[run.1,run.2.1.mono ?_];rw[qg2 d 1,qf9];have:=qc2 ?oj (?ME (m<=?l));have e:m*(?l+Y+1+1)=m*?oj:=rfl;ext d);induction d with| zero =>intro _;have D0:?NQ (?l-0) ?tS ?tS:=P4.start I.s0;have b0:?MF (β+0*?sI) ?tS:=bb.mono ?g;exact#[D0,b0,λhd m hm=>(nxt 0 hd D0 b0 m hm).2]| succ d ih =>intro hd;let#[D,b,_]:=?cL;let#[S,b2]:=nxt d ?g D b d ?m;(have D2:?NQ ?zM ?zg ?zg:=by rw[?ME (?zM=?aJ)];rw[?yv]at D;rw[?ME (?af+d=?l)]at S;exact D.next ?g S);exact#[D2,b2,λh m hm=>(nxt ?aG h D2 b2 m hm).2]
universe Lat
namespace Lat
open Hb
def sumN_cut[?T]{j:Nat}:∀{i:Nat},?bW->(∀k,j<=k->k<i->f k=0)->?n f i=?ku| 0,h,_=>by rw[?Mn j]| ?l,h,hz=>by by_cases e:j=?l;{rw[e]};show ?n f i+?L=_;rw[?w9 ?h λk h1 h2=>hz k h1 ?h,hz i ?h ?h];ext d
def EB[?T]{m h:Nat}:∀{j:Nat},(?Ng j (?oi<=?SA k))->(?ku).natAbs+m*h<=?SA j| 0,_=>by show ?xY+m*h<=?SA 0;simp| ?I,hf=>by have a:=EB (f:=f) (m:=m) (h:=h) (j:=j) λk hk=>hf k ?g;have b:=?Rw hf;have c:=qf4 ?ku ?a3;show(?ku+?a3).natAbs+m*h<=_;rw[qh8];(have e:2 ^ j*2*m*h=?SA j+?SA j:=?a0);ext d
def Yy{a b:Int}{m:Nat}(h:(a+b).natAbs<=m):b.natAbs<=m+a.natAbs:=by have h5:=Int.natAbs_sub_le (b+a) a;rw[Int.add_sub_cancel,qy4]at h5;exact qa5 h5 (qs1 h _)
def xS{x s m M K:Nat}(h1:x<=m+s)(h2:s+M<=K)(h3:m*1<=M):x<=K:=O9m
def uZ{i:Nat}[?cX][?p](P:?Qh 0 i){a m:Nat}(h:?MS i (?SB ?jL)):?Fj:=by intro j;induction j using Nat.strongRecOn with| _ j ih =>intro hj;have pj:=P.pos j ?Q hj;have hs:=?Oy h;rw[?w9 (j:=?I) ?h λk h1 h2=>by rw[?tN k _ ?Q h2 (P.inc j k ?Q ?h h2)];simp]at hs;have hs':(?n ?k6 j+?yA).natAbs<=m:=hs;(have b:=EB (f:=?k6) (m:=m) (h:=?dC) (j:=j) λk hk=>by rw[qb5];let#[r1,r2]:=P.red k j ?Q hk hj;exact qf6 (ih k hk ?g) ?g);(have c:?MT ?yA (2 ^ j*m*?dC):=by exact xS (Yy hs') b ?pP);rw[qb5]at c;exact qt2 c ?g
def Eg.backs[?aX][?n4][?p][?en](hi:?fl){a m:Nat}(hb:∀k,i<=k->B k a=?IN)(hM:?MS i (?SB ?oU))(hM2:?MS i (?SB ?kk))(ha:i<=a->a<n->?MS i (?oU=?kk)):?Fj:=by apply uZ ?sd ?aT;have e:?FR=?oU:=h.good.pt a ?A;(have s:?FR=?PE ?AT:=by (have:∀d,?d7<=n->?xV=?PE ?w7:=by intro d;induction d with| zero=>intro _;ext ep;show ?n _ i=_;(ext d)| succ d ih =>intro hd;show ?xV+B ?d7 a*R ?d7 ?A=_;rw[?gy,hb ?d7 ?h,?jU ?d7 _ ?h];by_cases z:?d7=a;{subst z;rw[?B,?q,?N];ext d};ext cU;by_cases y:?w7;{rw[?jZ,?N];ext d};rw[?mK,?q];ext d);have:=?Y (n-i) ?g;rw[?ME (i+(n-i)=n)]at this;ext aZ);by_cases z:?AT;{rw[?aW,e,ha z.1 z.2 j hj]at s;have:?jL=0:=O9m;rw[this];exact ?Q};rw[?cg,qg0]at s;rw[←s,e];exact ?Oy hM
def RO[?p][?bf](inc:?Ny n):?DW:=by (have:?Jq:=by intro m;induction m with| zero=>ext LV| succ m ih =>ext LW;{(have hrm:r=m:=?OS inc);exact ?xi};ext L3);exact ?Iu
def Eg.first{n W w D:Nat}[?bb][?p](hD:P5 n G M D)[?ty] : ∃r,?bC/\?FW/\?Ap/\Sl n W w r t ?hz R/\?vf<=D/\?yK:=by let#[r,hr,h1,h2]:=RO (w:=w) ?i9;have pos:?Ng n (0<(?hz) k):=?Q7 (?iO k hk);apply#[r,hr,?Fw,?Ei,#[λj c _ a b=>?kB j c a b,λj k _ a b=>?i9 j k a b,h2,λj _ a=>?gI j a,λj _ _=>rfl,λj _ a=>?iO j a,λk j _ a b=>?kN k j a b],?_,?aT];{have a:=c7 (n:=n) pos r hr;have b:=?QR ?m;rw[cW ?nT]at b;have c:=Co (n:=n) pos;ext d};have:=h.headD hD ?m hj;have:=?JY;ext d
variable[?cR]
def addS_zero(p q:Nat)[?et]:?eH p q (-0) s=s:=by unfold addS;rw[?vw,?vw,DO,DO]
def GR[?p]{p f:Nat}[?bx]:∀m,(∀j,?eI->j<?iR->s.1 p ?A / ?lR=0)->?l5=s| 0,_=>rfl| ?U,h=>by have ih:=GR (t:=t) (p:=p) (f:=f) (s:=s) m (?Nz (h j h1 ?g));show ?eH p ?iR (-((?l5).1 p ?uq / (?l5).1 ?iR ?uq)) ?l5=s;rw[ih,h ?iR ?h ?h,addS_zero]
structure Aq9(i:Nat)[?F](R:Mat):Prop where
 inc:?MS i (?A<?bO)
 zero:∀x,x<?bO->?l9=0
 pos:?O9 ?i2
 red:?Pc i ?sy
abbrev Ly(R:Mat)[?F](i k:Nat):Int:=R k ?bO / R i ?bO
structure Pq(n i β c:Nat)[?F][?aK](d:Nat)[?et]:Prop where
 rows:∀r x,s.1 r x=if ?nr then ?hN+?DB else ?hN
 old:∀r x,?l4->s.2 r x=B r x
 back:∀x,x<n->?MT ?Ba (?hJ*?aG)
def Pq.step{n i β c:Nat}[?p][?cX]{d:Nat}[?bx](L:?zC)(bb:?GO)[?tj](hd:d<?l)(h:?Cw) : ?Mo t ?aG (?Rj t s d)/\?vV:=by (have own:∀x,s.1 ?aJ x=R ?aJ x:=?EX);(have ri:∀x,s.1 i x=?l9:=?EX);(have hdj:?O9 (?lR=?ae):=?Md (by rw[h.rows];by_cases z:?jB<=j/\j<i;{rw[?aW,L.zero ?A (L.inc j z.2)];simp};ext cU));(have zq:∀m,m<d->∀j,?af<=j->j<?af+m->s.1 ?aJ ?A / ?lR=0:=λm hm j h1 h2=>by rw[own,hdj j ?h];let ?hw:=L.red ?aJ j ?g ?g;exact Int.ediv_eq_zero_of_lt a b);have zs:?vV:=?OC (GR m (zq m hm));apply#[?_,zs];by_cases d0:d=0;{subst d0;show ?Mo t 1 s;apply#[?nJ,?bh,λx hx=>qa5 ?qm ?pP];rw[h.rows,?q,?q]};obtain⟨e,rfl⟩:∃e,d=?dp:=#[d-1,?g];(have last:?aD t ?bU ?lH s ?dp=?eH ?bU i (-?kr) s:=by show ?eH _ (?lH+e) _ (?aD t ?bU ?lH s e)=_;rw[zs e ?h,?ME (?lH+e=i),own,hdj i ?m];rfl);rw[last];apply#[?nJ,λr x hr=>?_,?ju];{show ?G s.1 ?bU i _ r x=_;by_cases z:r=?bU;{subst z;rw[Cv,own,ri,?N,qd8]};rw[Du z,h.rows];by_cases y:?l-?dp<=r/\r<i;{rw[?jZ,?N]};rw[?mK,?q]};{show ?G s.2 i ?bU _ r x=_;rw[Du hr];exact ?bh r x hr};show(?G s.2 i ?bU (- -?kr) i x).natAbs<=_;rw[Cv,qd8,qp8,?bh ?bU x ?h];have a:=?qm;have b:=qf4 ?Ba (?kr*B ?bU x);rw[qb5]at b;have m:(?kr).natAbs*(B ?bU x).natAbs<=?W*?c2:=qf6 (qf0 (hq _ ?g)) (qf0 (bb _ _ ?g hx));rw[←qe5,?wl]at m;rw[Nat.mul_add _ (?dp+1) 1,Nat.mul_one];ext d
def TU{n W i β c:Nat}[?p][?cX](L:?zC)[?eo][?tj] : ∀d,?fg->?Mo t d ?db:=by intro d;induction d with| zero =>intro _;apply#[?nJ,?fS,?ju];{rw[?q];rfl};show ?Ee<=_;have a:?Ee<?c2:=?lJ i x hi hx;have p:?Iv:=?aS;(ext d)| succ d ih =>intro hd;exact((?cL).step L ?lJ hq hi ?g).1
def Pq.bits{n W i β c:Nat}[?p][?cX]{d:Nat}[?bx][?eo][?tj](hd:?fg)(h:?Cw):?MF ?nX s:=by apply#[?nD,?nD,?nD];{rw[h.rows];by_cases z:?nr;{rw[?aW];have e:=qf4 ?hN ?DB;rw[qb5,qd3]at e;have a:=?JW;have b:=bb.1 i x hi hx;have m:(?pT).natAbs*(?l9).natAbs<=?W*?c2:=qf6 ?wz (qf0 b);rw[←qe5,?wl]at m;have p:?Iv:=?aS;(have q:4*?hJ<=2 ^ ?nX:=by (have e4:4*?hJ=?Po 2 ?t0:=by rw[qe5 2 2 ?t0]);rw[e4];exact ?aS);have a':?Gt<?c2:=a;ext d};rw[?cg];exact ?QC ?JW};{by_cases z:r=i;{subst z;have a:=?qm;(have l:?aG<?Po r 2:=by have:=qp7 (n:=r+2);ext d);apply qc5 a ?_;(have e4:?Po β (c+r+3)=?hJ*?Po r 3:=?qp);rw[e4];apply qt1 ?_ qm1;exact ?QC l};rw[?bh r x z];exact ?QC (?lJ r x hr hx)};rw[h.rows];by_cases z:?nr;{rw[?aW];have:=Sd (a:=1) (k:=-?pT) (c:=c) ?Do (bb.2.2 i x hi hx) ?Ey (by rw[qd3];exact ?wz);rw[qd8]at this;exact ?QC ?Y};ext cU;exact ?QC ?Do
universe Lat
namespace Lat
open Hb
variable[?cR]
def fdiv_small{x h:Int}{c:Nat}(hh:0<h)(hx:?Ha):?E6<?W:=by have:=MX (x:=x) (h:=h) (K:=x.natAbs) hh ?t6;ext d
def Eg.putB{n W w i β:Nat}[?bb][?p][?en][?cY][?mu](bb:?Oa β R):Kx n W w i G R B t β β :=#[hi,?sd,?gI,?Md (qf0 (bb j _ ?g ?qY)),?ML (qf0 (bb r c ?g ?t2)),?OU (qf0 (bb i c hi ?t2)),?Pe (qf0 (bb i _ hi (?gI l hl)))]
def Cp.last{n W w r i β c:Nat}[?bb][?cQ][?ie](hn:?x)[?mu](hG:G ?ax)[?eo](hc:?Ng i ((R k ?ax).natAbs<?W)) : ?NT ?ba ((?B0).1) ((?B0).2) ∧ (∀d,?fg->?Mo ?ba d ?mE/\?MF ?nX ?mE) ∧ (∀d,d<?l->?Q5 ?ba ?mE ?mE):=by have H:=h.st.putB hn ZY bb.1;let#[I,_]:=h.ins K hi H hG;have D:=(AD I hn bb ?l ?m).1;rw[qh7]at D;ext LL;ext tX;have L:Aq9 i ?ba R:=#[?Md (I.s0.inc j i hj ?g),λx hx=>I.s0.zero i x ?g hx,?Md (?Rw I.s0.pos),λk j h1 h2=>by rw[t1 j h2];exact ?Is k j h1 h2];have hq:?Ng i (?GQ<?W):=?Q7 (?IP (L.pos i ?m) (by rw[t2];exact hc k hk));have run:=TU L bb hq hn;exact#[h.nextK K hi hn I D,λd hd=>#[?nB,(?nB).bits bb hq hn hd],λd hd=>((?KU).step L ?lJ hq hn hd).2]
abbrev dQ(n r i:Nat)(kt:?J)(c:Nat)(R:Mat):Prop:=∀k j,k<i->i<=j->j<n->?Ox ?v0 ?W
def Cp.above{n W w r i β c η:Nat}[?bb][?cQ][?bx][?ie](hn:?x)(hη:?wx)(a:dQ n r i kt c R)(l:?Mo ?ba ?l s):?OG ?l (c+η+1):=λk j h1 h2 h3=>by ext tX;(have mi:(R i ?bF).natAbs<?fd:=by ext ts;let#[m1,m2]:=K.red i j ?g ?g h3;have:=hη j ?g h3;ext d);have p1:?fd<=?Po c η:=?aS;have p2:?W<=?Po c η:=?aS;rw[l.rows,qh8];by_cases z:?l-?l<=k/\k<i;{rw[?aW];have e:=qf4 ?v0 (-?x6*R i ?bF);rw[qb5,qd3]at e;(have q:?GQ<=?W:=by unfold Ly;rw[t2];(have p:0<R i ?ax:=by rw[?wp,?xl];exact ?hX i hi hn);exact qf0 (?IP p (a k i z.2 ?m hn)));have m:=qf6 q (qf0 mi);rw[←qe5]at m;have b:=a k j z.2 ?g h3;ext d};ext cU;have:k=i:=O9m;subst this;ext d
universe Lat
namespace Lat
open Hb
abbrev put2[?a9][?cV](x y:Int):?r:=λk=>if k=i then x else if k=j then y else f k
def Tx[?a9][?cV](x y:Int):?PR i=x:=?B
def Tw{i j:Nat}[?a9](h:?ci)(x y:Int):?PR j=y:=by unfold put2;rw[?RO h,?B]
def Kz{i j k:Nat}[?a9](h1:k≠i)(h2:k≠j)(x y:Int):?PR k=f k:=by unfold put2;rw[?eV,?eA]
structure Bd3(o t g r:Int):Prop where
 go:g∣o
 gt:g∣t
 tr:t∣r
 pr:g*r=o*t
 all:∀d:Int,d∣o->d∣t->d∣g
def Shares.pair{A B g a b:Int}(h:?wH):Bd3 A B g (?fO*B):=by let ?o9:=h.dA;ext Kw;apply#[h.dA,h.dB,#[?fO,?r3],?_,λd h1 h2=>?_];{rw[k1,←qd1,←eA]};rw[h.e];exact ?wB (qu4 h1) (qu4 h2)
abbrev ChainTo(m i:Nat)[?a9]:Prop:=∀a b,a<i->a<b->b<m->f a∣f b
abbrev ChainAt(m i j:Nat)[?a9]:Prop:=?AA/\∀b,i<b->b<j->?L∣f b
def ChainAt.step{m i j:Nat}[?T]{g r:Int}(h:?HJ)[?uL](p:Bd3 ?L ?a3 g r):?iA m i ?I (?QJ g r):=by have ne:?ci:=O9m;apply#[λa b ha hab hb=>?_,λb hb hbj=>?_];{rw[Kz f (?ME (a≠i)) (?ME (a≠j))];have d1:=h.1 a i ha ha ?g;have d2:=h.1 a j ha ?g hj;by_cases e1:b=i;{rw[e1,Tx];exact p.all _ d1 d2};by_cases e2:b=j;{rw[e2,?dt];exact qx4 d2 p.tr};rw[?CW];exact h.1 a b ha hab hb};rw[Tx];by_cases e2:b=j;{rw[e2,?dt];exact qx4 p.gt p.tr};rw[Kz f ?h e2];exact qx4 p.go ?xv
def ChainAt.skip{m i j:Nat}[?T](h:?HJ)(d:?le):?Pm ?I:=#[h.1,λb hb hbj=>by by_cases e:b=j;{rw[e];exact d};exact ?xv]
def ChainTo.at{m i:Nat}[?T](h:?AA):?Pm ?l:=#[h,λb h1 h2=>O9m]
def ChainAt.next{m i:Nat}[?T](h:?Pm m):ChainTo m ?l f:=λa b ha hab hb=>by by_cases e:a=i;{rw[e]at hab ⊢;exact h.2 b hab hb};exact h.1 a b ?g hab hb
def Rs{f f':?r}{i:Nat}:∀{m:Nat},i<m->(?Ng m (k≠i->f' k=f k))->?jS*?L=?bq*f' i| ?U,hi,h=>by show ?jS*f' m*?L=?bq*f m*f' i;by_cases e:i=m;{subst e;(have:?v f' i=?v f i:=by (have:∀l,l<=i->?w5=?v f l:=by intro l;induction l with| zero=>intro _;rfl| succ l ih=>intro hl;show ?w5*f' l=?v f l*f l;rw[?gy,h l ?h ?h]);exact ?Y i ?m);rw[this];grind};have ih:=Rs (f:=f) (f':=f') (i:=i) (m:=m) ?g ?e1;rw[h m ?h ?iC];(have:?jS*f m*?L=?jS*?L*f m:=?a0);rw[this,ih];grind
def oR[?T]{i j m:Nat}{x y:Int}[?uL](h0:?L≠0)(hj0:?a3≠0)(e:x*y=?L*?a3):?jO=?bq:=by have ne:?ci:=O9m;(have a:=Rs (f:=f) (f':=?oE) (i:=i) (m:=m) ?g λk hk hne=>by by_cases z:k=j;{rw[z,?dt]};exact Kz f hne z ..);(have b:=Rs (f:=?oE) (f':=?yR) (i:=j) (m:=m) hj λk hk hne=>by by_cases z:k=i;{rw[z,Tx,Tx]};rw[?Di,?Di]);rw[Tx]at a;rw[?dt,?dt]at b;(have c:?jO*?pz=?bq*?pz:=by (have:?jO*?pz=(?jO*?a3)*?L:=?a0);rw[this,b];(have:?IC*y*?L=(?IC*?L)*y:=?a0);rw[this,a];(have:?bq*x*y=?bq*(x*y):=?a0);rw[this,e];grind);exact Int.eq_of_mul_eq_mul_right (Int.mul_ne_zero hj0 h0) c
structure Bil(β:?Gj):Prop where
 l:∀u v y a b,β ?gx y=a*β u y+b*β v y
 r:∀x u v a b,β x ?gx=a*β x u+b*β x v
def DW{β:?Gj}(hb:Bil β){P Q:Mat}[?T]{i j n w:Nat}(ne:?ci)(hin:?x)(hjn:j<n)(hiw:i<w)(hjw:j<w)(h:?Re (β ?kX (Q y)=?Bh))[?Lw] : ?Re (β (?G ?hZ j i ?kR x) (?a7 Q i j a b ?qE ?e0 y)=if x=y then ?dF f i j g ?gv x else 0):=by let ?o9:=S.dA;let#[q,eB]:=S.dB;(have g0:g≠0:=by have:=S.pos;ext d);(have k1:?e0=p:=?Iz);(have k2:?po=q:=?Cz);(have k3:?tR=b*q:=by rw[eB,show b*(g*q)=g*(b*q) by grind];exact ?pZ);have e0:=S.e;have ne':j≠i:=?cc;rw[k1,k2,k3];(have pi:?P5 i=?wK:=by rw[?ea ne,Oi]);(have pj:?P5 j=λc=>1*P j c+?fI*(?wK) c:=by rw[Oi,?ea ne',Oi]);(have po:∀x,x≠i->x≠j->?P5 x=?kX:=λx h1 h2=>by rw[?ea h2,?ea h1]);have ii:=h i i hin hiw;have ij:=h i j hin hjw;have ji:=h j i hjn hiw;have jj:=h j j hjn hjw;rw[?B]at ii jj;rw[?iQ]at ij;rw[?o ne']at ji;intro x y hx hy;by_cases y1:y=i;{subst y1;rw[?gt];by_cases x1:x=y;{subst x1;rw[?B,Tx,pi,hb.l,hb.r,hb.r,ii,ij,ji,jj];grind};rw[?qD];by_cases x2:x=j;{subst x2;rw[pj,hb.l,hb.l,hb.r,hb.r,ii,ij,ji,jj];(have:1*(a*0+?ib)+?fI*(1*(a*f y+b*0)+1*(a*0+?ib))=?ib-b*q*(a*f y+?ib):=?a0);rw[this,←e0];(have:?ib=b*(g*q):=by rw[←eB]);rw[this];grind};rw[?nR,hb.r,?gc,h x j hx hjw,?qD,?nO];simp};by_cases y2:y=j;{subst y2;rw[blend_row_q];by_cases x1:x=i;{subst x1;rw[?iQ,pi,hb.l,hb.r,hb.r,ii,ij,ji,jj];(have:1*(-q*f x+p*0)+?Pp y=p*f y-q*f x:=?a0);rw[this,eA,eB];grind};by_cases x2:x=y;{subst x2;rw[?B,?dt,pj,hb.l,hb.l,hb.r,hb.r,ii,ij,ji,jj];(have:?Pp x+?fI*(1*(-q*?L+p*0)+?Pp x)=p*f x-b*q*?yH:=?a0);rw[this];(have:?yH=0:=by rw[eA,eB];grind);rw[this];ext d};rw[?nO,?nR,hb.r,h x i hx hiw,?gc,?qD,?nO];simp};rw[?pC y1 y2];by_cases x1:x=i;{subst x1;rw[?oF,pi,hb.l,?gc,h j y hjn hy,?oF,?pi];simp};by_cases x2:x=j;{subst x2;rw[?pi,pj,hb.l,hb.l,?gc,h i y hin hy,?pi,?oF];simp};rw[?nR,?gc];by_cases e:x=y;{rw[?bs,?bs,Kz f x1 x2]};rw[?bt,?bt]
abbrev bil[?aL](A:Mat)(p q:?r):Int:=?n ?KT n
def nJ[?aL](A:Mat):Bil (bil n w A):=by apply#[λu v y a b=>?_,λx u v a b=>?_];{unfold bil;rw[←Ax,←Ax,←Cq];exact Ad λk _=>?a0};unfold bil;ext ir;apply ?q1;(have:?n (λc=>A k c*?t9) w=a*?QF u+b*?QF v:=by ext ir;exact Ad λc _=>?a0);rw[this];grind
def bil_congr[?bf]{A:Mat}{p p' q q':?r}(hp:∀a,a<n->p a=p' a)(hq:∀b,b<w->q b=q' b):?Aq=?MV p' q':=by unfold bil;apply Ad ?JJ;rw[hp a ha,Ad λb hb=>by rw[hq b hb]]
def bil_flip[?aL](A:Mat)(p q:?r):?Aq=bil w n ?m5 q p:=by unfold bil;rw[show ?KT=λa=>?n (λb=>p a*?Aa) w from ?ag λa=>(Ax ..).symm];rw[Bs];apply Ad λb _=>?_;rw[←Ax];exact Ad λa _=>?a0
def Pp[?bf]{A:Mat}{x:?r}{U:Mat}{q:?r}:∀m,?MV ?Bb q=?nh| 0=>by show ?MV ?cj q=0;unfold bil;exact ?aI λa _=>?a8| ?U=>by (have e:?QL ?oX ?Bb ?oH:=?Nc (?S3 (?rE+?oH) (1*?rE) ?oH));rw[e,(?CC).l,Pp m];show 1*?nh+?Sa m m=?nh+?Sa m m;ext d
abbrev qV[?aL](A Q M:Mat):Prop:=?Rg (M k c=?MV (λa=>M k ?bD) ?ec)
def qV.rows{n w W:Nat}{A Q M R:Mat}(h:?KL)(hW:?t8)(e:∀i,?x->In W n M (R i)):?z0:=λi c hi hc=>by let ?aQ:=e i hi;rw[?Jt];have:?MV (λa=>R i ?bD) ?ec=?MV (λa=>?R5 (x k*(λk a=>M k ?bD) k a) n) ?ec:=?yk (λa ha=>hx ?bD ?g) ?dM;rw[this,Pp];exact Ad λk hk=>by rw[?qh]
def Eg.told{n W w:Nat}[?j1]{A Q M B0 R B:Mat}[?p][?ty](hW:?t8)(k:?KL):?z0:=k.rows hW (?w4).1
abbrev beside(w:Nat)(T P:Mat):Mat:=λr c=>if c<w then T r c else P r (c-w)
def beside_lo{w:Nat}{T P:Mat}{r c:Nat}(h:c<w):?P4 r c=T r c:=?kV
def beside_hi(w:Nat)(T P:Mat)(r a:Nat):?P4 r ?bD=P r a:=by unfold beside;rw[?q,Nat.add_sub_cancel_left]
def P8[?LE]:?QW ?bH:=λk c hk hc=>by rw[?nt,?qh];exact ?yk (λa _=>(beside_hi w T P k a).symm) ?dM
def V8[?LE]:∀c k,c<w->k<n->tr T c k=bil w n ?m5 ?ec (P k):=λc k hc hk=>by show ?cJ=_;rw[?qh,bil_flip]
variable[?cR]
abbrev Gn(π b i:Nat):Nat:=i*?eD+?l*?rt
abbrev Es(π b:Nat):?J| 0=>0| ?l=>?mA+?jD
abbrev Sf(c η r:Nat):?J| 0=>0| ?aG=>?wc+(c+d*?cM+(r+d)+3)
universe Lat
namespace Lat
open Hb
variable[?cR]
def Cp.wide[?gT]{G G':?ap}[?n4][?cQ][?M2](hG:∀c,G c->G' c):?Mk i G' M:=#[#[h.st.good,h.st.st,?Md (hG _ (?rC j hj))],?ky,?i8]
def vA{n W r β:Nat}{kt:?J}[?bx](b:?Jl)(hr:?bC)(hC:?Mh (C ?bF))(hδ:δ<=β):?OG r ?wv:=λk j h1 h2 h3=>by
 have:=b.2.2 k ?bF ?g (hC j h2 h3);have e:?c2=2 ^ ?wv*?ey:=?qp
 rw[e]at this;exact Nat.lt_of_mul_lt_mul_right ?Y
abbrev moveS(i s:Nat)(x:?aj):?aj:=(?aE x.1 i s,?aE x.2 i s)
abbrev oZ(p:Nat)(x:?aj):?aj:=(Hm x.1 p,Hm x.2 p)
def Ak1{n i s r:Nat}[?er](hr:r<n):?ch<n:=?qf
def BB.move{n W β i s:Nat}[?tq][?er]:?MF β (?lD i s x) :=#[h.1.move hi hs,h.2.1.move hi hs,?ML (by show(?aE x.1 i s r c).natAbs*_<_;rw[move_row];exact h.2.2 _ c (Ak1 hi hs hr) hc)]
def BB.neg{n W β p:Nat}[?tq]:?MF β (oZ p x) :=#[h.1.neg,h.2.1.neg,?ML (by show(Hm x.1 p r c).natAbs*_<_;unfold Hm;ext gU;{subst e;rw[Bp,qd3];exact ?EQ};rw[?ds];exact ?EQ)]
abbrev insS(i spot st:Nat)(x:?aj):?aj:=if (?ri).1 ?j st<0 then oZ ?j ?ri else ?ri
def Al5(i spot st:Nat)[?aK]:?pO=?Bq:=?Mr ?JX ?JX
def Al4(i spot st:Nat)[?aK]:?sh=?FM:=?Mr ?FH ?FH
def BB.ins{n W β i spot st:Nat}[?tq][?cY](hs:?bk):?MF β (?Rq x):=by unfold insS;split;{exact(?Cu).neg};exact ?Cu
def WU{n W w i β:Nat}[?j1][?dj][?p]{π b spot st:Nat}[?MB](p:?oV)[?Kq](bb:?MF ?o3 ?al) : ?NF ?pO ?sh ∧ P4 n W w i ?pO ?sh ?bG 0 (?ye).1 (?ye).2 ∧ ?Jy ∧ (∀d,?fg->?MF ?iX ?Bz) ∧ (∀d,d<=i->∀m,m<=d->?MF ?iX (?Rj ?bG ?Bz m)):=by have I:=p.ins H hs h0 h1 hW hG hpg hex;rw[←Al5,←Al4]at I;have b1:?Jy:=(bb.mono (by have:=qc2 ?eD hs;ext d)).ins ?bn hs;have run:=AD (β:=?qz) I ?bn b1;(have up:∀d,?fg->?qz+d*?rt<=?iX:=λd hd=>by unfold Gn;have:=qc2 ?rt hd;ext d);apply#[I,?_,b1,λd hd=>(?nB).2.1.mono (up d hd),λd hd m hm=>((?KU).2.2 hd m hm).mono (up ?aG ?g)];have D:=(run ?l ?m).1;rw[qh7]at D;exact D
universe Lat
namespace Lat
open Hb
variable[?cR]
def Ya{w m D:Nat}{T P:Mat}(h:P5 m ?dV T D):P5 m ?dV ?bH D:=λi hi s hs=>by have e:(?s i λr l=>?P4 r ?az)=?qe:=Di λr c _ hc=>?qd ?FE;rw[e];exact h i hi s hs
def In.cols{w n:Nat}{R R':Mat}{u v:?r}(h:?Jr)(hR:?Np ?jv R')(hu:?BJ):?OI R' v:=by let ?aQ:=h;exact#[x,?OT hu ?dX (by rw[hR k c hk hc])]
def E7.cols[?bf]{T T' S S':Mat}(h:?rh)(e:?Np ?cJ S)(e':?Np ?rM S'):E7 n w S S':=by let#[r,t,hr,st,hz]:=h.st;apply#[?O0 h.fwd e e',?O0 h.bwd e' e,r,t,hr,#[st.lt,st.inc,?eU,?aT,λk j hk hj=>?_],?Rp (by rw[←e' i c h2 h3];exact hz i c h1 h2 h3)];{rw[←e' j c ?h (by have:=?nm;ext d)];exact ?Rv st.zero};{rw[←?yQ];exact ?Hp};rw[←e' k _ ?h ?nm,←?yQ];exact st.red k j hk hj
def pG{n W w r i E π b:Nat}{e:Int}{T P B0 R B:Mat}[?cQ][?uG](hW:w<=W)(h:?Mk i ?dV ?bH)(hi:i<r)(hE:?QS E)(he:?yB)(hb:i*E<=?R)(hπ:π<=b):?NS ?dV R B:=by have rn:=g.sq.rn;apply h.st.putD (Ya g.dets) ?g ?g ?yz (b0:=π) ?cZ hE hb ?m hπ;rw[?nt];let ?Iy:=?Pu g.le i;ext d
def Pd{n w r E:Nat}{e:Int}[?j1]{A Q T P B0 R B:Mat}[?cQ](he:0<e)[?uG][?Lv](h:Cp n ?E w r n G ?bH B0 kt hd t R B)(k:?IG) : ?ug/\F3 w n r E e ?hA/\?Mt ?E R/\?RA R (λa=>R x ?bD) ?ec:=by have s:?ug:=?Ql h.st.rows;exact#[s,s.going he g,h.done K,h.st.told ?m (P8 k)]
universe Lat
namespace Lat
open Hb
variable[?cR]
def qB{n W w i D π b b0:Nat}[?n4][?p][?LI][?M0][?cY][?Le]:?NS ?nN R B :=h.putD hD ?g hi ?Ax (?OU (hM i c hi hc)) h1 h2 h3 h4
def Ud{n W w i D b b0 β:Nat}[?n4][?p][?LI](hB:∀k a,B0 k a=?IN)[?M0](hi:?fl)(h2:?tU)[?M6]:BB n W ?Af 0 β ?al:=by apply#[?dE,λr a hr ha=>?_,λ_ _ _ z=>z.elim];{(have le:?AH:=by by_cases z:r<i;{exact ?SJ hi ?Ax z};rw[?jU r c ?h];exact qa5 (?RS hM) ?Fn);exact qc5 le (qh2 ?aA hβ)};(have pM:∀x,x<n->∀c,pT n B0 M x c=M x c:=λx hx c=>by show ?R5 (B0 k x*M k c) n=M x c;rw[?aU (j:=x) hx λk _ hne=>by rw[hB,?oS];simp,hB,?B,qd8]);by_cases z:r<i;{have:=h.backs hi (a:=a) (m:=?ow) (?Q7 (by rw[?Ge k a hk,hB])) (?Md (by rw[pM a ha];exact ?yY)) (?Md ?yY) (λ_ _ j _=>pM a ha _) r z;rw[←qe5]at this;exact qc5 ?Y ?n9};show(B r a).natAbs<?c2;rw[?Ge r a ?h,hB];have:1<?c2:=Nat.one_lt_two_pow ?g;split;{exact this};exact qv8 ?aA ?Y
universe Lat
namespace Lat
open Hb
def Fo(w:Nat)(R:Mat):?aP w R (λr a=>R r ?bD)=R:=by funext r c;unfold beside;by_cases h:c<w;{rw[?kV]};rw[?lN];show R r (w+(c-w))=?bY;rw[?ME (w+(c-w)=c)]
def Sl.table{n W w r:Nat}[?mm]{T T' P:Mat}(h:?Mt W ?bH)(hz:?gw):?Mt W (?aP w T' P):=by (have same:∀k c,w<=c->?aP w T' P k c=?P4 k c:=λk c hc=>by unfold beside;rw[?q,?q]);apply#[?z4,?cF,h.ge,h.lt,?lY,?aO,?Eg];{by_cases z:c<w;{rw[?qd z];exact hz j c h1 h2 z};rw[same j c ?h];exact ?zw};{rw[same j _ (?PU h.ge)];exact ?PU h.head};rw[same k _ (h.ge j h1 h3)];exact ?Fe
def Hx{n w w':Nat}{T T' P B:Mat}(h:?Fk):F0 n w' (?aP w' T' P) B:=λi j hi hj=>by have:=?Hj;unfold pD at this ⊢;rw[←this];exact Ad λc _=>by rw[beside_hi,beside_hi]
structure Ui(n w r E L m:Nat)(e:Int)(A T P PB Q QB:Mat)(kl kr:?J)(hl hr:?r):Prop where
 e0:0<e
 going:?kv
 kl:?Qc ?bH
 kr:?O2 ?F7
 told:?IG
 dl:?FS
 dr:F0 w n ?F7 QB
 left:?JN
set_option tactic.hygienic true in def Ui.next{n w r E L m:Nat}{e:Int}{A T P PB Q QB R RB S SB:Mat}{kl kr tl ur:?J}{hl hr:?r}{G G':?ap}(hL:?BZ)[?Lo] (s1:Cp n ?E w r n G ?bH PB kl hl tl R RB) (s2:Cp w ?dY n r w G' ?E7 QB kr hr ur S SB) : ?wa/\(¬?hC->0<m/\Ui n w r E L (m-1) e A ?mP ?nK RB ?s3 SB kl kr hl hr):=by let#[a1,a2,a3,a4]:=Pd h.e0 h.going h.kl s1 h.told;have kr':?O2 ?E7:=?MN h.kr.table a2.sq.row0;have t2:?Nm (Q x):=?OA (V8 (T:=R) (P:=?nI) a4 x c hx hc);let#[b1,b2,b3,b4]:=Pd h.e0 a2 kr' s2 t2;have st:?wa:=#[R,a1,b1];apply#[st,λns=>?_];let#[m0,lf]:=h.going.next h.e0 hL st h.left ns;apply#[m0,h.e0,b2,?_,?_,?_,?_,?_,lf];{(have:?Qc ?q6:=by rw[Fo];exact a3);exact ?MN ?ly b2.sq.row0};{(have:?O2 ?pu:=by rw[Fo];exact b3);exact ?MN ?ly b2.sq.flip.row0};{intro x c hx hc;show S c x=_;rw[b4 c x hc hx,bil_flip]};{have d:=s1.st.good.dual h.dl;(have:?Gn:=?vX);exact ?jx};have d:=s2.st.good.dual (Hx h.dr);(have:?J0:=?vX);exact ?jx
abbrev one:Mat:=λi j=>?j8
def Vo[?aL](T:Mat):?Nk (?aP w T one) one:=λi j hi hj=>by unfold pD;rw[show(λc=>?aP w T one i ?iV*?na)=λc=>?Mc c i ?na from ?Nc (by rw[beside_hi];show(if i=c then ?co else 0)*_=_;by_cases e:i=c;ext LD)];rw[D6 (λc=>?na) i n,?j9];show ?MM j i _;by_cases e:i=j;ext LD
def RN[?bf](A:Mat):?RA A ?AE (one c):=λx c hx hc=>by unfold bil;rw[?aU (j:=x) hx (?RZ x)];rw[?aU (j:=c) hc (?RZ c)];have e1:one x x=1:=?B;have e2:one c c=1:=?B;rw[e1,e2];simp
def JH{n w D D' L:Nat}{A R RB S SB:Mat}{t u:?J}{G G':?ap}(hD:P5 n G ?EY D)(hD':P5 w G' ?Df D') (s1:Eg n ?E w n G ?EY one t R RB) (s2:Eg w ?dY n w G' ?Df one u S SB) : ∃(r:Nat) (e:Int),?bC/\?eS/\e<=D/\Ui n w r D L ?IJ e A ?mP ?nK RB ?s3 SB t u ?hz ?xt ∧ ?yK/\?MS w (?Gy<=D'):=by let#[r,hr,st,hz,K,pr,hd]:=s1.first hD;let#[r',hr',st',hz',K',_,hd']:=s2.first hD';have e0:0<?vf:=?SN ?Hp;have rs2:E7 w n ?hA (tr ?mP):=?Ql s2.rows;have g:=Xk.first (T:=A) hr st hz rs2 pr;have rw':=g.sq.rw;(have er:r'=r:=by apply ?PH ?ek;{have p:=st'.pos r z;have:S r (u r)=0:=g.sq.col0 (u r) r (st'.lt r z) ?m ?g;ext d};have p:0<S r' r':=g.pos r' z;have:S r' r'=0:=hz' r' r' ?m ?g ?g;ext d);subst er;have d1:=s1.good.dual (Vo n w A);have d2:=s2.good.dual (Vo w n ?hA);have tl:=s1.told ?m (P8 (RN (n:=n) (w:=w) A));have t2:?Nm ?AE:=?OA (V8 (T:=R) (P:=?nI) (Q:=one) tl x c hx hc);have tl2:=s2.told ?m (P8 t2);apply#[r',_,hr,rw',pr,#[e0,g,?_,?_,?OA ?_,?_,?_,QV.start g],hd,hd'];{(have:Sl n ?E w r' t ?hz ?q6:=by rw[Fo];exact K);exact ?MN ?ly g.sq.row0};{(have:Sl w ?dY n r' u ?xt ?pu:=by rw[Fo];exact K');exact ?MN ?ly g.sq.flip.row0};{show S c x=_;rw[tl2 c x hc hx,bil_flip]};{(have:?Gn:=by rw[Fo];exact d1);exact ?jx};(have:?J0:=by rw[Fo];exact d2);exact ?jx
structure Dx(n w m:Nat)(E:Nat)(A P PB Q QB:Mat)[?a9]:Prop where
 mn:?eX
 mw:?gk
 diag:?Re (?MV ?kX (Q y)=?Bh)
 pos:∀x,x<m->0<f x
 zero:∀x,m<=x->x<n->x<w->f x=0
 prod:?bq<=E
 dl:F0 n 0 P PB
 dr:F0 w 0 Q QB
def DF[?bf]{T P B:Mat}(h:?Fk):F0 n 0 P B:=λi j hi hj=>by rw[←?Hj];unfold pD;exact Ad λc _=>by rw[beside_hi,qt4]
def Ui.diag{n w r E L m:Nat}{e:Int}{A T P PB Q QB:Mat}{kl kr:?J}{hl hr:?r}[?Lo](s:?hC):?QP r (λx=>T x x):=by apply#[h.going.sq.rn,h.going.sq.rw,λx y hx hy=>?_,h.going.pos,λx h1 h2 h3=>h.going.sq.row0 x x h1 h2 h3,h.going.prod,DF h.dl,DF h.dr];rw[←h.told x y hx hy];by_cases z:x=y;{rw[?aW,z]};ext cU;exact s x y hx hy z
def Dx.share[?MA][?T](h:?DD){i j:Nat}[?uL][?Lw] : Dx n w m E A (?G ?hZ j i ?kR) (?G (?G PB j i ?Z) i j ?tR) (?a7 Q i j a b ?qE ?e0) (?a7 QB i j ?e0 ?po (-b) a) (?QJ g ?gv):=by have ne:?ci:=O9m;have mn:=h.mn;have mw:=h.mw;have pi:=?aO i ?g;have pj:=?k7;have pg:=S.pos;have pr:=S.pair;have gz:?e0*g=?L:=Int.ediv_mul_cancel S.dA;(have po:0<?gv:=by (have:0<g*?gv:=by rw[pr.pr];exact ?kL pi pj);exact Int.pos_of_mul_pos_right ?Y ?g);apply#[mn,mw,DW ?CC ne ?g ?g ?g ?g h.diag S,?ju,λx h1 h2 h3=>?_,?_,?_,?_];{by_cases e1:x=i;{rw[e1,Tx];exact pg};by_cases e2:x=j;{rw[e2,?dt];exact po};rw[?CW];exact ?aO x hx};{rw[Kz f ?h ?h];exact ?au x h1 h2 h3};{rw[oR hij hj ?h ?h pr.pr];exact h.prod};{have d1:=?Q3 h.dl.add 1;have d2:=d1.add (p:=j) (q:=i) ?g ?g ?cc ?kR;rw[qp8]at d2;exact d2};have B:=S.blend (π:=?Ea+?zK) pi ?DP ?DP;have d:=?Q3 h.dr.blend B.one;rw[qp8]at d;exact d
def Dx.le[?MA][?T](h:?DD){x:Nat}(hx:x<m):f x<=E:=qw1 (c8 ?aO hx) ?rg
abbrev X2(n r:Nat)(kt:?J):?ap:=λc=>∃j,?ak/\j<n/\c=?bF
def Sl.bits{n W w r β η:Nat}[?mm]{M B:Mat}(K:?p6)[?M7](b1:?Oa β M)(b2:?GO)(hβ:?rY):?RU W β (M,B):=by apply#[b1,b2,λk c hk hc=>?_];let ?Jm:=hc;(have le:?D0<=?fd:=by have p:=?uh;have q:=?Fo;(have q':?FN:=by ext Kk);rcases ql4 k j with z | z | z;{let ?hw:=K.red k j h1 z h2;ext d};{subst z;rw[?iT k h1 h2];exact q'};rw[?ld k _ ?h hk (K.inc j k h1 z hk)];exact ?Q);show ?D0*2 ^ ?cp<?c2;(have e:?c2=2 ^ ?cM*2 ^ ?cp:=?qp);rw[e];apply Nat.mul_lt_mul_of_pos_right ?_ (qs4 _);exact CK le
abbrev Nv(π b η r n:Nat):Nat:=?dd+?sX
def YS{n W r β η π b:Nat}{kt:?J}[?bx](bb:?RU W ?i3 s)(hr:?bC)(hβ:?rY):?OG r ?cK:=by have:=vA bb hr (kt:=kt) (?Nz ?Jm) ?g;rw[?ME (?i3-?cp=?cK)]at this;ext aZ
def oH(π b:Nat){i r:Nat}(h:i<=r):?mA<=?dd:=by induction r with| zero=>rw[?Mn i];exact ?m| succ r ih =>by_cases e:i=r+1;{rw[e];exact ?m};have:=?cL;show _<=?dd+Gn π b r;ext d
def qD(c η r:Nat){d e:Nat}(h:d<=e):?wc<=?vO:=by induction e with| zero=>rw[?Mn d];exact ?m| succ e ih =>by_cases z:d=?dp;{rw[z];exact ?m};have:=?cL;show _<=?vO+_;ext d
universe Lat
namespace Hb
open PySem L2
def lH{g:TG}[?md][?Kh] [?Ka]:?NY ?m3 OH:=QI hn Pv h0 hl (λi x y zs τ H p e1 e2 q hp=>?Ok q) hd
noncomputable abbrev big:Nat:=67108864
def Aa9:∃n:Nat,n=?s4:=?C2
abbrev L9:Nat:=Classical.choose Aa9
def aT:L9=?s4:=Classical.choose_spec Aa9
def KH{i j:Int}{n:Nat}(hi:?B1)(hj:?up)(h:?a5 (9000+n<=134217728) ?kh):?eW i j:=Lx ?pb hj h
def EO[?Lt]:?eW i j:=Lx ?pb ?wf ?aA
def V4.of9{i j:Int}(h0:j≠0)(h:?JQ):V4 i j:=V4.of h0 (aT▸h)
def Bq0[?Lt]:?uO<2 ^ 18000:=by rw[qb5,show 18000=9000+9000 from rfl,qe5];exact ql9 ?pb ?wf
def ZL{x π:Nat}(h:?QS x)(hπ:π<=8999):x<L9:=by rw[aT];exact qc5 h ?n9
abbrev BO[?cW][?bK]:Prop:=?IQ n W big s.1/\?IQ n n big s.2
abbrev TA(H:Hp)(r:Addr)[?n3][?cW](f:Lat.Mat):Prop:=as.length=n/\?RB H r ?dS/\∀i c,?zR->?RB H c ?y9
section
variable[?aB][?ew]{r:Addr}[?eu]{n W:Nat}{f g:Lat.Mat}
def TA.keep[?bv](h1:∀o,H r=?aF->H' r=?aF)(h2:?zj):?qR:=#[x.1,h1 _ ?f5,λi c e=>h2 c ?ya _ (?fa i c e)]
def TA.same[?bv][?n7]:?qR:=?oK (λ_ e=>?rO) λ_ _ _ e=>?rO
def TA.put{y:Addr}{o:HO}[?bv](h1:r≠y)(h2:∀a∈as,a≠y):TA (?Na y o) r as n W f:=?oK (λ_ e=>?RL h1) λa ha _ e=>?RL (h2 a ha)
def TA.row[?bv]{i:Nat}[?cY]:∃c,?zR/\?ON ?dS (?z c)/\c∈as/\?RD c ?y9:=by let ?ke:=x;have e:=qa0 (l:=as) (i:=i) ?g;apply#[as[i],e,by rw[qa7,e];rfl,qd7 _,.of (h3 i _ e)]
def TA.rep[?bv]:?NP H ?pm (dT n W f):=by apply iR (us:=?dS) (.of ?f5) (by rw[qa3,x.1]) ?hx;let#[c,_,e,_,h]:=x.row (K:=K) hi;exact#[c,e,h]
def TA.there[?bv]:H r≠none/\∀a∈as,?kg:=by apply#[?Ni ?f5 ?E1,?JJ];let ?w6:=qg9 ha;rw[?yo];exact λz=>by cases z
def TA.of{D:Addr}{H1:Hp}{w h:Nat}[?gM](hl:?m9):TA H1 D as h w f:=#[hl,R.at,λi c e=>(R.row i c e).2.2]
def TA.congr[?bv](e:?P0 ?x (c<W->?m1=g i c)):?PC H as g:=by
 apply#[x.1,?f5,λi c ec=>?_];have hi:?x:=by rw[←x.1];exact(?dz ec).1
 rw[?fa i c ec,Ri λk hk=>e i k hi hk]
def TA.x[?mf][?bv][?mc]:?qR:=by apply ?oK (λo e=>?Nq ?f5 hp e) λa ha o e=>sx _ _ ?_ e;let ?w6:=qg9 ha;exact Fn ?yo hp ?ad
def TA.made{H2:Hp}{L D:Addr}{i:Nat}[?bv](s2:?eC H H2)[?cY](hL:?RB H2 L (?H8 i ?dJ))(hD:?RB H2 D (VI W (g i)))(e:∀r,?l4->g r=f r):TA H2 L (as.set i D) n W g:=by apply#[by rw[qi4,x.1],by rw[hL,qy3],λj c ec=>?_];rw[qo5]at ec;by_cases hj:i=j;{subst hj;rw[?B,?w ?qy]at ec;cases ec;exact hD};rw[?o hj]at ec;rw[e j ?D4];exact s2 _ _ (?fa j c ec)
def TA.two{i j:Nat}{D1 D2:Addr}[?bv][?cY](hj:j<n)(hij:?ci)(h':?RB H' r ((?H8 i ?sa).set j ?pg))(keep:?zj)(h1:?RB H' D1 (VI W (g i)))(h2:?RB H' D2 (VI W (g j)))(e:∀k,k≠i->k≠j->g k=f k):?PC H' ?BW g:=by apply#[by rw[qi4,qi4,x.1],by rw[h',qy3,qy3],λk c ec=>?_];rw[qo5,qi4]at ec;by_cases hkj:j=k;{subst hkj;rw[?B,?w (by rw[x.1];exact hj)]at ec;cases ec;exact h2};rw[?o hkj,qo5]at ec;by_cases hki:i=k;{subst hki;rw[?B,?w ?qy]at ec;cases ec;exact h1};rw[?o hki]at ec;rw[e k (?Ml hki) (?Ml hkj)];exact ?d9 c (qb2 ec) _ (?fa k c ec)
def mQ{i j:Nat}{D1 D2 a:Addr}(h:a∈?BW):?ra\/a=D1\/a=D2:=by rcases qp2 h with h | h;{rcases qp2 h with h | h;{exact ?S h};exact ?S9 h};exact ?X ?pS
def Js{l i:Nat}(h:i<l):VT l ?C1=?k i:=by unfold VT;rw[?N,?N,qe0]
universe e9
abbrev mNames:?iF:=["turn","blend","put_in","meet","shrink","shrink_row"]
structure LX(H:Hp)(C p r b:Addr)(sv:?g3)[?cW][?bK](N:?cC):Prop where
 ob:Kc λdx fs=>?zn/\Da (?N9 "rows" ?pm) (?c4 ("backs":Str)=?qC) (?c4 (?Jf:Str)=sv) ((∀m∈mNames,?zA)) ?ET
 rw:∃as,TA H r as n W s.1/\∀a∈as,?y3
 bk:∃bs,TA H b bs n n s.2/\∀a∈bs,?y3
 ne:r≠b
 nr:¬N r
 nb:¬N b
 nn:∀a,N a->?kg
def LX.keep[?ew][?mY][?n5][?mj](e:?bg):?uS:=by ext tZ;exact#[?ub,#[as,?CZ,a2],#[bs,?FF,b2],?dc,x.nr,x.nb,λa ha z=>x.nn a ha (e.free z)]
def LX.refs{H:Hp}[?mY][?n5][?mj]:p≠r/\p≠b:=by let#[dx,fs,h1,_]:=x.ob;let#[as,a1,_]:=x.rw;let#[bs,b1,_]:=x.bk;exact#[Fn h1 a1.2.1 ?ad,Fn h1 b1.2.1 ?ad]
abbrev tnS(t:Tn)[?bK]:?a4:=(wC t s.1,wC ?qc s.2)
abbrev Ak2[?cW](f:Lat.Mat):?yy| .ad i j k=>?x/\j<n/\?ci/\?Rz W (?eW k ?pR)| .mi i=>?x| .sw _ _=>False
abbrev Xm(r b:Addr)(H H':Hp):Prop:=∀x o,x≠r->x≠b->H x=?aF->H' x=?aF
def Xm.of{r b:Addr}[?ew][?n7]:?jr:=λ_ _ _ _ e=>?rO
def Xm.trans{r b:Addr}{H H1 H2:Hp}(x:?PJ H1)(y:Xm r b H1 H2):?PJ H2:=λa o n1 n2 e=>y a o n1 n2 (x a o n1 n2 e)
def Xm.l[?Lu]:?PJ (upd H' r o):=?Nv n1
def Xm.r[?Lu]:?PJ (upd H' b o):=?Nv n2
section
variable[?bu]
abbrev Zy:Sp:=?MH (Ex7 λ(r:Addr) (u:V) (as:?fq) ?fM (f:Lat.Mat) ?pj=>Mb (vs=[?pm,u]) ?H0 ?o2 (Ak2 n W f t) ?dA ?kw (∀(D:Addr) (as':?fq) (H':Hp),?f4->?bg->TA H' D as' n W (wC t f)->(∀a∈as',(?ra\/?i5)/\a≠D)->?rP))
abbrev Ny[?gJ]:Sp:=?MH (Yd λ(p dx C:Addr) (r b:V)=>Bw ?IK ?nE (?SZ C) (∀H',(∀fs,fs=?FL->H'=upd (upd H p (?cG C dx ?AC)) p ?xa->?bZ)))
abbrev Lh[?bu]:Sp:=?MH (lS λ(p:Addr) (u:V) (C r b:Addr) ?qX ?fM ?fm ?p0 ?pj=>aV (vs=[?aC,u]) ?nE ?sS ?o2 (Ak2 n W s.1 t) (Ak2 n n s.2 ?qc) ?dA ?kw (∀(r' b':Addr) (H':Hp),?pW->?KI->?zi->LX H' C p r' b' sv n W (tnS t s) N->?bZ))
abbrev Xv:Sp:=?MH (∃A B:Int,vs=[?y A,?y B]/\0<A/\?p9/\?zv/\?E2/\∀(L:Addr) (g a b:Int) (H':Hp),?bg->?RW b->?jn A B g a b->?Hc)
abbrev Nz[?bu]:Sp:=λvs H Q _=>Ar6 λ(p C r b:Addr) ?qX (n W i j:Nat) (A B:Int) ?fm ?p0=>Ac6 (vs=[?aC,?cz,?mS,?y A,?y B]) ?nE ?sS ?x (j<n) ?ci ?dA ?kw (0<A) ?p9 ?zv ?E2 ?q5 (∀(L:Addr) (g a c:Int) (H':Hp),?jr->?mT->?RW c->?jn A B g a c->?Nr (?pv i j a c ?rS ?fO s) N->?Hc)
universe e9
abbrev Hds(W:Nat)[?F](f m:Nat)(R:Lat.Mat):Prop:=∀j,?QI (?A<W/\?i2/\?dC<L9)
structure SX(CS:Addr)(H0 H:Hp)(p q:Addr)(M:?cC)[?cW][?F](cnt:Nat)[?bK]:Prop where
 ex:∃r b,?KF/\?Eh/\?Fh
 st:?RB H q (VI cnt λi=>((?bO:Nat):Int))
 same:?jK
 fp:?qP
 fq:?NG q
 mq:M q
 sm:n<=100/\W<=200/\cnt<=n
section
variable{CS:Addr}{H0 H H':Hp}{p q:Addr}{M:?cC}{n W cnt:Nat}[?p]{s s':?a4}
def SX.redo{H1:Hp}{r' b':Addr}[?tu](e:?lu)(sx:?ho p H1 H')(h1:H1 r'=none)(h2:H1 b'=none)(y:?Pj r' b'):?KR:=by have s1:=?sY e;let#[r,b,z,_]:=x.ex;let#[dx,fs,hp,_]:=z.ob;exact#[#[r',b',y,s1.free h1,s1.free h2],?Nq x.st hp (e _ _ x.st),sx.same s1 x.fp,x.fp,x.fq,x.mq,?e2]
def SX.redo2{r b:Addr}[?tu](lx:?KF)(f1:?Eh)(f2:?Fh)(fr:?jr)(_kp:?mT)(y:?Pj r b):?KR :=#[#[r,b,y,f1,f2],fr _ _ (λz=>?lj ?DM) (λz=>?kW ?DM) x.st,?OE f1 f2,x.fp,x.fq,x.mq,?e2]
def SX.re[?tu](h:s=s'):?Mm H s':=h▸x
universe e9
def insAt_get{α:Type}[?u3](h:?wP)(j:Nat):?se[j]?=if j<k then xs[j]? else if j=k then ?gs else xs[?dO]?:=by unfold insAt;by_cases h1:j<k;{rw[?fJ,qc3 ?yP,qg8,?fJ]};rw[?eV,qd0 ?yP,qb9,?E3 h];by_cases h2:j=k;{rw[?gr,h2,qh7];rfl};rw[?eA];obtain⟨e,rfl⟩:∃e,j=?V+e:=#[j-?V,?g];rw[?ME (?V+e-k=?dp),List.getElem?_cons_succ,qq7];congr 1;ext d
def cJ{α:Type}{xs:?i7}{i s:Nat}{y:α}(hi:xs[i]?=?gs)(hs:s<=i)(j:Nat):(?eQ s y (xs.eraseIdx i))[j]?=xs[Lat.mvI i s j]?:=by have hl:i<xs.length:=?GR;rw[?Gg _ _ _ (by rw[qj8 hl];ext d)];unfold Lat.mvI;by_cases h1:j<s;{rw[?fJ,?fJ,List.getElem?_eraseIdx,?N]};rw[?eV,?eV];by_cases h2:j=s;{rw[?gr,?gr,hi]};rw[?eA,?eA,List.getElem?_eraseIdx];by_cases h3:?bW;{rw[?N,?w h3]};rw[?q,?o h3];congr 1;ext d
def cU{α β:Type}(g:α->β)[?u3]:(?se).map g=?eQ k (g y) (xs.map g):=by unfold insAt;rw[qb0,qd2,qo4,qq5]
def Wy{α β:Type}(g:α->β):∀(xs:?i7) (i:Nat),(xs.eraseIdx i).map g=(xs.map g).eraseIdx i| [],_=>rfl| _::_,0=>rfl| x::xs,?l=>?ko (g x::·) (Wy g xs i)
def TA.move{H H1:Hp}{r:Addr}[?eu]{n W i s:Nat}{f:Lat.Mat}{ci:Addr}[?bv][?er](pV:?ON as ci)(h1:?RB H1 r (?eQ s (?z ci) ((?dS).eraseIdx i)))(h2:∀a∈as,H1 a=?an) : ?PC H1 ?JO (Lat.moveR f i s)/\?vl:=by (have mem:?vl:=λa ha=>by let#[j,hj]:=qf5 ha;rw[?Ik]at hj;exact qb2 hj);apply#[#[?_,?_,λj c e=>?_],mem];{unfold insAt;rw[qb7,qd5,qb9,qh4,qj8 ?qy,x.1];first|exact zn8 hi hs|ext d};{rw[h1,cU,Wy]};rw[?Ik]at e;rw[h2 c ?ya,Lat.move_row];exact ?fa _ _ e
def jO{i s st:Nat}[?p](hs:s<=i):?eQ s (?aR ((st:Nat):Int)) (VI i λk=>((?a2:Nat):Int))=VI ?l λk=>((?IE t s st k:Nat):Int):=by refine qr5;intro j;rw[?Gg _ _ _ (by rw[Bv];exact hs)];by_cases hj:?jC;{rw[Cy hj];unfold Lat.insT;by_cases h1:j<s;{rw[?fJ,?fJ,?lC]};rw[?eV,?eV];by_cases h2:j=s;{rw[?gr,?gr]};rw[?eA,?eA,?lC]};rw[?q,?q,?jH,?jH]
def Z2[?F](p f:Nat)[?bK]:∀d l,l≠p->(?gC t p f s d).1 l=s.1 l| 0,_,_=>rfl| ?aG,l,h=>by rw[Lat.shrS];show Lat.addR _ _ _ _ l=_;rw[Lat.addR_row_ne h];exact Z2 t p f s d l h
abbrev dP[?cW][?F](i f m:Nat)[?bK]:Prop:=∀d,d<=m-f->BO n W (?gC t i f s d)
abbrev lT[?cW][?F](i:Nat)[?bK]:Prop:=∀d,d<=i->Hds W t ?af ?l (?Hi).1/\dP n W t ?aJ ?af ?l ?Hi
abbrev A47[?F](spot i:Nat)(k:Int)[?bK]:?a4:=?QH i ?Bv
abbrev m9[?u0][?bK]:?a4:=?pv ?j i a b ?rS ?fO s
abbrev tL[?F][?u0][?bK]:?a4:=?QH ?j (m9 ?j i A B g a b s)
abbrev A46[?F][?u0][?bK]:?a4:=?QH i (tL t ?j i A B g a b s)
structure vB[?cW][?F](spot i:Nat)[?bK](Nx:?h8):Prop where
 bo:?q5
 hd:Hds W t ?j i s.1
 oth:?d0≠0/\?Ox ?d0 L9
 add:∀k,?d0=k*?fr->?Rr i ?Bv/\Nx (A47 t ?j i k s)
 ble:∀g a b,?jn ?fr ?d0 g a b->?Rr ?j (m9 ?j i ?fr ?d0 g a b s)/\?Rr i (?Pb tL)/\Nx (?Pb A46)
structure Aq6(n W i:Nat)[?F](s0:?a4)(I:?If):Prop where
 start:I 0 s0
 ok:∀spot s,?bk->?tQ->∃c,c<W/\?hP≠0
 skip:?Op ?fT (I ?D s)
 meet:?Op (c<?bP) (?d0≠0->vB n W t ?j i s (I ?D))
abbrev Iu(W:Nat)(u:?r)(st:Nat):Prop:=(?Rz st (u c=0))/\u st≠0/\st<W
def Iu.one{W W':Nat}[?j5]{a b:Nat}(h:Iu W u a)(k:Iu W' u b):a=b:=by rcases ql4 a b with e | e | e;{exact ?c7 (k.1 a e) h.2.1};{exact e};exact ?c7 (h.1 b e) k.2.1
def Iu.ex{W:Nat}[?j5](h:∃c,c<W/\u c≠0):∃st,?KG:=by let ?t1:=h;induction c using Nat.strongRecOn with| _ c ih =>by_cases z:∃d,d<c/\u d≠0;{let#[d,hd,hd0]:=z;exact ih d hd ?g hd0};apply#[c,?kt,h0,hc];exact qh0 λk=>z #[d,hd,k]
structure jA[?cW](J:?IH):Prop where
 step:∀i t s,?x->J i t s->∃I,?zT/\∀spot st s',?bk->?ry->?pH->?mR →
  lT n W ?jT i ?ph/\J ?l ?jT (?nF ?jT i ?ph ?l)
def lP{w n:Nat}{f g:?r}{h:?r}(h1:?Mx (h c=f c))(h2:∀a,a<n->h ?bD=g a):VI w f++VI n g=VI ?E h:=by refine qr5;intro j;by_cases e1:j<w;{rw[qc3 (by rw[Bv];exact e1),Cy e1,?lC,h1 j e1]};rw[qd0 ?fB,Bv];by_cases e2:j<?E;{rw[?lC,Cy e2,←h2 (j-w) ?h,?ME (w+(j-w)=j)]};ext LX
def yT{w n:Nat}[?T]:Ci ?xh ?jY ?ac=VI n ?DU:=by
 ext Kv;have s1:?s5 ?E 0 ?jY=w:=?ud
 unfold Ci;rw[Bv,s1,←e,List.drop_append_of_le_length ?fB,List.drop_of_length_le ?fB,qq4];refine qj9;rw[Bv];simp only[HT.sIx];ext d
def Bd0{w n:Nat}[?T]:Ci ?xh ?ac ?jY=VI w f:=by
 ext Kv;have s1:?s5 ?E ?E ?jY=w:=?ud
 have s2:?s5 ?E 0 ?ac=0:=rfl;unfold Ci;rw[Bv,s1,s2,List.drop_zero,qy0,←e,ql1 ?fB,qj9 ?fB]
section
variable[?bu]
abbrev Xu[?bu]:Sp:=λvs H Q _=>VO λ ?dg (L r b:Addr) ?qX ?p0 ?g1 (T P PB:Lat.Mat) (J:?IH)=>aV (vs=[v,?mB,?nj]) (?NP H v (dT n w T)) (LX H CL L r b sv n n (P,PB) N) ?pD ?lA (jA n ?E J) ((∀t,J 0 t (?tA w T P,PB))) ((?RV (J i t s))) (∀(tp D L' r' b':Addr) [?n3] [?F] [?bK] (H':Hp),?bg->J n t s->SqT K H' tp [?dJ,?z L']->TA H' D as n w s.1->LX H' CL L' r' b' ?ac n n (λx a=>s.1 x ?bD,s.2) N->?f4->?Rd L'->?KI->?zi->?uv)
abbrev U0:Sp:=?MH (S8 λ(c:Addr) (W st:Nat) (u:?r)=>Da (vs=[?z c]) (?RD c (VI W u)) ?KG ?kw (Q (?y (st:Int)) H))
abbrev Lg[?gJ]:Sp:=?MH (lS λ ?cq ?kU ?lP ?fM ?jg (cnt:Nat) ?fm (i f:Nat)=>Xn (vs=[?aC,?cz,?y f]) ?uU ?x (f<=cnt) ((i<f\/cnt<=i)) (Hds W t f cnt s.1) (dP n W t i f cnt s) (∀H',?RE cnt (?gC t i f s (cnt-f))->?bZ))
abbrev Zw[?gJ]:Sp:=?MH (Ex9 λ ?cq ?kU ?lP ?fM ?jg ?fR ?fm=>Bw ?ja (?Rc ?l) (lT n W t i s) (∀H',?RE ?l (?nF t i s ?l)->?bZ))
abbrev GO[?gJ]:Sp:=?MH (lS λ ?cq ?kU ?lP ?fM ?jg (?j i:Nat) ?fm (Nx:?h8)=>G9 (vs=[?aC,?y ?j,?cz]) ?us ?gp ?x (vB n W t ?j i s Nx) (∀H' s',?RE i s'->Nx s'->?bZ))
abbrev Zx[?gJ]:Sp:=?MH (QW λ ?cq ?kU ?lP ?fM ?jg ?fR ?fm (I:?If)=>G9 (vs=[?aC,?cz]) ?us ?x ?zT ?nY (∀H' spot st s',?bk->?ry->?pH->?mR->SX CS H0 H' p q M n W ?jT ?l ?ph->?bZ))
abbrev gP[?gJ]:Sp:=?MH (S8 λ ?x5 (r b:V)=>Fm ?IK (?SZ CS) (∀q H' fs,?Rd q->fs=putF ?Jf ?ux ?FL->?pW->H' q=?k ?HV->H' p=?RF CS fs->?bZ))
universe e9
universe Hb
namespace L2
open PySem PySem.Spec PyProof.Rows PySem.SeqAt
section
variable{X:Cx}{n:Nat}[?aB]
def QM[?my]:?Mf X.K:=by ext ih;let#[p,bs,?i,hq,q]:=h;ext tv;let#[its,rv,pl,hz]:=I.list hq;have hh:?HL:=?eY;(have rel:∀(i:Nat) (v:Value),?Fz=?d2->∃b,?lS=?k b/\v=.bool b:=λi v e=>by (have e':its[i]?=?d2:=?ck);have hlt:?Ht:=?Iw;have l1:=rv.length;rw[qa3]at l1;(have hb:?lS=?k ?Hf:=?GW);let ?gl:=?Pw V.bl ?Hf;rw[e']at hu;cases hu;exact#[_,hb,ru]);apply call_any_walk (qp5 pl.isList ?_);apply#[?aN,[s.heap.objs.size,p],[s.heap.objs.size],?JP,_,_,?zJ,?i,Walks.list ?Az ?aN p ?_ ?he,#[?jJ,?_],?_,λh' tk k=>?_];{let#[o,_,ho,_]:=pl;exact qe2 ?wd};{exact pl.isList.at λo e=>?gq};{intro i v s' Q' E' hv hQ;let#[b,hb,?i]:=rel i v hv;dsimp only at hQ;rw[hb]at hQ;exact ql8 hQ};(have e:(?lr ?JP).any ?zJ=?BL:=by have l1:=rv.length;rw[qa3]at l1;rw[qc6,←l1];rw[qn1,qm0,qm0];constructor;{rintro ⟨i,hi,hx⟩;have hlt:=qd9.mp hi;(have hb:?lS=?k bs[i]:=?a8);rw[hb]at hx;exact#[_,qd7 hlt,hx]};rintro ⟨b,hb,hx⟩;let#[i,hi]:=qf5 hb;apply#[i,qd9.mpr ?GR,?_];rw[hi];exact hx);rw[e];have I1:?K4:=I.kept (λb o e=>k b o (by simp;exact qe2 ?lM) ?gq);exact#[?su,H,I1,?i,q]
def Sb:?wt "any"=?k ?sq:=?f7
def v5[?my][?me]:?Mf K:=by subst hK;exact QM hc
universe e9
universe L2
namespace Hb
open PySem L2
abbrev Ad6:?iF:=["straighten","step","put_in_order","share"]
section
variable[?aB][?ew]
def y8{nm a:Addr}(h:a≠nm):?Fm=?an:=Vi h
def pQ{nm a:Addr}(h:a=nm):?Fm=none:=y7 h
def ZA[?mf]{a:Addr}{xs:?as}(h:?xT)[?mc]:SqL K H' a xs:=?Eo
def mE[?mf][?M4][?mc]:?Rb H':=?Eo
def Az6{nm:Addr}{ys:?as}{o:HO}[?M4](hn:?RB H nm ys):?Rb (?Na nm o):=by rcases h with(h|⟨u,h⟩) | h;{exact ?S (?S ?EB)};{exact ?S (?X #[u,?EB])};exact ?pS
def RS{m i:Nat}[?T]{x:Int}(hi:i<m):(VI m f).set i (?y x)=?Ow m (λk=>if k=i then x else f k):=by show _=VI m _;refine qr5;intro j;rw[qo5,Bv];by_cases hj:i=j;{subst hj;rw[?B,?j9,Cy hi,?B]};rw[?o hj];by_cases h2:j<m;{rw[Cy h2,Cy h2,?o ?D4]};ext LX
def B16[?mf]{v:V}[?bf][?bw](h:?NP H v ?xE)[?mc]:?NP H' v ?xE:=by let#[a,us,?i,hq,hl,hr]:=Iq h;apply iR (ZA hq hp sx) hl ?hx;have e:=qa0 (l:=us) (i:=i) ?g;let#[_,b,eb,hb]:=hr i _ e;exact#[b,by rw[e,eb],ZA hb hp sx]
universe e9
def LX.x[?ew][?mY][?n5]{q D dx:Addr}{fs:?nv}[?mj](hq:H q=?RF D fs)(hqp:q≠p)(sx:?ho q H H')(kp:?mT):?uS:=by ext tZ;exact#[#[dx,fs,sx _ _ hqp.symm h1,h2],#[as,a1.x hq sx,a2],#[bs,b1.x hq sx,b2],?dc,x.nr,x.nb,?QA x.nn]
def LX.more[?ew][?mY]{N N':?cC}[?mj](e:?bg)(h:∀a,N' a->N a\/?i5)(hn:∀a,N' a->?Cm):?Nr s N':=by ext tZ;apply#[?ub,#[as,?CZ,?PV ?sJ ?sJ],#[bs,?FF,?PV ?s6 ?s6],?dc,?df,?df,hn];{exact ?vB ?lc (a1.there.2 a ha)};{exact ?vB ?vE (b1.there.2 a ha)};{exact(h r z).elim x.nr a1.there.1};exact(h b z).elim x.nb b1.there.1
structure WX[?be](CL CW:Addr)(H0 H:Hp)(p L R nm:Addr)[?aL](M:?l7)[?il](ns:?fZ):Prop where
 ob:Op λtv dx fs=>H p=?RF CW fs/\Xn (?N9 "table" tv) (?N9 "width" ?rq) (?N9 "left" ?nj) (?N9 "right" (?z R)) (?N9 "numbers" ?xK) ((∀m∈Ad6,?zA)) ?ET (∀M',M=?nw->?NP (Vj H ?fe) tv (dT n w M'))
 li:S8 λr1 b1 r2 b2=>?wY/\?uY/\Bw (?NG r1) (?NG b1) (?NG r2) (?NG b2)
 nu:?RB H nm ?BT
 same:?jK
 fr:?qP/\?NG L/\?NG R/\?NG nm
 ne:p≠L/\p≠R/\L≠R
 sm:?pD/\?lA
abbrev QY(m:Nat)(M:Lat.Mat):?fZ:=((?lr m).map λi=>?k5).filter λx=>?bT (x≠0)
def WX.keep[?aB][?j3]{H0 H H':Hp}[?tb][?ma][?n7]:?MI H' M ns:=by ext Kx;exact#[(?MG ?xn (λM' e=>?J2 (RW s) ?xM)),#[r1,b1,r2,b2,lx.keep s,?Il,f],?F3,?sY s,x.fr,?dc,?e2]
def WX.num[?aB][?j3]{H0 H:Hp}[?tb]{ns ns':?fZ}(x:?BB):?MI ?AG M ns':=by ext Kx;have hpn:p≠nm:=Fn hp ?fy ?ad;(have go:∀{q r b:Addr}{m:Nat}{s:?a4}[?n5],?PL H->N nm->?PL ?AG:=λ{q r b m s N} y hN=>by let#[d2,f2,e1,e2]:=y.ob;let ?pF:=y.rw;let ?It:=y.bk;apply#[#[d2,f2,by rw[Al (Fn e1 ?fy ?ad)];exact e1,e2],#[as,?Q2 a1.put y.nr ?lc,a2],#[bs,?Q2 b1.put y.nb ?vE,b2],y.ne,y.nr,y.nb,λa ha z=>?_];by_cases e:a=nm;{rw[e,Ab]at z;cases z};rw[Al e]at z;exact y.nn a ha z);apply#[(?MG (by rw[Al hpn];exact hp) (λM' e=>?J2 (cV λa o n e=>?RL n) ?xM)),#[r1,b1,r2,b2,go lx ?ss,go ly ?i,f],Ab,λa o e=>by rw[Al (Aq e x.fr.2.2.2)];exact ?oI,x.fr,?dc,?e2]
def WX.drop[?aB][?j3]{H0 H:Hp}[?tb][?ma]:?MI H ?ac ns:=by ext th;exact#[(?MG hp ?rB),x.li,?fy,x.same,x.fr,?dc,?e2]
def WX.left[?aB][?j3]{H0 H H1 H':Hp}{p L R nm r1 b1 r2 b2 r' b':Addr}[?bf]{M:?l7}{l r l':?a4}[?ma](lx:?wY)(ly:?uY)[?Lq] (s:?lu) (sx:?ho L H1 H') (h1:?NV H1 r') (h2:?NV H1 b') (y:LX H' CL L r' b' ?dN n n l' ?lf):?Nx l' r/\?N0 H' ?dN r:=by ext th;let#[dl,fl,hL,_]:=lx.ob;let#[dl',fl',hL',_]:=y.ob;let#[n1,n2,n3]:=x.ne;have kp:Kp H1 H':=Kp.x sx hL';have lz:=(?Il).x (s _ _ hL) n3 sx kp;have s0:=?sY s;exact#[#[(?MG (sx _ _ n1 ?xn) ?rB),#[r',b',r2,b2,y,lz,s0.free h1,s0.free h2,f3,f4],?Nq ?fy hL ?F3,sx.same s0 x.fr.2.1,x.fr,?dc,?e2],lz]
def WX.right[?aB][?j3]{H0 H H':Hp}{p L R nm r1 b1 r2 b2:Addr}[?bf]{M:?l7}{l r r':?a4}[?ma](lx:?NR H ?dN)(ly:?N0 H ?dN r)(f1:?NV H0 r1)(f2:?NV H0 b1)[?Lq] (fr:Xm r2 b2 H H') (kp:?mT) (y:?N0 H' ?dN r'):?Nx l r'/\?zV:=by ext th;let#[dl,fl,hL,hL2]:=lx.ob;let ?pF:=lx.rw;let#[bs,b3,b4]:=lx.bk;let#[lN,c1,_]:=ly.rw;let#[bs2,c2,_]:=ly.bk;have no:∀a C d f,?an=?k (?cG C d f)->H' a=?k (?cG C d f):=λa C d f e=>fr _ _ (Fn e c1.2.1 ?ad) (Fn e c2.2.1 ?ad) e;have lz:?zV:=#[#[dl,fl,no _ _ _ _ hL,hL2],#[as,a1.keep (λo e=>?MX ?lj ?lj) λa ha o e=>?MX ?lc ?lc,a2],#[bs,b3.keep (λo e=>?MX ?kW ?kW) λa ha o e=>?MX ?Cg ?Cg,b4],lx.ne,?lj,?kW,?QA lx.nn];exact#[#[(?MG (no _ _ _ _ hp) ?rB),#[r1,b1,r2,b2,lz,y,f1,f2,f3,f4],fr _ _ (?Ml ly.nr) (?Ml ly.nb) ?fy,?OE f3 f4,x.fr,?dc,?e2],lz]
def Qy(i:Nat)(M:Lat.Mat):QY ?l M=if ?k5=0 then ?oO else ?oO++[?k5]:=by unfold QY;rw[qk4,qb0,qi9];by_cases h:?k5=0<;>simp[h]
def XM(i:Nat)(M:Lat.Mat):(?oO).length<=i:=by unfold QY;apply qa5 ?K0 ?_;rw[qa3,qk2];exact ?m
structure Uj[?aL](M:Lat.Mat)[?il](Nx:?sm):Prop where
 ex:∃J1,jA n ?E J1/\(∀t,J1 0 t (?tA w M l.1,l.2))/\(?RV (J1 i t s))/\∀t1 s1,J1 n t1 s1 →
  ∃J2,jA w ?dY J2/\(∀t,J2 0 t (?tA n (λi j=>s1.1 j i) r.1,r.2))/\(∀i t s,J2 i t s->?MS i (?A<?dY))/\∀t2 s2,J2 w t2 s2 →
    Nx (?OD ?gD) (λx a=>s1.1 x ?bD,s1.2) (λx a=>?gD x (n+a),s2.2)
section
variable[?bu]
abbrev Pz:Sp:=?MH (S8 λ ?dg ?g1 ?ka=>G9 (vs=[v]) (?SM v ?xF) ?dA ?hl ((?jc->?q2)) ((¬?jc->∀H',?bg->Q (.bl ?b9) H')))
abbrev gQ[?bu]:Sp:=?MH (Ex7 λ ?cq ?x5 ?dg ?g1 ?ka=>Xn (vs=[?aC,v,?rq]) ?jK ?qP (?SZ CW) (Rep K H0 v ?xF) ?pD ?lA (∀L R nm H',WX K CL CW H0 H' p L R nm n w ?st ?lg ?lg []->?bZ))
abbrev GP[?bu]:Sp:=?MH (VO λ ?cq ?kG ?g1 ?ka ?mM ?I0 (Nx:?sm)=>Bw ?ja (?RQ ?st ns) (Uj n w M l r Nx) (∀L' R' M' l' r' H',Nx M' l' r'->?R9 ns))
abbrev Qe[?bu]:Sp:=λvs H Q _=>lS λ ?cq ?kG ?g1 ?ka ?mM (U:?Cj)=>Da ?ja (?MI H ?st []) (?PW (∃m,?tE)) ((∀m M' l' r',?tE->¬?vs->Uj n w M' l' r' (λM2 l2 r2=>∃m',m'<m/\U m' M2 l2 r2))) (∀L' R' m M' l' r' H',?tE->?vs->?R9 (QY ?yD M'))
structure FY[?aL][?cV][?a9][?il]:Prop where
 p1:0<?L/\?Ea<L9
 p2:?a3≠0/\?zK<L9
 bl:BO n n l/\BO n n ?Ak
 br:BO w w r
abbrev shF[?cV](g:Int)[?a9]:?r:=Lat.put2 f i j g ?gv
abbrev shL[?cV](g b:Int)[?a9](l:?a4):?a4:=?sB j i ?kR ?Ak
abbrev wL[?cV](g a b:Int)[?a9](r:?a4):?a4:=?pv i j a b ?qE ?e0 r
abbrev cF[?bu]:Sp:=λvs H Q _=>Ar6 λ ?cq ?kG (n w m i j:Nat) ?mM ?pI=>aV (vs=[?aC,?y ?je,?y (j:Int)]) ?zO (i<j) (j<m) ?eX ?gk ?qq ((?le->Q .non H)) (∀g a b H',?qF->WX K CL CW H0 H' p L R nm n w ?ac ?sO ?oC (Gm m ?ro)->?bZ)
abbrev CF[?bu]:Sp:=λvs H Q _=>VO λ ?cq ?kG (n w m:Nat) ?mM ?pI (V:?kj)=>Mb ?ja ?zO ?eX ?gk (V 0 f l r) ((∀d i j f l r,V d f l r->d<5*m+m*m->i<j->j<m->?Qy (V ?aG f l r) (V ?aG ?ro ?sO ?oC))) (∀d f' l' r' H',V d f' l' r'->?Cc m m f'->WX K CL CW H0 H' p L R nm n w ?ac l' r' (Gm m f')->?bZ)
universe e9
structure AU[?aL](A:Lat.Mat)(Fin:?kj):Prop where
 ex:∃(U:?Cj) (Y:Nat->?kj),Uj n w A ?lg ?lg (λM l r=>∃m,?rx) ∧
  (∀m M l r,?rx->¬?jc->?PW (∃m',m'<m/\U m' M' l' r')) ∧
  (∀m M l r,?rx->?jc->∃k f,QY ?yD M=Gm k f/\k<=n/\k<=w/\Y k 0 f l r) ∧
  (∀k d i j f l r,?KQ->d<5*k+k*k->i<j->j<k->?Qy (Y k ?aG f l r) (Y k ?aG ?ro ?sO ?oC)) ∧
  ∀k d f l r,?KQ->?wZ
structure aU[?be](H H':Hp)(tp nm r1 D1 D2 b2:Addr)(n w k:Nat)[?a9][?il]:Prop where
 same:?bg
 tup:SqT K H' tp [?xK,?BN,?sa,?pg,?E0]
 num:?RB H' nm (VI k f)
 left:?NP H' ?BN (dT n n l.1)
 lback:?NP H' ?sa (dT n n λi j=>l.2 j i)
 right:?NP H' ?pg (dT w w λi j=>r.1 j i)
 rback:?NP H' ?E0 (dT w w r.2)
 new:∀a,a=nm\/a=r1\/a=D1\/a=D2\/a=b2->?i5/\∃us,?RB H' a us/\us.length<=60
section
variable[?be]
abbrev U1:Sp:=?MH (Yd λ ?dg ?g1 (A:Lat.Mat) (Fin:?kj)=>G9 (vs=[v,?rq]) (?SM v (dT n w A)) (n<=40) ?lA (AU n w A Fin) (∀(tp nm r1 D1 D2 b2:Addr) (k:Nat) [?a9] [?il] (H':Hp),?wZ->?Cc k k f->k<=n->k<=w->aU K H H' tp nm r1 D1 D2 b2 n w k f l r->?uv))
universe e9
universe Hb
namespace Hb
open Lat
section
variable[?cR]
def BB.bo{n W β:Nat}[?bx][?ms](hb:β<=big):?q5:=#[(h.mono hb).1,(h.mono hb).2.1]
def gF[?aX]{R0 B0:Mat}[?p]{π b β:Nat}[?MB](hW:W=?E)(dl:?Nk R0 B0)(bb:?MF β (R0,B0))(hb:?GV)(hπ:?rK)(hpg:?qB) (hG:∀spot (s:?aj) st,?bk->?Gi->Iu W ?Ii st->G st) (hd:∀t1 Y R1 B1 R2 B2,?O1 R0 B0 t1->?Ig->?O9 ((R2 j ?pB).natAbs<L9)) : ∃I,Aq6 n W i t (R0,B0) I/\∀spot st s',?bk->?ry->?pH->?mR → lT n W ?bG i ?gA/\G st/\?NF ((?gA).1) ((?gA).2) ∧ P4 n W w i (?gA).1 (?gA).2 ?bG 0 (?rA).1 (?rA).2 ∧ ?MF ?iX ?rA:=by have hi:=H.hi;(have Aa5:∀spot,?bk->?Jv<=?jD:=λspot hs=>by unfold Gn;exact qa5 (qc2 _ hs) ?nc);apply#[λspot s=>?Gi/\?MF ?o3 s,#[#[Eb.start H,by rw[Nat.zero_mul];exact bb],?_,?_,?_],?_];{rintro spot s _ ⟨p,_⟩;let ?t1:=(p.good.dual dl).row hi;exact#[?iV,?g,h0]};{rintro spot s hs ⟨p,q⟩ hz;apply#[p.skip hz,q.mono ?_];rw[qg2];ext d};{rintro spot s hs ⟨p,q⟩ hz h0;have y4:=Aa5 ?D hs;rw[qg2,qf9]at y4;(have en:β+?D*?eD=?o3+?eD:=by rw[qg2,qf9];ext d);(have lA:?MT ?fr ?a1:=by rw[p.old ?j _ ?m hs];exact H.hd ?j hs);have lB:=p.pv ?j ?m hs;apply#[?ex q ?g,?Ro #[H.lt j hj2,p.pos j hj2,ZL (π:=π) ?_ ?g],#[h0,ZL lB ?g],?hS,λg a b' sh=>?_];{rw[p.old j _ hj1 hj2];exact H.hd j hj2};{let#[m1,m2,m3]:=p.meetAdd H hs hz hk q;apply#[?Hx,m1,?_];rw[en];exact m3 _ ?g};let#[m1,m2,m3,m4]:=p.meetBlend H hs hz (sh.blend (p.pos ?j hs) lA lB) q;apply#[?Hx,?Pf m4,m1,?_];rw[en];exact m4 _ ?g};rintro spot st s' hs ⟨p,q⟩ hB hex;have hGs:=hG ?j s' st hs p hB;let ?xR:=WU H p hs hB.1 hB.2.1 hB.2.2 hGs hpg hex q;apply#[λd hd'=>#[?Ro ?_,?OC (?ex (e5 d hd' m ?g) hb)],hGs,e1,e2,e4 _ ?m];let#[dn,_,_]:=AD e1 hi (e3.mono (qw8 (Aa5 i ?m) β)) d ?g;have hh:=hd _ _ _ _ _ _ e1 e2 j ?g;rw[e2.hd j ?h]at hh;have hx:=?Rw dn.hd;apply#[?Rw e1.lt,(dn.s0).pos j ?g,?_];rw[hx];exact hh
universe e9
noncomputable abbrev JF[?aL](M:Mat):?Hk:=λi t s=>Eg n ?E w i ?l0 M one t s.1 s.2
set_option tactic.hygienic true in def X3{n w b0 D π b β:Nat}{M:Mat}(hM:?Mq ?E ?K2)(dets:P5 n ?l0 M D)(h1:?QS D)(h2:n*D<=?R)(h3:b0<=π)[?M6](hbig:∀i,?x->?GV)(hπ:?rK)(dl:?Nk M one) : jA n ?E (JF n w M):=by apply#[λi t s hi hJ=>?_];have iD:?tU:=qa5 ?zt h2;have H:=qB hM dets hJ hi h1 iD h3 h4;have bb:BB n ?E ?Af 0 β (s.1,s.2):=Ud hM dets (λk a=>rfl) hJ ?wU iD h4 hβ hβ2;(let#[I,P,e]:=gF H ?i (hJ.good.dual dl) bb (hbig i hi) hπ hJ.pg (λ_ _ _ _ _ hB=>hB.2.2) (?R2 hJ.next (show ?l<=n from hi) h1));apply#[I,P,?G1];let#[e1,_,e3,e4,_]:=?Pt e;exact#[e1,hJ.next e3 e4]
def JF.lt[?bf]{M:Mat}:?RV (JF n w M i t s):=λ_ _ _ h j hj=>?qY
abbrev JL(n w r:Nat)(M B0:Mat)[?mk](π b η β:Nat):?Hk:=λi t s =>(i<=r/\?MZ ?dV M B0/\?BC) ∨ (?ay/\?MZ ?l0 M B0/\?vS)
def JL.lt{n w r:Nat}{M B0:Mat}[?mm]{π b η β:Nat}:?RV (JL n w r M B0 kt hd π b η β i t s):=λ_ _ _ h j hj=>by rcases h with⟨_,h,_⟩|⟨_,h,_⟩<;>exact ?Oy h.st.st.lt
set_option tactic.hygienic true in def Xx{n w r E π b η β:Nat}{e:Int}{T P PB:Mat}[?mm][?uG](he0:0<e)[?Lv](dl:?FS)[?M7] (hβ:?rY) (hbig:β+?oR<=big) (hE:?QS E) (he:?yB) (hb:n*E<=?R) (hπb:π<=b) (hπ:?rK) (hη9:η<=8990) : jA n ?E (JL n w r ?bH PB kt hd π b η β):=by have rn:=g.sq.rn;have dets:=Ya (P:=P) g.dets;have Am8:∀{i:Nat}[?p][?bx],i<=r->?wW->?Ft:=λhi h j hj=>?Qb (h.st.headD dets hi hj) hE;(have hηN:?wx:=?Nz (by have p:=?uh;have q:=?Fo;ext Kk));apply#[λi t s hi hJ=>?_];by_cases hir:i<r;{(obtain⟨_,h,bb⟩:i<=r/\?wW/\?BC:=by rcases hJ with hJ|⟨h,_⟩;{exact hJ};ext d);have H:=pG g (qh3 w n) h hir hE he (qa5 ?zt hb) hπb;have tm:?vp<=?dd:=oH π b hir;have tm':?vp=?mA+?jD:=rfl;have tn:?dd<=?oR:=?nc;(have hG:∀spot (s':?aj) st,?bk->Eb n ?E w i ?dV s.1 s.2 t π b ?j s'.1 s'.2->Iu ?E ?Fa st->st<w:=λspot s' st hs p hB=>by let ?t1:=wD he0 g.sq ?qO hir ((h.st.good.mono (qr4 i)).trans p.good) ?m dl;rcases qg5 c st with z | z;{exact ?c7 (hB.1 c z) h0};exact qc5 z hc);(let#[I,Pu,ev]:=gF (C:=?fj) (δ:=?cp) (β:=?Ew) H ?i (h.st.good.dual dl) bb ?g hπ ?rC hG (?R2 ?o8 (show ?l<=r from hir) hE));apply#[I,Pu,?G1];let ?xR:=?Pt ev;exact#[e1,?S #[hir,h.next hir e2 hs e3 e4,by rw[tm',←qs3];exact e5]]};have vU:?ay:=O9m;(obtain⟨h,ab,bb,h9⟩:?MZ ?l0 ?bH PB/\?vS:=by rcases hJ with⟨h1,h,bb⟩|⟨_,h⟩;{have e:i=r:=O9m;subst e;apply#[h.wide ?yz,?_,?_,Am8 ?m h];{rw[qh7,Nat.zero_mul];exact YS bb rn hβ};rw[qh7];exact bb};exact h);have hsd:r+?iP=i:=O9m;have row:∀c,?hP=?P4 i c:=λc=>?ny;(have zero:?Rz ?ax (?hP=0):=?OU (by rw[row];exact ?ld i c vU hi hc));(have hd0:0<s.1 i ?ax:=by rw[row,?iT i vU hi];exact ?hX i vU hi);have ktW:=K.lt i vU hi;have bg:Iu ?E ?Ii ?ax:=#[zero,?g,ktW];have em:?AZ=?Fq+(?By+(r+?iP)+3):=rfl;have emo:?AZ<=?sX:=qD _ _ _ ?g;have tn:?oR=?dd+?sX:=rfl;rw[hsd]at em;apply#[λ_ s'=>s'=s,#[?i,?_,λ_ _ _ hs _=>hs,?_],?_];{rintro spot _ _ rfl;exact#[?ax,ktW,?g]};{rintro spot _ hs rfl hz h0;exact ?c7 (?od K vU hi hs ?m) h0};rintro spot st s' hs e hB hex;have e:=e.symm;subst e;have est:=hB.one bg;subst est;(have esp:spot=i:=by rcases qg5 ?j i with z | z;{exact ?c7 (?od K vU hi z (qf0 (hex z))) hB.2.1};ext d);subst esp;(have B14:insS ?j ?j ?f1 s=s:=by (have m1:?lD ?j ?j s=s:=by show(?aE s.1 ?j ?j,?aE s.2 ?j ?j)=s;rw[Rt,Rt]);rw[insS,m1,?q]);rw[B14];let ?KV:=h.last K vU hi (λc hc=>hc) ktW (C:=?fj) (δ:=?cp) bb (?Q7 (ab k ?j hk ?m hi));have hbd:?C7<=big:=O9m;have st':=k1.st.st;(have hh:∀d,d<=?D->∀j,?rU->(?cA (?cN t ?j ?f1) ?j s d).1 j ?lo=?sZ:=λd hd j hj=>by let#[l1,_]:=k2 d hd;have:=l1.rows j ?lo;rw[this];split;{rename_i z;(have tl:?lo<?f1:=by have:=st'.inc j ?j z.2 ?g;(have e:?Pn ?f1 ?j=?f1:=?q4);ext d);rw[zero _ tl,qd4,qg0]};rfl);(have hs9:∀j,?rU->?Ox ?sZ L9:=?Md (by unfold insT;rcases qg5 j ?j with z | z;{rw[?aW];exact h9 j z};have:?br:=O9m;subst this;rw[?q,?B,row,?iT j vU hi];exact ZL (hηN j vU hi) ?g));(have hpos:∀j,?rU->0<?sZ:=?Md (by have:=?Rw st'.pos;rw[hh ?D ?m j hj]at this;ext aZ));apply#[λd hd=>#[?Ro #[st'.lt j hj2,by rw[?xe];exact hpos j ?g,?Ni ?xe ?EU],?oM],?X #[?g,k1,?_,?_,?Md (by rw[hh ?D ?m j ?h];exact ?EU)]];{rcases qg5 m d with z | z;{have:=k3 d ?g m z;rw[this];exact ?Qg d};have e:m=d:=O9m;subst e;exact ?Qg ?U};{have:=h.above K vU hi hηN ab (?CF).1;rw[?uN,qg2,qf9];have e:?cK+(?ge*?cM+?cM)=?cK+?ge*?cM+η+1:=O9m;rw[e];exact this};rw[?uN,em];have:=(?CF).2;rw[?ME (?i3+(?EL+?Fg)=?C7)];ext aZ
end
mutual
#check(5,[?a,?b,?c,.(by first|with_reducible(first|assumption|exact Nat.le_trans ‹_› (Nat.le_of_ble_eq_true rfl)|exact Nat.lt_of_lt_of_le ‹_› ‹_›|exact Nat.le_of_lt ‹_›|exact Nat.lt_of_lt_of_eq ‹_› ‹_›|exact Nat.lt_of_lt_of_eq ‹_› (Eq.symm ‹_›)|exact Nat.lt_of_le_of_lt ‹_› ‹_›|exact Nat.succ_le_of_lt ‹_›|exact Nat.le_of_not_lt ‹_›|exact Nat.sub_le _ _|exact Nat.le_of_succ_le ‹_›|exact Nat.lt_succ_of_lt ‹_›|exact Nat.le_add_right _ _|exact Int.toNat_sub _ _|exact Nat.le_trans (Nat.min_le_right _ _) ‹_›|exact Nat.le_trans (Nat.sub_le _ _) (Nat.le_trans (Nat.le_of_eq ‹_›) ‹_›))|lia),.(by first|(apply Hb.let12 ?_;intro _ _ _ _ _ _ _ _ _ _ _ _)|(apply Hb.let10 ?_;intro _ _ _ _ _ _ _ _ _ _)|(apply Hb.let9 ?_;intro _ _ _ _ _ _ _ _ _)|(apply Hb.let8 ?_;intro _ _ _ _ _ _ _ _)|(apply Hb.let7 ?_;intro _ _ _ _ _ _ _)|(apply Hb.let6 ?_;intro _ _ _ _ _ _)|(apply Hb.let5 ?_;intro _ _ _ _ _)|(apply Hb.let4 ?_;intro _ _ _ _)|(apply Hb.let3 ?_;intro _ _ _)|(apply Hb.let2 ?_;intro _ _)),.(by first|(apply Hb.letG6 ?_;intro _ _ _ _ _ _)|(apply Hb.letG5 ?_;intro _ _ _ _ _)|(apply Hb.letG4 ?_;intro _ _ _ _)|(apply Hb.letG3 ?_;intro _ _ _)|(apply Hb.letG2 ?_;intro _ _)|(apply Hb.letG1 ?_;intro _)),rfl,sumN,O9m,some,.int,.(by ext d),if_neg,?ae Int,n+1,i+1,decide,p.1,if_pos,.inl,?NC Int,qa4 _,.ref,j+1,?s ?g,k+1,.(by rfl),?NC Nat,.(by decide +kernel),.(by ext C),pv 0,?ae Str,∀{xs:LLInt}{k:Int},a,.(by decide),?Ly k,∀(φ:?V),a,G σ H,∀{G:?jA},a,xs.getD,∀(K:W.Frag),a,?ae V,Same,∀(xs:LLInt)(k:Int),a,?m ?l,.inr,(k:Int),t+1,Int->Int,∀{xs:LLInt},a,qb1 _,base,pv 1,∀{ps:?bI},a,∀(xs:LLInt),a,.lst,G σ,V.int,∀{G:?Kw St},a,none,?w a,.(by simpa using h1),?P H H',sumN_one,this,.(by ext a8),(xs:LLInt),prodN,∀{K:W.Frag},a,F.okZ,?Ml ms,absurd,beside,.tup,Bits,λDz A outer s H vs Q E hr h=>?_,?m h,FnScope,∀(T:Fz K mg Ah Af Aj Ar),a,∀{f:Addr}{fd:FuncData},a,∀(ps:?bI),a,zs k,qb4 ..,?O8 k,∀{vs:?O},a,qc7.mp,?Kw Hp,Bm _,?K1 ms,ms.map,pv 2,?s h,?m z,List,∀{xs ys:LLInt}{os:?n},a,qa2.mp,mulV,.(by simp),s x,?s z,∀{lf:?dr},a,(n:Int),Int × Int,λ_=>0,λ_ _=>rfl,cK ms,∀{xs:LLInt}(hs:?bC),a,∀(Db:?bF),a,_,∀{ms:Ms}(h:?b7),a,.(by unfold one),sumN_all0,k+i,noB ps,face,xs.length,bookF,?T+1,∀(hs:?bC),a,?PJ H D,r+1,Same.new,nd ms,LT K H ?a7 xs,(q:Int),f i,?s e,Bk xs,2 ^ π,t q,?PA 40,?NC ?u,q.toNat,?ae BPart,wpAny,.(by ext bQ),fs.getD i 0,_::_,?m e,∀(ls:?dJ),a,∀(lf:?dr),a,.(by kernel_rfl),?My L8,Lat.turnL,Hy ms fs n i,(?MT ?_),(i:Int),?w p,2 ^ b,λD hD=>?_,Reps,pv 3,(a b:Addr),p j,Lat.Bits,(xs.length:Int),?k0 a 0,k<4,.(by rw[qa1,?dU]),∀{A0:Type}{S:A0->St},a,.(by ext e),∀(f:?u),a,∀{f:?u},a,p::ms,w+n,λ_ _ _ _=>Ca,IsEnum,s y,?fR ms k v,?r=k,min n w,σ=?jJ,"number",?m q,Ep ms ns,_,B8 xs ms,?ae K8,(a:Addr),Nat->?O->?jA,z.symm,Q (?w D) H',?aW hp,IntMulOk,?bt*?cz,G s H,?j q,2*n+π+2,r x,?w e,∀(t:?r0)(Db:?bF){k:Nat}(hk:?bg),a,∀{A0 A1:Type}{S:A0->A1->St},a,?K4 c,?Oh Be,s.heap.objs.size,a.fdiv b,ite2 ?vV ?vV,?Pn Mv v,qd1 ..,ps.map,?w b,k-1,H' D,Kt ys t,?k k,movC s c,kt j,?je a 0,?M q [],?am+1,.(by simp;ext d),"place",small,σ=?p7,k+j,wk.e0,?je m 0,List.range,(j:Int),?iW f k0 i,.none,?j o,λy x=>M x ?bq,?s ?l,∀{f:?u}{l r:?eN},a,.(by simpa using e),∀(_K:W.Frag),a,.(by rw[this,Bs]),∀(C:Addr),a,∀{D:Addr},a,qd9.mp,(?ay).map,p0 x0 x1,2 ^ n,Dh xs ?T ?aS ?eQ ?yM ?q6 ?jc ?m4 ?j5 i,?Ly ?T,Ix ms k,p::ps,π+2,?Ly ?z,Br ?ai,p.2.2.1,(0:Int),G a c,?OE p0,sp.length,?s q,?w c,m+1,cs.map,t j,?d3+?bV,p::c,cN ms n ns i,(?aU).length,E5 ms,qa0 hj,Option,?ae ?bI,G8 n lf,.(by grind),?Ly j,.(by ext cm),"row",2*w+π+2,P i j,σ=?n6,?m ne,"enumerate",qa0 ?l,λq=>?_,(ms:Ms),∀{A0 A1 A2:Type}{S:?OC St},a,∀{ls:?dJ},a,∀(fs:?n)(n:Int),a,.(by simpa using this),?OP 1000,?b6 hD,sg i,ns[i],turnL,Jk ms k n,G i a,Mat × Mat,(?lX).getD ?hA [],?iU ?a4,k<=j,?Pn Mv u,H a=?rI,_,qa0 h,?xs+1,?ae Ms,"chain",?k0 j 0,qg3.mp,?b6 hp,B a c,?r=1,Av c ?bf,?Oq ?cN,(w.length:Int),h1.1,b.2.2.2,?cr hi,Lat.one,.of Ab,?iW ?jc ?eQ i,λq hq=>?_,p.2.2.2,wF (Av ?rb) c,∀{ys:LLInt}{t:Nat}(h:?ka),a,∀{t s:?V}(m:?kN),a,∀(h:?eg),a,∀{es:?mE},a,.(by simpa using h2),∀{u:?u},a,∀{v:?u},a,π+1,Fh xs k,qa0 ?i,fs.getD j 0,?KH p2,Lat.sumN_all0,Lat.Mat × Lat.Mat,?k i,qc3 ?l,ks k,h.pos,?S ?f1,?Oh Ob,GS n i,"table",λj hj=>?_,p r,?P B H,Heap.SameBut,s q,2*π+4,sp.zip ns,?k n,?NC ?jA,?aH+n,Cz xs ys os,vs[i]?=?ft,.(by ext eE),p1 x0 x1,c<?bn,?LY c,Pr K C B p xs ls,t+2,qd0 ?v,σ=?n1,?m h2,?OE p1,e.symm,kB n,∀q,?P4 ?ev,B8 xs c,B7 H vs ps,β2+?fD*?dP,u1 T8,?w t,?d3+?cf,#[_,?g],p.dπ,p.2.1,?j p,qd7 _,Dd.nd,cs.getD,p.getD j 0,c::cs,p0 x0 H,?m h1,?j ?Fd,?c7-m,w.map ?a4,0<=k,s l,f::fs,?KH p0,?KH p1,A0->?aX,r<=j,b.1=0,"shape",?O6 f.toNat,?P H H1,?c7+1,putI,["thing"],?fG-w,i<k0,?Ji (?IY*?nK) m,∀{A0 A1 A2 A3:Type}{S:?OC (A3->St)},a,∀{sp ns:?n}(hl:ns.length=sp.length),a,.(by unfold nd at h;rw[qd2,qg6]at h),.(by rw[?gx,qe3]),∀(h4:?gb),a,.(by rw[?R]),∀{q:?an},a,∀{v:V}{p:BPart},a,∀(fs:?n),a,∀(s:?a9),a,∀{fs:?n},a,∀(us:?O),a,qd9.mpr,σ=?mL,this.2.1,?OR k,lf j hj,IteT K a,x c*T c c,[?k a,?k x,?k y],?KT ?E Ak,#[i,hi,?g],sumN_cut,?j v,wk.going,(?ip).length,.type "tuple",?K6 ?Ce,n*p.2,?PA 1000,#[q,hq,?g],t k,w-k,?j ps,ys.getD,.dK ?aq,h.diag,ks j,lf.getD,?ce n,.(by ext bh;rfl),Value,p.getD i 0,w.take,?f7 i Og,?K4 acc,2 ^ π2,v::vs,?Ly ?cO,K9 t p,restB,Int.le_trans,?K1 (?g8 ?bH []),?PJ O c,(?hE).1,E5 (cN ms n ns ?h4),?Oz A0 A1,let s:=?p7;G s,r i a,Ik ?_,V5 t k,?g4 ?U [],fs.length,σ=?nS,Bk ys,Iv H v p,rp j,∀x∈xs,x.length<=4,Ht ys t,h.zero,#[h0,h1],B8 xs ?iZ,?NC Ms,p1  x0 H,beside_lo,?cZ ?i,?r6 b 0,s' 0,this.1,K9 t,st.inc,gT m G B,φ ?r,.(by simpa using z),σ=?n5,Av b.2.1 q,qe8 ..,(ls:?dJ),4*B,?m λz=>ne ?c3,let s:=?jJ;?c8,L i a,β+?fD*?cA,K9 t q,Eq.trans,?t k,ns.length,p0  x0 H,G j a,i<?eQ,?PK 1,?jF i 0,p.toNat,?ae α,qa0 hi,Av ms j,t.lv k hk,p1 x0 H,(T i c).natAbs,Ne.symm ne,?je i 0,R l c,?aE f k,ih ?i,a<?I,Cr ms k,?m h3,V5 t q,.(by rw[Ax]),(t:Int),B8 xs ?bz,P1 ?js e,s1.trans,Hl n ms,dgM d,s1.seq,(hd j).natAbs,∀(h:?LX n m A)(hl:?Cd)(hr:?tA),a,∀{xs:LLInt}{zs ks:?B}{Ls Gs:?qn}{fs:?bG}{lp rp:?nE}{ls:?dJ},a,∀{A0 A1 A2 A3 A4 A5 A6 A7:Type}{S:?Jc (A5->A6->A7->St)},a,∀{A0 A1 A2 A3 A4 A5:Type}{S:?Jc (A5->St)},a,∀(L G:Lat.Mat)(f:?u)(l r:?eN),a,∀{A0 A1 A2 A3 A4:Type}{S:?Jc St},a,.(by(repeat' split);all_goals ext d),∀(hD:H D=?fC),a,∀{z k0:Nat}{L G:Lat.Mat},a,∀(hc:?Gg),a,∀{P:Program}{w:World},a,.(by apply Ad ?yg),∀(D:Addr) (H':Hp),a,∀{q:Int}(hq:0<=q),a,∀(v:?u),a,∀{p:?n},a,∀(F:K8->Int),a,∀(vs:?O),a,∀{O H H':Hp},a,?K9 p1 x4 x5,(j:Nat),?PV ?E,qh2 ?H ?i,Reps.same,ys.take t,inK ms,lf i ?i,if i=j then 1 else 0,s3.seqT,#[?g,?g],?cu*e.natAbs,?s hi,p0 x0,#[?A,?A,?A,?A],λb hb=>?_,2*bookF,ps.take i,m.rng,?aW hm,qh3 _ _,0<=p,if ?cg=0 then [] else Mv xs ?z (r.1 i),wk.kl,?KA ys,k+d,?K9 p0 x4 x5,λl=>[l],.(by rw[qa3];ext d),?cT-n,qc7.mpr,?bV%2,En Ls _ ?l,qe9 ?H ?i,?Ox k,upd H D o,V r l,?s h2,ns.map,?Ji (?qh*PB u a) n,Lat.numAt,Ep ?qq ns,?KH p3,[(p,1)],?Pn Mv (?bS z l.1 G i),?l1+1,(x k).natAbs,"backs",vO xs p,_,?KB ?_,h.told,#[q0,q1,q2],Ay w fam,?K9 p2 x4 x5,n-r,#[#[old,h1],h2],_,st.red,?Pn Nc n,Av c,λk=>?ic,Wx U f W m s j,?aW h,(?ag hq).1,if x=j then u else ?aj,let s:=?n6;?c8,p<?be,?Ns p1,?PT p0,?Mu x,F c+?kc,?s h.symm,Ad ?kZ,"_law_word",rp k,nd ns,(B:Hp),q.2=0,?P H G,St->?aX,let s:=?p7;?c8,?w p1,?OC (A3->?aX),(m:Int),ns.getD,ms.take i,ns[i].1,2 ^ (?vC+z),S x0,Gm ?I v,?K1 c,Ih fs k i,"rows",?k p,?et+6,2 ^ i,?g4 t [],R j ?dB,v ?g1,p2 x0 x1,List.replicate,q.symm,?O8 ?cO,w.length-1,qa0 hx,p2  x0 H,?PJ H p,fs k,"__init__",sp.getD,(?jS).natAbs,?s h1,?h (λc=>?A7) m,Pw os t,(?el).natAbs,.type ?dT,En zs _ ?l,["parts"],?gB->?pL,?aE ?qJ j,?Op φ,?hU s2,let s:=?n1;?c8,?O6 ?hA,dg.pos,y k i,?Ld hl,?Jp p0,(?O8 ?x).getD b 0,0<=?r,Hb.bl,(?aU).getD,?PR p0,TI.get,?jF i (0,0),c+1<=k/\k<r,w+a,chainB,(k,v),VZ ms fs n j,?Pv ?hu,st.lt,j<p.length,"other",?m hf,vs=[?a7],?j 0,?PT p1,st.zero,#[?dc,Ab,?g,?a6,?g],Ps O H v p,(?js).length,?Ns p0,.(by simpa using h),DP xs ys os t s,T.n_range,φ ?bf,Dh xs k z k0 L G f l r i,.(by rw[Al ne];exact h),F4 f n,let s:=?n6;G s,?PY p0,?KF E6 k,?Je (_<=F),#[a,b],λ_ z=>?vI,λi hi=>?_,?U<ys.length,.(by simp[h]),Qa F cs,H1 D=?iG,A0->?Oz A1 A2,?Nq p0,?MA M (s 0),[?k ?nJ,?k ?GQ,?k ?FH],2 ^ ?o,i<ms.length,p.π9,?Ml [],r+d,#[j,hj,ej],?Jp p1,?OE p2,?Lm h,.(by cases h),bs[i]?,p0 H,Gm k0 f,xs.take,λk=>x k*T k c,st.pos,if a=b then 1 else 0,p2 x0 H,?O6 ?Cv,Ih fs k j,ms[i]?,Nr n l,?Jp p2,?K9 p3 x4 x5,?aJ w T P,2 ^ bookF,?Je (?z-1=k),wpAny_loadPart' q1,wF ?mV c,(l.map F).sum,B7.put,P u,?NO q,E5 ?jG,?Jw N9,En Gs _ ?l,#[r1,r2],["piece"],A0->A1->?aX,Rep.same,TI.mk,Gw xs k,β+c,?g8 ?lW [],b.fin.il,?O4 p0,sp.map,?O6 ?lW,hp.objs.size,?lM ?_,p.1.toNat,Cw ?b0 ls,ns.take ?p,2*?iN,w+c,(k:Nat),?My zGn,(v:V),PB k a,?PB hq,qm4.mp,P i a,?pl 1,ms[i],?h (λy=>?nV*?qU) w,?Jp p3,?OC ?aX,?k v,∀(s:S5 b H H1)(hb:H b=?OD m),a,∀{p:Int}(hp:p∈?Fs),a,∀(hl:?Cu),a,∀(hp:?fl),a,∀(h:?NE H),a,∀(h:Gj D H vs ls),a,∀{ms:Ms}(h:nz ms),a,∀{ms:Ms}{k v:Int},a,∀(g f:?V),a,∀{ms:Ms}{k:Int},a,∀{p:?an},a,∀{k:Int}{c:Ms},a,ChL.nil ..,E5 (?ry ?jK),L j ?eX,2 ^ ?il,lp k,upd ?pM p2 ?GO,?fi ?i,λx a=>R x ?k5,?Op (λx=>ind x ?cU),?aE f' k,(?MA M x),?KU (?le*?iQ),?Ji (v a*QB y a) w,Cn (?cV).length=?z,?ae Expr,(?E2).map,let s:=?nS;?c8,qo0 le,?S hq,H c=?c9->H1 c=?c9,["spots",?ds],?Jp S,qc4 _ ?g,D5 m z L p,F.bel f hf,F.binds hb,2 ^ β,?L5 K.head,?PR p2,jB xs k ps c,qa0 ha,Av ?AO,hh i b,Nr z (P,PB),?kA j hj,?f7 x Og,1-?lZ,show ?e6=0 from ?aN,let s:=?n5;G s,2 ^ 10,i*n.natAbs,i<sp.length,0<=g.1/\g.1<?am,?Oh Q3,?PR p1,n6 t Db p,?Na p0 H,(?Aj).getD,Ih q f n,qe6.mp,vs=[v],["size","i"],qn2 ?_,H b=?rI,Np n p,By P w K mg ?Y Ew k f fd ps sp,?t ha,zs j,s2.trans,[?k b,?k u,?ln],(R k ?g1).natAbs,λc=>?h (λv=>?x6*Q v c) w,ms.getD i (0,0),?Ll S,?Pk (λu=>?iV*P u c),#[i,_,?g],Av ms ?r,?KH S,?OE S,Ge O H vs lf,r.1 x,?O6 ?rs,"_law_family",p.2.natAbs,[none],(c:Ms),?NC ?eN,(?k3).1,?Nc p1,?MH i,x.right,a-?cI*b,B a c',.(show ?OH ?jK j=v j by rw[qa1,Ru hj];rfl),?Ly ?b2,zt1 ?o6 t,?ah w B ?p1 a,RB l a-?Fm,#[_,?g,?g,_,?g,?_],?Ns p2,?K9 S x4 x5,.(by rw[F1]),T.n_isinstance,?Kk ?rj,w6.extBut,e.natAbs<=?bD,mZ e,?h (λk=>x k*?aJ w T P k ?cT) j,?aE ?qJ k,?OC (A3->?Kw A4),?K3 (?vs*?o5) m,?Nc p3,0<=i,?ae ?gB,(p:Addr),λk=>B k a*R k ?dB,?b6 hT1,["_law_script",?E4],2 ^ d*?oA,bil_congr,?Ow v i,?Ow ?p1 b,?K2 p2,i<w.length,P1 [x,y] e,.(by rw[Bv];ext d),?dC+1,?Oh Gg,Jk ?bT ?bL ?eU,[?eV,"j"],?cP=?fC,ChL.ch Db _ _,(?mw s3).trans s4,?NO ?r,k D H1 hD s1 Dt,?K3 (?Nw (?nP*R l ?la)*RB i c) n,.dK (cK ns),["gauge",?ds],Q1 lf p,?df z PB L j c,s.heap,#[f,hf,?g],ys[?gU]?,qs.map,?Aa+1,g.1.toNat,p.2*?gq,∃z L G,?OJ 4,Q ?ax,((?p:Nat):Int),#[q1,q2],(?l0).length,?MA M (s y0),w7.extBut,pv 4,IsEnumOut,qa5 (Ez _ _ _) Db,?h _ i,ql5.mpr,?h f a,(?cQ).getD q [],λ_=>False,(L N:Addr),bl.fin.bl.1,?az b ?ai,?PY p1,x k-?GA,qo8 gt,?NO p,w5.extBut,?Nq p1,Fh _ _,0<need,H b=?OD (cK c),λb=>Of c b*?gt,No xs p,s.eqv n ?v,qi2 _ _,?dd*φ ?bL,?gD i++[?D6]++?pl (i+2),PB i b,ys[m]?=?c9,λq=>z ?jW,if ?e6=0 then [] else Mv xs ?b2 ((?j5).1 i),?Nc p0,Gw xs ?x,a+b,.(by unfold V5;ext hf),r.length,Lat.EuI,Cn (?M r.1.toNat []).length,λk hk=>?_,(us:?O),?aE f n,h.plus,?Ko (by rw[Ax];rfl),MT f k0 z,Q i,Lev q m z D L G,Array ?gB,vs=[?bW,?cR],?aJ n (λi j=>u1.1 j i) r.1,r.2 x,S x0 x1,?Ly ?x,?Jo p2,Ls j,?e9*?gt,c.foldl,hp j ?i,?aa λp=>(?r,?fy),Lat.mulV,?s h3,?az a ?ai,p3 x0 H,#[_,?g,q2],ps[i]?=?f4,?Kw Shared,upd H p1 ?GO,Kv lf ps,λr=>B ?b5,bs.any id=true,?KN H L0 [?ed,?k 1,?k 0],?s8 x 0,Ad ?eW,ite2 ?zI ?zI,?Ly 0,?kS+f n,?O4 p1,sp _ _ Dt,its.toArray,Q ?ax c,?GH a 0,Nr w (Q,QB),LT K H v xs,F3 n w r E e T,Str->?dI ?gB,?r<?be,E5 ?ec,qb2 hj,PB j b,λk=>?sQ,FF i*?bX ^ i,w.drop,qa5 bl.zm ?oM,q.getD n 0,(?KK ?gC).getD,?Ml ?dG,h.ok.n,[none,?j 1],model prog w,?Jc (A5->A6->A7->?aX),anyZ (?mF (Of ?cS)),i<vs.length,λ_=>?d3,?KU (?ju*?le),?Pn V3 ps,(?N8 hk),t x,?MZ i,?aW hb,λkey=>?_,"_law_i",qc3 hi,Gs k,r-(d+1),2 ^ Yw,V2 k w Q p,(?n0).2,#[j,hj,?g],λa=>?Jm (?gz*l.2 x i) z,FF n*?cu,λf hf=>h f (?PB hf),xs[f.toNat]?,Al nDa.symm,?w C,fS Db _ _,λx=>f ?aj,.bl ?IR,det k (Wx U f W m ?Ft ?x),q-t-2,p3  x0 H,?Me d,?cZ ?nr,?sD/\?I5,"_law_total",#[q,hq,?g,?g],?OO 63,QB y c,2 ^ uX,fs j,?a2 ws,os.getD t 0,(ms ns:Ms),Ij ?lX c,h.ok f hf,?k q.2,?PB hx,OR B n,Yo A j,["self",?jN,?id],P' x a,rawInt,?KF Yx k,Bh Jf ?ab Ak,?Jo p0,q.1<?be,?NC Lat.Mat,H1 D=?qx,λb=>?pB,Jk ms ?r p.2,.(by simp only[qd1]),F4 ?ir j,#[k1,g,d,tk,os],(?LS p),qb2 hi,?S ?ri,?KA zs,Nr w r,F4 g n,?LW 4,?KE (Q' y b*QB u b) w,?Nc p2,2 ^ 9000,?w f,?w ?cH,(?wC).getD,?Nq p2,(?LS pr),B8 xs D,x.rback,ns.take i,?PT p2,K.zero,B 0*?rQ,twH ps,Gs j,lp j,?j ?g5,?K2 p3,K9 t x,?lS ?a4,anyZ ?Bf,?PM (0<=r.1) (r.1<?be),Ba ?rP ?E ?Z ?ap,Az (K:=K),OR ?pO n,ls[k.toNat]?=?g3,os.map ?a4,2 ^ b2,(ns:?n),#[p,hp,?g],#[ta,vs,?g,hT,rT],∀j c,?dl->j<w->c<w->(r.1 j c).natAbs<=?rT,cO lf,?Na p1 H,#[h1,h2],b.2.2.1,?Lk q,?Jc (A5->?aX),"list",Bz (K:=K) ?E,[?k (-a),?k (-x),?k (-y)],ps++[p],?t ?g,Q y c',φ f-?jp,"width",this.2.2,x.left,?K2 p0,Q .non H',r.1 y,?OL ?dL,q.1.toNat,["a","one","b",?kC],?cf%2,qi6 _ ?i,?aj=?bq->x=y,?Na p2 H,(?aU).zip,λz=>?_,(?du hp).1,z<=40,H1 a=?j (.frz o ?g5),(L r ?eX).natAbs,(o4 o5:?dI V),c<=k/\k<r,?Jo p1,kP ?jP ?bt,(?jX).getD,?e9 / b.1,?j ?a7,nd ?d2,"bool",H a=?fC,?m ?aB,#[hp,g,d,tk,os],x.lback,let s:=?jJ;G s,k0<=z,let s:=?mL;?c8,?Pn V1 p,(qg0 _).symm,?uS Kv lf,i<=ms.length,Gw xs ?z,?cr hx,if ?k4 then x k*T k c else 0,λi=>?oj,ms.length,[?bv,?ds],?K2 p1,K2.st.good,∀(st:?mN)(hB:?tL)(b2:∀q c,q<m->c<w->(B q c).natAbs<=2),a,∀(h:?eg)(hs:?bC)(t:?r0)(t':Me ys 4 zs' ks' Ls' Gs' fs' lp' rp' ls'),a,∀(ge:?L4 ?o6 j n)(gj:s.heap.IsTupleIter j t n)(gt:?Eo),a,.(by by_cases z:c=a;{subst z;rw[ha]at e2;cases e2;exact Ab};rw[Al z]),∀{k:Nat}(hk:?bg){ps ps':?bI}(hp:?fl)(X1:ls'[k]?=?j ps'),a,.(by(have hl:?KM ?jK ?dF:=?nT)),.(by(have e:?n0=?lj:=?gA)),.(by apply ?nQ;apply ?cJ),∀(h:?p2)(tw:∀c,c<w->?KS ?CY),a,∀(hd:?Pc k k (?KW (P' x) (Q' y)=?Co)),a,∀{ms ns:Ms}(h1:?ye)(h2:?K4 ns),a,∀(h:?cF)(hz:?eu),a,∀(dg:?LX z k ?gp),a,∀{A P PB Q QB P' Q':Mat}{f f':?u},a,∀{st:Stmt}{ps:?F}{k:Nat}{sp:Sp},a,.(by rw[←Ax];exact ?Kv ?cL),∀(t:?r0),a,∀{e j t:Addr}{n:Nat}{vs:?p3},a,.(by let#[z,k0,L,G,f,l,r,bl,?g]:=h),∀(hK:?wX (X.K=K) ?u6),a,∀{mg:?pe}{base:Heap},a,∀{prog:Program}{w:World}{A:Around},a,∀(ns:?n)(lo hi:?dI Int),a,∀{ms ns:Ms}(h1:F6 ms)(h2:F6 ns),a,.(by rcases qj5.mp hp with h | h),.(by unfold lev at la;simp at la),.(by unfold lev at lb;simp at lb),∀{j:Nat}{c:Ms}(h:Xj xs k j c),a,.(by exact ?hv),.(by rw[?R,qe3]),∀(b:?KF Yx j),a,∀{ls ls':?dJ},a,∀(rd:?HI),a,∀{m:Ms}(h:?K4 m),a,∀{α:Type}(g:?NC α),a,∀(m:?kN),a,∀{a:Addr}{xs:?O},a,∀{f:?bG},a,∀{ys:LLInt}{t:Nat},a,s.heap.get?,?LP w w (pT w QB Q a b),wB φ (fs.map t),λx u=>?iV,lfL φ q ps,(Gw xs k i j).natAbs,#[c,e1,e0,e2],?P O H,?w p2,List.map_id,λj c _=>?kH j c,∀C,?c7*C<=?fQ*C,∀q c,q<m->c<w->B q c=?Jm (L i q*T i c) z,NW K R vs H1,G D=?iG,?s8 i 0,?na*f (s k),.(by rw[qb7,qb7,h0];rfl),?L5 K.pos,"_law_faces_by",?PY p3,#[its,rv,pl,hz],?Ji (P x a*u a) n,λC=>qc2 _ (qr4 _),let s:=?n5;?c8,Y7 N,s _ _ h1,os.take t,?Nn p0,m<sp.length,?P G G1,if c<j then c else c+1,?MG ?bn ?l6,.(by have:=p.π9;ext d),?KE (?mW*Q y b) w,Av ?q1 q,?Jb p5 Tb,sH.seqT hq,∀p∈ps,?ms/\?sB,List.map,?gK c ps acc,?KG p2,?P0 ?Dc,0<=f/\f<?be/\?Ew=need,qc2 _ ?i,?OH ?js j,qb6 hik bl.kw,?P G1 ?wO,T.n_tuple,?je j 0,i<=w.length,lift1 fl lf g,?LY ?dj,Lat.gT ?dM G ?op,λ_=>none,∀ps∈ls,?BX,hl b ?aT,∀H',?a9->?rp,tab j z,Zr._auto_1,λu y=>?r1,Y7 m,FF i*?jQ,if u<m then f u*?r1 else 0,HT.sIx ?h4 0 lo,.(by simp[Ep]),y k l*?le,?Jh S x9,?Kl k (?aj<m),?ki*e.natAbs,#[d,hd,?g],(hl p ?aT).times p.2,{ cls:=?jk,data:=.fields #v[?ch,.bool false,?r5,?qi 0,?ch,?ch] },hk k ?i ?i,?MH 4,qa5 p.bπ2 p.πb2,?NC ?V,?Oa i n,?Pi a,?KG S,Ge O H' vs lf,ls.foldl,?LX n k A,H b=?j ?o2,.(by rw[←hB];unfold E6;rw[qi8,←Rn];rfl),[?cY,"old",?bv],λa=>?Jm (l.1 x i*?dh) z,λy x=>M x (?K5 0),#[B,hb,gb,lb,cb],.(by ext Ij),λi=>?oE,?L5 ?eR,?ND 2 c gc,?Jb p8 Tb,["j",?bv,"i"],#[u,hu,ru],?P H G',p.length-1,∀q,?el=?El,#[?dc,Ab,?g,?a6,?a6,?g],λq=>f ?bE,λy i=>?th,?PV ?ab,?Kl N (0<d x),Pv i σ H,?d4*L b c,F.entry_enumerate_next,Vd.mp hnd,#[_,b,eb,hb],hk1 _ _ nab.symm h,F.agr ?ai,Jr ?Do ?xk ?C1,w3.extBut,?Kg p0,?kx r ?i,λc hc=>?_,ind ?rK p,?Od D,h f ?aT,Ix ?bm k,Ba ?cG ?ba Ak ?ap,vs++[?w E],?Ob 1,ind x e-ind y e,"_law_shape",En rp _ e,λx=>f ?I0,bookF+bookF,?K1 fl,prodN_congr',Bool->?aX,wF ?G9 ?e2,dT h w f,.(by cases z),?Ob i,qa6 _ e,F4 (a 0) m,?KE (A' a b*q b) w,let u6:TS:=At t6 u7;?xA,?L5 h.ge,g ?cU*?m8,wF ?ym c,sa.seqT hq2,?N0 K2.ker,let s:=?nS;G s,φ a ?ts,λh1=>?_,H c=?ci->((∃l,o=?aK l)\/∃l,o=.dK l)->H' c=?ci,if b=a then 1 else 0,Ul ?p*A ?p 0,(?NP ms.any ?bs)=true,Int.add_le_add_right,?Md (pyNext ?cC) Q,(?Fp).length,(?ce z).map,λi=>?wq*?pZ,qa5 p.b0π p.πb,gs.foldl,Yu ns lo hi,(?du h).1,l9 h fs n i,?Kp hi ?HG,.(by rw[←Ax];exact ?KB ?dL),Lat.sumN_one,#[(C3 h).1,(C3 h).2.1],wF ?CQ c,os.drop ?en,hp p ?aT,Av ?bT ?bL,?df z P G i c,qb2 hq,Ih fs f i,?Pn spN i,?PD ?kQ,?MY p,Cp.start _ _ _ _ _ _ _ _ _ _,if c then x+1-d else x,?t ?f1,?fR ?k8 ?eK (Av ?k8 ?eK+GS n j),xs=[?bW],ok _ ?i,?K1 ns,λt=>Eg.start _ _ _ _ _ _ t,I.tuple hq,?MH 3,?LY ?dm,π2<=8990,?OT (At t4 (At t5 t6)),?PI eT hp,?O8 ?z,λp=>?Es,λx=>?Mc x.length,?ip++[?am],(A i c).natAbs,Mg ?ov,(?MB ?_),?K1 acc,g.trans gp,V5 t m<k,λc r n1 e2=>?_,?Lw η n,?KN G1 T1 zs,?MH 0,Good n ?bn w n ?l6 PB R RB,(?cI).natAbs,λk hk=>h k ?i,?KG p0,s2.seq hb,?Jm (if ?xU then ?lA*?PD ?cv else 0) ?aS,?hR ∉ ?gV,autoParam,det n (Yo ?Bc j),?Ji (P x a*?gS) n,#[r,hr,?g],kK h1.ok.n h2.ok.n,#[A,ha,ga,la,ca],look m q hq hlt,?Ns p4,?KG p3,?OE p3,K9 n ?ea,in1 u hu,?PV Ak,QB ?ax c,?hN=none,(?O6 ?zr).length,P1 ?js q,?Kg p2,qd6 ?_,?Ji (v a*?Dk) w,B j a*?jS,h1.lv q hq,?az f hf,.(by split<;>ext d),?PY p2,?OR i,λi j h1 h2 h3=>?_,?Ji (?IY*?dw) m,?Kw A0,?Jg p0,.(by rw[qb9];ext d),?LI H1 a xs,?aE f ?d9,F9 hn hm,?K4 ?e2,?KE (Q' y b*QB v b) w,.(by rw[qh8];grind),Yw+bookF,qb2 e,let u5:TS:=?Fr;?xf,λk a=>rfl,Vy _ n,?aU++?O8 l,["j","i"],AJ ns k,?Pk (λq=>if ?K6 ?cV then F ?b9 else 0),?qU*?rj,?g8 i [],mZ q.1,?OJ n,"start_of",.(by simpa using e1.symm),?Ma ?un,?az c ?ai,[?ds,?cY,?bv],?OP 40,Zd (?S #[o,ha1]) hat,#[its,rv,p,hz],as.drop k,(?cv).1=1,λj c h1 h2 h3=>?_,if i=y then ?bA else 0,let u3:TS:=?Hr;?ze,h'.IsTupleIter,#[λq hq hk p=>?_,?v0,?_],?K2 p4,#[?g,?g,?g],λc h=>h,Yo A ?x,K2.st.st,let u4:TS:=?A1;?xX,(?NZ sz),Xl xs ?T ?ay c m,?KL Er ?ab,sH.trans,qc9 h2.1.2,sumN_fst,(one,one),Nat.log2,bl.fin.dg.pos,?Jr n n st,let s:=?FG;?c8,Av ?bz e,5*?bt+?bt*?bt,?cr hy,{ cls:=?fw,data:=.seq #v[?yS,x] },ls.length=4,De Ac,#[#[_,h],?gm,?fk],p4 x0 H,w.getD i 0,?Ji (?dh*?dw) m,#[n1,n2,n3,n4],#[_,_,?g,?g,_,_,?g,?g,_,_,?g,?g,_,_,?g,?g,?g],bl xs ?z g f,l.getD i d,λx=>f ?iv,qr5 λi=>?_,?jt i ?i,qf3 _ ?i,hok q ?vt,?LI H2 aw ?fE,∀ps∈ls,?tl,λu=>?iV*?uA,LQ D nm r1 D1 D2 b2,#[a,vs,e,q,r],#[a,b,c,?g],show ?HH a ?pY from p,qd7 hj,G1 D=?qx,?j ?GD,List.Nodup.sublist ?CH h,if c=c' then 1 else 0,Ls k,?Je (?ns=?oF),F4 ?ir ?km,x<cs.length,vs[n]?=?j x,m.get c q,?k n tk,i<l.length,?Pk ?kw,lQ ys k cs,(?Ph ?bq),?OQ H1 D [?jC],(?Mn ne),let u9:TS:=At t9 RK;?Ah,let u3:TS:=?Hr;?Bl,#[p,hp,e],w2.extBut,?az xs φ,?K4 ms,"level_of",λi _=>?_,Av ?dE ?nF+n*(?k3).2,?Jg p2,?PR p3,(?fH).getD,?OP 1000000,Av ?d2,"levels",?NE H',?w D2,?iD/\?ix,λh4=>?_,qb2 ej,["left","right","a","b"],K9 t ?b9,.(by rw[qg2];ext d),"is_straight",?O8 j,#[c,q1,e0,e],λp=>?wn,[?dO,"j"],#[p,hp,hl],Int.dvd_zero,os.getD ?U 0,"pieces",let s:=?jJ;G s H0,?Ky ?rw,?Jo p5,Sum.inl ?U,h.IsTupleIter,?h (λb=>A i b*q b) w,bl.fin.br.1,h.b q,blend_row_ne ?i ?i _ _ _ _,λx hx=>O9m,?Jw (Fp Ac),q.2.natAbs,λh6=>?_,λh2=>?_,∀p∈c,?K4 ?lP,hc.key p hp,(s ?r,p.2),?Je (?x-1=j),"numbers_at",?O8 ?b2,x j*hd j,∀x0,?sH,?hx++(?jR::?gV::ys.drop ?en),tup_cell h2,X.calm=true,pS H d,?Ns p3,#[x,hx,hk],F.low f hf,?Op ψ,?PG (sg j*?Ji (u a*?vU) m) n,?Ll p2,(?e0-1).toNat,.(by unfold bookF;ext d),?Jq u2 D',let u2:TS:=?IO;?D3,?Nu ?Fx,?w r1,#[?X,?dc,Ab,?g,?a6,?g],?Ll p0,(?gE).h ?jx,p.2.1.length,?PS p0,?Nn p1,#[p,hp,?dN],?OT (At t4 t5),?LG (by ext Iz),∀x0 x1,?gR,ms[i].1.toNat,s1.seqT hq,?MH 2,if x=e then ?d3+1-?NK 0 else 0,["old","new",?Gt],?h (λy=>?mC*Q y c) ?iH,gT m G B j c',#[_,?g,_,?g,?g,_,?g,?_],#[?X,?bU],hk p ?aT,At t4 u5,if x=y then f x else 0,?Pk ?yC,?L0 ((?dC).toNat=i),q.1∈?zO,?KF Dh k,?d4*?o5,?Nn p2,w.length,#[x,hx,ex],?O4 p2,?aJ w T one j ?fG,H' p=?fC,?NC Bool,{ s with heap:=h',toks:=s.toks+1 },(NH ht k _ _).trans,λx=>?h (λv=>?GG*Q v x) w,.(λq=>by rw[E4];exact Hs _),setField,?Lt v ps,(?du hb).1,?a4 ?U,V3 xs ?cf ps,(?cv).2.2.1,p[i]' ?i,?pC ?rY acc,?KT ?ab Ak,#[D,_,?g,?t #[.of cX,?Ej]],congrArg,#[a,us,e,h1,h2],(ps:?bI),?OE p4,?Jb p3 Tb,[iS n,iS p,rS L,rS N,o4,o5],λ_ _ _=>rfl,?Me r,?gD i++?pl ?p,Aa Ak ?wj,if ?cd=k then c else 0,.(by have:=(?ag hx).1;ext da),Lat.bil_via,g.sq.row0,let u8:TS:=At t8 u9;?Ia,Av (Mv xs ?cO u),p++[f],?Jw ?Z,k D ys H1 hD s1 Dt r1,p3 x0 x1,((1:Nat):Int),.(by unfold K9;ext hf),?Jo p6,det n (Gy ?xd i),#[a,b,?g],H=H2,?L9 E6,w.length<2,?Ju (?HO*det n ?qf) ?o,?KP ?bx (?Ob ns.length),?vQ / ?r,.(by unfold lev at lc;simp at lc;ext d),#[i,hi,e],Av ns ?r,if j=i then 1 else 0,λz _=>?Cq,λf' hf'=>?_,?Ly ?cW-k0,λi j=>s1.1 j i,det i (iB V Z i),{ s with heap:=h' },LY ?b0,t.lev hj,h.2 i v e,?g6 u v hu hv,"_law_at",(?ce i).map,?h φ z,hk1 c q z e2,"column",?k6 xs ?T ms,Reps.one,λz=>?vI,w.getD ?p 0,?li::(?BD ?sR),Gm ?I u,λhnd o=>?_,?Pk (λx=>PB x b*?tV),?Pn JB ?iq,#[q,hq,eq],λp=>g (t p),cO lf acc p,Q (?w R) H',β2+Gn π2 b2 i<=big,VI w ?bA,?r≠0,∀p∈ps,?EL,?Jb p1 Tb,Up φ _ _ ?pq,K9 t ?rK,b.fin.ir,Gy A ?p,Bh Df ?oK Ak,?L3 1 b gb,?cs (Of c),h'.objs.size=?h8,?PT p4,?Jm (?vs*?df z PB L i d) z,xs[?lW]?=?j ?lT,?Gi<=?Aa,let u2:TS:=?IO;?zd,#[a,b,c,d,?g],ex k,?KH p4,s3.trans,?MW i,?P6 (?Kl n (f x=g x)) (?ox=?aE g n),?ah w B ?oE x,∀b∈ps,?x5,?Jm ?oi ?gW,x m*T m c,bl.fin.bl.2,λr c _ z=>z.elim,bil w n ?Hk (Q v) ?lD,?gD ?jY,let s:=S;?c8,qc9 h2.2,?Pk f,?LJ [o],?KN G p [?eO,?cN],?N3 nDa,2 ^ 8000,?L0 ((1:Int)=?An),[a,b,c,d],beside_hi,#[c,hc,e],qn9 _ ?i,?Jb p0 Tb,Hl p.2 ?lP,vs.length=ps.length,?w b2,2 ^ kB ?aS,qv1 _ qs7,?Jp p4,?mn hcb r hr,?Jb p2 Tb,#[c,?i,h2,h3],En ks _ e,#[x,y,hx,hy,e,ne],k3.push ?xu,?c7-(m-1),Av ?ia,[none,none,?j 1],Cr ?ec sp[i],?Oh Im,?Na p4 H,∀c q,c≠a->?mJ,Nr n (P,PB),#[_,?g,_,_,?g,?g,_,?g,?_],λa=>?dw,Av ms,?Ml ?rB,#[_,ge,?g],(?gc).map,?LP n n (pT n PB P a b),?O6 n,?Jp p5,?g7+i,(one i j).natAbs,p.length,k0+i,?KH p5,(?jG).map,?Jb S Tb,(?dt).toNat,if x=y then f' x else 0,[(t,?U),(?U,t)],.(by rw[e]),ql0 λq=>z #[y,hy,q],λpa Ha sa qa=>?_,b'*f j / g,?MW xs.length,(?n0).1.toNat,?Pk ?pj,?aJ w A one,i=vs.length,?ox*f n=?aE g n*g n,Bh K3 ?ab ?Z,?No ?ca,λh n hn=>?_,?M3 u2 D' H,v7 es=?j ns,(?f0).toNat,(?xz+?BK)%fam,h x y ?i ?i e,λx y=>M x (?K5 0),π<=8990,?vg (lift1 fl) lf,?jM+1-?lZ,ps.foldl,U j u*f u,?O9 ?bu,j-ts.length,#[h.1,h.2.1,h.2.2],cs.length,λj=>?Mc ((?O6 j).length),?bt+1,?MT (?PI Oa ?zK),?Jp p6,qc2 _ (Nat.sub_le _ _),"_law_without_noughts",λj _=>?kx j,F4 (a 0) r,?j ?hR,?OT t4,λj=>?B1,?PT p3,h.ok.z p hp,b8 c acc b,w.length=0,[?fN,"faces"],Int.sub_le_sub_right,?Jb p4 Tb,(ls.map (lfL φ q)).sum,?KU (?oW*R k c),?t9 b=?ci->h'.get? b=?ci,Qa F (cs++ds),?L1 m q,s _ _ h,s1.heap.objs.size+1,[?j4,?nA],?oL h' e j ?cW x ?cH,?LI H a xs,QB ?ax a,?LL ?I G,"shared_divisor",?KN G2 pr [?k j,?k (M i j)],qc9 h2.1.1,let s:=?n1;G s,?Kk ?F6,K1.st.good,λq=>F ?ea,.(by unfold bookF;decide),[?cY,?ds],(?BD ?Ea).map tI,σ'=?AY,G8.first,?O8 (0-1),qa5 sh.lb ?hz,vs.length=ls.length,Kv ?o4 ps,noB ps',YT n w A D,"_law_k",VS φ q p,Ul ?x*A 0 ?x,?nn-?bA*?ok,#[_,?g,_,?g,?i,?i,?bY],?aa λp=>?Fi,#[f,fd,a,b,F],(?Ph (s' y)),?Nw (?nP*?hJ),?jV n [],I.ok.hd hc,h1.trans,.(by have:=dg.mn;have:=dg.mw;ext d),λ_=>?Fh,.(by rw[qa1,?dH,ej];rfl),Pt H vs ls,F.args_enumerate_next_1 _,Np ?b0 p,λr l=>?aJ w T one r ?fG,.(by simp at h),gp _ _ Ea,(?jx).toNat,EU ms ?r p.2,λp h=>?kr,?KE (P y b*?E7) z,[rS ta,o1,o2],λx i=>?wZ,h2.lv q hq,h n ?i,"_law_words",Dx n w k D A l.1 l.2 r.1 r.2 f,?L3 2 c gc,λi=>?Ab,λe=>?_,?ae Addr,ChainTo m m f,?Oa j n,d i*?Hy,β+Gn π b i<=big,bs.map ?a4,T.n_enumerate,λT1 hT1=>?_,t'.lv k hk,?LY ?r9,λi j=>?B1,.(by simpa using e2.symm),?HH t vs,?K7 H' n k,λj h1 h2=>?_,Aa ?ba Ac,p.map ?gn,?L8 D D2,?N5 (c+1),∃p,V2 k w r.1 p,(?fO).length,.(by simpa using h3),λp=>g ?gJ,?Pi b,0<=q.1,?LO lM,Lat.Straight,.(by rw[←Am2];exact ?e5),P5 n (λc=>?ek) ?Cx D,tab k z,?h (λy=>?xH) w,?LV (B7 H' vs ps),?KE (A a b*q b) w,K0 KQ r4 t4,?S ?qw,"is_whole",s _ _ (λz=>by rw[z,hb]at h;cases h) h,?k w[i],ys.map tI,λNf=>Nf _ _ ?i2,?Na S x8,y-?cI*v,F4 ?ao m,?Kg p1,hk ps ?aT,φ (t f),?Na p6 H,?aE (λr=>f ?b5) m,wF (?az xs ?mV) D,?Pj ?Cn ?tO,?S ?FA,.(by simpa using h6),?P H1 (?KN H1 p [?k q.1,?qc]),?Jo p3,#[h0,h1,h2],P y b*?ok,q.getD i 0,?Ju (?dQ*L j c) z,λi=>r.1 ?Cj,?Na p3 H,.(by simp at e),"is_list_of_few",λx y=>M x ?bq,?a2 us,D.nx σ H,"_law_face",wpAny_callSpecial?_slot,(?e4,Lat.one),if ?bs then(?r,v) else p,UF n w D π β π2 β2 b2 A m M l r,xs++[p],qb2 ei,?KU ?uD,(?bz).length,?o*FF n,?Pn Nc ?b0,#[hi,b,?g,hb],At t5 u6,?O8 ?T,λx=>?iv,bs[i]' ?i,["part"],?My Lw,.bl true,?d4*L b d,?PS p1,?Jb p7 Tb,hall2 i' ?i,?kx j hj,Av ?dm,#[a,us,e,n,h1,h2],#[_,c,hc,e],?Ll p1,2*π+1,.Tuple es x1 tpos,λy=>?Pj y.toNat q,if k=j then 1 else 0,?Ju (?m2*Z j l) ?b5,?k0 c 0,?hR+2,det k (Gy ?EB i),k p [] _ hp ?dv Ab ?_,?KE (one c b*QB v b) w,(?yx).getD,let u4:TS:=?A1;?ya,∀p∈ps,?sK,?Nq p3,Y6 ?ey ?E ?ab ?ap,"faces_agree",p.2≠0,?aK [],hk1 c r n1 e2,x-?cI*u,?Je (t<ys.length),List.Pairwise.filter,?Pn Nc ?o,.(by ext sw;ext d),?w D1,.(?fs mn λu hu _=>by rw[?R,qd4]),[?q4,?j4],sg j*?vU,(?j5).2 i d,ps.take ?p,?h g ?o,?KW (P y) v,?L1 ?m1 e,?Jo p4,lQ xs ?x cs,ChL xs ?T c,λi=>f ?ax,F4 ?ir r,?Jr n q st,?OH ?zO d,λp=>?hT,(?gD i).map,?Na p5 H,?Fm*?hJ,xs.map tI,?S ?g,.builtin "any",2 ^ kB z,"quotient",?Jb p6 Tb,mainGlobals,let s:=?mL;G s,?Je (?U-t=1),λi=>r.2 ?Cj,?PI Ws hi,λ_=>rfl,h.lift1 hf g,ind x ?gJ,["one",?kC],At t2 t3,?Or ?cR ?cN,.(by ext sv;ext d),β+?cA,GY hu ?eI,w.length=1,?dA (swC t),det k (Wx ?tC f ?u7 m ?ao 0),?Oh Aw,qT xs j ?uX,.(by ext bh;exact ?f5),?ah m D (?df z P L i) x,.(by ext av;ext fZ),s.heap.IsTuple,Rd H a ?g5,s1.turn hD,Es π b r,#[o,q1,q2],σ=?FG,λy a=>u1.1 y ?k5,Ul j*A 0 j,qd7 hx,.(by simp at z),(?KY ta hT),?Nc p4,upd H D ?qX,kS n w,"without_borders",#[C,hc,gc,lc,cc],hs x ?i,wpAny_attempt,"add_at",?ok*?lh*?Fy,λa ha=>?_,p4  x0 H,.(by ext fb),"one_row",?KG p1,∃x y,x<k/\y<k/\x≠y/\?cB=r y,its.toArray.size,#[a,ha,ea],?Je (?dC=((i:Nat):Int)),tr A,vs++[v],?Ju (g ?x) n,λc q e2=>?_,"_law_other",?PJ O b,h.bord hs,At t3 u4,?h f ?oq,DGet H a ?cR (?Mf ?hN ?a4),?Jg p1,?PS p2,?aI h ?i,(?Ld hk),?KE (?mW*q b) w,if x=y then d x else 0,if x=x0 then s k else ?aj,?gL ?r h.1,?LL ?I L,λj hj=>O9m,.seq vs n,B7 H us ps,if ?fM then 0 else ?s9*?vG,?gq*p.2,?KN H1 p [?FD],VI k f,λ_=>Lat.one,?Lt v p,P1 ?cV p,(?nN).objs.size,?Kl k (?cB<n),OR (λr=>?s3) i,Reps.x s hb r,?F0/\?qm,(?ay).filter,.(by simpa using h4),(?nN).push ?uJ,qf3 _ he,?O4 p3,"across",At t2 u3,"_law_cell_at",YY ns,Hb.anyZ bs,#[q,hq,e],[?cY,?bv,?ds],λi=>(?ks).getD 0 != 0,?cg≠1,?KN ?pQ N0 [?jO,?k 0,?k 1],i<=ns.length,?df z P G i a,?MH 1,let u7:TS:=At t7 u8;?vN,?L1 ?cK e,?K9 p4 x4 x5,?g4 q [],ED ns ms h1.n h1.z h2.n,?xY j t ?o,λx hx=>h x ?l,.(by apply Fj λhm=>he ?_;let ?wa:=?iB;(have hcb:=L6 hs (k:=k) (ms:=?cK) λq hq=>by have:=C3 (Zg hq).1;exact#[?gm,?fk,?rm]);have h1:=?CJ;unfold J0 at h1;rw[qc0]at h1;have h2:?Kr ?rN (?ou=?cO):=?e1;rw[qc0,qc0]at h2;exact ?uw),.(by rw[Ad e2];by_cases z:u<w;{rw[?aA z λv _ ne=>?dS,?y];by_cases z2:u<m;{rw[?s z2]};rw[?m z2,?gd u ?l hu z,qe3]};rw[?aw λv hv=>?R,?R]),.(by rcases h with(h|⟨o,h⟩) | h;{exact ?t (?t ?FC)};{exact ?MR o ?FC};exact ?S h),∀(g:?pd)(K:?tf)(s:?wQ)(st:D5 ?bn n R t)(tab:∀j,j<r->?dB<w)(ker:?Mq (?dB=?cT/\?jS=hd j)),a,.(by have hi2:=(?ag e1).1;rw[qb7,qi3]at hi2;have ei:?Cy:=O9m;subst ei;rw[?eo,qh7]at e1;rw[h0,?eo,qh7]at e2),.(by apply ?HR;apply Oo ?D ?_;exact#[_,?g,k _ _ (Same.refl H) hu]),∀(p:?Et)(hA:?Kc n w (?wG<=2 ^ b0))(dets:?F4),a,.(by have:?iN=0\/?iN=1:=O9m;rcases this with z | z;{rw[?ak,z];simp};rw[?R,z];ext d),.(by have h1:(?Mf ?aU (Av (E5 (?ry ?BM))))[j]?=?j (u j):=by rw[hb,Ru hj]),.(by rw[?vk];unfold one;rw[?y,qd8]),.(by apply ?S #[a,?aq,ha,?BN];apply(?NM ?bY);let#[rA,nDa]:=aA hD),.(by by_cases z:v=u;{subst z;rw[?y,?y,qe8]};rw[?m ?om,?ad,qd4]),.(by show ?Ka 2 _;apply ?Mr ge ?w j),.(by intro X hP hw hK hc i Ag s σ H E I hf st hg;subst hP hw hK;let ?im:=st),∀(hg:∀s:?B,?PL g),a,.(by have hj:=(?ag e).1;rw[t.len]at hj;let ?ra:=t.lv j hj;rw[h2]at e;cases e),.(by by_cases h:i=j;{rw[?ac,?j2]};rw[?aN,?m ?kq]),.(by(. rw[?qG];exact Ab);{intro c q n1 e2;rw[Al (Aq e2 rA),Al n1];exact e2}),.(by unfold beside;split;{rename_i h;exact hT i c hi h};exact hP i (c-w) hi ?i),.(by apply ?oO (List.pairwise_lt_range.imp_of_mem λ{x y} hx hy hxy=>?_)),.(by let(?Mo t1):=ti;let(?Mo t2):=ti'),∀{k:Int}{v:?u}(h0:?Kl ?gI (?pF ?I ?lN v x=0)),a,∀(s:∀c o,?gN->?vW),a,∀{A0 A1 A2 A3 A4 A5 A6 A7 A8:Type}{S:?Jc (?Ng St)},a,.(by have ht:s.TypeIs ?cC ?dT:=?Cb;unfold pyNext),.(by have hu:?KM ?BM ?dF:=?nT),∀{c:Addr}{m:Ms}(h:?n7)(e0:?gN)(e:?Pa m),a,.(by rw[(?hE).2]at hp;cases hp;let ?fr:=?q2),.(by unfold pD at this;rw[←this];exact ?Kv (by rw[qt4])),∀(ti:?oD)(ti':∃z L G,Kb ys 4 ls' z L G),a,.(by have h1:=?CJ;unfold J0 at h1;rw[qc0]at h1),.(by rw[qb5,qe5];exact ?Lr h1 h2),∀(hA:?P7 n (A a b=?Jm (?gS*d i*?mW) N)),a,.(by rw[J8,?Je (?GD=((?en:Nat):Int)),Ir]),.(by rw[?fB,?eq]at e;exact ?D7),.(by rw[qa7,?dH]at h1;rw[qa1,?dH];exact qa9 h1),.(by(. rw[Fy hx hy ne ?B2];exact ?X)),.(by have hz:?s1:=?pm),.(by have ne:b≠D:=λz=>by rw[z,hD]at h;cases h),∀{H H':Hp}{tp nm r1 D1 D2 b2:Addr}{n w k:Nat},a,∀(x:aU K H H' tp nm r1 D1 D2 b2 n w k f l r),a,∀{X:Cx}{J:XJ}{j k:Nat}{C:Addr}{ps:?F},a,∀{fl:Ms}(h:?dK)(hf:F6 fl)(g:?an),a,∀(x:?K7 H n k),a,∀{q m z w k E:Nat}{D L G B P PB Q QB:Mat},a,∀(K:?tf),a,∀{os:?n}{t:Nat}(h:?U<os.length),a,∀{X:Cx}{Ag:Bl}{σ:St}{H:Hp}{s:Shared},a,∀(n w D π β π2 β2 b2:Nat)(A:Mat),a,∀{z m w:Nat}{L T B:Mat}{p:?B},a,∀{n w D:Nat}{A:Mat}(h:?E3),a,∀{p:BPart}(h:?dK)(hp:?ms),a,∀(he0:0<e)(he:?nX),a,∀{Q:?dI ?gB->?pL},a,∀{n w k E:Nat}{A P PB Q QB:Mat},a,@(By P w K mg ?Y Ew 1 f fd ?a (?b K)),@(?a x0 x1 x2 x3 x4 x5 x6 x7 x8 x9 ?b),@(A0->A1->A2->A3->A4->?a),@(λ_ _ _ _=>(Ds (K:=K) (n:=2) ?A (Bi (An (i:=0) ?a) (Bi (An (i:=1) ?b) Dr)))),@(show ?a by ext d),@(∀σ H,?a->?K),@(?a  x0 x1 x2 x3 x4 x5 x6 x7 x8 H),@(?a x0 x1 x2 x3 x4 x5 x6 x7 x8 ?b),@(?h (λa=>?a) ?b),@(At t1 (At t2 (At t3 (At t4 (At t5 (At t6 ?a))))) D σ H),@(λvs H Q _=>?a),@(λ_ _ _ _=>?a),@(?h (λi=>?a) ?b),@(∀σ,?a->?a3),@(?a  x0 x1 x2 x3 x4 x5 x6 x7 H),@(?a x0 x1 x2 x3 x4 x5 x6 x7),@(g x σ H λσ1 H1=>At t1 ?a ?b σ1 H1),@(Fa K ?a ?b ?c f fd),@(?j (.dK (cK ?a))),@(?bJ _ _ (?a>>=_) _ _ #[?b,g,d,tk+1,os]),@(?h (λj=>?a) ?b),@(?d3+sg 0*P1 (?M a.toNat []) e+sg 1*P1 (?M b.toNat []) ?a),@(Ai (Bd ?a)),@(?aO ?a ?b (Au ?c)),@(wF φ ((?a).getD ?bH [])),@(∀h',?Di->?If->h'.get? ?cH=?j { cls:=?fw,data:=.seq #v[?k n s.toks,x] }->?Bg → ?tp->Q ?a ?AF),@(?a  x0 x1 x2 x3 x4 x5 x6 x7 x8 x9 H),@(wF φ ?a),@(?a  x0 x1 x2 x3 x4 x5 H),@(?h (λc=>?a) ?b),@(ChL xs k ?a),@(s (if y=0 then y0 else if y=y0 then ?a else y)),@(Cn (?a).length=k),@(S7 K ?a tp nm r1 D1 D2 b2 ?b w ?c f l r),@(?aG ?a ?aM),@(?a x0 x1 x2 x3 ?b ?c),@(?j (?a2 ?a)),@(Ad λa _=>?a),@(qa8 (?HY (?Fg (name:=Str.ofString "__next__") ht qs9 (qm5 qs9 ht ?ur ?a ?EK)))),@(by rcases Hu (l:=xs) (i:=?a) (d:=[]) with z | z;{exact h4 _ z};rw[z];exact ?X),@(?h (λb=>?a) ?b),@(?a xs ?b z k0 L G f l r),@(?a x0 x1 x2 x3 x4 x5 x6),@(?a x0 x1 x2 x3 x4),@(#[_,?g,?a,?g,#[_,?b],?bY]),@(Fl X ?Gr (λxs H Q=>∃(p:Addr) (bs:?n),?w2/\SqL ?a H p ?Eh/\Q ?qK H)),@(?M (?a).toNat []),@(Bf ?a ?b Ak ?aY),@((?a).length=?b),@(upd ?a ?b (?aK ?c)),@(mg ?a=none),@((?a).length<=?b),@(Kc λo1 o2=>τ=[o1,o2,?a ?b]),@(∀x0 x1 x2 H,?kL->?iy->?a),@(∀x,x<q->?ah m D ?a x=0),@(Ba ?cG ?a ?b ?ap),@(?h (λk=>?a) n),@(∀x0 x1 x2 x3 H,?kf->?oa->?r7->?a),@(bil n w A ?a ?b),@(∀x0 H,?h5->?gh->?ja->?a),@(#[_,?g,?a,_,_,_,?g,?g,?b,?g,?g,_,?g,?_]),@(?j (?k ?a)),@(?bJ _ _ (field ?cC ?a>>=_) _ _ ?b),@(by let ?a:=hz;exact ?b ?c),@(∀i c,i<?a->c<?b->?c),@(λx y hx hy e=>?a),@(Ad λi _=>?a),@((?a).natAbs<=?b),@(?a  x0 x1 x2 x3 x4 H),@(λx y hx hy=>?a),@(?h (λq=>if ?mD then f ?b9*wB g ?a else 0) ?b0),@(?E0/\∀(i:Nat) v ps,?eh->?ww->∃a us,v=?a7/\?a),@(?h (λc'=>?fV*?a) w),@(∀x,x<?a->?b),@(by unfold Av;rw[F9 ?a ?b];rfl),@(Rep K H ?a ?b),@(Ad λj _=>?a),@(?aA ?a λk _ ne=>?b),@(λi ys τ H1=>Da ?tx ?fP ?kd (?bZ K H1 ys ?a) ?b),@((?a&&?q ?b)=true),@(Ap (i:=?a) ?b ?c),@(?aJ w A one ?cB ?a),@(p0->p1->p2->?a),@(Ad λc _=>?a),@(?a->Prop),@(∀x0 x1 x2,?d5->?a),@(∀x y,x<k->y<k->?a),@(λi zs τ H1 _ hz=>by let ?a:=hz;exact e),@(show ?a by ext d),@(Av (B8 xs ?a) ?b),@(mg ?a=?sA/\∀H,SqT K H a ((?b:?n).map ?a4)),@(G 0 ?a ?b a _ _ ?H ?g ?g ?c ga),@(?bp ?a e ?b ?c old),@(?a j h1 h2),@(qT xs j ?qC p*f x*qT xs ?x ?p6 ?b9=?a),@(by let ?EA:=d;exact#[_,_,?a,?mP,ok F]),@(NO n w b0 ?a π b β ?b π2 b2 β2 C1 C2 F),@(?a xs ?cf ?mv ?g7 ?pA ?rG ?qW ?rH ?ga),@(∀x0 x1 H,?lR->?pW->?a),@(by unfold Ay;rw[?kD,?hO,?s h5,?a h7]),@(Ad λb hb=>by rw[?a a b ha hb,←B9]),@(∀v,v<w->?a*?By=if v=u then f u*?b else 0),@(?t #[?aq,?h3,rd,?g,(FU ms ?a).symm]),@(?a (λz=>by rw[z,rA]at e2;cases e2)),@(λi c hi hc=>?a),@(k x0 x1 x2 x3 x4 x5 ?a h0 h1 h2 h3),@(SqT K ?a ?b ?c),@(Ec λo=>τ=?a),@(ChL xs ?b2 ?a),@(?bd z ?a ?b1 ?b),@((?a _ _ _).length<=_),@(#[h.1,λi v e=>let ?tF:=?BA;#[c,e1,e0,?a]]),@(∀q,?jj<2 ^ ?a),@(∀a b,a<?a->b<?b->?c=?ky),@(λi j hij hj=>?a ?ax ?cb ?i ?i ?i),@(H ?a=?j (?aK [?k ?r,?a7,?cN,?d8])),@(#[?a,_,?g,?e5,?g,_,_,?g,_,_,?g,?g,?_]),@(∀x0 x1,?ct->?ej->?a),@(∀q,(Av ?a q).natAbs<?b),@(∀[?aV][?a0],?ew->?a),@(Me xs ?a zs ks Ls Gs fs lp rp ls),@(Dx ?a w ?b E ?c P PB Q QB f),@(Av ?a q),@(Ad λc hc=>by rw[tl ?a c ?b hc,←B9]),@(?m λz=>?a ?b),@(k x0 x1 x2 x3 x4 ?a h0 h1 h2 h3),@(g x σ H λσ1 H1=>t1 ?a σ1 H1),@(λq hq=>?a q ?lf),@(show ?a=0 by ext d),@(show ?a<w by ext d),@(by unfold Ay;rw[?a,?b]),@(Al (ne ?a ?kY)),@(?aw λx hx=>by rw[?a x hx,qd4]),@(?aw λa ha=>by rw[?a a ha,qd4]),@(?a<xs.length),@(?a x0 x1 x2 x3),@(λz=>?a ?c3),@(by show ?Cz;rw[?a ?Ig,h n ?l]),@(Kc λo1 o2=>Fm (?a=?ET) ?b (?F2 ?c w M)),@(?a[i]?=?j ?b),@(λb hb=>?a hr ?b b hb),@(ql9 (?a i j hi hj) (?b j c hj hc)),@(k x0 x1 x2 x3 ?a h0 h1 h2 h3),@(h.2 i ?a ?b e1 e2),@(by rw[qa1,?a];rfl),@(by (have:¬?a:=?b);ext d),@(Nv π b ?a r ?b),@(FO ?a ?b id hD ZU),@(Cj xs ?a),@(?ot n p ?a x y ?b u v),@((?a).natAbs<?b),@(λq hq=>let h:=C3 (?a q hq);?DG),@(TL (λr=>Nv ?et ?jP ?a r ?b) ?bt),@(At t1 ?a ?b σ ?c),@(Ad λu hu=>by rw[?s ?a,qd1]),@(#[_,?g,_,?g,_,_,?g,?g,_,?g,aw,_,?g,?a,?_,?b]),@(?a n w D π β π2 β2 b2 A),@(?a (K:=K) ?A T.n_zip (Aa ?b ?Er)),@(?a ?b ?c h1 h2 h3),@(φ ?cd*Av ?a ?cd),@(λx=>?a x ?b),@(λx hx=>?a),@(β2+?fQ*?dP+C2+?dq*?cz<=?a),@(sg 2*P1 (?M c.toNat []) ?a),@(qa8 (qj2 ?a ?ai ?b)),@(p.length=?a),@(Sl n ?a w r kt hd ?b),@(Ih fs e ?a),@(?k2 (i:=?a) ?b ?i ?i),@(#[_,?g,_,_,d,?g,?a,hx,_,?g,?_]),@(β+?fQ*?cA+C1+?dq*?eb<=?a),@(size=?a/\need=?b),@(qa8 (qi1 ?a ?g (x:=?ch) ?g ?b)),@(mg ?a=?j (?w ?b)),@(k x0 x1 x2 x3 ?a h0 h1 h2),@(by rw[cell,?m λq=>?a ?b];simp),@(Ad λa ha=>by rw[?a a ha]),@(?t (?S #[?a,?b])),@(?a (by rw[hzs,qb9];ext d)),@(λp hp=>?a),@(λi hi=>qc9 (Ma ?a i hi)),@(zst ?a ?H ?H),@(ys.length=?a),@(us.length=?a),@(Part xs need ?a),@(Mv xs k (?bS z l.2 L ?a)),@(Cf ?A ?kO ?a),@(Ad λk _=>?a),@(?q (Cn ?a=k)),@(?bJ ?ps A ?a ?b E s),@(2 ^ ?a*e.natAbs),@((?a).map ?b),@(∀j,?dl->j<?a->?b),@(λj hj=>?a ?b ?c ?i),@(by unfold Ix;rw[?a ?dN]),@(by rw[?a ?b ?c,qe3]),@(Co λj hj=>?a),@(Av ?a k),@(?li::((?ce ?a).map ?sR)),@(#[t,a,b,c,e,h1,h2,h3,h4,?a]),@(#[_,_,_,_,_,_,_,_,_,_,?a,_]),@(#[_,?g,_,?g,_,?g,aw,_,?g,?a,?_,?b]),@(∀j,?fL->j<n->?a),@(qa8 (qi1 ?a ?g (x:=?b ?c) ?g ?_)),@(mg ?a=?j (?k ?b t)),@(k x0 x1 x2 ?a h0 h1 h2),@(DI xs j z L G f l r ?a),@(D8 K Aj ?a),@(AO ?a (λi=>?q ?b)),@(.of (?a _ _ ?b)),@(?a xs ms i),@(∀i j,k<=i->i<j->j<w->?a),@(λj hj hn=>?a j hj hn),@(λa ha=>Ur hl ?a a ha),@(by rw[qa1,qa0 ?a];rfl),@(by rw[Al ?a];exact Dt),@(b.lev.told (ET hs ?a)),@(F4 (a ?a) n),@(?t #[?g,?a,SqL.of L4]),@(#[_,?g,_,?g,p,C,dx,_,?g,?a,hc.1,?b,?c,?_]),@(λx hx=>?a x ?qd),@(qc9 (Ma ?a ?b ?i)),@(i'<?a->Vx xs p ?b i'=true),@(by let#[?a,_]:=hz;exact ?b),@(Nat->?a),@(G 1 ?a ?b b _ _ ?H ?g ?g ?c gb),@(Fe O ?a vs ps),@(C7 ?eT ?E Fc (C9 ?a)),@(?oL ?a e j ?cW x ?lU),@(?h (λu=>?a*?b u ?c) m),@(?bp ?a ?h8 ?cH 0 ?ch),@(?aL n ?a b ?b),@(2*(((?a:Nat):Int)%2)),@((if ?a/\c<r then _ else 0)=?b),@(#[_,?g,a,o,?aq,?g,Ab,?a]),@(#[D,_,_,?g,?g,?a,?gj,?_]),@(?a∈?aU),@(?a λp=>?q ?b),@(?a P w K mg ?Y ?b ps k sp),@(k x0 ?a h0 h1 h2 h3),@(ih _ (h.parts ?a) ?pz),@(h.agr hn i j hij ?a),@(by let ?a:=qg9 h;exact ?b),@(U7 (K:=K) ?A ?Ei ?a),@(SqL K ?a ?b xs),@(Lat.bil ?I ?d0 ?sO ?a ?b),@(#[a,vs,e,?a s hb q,?IG]),@(#[Dt,?a,?HJ,Ab,?_,_,?g]),@(?a x0 x1 x2 x3 x4 x5 x6 x7 ?b),@(Yd λ ?ng ?T ?j7 ?aD ?gv=>G9 ?p4 ?em ?eY ?fF ?bg ?a),@(?a x0 x1 x2 x3 x4 x5 H),@(∀x0 x1 x2 x3 x4 x5 x6 x7 H,?ql->?s6->?p9->?a),@(∀x0 x1 x2 x3 x4 x5 H,?ro->?sU->?no->?rJ->?a),@(∀[?hl],?b4->?a9->?cP=?a->?c4),@(A5->A6->A7->A8->?a),@(Op λx0 x1 x2=>?a),@(S8 λx0 x1 x2 x3=>?a),@(Yd λx0 x1 x2 x3 x4=>?a),@(#[_,(Ai (Bd ?a)),?_]),@(Aa ?E (Aa (O7 (v:=.ty ?a) ?g ?b ?c ?g) Ac)),@(∀x0 x1 x2 x3 x4,?fI->?fJ->?eL->?a),@(?a x0 x1 x2 x3 x4 x5 x6 x7 x8 H),@(Kc λx0 x1=>?a),@(An (i:=?a) ?b),@(?a  x0 x1 x2 x3 H),@(∀x0 x1 x2 x3 x4 x5 x6 x7,?jw->?ko->?l4->?ll->?a),@(?a  x0 x1 x2 H),@(Bt (Hn (K:=K) qe7 qh6 qh5 Fx ?ba (Aa ?a Ac))),@(∀H',?a9->Q ?a H'),@(λi zs τ G1=>Bw ?td ?yI (zs=(?a:?O).take i) ?b),@(?h (λl=>?a) n),@(∀x0 x1 x2 x3 x4 x5,?iI->?hs->?ik->?l5->?a),@(?dy*(?bS z l.1 G i a*?bS z l.2 L i ?a)),@(?LR t/\H a=?Js ?f3/\H b=?Js ?d2/\?a),@((det ?a ?b).natAbs<=?c),@(λq=>if ?K6 ?a then f ?b9*wB g ?b else 0),@(#[_,(Ae ?a ?b),?_]),@(SqL K H ?a ?b),@(?a  x0 x1 H),@(∀x0 x1 x2 x3 x4 H,?uy->?FJ->?wo->?a),@(?M ?a []),@(?Ji (?a a*QB ?b a) w*Q ?c c),@(plc xs ?a),@(Ec λx0=>?a),@((?KK ?f8).getD i 0=?po (j-1) ?a),@(Ba ?rP ?E (Ba ?cG ?Z ?a ?ap) ?ap),@(A0->A1->A2->?a),@(?j (.dK ?a)),@(?a x0 x1 x2),@((∃old,?L4 h it ?a)/\?z9 it a ?b),@((det k ?a).natAbs=(det k ?b).natAbs),@((?a).getD ?b 0),@(bil N N ?hW ?a ?b),@(Kb xs ?a ls z L G),@(Bw ?fP ?kd (ys=?a) (?LJ [o,iS ?b])),@(Ad λb _=>?a),@(?K1 ?a=?aZ+?b),@(#[h.1,λi v ps e1 e2=>let ?a:=?AK;?b]),@(ns.length<=?a),@(ms.length<=?a),@(upd ?a ?b (?a2 ?c)),@(ls[?a]?=?g3),@(At t7 (At t8 ?a)),@(At t2 (At t3 ?a)),@(λa b ha hb=>?a),@(qa0 (?Je (?a<os.length))),@(Rep K G' (?w ?a) (dT z ?cw ?b)),@(Da (p0) (p1) (p2) (p3) ?a),@(∀{ms:Ms},?b7->?a),@(λi ys τ G=>Bw ?j9 ?tN ?a ?b),@(show ?a<?b by ext d),@(ms.length+?a),@(det ?o ?a),@(ChL xs ?z ?a),@(?h (λb=>?a) z),@(?Jy ?a=?gM+?b),@(?a=xs.length),@(?a (K:=K)),@(∀r,r<=n->r<=w->?Lw ?a ?b<=?c),@(j<?a->?K3 (?b i c*?c j c) m=?i0),@(eF ?a ?b (?Kd (?c x y ?i ?i e))),@(P1 (?M (?a).toNat []) e),@(Ff (λσ' H'=>σ'=?a/\?b) ?_ ?FF),@(?Ml ?a=?aH+?b*?c),@(∀c,c<?a->v c=?b),@(wB ?a fs),@(vs=[?a7,?a]),@(vs=[?a7,?a,?b]),@(g ?cU*(ind ?a ?cU-?m8)),@(bb.mono (?Je (?a<=?lO))),@(Ad λl _=>?a),@(?m (?Lm ?a)),@(?ah w ?gp ?a ?b),@(?aJ w T P ?a c),@(?K1 ?a=_),@(?a->?Kw ?b),@(∀b o,b≠e->b≠j->?a),@(upd H a (.dK (cK ?a))),@(qy5 (λσ' H'=>?a) ?q3 ?_),@(OY H ?a Q),@(?LY ?a=0),@((?bS ?a P M i c).natAbs<?b),@(∀{n:Nat},?a->?b),@(∀a b,a<?a->b<w->?b),@(∀[?a0]{acc:Ms},?Bt->?a),@(λi zs τ H1=>?a),@(xs.length<=?a),@(qb3 _ ?a),@(Gw xs ?a a ?b),@(Av (?a).2.1 q),@(?o*(B 0*(FF ?a*?rQ))),@(?jz ?a k (?MA Hb.ind ?b) ?c),@(?h (λj=>?a) ?b),@(?K1 ((?a n ?b).getD ?bH [])=?c),@(?a t Db hk ?b),@(?a ?b=none),@(s.heap.objs.size+?a),@(?z6->?uF->?a∣ ?na),@(?q ?a&&?q ?b),@(?ic*(T k ?a).natAbs),@(?b4->?a9->?cP=?j ?a->?b->?c4),@(nX λx0 x1 x2 x3 x4 x5 x6 x7=>?a),@(lR λx0 x1 x2 x3 x4 x5=>?a),@(?a x0 x1 x2 x3 H),@(?a x0 x1 x2 x3 x4 H),@(?a x0 x1 x2 H),@(Bc ?nt ?nU Dn (?Nl ?a ?b ?c)),@(Aa ?a Ac),@(Kc λ ?ld ?aD=>Da ?mo ?pc ?bC ?bF ?a),@(Bw (p0) (p1) (p2) ?a),@(?a x0 x1 H),@(?j (?a2 ?a)),@(H c=?Js ?a),@(An (i:=0) ?a),@(∀x y,x<?a->y<?b->?c),@(Cc (?KL ?a ?b) ?c Bn),@(?b4->?a9->?nw->?a->?b),@(∀k,k<n->?a),@(∀(gs:Ms) [?al],?dK->?a),@(λx y=>?Kt ?a),@(gT m G B ?a c),@(P1 (?O6 ?a) ?b),@(?h ?a n),@(?FT->?Ge->?z7->?Ap->?a),@(by show _=?a*?K3 (?b*?c) w;ext sl),@(?a xs k ?b),@(Cu ?CT ?A ?tv Ka (?PV ?a)),@(C7 ?eT ?a (C9 ?b) Fc),@(Qr ?ey ?a ?b Ak ?i6),@(Cc ?a (?Jw ?b) Bn),@(#[_,(?Jw ?a),?_]),@(∀c,?ek->?a),@(B6 (N':=?a) (cap:=?pr) ?A ?bK ?rf (?Jl (?Pb ?b)) ?bo (?Jl ?c)),@(Bc ?HC T.n_len qg1 ?a)])
def sS{M:Mat}{k:Nat}(hp:?Kl k (0<M x x)):∀m,k<=m->(∀x,k<=x->x<m->M x x=0)->QY m M=Gm k ?mA:=by (have base:∀j,j<=k->QY j M=Gm j ?mA:=λj=>by induction j with| zero=>intro _;rfl| succ j ih =>intro hj;have:=?pD;rw[Qy,?R,ih ?l,n0]);intro m;induction m with| zero=>intro h _;exact ?Y 0 ?X▸(by rw[?Le k])| succ m ih =>intro h hz;by_cases e:k=?d9;{subst e;exact ?Y _ ?v};rw[Qy,?s (hz m ?l ?l),ih ?l λx h1 h2=>hz x h1 ?l]
noncomputable abbrev yO:Nat:=67000000
abbrev Nr(n:Nat)(s:?di):Prop:=?LP n n (pT n s.2 s.1 a b)
def Nr.one(n:Nat):Nr n ?Fh:=?OU (by show ?KU (?e4 k a*?e4 k b)=_;rw[?aA ha λk _ hk=>by unfold Lat.one;rw[?m hk,qe3]];unfold Lat.one;rw[?y,qd8])
def Nr.go{n w:Nat}{T:Mat}{l:?di}{R B:Mat}(h:?l3)(e:∀a b,pT n B R a b=pT n l.2 (?aJ w T l.1) a b):Nr n (?m7,B):=?OU (by have:=e a (w+b);rw[←h a b ha hb];apply ?h2 ?aB ?_;exact ?Mb (by rw[beside_hi]))
def Ah7(i j:Nat):?Ch<=1:=by ext av;split<;>decide
set_option tactic.hygienic true in def DN{n w W b:Nat}{T P:Mat}(hT:?Kc n w (?hG<=?bX))(hP:?Kc n W ((P i c).natAbs<=?bX)):∀i c,i<n->c<w+W->(?Ox i).natAbs<=?bX:=?zp
set_option tactic.hygienic true in def X7{n w W b:Nat}{T P:Mat}(hT:?Kc n w (?hG<?bX))(hP:?NJ W P):?NJ (w+W) ?l6:=?zp
def X8{n w W b:Nat}{R:Mat}(h:?NJ (w+W) R):?NJ W ?m7:=?LG (h i ?la hi ?i)
def Mw{n W b b':Nat}{R:Mat}(h:?NJ W R)(hb:b<=b'):?aL n W b' R:=?LG (qb6 (h i c hi hc) (qe9 ?H hb))
def Ak4{e:Int}{D π:Nat}(h:e<=D)(hD:D<=?bD)(h0:0<e):e.natAbs.log2<=π/\?nX:=by (have h1:?nX:=by have:e.natAbs<=D:=O9m;exact qa5 ?aB hD);apply#[?_,h1];have:e.natAbs.log2<?eH:=(Nat.log2_lt ?i).mpr (qc5 h1 ?hv);ext d
def JL.done{n w r π b η β c:Nat}{M B0:Mat}{kt:?B}{hd:?u}{t:?B}{s:?di}(rn:r<=n)(h:JL n w r M B0 kt hd π b η β n t s)(hc:?wN<=c):(∃G,Cp n ?bn w r n G M B0 kt hd t s.1 s.2)/\?aL n ?bn ?lO s.1/\?aL n n ?lO s.2:=by have e:?wN=?HK+Sf (η+1+?HK) η r ?il:=rfl;rcases h with⟨h0,h,bb⟩|⟨h0,h,_,bb,_⟩;{have en:n=r:=O9m;subst en;have:=?Ot (β+Es π b n);exact ?xx};have:=?Ot _;exact ?xx
universe Hb
namespace Lat
open Hb
abbrev F4(f:?B):?B| 0=>0| ?o=>?pV
def Mg{f g:?B}:?P6 (?Pf (f k<=g k)) (?kS<=?qz)| 0,_=>?v| ?o,h=>Nat.add_le_add (Mg ?wS) ?EW
def Vy[?bk]:∀n:Nat,?Kf ?C2 (F4 (λk=>(f k).natAbs) n)| 0=>?v| ?o=>qa5 (qf4 ?C2 (f n)) (qs1 (Vy f n) _)
def Zr(f:?B)(c:Nat):∀n:Nat,F4 (λk=>f k*c) n=?kS*c| 0=>by show 0=0*c;(ext d)| ?o=>by show F4 _ n+f n*c=?pV*c;rw[Zr f c n,qg2]
def MD{f g:?B}{c:Nat}:∀{n:Nat},c<n->f c=f c->(?Pf (k≠c->f k=g k))->g c=0->?kS=f c+?qz| 0,h,_,_,_=>O9m| ?o,h,e,hk,h0=>by show ?pV=f c+(?qz+g n);by_cases z:c=n;{subst z;have:F4 f c=F4 g c:=qj4 (Mg λk hk'=>qn2 ?uK) (Mg λk hk'=>qn2 (?uK).symm);ext d};have:=MD (n:=n) ?i ?g (λk hk'=>hk k ?i) h0;have:=hk n ?i ?i;ext d
def CC{i:Nat}{R B:Mat}{t:?B}(P:Part R t 0 i){a m:Nat}(h:∀j,j<i->(?h ?nh i).natAbs<=m*?jf):∀j,j<i->(B j a).natAbs<=2 ^ j*m:=by intro j;induction j using Nat.strongRecOn with| _ j ih =>intro hj;have pj:=P.pos j ?X hj;have hs:=h j hj;rw[?fs (j:=?x) ?l λk h1 h2=>by rw[P.zero k _ ?X h2 (P.inc j k ?X ?l h2)];simp]at hs;have hs':(?h ?nh j+?wr).natAbs<=m*?jf:=hs;(have b:=EB (f:=?nh) (m:=m) (h:=?jf) (j:=j) λk hk=>by rw[qb5];let ?lI:=P.red k j ?X hk hj;exact qf6 (ih k hk ?i) ?i);have c:?Kf ?wr (2 ^ j*m*?jf):=qa5 (Yy hs') (by rw[qy2];exact b);rw[qb5]at c;exact qt2 c ?i
section
variable{n w r E:Nat}{e:Int}{T P PB R RB:Mat}{kt t:?B}{hd:?u}
def TM(g:?pd){x:?u}[?eG](hx:?Oo w ?yU)(hv:∀c,c<w->(v c).natAbs<=e.natAbs):?Bk:=by have rn:=g.sq.rn;have rw':=g.sq.rw;let a:?NC ?B:=λc k=>if ?s5 then ?PN k else 0;have step:∀c,c<r->?N5 c=a c c+?Eu:=λc hc=>MD ?i ?g (λk hk ne=>by show(if ?s5 then _ else 0)=if ?k4 then _ else 0;by_cases z:?s5;{rw[?ak,?s #[?l,z.2]]};rw[?ad,?R]) (by show ?NL (c+1<=c) 0;ext fb);(have top:∀c,c<r->a c c<=e.natAbs+?Eu:=λc hc=>by have h1:=hx c ?i;have h2:=sumN_pair (f:=?kw) (g:=λk=>if k=c then ?fo else ?sQ) (n:=n+2) (p:=c) (q:=?o) ?i ?i ?i;(have e1:?yU=?fo+?Cw:=by (have:∀m,c<m->m<=n->?h ?kw m=?fo+?h ?pj m:=λm=>by induction m with| zero=>intro h;(ext d)| succ m ih =>intro h hm;show ?h _ m+?Bv=?fo+(?h _ m+if c+1<=m/\m<r then ?Bv else 0);by_cases z:c=m;{subst z;(have z1:?h ?kw c=0:=?aw λk hk=>by rw[g.low k c ?l ?l hk,qd4]);(have z2:?h ?pj c=0:=?aw λk hk=>?Hd);rw[z1,z2,?R];ext d};rw[ih ?l ?l];by_cases y:m<r;{rw[?s #[?l,y]];ext d};rw[?R,?Ag m c ?l ?l ?l,qd4];ext d);exact ?aB n ?i ?v);(have e2:?Kf ?fo (e.natAbs+(?Cw).natAbs):=by have:=hv c ?i;rw[h1,e1,qy4]at this;exact Yy ?aB);apply qa5 ?mq (qa5 e2 (qw8 (qa5 ?xC ?wH) _));{show ?NL (c<=c) _;rw[?s #[?v,hc],qb5]};show ?Kf ?sQ (if ?k4 then ?PN k else 0);by_cases z:?k4;{rw[?ak,?ak,qb5];let ?lI:=g.red c k ?i z.2;exact ?y8};rw[?ad,?ad];exact ?v);(have all:∀d,d<=r->?N5 (r-d)+e.natAbs<=?qO:=λd=>by induction d with| zero =>intro _;(have:?N5 (r-0)<=F4 ?ao n:=Mg λk _=>by show(if r-0<=k/\k<r then _ else 0)<=0;ext fb;exact ?v);(have z:∀m,?FI=0:=λm=>by induction m with| zero=>rfl| succ m ih=>show ?FI+0=0;ext d);rw[z]at this;rw[qy1];(ext d)| succ d ih =>intro hd;have i1:=?hL;have s:=step ?q7 ?i;have t:=top ?q7 ?i;rw[?Je (?q7+1=r-d)]at s t;(have p2:?Me (d+1)=?qO+?qO:=?x7);ext d);have fin:=all r ?v;rw[qh7]at fin;(have le1:?Gi<=?DP:=Mg λk hk=>by show _<=if ?fF/\k<r then _ else 0;rw[?s #[?X,hk]];have:=g.pos k hk;exact ?rv);(have le2:∀m,r<=m->?DP<=?vL:=λm=>by induction m with| zero=>intro h;rw[?Le r];exact ?v| succ m ih =>intro h;by_cases z:r=?d9;{rw[z];exact ?v};have:=?hL;show _<=?vL+a 0 m;ext d);have:=le2 n rn;ext d
def tN[?JQ](he:1<=e.natAbs){x:?u}[?eG](rn:r<=n)(hx:?Pt (v c=?KU (x k*?iQ)))(hv:?Mq ((v ?cT).natAbs<=?hY))(h0:?Bk):F4 ?ir n<=?uG:=by (have one:?Mq ((x j).natAbs<=1+?qs):=λj h1 h2=>by have p:=?tR;have e1:=hx ?cT (?L5 K.lt);rw[?fs (j:=?x) ?l λk h3 h4=>by rw[?rD k _ ?l h4 (K.inc j k h1 ?l h4),qd4]]at e1;(have e2:v ?cT=?nZ+?zP:=by rw[←?mR];exact e1);(have e3:?Kf ?nZ (?qs*?hY):=by rw[←Zr];apply qa5 (Vy _ j) ?wH;let ?lI:=K.red k j h1 hk h2;show(x k*_).natAbs<=_;rw[qb5];exact ?y8);have e4:=?L5 hv;(have e5:?Kf ?zP ((1+?qs)*?hY):=by rw[qg2,qf9];apply qa5 (Yy (a:=?nZ) (m:=?hY) ?_) (qw8 e3 _);exact qa5 (qn2 (?AT Int.natAbs e2.symm)) e4);rw[qb5]at e5;exact qt2 e5 ?i);(have all:∀d,?km<=n->?yO+1<=?nk:=λd=>by induction d with| zero=>intro _;rw[qy1];show F4 _ r+1<=_;(ext d)| succ d ih =>intro hd';have i1:=?hL;have o:=one ?km ?i ?i;show ?yO+(x ?km).natAbs+1<=_;rw[qh8];(have:2 ^ d*2*?oA=?nk+?nk:=?dL);ext d);have fin:=all ?il ?i;rw[?Je (r+?il=n)]at fin;(have p1:?m3*?oA=?i3+?m3:=by rw[Nat.mul_add,Nat.mul_one,←Nat.mul_assoc,←qe5];congr 3;ext d);have p2:?m3<=?i3:=qa5 ?iP (qi6 _ he);(have p3:?uG=?i3+?i3:=?x7);ext d
def Sl.le{M:Mat}{W:Nat}(K:?MG W M){i j:Nat}(hi:i<n)(h1:?fL)(h2:j<n):(M i ?cT).natAbs<=?hY:=by have p:=?tR;rcases ql4 i j with z | z | z;{let ?kX:=K.red i j h1 z h2;ext d};{rw[z,?mR];exact ?v};rw[?rD i _ ?l hi (K.inc j i h1 z hi)];exact ?X
def cA{π β:Nat}{G:?Kw Nat}[?JX](g:?pd)(g':F3 w n r E e (tr R))[?JQ](K':?MG ?bn R)(s:?wQ)(b1:?aL n n β P) : ?aL n n ?H7 ?m7:=λi a hi ha=>by let#[x,hx]:=(?og).1 i hi;(have h0:=TM g (x:=x) (v:=R i) (λc hc=>by rw[hx c ?l];exact ?Mb (by rw[?gi hc])) λc hc=>by let ?kX:=g'.le c i hc hi;show(tr R c i).natAbs<=_;ext d);have h1:=tN K (e:=e) ?i g.sq.rn hx (λj h1 h2=>K'.le hi h1 h2) h0;show(R i ?k5).natAbs<_;rw[hx ?k5 ?l];apply qc5 (qa5 ?xC (qa5 (Mg (g:=λk=>?ic*?mQ) ?ov) ?_)) (m:=?ki*?bD*?mQ) ?_;{show(x k*_).natAbs<=_;rw[qb5,beside_hi];exact qf3 _ (qf0 (b1 k a hk ha))};{rw[Zr];exact qc2 _ (qa5 h1 ?IL)};rw[←qe5,←qe5];ext sy
def Zo{π β:Nat}[?JX][?Ik](dl:F0 n w ?l6 PB)(b2:?aL n n β PB) : ?aL n n ?H7 RB:=λi a hi ha=>by (have ex:∀k,∃y:?u,k<n->?Pt (?iQ=?Jm (y i*R i c) n):=λk=>by by_cases hk:k<n;{let#[y,hy]:=(?og).2 k hk;exact#[y,λ_=>hy]};exact#[?ao,λz=>?aI z hk]);let y:?bG:=λk=>Classical.choose ?Bn;have hy:?Pf (?Pt (?iQ=?Jm (?ju*R i c) n)):=λk=>Classical.choose_spec ?Bn;(have ybd:∀k,k<n->?Kf ?ju (?jQ*e.natAbs):=λk hk=>by apply CC (R:=R) (B:=λi _=>?ju) (t:=t) (a:=0) (i:=n) #[λj l _=>?go j l,?tJ,?DO,λl j _=>?io l j] ?eW i hi;rw[←hy k hk ?dB ?mY];have p:=?G2;by_cases z:j<r;{rw[?gi ?u5];let ?oG:=g.le k ?dB hk ?u5;exact qa5 (?L0 ((T k ?dB).natAbs<=e.natAbs)) ?rv};let ?oG:=ker j ?i hj;rw[q2];rw[q1];exact qa5 (K.le hk ?i hj) ?CB);(have rel:RB i a=?px:=by (have z:?Pt (?EC=0):=λc hc=>by have e1:?Nw (RB l a*?hJ)=?mB:=s.pt a c;(have e2:?mB=?Nw ?Go:=by (have:?mB=?KU (?Nw (?uD*?hJ)):=Ad λk hk=>by rw[hy k hk c hc,←Ax];exact ?Ou ?dL);ext co;exact ?Ou (by rw[B9]));(have e3:?EC=?Nw (RB l a*?hJ+(-1)*?Go):=?Ou ?dL);rw[e3,Cq,Ax,e1,e2];ext d);have d:=s.dual dl;(have q:?o1=RB i a-?px:=by (have:?o1=?K3 (?Nw (?nP*(R l ?la*RB i c))) n:=?Kv (by rw[←B9];exact ?Ou ?cL));ext co;rw[?aA hi λl hl ne=>by rw[Ax];have:=d l i hl hi;unfold pD at this;rw[this,?dS,qd4]];rw[Ax];have:=d i i hi hi;unfold pD at this;rw[this,?y,ql7]);(have q0:?o1=0:=?aw λc hc=>?Mj z ?la ?l);ext d);rw[rel];(have m1:?Kf ?px (n*(?jQ*?bD*?mQ)):=P9 λk hk=>by rw[qb5];exact qf6 (qa5 (ybd k hk) ?IL) (qf0 (b2 k a hk ha)));apply qc5 m1 (qc5 (qc2 _ (qf0 (qp7 (n:=n)))) ?_);rw[←qe5,←qe5,←qe5];ext sy
def D5.same{W n:Nat}{R:Mat}{t:?B}(st:D5 W n R t)[?eG](hv:In W n R v){j:Nat}(hj:j<n)(h0:∀k,k<j->?jT=0)(h1:v ?dB=?jS)(h2:∀k,j<k->k<n->0<=?jT/\?jT<R k ?g1):?Oo W (R j c):=by let#[x,hx]:=hv;(have hu:∀c,c<W->v c-R j c=?Db:=λc hc=>by (have e:?Db=?KU (x k*R k c+(-1)*(?GA*R k c)):=?Mb ?dL);rw[e,Cq,Ax,D6,?s hj,←hx c hc];ext d);(have all:?Pf (?oW=0):=λk=>by induction k using Nat.strongRecOn with| _ k ih =>intro hk;have p:=?kx k hk;have e:=hu ?g1 (?kA k hk);rw[?aA hk λi hi ne=>by rcases qg5 i k with z | z;{rw[ih i z hi,qe3]};rw[?kH i _ hi (?go k i ?l hi),qd4]]at e;(have small:(?jT-R j ?g1).natAbs<?my:=by rcases ql4 k j with z | z | z;{rw[h0 k z,?kH j _ hj (?go k j z hj)];ext d};{subst z;rw[h1];ext d};have a:=h2 k z hk;have b:=?io j k z hk;ext d);rw[e,qb5]at small;apply qh0 λne=>?_;have:1*?my<=(?oW).natAbs*?my:=?tr;ext d);intro c hc;have:=hu c hc;rw[?aw λk hk=>?Mj all k hk]at this;ext d
def OC[?Ik]{j:Nat}(h1:?fL)(h2:j<n):?Pt (R j c=?Ox j):=λc hc=>by apply(st.same ((?og).2 j h2) h2 ?ov ?_ (λk hk hn=>?_) c hc).symm;{by_cases z:k<r;{rw[?gi ?F5];exact ?Ag j _ h1 h2 ?F5};rw[(ker k ?l ?l).1];exact ?rD j _ h1 h2 (K.inc k j ?i hk h2)};{let ?kX:=?L5 ker;rw[b,a];exact ?mR};let ?kX:=ker k ?i hn;rw[b,a];exact K.red j k ?i hk hn
universe e9
universe Lat
namespace Hb
open Lat
section
variable{n w b0 D π b β D2 π2 b2 β2 C1 C2:Nat}{A:Mat}
universe e9
abbrev AO(n:Nat)(f:?AE):Bool:=(?g9).all f
def Ma{n:Nat}{f:?AE}(h:AO n f=true):∀i,i<n->?bA=true:=λi hi=>?mn h i (?fi hi)
universe Hb
namespace Lat
open Hb
def eF:∀(k:Nat) (s:?B),(∀x y,x<=k->y<=k->?rw)->∃x,x<=k/\k<=?aj| 0,s,_=>#[0,?v,?X]| ?z,s,h=>by refine qp4;intro no;(have lt:∀x,x<=?z->?aj<=k:=?MB (by rcases qg5 k ?aj with z | z;{exact ?aI #[x,hx,z] no};exact z));(let ?zW:=eF k (λx=>if ?aj=k then s ?z else ?aj) (?Kd (by by_cases h1:?aj=k;{by_cases h2:?bq=k;{exact h x y ?i ?i (?EF h2.symm)};rw[?jg,?eq]at e;have:=h ?z y ?v ?i e;ext d};by_cases h2:?bq=k;{rw[?fB,?iT]at e;have:=h x ?z ?i ?v e;ext d};ext JF)));have l1:=lt x ?i;have l2:=lt ?z ?v;by_cases h1:?aj=k;{rw[?jg]at hk;have:=h x ?z ?i ?v ?i;ext d};rw[?fB]at hk;ext d
def iH[?bl]{m:Nat}(ch:∀a b,a<=b->b<m->f a∣f b):∀(k:Nat) (s:?B),?PL ?hK| 0,_,_,_=>Int.dvd_refl _| ?z,s,h,hm=>by let#[x0,hx,hk]:=eF k s (?Kd ?D7);have hd:f k∣f (s x0):=ch _ _ hk (hm x0 ?i);have ih:=iH ch k (λx=>?I0) (?Kd (by by_cases h1:x=x0;{by_cases h2:y=x0;{ext d};rw[?jg,?eq]at e;have:=h k y ?i ?i e;ext d};by_cases h2:y=x0;{rw[?fB,?iT]at e;have:=h x k ?i ?i e;ext d};ext JF)) (?MB (by split;{exact hm k ?i};exact hm x ?i));show ?hK*f k∣ ?tP;(have e:?tP=?aE ?vB k*f (s x0):=by by_cases z:x0=k;{subst z;congr 1;exact ?vE (?MB ?Hd)};(have:=Rs (f:=?qJ) (f':=?vB) (i:=x0) (m:=k) ?i λx _ hne=>by rw[?m hne]);simp only[if_pos]at this;exact this.symm);rw[e];exact Int.mul_dvd_mul ih hd where prodN_congr' {f g:?u}:?Br| 0,_=>rfl| ?o,h=>?Ln ?vE
def c9{f g:?u}:?Br| 0,_=>rfl| ?o,h=>?Ln c9
def GH{d:Int}{g:?u}:?P6 (?Pf (d∣g k)) (d∣ ?Pk g)| 0,_=>?z2 d| ?o,h=>Int.dvd_add (GH ?wS) ?EW
abbrev Wx(U:Mat)[?bk](W:Mat)(m:Nat)(s:?B)(j:Nat):Mat:=λx y=>if x<j then W ?aj y else ?NH (U x u*f u) W y
def MH{m k:Nat}[?bl]{U W:Mat}{g:Int}[?Iv] : ∀(d j:Nat),j+d=k->∀s:?B,(?Kl j (?aj<m))->g∣ ?jo*det k ?is| 0,j,e,s,hs=>by have e':j=k:=e;subst e';by_cases h:?Pc j j ?rw;{exact Int.dvd_mul_of_dvd_left (hg s h hs)};(have:∃x y,x<j/\y<j/\?aj=?bq/\x≠y:=by refine qp4;intro no;exact h (?Kd (qp4 λne=>no ?CN)));let ?CN:=this;rw[Fy hx hy ne λc _=>by unfold Wx;rw[?s hx,?s hy,e],qd4];exact ?z2 _| d+1,j,e,s,hs=>by have hj:j<k:=O9m;(have e1:?is=B4 ?is j λc=>?NH ?DD W c:=by funext x y;unfold B4;by_cases z:x=j;{rw[?ak];unfold Wx;rw[?R,z]};rw[?ad]);rw[e1,Ze _ hj,←Ax];apply GH λu hu=>?_;(have ih:=MH (U:=U) (W:=W) hg d ?x ?i ?Ft λx hx=>by split;{exact hu};exact ?HX);(have e2:det k (B4 ?is j (W u))=?qL:=Di λx c hx hc=>by unfold B4 Wx;by_cases z:x=j;{rw[?ak,?ck];show W u c=W ?iv c;rw[?ak]};rw[?ad];by_cases z2:x<j;{rw[?s z2,?ck];show W ?aj c=W ?iv c;rw[?ad]};rw[?m z2,?R]);(have e3:?aE ?y5 ?x=?jo*f u:=by show ?aE ?y5 j*f (if j=j then u else s j)=_;rw[?y,c9 λx hx=>by rw[?m (?Je (x≠j))]]);rw[e3]at ih;rw[e2];let#[c,hc]:=ih;apply#[U j u*c,?_];(have:?jo*(?DD*?qL)=U j u*(?jo*f u*?qL):=by simp only[qd1,Int.mul_left_comm,qe8]);rw[this,hc];simp only[Int.mul_left_comm]
def Ur{n:Nat}{P PB P':Mat}(h:?Cd)(x:Nat):∀c,c<n->P' x c=?n2:=λc hc=>by (have e:?n2=?Ji (?qh*pT n PB P a c) n:=by rw[Ad λu _=>(B9 _ _ _).symm,Bs];apply ?ig;show _=?qh*?KU (?le*P k c);rw[←Ax];exact ?Mb (by rw[qd1]));rw[e,?aA hc λa ha ne=>by rw[h a c ha hc,?dS,qd4],h c c hc hc,?y,ql7]
def Dx.dvdP{n w m E:Nat}[?sj][?hZ]{k:Nat}[?sf] {g:Int} [?Iv]:g∣ ?m9:=by have mn:=h.mn;have mw:=h.mw;have key:=MH (U:=?tC) (W:=?u7) hg k 0 ?i ?ao ?zE;rw[show ?aE (λx=>f ((?ao) x)) 0=1 from rfl,qd8]at key;(have e:?HB=?m9:=by (have e1:?HB=det k λx y=>?Co:=Di λx y hx hy=>by rw[←hd x y hx hy];unfold Wx;ext fb;rw[?nl (p':=λc=>?n2) (q':=?mz) (?N1 x) (?Lq Ur y),Pp];(have in1:∀u,u<n->?KW ?lD ?mz=?uA:=λu hu=>by rw[bil_flip,Pp];(have e2:?LD ?x6 ?r1:=λv hv=>by rw[←bil_flip,?BB];ext Is);ext Ii);(have in2:?Pk (λu=>?iV*?KW ?lD ?mz)=?A3:=Ad λu hu=>by rw[?wi]);rw[in2];(have e3:?A3=?h ?yC m:=?GW);rw[e3];exact ?M4 hu);rw[e1,Vr (?Kh ?R)];exact c9 λx _=>?y);rw[e]at key;exact key
def Dx.few{n w m E k:Nat}[?sj][?hZ][?sf](hp:?Kl k (0<f' x)):k<=m:=by rcases qg5 m k with z | z;{(have:=h.dvdP hl hr (k:=?d9) (?Kh (hd x y ?i ?i)) (g:=0) λs hi hs=>by let ?zW:=?Ok m s hi;have:=?HX;ext d);have p:0<?aE f' ?d9:=?Mk ?pD;have:=Int.zero_dvd.mp ?aB;ext d};exact z
def Dx.pdvd{n w m E k:Nat}[?sj][?hZ](hc:?Ed)[?sf]:?hK∣ ?m9 :=h.dvdP hl hr hd λs hi hs=>iH (m:=m) (λa b hab hb=>by rcases qg5 a b with z | z;{exact hc a b ?i z hb};rw[show a=b by ext d];exact Int.dvd_refl _) k s hi hs
def bil_via{n n' w:Nat}{A A' U:Mat}(hU:?P7 n' (A' a b=?Jm (U a i*A i b) n))(p q:?u):bil n' w A' p q=bil n w A (λi=>?Ji (p a*U a i) n') q:=by unfold bil;(have e:∀a,a<n'->p a*?vM=?Jm (p a*U a i*?zA) n:=λa ha=>by (have e1:?vM=?Jm (U a i*?zA) n:=by rw[?LC hU,Bs];exact ?Ke (by rw[←Ax];exact ?OL ?cL));rw[e1,←Ax];exact ?Ke ((?cL).symm));rw[Ad e,Bs];exact ?Ke (by rw[←B9])
universe Lat
namespace Hb
open PySem L2
abbrev Drawn(h w b0:Nat):Prop:=(h<=7/\w<=8/\b0=4)\/(h<=4/\w<=5/\b0=22)\/(h<=2/\w<=3/\b0=69)
structure S7[?N](H:Hp)(tp nm r1 D1 D2 b2:Addr)(n w k:Nat)[?bk](l r:?eN):Prop where
 tup:?LI H tp [?w nm,?zg,?GV,?yp,?CF]
 num:?O3 nm ?I9
 left:?Kn ?zg (dT n n l.1)
 lback:?Kn ?GV (dT n n λi j=>l.2 j i)
 right:?Kn ?yp (dT w w λi j=>r.1 j i)
 rback:?Kn ?CF (dT w w r.2)
def aU.r[?aF][?JK][?cl][?JL]:?Ep:=#[x.tup,.of x.num,?rn,?sG,?nI,?rA]
def S7.same[?aF][?JK][?cl][?JO][?ff]:?Ep:=#[s.seqT x.tup,s.seq x.num,?lL s ?rn,?lL s ?sG,?lL s ?nI,?lL s ?rA]
section
variable[?N]
universe e9
structure Sta where
 T:?bG
 f:?bG
 l:?bG
 lb:?bG
 r:?bG
 rb:?bG
abbrev dot(x y:?u)(n:Nat):Int:=?KU (x k*y k)
abbrev dl(a b:Nat):Int:=?vX
structure Good(h w:Nat)(S:Sta):Prop where
 l1:∀r s,r<h->s<h->dot (S.l r) (S.lb s) h=dl r s
 l2:∀a b,a<h->b<h->?h (λk=>S.lb k a*S.l k b) h=dl a b
 r1:∀r s,r<w->s<w->dot (S.r r) (S.rb s) w=dl r s
 r2:?P7 w (?h (λk=>S.rb k a*S.r k b) w=dl a b)
 now:∀i j,i<h->j<w->S.f i j=dot (λb=>dot (S.l i) (λa=>S.T a b) h) (S.r j) w
abbrev unit:?bG:=?Em
universe Hb
namespace Lat
open Hb
def sumN_fst(g:?u):∀n,?Gb=g 0+?Hm| 0=>by show ?h g 0+g 0=_;show 0+g 0=g 0+0;(ext d)| ?o=>by show ?Gb+g ?o=g 0+(?Hm+g ?o);rw[?xl g n,qm3]
abbrev Yo(A:Mat)(j:Nat):Mat:=λr c=>A ?b5 ?te
def FH:∀(n:Nat) (A:Mat),?Oc A=?Av| 0,A=>rfl| ?o,A=>by (have e:∀i j,i<?o->j<?o->?wY=?Aq:=λi j _ _=>Di λr c _ _=>by show A (if ?b5<?p then ?b5 else ?b5+1) (?te+1)=A ((if r<i then r else ?b5)+1) (if c+1<?x then c+1 else c+1+1);congr 1;{split<;>split<;>ext d};split<;>split<;>ext d);show ?Jm (Ul i*A i 0*?Oc (Gy A i)) (?o+1)=_;rw[sumN_fst,?xl (λj=>?HO*?Oc ?qf)];have e0:?Oc (Gy A 0)=?Oc (Yo A 0):=rfl;rw[e0];congr 1;(have l:?Jm (?vY*?Oc ?Bc) ?o=?Jm (?PG (?vY*(Ul j*A 0 ?x*?wY)) ?o) ?o:=?Ke (by rw[FH n,Ax];rfl));(have r:?Ju (?E6*?Oc ?xd) ?o=?h (λj=>?Jm (?E6*(Ul i*A ?p 0*?Aq)) ?o) ?o:=?oz);rw[l,r,Bs];apply Ad λj hj=>?j3;rw[e i j hi hj,Z3,Z3];grind
def Vs:∀(n:Nat) (A:Mat),det n (λr c=>A c r)=det n A| 0,_=>rfl| ?o,A=>by rw[FH n A];apply ?j3;rw[←Vs n (Yo A i)];rfl
abbrev YT(n w:Nat)(A:Mat)(D:Nat):Prop:=∀(k:Nat) (r c:?B),?IE->(∀y,y<k->c y<w)->?O0 k (λx y=>A ?cB (c y)) D
def KO(k:Nat)(r:?B):?Hg\/?Ky (?cB=r y->x=y):=by by_cases h:?Hg;{exact ?t h};exact ?S (?Kd (qp4 λz=>h #[x,y,hx,hy,z,e]))
def UM{k:Nat}(M:Mat)(s:?B){y0:Nat}(h0:y0<k):?OG ?D8 ?Fc:=by by_cases z:y0=0;{subst z;congr 1;exact Di λx y _ _=>by by_cases q:y=0;{rw[?d7,q]};rw[?bw,?bw]};rw[←Vs k ?Fc,←Vs k ?D8];have e:=iN (A:=?cj) (?Oa 0 k) h0 ?om ?kg ?oI;(have e1:B4 (B4 ?cj 0 ?kg) y0 ?oI=?cj:=by rw[show B4 ?cj 0 ?kg=?cj from Ia ?cj 0];exact Ia ?cj y0);(have e2:B4 (B4 ?cj 0 ?oI) y0 ?kg=?uY:=by funext y x;unfold B4;by_cases q:y=y0;{rw[?d7,?R,?d7]};rw[?bw];by_cases q2:y=0;{rw[?s q2,?s q2]};rw[?m q2,?m q2,?bw]);rw[e1,e2]at e;show ?OG ?uY ?cj;rw[e,qd3]
def X9[?JV]:∀(k:Nat) (r s:?B),?IE->(∀y,y<k->?bq<?bn)->?O0 k ?yW D| 0,r,s,hr,hs=>h 0 r s hr λy hy=>O9m| ?z,r,s,hr,hs=>by rcases KO ?z r with⟨x,y,hx,hy,ne,e⟩ | inj;ext JH;by_cases z:∃y,y<?z/\w<=?bq;{let#[y0,hy,q]:=z;rw[←UM (?Ph y) s hy];(have first:∀s':?B,w<=?gl->(∀y,y<?z->s' y<?bn)->?O0 ?z ?EB D:=λs' h0 hs'=>by show(?Jm (Ul i*?aJ w A one (r i) ?gl*?GE) ?z).natAbs<=D;have ih:∀i,i<?z->?Kf ?GE D:=λi hi=>X9 h k (λx=>r (if x<i then x else x+1)) (λy=>s' (y+1)) (?MB (hr _ ?wu)) λy hy=>hs' _ ?i;(have cell:∀x,?Kt ?gl=if ?cB=?gl-w then 1 else 0:=λx=>by unfold beside one;ext fb);by_cases z:∃i,i<?z/\r i=?gl-w;{let ?Az:=z;rw[?aA hi λx hx ne=>?MP ne (inj x i hx hi (q.trans ?es))];rw[qb5,qb5,Y2,qf9,cell,?bB];show 1*_<=D;rw[qf9];exact ih i hi};rw[?aw λx hx=>?MP z #[x,hx,q]];exact ?X);exact first (λy=>?K5 0) q λy hy'=>hs _ (by split;ext d;split<;>ext d)};have e:det ?z ?yW=det ?z λx y=>A ?cB ?bq:=Di λx y _ hy=>?gi ?Cr;rw[e];exact h ?z r s hr λy hy=>?Cr
def YT.dets[?JV]:?F4:=λi hi s hs=>X9 h i (λx=>x) s ?zE hs
def few{n k:Nat}{f:?B}(h:?Kl k (f x<n))(inj:?Ky (f x=f y->x=y)):k<=n:=by rcases qg5 n k with z | z;{let#[x,h1,h2]:=?Ok n f inj;have:=h x ?i;ext d};exact z
def kI{n w B D:Nat}{A:Mat}(hA:?Kc n w (?wG<=B))(hD:∀i,i<=n->i<=w->FF i*B ^ i<=D):?E3:=λk r c hr hc=>by rcases KO k r with⟨x,y,hx,hy,ne,e⟩ | h1;ext JH;rcases KO k c with⟨x,y,hx,hy,ne,e⟩ | h2;{rw[←Vs,Fy (A:=λr' c'=>A (r c') (c r')) hx hy ne ?B2];exact ?X};exact qa5 (uM (?Kh (hA _ _ (hr x hx) (hc y hy)))) (hD k (few hr h1) (few hc h2))
structure V2(k w:Nat)(Q:Mat)(p:?B):Prop where
 zero:∀j c,?dl->j<w->c<?bc->Q j c=0
 inc:?Mz (p i<?bc)
 lt:?Mg w (?bc<w)
 pos:?Mg w (0<Q j ?bc)
 red:?Mz (0<=Q i ?bc/\Q i ?bc<Q j ?bc)
def Sl.loops{n w r:Nat}{kt:?B}{hd:?u}{T Q:Mat}(h:Sl w (n+w) n r kt hd (?aJ n T Q)):V2 r w Q λj=>?iL:=by (have at':∀i j,?fL->j<w->Q i ?iL=?aJ n T Q i ?cT:=λi j h1 h2=>by have:=?vO;rw[←?C9 n T Q i ?iL,?Je (n+?iL=?cT)]);apply#[?xV,?wx,?Eq,?Eq,?wx];{rw[←?C9 n T Q j c];exact ?gd j _ h1 h2 ?i};{have:=?M8 h.inc i j;have:=h.ge i h1 ?i;ext d};{have:=?L5 h.lt;have:=?vO;ext d};{rw[at' j j h1 h2,?L5 h.head];exact ?uc};rw[at' i j ?l h3,at' j j ?l h3,h.head j ?l h3];exact h.red i j ?i h2 h3
def V2.congr{k w:Nat}{Q Q':Mat}{p:?B}(h:?q9)(e:∀j,?dl->Q' j=Q j):V2 k w Q' p :=#[λj c h1 h2 h3=>by rw[e j h1];exact ?M8 ?gd j c,h.inc,h.lt,λj h1 h2=>by rw[e j h1];exact ?uc,λi j h1 h2 h3=>by rw[e i h1,e j ?l];exact ?M8 h.red i j]
universe Lat
namespace Hb
open Lat
structure NO(n w b0 D π b β D2 π2 b2 β2 C1 C2 F:Nat):Prop where
 dπ:D<=?bD
 nb:n*D<=?bX
 wb:w*D<=?bX
 b0π:b0<=π
 πb:π<=b
 bβ:b<β
 nβ:n+b0<β
 st:∀i,i<n->?Eg
 π9:?D9
 d2:∀i,i<=n->i<=w->?pk<=D2
 dπ2:D2<=?gG
 wb2:w*D2<=?rT
 bπ2:b<=π2
 πb2:π2<=b2
 bβ2:b2<β2
 wβ2:w+b<β2
 st2:∀i,i<w->?BU
 π92:?w9
 c1:?Oi π n C1
 c2:?Oi π2 w C2
 f1:?MK F
 f2:?MC F
 fb:F<=yO
section
variable{n w b0 D π b β D2 π2 b2 β2 C1 C2 F:Nat}{A:Mat}
abbrev UF[?JT](m:Nat)(M:Mat)(l r:?di):Prop:=∃(k:Nat) (e:Int) (kl kr:?B) (hl hr:?u),Ui n w k D π m e A M l.1 l.2 r.1 r.2 kl kr hl hr/\m<=?c7/\e<=D/\(?Mg n (hl j<=?bD))/\(?Mg w (hr j<=?gG)) ∧ ?aL n n ?h0 l.1/\?aL n n ?h0 l.2/\?aL w w ?ex r.1/\?aL w w ?ex r.2/\?l3/\?qy/\?rX
def Ao8[?In]:Uj n w A ?xm ?xm (λM l r=>∃m,?Fj):=by have o0:∀b i j,?Ch<=?bX:=λb i j=>qa5 (Ah7 i j) qm1;have hM:=DN (W:=n) hA λi c _ _=>o0 b0 i c;apply#[JF n w ?Cx,X3 hM dets ?f2 p.nb p.b0π ?vf p.bβ p.nβ p.st ?kk (Vo n w A),?w5,JF.lt,λt1 s1 h1=>?_];have hR:?Kc w n (((?B5) i c:Int).natAbs<=?bX):=λi c hi hc=>qa5 (h1.rowD dets ?v ?xc hc (?Je (i<?bn))) p.nb;have hM2:=DN (W:=w) hR λi c _ _=>o0 b i c;have nA:P5 w (λc=>c<n+w) (?aJ n (tr s1.1) one) D2:=(kI hR λi h1 h2=>p.d2 i h2 h1).dets;apply#[JF w n (?aJ n ?B5 one),X3 hM2 nA p.dπ2 p.wb2 p.bπ2 ?uM p.bβ2 p.wβ2 p.st2 p.π92 (Vo w n _),?w5,JF.lt,λt2 s2 h2=>?_];have bb1:=Ud hM dets ?xB h1 ?v p.nb ?vf p.bβ p.nβ;have bb2:=Ud hM2 nA ?xB h2 ?v p.wb2 ?uM p.bβ2 p.wβ2;let#[k,e,kn,kw,he,wk,hl,hr]:=JH (L:=π) dets nA h1 h2;(have up:∀{x:Int}{a q:Nat},x<=a->a<=2 ^ q->x<=2 ^ q:=λ{x a q} h1 h2=>by exact qw1 h1 (by exact_mod_cast h2));have km:k*?cz<=?c7:=?tr;exact#[k*?cz,k,e,_,_,_,_,wk,km,he,λj _ h=>up (hl j h) ?f2,λj _ h=>up (hr j h) p.dπ2,Mw (X8 bb1.1) ?iC,Mw bb1.2.1 ?iC,Mw (X8 bb2.1) ?iC,Mw bb2.2.1 ?iC,(Nr.one n).go h1.good.pt,(Nr.one w).go h2.good.pt,λj c _ hj hc=>qa5 (h2.rowD nA ?v ?xc hj (?Je (n+c<n+w))) p.wb2]
set_option tactic.hygienic true in def Ak6(p:?Et){m:Nat}{M:Mat}{l r:?di}(h:?Fj)(ns:¬Straight n w M):Uj n w M l r (λM' l' r'=>∃m',m'<m/\UF n w D π β π2 β2 b2 A m' M' l' r'):=by let#[k,e,kl,kr,hl,hr,wk,hm,he,ηl,ηr,q1,q2,q3,q4,v1,v2,sp]:=h;let#[lg,le]:=Ak4 he ?f2 ?cc;have rn:=wk.going.sq.rn;have rw':=wk.going.sq.rw;have c1:=p.c1 k rn rw';have c2:=p.c2 k rn rw';have f1:=p.f1;have f2:=p.f2;have fb:=p.fb;(have hbF:yO<=big:=?H);(have sC:∀C,?fD*C+C<=?fQ*C:=λC=>by rw[qg2,qf9];exact qs1 ?DM _);have s1:=sC ?cA;have s2:=sC ?dP;have b1:?h0+Nv π b π k n<=big:=O9m;have VX:?ex+Nv π b π2 k w<=big:=O9m;(have β1:?eH<=?h0:=by have:=p.πb;have:=p.bβ;ext d);(have β1':π2+1<=?ex:=by have:=p.πb2;have:=p.bβ2;ext d);(have tb:∀{n' w':Nat}{T:Mat}{x:Nat},?eH<=x->F3 n' w' k D e T->?Kc n' w' (?hG<2 ^ x):=λ{n' w' T x} hx g i c hi hc=>by let#[g1,g2]:=g.le i c hi hc;have:?hG<=?bD:=O9m;exact qc5 ?aB ?hv);have bl:=X7 (tb β1 ?fu) q1;apply#[JL n w k (?aJ w M l.1) l.2 kl hl π b π ?h0,Xx ?fu ?cc ?iF wk.dl ηl β1 b1 ?f2 le p.nb p.πb ?kk ?kk,λt=>?t #[?X,?vy,wk.kl.bits ηl bl q2 β1],JL.lt,λt1 u1 j1=>?_];let#[#[G1,K1],_,_]:=JL.done rn j1 c1;let#[d1,d2,d3,d4]:=Pd ?cc ?fu ?iF K1 wk.told;have z1:=cA (G:=G1) ?cc le ?fu d2 ?iF d3 ?Dr q1;have z2:=Zo ?cc le ?fu ?iF ?Dr K1.st.st (?Mh K1.tab j hj) (?N0 K1.ker) wk.dl q2;have ker:Sl w (n+w) n k kr hr ?p5:=wk.kr.table λi c h1 h2 h3=>?M8 d2.sq.row0 i c;have dr:F0 w n ?p5 r.2:=Hx wk.dr;(have hπ2:?eH<=?ex:=by have:=p.πb;have:=p.bπ2;ext d);have br:=X7 (tb hπ2 d2) q3;apply#[JL w n k ?p5 r.2 kr hr π b π2 ?ex,Xx d2 ?cc ker dr ηr β1' VX ?f2 le p.wb p.πb ?kk p.π92,λt=>?t #[?X,?vy,ker.bits ηr br q4 β1'],JL.lt,λt2 u2 j2=>?_];let#[#[G2,K2],_,_]:=JL.done rw' j2 c2;let#[_,nx]:=wk.next lg K1 K2;let#[m0,wk']:=nx ns;have k2:∀x c,x<w->c<n->tr u1.1 x c=bil w n ?Hk ?n8 ((?HN) c):=λx c hx hc=>V8 (T:=u1.1) (P:=?HN) d4 x c hx hc;let#[h1,h2,h3,h4]:=Pd ?cc d2 ker K2 k2;have y1:=cA (G:=G2) ?cc le d2 h2 ker h3 ?sV q3;have y2:=Zo ?cc le d2 ker ?sV ?xe (?Mh K2.tab j hj) ?vS dr q4;(have en:∀C,?CP*C=?fD*C+C:=λC=>by rw[show ?CP=?fD+1 by first|exact zn5 ‹_› ‹_›|ext d,qg2,qf9]);apply#[m-1,?i,k,e,kl,kr,hl,hr,wk',?i,he,ηl,ηr,?_,?_,?_,?_,v1.go K1.st.good.pt,v2.go K2.st.good.pt,?xV];{rw[en,←qs3];exact z1};{rw[en,←qs3];exact z2};{rw[en,←qs3];exact y1};{rw[en,←qs3];exact y2};show(u2.1 j (n+c)).natAbs<=_;rw[OC d2 ker ?sV ?xe (λj hj=>K2.tab j hj ?l) ?vS h1 h2 (n+c) ?l,beside_hi];exact ?M8 sp j c
abbrev YF[?JT](k d:Nat)[?bk](l r:?di):Prop:=?EY/\d<=5*k+k*k/\BB n n ?oR 0 (β+?c7*?cA+d*?eb) l/\BB w w ?oR 0 (β2+?c7*?dP+d*?cz) r/\?l3/\?qy/\?Ev/\?rX
structure Ar4(n w D F b2:Nat)(A:Mat)(k:Nat)[?bk](l r:?di):Prop where
 dg:?EY
 il:?l3
 ir:?qy
 bl:?aL n n F l.1/\?aL n n F l.2
 br:?aL w w F r.1/\?aL w w F r.2
 lo:?Ev
 sp:?rX
def A25[?In]:AU n w A (Ar4 n w D F b2 A):=by apply#[?M6 UF,?M6 YF,Ao8 p hA dets,λm M l r h ns=>Ak6 p h ns,?_,?_,?_];{rintro m M l r ⟨k,e,kl,kr,hl,hr,wk,hm,he,ηl,ηr,q1,q2,q3,q4,v1,v2,sp⟩ hS;have dg:=wk.diag hS;have sC:∀C,?fD*C<=?c7*C:=λC=>?DM;have s1:=sC ?cA;have s2:=sC ?dP;apply#[k,?mA,sS ?jt _ ?EG λx h1 h2=>dg.zero x h1 ?i ?i,dg.mn,dg.mw,dg,?X,#[Mw q1 ?i,Mw q2 ?i,?Bx],#[Mw q3 ?i,Mw q4 ?i,?Bx],v1,v2,#[_,wk.kr.loops],sp]};{rintro k d i j f l r ⟨dg,hd,bl,br,v1,v2,⟨pl,lo⟩,sp⟩ hdk hij hj;have mn:=dg.mn;have mw:=dg.mw;(have lf:?Kl k ((f x).natAbs<=?bD):=?MB (by have h1:=dg.le hx;have h2:=?jt x hx;exact qa5 ?i ?f2));(have kk:5*k+k*k<=?xs:=by have h:k<=?bt:=O9m;have:=qf6 h h;ext d);have f1:=p.f1;have f2:=p.f2;have fb:=p.fb;(have hbF:yO<=big:=?H);(have dm:∀X,d*X+X<=?dq*X:=λX=>by have:=qc2 X (?Je (d+1<=?dq));rw[qg2,qf9]at this;exact this);have d1:=dm ?eb;have d2:=dm ?cz;have cm:?tK:=?tW;have e1:=cm ?cA;have e2:=cm ?dP;have b1:BB n n ?oR 0 (β+?c7*?cA+d*?eb+(1+1)) (addS i j 1 l):=bl.add ?i ?i (k:=1) (c:=1) ?H;have lt1:∀{x:Nat},x<=?bD->x<2 ^ ?eH:=λh=>qc5 h ?hv;apply#[#[#[?y7,ZL ?hz ?tg],#[by have:=?jt j hj;ext d,ZL ?fm ?tg],#[BB.bo bl ?i,BB.bo b1 ?i],BB.bo br ?i],λuD=>#[dg,?i,bl.mono ?yv,br.mono ?yv,v1,v2,#[pl,lo],sp],λg a b' sh=>#[?_,?i,?_,?_,?_,?_,#[pl,lo.congr ?wI],λx c h1 h2 h3=>?_]];{have:=dg.share hij hj sh;unfold shL wL shF addS blendS;simp only[qp8];exact this};{(have lb:?M0 ?Ct (2 ^ ?G7):=by apply qc5 ?oh ?_;rw[qb5];apply qc5 (qf6 ?Dz ?fm) ?_;rw[←qe5];ext sy);have VX:=b1.add (p:=j) (q:=i) ?i ?i (k:=-?Ct) (c:=?G7) (by rw[qd3];exact lb);apply VX.mono ?_;rw[qg2,qf9];ext d};{have:=br.blend (p:=i) (q:=j) ?i ?i ?i (x:=a) (y:=b') (z:=-(f j / g)) (u:=?bA / g) (c:=?eH) (lt1 (qa5 sh.la ?fm)) (lt1 ?Dz) (lt1 (by rw[qd3];exact qa5 ?oh ?fm)) (lt1 (qa5 ?oh ?hz));apply this.mono ?_;rw[qg2,qf9];ext d};{intro x y hx hy;rw[←v1 x y hx hy];exact(JX _ _ ?Ee ?uO ?i _ x y).trans (JX _ _ ?uO ?Ee ?i _ x y)};{intro x y hx hy;rw[←v2 x y hx hy];exact HE _ _ (?Lf i) (?Lf j) ?i (sh.blend (π:=π) ?y7 ?hz ?fm).one x y};{exact ?zD};have e:(wL i j g a b' f r).1 x=?n8:=?zD;rw[e];exact ?M8 sp x c};rintro k d f l r ⟨dg,hd,bl,br,v1,v2,lo,sp⟩;(have h:k<=?bt:=?EG);have kk:=qf6 h h;have f1:=p.f1;have f2:=p.f2;have dm:∀X,d*X<=?dq*X:=λX=>qc2 X ?i;have cm:?tK:=?tW;have d1:=dm ?eb;have d2:=dm ?cz;have e1:=cm ?cA;have e2:=cm ?dP;exact#[dg,v1,v2,#[(bl.mono ?kW).1,(bl.mono ?kW).2.1],#[(br.mono ?kW).1,(br.mono ?kW).2.1],lo,sp]
universe e9
universe Hb
namespace Lat
open Hb
abbrev mulV(w:Nat)(A:Mat)(x:?u):?u:=λi=>?Ju (A i j*x j) w
def AL(n w:Nat)(A:Mat)(p x:?u):?KW p x=?Ji (p a*?ah w A x a) n:=rfl
def uT{w:Nat}{Q QB:Mat}(h:?tA)(x:?u):∀c,c<w->x c=?h (λy=>?O7 x y y) w:=Ur (P':=λ_=>x) h 0
abbrev numAt[?bk](k i:Nat):Int:=if i<k then ?bA else 0
section
variable[?JZ][?bl]
universe e9
universe Lat
namespace Hb
open PySem L2
section
variable[?N]
universe e9
section
variable[?N]
universe e9
universe Hb
namespace Lat
open Hb
section
variable[?JZ][?bl]
def lU[?eF](hl:?CW)(hu:∀x,x<n->?tV=0):∀a,a<n->u a=0:=λb hb=>by (have e:?BO=u b:=by (have:?BO=?Pk (λx=>?Ji (u a*(PB x b*P x a)) n):=Ad λx _=>?vl);ext co;rw[?aA hb λa ha ne=>by rw[Ax];have:=hl b a hb ha;unfold pT at this;rw[this,?m λq=>ne ?jW,qd4]];rw[Ax];have:=hl b b hb hb;unfold pT at this;rw[this,?y,ql7]);rw[←e];exact ?Li hu
def Dx.spare(h:?uT)(hl:?CW){y:Nat}(h1:k<=y)(h2:y<w):?Kl n (?ah w A (Q y) x=0) :=lU hl λx hx=>by have:=?g6 x y hx h2;rw[AL]at this;rw[this];by_cases z:x=y;{rw[?ak,z];exact ?gd y h1 ?i h2};rw[?ad]
def Dx.madeS(h:?uT)(hr:?pb)[?eG](hv:?Kl n (?ah w A v x=0)):?Oo w (?h ?ve ?g2):=λc hc=>by have mw:=h.mw;have mn:=h.mn;(have z:∀y,y<k->?mC=0:=λy hy=>by (have e1:?Gc=0:=by rw[AL];exact ?Li hv);(have e2:?Gc=f y*?mC:=by rw[?nl (p':=P y) (q':=λc=>?h (λu=>?O7 v u u) w) ?ap (?Lq uT v),bil_flip,Pp];rw[?aA (?Lf y) λu hu ne=>by rw[←bil_flip,?g6 y u ?l hu,?m λq=>ne ?jW,qd4]];rw[←bil_flip,?g6 y y ?l ?l,?y,qe8]);rw[e2]at e1;have p:=?eR y hy;rcases qs8.mp e1 with q | q;{ext d};exact q);rw[uT hr v c hc];(have sp:∀d,?iH<=w->?zw=?h ?ve d:=λd=>by induction d with| zero=>intro _;exact ?aw λy hy=>?Mj z y hy| succ d ih =>intro hd;have i1:=?hL;show ?zw+?O7 v ?iH ?iH=_;rw[i1];rfl);have:=sp ?g2 ?i;rw[?Je (k+?g2=w)]at this;exact this
universe e9
section
variable{n w m i:Nat}{d v:?u}{A:Mat}
universe e9
universe Lat
namespace Hb
open Lat
abbrev SO(n w b0 π b β π2 b2 β2 C1 C2 F:Nat):Bool :=(?q (n*?bD<=?bX/\w*?bD<=?bX/\b0<=π/\π<=b/\b<β/\n+b0<β)&&(?Mw n ?Eg&&(?q ?D9 && (?Mw ?DJ (?pk<=?gG)&&(?q (w*?gG<=?rT/\b<=π2/\π2<=b2/\b2<β2/\w+b<β2)&&(?Mw w ?BU&&(?q ?w9 && (AO ?DJ (λr=>?q (?Lw π n<=C1/\?Lw π2 w<=C2)) && ?q (?MK F/\?MC F/\F<=yO)))))))))
def SN{n w b0 π b β π2 b2 β2 C1 C2 F:Nat}(h:SO n w b0 π b β π2 b2 β2 C1 C2 F=true):?L8 ?bD ?gG:=by unfold SO at h;simp only[qc0,qr3]at h;let#[#[h2,h3,h4,h5,h6,h7],h8,h9,k1,#[k2,k3,k4,k5,k6],k7,k8,k9,m1,m2,m3]:=h;exact#[?v,h2,h3,h4,h5,h6,h7,?MU h8,h9,λi h1 h2=>?N9 k1 i,?v,k2,k3,k4,k5,k6,?MU k7,k8,λr hr hw=>(?N9 k9 r:_/\_).1,λr hr hw=>(?N9 k9 r:_/\_).2,m1,m2,m3]
universe Hb
namespace Lat
open Hb
abbrev OR:?B->?B| _,0=>1| B,?o=>?rE
def X5:∀{n:Nat}{A:Mat}{B:?B},(∀r c,r<n->c<n->(A r c).natAbs<=B r)->?O0 n A (FF n*?qe)| 0,A,B,_=>by show(1:Int).natAbs<=1*1;decide| ?o,A,B,h=>by rw[FH];(have e:?Kf ?Av (?PE n):=P9 λj hj=>by (have d:=X5 (n:=n) (A:=?qf) (B:=?pO) λr c hr hc=>by unfold Yo;exact h ?b5 _ ?i ?wu);rw[qb5,qb5];(have s:(Ul j).natAbs=1:=by unfold Ul;split<;>rfl);rw[s,qf9];exact qf6 (h 0 j ?i hj) d);apply qa5 e ?mq;show ?PE n=?Fo*?rE;grind
def wV(B:?B):∀n,OR (λr=>2*B r) n=?cu*?qe:=λn=>by induction n generalizing B with| zero=>rfl| succ n ih =>show 2*B 0*OR (λr=>2*B ?b5) n=?ki*?rE;rw[ih ?pO,qh8];grind
def WV{B:?B}:?P6 (∀r,r<n->0<B r) (0<?qe):=λ{n} h=>by induction n generalizing B with| zero=>exact Nat.one_pos| succ n ih=>exact Nat.mul_pos (h 0 ?i) (ih λr hr=>h ?b5 ?i)
def SD[?bl]:∀{n:Nat},(?ox).natAbs=OR (λr=>(f r).natAbs) n:=λ{n}=>by induction n generalizing f with| zero=>rfl| succ n ih =>(have e:∀m,?x3=f 0*?FN:=λm=>by induction m with| zero=>show 1*f 0=f 0*1;(ext d)| succ m im =>show ?x3*f ?d9=f 0*(?FN*f ?d9);rw[im,qd1]);rw[e n,qb5,ih];rfl
section
variable[?JU]
def V2.stair{k w:Nat}{Q:Mat}{p:?B}(h:?q9):D5 w ?g2 ?ub λi=>p ?ax :=#[?Mh h.lt ?cb ?i,?LQ h.inc,λj c hj hc=>?gd ?cb c ?i ?i hc,?Mh ?eR ?cb ?i,?LQ h.red]
def gK(st:?mN)(hB:?tL){r c:Nat}(hr:r<z)(hc:c<w):B ?eX c=?h (λk=>L k ?eX*T k c) ?b5:=by rw[hB _ _ (?kA r hr) hc];exact ?fs ?i λk h1 h2=>by rw[?kH k _ h2 (?go r k ?l h2),qe3]
def LL[?sW]{i c:Nat}(hi:i<z)(hc:c<w):?hG<=?jQ*2:=by apply CC (R:=L) (B:=T) (t:=p) (a:=c) (i:=z) #[λj k _=>?go j k,?tJ,?DO,λk j _=>?io k j] ?eW i hi;rw[show ?h (λk=>T k c*L k ?bc) z=B ?bc c by rw[hB _ _ ?mY hc];exact ?Mb ?gu];have:=?G2;exact qa5 (b2 _ _ ?mY hc) ?rv
def qR[?sW]:∀i,i<=z->∀s:?B,(∀l,l<i->?fG<w+z)->?O0 i ?EM ?u9:=λi hi s hs=>by let Z:Mat:=?EM;let V:Mat:=λr l=>?GB;have e:det i V=?aE (λj=>L j ?bc) i*?B6:=DS (T:=λr j=>?m2) (λr c _ _=>rfl) i ?v;(have e2:?B6=det i Z:=Di λr c hr _=>by show(if r<i then Z r c else V r c)=Z r c;rw[?s hr]);rw[e2]at e;(have vle:∀r l,r<i->l<i->?Kf ?iS (2*?s3):=λr l hr hl=>by have pr:=?uz;by_cases c1:?fG<w;{(have:?iS=B ?eX ?fG:=by rw[gK st hB ?l c1];exact ?Ko (by show ?m2*?AC=_;rw[?gi c1]));rw[this];exact qa5 (b2 _ _ (?kA r ?i) c1) ?i};(have zv:∀j,Z j l=if j=?fT then 1 else 0:=λj=>by show ?AC=_;unfold beside;rw[?m c1];rfl);by_cases c2:?fT<?b5;{(have:?iS=L ?fT ?eX:=by show ?GB=_;rw[?aA c2 λj _ ne=>by rw[zv,?dS,qd4],zv,?y,ql7]);rw[this];rcases qg5 ?fT r with q | q;{let ?lI:=?io ?fT r q ?i;ext d};rw[?Je (?fT=r)];ext d};(have:?iS=0:=?aw λj hj=>by rw[zv,?R,qd4]);rw[this];exact ?X);have big:=X5 (B:=λr=>2*?s3) vle;rw[e,qb5,SD,wV]at big;(have pos:0<?IF:=WV λr hr=>by have:=?uz;ext d);apply qt7 (c:=?IF) ?_ pos;apply qa5 big ?mq;grind
universe e9
structure Lev(q m z:Nat)(D L G:Mat):Prop where
 st:∃p,?mN
 du:∀i j,i<z->?Oj z G L
 cyc:∀i,i<z->?KS (L i)
 all:∀v:?u,(?KS v)->?Oo m (?h (λi=>?Ji (?dh*v a) m*L i c) z)
abbrev gT(m:Nat)(G B:Mat):Mat:=λi c=>?y0
section
variable{q m z w:Nat}{D L G B:Mat}
def Lev.first(m:Nat)(D:Mat):Lev 0 m m D one one:=by (have d:∀i j,i<m->?Oj m one one:=λi j hi hj=>by ext Iq;by_cases z:i=j;{rw[?ak,?s ?c3]};rw[?ad,?m λy=>z y.symm]);apply#[#[λi=>i,λj hj=>hj,λj k h _=>h,λj c _ hc=>?m ?i,λj _=>by show 0<one j j;ext av;rw[?y];decide,λk j hk _=>?_],d,λi _ x hx=>O9m,λv _ c hc=>?_];{show 0<=one k j/\one k j<one j j;unfold one;rw[?R,?y];decide};rw[?aA hc λi hi ne=>by show _*one i c=0;ext av;rw[?dS,qd4]];show v c=?Ji (one c a*v a) m*one c c;rw[?aA hc λa _ ne=>?HG];ext av;rw[?y,qd8,ql7]
def Lev.told[?se]:∀a c,a<m->c<w->?dw=?Jm (?gz*?Pi i) z:=λa c ha hc=>by rw[h.all ?CY (tw c hc) a ha];exact ?Ke ?gu
def Ao2(m w:Nat)(G B:Mat)[?hn](i:Nat):?nm=?Ji (?dh*?ah w B v a) m:=by (have e1:?nm=?h (λc=>?Ji (?dh*?dw*v c) m) w:=?Kv (by show ?y0*v c=_;rw[←B9]));rw[e1,Bs];exact Ad λa _=>by show ?K3 (?dh*?dw*v c) w=?dh*?K3 (?dw*v c) w;ext sl
def Lev.next{E k:Nat}[?bl]{P PB Q QB:Mat}{p:?B}[?se][?si](il:?mX)(ir:?pb)(lo:?q9) : Lev m w ?g2 B ?ub λi=>QB ?ax:=by have tl:=?ih tw;have mw:=dg.mw;apply#[#[_,lo.stair],λi j hi hj=>?_,λi hi x hx=>?_,λv hv c hc=>?_];{have:=dg.dr ?cb ?ax ?i ?i;unfold pD at this;rw[show ?K3 (?wk*Q ?cb c) w=?K3 (Q ?cb (0+c)*?wk) w from ?Kv (by rw[qt4,qe8]),this];by_cases z:i=j;{rw[?ak,?ck]};rw[?ad,?R]};{have t0:=dg.spare il (y:=?ax) ?i ?i;(have e:?Bs=?Ji (L a x*?Ow ?oE a) z:=by (have e1:?Bs=?h (λc=>?Ji (L a x*?uP*?pZ) z) w:=?LZ x hx);rw[e1,Bs];exact Ad λa _=>?Pm (L a x) ?uP ?pZ);rw[e];exact ?Lj t0};(have t0:∀i,i<z->?nm=0:=λi _=>by rw[Ao2];exact ?Lj hv);rw[dg.madeS ir t0 c hc];exact Ad λi _=>by rw[show ?wq=?Ji (?Dk*v a) w from ?KB ?gu]
universe e9
section
variable[?JP][?bl]
abbrev turnL(z:Nat)(P L:Mat):Mat:=λi c=>?FX
def RM(z m:Nat)(D P L:Mat)(i x:Nat):?HF=?Ju (?dQ*?ah m D (L j) x) z:=by (have e:?HF=?h (λc=>?Ju (?dQ*(D x c*L j c)) z) m:=Ad λc _=>by show D x c*?FX=_;rw[←Ax];exact ?Ko ?dL);rw[e,Bs];exact ?oz
def Lev.round(h:?p2)(i:Nat):?KS (?df z PB L i):=?MB (by rw[RM];exact ?aw λj hj=>by rw[h.cyc j hj x hx,qd4])
def Lev.gauge(h:?p2)(dl:F0 z 0 P PB){i j:Nat}(hi:i<z)(hj:j<z):?nc=?i0:=by (have e1:?nc=?Ji (?lh*?jh) z:=by (have:?nc=?h (λc=>?Ji (?lh*?A7) z) m:=Ad λc _=>by show ?Ji (?lh*?d4) z*?o5=_;rw[←B9];exact ?KB ?cL);ext co;exact ?KB ?hQ);(have e2:∀a,a<z->?jh=PB j a:=λa ha=>by (have:?jh=?Oe (?pi*?K3 ?uq m):=by (have:?jh=?K3 (?Oe (?pi*?uq)) m:=Ad λc _=>by show ?d4*?KE (?pi*L b c) z=_;rw[←Ax];exact ?rr);ext co;exact ?OL ?hQ);rw[this,?aA ha λb hb ne=>by rw[h.du a b ha hb,?gx,qd4],h.du a a ha ha,?y,ql7]);rw[e1,?MQ e2];have:=dl i j hi hj;ext J9
def Lev.filling[?se][?si](il:?mX){i:Nat}(hi:i<k):∀a,a<m->?nO=?bA*?df z PB L i a:=λa ha=>by have mn:=dg.mn;have mw:=dg.mw;have tl:=?ih tw;(have tq:?Kl z (?Ow ?p1 x=?bA*PB i x):=λx hx=>by (have e:∀y,y<z->?ES=0:=λy hy=>by (have e1:?ES=?KE (P y b*?nn+-?bA*?FV) z:=?rr);(have e2:?KE ?FV z=if y=i then 1 else 0:=by have:=dg.dl y i hy ?i;ext J9);rw[e1,Cq,Ax,e2,←AL,dg.diag y i hy ?l];by_cases q:y=i;{rw[?d7,?d7,q];ext d};rw[?bw,?bw];ext d);have:=lU (u:=λb=>?E7) il e x hx;show _=_;ext d);(have e1:?nO=?KE (L b a*?nn) z:=by (have:?nO=?K3 (?Oe (L b a*?Ez*Q i c)) w:=?LZ a ha);ext co;exact ?OL (?Pm (L b a) ?Ez (Q i c)));rw[e1];show _=?bA*?Ju (PB i j*L j a) z;rw[←Ax];exact Ad λb hb=>by rw[tq b hb];grind
universe e9
universe Lat
namespace Hb
open Lat
abbrev kB(n:Nat):Nat:=?xn ?qD+1
abbrev TL(f:?B):?B| 0=>f 0| ?o=>max (f ?o) (TL f n)
abbrev kP(b i:Nat):Nat:=max b (?xn ?pk+1)
abbrev kS(n w:Nat):Nat:=?s7+6
abbrev bookF:Nat:=26500000
abbrev Bc8(n w:Nat):Bool:=SO n w ?o ?et ?jP (?et+n+8) ?s7 ?HU (?HU+w+2) (?M2 ?et n) (?M2 ?s7 w) ?b1
def yN:(AO 41 λn=>AO (41-n) λw=>Bc8 n w)=true:=?D
def Ao9:∀{i n:Nat},i<=n->?u9<=?qD:=λ{i n} h=>by induction n with| zero=>rw[?Le i];exact ?v| succ n ih =>by_cases e:i=?o;{rw[e];exact ?v};apply qa5 ?hL ?_;show ?qD<=?Fo*?ki;exact qf6 ?CB ?iP
def qQ[?JU][?sW](h:z+w<=40):AU z w T (Ar4 z w ?Gs ?b1 (kS z w) T):=by have P:=SN (Ma (Ma yN z ?i) w ?i);apply A25 P (?LG ?_) λi hi s hs=>?_;{apply qa5 (LL st hB b2 hi hc) ?_;rw[←qh8];exact ?iP};apply qa5 (qR st hB b2 i hi s hs) (qa5 (Ao9 hi) ?_);exact qf0 Nat.lt_log2_self
universe Hb
namespace Hb
open PySem L2
noncomputable abbrev Ms:=?ae ?an
abbrev nd(ms:Ms):Prop:=(?aa (·.1)).Nodup
abbrev nz(ms:Ms):Prop:=∀p∈ms,?GN
abbrev Jk(ms:Ms)(k n:Int):Ms:=if ?ef=0 then ?cx else ?fR ms k ?ef
abbrev Ep(ms ns:Ms):Ms:=ns.foldl (λacc p=>Jk acc ?r p.2) ms
abbrev Hl(n:Int)(ms:Ms):Ms:=if n=0 then [] else ?pE
abbrev E5(ms:Ms):Ms:=?NP ms.filter ?GN
abbrev wI(ns ms:Ms):Int:=(?iU λp=>p.2*?n4).sum
def Rv[?lv](h:?hN=?ft):?k7∈ms:=by induction ms with| nil=>simp[Cr]at h| cons p ms ih =>rw[D7]at h;by_cases e:?bs;{rw[?bB]at h;(have:p=?k7:=by cases p;simp_all);rw[this];exact ?aT};rw[?bN]at h;exact ?PB (ih h)
def PC[?lx](h:k ∉ ?aa (·.1)):?wl:=by cases e:?hN with| none=>rfl| some v=>exact ?aI (qk1 (f:=(·.1)) (Rv e)) h
def F9[?au][?ly](hp:p∈ms):Cr ms ?r=?j p.2:=by induction ms with| nil=>cases hp| cons q ms ih =>rw[D7];ext fY;rcases qe4.mp hp with rfl | hp;{rw[?y]};have:¬q.1=?r:=λz=>h.1 (by rw[z];exact qk1 (f:=(·.1)) hp);rw[?sE];exact ih h.2 hp
def Fj[?lx](h:k ∉ ?aa (·.1)):?aH=0:=by unfold Av;rw[PC h];rfl
def C8(p:?an)(ms:Ms)(k:Int):?Ml ?bm=if ?bs then p.2 else ?aH:=by unfold Av;rw[D7];split<;>rfl
def tQ:∀(l1 l2:?n),l1.Nodup->(∀x∈l1,x∈l2)->l1.length<=l2.length| [],l2,_,_=>?X| x::l1,l2,h,hs=>by rw[qg6]at h;have hx:=hs x ?aT;(have:=tQ l1 (l2.erase x) h.2 λy hy=>by have ne:y≠x:=λz=>h.1 (z▸hy);exact(List.mem_erase_of_ne ne).mpr (hs y (?PB hy)));have e:=List.length_erase_of_mem hx;have:0<l2.length:=List.length_pos_of_mem hx;rw[qd5];ext d
def xR[?au](k:Int):nd ?cx:=by unfold nd Ix at *;exact ?yK
def xN[?lu](k:Int):nz ?cx:=?MT (h p ?s0)
def Zi[?lx]:?vZ↔k∈?aa (·.1):=by rw[qm0,qc7];constructor;{rintro ⟨p,hp,e⟩;exact ?zn};rintro ⟨p,hp,e⟩;exact ?zn
set_option tactic.hygienic true in def kG[?au](k v:Int):nd ?br:=by unfold nd putI at *;split;{rw[qi8];(have e:((λp:?an=>?r) ∘ λp:?an=>?Fi)=(·.1):=by funext p;simp only[Function.comp];split<;>rfl);rw[e];exact h};rename_i hn;rw[Zi]at hn;rw[qb0,qu2];apply#[h,?ai,λa ha b hb e=>?_];(have:b=k:=by simpa using hb);exact hn (by rw[←this,←e];exact ha)
def MQ[?lv][?ly](hp:p∈?br):p∈ms\/p=?k7:=by unfold putI at hp;split at hp;{let ?IS:=?c5;by_cases z:q.1=k;{rw[?ak]at e;right;rw[←e,z]};rw[?ad]at e;left;rw[←e];exact hq};ext su;{exact ?t h};exact ?S ?kM
def mR(ms:Ms)(k v:Int):?KP ?br ?v7:=by unfold putI;split;{rw[qa3];ext d};rw[qb7];simp
def TQ(ms:Ms)(k:Int):?KP ?cx ms.length:=qf2 ..
def Ai0[?lu]{k v:Int}(hv:v≠0):nz ?br:=?MT (by rcases MQ hp with q | q;{exact h p q};rw[q];exact hv)
def kH[?au](k n:Int):nd ?dg:=by unfold Jk;split;exact xR h k;exact kG h k _
set_option tactic.hygienic true in def SS[?lu](k n:Int):nz ?dg:=by unfold Jk;split;{exact xN h k};rename_i q;exact Ai0 h q
def EU(ms:Ms)(k n:Int):?KP ?dg ?v7:=by unfold Jk;split;{have:=TQ ms k;ext d};exact mR ..
set_option tactic.hygienic true in def MW(ms:Ms)(k n j:Int):Av ?dg j=if j=k then ?hD+n else ?hD:=by unfold Jk;split;{rename_i q;unfold Av at *;rw[kL];by_cases e:j=k;{subst e;simp;ext d};simp[e]};unfold Av at *;rw[CN];by_cases e:j=k;{subst e;simp};simp[e]
def ED:∀(ns ms:Ms),?b7->nz ms->?j6->nd ?bx/\nz ?bx/\?Aw/\∀j,Av ?bx j=?hD+Av ns j| [],ms,h1,h2,_=>#[h1,h2,?uC,λj=>by simp[Ep,Av,Cr]]| p::ns,ms,h1,h2,h3=>by unfold nd at h3;rw[qd2,qg6]at h3;let#[r1,r2,r3,r4]:=ED ns ?qq (kH h1 _ _) (SS h2 _ _) h3.2;apply#[r1,r2,?_,λj=>?_];{have:=?EQ;show ?KP ?iX _;rw[qd5];ext d};show Av ?iX j=_;rw[r4,MW,C8];by_cases e:j=?r;{have:=Fj h3.1;subst e;simp[this]};have e':¬?r=j:=?Lm e;simp[e,e']
def A42[?au]:nd ?dG:=by unfold nd E5 at *;exact ?yK
def KS[?au](k:Int):?pp=?aH:=by induction ms with| nil=>rfl| cons p ms ih =>ext fY;unfold E5;rw[qj1,C8];by_cases e:p.2=0;{rw[?m ?dN];show ?pp=_;rw[ih h.2];by_cases q:?bs;{rw[?d7,e,←q,Fj h.1]};rw[?bw]};rw[?s ?dN,C8];show(if ?bs then p.2 else ?pp)=_;rw[ih h.2]
abbrev inK(ms:Ms):Prop:=∀p∈ms,?jy/\?r<40
def kE[?au](n:Int):nd ?pE:=by unfold nd at *;rw[qi8];exact h
def IF:∀(ns ms:Ms),?Aw| [],ms=>?uC| p::ns,ms=>by have h1:=IF ns ?qq;have h2:=?EQ;show ?KP ?iX _;rw[qd5];ext d
def OS{ms ns:Ms}{i:Nat}[?fc](h:ns[i]?=?c9):Ep ms ?lY=Jk (Ep ms ?rB) q.1 q.2:=by unfold Ep;rw[qo3,h,qo6];rfl
def rO[?au]{i:Nat}[?fc](hq:?l2=?c9):q.1 ∉ ?Cl (·.1):=by intro hm;let ?yb:=?iB;let ?kn:=List.mem_take_iff_getElem.mp hp;have hij:j<i:=O9m;have hi:?kj:=?iu;unfold nd List.Nodup at h;rw[ql5,qm4]at h;have:=h j i ?i hi hij;rw[?hC]at hq;have hq':=qa9 hq;exact ?aB (by rw[ej,hq',e])
def DG{ms:Ms}{i:Nat}[?fc](hq:?l2=?c9):E5 (ms.take ?p)=if ?j8 then ?lF else ?lF++[q]:=by unfold E5;rw[qo3,hq,qi9];by_cases e:?j8<;>simp[e]
def yK[?lx](h:k ∉ ?aa (·.1)):k ∉ (?dG).map (·.1):=λhm=>by let ?yb:=?iB;exact h (?iM #[p,?s0,e])
def MR(ms:Ms):?KP ?dG ms.length:=qf2 ..
section
variable{H H1:Hp}{a:Addr}[?lv]
def Zc[?t2]:?Ht:=?LE k
def Zd[?t2](h:?hN=?ft):DGet H a ?cR (?j ?ln):=?t #[?aq,?h3,rd,?g,by rw[FU,h];rfl]
def Zb(h:?dn)(hl:?yl):Ar8 H a ?cR ?ln (?P1 ?br):=by rw[←lJ];exact ?t #[?aq,?h3,h,?g,by unfold cK;rw[qa3];exact ?cZ hl,?g]
def Nn{i:Nat}{kk:Key}{x:V}(h:?Lp ?aq (kk,x)):∃p:?an,?l2=?f4/\kk=?t ?r/\x=?k p.2:=by unfold cK at h;rw[qa7]at h;cases e:?l2 with| none=>rw[e]at h;cases h| some p =>rw[e]at h;have:=qa9 h;simp only[Prod.mk.injEq]at this;exact#[p,?g,this.1.symm,this.2.symm]
def Ks:?KM ?aq ms.length:=by unfold cK;rw[qa3]
def Ad8{o:HO}(h:H a=?ci):upd H a o=H:=by funext b;by_cases e:b=a;{rw[e,Ab,h]};rw[Al e]
def aA{x:HO}[?cq](h:?PJ (upd H a x) D):?b4/\D≠a:=by
 have n:D≠a:=λz=>by rw[z,Ab]at h;cases h
 rw[Al n]at h;exact#[h,n]
def MJ{o:HO}{b:Addr}(s:?fP)(h:Rd H b o):Rd H1 b o:=by rcases h with h|⟨q,h⟩;{exact ?t ?Df};exact ?S #[q,?Df]
universe e9
def put_new[?lv](h:k ∉ ?aa (·.1)):?br=ms++[?k7]:=by unfold putI;rw[?m (λz=>h (Zi.mp z))]
abbrev OY(H:Hp)(ms:Ms)(Q:V->?aX):Prop:=?Nf ?rI
section
variable[?N]
abbrev Ro[?cn]:Sp:=?Jk (S8 λ ?c1 ?dW (k n:Int)=>Bw (?Or ?cR ?ed) ?dn ?yl (Q .non (?P1 ?dg)))
abbrev Y0[?cn]:Sp:=?Jk (S8 λ ?bb ?qZ=>G9 ?dz ?HI ?uU ?db (?OO 1000) (?P3 ?bx))
abbrev Uv[?cn]:Sp:=?Jk (Op λ ?am ?c1 ?dW=>Da (vs=[?ed,?a7]) ?dn ?db ((∀p∈ms,?c6 n p.2)) (?P3 ?hV))
abbrev GK[?cn]:Sp:=?Jk (S8 λ ?bb ?qZ=>Mb ?dz ?dn (Rd H b ?o2) (a≠b) ?db ((∀p∈ms,?c6 p.2 ?B0)) (?Nu (?k (wI ms ns))))
universe e9
universe Hb
namespace Hb
abbrev K9(t f:Int):Int:=if f=t then ?U else if f=?U then t else f
abbrev Ht(ys:LLInt)(t:Nat):LLInt:=?hx++[?gV,?jR]++ys.drop ?en
abbrev Kt(ys:LLInt)(t:Nat):LLInt:=?Cc ?wD
abbrev V5(t k:Nat):Nat:=if k=t then ?U else if k=?U then t else k
def Rm(t k:Nat):K9 ?hR ?T=(?gU:Nat):=by unfold K9 V5;by_cases a:k=t;{rw[?ck,?s a];ext d};by_cases b:k=?U;{rw[?R,?ck,?m a,?s b]};rw[?R,?R,?m a,?m b]
def wH(t k:Nat):V5 t ?gU=k:=?or
def OJ[?eA](k:Nat):?gc[k]?=?o8:=by unfold Ht V5;(have e1:?gV=ys[?U]:=?Lu ?dp);(have e0:?jR=ys[t]:=?gA);rw[e1,e0,qn0];(have lt:?KM ?hx t:=?x1);by_cases a:k<t;{rw[?eP,qg8,?s a,?R,?R]};rw[qd0 ?l,lt];by_cases b:k=t;{subst b;rw[?y,qh7];exact(?dp).symm};by_cases c:k=?U;{subst c;rw[?m b,?y,?Gx];exact(?eJ).symm};rw[?m b,?m c];rw[qd0 ?cX,qq7];congr 1;simp;ext d
def We[?eA](k:Nat):?cQ[k]?=?Mf ?o8 ?wD:=by unfold Kt;rw[qa7,OJ h]
set_option tactic.hygienic true in def GG[?t8](hs:?gY)(h:?ka)(hm:?wW):Bk ?cQ:=by intro k p' X1;rw[We h]at X1;cases e:?o8 with| none=>rw[e]at X1;cases X1| some p =>rw[e]at X1;have hp:?Es=p':=qa9 X1;subst hp;have F:=hs _ _ e;(have face:∀f∈p,∃(m:Nat) (q:?n),f=?jE/\?ol/\lev q+1=lev p/\?wL:=by intro f hf;let#[q,hq,hl]:=?mO;have f0:=?zX;let#[m,?g]:=qn5 f0;rw[qe0,qg8]at hq;split at hq;(case isFalse=>cases hq);case isTrue hlt =>apply#[m,q,?g,hq,hl,?_];(have hk:k=t->m≠t:=by rintro rfl z;subst z;refine hm;(have:V5 m m=?d9:=by simp[V5]);rw[this]at e;rw[qa1,e];exact hf);unfold V5 at hlt ⊢;(repeat' split at hlt);(all_goals repeat' split);all_goals first | (ext d) | (have:=hk (by assumption);ext d));(have look:∀(m:Nat) (q:?n),?ol->?wL->((?cQ).take k)[(K9 ?hR ?jE).toNat]?=?j (q.map ?gn):=by intro m q hq hlt;rw[Rm,qe0,qg8,?s hlt,We h,wH,hq];rfl);apply#[by simpa using F.cnt,?B3,?B3,λh3 i j f' g' q' r' hij hj hi hq' hr'=>?_];{let ?o7:=?aW hf';let#[m,q,?g,_]:=?wt;rw[Rm];ext d};{let ?o7:=?aW hf';let#[m,q,?g,hq,hl,hlt]:=?wt;apply#[_,?wd,?_];unfold lev at *;rw[qa3,qa3];exact hl};rw[qa7]at hj hi;cases ej:p[j]? with| none=>rw[ej]at hj;cases hj| some f =>cases ei:p[i]? with| none=>rw[ei]at hi;cases hi| some g =>rw[ej]at hj;rw[ei]at hi;cases hj;cases hi;let#[m,q,?g,hq,_,hlt]:=?az f ?ys;let#[n,r,?g,hr,_,Bu8]:=?az g ?Fl;rw[?wd]at hq';rw[look n r hr Bu8]at hr';cases hq';cases hr';(have below:∀(m:Nat) (q:?n),?jE∈p->?ol->(ys.take ?gU)[((m:Nat):Int).toNat]?=?c9:=by intro m q hm' hq;let#[q2,hq2,_]:=F.bel _ hm';rw[qe0]at hq2 ⊢;rw[qg8]at hq2 ⊢;split at hq2;(case isFalse=>cases hq2);case isTrue z=>rw[?ak];exact hq);have:=F.agr ?Ex i j _ _ q r hij ej ei (below m q ?ys hq) (below n r ?Fl hr);rw[qa7,qa7,this]
universe Hb
namespace Hb
open PySem L2
abbrev Pw(os:?n)(t:Nat):?n:=?ta++[?z3,?qY]++?vp
def CA[?eA]:?KM ?gc ys.length:=by unfold Ht;simp only[qb7,qb9,qh4,qd5,qi5];ext d
def Wd[?eA]:?KM ?cQ ys.length:=by unfold Kt;rw[qa3,CA h]
def OI[?JR]:?KM ?ji os.length:=by unfold Pw;simp only[qb7,qb9,qh4,qd5,qi5];ext d
inductive Cz[?a1]:?Oz LLInt ?n| refl:Cz xs xs ?B8| step {ys:LLInt}{os:?n} (t:Nat):?eg->?ka->?wW->Cz xs ?cQ ?ji
def Cz.len[?af][?eC]:?Cu/\?Og os.length:=by induction h with| refl=>exact#[?g,Rl _]| step t h1 h2 _ ih=>exact#[(Wd h2).trans ih.1,(OI ?i).trans ih.2]
def Cz.shape[?af][?eC][?b3]:?gY:=by induction h with| refl=>exact hs| step t h1 h2 h3 ih=>exact GG ih h2 h3
def Hu{α:Type}{l:?hB}{i:Nat}{d:α}:?y4∈l\/?y4=d:=by rw[qa1];by_cases h:?yT;{rw[?dp];exact ?t (qd7 h)};rw[qh9 ?l];exact ?Gq
def CJ[?t8][?ho](h:p∈?gc):p∈ys\/p=[]:=by unfold Ht at h;simp only[qj5,qe4,qj0,or_false]at h;rcases h with(h | h | h) | h;{exact ?t (ql2 h)};{subst h;exact Hu};{subst h;exact Hu};exact ?t (List.mem_of_mem_drop h)
def Cz.le4[?af][?eC][?fa]:∀y∈ys,y.length<=4:=by induction h with| refl=>exact h4| step t h1 h2 _ ih =>intro y hy;unfold Kt at hy;let ?rV:=?aW hy;rw[qa3];rcases CJ hp with q | q;{exact ih p q};subst q;exact ?X
def Wi[?W](h:?bC):?gb:=?MB (by let#[k,hk]:=qf5 hx;have:=(h k x hk).cnt;ext d)
def xV(t f:Int):(Cr ?Cp f).getD f=K9 t f:=by unfold Cr K9;rw[qm9];by_cases h1:t=f;{subst h1;simp};rw[show ?q (t=f)=false by ext a8,qm9];by_cases h2:?U=f;{subst h2;have:¬?U=t:=O9m;rw[qf8 ?g,?sE,?y];rfl};rw[show ?q (?U=f)=false by ext eE,List.find?_nil];rw[?Ov h1,?Ov h2];rfl
def yG(t:Int):Ii [] [(Sum.inl t,?AM),(?z8,?a4 t)]=cK ?Cp:=by show Nb (Nb (cK []) (Sum.inl t) ?AM) ?z8 (?a4 t)=_;rw[lJ,lJ];have:¬t=?U:=O9m;simp[putI,this]
section
variable[?aF]{H:Hp}
def Bc2{a:Addr}{ms:?ae ?an}{k:Int}[?t2]:?Ht:=?LE k
def oQ[?aV][?t8]{va vb:V}(r:?bZ K H vs ?FE)(ha:TI K H va ?jR)(hb:TI K H vb ?gV) : ?bZ K H (Ci vs ?a6 ?DQ++[vb,va]++Ci vs ?yJ ?a6) (?Cc tI):=by ext JE;unfold Ht;rw[qb0,qb0,qo4,qq5];exact((r.take t).append ((?BI hb).append (?BI ha))).append (r.drop ?en)
def PL{os:?n}{t:Nat}:Ci ?rS ?a6 ?DQ++[?a4 ?z3,?a4 ?qY]++Ci ?rS ?yJ ?a6=?Mf ?ji ?a4:=by ext JE;unfold Pw;simp
universe e9
section
variable[?N]
abbrev Mj:Sp:=λvs H Q _=>S8 λ(a l:Addr) ?rU ?aD=>Mb (?Oq (?w l)) ?b8 (?O3 l ?dk) ?qT ?fz ?gb (∀(R p o:Addr) [?fh] (ys:LLInt) (os:?n) (H':Hp),?a9->H' R=?j (?aK [?bW,?w o])->?jb->?PJ H o->?AD->H' o=?KA ?rS->?bZ K H' us ?FE->?eg->?BT)
universe e9
universe Hb
namespace L2
open PySem PySem.Spec PyProof.Rows
open AutoSeq1 (wpAny_loadPart')
set_option tactic.hygienic true in def QC(t:Addr)(vs:?p3)(n:Nat)(dd:OAddr)(sl:Ta):Meets (Builtin.«enumerate.__new__» #[[?jk,?ez],[]]) (λ_ R s=>?t9 t=?j { cls:=?fw,dict:=dd,data:=?I4,slots:=sl } ∧ R (.ok (.ret (?w ?ID))) { s with heap:=?IK }) :=.of_wp λprog w A R s h=>by let ?sF:=s;let ?oG:=h;have hsub:=sub_enumerate;have gt:Heap.IsTuple (Shared.heap ?sF) t vs:=#[_,q1,?g,n,?g];wp_walk using ?l9;apply wpAny_stack_any λst=>?wp;split;{rename_i c _ _ _ _ _;cases (c==Value.type ?dT);{wp_walk using ?l9,?oX;exact ?pJ};wp_walk using ?l9,?oX;exact ?pJ};wp_walk using ?l9,?oX;exact ?pJ
section
variable[?sr]{E:?jn}{s:Shared}
def KY[?sn]{x old:Value}{Q:?jn}[?sY](gx:?yQ)(ne:e≠j) (k:?Jz ?r5) : ?Md (Builtin.«enumerate.__next__» #[[?cC],[]]) (λfin s'=>∃r,fin=.done (.ret r)/\Q r s'):=by let ?sF:=s;ext It;apply qa8 (Kl gj gt gx λk1 gj1 w1=>?_);replace w1:?eZ j hp k1:=w1;have ge1:?L4 k1 j n:=(w1.2 e ne).trans ge;show ?Ka 3 ?qt;apply ?Mr ge1 ?qi n;show ?Ka 4 ?qt;apply ?MM ge1 ?_;show ?bJ _ _ (mkInt n>>=_) _ _ ?qt;apply qa8 (wpAny_mkInt ?_);show ?Jt (?AJ ?cC 3 (?qi ?cW)) k1;apply ?ME ge1 (λk2 ge2 w2=>?_);replace w2:?eZ e k1 k2:=w2;replace ge2:?L4 k2 j ?cW:=ge2;show ?Jt (?AJ ?cC 4 ?ch) k2;apply ?ME ge2 (λk3 ge3 w3=>?_);replace w3:?eZ e k2 k3:=w3;replace ge3:?L4 k3 j ?cW:=ge3;show ?Jt (newTuple [?yS,x]) k3;apply qa8 (wpAny_newTuple ?_);have ge4:?L4 ?CO j ?cW:=qa6 _ ge3;generalize T9:?CO=k4 at ge4;(have sz:k3.objs.size=hp.objs.size:=by rw[w3.1,w2.1,w1.1]);have le:e<hp.objs.size:=qc1 ge;(have gt4:k4.get? ?lU=?j ?xu:=by rw[←T9,←sz];exact ?mM);(have sz4:k4.objs.size=hp.objs.size+1:=by rw[←T9,qi7,sz]);(have kp4:?P0 (hp.get? b=?ci->k4.get? b=?ci):=λb o n1 n2 q=>by rw[←T9];exact qa6 _ (?ux b o n1 (?yc b o n1 (w1.extBut b o n2 q))));(have gj4:k4.IsTupleIter j t ?o:=by rw[←T9];let#[o,q,r]:=(gj1.extBut ?yc ?hH).extBut ?ux ?hH;exact#[o,qa6 _ q,r]);show ?Jt (Builtin.SmallTypes.ownedTupleIsFree ?cC) k4;rw[sz];clear T9 ge3 w3 ge2 w2 ge1 w1 gj1 sz k3 k2 k1;apply qa8 ?_;unfold Builtin.SmallTypes.ownedTupleIsFree;apply ?MM ge4 ?wp;simp only[if_true];apply qa8 (wpAny_rule ?_);apply qa8 (qi1 ge4 ?g (x:=old) ?g ?_);apply ?ME ge4 (λk5 ge5 w5=>?_);replace w5:?eZ e k4 k5:=w5;replace ge5:?bp k5 e j ?cW x:=ge5;show ?Jt (Builtin.SmallTypes.ownedTupleHandOut ?cC (?w ?lU)) k5;apply qa8 ?_;unfold Builtin.SmallTypes.ownedTupleHandOut;apply ?ME ge5 (λk6 ge6 w6=>?_);replace w6:?eZ e k5 k6:=w6;replace ge6:?NG k6:=ge6;apply qj2 ge6 ?ai λk7 ge7 w7=>?_;replace w7:?eZ e k6 k7:=w7;replace ge7:?NG k7:=ge7;apply qa8 (wpAny_letGo (qd6 #[_,?g,k k7 ge7 ?_ ?_ ?_ ?_]));{exact((gj4.extBut ?oZ ?hH).extBut ?nW ?hH).extBut ?oJ ?hH};{exact ?oJ _ _ ?mH (?nW _ _ ?mH (?oZ _ _ ?mH gt4))};{rw[w7.1,w6.1,w5.1,sz4]};exact λb o n1 n2 q=>?oJ b o n1 (?nW b o n1 (?oZ b o n1 (kp4 b o n1 n2 q)))
def Yn[?sn]{x old:Value}[?JY][?sY](gx:?yQ)(ne:e≠j) (k:?Jz (?j ?r5)):?vb:=by ext J5;exact ?KC (KY ge gj gt gx ne λh' a b c d q=>qd6 (k h' a b c d q))
def l8[?sn]{old:Value}[?JY](hn:A.handled=none)[?sY](gx:vs[n]?=none) (k:∀h',Heap.ExtBut j ?o6 h'->Q ?a6 ?B7):?vb:=by ext J5;apply ?KC ?_;ext It;apply qa8 (Qz hn gj gt gx λh' x he hx=>?_);let ?HL:=hx;exact qa8 (wpAny_isInstance (T:="StopIteration") (b:=true) ?HL isSubtype_stop (qd6 (k _ he)))
def LI{t:Addr}{vs:?p3}{Q:?jn}(gt:?Eo) (k:∀h',?NI h'->?xY ?cH t 0->h'.objs.size=?PK 2->(∀b o,?Dc)->Q (?w ?h8) ?B7) : ?Md (call ?jk [?ez]) Q:=by let#[#[c,dd,dt,sl],q,qc,n,qd]:=gt;replace qc:c=?fw:=qc;replace qd:dt=?I4:=qd;subst qc qd;apply callType_new F.called_enumerate ?H (F.typeCall_enumerate_1 _) (F.newCall_enumerate_1 _) (λobj=>F.args_object_init_2 obj _) F.entry_enumerate_new (QC t vs n dd sl) #[q,?_];have z1:?ID=?h8:=qi7 ..;show _/\_;rw[z1];(have ge:?NI ?IK:=by have:=qc4 ?nN (o:=?uJ) ?g;rw[z1]at this;exact this);exact#[?Cb,k _ ge #[_,qa6 _ ?mM,?g,?g] (by rw[qi7,z1]) λb o x=>qa6 _ (qa6 _ x)]
universe e9
abbrev IteT[?N](a:Addr):It:=IteG (SqT K) a
def JM[?hj][?aF][?eD]{x1:Nat}{tpos:Pos}(a e it:Addr)(hne:e≠it):Xi P w K ?G8 ?fn [e,it] e (λi h=>?OF ?bV i) where
 mem:=?aT
 obj:=λi h ?im=>aC h1 ?zS
 keep:=λi h h' ?im k=>#[#[old,k e ?aT _ h1],h2.at λo z=>k it (?PB ?aT) o z]
 item:=by
  ext Iu;let#[xs,x,hq,hx]:=hg;let ?xS:=?w6;let ?ug:=rv.get hx;exact Yn h1 h2 ?yG (x:=u) (by simpa using hu) hne λh' hout pP htup hsz hk=>dF (i:=i) (Y:=(IteT X.K a).yld i H) (T:=λh=>?OF ?oF ?p) hne I hf h1 ?zS ru hout htup hk (λh3 Sz he=>#[he,pP.at λo z=>(Sz.2 it hne.symm).trans z]) λhn=>#[_,x,hn,?g,?g,λys hy=>by rw[I.tuple_inj hy hq];exact hx]
 done:=by
  ext Iu;let#[xs,hq,hx]:=hg;let ?xS:=?w6;let#[f0,f1,f2,f3,f4,f5]:=hf it ?ai;have hl:=rv.length;exact l8 ?EE h1 h2 ?yG ?cX λh' eb=>#[?g,I.turned (t':=s.toks) (λb o hb z=>eb b o hb z) f0 f1 f3 f4 f5]
 self:=λ_ _ _ _ _ st h=>by
  let ?im:=st;exact qv4 h1 h
inductive NW[?N](R:It->?aX)[?hq](H1:Hp):Prop| mk:∀a,?kE->((∃xs,?x2))->(R ?fn H1)->?tM
abbrev Am1[?N](ta:TA):TI:=λσ H R=>ta σ H λvs H1=>?tM
def Xg:bootBuiltins ?dT=?j ?jk:=?D
def sI{X:Cx}[?aF][?eD]{x1:Nat}{tpos:Pos}{a:Expr}{ta:TA}{p pos:Pos}(hg:Gl X ?dT)(hm:?PJ X.mg ?dT)(ha:PA X [a] ta)[?sp](hs:?wX (starEach [a] X.env=[(false,eval a X.env)]) ?u6):PI X ?G8 (.Call (.Name ?dT p) [a] [] pos) (Am1 K ta):=by subst hK;intro Ag s σ H R I h;apply Call_ (Km I hg hm Xg (qf7 (Eh (ha pos Ag s σ H _ I h) λus s1 _z=>?_) hs ?g));let#[vs,H1,I1,r1,q1]:=_z;let#[l,e,#[xs,hq],q]:=q1;subst e;cases r1 with| cons r rr =>cases rr;cases r;let ?tU:=I1.tuple hq;apply LI (show s1.heap.IsTuple l ?pY from pl) λh' hen hit hsz hk=>?_;apply qv4 hen #[?Dg,[?Dg,s1.heap.objs.size],_,_,H1,?g,I1.kept (t':=s1.toks) hk,JM l _ _ (qv0 _),#[#[_,hen],hit],I1.fp2,q]
section
variable{g:TG}{tc:TT}{te:TE}[?cq]{Q:?aX}{τ:St}{H:Hp}
def qA[?aF][?t6]{g:TG}{tb:TS}{D:Ends}{σ:St}{H:Hp}(Pv:?ee)(h0:Pv 0 σ H)(hl:∀i σ H,i<=xs.length->?up->?Dj) (hs:∀i x σ H p,?Lp xs x->?up->?jb->g ?bW σ (?KN H p [?eO,x]) λσ2 H2=>tb { D with nx:=Pv ?p,ct:=Pv ?p,bk:=D.nx } σ2 H2) (hd:∀σ H,Pv ?b0 σ H->?Fe) : ∃W:?NC ?ee,(∃m,W 0 m σ H)/\∀i m σ H,W i m σ H → ((?fn).stop i H/\?Fe)\/((?fn).go i H/\∃N:?jA,(∀σ' H',N σ' H'->∃m',m'<m/\W ?p m' σ' H')/\∀x H',(?fn).yld i H x H'->g x σ H' λσ2 H2=>tb { D with nx:=N,ct:=N,bk:=D.nx } σ2 H2):=DA Pv h0 hl hs hd
universe e9
universe L2
namespace Hb
abbrev Ih[?fe](f:Int):?u| 0=>0| ?p=>if ?bL=f then ?vu+1-?lZ else ?vu
abbrev P1[?fe](f:Int):Int:=Ih fs f ?gW
abbrev ind(x e:Int):Int:=if x=e then 1 else 0
def xK(e:Int):P1 [] e=0:=rfl
def mO(x y e:Int):?nq=?v8:=by show(if y=e then ?zu+1-2*(?An%2) else ?zu)=_;unfold ind;split<;>split<;>simp_all
def MN(x y z e:Int):P1 [x,y,z] e=?v8+ind z e:=by show(if z=e then ?nq+1-?NK 2 else ?nq)=_;rw[mO];unfold ind;split<;>simp_all<;>ext d
def TR{l:?n}(h:l.length=2):∃a b,l=[a,b]:=by match l,h with| [a,b],_=>exact ?Ar
def tR{l:?n}(h:l.length=3):∃a b c,l=[a,b,c]:=by match l,h with| [a,b,c],_=>exact ?yF
def Bq8{l:?n}(h:l.length=4):∃a b c d,l=?C8:=by match l,h with| ?C8,_=>exact ?Bm
abbrev sg(i:Nat):Int:=?ma
def Ax7[?ar]{k:Nat}{q:?n}(hq:xs[k]?=?c9)(e:Int):?Jm (?dd*?Ol ?FW) q.length=0:=by have F:=hs k q hq;(have face:∀f∈q,∃p,?fO=p/\(?kv k)[f.toNat]?=?f4/\lev p+1=lev q/\(?MF 0\/?MF 2\/?MF 3\/?MF 4):=by intro f hf;let ?z1:=?mO;(have hp2:?qF=?f4:=by rw[qg8]at hp;split at hp;{exact hp};cases hp);exact#[p,by rw[qa1,hp2];rfl,hp,hl,(hs _ _ hp2).cnt]);rcases F.cnt with h | h | h | h;{rw[h];rfl};{let ?Ar:=TR h;let#[A,ha,_,la,ca]:=?pH;let#[B,hb,_,lb,cb]:=?oU;(have za:A=[]:=by ext sv;refine qs0;ext d);(have zb:B=[]:=by ext sw;refine qs0;ext d);subst za zb;show ?Jv e=0;rw[ha,hb,xK];simp};{let ?yF:=tR h;let ?wc:=?pH;let ?uZ:=?oU;let ?HW:=?xO;let#[a0,a1,?g]:=TR (l:=A) ?H6;let#[b0,b1,?g]:=TR (l:=B) ?GU;let#[c0,c1,?g]:=TR (l:=C) ?Ay;have G:=?uv;have e1:=?Be;have e2:=?EZ;have e3:=?ud;simp at e1 e2 e3;subst e1 e2 e3;show ?Jv e+?MD e=0;rw[ha,hb,hc,mO,mO,mO];simp[sg];ext d};let ?Bm:=Bq8 h;let ?wc:=?pH;let ?uZ:=?oU;let ?HW:=?xO;let#[D,hd,gd,ld,cd]:=?az d ?ai;let#[a0,a1,a2,?g]:=tR (l:=A) ?H6;let#[b0,b1,b2,?g]:=tR (l:=B) ?GU;let#[c0,c1,c2,?g]:=tR (l:=C) ?Ay;let#[d0,d1,d2,?g]:=tR (l:=D) (by unfold lev at ld;simp at ld;ext d);have G:=?uv;have e1:=?Be;have e2:=?EZ;have e3:=?ud;have e4:=?L3 3 d gd;have e5:=?ND 3 d gd;have e6:=G 2 3 d c _ _ ?H ?g ?g gd gc;simp at e1 e2 e3 e4 e5 e6;subst e1 e2 e3 e4 e5 e6;show ?Jv e+?MD e+sg 3*?Pj d.toNat e=0;rw[ha,hb,hc,hd,MN,MN,MN,MN];simp[sg];ext d
universe Hb
namespace Hb
open PySem L2
abbrev GS(n:Int)(i:Nat):Int:=if ?iN=0 then n else -n
abbrev Hy(ms:Ms)[?dZ]:?gg| 0=>ms| ?p=>?nu
abbrev lO(ms:Ms)[?dZ]:Ms:=Hy ms fs n ?gW
def cZ(ms:Ms)[?fe](n k:Int):∀i,?On ?bT ?jM n| 0=>by simp[Hy,Ih]| ?p=>by show ?Ml ?nu=_;rw[MW,cZ ms fs n k i];show _=?aH+(if ?bL=k then ?DB else ?jM)*n;by_cases h:k=?bL;{rw[?ac,?j2];(have e:?eU=?ma*n:=by unfold GS;ext Io);rw[e,?Je (?DB=?jM+?ma),qq0];ext d};rw[?aN,?m ?kq]
def l9[?au][?dZ]:∀i,nd ?bT| 0=>h| ?p=>kH ?vj _ _
def HZ[?lu][?dZ]:∀i,nz ?bT| 0=>h| ?p=>SS (HZ h fs n i) _ _
def W1(ms:Ms)[?dZ]:∀i,?KP ?bT ?vJ| 0=>?v| ?p=>by have h1:=W1 ms fs n i;have h2:=EU ?bT ?bL ?eU;show ?LM Jk;ext d
abbrev J0[?a1](k p n:Int):Bool:=D9 xs ?jO k&&?q (¬n=0)
abbrev chainB[?Q](ms:Ms):Bool:=ms.all λp=>J0 xs k ?r p.2
abbrev L8[?a1](ms:Ms):?gg| 0=>[]| ?p=>lO ?bR ?l0 ?qA
abbrev B8[?a1](ms:Ms):Ms:=L8 xs ms ?sS
def cP[?W][?fa](ms:Ms):∀i,(?bR).length<=4*i| 0=>?v| ?p=>by have h1:=cP h4 ms i;show ?LM lO;unfold lO;have h2:=W1 ?bR ?l0 ?qA ?oH;(have h3:?oH<=4:=?KD ?Cv);ext d
def HB[?W]{p l:Int}(h:D9 xs ?jO l=true):?yq:=by have h':?Kr (?PM ?iD ?ix) (Cn ?kK=l):=h;rw[qc0,qc0]at h';exact#[qc9 h'.1.1,qc9 h'.1.2]
abbrev S5(b:Addr)(H H1:Hp):Prop:=∀c q,c≠b->?mJ
section
variable[?aF]{H H1:Hp}{b:Addr}{m:?ae (Key × V)}
def SqL.x[?lo][?t6](h:?NW H a):?NW H1 a:=?ua
def SqT.x[?lo][?t6](h:?Dj):?x2:=?ua
mutual def Rep.x[?lo]{v:V}{d:L2.D}(h:?Kn v d):Rep K H1 v d:=by cases d with| non=>exact h| bl b=>exact h| int i=>exact h| str x=>exact h| tup ds =>let ?yE:=h;exact(?NY SqT.x)| lst ds =>let ?yE:=h;exact(?NY SqL.x) def Reps.x[?lo][?aV]{ds:?ae L2.D}(h:?bZ K H vs ds):?bZ K H1 vs ds:=by cases ds with| nil=>exact h| cons d r =>let#[v,q,e,h1,h2]:=h;exact#[v,q,e,Rep.x s hb h1,Reps.x s hb h2] end
universe e9
section
variable[?N]
abbrev Zv:Sp:=?Jk (Yd λ ?c1 ?aD (k p n:Int)=>Fm (vs=[?a7,?cR,?jO,?ed]) ?b8 (Q (.bl (J0 xs k p n)) H))
abbrev Qb:Sp:=?Jk (Yd λ ?bb ?aD ?T ?dW=>Da ?H5 ?b8 ?mr ?db (?Nu (.bl (?Pn ?k6 ms))))
abbrev Gk:Sp:=?Jk (Yd λ ?bb ?aD (n:Nat) ?dW=>G9 (?Or ?cN (?k ?am)) ?b8 ?mr ?db (n<=100) (?Nu (.bl ((?g9).any λ ?lb=>?BH))))
abbrev Uy:Sp:=?Jk (Yd λ ?c1 ?ld ?dW (fs:?n) ?am=>Da (?Or v ?ed) ?dn (TI K H v fs) (?Ob fs.length<=100000) (∀H',S5 a H H'->H' a=?OD (cK (lO ms fs n))->?rp))
abbrev Wf:Sp:=?Jk (S8 λ ?bb ?aD ?dW=>Mb ?dz ?b8 ?mr ?db ?gb ((∃k:Nat,?bg/\?BH=true)) (?P3 ?bz))
universe e9
universe Hb
namespace Hb
open PySem L2
abbrev wF[?J](ms:Ms):Int:=(?aa λp=>?oC).sum
def Te[?J]:?K1 []=0:=rfl
def Dp[?J](p:?an)(ms:Ms):?K1 ?bm=?oC+?aZ:=by unfold wF;rw[qd2,qk3]
def E4(k:Int):?kl=0:=rfl
def lX[?J](k:Int):?OY (?K1 ?cx=?aZ-?aH*φ k)| [],_=>by show ?d3=0-?kl*φ k;rw[E4];simp| ?bm,h=>by ext fY;have ih:=lX φ k (ms:=ms) h.2;rw[C8,Dp];by_cases e:?bs;{rw[?bB];(have hd:?v4=?cx:=?Mi qr1);have hg:?aH=0:=Fj (by rw[←e];exact h.1);rw[hd,ih,hg,←e,qe3];ext d};rw[?bN];(have hd:?v4=p::?cx:=?Mi qr0);rw[hd,Dp,ih];ext d
def V7[?J](as bs:Ms):?K1 (as++bs)=?K1 as+?K1 bs:=by unfold wF;rw[qb0,List.sum_append]
def rJ[?J](k v:Int):∀{ms:Ms},?b7->k∈?aa (·.1)->?OM ?E9 ((v-?aH)*φ k)
 | [],_,h=>?EN
 | ?bm,h,hk=>by
   ext fY;rw[qd2,Dp,Dp,C8];by_cases e:?bs
   . rw[?bB,?bB]
     have same:?E9=ms:=by
      conv=>rhs;rw[←?tI ms]
      refine qn3;intro q hq;have:¬q.1=k:=λz=>h.1 (by rw[e,←z];exact qk1 (f:=(·.1)) hq);rw[?sE];rfl
     rw[same,e,Int.sub_mul];show v*φ k+?aZ=_;ext d
   . rw[?bN,?bN]
     have hk2:k∈?aa (·.1):=by
      rw[qd2,qe4]at hk;rcases hk with z | z
      . exact ?aI ?c3 e
      . exact z
     rw[rJ φ k v h.2 hk2];ext d
def Ad7[?J][?au](k v:Int):?OM ?br ((v-?aH)*φ k):=by by_cases hk:k∈?aa (·.1);{unfold putI;rw[?s (Zi.mpr hk),rJ φ k v h hk]};rw[put_new hk,V7,Fj hk,Dp,Te];simp
set_option tactic.hygienic true in def RJ[?J][?au](k n:Int):?OM ?dg (n*φ k):=by unfold Jk;split;{rename_i e;rw[lX φ k h];have:?aH=-n:=O9m;rw[this,qp9];ext d};rw[Ad7 φ h,?Je (?ef-?aH=n)]
def GC[?J][?au][?dZ]:∀i,?OM ?bT (n*?Ju (sg j*φ ?eK) i)| 0=>by show ?aZ=?aZ+n*0;simp| ?p=>by show ?OM ?nu (n*(?oN+?oi));rw[RJ φ ?vj,GC φ h fs n i,Int.mul_add];(have e:?eU=n*?dd:=by unfold GS sg;ext Io);rw[e,qd1];ext d
def Lw[?a1](ms:Ms):∀i,nd ?bR| 0=>List.nodup_nil| ?p=>l9 ?Fw _ _ _
def j8[?a1](ms:Ms):∀i,nz ?bR| 0=>?MT (by cases hp)| ?p=>HZ (?My j8) _ _ _
abbrev face[?a1][?J](p:Int):Int:=?Ju (sg j*φ ?ts) ?kK
def gC[?J][?a1](ms:Ms):∀i,?sN->?K1 ?bR=wF ?yd ?jG| 0,_=>rfl| ?p,h=>by show ?Oy (lO ?bR _ _);unfold lO;rw[GC φ ?Fw,gC φ xs ms i ?l,qo3,?dU,V7];ext sc;rw[e];show _+_=_+wF _ [?lj];rw[Dp,Te];unfold face;ext d
def dS[?J][?a1](ms:Ms):?K1 ?bz=wF ?yd ms:=by unfold B8;rw[gC φ xs ms _ ?v,qc8]
abbrev mZ(e k:Int):Int:=if k=e then 1 else 0
def bZ(e:Int):?OY (wF ?nY ms=Av ms e)| [],_=>rfl| ?bm,h=>by ext fY;rw[Dp,C8,bZ e h.2];unfold mZ;by_cases z:?r=e;{rw[?ak,?ak,Fj (by rw[←z];exact h.1)];ext d};rw[?ad,?ad];ext d
def mY[?a1](e p:Int):?az xs ?nY p=?hT:=by (have:∀[?fe] (i:Nat),?Ju (sg j*mZ e ?eK) i=?nH:=by intro fs i;induction i with| zero=>rfl| succ i ih =>show ?oN+?dd*mZ e ?bL=if ?bL=e then ?nH+1-?lZ else ?nH;rw[ih];unfold mZ sg;split<;>ext d);exact ?aB _ _
def Fv[?W]{ms:Ms}(e:Int):?xr=wF ?Gl ms:=by have h:=bZ e (Lw xs ms ?sS);change wF ?nY ?bz=?xr at h;rw[←h];rw[dS];unfold wF;congr 1;refine qn3;intro p _;rw[mY]
def DR{φ:?V}:∀{ms:Ms},(∀p∈ms,?gq=0)->?aZ=0| [],_=>rfl| ?bm,h=>by rw[Dp,h p ?aT,DR (?Ld h)];simp
def QN[?ar]{ms:Ms}(hin:∀p∈ms,?jy/\?pf):?hS=[]:=by (have z:∀e,Av ?hS e=0:=by intro e;rw[Fv,dS];apply DR ?bU;let ?ge:=hin p hp;(have hq:?Bj:=?gA);unfold face;exact Ax7 hs hq e);have hn:=Lw xs ?bz ?Fn;have hz:=j8 xs ?bz ?Fn;change nd ?hS at hn;change nz ?hS at hz;cases e:?hS with| nil=>rfl| cons p r =>rw[e]at hn hz;have h1:=F9 hn (qb4 (a:=p) (l:=r));have h2:=z ?r;rw[e]at h2;unfold Av at h2;rw[h1]at h2;exact ?aI h2 (hz p ?aT)
abbrev A50(n:Nat)(k:Int):Bool:=?q (?am=?z) || (?PM (k=0) (n=0))
abbrev spN[?Q]:?NC ?n| 0=>[]| ?p=>if A50 (?O6 i).length k=true then ?vv++[?bV] else ?vv
abbrev spots[?Q]:?n:=?Pn spN ?b0
def JJ[?J]:∀ms:Ms,?K1 ?dG=?aZ| []=>rfl| ?bm=>by have ih:=JJ φ ms;unfold E5 at ih ⊢;by_cases z:p.2=0;{rw[qr1 ?gr,ih,Dp,z];simp};rw[qr0 ?gr,Dp,Dp,ih]
def EW[?W][?ho](h:?bC)(hp:?ie):Bk ?Fk:=by intro k q hk;by_cases hlt:?Lk k;{rw[qc3 hlt]at hk;rw[ql1 ?l];exact h k q hk};have hk':k<(?Fk).length:=(?ag hk).1;(have e:?Og k:=by simp at hk';ext d);subst e;simp at hk;subst hk;rw[ql1 ?v,qc8];exact hp
structure Part[?a1](need:Nat)(p:?n):Prop where
 ok:∀f∈p,?tq
 agr:?oc->∀i j:Nat,i<j->?kB->?OA 0
def Part.nil[?W]{need:Nat}:?MY []:=#[λf h=>?kr,λ_ i j _ h=>?EN]
def Part.snoc[?W]{need:Nat}[?ho]{f:Int}(h:?vx)(hf:?tq) (ha:?oc->∀i:Nat,i<p.length->?OH ?fO i=?po ?ui 0):?MY ?Aj:=by apply#[λg hg=>?_,λhn i j hij hj=>?_];{rcases qj5.mp hg with q | q;{exact h.ok g q};(have:g=f:=by simpa using q);subst this;exact hf};rw[qb7,qi3]at hj;(have gi:?ml i 0=?gC:=by rw[qa1,qa1,?eP]);rw[gi];by_cases e:?kB;{(have gj:?ml j 0=?f8:=by rw[qa1,qa1,qc3 e]);rw[gj];exact ?NT e};have e2:j=p.length:=O9m;subst e2;(have gj:?ml ?Ci 0=f:=by rw[qa1,?eo,qh7];rfl);rw[gj];exact ha hn i hij
def Part.fits[?W]{size need:Nat}[?ho](h:?vx)(hp:?MF size)(hs:(?ML 0 0)\/(?ML 2 0)\/(?ML 3 2)\/(?ML 4 3)):?ie:=by (have look:∀f∈p,?qF=?j ?fO:=λf hf=>by let#[h0,h1,_]:=?qb;ext bh;rfl);apply#[?i,λf hf=>(?qb).1,λf hf=>#[_,look f hf,?_],λh3 i j f g q r hij hj hi hq hr=>?_];{have:=(?qb).2.2;unfold lev;rw[this,hp];(have:p.length≠0:=λz=>by have:=qs0 z;subst this;cases hf);first|(rw[hp]at this;rcases hs with⟨rfl,rfl⟩ | ⟨rfl,rfl⟩ | ⟨rfl,rfl⟩ | ⟨rfl,rfl⟩<;>first|rfl|exact ?aI ?g ?aB)|ext d};have hjl:?kB:=(?ag hj).1;(have fj:?f8=f:=by rw[qa1,hj];rfl);(have gi:?gC=g:=by rw[qa1,hi];rfl);have hn:?oc:=O9m;have a:=?NT hjl;rw[fj,gi]at a;rw[look f ?ph]at hq;rw[look g ?qv]at hr;cases hq;cases hr;have l1:=(h.ok f ?ph).2.2;have l2:=(h.ok g ?qv).2.2;generalize ?fO=A at a l1 ⊢;generalize ?O6 g.toNat=B at a l2 ⊢;have i1:i<A.length:=O9m;have i2:j-1<B.length:=O9m;rw[qa1,qa1,qa0 i1,qa0 i2]at a;rw[qa0 i1,qa0 i2];exact ?AT ?j a
section
variable[?N]
abbrev Qd:Sp:=?Jk (Op λ ?c1 ?aD (c:Int)=>Da (?Oq (?k c)) ?b8 ?bC ?fz (∀(R:Addr) (v:V) (m:Int) (p:?n) (H':Hp),?a9->SqT K H' R [v,?k m]->TI K H' v p->?ie->?BT))
universe e9
def iE{ms:Ms}{k n:Int}[?fc](h:q∈?dg):q∈ms\/q=(k,?ef):=by unfold Jk at h;split at h;{exact ?t ?vi};exact MQ h
def v3{ms:Ms}[?fg]{n:Int}:∀{i:Nat},i<=fs.length->∀q∈?bT,q.1∈?aa (·.1)\/q.1∈fs| 0,_,q,h=>?t (qk1 (f:=(·.1)) h)| ?p,hi,q,h=>by rcases iE h with z | z;{exact v3 ?i q z};subst z;apply ?S ?_;show ?bL∈fs;ext bh;exact ?f5
def CQ[?W]{ms:Ms}:∀{i:Nat},?sN->∀q∈?bR,∃p∈ms,q.1∈?lT| 0,_,q,h=>?kr| ?p,hi,q,h=>by ext sc;rcases v3 ?v q h with z | z;{let#[r,hr,er]:=?aW z;let#[p,hp,hq]:=CQ ?i r hr;exact#[p,hp,by rw[←er];exact hq]};exact#[?lj,?f5,by rw[←e];exact z]
def IY{ms:Ms}[?fg]{n:Int}{M:Nat}(hm:∀p∈ms,?nB<=M):∀(i:Nat),∀q∈?bT,?zG<=M+?me| 0,q,h=>by have:=hm q h;simp;exact this| ?p,q,h=>by have ih:=IY hm i (fs:=fs) (n:=n);have e:?p*n.natAbs=?me+n.natAbs:=Nat.succ_mul ..;rcases iE h with z | z;{have:=ih q z;ext d};subst z;(have hs:(?eU).natAbs=n.natAbs:=by unfold GS;split<;>ext d);(have hg:?Kf ?vr (M+?me):=by unfold Av;cases e2:Cr ?bT ?bL with| none=>simp| some v=>exact ih _ (Rv e2));show(?vr+?eU).natAbs<=_;apply qa5 (qf4 _ _) ?_;rw[hs,e,←qs3];exact qs1 hg _
def iY[?W][?fa]{ms:Ms}{B:Nat}(hb:∀p∈ms,?nB<=B):∀{i:Nat},?sN->∀q∈?bR,?zG<=i*?gw| 0,_,q,h=>?kr| ?p,hi,q,h=>by have ih:=iY h4 hb (i:=i) ?i;ext sc;have:=IY ih _ q h;rw[e]at this;have hB:=hb ?lj ?f5;(have hl:?wm<=4:=?KD ?zr);have h2:?wm*ms[i].2.natAbs<=?gw:=qf6 hl hB;have e3:?p*?gw=i*?gw+?gw:=Nat.succ_mul ..;ext d
def L6[?ar]{k:Int}{ms:Ms}(hm:∀p∈ms,?jy/\?pf/\?K6 ?lT):?k6 xs ?cO ?bz=true:=by apply qe6.mpr ?e7;have hz:q.2≠0:=j8 xs ms _ q hq;let#[p,hp,hf]:=CQ ?v q hq;let#[a,b,c]:=hm p hp;(have hx:?Bj:=?gA);have F:=hs _ _ hx;let#[r,hr,hl]:=F.bel q.1 hf;have q0:=F.low q.1 hf;(have hr2:xs[?rs]?=?j r:=by rw[qg8]at hr;split at hr;{exact hr};cases hr);have C07:?Lk ?rs:=(?ag hr2).1;(have er:?n9=r:=by rw[qa1,hr2];rfl);(have hlr:Cn ?os=?cO:=by unfold lev at hl;unfold Cn at c ⊢;have cr:=(hs _ _ hr2).cnt;have cp:=F.cnt;split at c<;>split<;>ext d);unfold J0;rw[qc0];apply#[?_,by simpa using hz];show ?Kr (?PM ?F0 ?qm) (Cn (?n9).length=?cO);rw[er,qf8 q0,qf8 (?Je ?qm),qf8 hlr];rfl
universe Hb
namespace L2
open PySem PySem.Spec PyProof.Rows
universe L2
namespace Hb
open PySem L2
abbrev Nc[?Q](n:Nat):?n:=((?g9).filter ?DI).map λ ?ht=>?cf
abbrev plc[?Q]:?n:=?Fp
def e9[?G]{n:Nat}(h:?fx):?GT=?wF:=by unfold Nc;rw[qk4,qi9,qb0,qr0 ?kM];rfl
def EE[?G]{n:Nat}(h:¬?fx):?GT=?ip:=by unfold Nc;rw[qk4,qi9,qb0,qr1 ?kM];simp
def Ez[?Q](n:Nat):?fv<=n:=by unfold Nc;rw[qa3];have:=qf2 ?DI ?g9;ext da
section
variable[?N]
abbrev Ej:Sp:=?Jk (Op λ ?c1 ?bV ?aD=>Bw (?Oq ?eO) ?b8 ?fz (?Nf (?PZ ((plc xs i).map ?a4))))
universe e9
def belowD_of{i b:Int}(h0:?ne)(h1:i<b):belowD ?eO b=true:=by show ?Kr (?q ?ne) (i<b);rw[qf8 h0,qf8 h1];rfl
def xU(g:?V)(sp:?n):?lS g=Gm ?d6 (λi=>g ?hI):=by unfold Gm;refine List.ext_getElem;{simp};intro i h1 h2;simp at h1;simp[h1]
def aL[?a1](p e:Int):Av ?gf e=?hT:=by rw[Fv];show 1*?hT+0=_;ext d
def C3[?W]{k p:Int}(h:?oY):?iD/\?ix/\Cn ?kK=k:=by unfold plc Nc at h;let ?qB:=?it;have h1:=?du hj;have h2:=?cr ?e1;apply#[?i,?i,?_];rw[qe0];simpa using h1.2
def OX[?W][?fa](p e:Int):?M0 ?hT ?md:=by rw[←aL xs p e];unfold Av;cases h:Cr ?gf e with| none=>decide| some v =>have hm:=Rv h;have:=iY (B:=1) h4 (ms:=?iZ) (λq hq=>by rw[qk7]at hq;subst hq;exact qa4 1) ?v _ hm;show v.natAbs<?md;have h2:v.natAbs<=1*(4*1):=this;ext d
def Fh[?Q]:(?aU).Nodup:=by unfold plc Nc;exact List.Pairwise.map _ (λa b h=>O9m) (?GS _ List.nodup_range)
def rF[?fX]:(?ec).map (·.1)=sp:=by rw[show(λx:?an=>x.1)=Prod.fst from rfl,List.map_fst_zip ?l]
def JG[?fX](h:sp.Nodup):nd ?ec:=by unfold nd;rw[rF hl];exact h
def jH[?fX]{i:Nat}(hi:?mf):?Lp ?ec (?hI,?h9):=by rw[qa0 ?cX,List.getElem_zip,qa1,qa1,?hC,?dU];rfl
def GY[?fX](h:sp.Nodup):?lS (Av ?pg)=ns:=by have hn:=JG hl h;refine List.ext_getElem;{simp[hl]};intro i h1 h2;rw[qr9,KS hn];have hi:?mf:=O9m;have hz:=jH hl hi;have hm:=qb2 hz;have hg:=?x4;(have e1:?hI=sp[i]:=?Lu ?hC);(have e2:?h9=?de:=?N2 h2);rw[e1,e2]at hg;unfold Av;change (?CS).getD 0=?de;rw[show ?CS=?j ?de from hg];rfl
def JI[?J][?fX]:∀i,i<=sp.length->?K1 ((?ec).take i)=?Ju (φ ?tw*?jF j 0) i| 0,_=>rfl| ?p,hi=>by rw[qo3,jH hl ?l,V7,JI φ hl i ?l];show _+(?h9*φ ?hI+0)=?oN+φ ?hI*?h9;rw[qe8 ?h9,qg0]
def IW[?W][?fX](e:Int):?L1 ?pg e=?Ju (?Ol ?tw*?jF j 0) ?d6:=by rw[Fv,JJ];have h:=JI ?Gl hl ?d6 ?v;rw[qj9 ?cX]at h;exact h
def Zg{sp ns:?n}[?fc](h:q∈?pg):q.1∈sp/\q.2∈ns:=by have h1:=?vi;exact#[(qs5 h1).1,(qs5 h1).2]
section
variable[?N]
abbrev Et[?cn]:Sp:=?Jk (Kc λ(i b:Int)=>Bw (vs=[?eO,?k b]) ?ne (i<b) (Q .non H))
abbrev So:Sp:=?Jk (S8 λ ?bb (sp:?n) ?dW=>Da ?dz (?O3 a ?rL) (Rd H b ?g5) (sp.length<=1000) (?Nf (?PZ ((?lS ?CZ).map ?a4))))
abbrev Px:Sp:=?Jk (Op λ ?c1 ?aD ?T=>Mb (?Oq ?cR) ?b8 ?fz ?gb ?fF (k<5) (XO H (?jX).length ?dF (λi j=>?FP) Q))
universe e9
def sumN_one{sp:?n}(h:sp.Nodup){k:Int}(hk:k∈sp)(c:Int):?h (λm=>?Ad) ?d6=c:=by let ?Az:=qg9 hk;(have key:∀m,?tc->?Ad=(if m=i then 1 else 0)*(λ_:Nat=>c) m:=by intro m hm;rw[qa1,qa0 hm,qu9];by_cases q:m=i;{subst q;rw[?bB,?y,qd8]};rw[?bw,if_neg,qe3];intro z;exact q ((List.getElem_inj h).mp (z.trans ?es)));rw[Ad key,D6,?i4]
def lW{sp:?n}(hs:sp.Nodup)[?J]:?OY ((∀p∈ms,?r∈sp)->?aZ=?h (λm=>?M9 ms) ?d6)| [],_,_=>by rw[Te,Ad (g:=?ao) (λm _=>by rw[E4,qd4]),Nw]| ?bm,h,hk=>by ext fY;have ih:=lW hs φ (ms:=ms) h.2 ?Hx;have h1:=?aA hs ?A0 ?I7;(have e:∀m,?tc->?M9 ?bm=(if ?cd=?r then ?I7 else 0)+?M9 ms:=by intro m _;rw[C8];by_cases q:?cd=?r;{rw[?s ?jW,?d7,q,Fj h.1,qd4,qg0]};rw[?Ov q,?bw,qj7]);rw[Dp,ih,Ad e,Cq,h1,qe8 p.2]
abbrev Gw[?Q](i j:Nat):Int:=?FP
def Jr[?W]{k p:Int}(h0:?iD)(h1:?ix)(h:Cn ?kK=k):?oY:=by unfold plc Nc;apply ?iM #[?hA,qg3.mpr #[?m6,qf8 h],?i]
def eE[?G]{j:Nat}(hj:j<?dF):?NO ?dt:=by rw[qa1,?dH];exact ?yH
def KD[?ar]{k:Int}{i j:Nat}(hj:j<(?wC).length):?h (λm=>Gw xs k i m*Gw xs ?z m j) ?dF=0:=by let ?ii:=C3 (eE hj);unfold Gw;rw[?l8];generalize ?r6 j 0=p at q0 q1 q2;generalize ?tO=e;have hcb:=L6 hs (k:=?z) (ms:=?iZ) (λr hr=>by rw[qk7]at hr;subst hr;exact ?ii);rw[?l8]at hcb;(have hkey:∀r∈?gf,r.1∈?aU:=λr hr=>by ext JB;have h2:?Kr ?rN (?ou=k):=?e1;rw[qc0,qc0]at h2;exact ?uw);have hbb:=QN hs (ms:=?iZ) (λr hr=>by rw[qk7]at hr;subst hr;exact#[q0,q1]);have hg:=Fv (xs:=xs) (ms:=?gf) e;rw[hbb,E4,lW ?eI _ (show nd ?gf from Lw ..) hkey]at hg;apply ?h2 (Ad λm _=>?_) hg.symm;rw[aL]
def wX[?a1]:?Dy=[]:=by cases h:?Dy with| nil=>rfl| cons p l =>exfalso;have h1:=(C3 (xs:=xs) (k:=0-1) (p:=p) (by rw[h];exact ?aT)).2.2;unfold Cn at h1;split at h1<;>ext d
def jN[?W][?fa](k:Int)(i j:Nat):?tE<?md:=OX h4 _ _
section
variable[?N]
universe e9
noncomputable abbrev Cj[?Q]:Nat:=?dF
def zst{c:Prop}[Decidable c]{x lo hi d a b:Int}(h:lo<=x/\x<=hi)(p:a<=lo/\a<=lo+1-d)(q:hi<=b/\hi+1-d<=b):a<=?vz/\?vz<=b:=by split;{exact#[?gL p.2 (?DY (?va h.1 1) d),?gL (?DY (?va h.2 1) d) q.2]};exact#[?I1,?gL h.2 q.1]
def zsv{x a b:Int}(h:a<=x/\x<=b)(p:-2<=a/\b<=2):x.natAbs<=2:=by have h1:=?I1;have h2:=?gL h.2 p.2;clear h p;ext d
def xJ[?fg](h:fs.length<=4)(e:Int):(P1 fs e).natAbs<=2:=by have h0:0<=?wP/\?wP<=0:=#[qx0 _,qx0 _];have h1:0<=?IZ/\?IZ<=1:=?MV h0;have h2:-1<=?zt/\?zt<=1:=?MV h1;have h3:-1<=?w7/\?w7<=2:=?MV h2;have h4:-2<=?uL/\?uL<=2:=?MV h3;unfold P1;revert h;generalize fs.length=n;intro h;match n,h with| 0,_=>exact zsv h0 ?H| 1,_=>exact zsv h1 ?H| 2,_=>exact zsv h2 ?H| 3,_=>exact zsv h3 ?H| 4,_=>exact zsv h4 ?H
def WC[?W][?fa](k:Int)(i j:Nat):?tE<=2:=by apply xJ ?_ _;rw[qa1];cases e:xs[?Cn]? with| none=>exact ?X| some x=>exact h4 x ?x9
def SG[?W]{k l:Int}(h:k≠l):?I+?Ly l<=xs.length:=by (have nd:(?xD).Nodup:=by rw[qu2];apply#[?ob,?ob,λa ha b hb e=>h ?_];have h1:=(C3 ha).2.2;have h2:=(C3 hb).2.2;rw[←h1,←h2,e]);(have sb:?xD ⊆ ?B8:=?MT (by (have:?yq:=by ext su;{exact ?vn};exact ?vn);unfold LY;rw[qc7];exact#[?hA,?m6,?i]));have:=nd.length_le_of_subset sb;rw[qb7,Rl]at this;exact this
noncomputable abbrev BPart:=Int × Ms × Ms × Ms
abbrev Mv[?Q][?hn]:Ms:=?m1
structure Yx[?Q](z k0:Nat)[?hd]:Prop where
 lev:Lat.Lev ?gI ?I z ?lN L G
 fin:Ar4 z ?d0 ?Gs ?b1 (kS z ?d0) (Lat.gT ?I G ?sO) k0 f l r
 ch:Lat.ChainTo k0 k0 f
 kz:?sI
 kw:k0<=?d0
 bL:?I2
 bG:?Dl
 zm:z<=?I
abbrev Dh[?Q](z k0:Nat)[?hd](i:Nat):BPart :=(?cg,?q1,?ia,?iE)
abbrev E6[?Q](z k0:Nat)[?hd]:?bI:=?vd ?A6
abbrev V3[?Q][?aR]:Prop:=∃z k0 L G f l r,?qj/\ps=?kV
def ET[?ar](k:Int):∀c,c<?d0->?Kl ?gI (?pF ?I ?lN (λa=>?PC ?z c) x=0):=λc hc x _=>KD hs hc
structure Me[?a1](n:Nat)(zs ks:?B)(Ls Gs:?qn)(fs:?bG)(lp rp:?nE)[?bO]:Prop where
 len:ls.length=n
 z0:zs 0=?pU/\Ls 0=Lat.one/\Gs 0=Lat.one
 nx:∀j,j<n->zs ?x=?Ly (?cf+1)-?g7/\Ls ?x=(λi=>(?ga).1 ?Cg)/\Gs ?x=λi=>(?ga).2 ?Cg
 lv:∀j,j<n->?L9 Yx/\ls[j]?=?j ?At
abbrev Kb[?a1](n:Nat)[?bO](z:Nat)(L G:Lat.Mat):Prop:=∃zs ks Ls Gs fs lp rp,?LW n/\zs n=z/\Ls n=L/\Gs n=G
def Kb.first[?a1]:Kb xs 0 [] ?pU ?e4 ?e4 :=#[λ_=>?pU,?ao,?IA,?IA,λ_ _=>0,?EH,?EH,#[?g,?xb,?I3,?I3],?g,?g,?g]
abbrev dU[?t4](n:Nat)(a:α):?NC α:=λj=>if j=n then a else g j
def Hf[?t4](n:Nat)(a:α):dU g n a n=a:=?y
def En[?t4]{n j:Nat}(a:α)(h:j≠n):dU g n a j=g j:=?aN
def Kb.snoc[?W]{n:Nat}[?dY][?hh][?cl](h:?xK)(b:?KF Yx ?am) : Kb xs ?o (ls++[?KF E6 ?am]) ?B4 ?FY ?Gy:=by let#[zs,ks,Ls,Gs,fs,lp,rp,t,?g,?g,?g]:=h;apply#[dU zs ?o ?B4,dU ks n k0,dU Ls ?o ?FY,dU Gs ?o ?Gy,dU fs n f,dU lp n l,dU rp n r,#[?_,?_,?eW,?eW],Hf ..,Hf ..,Hf ..];{rw[qb7,t.len];rfl};{rw[?jl,?iO,?lH];exact t.z0};{by_cases e:j=n;{subst e;rw[Hf,Hf,Hf,Hf,Hf];exact ?xb};rw[?jl,?CM,?iO,?lH,?vA];exact t.nx j ?i};by_cases e:j=n;{subst e;rw[?jl,?iO,?lH,Hf,Hf,Hf,Hf];exact#[b,by rw[qd0 (by rw[t.len];exact ?v),t.len,qh7];rfl]};rw[?jl,?iO,?lH,?CM,En fs _ e,En lp _ e,?vA];let ?ra:=t.lv j ?i;exact#[h1,by rw[qc3 (by rw[t.len];ext d)];exact h2]
def Kb.lev[?W]{n:Nat}[?dY]{z:Nat}{L G:Lat.Mat}(h:?xK):∀(j:Nat) ps,?OR j->?AN:=λj ps e=>by let#[zs,ks,Ls,Gs,fs,lp,rp,t,_]:=h;ext Iw;exact#[_,_,_,_,_,_,_,h1,?g]
universe Hb
namespace L2
open PySem PySem.Spec PyProof.Rows
section
variable[?JS]
universe e9
section
variable{X:Cx}[?aF]
universe e9
section
variable[?JS]
universe e9
structure Fin(B k:Nat)(p:PyData):Prop where
 sh:p.showable=true
 le:p.shown.length<=B
 dp:p.depth<=k
section
variable[?sr]{E:?jn}
universe e9
section
variable[?sr]{R:Result->?pL}
universe e9
universe L2
namespace Hb
open PySem L2
def Rows.drop{H H1 H2:Hp}{D C:Addr}{as:?Ec}{w k:Nat}[?t7](R:Rows H H1 D as w f)(hC:?PJ H1 C)(h2:H2=?OQ H1 C (?Mf ?xT V.ref)):Rows H H2 C ?xT w ?Gh:=by
 subst h2;apply#[R.same.trans (?b6 hC),R.same.free hC,Ab,λj a e=>?_];rw[qq7]at e;let#[h1,h3,h4]:=R.row ?cb a e;have ne:a≠C:=λz=>by rw[z,hC]at h4;cases h4
 exact#[h1,ne,by rw[Al ne];exact h4]
section
variable[?N]
universe e9
abbrev Iv(H:Hp)(v:V)(p:BPart):Prop:=∃t a b c,v=?ez/\?Nz (?Pa ?e8/\b≠c)
def Iv.same{H H':Hp}[?fd](h:?gZ)[?ff]:Iv H' v p:=by let ?yY:=h;exact#[t,a,b,c,e,?tZ,s _ _ h2,s _ _ h3,s _ _ h4,ne]
abbrev B7(H:Hp):?Oz ?O ?bI| [],[]=>True| ?gH,?cy=>?gZ/\?ew| _,_=>False
def B7.same{H H':Hp}[?ff]:?F7| [],[],h=>h| ?gH,?cy,h=>#[h.1.same s,B7.same s h.2]| [],?bM,h=>h.elim| ?bM,[],h=>h.elim
def B7.len{H:Hp}:?LV ?CE| [],[],_=>rfl| ?gH,?cy,h=>by rw[qd5,qd5,B7.len h.2]| [],?bM,h=>h.elim| ?bM,[],h=>h.elim
def B7.snoc{H:Hp}:∀[?aV][?a0][?fd],?ew->?gZ->B7 H ?Hl ?rh| [],[],v,p,_,h=>#[h,trivial]| u::vs,q::ps,v,p,h,h2=>#[h.1,B7.snoc h.2 h2]| [],?bM,_,_,h,_=>h.elim| ?bM,[],_,_,h,_=>h.elim
def B7.get{H:Hp}:∀[?aV][?a0]{i:Nat}{v:V},?ew->?eh->∃p,?pK/\?gZ| [],[],i,v,_,e=>?Fa| u::vs,q::ps,0,v,h,e=>#[q,?g,by (have:u=v:=?dN);subst this;exact h.1]| u::vs,q::ps,?p,v,h,e=>by (have e':?eh:=?dN);let#[p,h1,h2]:=B7.get h.2 e';exact#[p,?aC,h2]| [],?bM,_,_,h,_=>h.elim| ?bM,[],_,_,h,_=>h.elim
def Iv.put{H:Hp}[?cq]{vs us:?O}[?fd](h:?gZ)(hD:H D=?KA vs):Iv (upd H D ?Fd) v p:=by let(?Mn nbc):=h;(have ne:∀{x:Addr}{o:HO},H x=?ci->(∀ws,o≠?qX)->x≠D:=λ{x o} e h z=>by rw[z,hD]at e;cases e;exact h _ ?g);exact#[t,a,b,c,e,by rw[?Lh h1];exact h1,by rw[?Lh h2];exact h2,by rw[?Lh h3];exact h3,by rw[?Lh h4];exact h4,nbc]
def B7.put{H:Hp}[?cq]{us0 us1:?O}(hD:H D=?KA us0):?LV (B7 (?OQ H D us1) vs ps)| [],[],h=>h| ?gH,?cy,h=>#[h.1.put hD,?lC hD h.2]| [],?bM,h=>h.elim| ?bM,[],h=>h.elim
def kD{k z:Nat}(h:k<=z)[?bk]:?I9++?jV (z-k) (?a4 0)=VI z (?iW f k):=by apply ?y6;by_cases hi:i<k;{rw[qc3 (by rw[Bv];exact hi),Cy hi,Cy ?l];unfold Lat.numAt;rw[?i4]};rw[qd0 ?nr,Bv];by_cases hz:i<z;{rw[Cy hz,qq6,?ck];unfold Lat.numAt;rw[?m hi]};rw[qh9 (by rw[qk5];ext d),qh9 ?nr]
def TN(n:Nat)[?bk]:(Gm n f).map ?a4=VI n f:=rfl
def iX{a b:Int}(ha:a.natAbs<?l7)(hb:b.natAbs<?l7):?c6 a b:=Lx ha hb ?Dt
section
variable[?N]
abbrev CD:Sp:=?Jk (Yd λ ?bb ?aD ?T ?rU=>G9 ?H5 ?b8 ?fz (?O3 b ?dk) (ns.length=?dF) (?Nf (?j (.dK (cK (E5 (?ry ns)))))))
abbrev Xp:Sp:=λvs H Q _=>Be5 λ(a tp nm r1 D1 D2 b2:Addr) (vl vg:V) ?aD ?T (z k0 w:Nat) (L G:Lat.Mat) (f:?u) (l r:?eN)=>Ac5 (vs=[?a7,?cR,?w tp,vl,vg]) ?b8 ?bF (w=?d0) (?Kn vl (dT z ?I L)) (?Kn vg (dT z ?I G)) (?K7 H z k0) ?s1 ?sI (k0<=w) ((∀i,?fU->?bA≠0)) (?bd z z ?b1 l.1) (?bd z z ?b1 l.2) ?I2 ?Dl (∀(D:Addr) [?fh] (H':Hp),?Pe (B7 H' us ?kV) ?c4)
abbrev Gj(D:Addr)(H:Hp)[?hq][?bO]:Prop:=?Kj (a≠D/\?qQ)
abbrev Pt(H:Hp)[?hq][?bO]:Prop:=?Kj ?qQ
abbrev Xs:Sp:=?Jk (Kc λ ?c1 ?aD=>Da ?kE ?b8 ?bC ?bF (∀(D:Addr) [?fh] [?bO] (H':Hp),?Pe ?xv (?oD->Pt H' us ls->?c4)))
universe e9
def one_bits(n m:Nat):?bd n m ?b1 ?e4:=λi j _ _=>by have h1:1<?l7:=Nat.one_lt_two_pow ?Dt;unfold Lat.one;split;{exact h1};exact qv8 (?H:0<1) h1
def nF[?aF]{H:Hp}{v:V}{n:Nat}(h:?Kn v (dT n n ?Em)):?Kn v (dT n n ?e4):=by (have e:(λi j:Nat=>if j=i then(1:Int) else 0)=Lat.one:=by funext i j;unfold Lat.one;ext Ix);rwa [e]at h
def YJ[?aF]{H:Hp}{C:Addr}{us:?O}{h w k:Nat}[?t7](hr:∀i u,?Lp us u->i<h/\∃b,u=?cN/\?O3 b ?BV)(hl:?MX h)(hC:?O3 C (us.drop k)):?Kn ?qH (dT (h-k) w ?Gh):=by apply iR hC (by rw[qh4,hl]) ?kZ;have e:us[?ax]?=?j (us[?ax]' ?i):=?eJ;let ?ut:=hr ?ax _ e;exact#[b,by rw[qq7,e,eb],hb]
abbrev Aq5[?fh]:Prop:=∀u∈us,∃a,u=?a7
def Yz[?aF]{H:Hp}{D b:Addr}{xs:?O}{o:HO}(h:?NW H b)(ne:b≠D):?NW ?iR b:=by rcases h with(h|⟨q,h⟩) | h;{exact ?t (?t ?kR)};{exact ?MR q ?kR};exact ?S h
def wJ[?aF]{H:Hp}{D b:Addr}{xs us:?O}{o:HO}(h:?LI H b xs)[?hg]:?LI ?iR b xs:=by rcases h with(h|⟨q,h⟩) | h;{(ext JJ);exact ?t (?t ?kR)};{(ext JJ);exact ?MR q ?kR};exact ?S h
def FO[?aF]{H:Hp}{D t:Addr}{us:?O}{h w:Nat}[?t7]{o:HO}(hr:?Kn ?ez ?vH)(ne:t≠D)(hw:0<h->0<w)[?hg](ZU:Aq5 us):Rep K ?iR ?ez ?vH:=by let#[_,tu,ez,hq,hl,Pg]:=Iq hr;cases ez;apply iR (Yz hq ne) hl ?kZ;have e:?Lp tu (tu[i]' ?i):=?eJ;let ?ut:=Pg i _ e;apply#[b,by rw[e,eb],?_];rcases hb with(hb|⟨q,hb⟩) | hb;{apply Yz (?t (?t hb)) ?rz;rw[z,hD]at hb;(have e1:us=?BV:=by injection hb with e;injection e);have hw':=hw ?i;(have e2:us[0]?=?KZ (f i 0):=by rw[e1];exact Cy hw');let#[c,hc]:=ZU _ (qb2 e2);cases hc};{apply Yz (?MR q hb) ?rz;rw[z,hD]at hb;cases hb};exact ?S hb
structure LQ(D nm r1 D1 D2 b2:Addr):Prop where
 e1:nm≠D
 e2:r1≠D
 e3:D1≠D
 e4:D2≠D
 e5:b2≠D
def S7.put[?aF]{H:Hp}{D tp nm r1 D1 D2 b2:Addr}{n w k:Nat}[?cl]{us:?O}{o:HO}[?JO](ne:?yD)[?hg](ZU:Aq5 us):?K7 ?iR n k :=#[wJ x.tup hD,Yz x.num ne.e1,?Lx ?rn ne.e2,?Lx ?sG ne.e3,?Lx ?nI ne.e4,?Lx ?rA ne.e5]
def aU.ne[?aF]{H H':Hp}{tp nm r1 D1 D2 b2 D:Addr}{n w k:Nat}[?cl]{o:HO}[?JL](hD:H D=?ci):?yD:=by (have go:∀a,(a=nm\/a=r1\/a=D1\/a=D2\/a=b2)->a≠D:=λa h z=>by have:=(x.new a h).1;rw[z,hD]at this;cases this);exact#[go _ ?ri,go _ ?qw,go _ ?FA,go _ ?FQ,go _ (?S (?S (?S ?Gq)))]
abbrev Ac4[?N](H:Hp)(a D:Addr)[?a1](k:Nat)(σ:St)(G':Hp):Prop :=∃(us:?O) (ls:?dJ) (la ga:Addr) (z:Nat) (L G:Lat.Mat) (o4 o5 o6 o7:?dI V),σ=[rS a,rS D,rS la,rS ga,o4,o5,o6,o7]/\?uh/\G' D=?fC/\ls.length=k/\?OJ k/\Gj D G' us ls/\la≠D/\ga≠D ∧ ?OW la L/\?OW ga G/\Lat.Lev (?Ly (?T-1)) ?cw z (Gw xs ?T) L G/\z<=?cw/\?LL ?cw L/\?LL ?cw G
def Gj.out[?cq]{H:Hp}[?aV][?dY][?lt]:?EJ :=(?ON #[a,us,e,_,h1,h2] ?AU)
def Gj.same[?cq]{H H':Hp}[?aV][?dY][?lt][?ff]:Gj D H' vs ls :=(?ON ?G4 #[a,us,e,n,?tZ,h2.same s])
def Gj.refs[?cq]{H:Hp}[?aV][?dY][?lt]:Aq5 vs:=λu hu=>by let#[i,hi]:=qf5 hu;have hl:=(?ag hi).1;have h0:=h.1;let#[a,_,e,_]:=h.2 i u _ hi ?eJ;exact#[a,e]
def Gj.snoc{D E:Addr}{H:Hp}{vs eu:?O}[?dY][?a0][?lt](hD:H D=?KA vs)(ne:E≠D)(hE:H E=?KA eu)(r:B7 H eu ps):Gj D (?OQ H D ?v6) ?v6 (ls++[ps]):=by apply#[by rw[qb7,qb7,h.1];rfl,λi v qs e1 e2=>?_];have h0:=h.1;by_cases hi:?pv;{rw[?q5]at e1;rw[?eP]at e2;let ?G4:=?Lt v qs;exact#[a,us,e,n,by rw[Al n];exact h1,?lC hD h2]};ext Il;(have q1:v=?w E:=?xM);(have q2:qs=ps:=?En);subst q1 q2;exact#[E,eu,?g,ne,by rw[Al ne];exact hE,?lC hD r]
universe Hb
namespace L2
open PySem PySem.Spec PyProof.Rows PySem.SeqAt
section
variable{X:Cx}{n:Nat}[?aF]
universe e9
universe L2
namespace Hb
open PySem L2
abbrev noB[?aR]:?bI:=?NP ps.filter (?r≠1)
def IA[?aR](p:BPart):noB ?rh=if ?dx then ?ay else ?ay++[p]:=by unfold noB;rw[qi9];by_cases h:?dx;{rw[?ac,qj1,?m ?kb,qq8,qv9]};rw[?aN,qj1,?s ?kb,qq8]
abbrev lift1(fl:Ms)[?bP](g:?an):?dr:=lf.set ?oB (Ep (?g8 ?oB []) (Hl g.2 fl))
abbrev Q1[?bP](p:BPart):?dr:=if ?dx then p.2.2.1.foldl (lift1 ?e8) lf else lf
abbrev Kv[?bP][?aR]:?dr:=?DC Q1 lf
abbrev Cw(n:Nat)[?bO]:?dr:=?uS Kv ?ED
structure F6(ms:Ms):Prop where
 n:?b7
 z:nz ms
 k:?hy
def F6.nil:F6 []:=#[List.nodup_nil,?ER,?ER]
def F6.len{ms:Ms}(h:F6 ms):?xQ:=by (have:=tQ (?aa λ(p:?an)=>?r) (LY 40) h.n λx hx=>by let ?rV:=?aW hx;have:=h.k p hp;unfold LY;exact ?iM #[?lW,?m6,?i]);rwa [qa3,Rl]at this
def z9{ms:Ms}{j:Int}(h:?hD≠0):j∈?aa (·.1):=by by_cases e:j∈?aa (·.1);{exact e};exact ?aI (Fj e) h
def F6.plus[?st]:F6 ?bx:=by let#[r1,r2,_,r4]:=?Ie;apply#[r1,r2,?bU];have e:=F9 r1 hp;(have e2:Av ?bx ?r=p.2:=by unfold Av;rw[e];rfl);have hz:=r2 p hp;rw[←e2,r4]at hz;(have:?r∈?aa (·.1)\/?r∈?iU (·.1):=by by_cases q:?n4=0;{exact ?S (z9 ?i)};exact ?t (z9 q));rcases this with h | h;{let ?BQ:=?it;rw[←eq];exact h1.k q hq};let ?BQ:=?it;rw[←eq];exact h2.k q hq
set_option tactic.hygienic true in def F6.times{ms:Ms}(h:F6 ms)(n:Int):F6 ?hV:=by unfold Hl;split;{exact F6.nil};rename_i hn;apply#[?_,?bU,?bU];{have:=h.n;unfold nd at this ⊢;rw[qi8];exact this};{let ?g0:=?c5;exact Int.mul_ne_zero hn (h.z q hq)};let ?g0:=?c5;exact h.k q hq
abbrev G8(n:Nat)[?bP]:Prop:=lf.length=n/\∀m∈lf,F6 m
def G8.at{n:Nat}[?al](h:?dK)(i:Nat):F6 ?xI:=by rw[qa1];cases e:lf[i]? with| none=>exact F6.nil| some m=>exact h.2 m ?x9
def G8.lift1{n:Nat}[?al][?JN]:G8 n ?ty:=by apply#[by unfold Hb.lift1;rw[qi4];exact h.1,λm hm=>?_];rcases qp2 hm with q | rfl;{exact h.2 m q};exact(h.at _).plus (hf.times _)
def G8.go{n:Nat}{fl:Ms}(hf:F6 fl):?Pg (G8 n (?vg (Hb.lift1 fl) lf))| [],_,h=>h| g::gs,_,h=>G8.go hf gs ?H1
structure Np(n:Nat)(p:BPart):Prop where
 gk:∀g∈?d2,?mg
 fl:F6 ?e8
 mul:∀g∈?d2,∀q∈?e8,?c6 g.2 q.2
abbrev Ge(O H:Hp)[?hq][?bP]:Prop:=vs.length=lf.length/\∀(i:Nat) v,?eh->∃c,v=?d8/\?gN/\?Pa ?xI
def G8.part{n:Nat}[?al][?JW]:G8 n ?o4:=by unfold Q1;split;{exact G8.go hp.fl _ h};exact h
def G8.parts{n:Nat}:∀[?a0][?al],?dK->(∀p∈ps,?ms)->G8 n ?pN| [],_,h,_=>h| ?cy,_,h,hp=>G8.parts (ps:=ps) (h.part ?vq) (?Ld hp)
def G8.first(n:Nat):G8 n ?ED:=#[qk5 ..,λm hm=>by rw[(List.mem_replicate.mp hm).2];exact F6.nil]
def Ge.same[?hr][?aV][?al](h:?n7)[?ff]:?uR :=(?LN (s _ _ e2))
def Ge.keep[?hr][?aV][?al](h:?n7)(s:∀c kvs,?gN->H c=?OD kvs->H' c=?OD kvs):?uR :=(?LN (s _ _ e0 e2))
def Ge.snoc{O H:Hp}[?aV][?al][?J7]:Ge O H (vs++[?d8]) (lf++[m]):=by have h0:=h.1;apply#[?tQ,λi v ei=>?_];rw[qa1];by_cases hi:?pv;{rw[?q5]at ei;rw[?eP,←qa1];exact h.2 i v ei};have hi2:=(?ag ei).1;rw[qb7,qi3]at hi2;have eq:?Cy:=O9m;subst eq;rw[?eo,qh7]at ei;rw[h0,?eo,qh7];(have q1:v=?d8:=by simpa using ei.symm);exact ?yy
def Ge.set{O H:Hp}[?aV][?al][?J7](i:Nat):Ge O H (vs.set i ?d8) (lf.set i m):=by have h0:=h.1;apply#[by rw[qi4,qi4,h0],λj v ej=>?_];rw[qa1];by_cases q:i=j;{subst q;have hl:=(?ag ej).1;rw[qi4]at hl;rw[qr2 hl]at ej;rw[qr2 ?l];(have q1:v=?d8:=by simpa using ej.symm);exact ?yy};rw[qm6 q]at ej;rw[qm6 q,←qa1];exact h.2 j v ej
abbrev Le[?cn]:Sp:=?Jk (Op λ ?c1 ?ow ?AV=>Da ?kE ?sD ?I5 (ps.length<=1000) (∀(D:Addr) (us':?O) (H':Hp),?PO (?a2 us') (B7 H' us' ?ay)))
abbrev Xq[?N]:Sp:=?Jk (Yd λ ?bb ?aD ?ow ?gv=>Mb ?dz ?b8 ?bF (H b=?fC) (Pt H us ls) ?u2 (∀(D:Addr) (ws:?O) (H':Hp),?PO ?qX (Ge H H' ws ?lX)))
def Wz(n:Nat):Cn n=((n-1:Nat):Int):=by unfold Cn;split<;>ext d
def QA[?W][?ho](h:?ie):AB xs (tI p)=true:=by (have bl:∀f∈p,∃q,?qF=?c9/\?fO=q/\?Lk f.toNat/\q.length-1+1=?ui:=λf hf=>by let#[q,e,l]:=h.bel f hf;let#[hlt,_]:=?ag e;exact#[q,e,by rw[qa1,e];rfl,hlt,l]);show AB xs (?aK (Fb p))=true;rw[R7];(have hl:(Fb p).length=p.length:=by simp[Fb]);rw[hl];simp only[qc0,qt0];apply#[#[?_,?_],?_];{rcases h.cnt with e | e | e | e<;>rw[e]<;>rfl};{rw[qe6];intro d hd;let ?o7:=?aW hd;let#[q,e,eq,hlt,l]:=bl f hf;have h0:=h.low f hf;show ?Kr (?PM (0<=f) (f<?be)) (Cn ?Ew=Cn ?Ci-1);rw[eq,Wz,Wz];simp only[qc0,qr3];ext d};by_cases h3:3<=p.length;{right;(have e0:(Fb p).map YX=p:=by unfold Fb;rw[qi8];exact ?tI p);rw[e0];unfold No;rw[qe6];intro j hj;rw[qe6];intro i hi;have hj:=?cr hj;have hi:=?e3;unfold Vx;rw[qr3];have ej:p[j]?=?j p[j]:=?dH;have ei:?Lp p ?AP:=?eJ;let#[q,e1,e2,_]:=bl p[j] ?yH;let#[r,e3,e4,_]:=bl ?AP ?f5;have key:=h.agr h3 i j _ _ q r hi ej ei e1 e3;rw[show ?f8=p[j] by rw[qa1,ej];rfl,show ?gC=p[i]' ?l by rw[qa1,ei];rfl,e2,e4,qa1,qa1,key]};left;rw[Wz];simp;ext d
def Sa[?G][?eG][?fc](h:q∈?cK):?IH/\∃c,c<?I/\q.2=v c:=by let ?ra:=Zg h;have h3:=C3 h1;let ?CA:=?aW h2;exact#[#[h3.1,h3.2.1],c,?cr hc,?es]
def fS[?W][?as](k:Int)[?hn]:F6 ?cK:=by apply#[?_,?e7,?e7];{have:=JG (sp:=?aU) (ns:=?jK) ?nT ?ob;unfold nd at this ⊢;exact this.sublist (qv1 _ (qs7 ..))};{have:=(?du hq).2;simpa using this};have:=(Sa hq).1;ext d
set_option tactic.hygienic true in def V3.ok[?G][?a0](h:?py)[?as]:?BX:=by ext so;intro p hp;let ?fr:=?c5;have hi:=?e3;ext JI;apply#[λg hg=>(Sa hg).1,?_,λg hg q hq=>?_];{show F6 ?iE;split;{exact F6.nil};exact ?qI};let ?G5:=Sa hg;replace hq:q∈?iE:=hq;split at hq;{cases hq};rename_i e0;(have hik:?fU:=by by_cases hh:?fU;{exact hh};unfold Lat.numAt at e0;rw[?m hh]at e0;exact ?aI ?g e0);let#[_,d,hd,e2]:=Sa hq;(have h1:(?bS z l.1 G i c).natAbs<?jI:=Uf λj hj=>by rw[qb5,qe5];exact ?Lr ?oT bl.bG);have h2:=?zB i d ?tt hd;rw[e,e2];exact Lx h1 h2 ?zc
def B7.kd{H H':Hp}(s:∀c o,?vW):?F7| [],[],h=>h| ?gH,?cy,h=>by let#[?yY,h5]:=h;exact#[#[t,a,b,c,e,s _ _ h1 ?w0,s _ _ h2 ?eS,s _ _ h3 ?eS,s _ _ h4 ?eS,ne],B7.kd s h5]| [],?bM,h=>h.elim| ?bM,[],h=>h.elim
def V3.len[?G][?a0](h:?py)[?as]:ps.length<=40:=by ext so;unfold E6;rw[qa3,qk2];exact ?pm
abbrev pS(H:Hp)(d:Addr):Hp:=λa=>if a=d then none else H a
def Mu{H:Hp}{c d:Addr}(h:c≠d):pS H d c=H c:=?aN
def mV{H:Hp}{d:Addr}:pS H d d=none:=?y
def PR{H:Hp}{d:Addr}:?P ?zU H:=λc o e=>by by_cases h:c=d;{rw[h,mV]at e;cases e};rwa [Mu h]at e
def UC{O H:Hp}{d:Addr}(s:?tG)(h:?PJ O d):?P O ?zU:=λc o e=>by rw[Mu (Aq e h)];exact s c o e
structure Pr[?N][?cp](B:Hp)(p:Addr)[?a1][?bO]:Prop where
 ob:lR λdx P Lv Lf lu wu=>B p=?j (.ins C dx [(?z4,?w P),(?yn,?w Lv),("lifts",?w Lf)])/\Da (LT K B (?w P) xs) (B Lv=?KA lu) (Pt B lu (ls.map noB)) (B Lf=?KA wu) (Ge ?u1 B wu ?lX)
 sh:?bC
 len:?bF
 n4:?xv
 lev:∀(k:Nat) ps,?fl->V3 xs ?T ps
 tie:?oD
abbrev mG[?N]:Sp:=?Jk (Kc λ ?ld ?aD=>Bw ?mo ?pc ?bF (Q ?Fx H))
abbrev Zu[?N]:Sp:=?Jk (?PW ?u4)
abbrev Ux[?N]:Sp:=?Jk (?PW ?zf)
abbrev gR[?N][?cp]:Sp:=?Jk (lR λ(p dx a:Addr) ?ow (H0:Hp) ?aD=>NY (vs=[?bW,?a7]) (H p=?j (.ins C dx [])) ?sD (?bZ K H0 us ?Gp) (?P H0 H) (?PJ H0 a) (?PJ H0 p) ?bC ?bF (∀(B:Hp) [?bO] (H':Hp),SameX p H H'->?em->?P H0 B->?P B H'->?PJ B a->?rp))
abbrev Ps(O H:Hp)(v:V)(p:BPart):Prop:=∃t a b c,v=?ez/\(?PJ O t/\?PJ O a/\?Hp/\?gN)/\?Nz (?Pa ?e8)
def Ps.kd[?hr][?fd](h:?kJ)[?J3]:Ps O H' v p:=by let#[t,a,b,c,e,?y1,h1,h2,h3,h4]:=h;exact#[t,a,b,c,e,?y1,s _ _ n1 h1 ?w0,s _ _ n2 h2 ?eS,s _ _ n3 h3 ?eS,s _ _ n4 h4 ?eS]
abbrev Fe(O H:Hp)[?hq][?aR]:Prop:=?CE/\∀(i:Nat) v p,?eh->?pK->?kJ
def Fe.kd[?hr][?aV][?a0][?ls][?J3]:?yo :=#[h.1,λi v p e1 e2=>(?IB).kd s]
def Fe.same[?hr][?aV][?a0][?ls][?ff]:?yo:=h.kd λc o _ e _=>s c o e
def Ps.put{O H:Hp}[?cq]{us ws:?O}[?fd](h:?kJ)[?hg]:Ps O ?HT v p:=h.kd λc o _ e ho=>by rw[Al ?rz];{exact e};rw[z,hD]at e;cases e;rcases ho with⟨_,q⟩|⟨_,q⟩<;>cases q
def Fe.put{O H:Hp}[?cq]{us ws vs:?O}[?a0][?ls][?hg]:?NE ?HT:=#[h.1,λi v p e1 e2=>(?IB).put hD]
def Fe.snoc{O H:Hp}[?aV][?a0][?fd][?ls](hp:?kJ):Fe O H ?Hl ?rh:=by have h0:=h.1;apply#[?tQ,λi u q e1 e2=>?_];by_cases hi:?pv;{rw[?q5]at e1;rw[?eP]at e2;exact ?Lt u q};ext Il;(have q1:u=v:=?xM);(have q2:q=p:=?En);subst q1 q2;exact hp
def Pt.at{H:Hp}[?aV][?dY]{k:Nat}(h:?EJ)(hk:k<ls.length):∃a us ps,vs[k]?=?sA/\?fl/\?qQ:=by have h0:=h.1;have e1:vs[k]?=?j (vs[k]' ?i):=?eJ;have e2:ls[k]?=?j ls[k]:=qa0 hk;let ?AU:=h.2 k _ _ e1 e2;exact#[a,us,_,by rw[e1,e],e2,h1,h2]
abbrev Wg[?N][?cp]:Sp:=?Jk (?Nb (∀[?aR] (D:Addr) [?fh] (H':Hp),?rR->?Pe (Fe H H' us ?ay) ?c4))
universe Hb
namespace L2
open PySem PySem.Spec PyProof.Rows PySem.SeqAt
section
variable{X:Cx}
universe e9
universe L2
namespace Hb
open PySem L2
abbrev VZ(ms:Ms)[?dZ]:?gg| 0=>ms| ?x=>?w1
abbrev zGn[?a1](ms:Ms):?gg| 0=>[]| ?p=>VZ ?lc ?l0 ?qA ?oH
def IK(ms:Ms)(k v j:Int):Av ?br j=if j=k then v else ?hD:=by unfold Av;rw[CN];split<;>rfl
def mW(ms:Ms)[?fe](n k:Int):∀j,?On ?k8 ?l1 n| 0=>by simp[VZ,Ih]| ?x=>by have ih:=mW ms fs n k j;show ?On ?w1 (if ?eK=k then ?ib-2*?ru else ?l1) n;rw[IK];by_cases h:?eK=k;{rw[?j2,?ac,h,ih];unfold GS;by_cases h2:?ru=0;{rw[?iT,h2];rw[?Je (?ib-2*0=?ib),qq0];ext d};have h3:?ru=1:=O9m;rw[?eq,h3];rw[?Je (?ib-2*1=?l1+-1),qq0];ext d};rw[?m ?kq,?aN];exact ih
def TF[?au][?dZ]:∀j,nd ?k8| 0=>h| ?x=>kG (TF h fs n j) _ _
def kF[?a1](ms:Ms):∀i,nd ?lc| 0=>List.nodup_nil| ?p=>TF (?My kF) _ _ _
def Zj[?a1](ms:Ms)(y:Int):∀i,Av ?lc y=Av ?bR y| 0=>rfl| ?p=>by show Av (VZ ?lc _ _ _) y=Av (Hy ?bR _ _ _) y;rw[mW,cZ,Zj xs ms y i]
def jU[?ar][?J2](e:Int):?Ib=0:=by ext sb;by_cases he:e∈?jX;{let ?AA:=qg9 he;have:=h0 x hx;show ?Gd=0;rw[IW hl];apply ?h2 ?_ ?aB;unfold Lat.mulV;apply ?pS;unfold Gw;rw[show ?pR=e by rw[qa1,?jZ,ex];rfl,?nL]};ext Ih
def YK{ms:Ms}(hn:?b7)(h:∀e,Av ms e=0):?dG=[]:=by
 unfold E5;rw[List.filter_eq_nil_iff];intro p hp;have e1:?n4=p.2:=?Km hn hp
 rw[h]at e1;simp[←e1]
def OP[?ar][?J2]:E5 (zGn xs ?cK (?cK).length)=[] :=YK (kF _ _ _) λe=>by rw[Zj];exact jU hs h0 e
def PY[?G]{u v:?u}:wF ?G3 ?cK=?K3 (u c*v c) ?I:=by ext sb;(ext J6);have hz:=JI ?G3 hl _ ?v;rw[qj9 ?cX]at hz;show wF _ ?m1=_;rw[JJ,hz];apply ?pS;have hb:=?H8;(have e1:Av ?dm ?dt=u j:=by (ext Ip);ext JG);rw[e1,?nL]
structure B79[?Q](ms:Ms):Prop where
 len:?xQ
 part:∀q∈ms,?IH/\?K6 ?n9/\q.2≠0
structure JA[?a1][?aR]:Prop where
 rnd:∀p∈ps,E5 (zGn xs ?f3 ?zk)=[]
 mul:∀p∈ps,∀q∈ps,∀t∈q.2.1,?c6 (Av ?d2 t.1) t.2
 dual:∀(i j:Nat) p q,?pK->ps[j]?=?c9->wF ?ym q.2.1=?i0
abbrev Xt[?cn]:Sp:=?Jk (Kc λ ?c1 ?dW=>Bw ?kE ?dn ?db (?P3 ?dG))
abbrev MT[?bk](k0 z:Nat):?ae Nat:=(?ce z).filter λi=>?q ?IV
def xO[?Q](z k0:Nat)[?hd]:noB ?kV=?Mf ?p0 ?A6:=by unfold noB E6 MT;rw[qq9];rfl
def Rw[?bl]{k0 z i:Nat}(h:i∈?p0):i<z/\?IV:=by have:=?du h;exact#[?cr ?gm,qc9 this.2]
def tW[?bk](k0 z:Nat):(?p0).Pairwise (·<·):=?GS _ List.pairwise_lt_range
set_option tactic.hygienic true in def Ai1[?bl]{k0 i:Nat}(h:?Kl k0 (0<f x)):0<=?cg:=by unfold Lat.numAt;split;{rename_i q;exact Int.le_of_lt (h i q)};exact qx0 0
def V3.rounds[?G][?a0](h:?py)[?b3][?as]:JA xs ?ay:=by ext so;rw[xO];ext JI;(have bits:∀(P M:Lat.Mat),?LL z P->?LL ?I M->?Kc z ?I (?P5 z ?jI):=λP M h1 h2 i c hi hc=>Uf λj hj=>by ext JC);apply#[?bU,λp hp q hq t ht=>?_,λa b p q e1 e2=>?_];{let ?fr:=?c5;exact OP hs (bl.lev.round i)};{let ?fr:=?c5;let ?qB:=?aW hq;let ?G5:=Sa ht;(have b2:t.2.natAbs<?jI:=by rw[e];exact bits _ _ ?Bw bl.bL j c (Rw hj).1 hc);(have b1:(Av ?ia t.1).natAbs<?jI:=by unfold Av;cases eL:Cr ?ia t.1 with| none=>exact qs4 _| some v =>let#[_,d,hd,ed]:=Sa (Rv eL);show v.natAbs<_;rw[show v=_ from ed];exact bits _ _ ?oT bl.bG i d (Rw hi).1 hd);exact Lx b1 b2 ?zc};rw[qa7]at e1 e2;let ?fr:=qh1.mp e1;let ?qB:=qh1.mp e2;have hi':=(Rw ?qv).1;have hj':=(Rw ?ph).1;show wF ?CQ (?MZ j)=_;rw[PY,bl.lev.gauge bl.fin.dg.dl hi' hj'];have nd1:=?lg (tW f k0 z);let#[la,ea]:=?ag hi;let#[lb,eb]:=?ag hj;(have:i=j↔a=b:=by constructor;{intro e;rcases ql4 a b with h | h | h;{have:=nd1 a b la lb h;ext d};{exact h};have:=nd1 b a lb la h;ext d};intro e;subst e;exact qa9 (hi.symm.trans hj));by_cases q:a=b;{rw[?d7,?s (this.mpr q)]};rw[?bw,?La q (this.mp z)]
universe Hb
namespace L2
open PySem PySem.Spec PyProof.Rows
abbrev TY:Expr->?dI Int| .Constant ?eO _ _=>?j i| _=>none
abbrev v7:?mE->?dI ?n| []=>?j []| e::es=>match TY e,v7 es with| ?j i,?j is=>?j (i::is)| _,_=>none
abbrev YY(ns:?n):TA:=λ_ H Q=>Q ?dk H
set_option tactic.hygienic true in def ML{X:Cx}:∀[?eD]{ns:?n},?D4->PA X es ?IQ| [],ns,h=>by cases h;exact Ac| e::es,ns,h=>by unfold v7 at h;cases e1:TY e with| none=>rw[e1]at h;cases h| some i =>cases e2:v7 es with| none=>rw[e1,e2]at h;cases h| some is =>rw[e1,e2]at h;cases h;unfold TY at e1;split at e1;(case h_2=>cases e1);case h_1 =>cases e1;exact Aa Ak (ML e2)
structure PAw(X:Cx)(es:?mE)(t:TA):Prop where
 h:PA X es t
def SM{X:Cx}[?eD]{ns:?n}(h:?D4):PAw X es ?IQ:=#[ML h]
structure PEw(X:Cx)(e:Expr)(t:TE):Prop where
 h:PE X e t
def XD{X:Cx}[?aF]{sl:Expr}[?eD]{k:Nat}{p q:Pos}{ta:TA}{tsl:TE}(ha:PAw X es ta)(hsl:PE X sl tsl)(hpi:nO sl)[?sp] : PEw X (.Subscript (.Tuple es k p) sl q) (tOp (Ag1 K) (Ax9 ta) tsl):=by subst hK;exact#[Ba Be (De ha.h) hsl hpi]
universe L2
namespace Hb
open PySem L2
abbrev UT[?aR]:Nat:=(?NP ?II (?r=0)).length
abbrev twH[?aR]:?n:=(?NP ?II ?BW).map (·.1)
def nH[?G][?hh][?cl](h:?sI):(?kV).map (·.1)=?ku++?jV (z-k0) 0:=by unfold E6 Gm;rw[qi8];apply ?y6;rw[qa7];by_cases hi:?fU;{rw[qc3 (by rw[qa3,qk2];exact hi),qa7,qn4 hi,qn4 ?l];show ?j ?cg=?j ?bA;unfold Lat.numAt;rw[?i4]};rw[qd0 (by rw[qa3,qk2];ext d),qa3,qk2,qq6];by_cases hz:i<z;{rw[qn4 hz,?ck];show ?j ?cg=?kF;unfold Lat.numAt;rw[?m hi]};rw[qh9 (by rw[qk2];ext d),?R];rfl
abbrev nL(ns:LLInt):D:=?a2 (?iU λn=>?a2 (Fb n))
section
variable[?N]
abbrev cG[?cp]:Sp:=?Jk (?Nb (∀[?aR] (H':Hp),?rR->?a9->Q (?k ((UT ps:Nat):Int)) H'))
abbrev Zz[?cp]:Sp:=?Jk (?Nb (∀[?aR] [?hl],?rR->?b4->?a9->?cP=?PZ ((?rF).map ?a4)->?c4))
abbrev MG:Sp:=?Jk (Op λ(c:Addr) ?rU ?jE=>Bw (vs=[?d8,?k m]) (?O3 c ?dk) ?qT (∀(p:Addr) [?fh] (H':Hp) [?a1],?jb->?a9->?AD->?bZ K H' us ?Gp->?bC->?PA ns.length->Q ?bW H'))
universe e9
universe Hb
namespace Lat
open Hb
abbrev dgM(d:?u):Mat:=λi j=>if i=j then d i else 0
def uY{N:Nat}(d:?u)(p q:?u):?OI p q=?Jm (p i*d i*q i) N:=by unfold bil;apply ?j3;rw[?Kp hi (by unfold dgM;ext fZ)];unfold dgM;rw[?y,qd1]
def YN{N:Nat}(d:?u){x y:Nat}(hx:x<N):?OI (one x) (one y)=?Hz:=by rw[uY,?Kp hx (by ext av;rw[?gx,qe3,qe3])];ext av;rw[?y,qd8];by_cases h:x=y;{rw[?ac,?j2,ql7]};rw[?aN,?m ?kq,qd4]
def Y7(N:Nat):?LP N N (pT N one one a b):=λa b ha _=>by unfold pT;rw[?Kp ha (by ext av;rw[?dS,qe3])];ext av;rw[?y,qd8]
def HG(N:Nat):F0 N 0 one one:=λi j hi _=>by unfold pD;rw[?Kp hi (by ext av;ext sz)];ext av;rw[?ck,qd8];ext Ix
def YG(N:Nat)(d:?u)(hp:?uo):Dx N N N (?aE d N).toNat ?hW one one one one d :=#[?v,?v,λx y hx _=>YN d hx,hp,λx h1 h2 _=>O9m,?i,HG N,HG N]
def UX{n w N:Nat}{A r hh:Mat}{d:?u}[?JD](p q:?u) : ?KW p q=?OI (λi=>?Ji (p a*?gS) n) (λi=>?Hy):=by rw[uY];unfold bil;(have e:∀a,a<n->p a*?F8=?Jm (p a*?gS*?Ef) N:=λa ha=>by (have e1:?F8=?Jm (?gS*?Ef) N:=by rw[?LC hA,Bs];ext hk;rw[←Ax,←Ax];exact ?OL ?qr);rw[e1,←Ax];exact ?Ke ((?cL).symm));rw[Ad e,Bs];ext hk;rw[B9,qd1]
def Dx.hand{n w m E N:Nat}{A P PB Q QB g fl r hh:Mat}{f d:?u}[?hZ](hc:?Ed) (hp:?uo) (hd:ChainTo N N d) (hB:?Pc N N (?KW (g x) (fl y)=?Hz)) [?JD]:m=N/\?Kl m (f x=d x):=by have a1:=h.mn;have a2:=h.mw;have h':=YG N d hp;(have d2:?Pc m m (?OI (λi=>?wZ) (λi=>?th)=?A2):=?Kh (by rw[←UX hA,?g6 x y ?l ?l]));have e:m=N:=qj4 (h'.few ?tY ?tY (P':=?EU) (Q':=?um) d2 ?eR) (h.few hl hr hB hp);subst e;(have pe:∀k,k<=m->?hK=?aE d k:=λk hk=>by have p1:0<?hK:=?Mk (?eR j ?i);have p2:0<?aE d k:=?Mk ?pD;exact Int.le_antisymm (qm2 p2 (h.pdvd hl hr hc (?Kh (hB x y ?i ?i)))) (qm2 p1 (h'.pdvd ?u8 ?u8 hd (P':=?EU) (Q':=?um) (?Kh (d2 x y ?i ?i)))));apply#[?g,?wI];have e1:=pe x ?i;have e2:?aE f x*f x=?aE d x*d x:=pe (x+1) hx;have p1:0<?aE f x:=?Mk (?eR j ?i);rw[←e1]at e2;exact Int.eq_of_mul_eq_mul_left ?i e2
universe Lat
namespace Hb
open PySem L2
structure K8 where
 d:Int
 r:?V
 g:?V
 h:?V
 f:?V
abbrev Qa[?hp]:?c0->Int| []=>0| ?f9=>?j1
def GI[?hp]:∀cs ds,?Dd=?kc+Qa F ds| [],ds=>(qj7 _).symm| ?f9,ds=>by show F c+?Dd=?j1+Qa F ds;rw[GI F cs ds,qm3]
def Zq{F G:K8->Int}:∀{cs:?c0},(∀c∈cs,F c=G c)->?kc=Qa G cs| [],_=>rfl| ?f9,h=>by show ?j1=G c+Qa G cs;rw[h c ?aT,Zq λc hc=>h c (?PB hc)]
def gI[?hp](C:?NC K8):∀n,Qa F (?Mf ?g9 C)=?Jm (F (C i)) n| 0=>rfl| ?o=>by rw[qk4,qb0,GI,gI F C n];show _+(F (C n)+0)=_+_;rw[qg0]
def mD[?hp](e:K8):∀cs:?c0,?kc=?Jm (F (?f7 i e)) ?DH| []=>rfl| ?f9=>by show ?j1=?Jm (F ((?f9).getD i e)) (cs.length+1);rw[Lat.sumN_fst,mD F e cs];rfl
abbrev wB[?J]:?n->Int| []=>0| ?fH=>?rk
def rK[?J]:∀fs:?n,?jp=?Bu| []=>rfl| ?fH=>by show ?rk=?Jm (?dd*φ (?yk i 0)) (fs.length+1);rw[Lat.sumN_fst,rK φ fs];(have e:?Ju (sg ?x*φ (?yk ?x 0)) ?gW=-1*?Bu:=by rw[←Ax];ext hk;show sg ?p*φ ?bL=-1*?oi;(have:sg ?p=-1*?dd:=by unfold sg;ext d);rw[this,qd1]);rw[e];show _=sg 0*φ f+_;(have:sg 0=1:=?H);rw[this];ext d
def j5[?fe](e:Int):P1 fs e=?Op (?MA ind e):=by rw[rK];exact HX fs e ?gW where HX (q:?n) (f:Int):∀n,?mm=?Jm (?dd*ind ?FW f) n| 0=>rfl| ?o=>by have e:=HX q f n;show(if ?pn=f then ?mm+1-2*(?am%2) else ?mm)=?Pk _+sg n*ind ?pn f;rw[←e];unfold ind sg;by_cases h:?pn=f;{rw[?ac,?ac];ext d};rw[?aN,?aN];ext d
def Uq{φ ψ:?V}:∀[?fg],(∀f∈fs,φ f=ψ f)->?jp=?zY| [],_=>rfl| ?fH,h=>by show ?rk=ψ f-?zY;rw[?v3,Uq ?qE]
def jK[?J](t:?V):∀fs:?n,?tB=?Op (λx=>φ ?q0)| []=>rfl| ?fH=>by show ?FL-?tB=?FL-?Op _;rw[jK φ t fs]
abbrev bl[?Q][?lw]:Int:=?h (?O1 ?cV ?cV) ?b0
structure lQ[?Q](cs:?c0):Prop where
 told:∀q:Nat,?rc->?K6 ?cV->∀p:Int,?IC=Qa (λc=>c.r p*c.d*c.h ?b9) cs
 self:∀c∈cs,bl xs k c.g c.f=c.d
 apart:cs.Pairwise λa b=>bl xs k a.g b.f=0/\bl xs k b.g a.f=0
def Tf[?Q](F:?V):∀n,?KE (F (?OH ?ip b)) ?fv=?xG| 0=>rfl| ?o=>by show _=?xG+(if ?fx then F ?am else 0);rw[←Tf xs k F n];by_cases h:?fx;{rw[?ac,e9 h,qb7];show ?h _ ?fv+F (?OH ?wF ?fv)=_;congr 1;{apply Ad ?i7;rw[qa1,qc3 hb,←qa1]};rw[qa1,?eo,qh7];rfl};rw[?aN,EE h,qg0]
def cB{sp:?n}(hs:sp.Nodup)(g:?V):∀[?fg],(∀f∈fs,f∈sp)->?Ji ?vP ?d6=?Op g| [],_=>by show ?Ji (g ?cU*0) ?d6=0;rw[Ad (g:=?ao) λa _=>qd4 _,Nw]| ?fH,h=>by have ih:=cB hs g (fs:=fs) ?qE;show ?Ji (?Os f) ?d6=g f-?Op g;rw[←ih];(have e:∀a,a<sp.length->?Os f=(if ?cU=f then g f else 0)+-1*?vP:=λa _=>by rw[Int.mul_sub];unfold ind;by_cases z:f=?cU;{rw[?ak,?s ?c3,←z];ext d};rw[?ad,?m λy=>z y.symm];ext d);rw[Ad e,Cq,?aA hs ?v3,Ax];ext d
set_option tactic.hygienic true in def IL[?ar]{q:Nat}(hq:?rc){k:Int}(hk:?mD):∀f∈?cV,?NO f:=λf hf=>by (have e:xs[q]?=?j ?cV:=?N2 hq);have F:=hs q _ e;let ?z1:=?mO;have f0:=?zX;rw[qg8]at hp;split at hp;{rename_i hlt;apply Jr f0 ?i ?_;rw[qa1,hp,qu9];unfold lev at hl;unfold Cn at hk ⊢;split at hk<;>split<;>ext d};cases hp
def UY[?ar](k:Int)[?lw]:?NX (λa=>g ?bf) (λb=>f ?gk)=?y3:=by rw[Lat.bil_flip];unfold Lat.bil bl;have e:=Tf xs ?z (λq=>f q*wB g (?O6 ?bH)) ?b0;have e2:?Ki ?cV=?Ki (?M ((q:Nat):Int).toNat []):=rfl;rw[e2,←e];apply Ad ?i7;congr 1;let ?ii:=C3 (eE hb);change 0<=?gk at q0;change ?gk<_ at q1;show ?Ji (?PC ?z b*g ?bf) ?I=wB g (?KK ?gk);rw[←cB ?eI g (IL hs ?l q2)];apply ?ig;unfold Gw;rw[?l8,j5,qe8]
abbrev Og:K8:=#[0,?ao,?ao,?ao,?ao]
abbrev Chn(ds:?n):Prop:=ds.Pairwise λa b=>a∣b
def Yx.hand[?W]{j:Int}[?hh][?cl][?t0][?b3]{cs:?c0}(h:?Gf)(hp:∀c∈cs,0<c.d)(hc:Chn (?dA (·.d))):?dA (·.d)=?ku:=by (have eC:∀x,?yP->?mZ∈cs:=?MB (by rw[qa1,?jZ];exact ?HP));(have hA:∀a b,a<?dM->b<?p8->?PC ?x b=?Jm ((?gE).r ?pa*(?gE).d*?zj) ?DH:=?OU (by let ?ii:=C3 (eE hb);have:=?ih ?EP ?i q2 ?pa;rw[?L0 (((?EP:Nat):Int)=?jx)]at this;unfold Gw;rw[?zM,this,mD _ Og]));have hT:=?N4 j;have pw:=?lg h.apart;(have gE:∀x (hx:?yP),?mZ=cs[x]:=λx hx=>?Lu ?jZ);have key:=b.fin.dg.hand ?lQ ?Bb b.ch (N:=cs.length) (d:=λi=>(?gE).d) (g:=λx i=>?Ji ((?mZ).g ?pa*?gz) ?dM) (fl:=λy b=>(?f7 y Og).f ?jx) (r:=λi a=>?K3 (?d4*(?gE).r (?GH c 0)) ?dM) (hh:=λi b=>?zj) (?MB (hp _ (eC x hx))) (λa b ha hab hb=>by have:=?lg hc a b ?iK ?iK hab;rw[qr9,qr9]at this;show(?f7 a Og).d∣(?f7 b Og).d;rw[gE a ?l,gE b hb];exact this) (?Kh (by rw[←?Af (A:=?u0) (A':=?op) (U:=λa i=>?gz) (n:=z) (n':=?dM) (w:=?p8) hT,UY hs];rw[gE x hx,gE y hy];by_cases e:x=y;{subst e;rw[?y];exact h.self _ ?HP};rw[?bN];rcases Nat.lt_or_gt_of_ne e with q | q;{exact(pw x y hx hy q).1};exact(pw y x hy hx q).2)) (?OU (by show ?K3 (?d4*Gw xs ?x c b) ?dM=_;rw[Ad λc hc=>by rw[hA c b hc hb,←Ax],Bs];ext hk;rw[←B9,←B9];exact ?Kv ?qr));let#[?g,e]:=key;apply List.ext_getElem (by rw[qa3,F1]) λi h1 h2=>?_;rw[qa3]at h1;have:=e i h1;rw[qr9,←gE i h1,←this];simp only[Gm,qr9,List.getElem_range]
def Bl7{φ:?V}[?fg](h:∀f∈fs,φ f=0):?jp=0:=by rw[Uq (ψ:=?ao) h];induction fs with| nil=>rfl| cons f fs ih=>show 0-?Op _=0;rw[ih ?qE];rfl
def WH{F:?u}{t n:Nat}(h:?U<n):?Pk (λq=>F ?hP)=?Pk F:=by apply Lat.sumN_pair (p:=t) (q:=?U) ?i h ?i (λk _ h1 h2=>?_) ?_;{show F ?gU=F k;unfold V5;rw[?fB,?eq]};show F (V5 t t)+F (V5 t ?U)=F t+F ?U;unfold V5;rw[?y,?R,?y,qy4]
def Ut(t x:Int):?Ba=x:=?Ao
def Al6(t x p:Int):?v1=?H2:=by unfold ind;by_cases h:?rK=p;{rw[?ac,?s (by rw[←h,Ut])]};rw[?aN,?La h (by rw[z,Ut])]
def Us[?eA](q:Nat):?oQ=(?g4 ?hP []).map ?gn:=by rw[qa1,We h,qa1];cases ys[?hP]?<;>rfl
abbrev swC(t:Int)(c:K8):K8:=#[c.d,λp=>c.r ?gJ,λp=>c.g ?gJ,λq=>c.h ?h1,λq=>c.f ?h1]
def NH[?eA](k:Int)[?lw]:bl ?cQ k ?Ey (λq=>f ?h1)=bl ys k g f:=by unfold bl;rw[Wd h,←WH (F:=?O1 ?Id ?Id) h];apply Ad λq _=>?_;show(if ?K6 ?oQ then f ?yu*wB ?Ey ?oQ else 0)=_;rw[Us h,qa3,jK,Rm];rw[Uq (φ:=λx=>g ?Ba) (ψ:=g) λx _=>by rw[Ut]]
def MC[?hp](m:K8->K8):∀cs:?c0,Qa F (?dA m)=Qa (λc=>F (m c)) cs| []=>rfl| ?f9=>by show F (m c)+_=F (m c)+_;rw[MC F m cs]
def lQ.swap{ys:LLInt}{k:Int}{cs:?c0}{t:Nat}(h:?yV)(ht:?ka):lQ ?cQ k ?HA:=by apply ?xZ;{rw[Wd ht]at hq;rw[Us ht,qa3]at hk;(have hq':?hP<ys.length:=?or);rw[Us ht,j5,jK,Uq (φ:=λx=>?v1) (ψ:=λx=>?H2) λx _=>Al6 ..,←j5,?ih _ hq' hk,MC];apply Zq λc _=>?_;show _=c.r ?gJ*c.d*c.h ?yu;rw[Rm]};{let#[c',hc',?g]:=?aW hc;exact(NH ht k c'.g c'.f).trans (h.self c' hc')};exact ?oO (h.apart.imp λz=>#[?AG z.1,?AG z.2])
abbrev cL(k:Int)[?a1]:Nat:=(xs.filter ?wE).length
def MK[?Q]:∀n,n<=xs.length->?fv=cL k (?kv n)| 0,_=>rfl| ?o,h=>by (have e:?kv ?o=?kv n++[?Ce]:=by rw[qe1,?dp,qa1,?dp];rfl);have ih:=MK xs k n ?i;unfold cL at ih ⊢;rw[e,qi9,qb7,←ih];by_cases z:?fx;{rw[e9 z,qb7,qr0 ?gr];rfl};rw[EE z,qr1 ?gr];rfl
def ZF[?Q]:?I=cL k xs:=by show ?vc=_;rw[MK xs k _ ?v,qc8]
def WG[?eA](k:Int):cL k ?cQ=cL k ys:=by unfold cL Kt;rw[qq9,qa3];(have e1:((λx:?n=>?Mc x.length) ∘ λp=>?tm ?gn p)=?wE:=by funext x;show ?Mc ((?tm ?gn x).length)=_;rw[qa3]);rw[e1];(have e:ys=?zR:=by rw[qa1,qa0 ?GR,qa1,?dp];show ys=?hx++(ys[t]::ys[?U]::ys.drop (?U+1));rw[←qt8 h,←qt8 ?GR,List.take_append_drop]);(have p:(?gc).Perm ys:=by apply List.Perm.trans (l₂:=?zR) ?_ (by rw[←e]);unfold Ht;rw[qn0];exact(List.Perm.swap ..).append_left _);exact(p.filter _).length_eq
def Cz.hand[?af][?eC]{k:Int}{ds:?n}(hh:∃cs:?c0,?dA (·.d)=ds/\?Pn lQ cs):∃cs:?c0,?dA (·.d)=ds/\?yV:=by induction h with| refl=>exact hh| step t h1 h2 h3 ih =>let#[cs,e,c]:=ih;exact#[?HA,by rw[qi8,←e];rfl,c.swap h2]
def Cz.cL[?af][?eC](k:Int):Cj ys k=?I:=by rw[ZF,ZF];induction h with| refl=>rfl| step t h1 h2 h3 ih=>exact(WG h2 k).trans ih
universe Hb
namespace Lat
open Hb
def Dx.spread{n w m E:Nat}{A P PB Q QB:Mat}[?bl][?hZ]{i c:Nat}(hi:i<n)(hc:c<w):A i c=?NH (PB u i*f u) QB c:=by have mn:=h.mn;have mw:=h.mw;(have e0:?KW (one i) (one c)=A i c:=by unfold bil;rw[?vk,?Kp hc (by ext av;rw[?gx,qd4])];ext av;rw[?y,?y,qd8,ql7]);(have o1:∀(n:Nat) (B:Mat) (i u:Nat),i<n->?Ji (one i a*B u a) n=B u i:=λn B i u hi=>by ext Iq);rw[←e0,?nl (p':=λx=>?Pk (λu=>?Ji (one i a*PB u a) n*P u x)) (q':=?AH) (?N1 i) (?Lq Ur c),Pp];(have in1:∀u,u<n->?KW ?lD ?AH=if u<m then f u*QB u c else 0:=λu hu=>by rw[bil_flip,Pp];(have e2:?LD ?GG (QB u c):=λv hv=>by rw[←bil_flip,?BB,o1 w QB c v hc];ext Is);ext Ii);rw[Ad λu hu=>by rw[?wi,o1 n PB i u hi],?GW];exact ?M4 hu
universe Lat
namespace Hb
open PySem L2
abbrev qT[?Q][?hn](p:Int):Int:=if ?oY then v ((?aU).idxOf p) else 0
def fW[?G][?eG]{a:Nat}(ha:?hM):qT xs k v ?bf=v a:=by have hm:?NO ?bf:=eE ha;unfold qT;rw[?s hm];congr 1;have hl:a<?dF:=ha;rw[qa1,qa0 hl,qu9];exact(?eI).idxOf_getElem a hl
abbrev DI[?a1](j:Int)(z:Nat)[?hd](x:Nat):K8 :=#[f x,qT xs j ?qC,?HD,qT xs ?x ?p6,qT xs ?x ?n8]
def UW[?ar](k:Int){g f:?V}{P Q:?u}(hg:∀a,?hM->g ?bf=P a)(hf:∀b,b<?d0->f ?gk=Q b):?y3=?NX P Q:=by rw[←UY hs];exact Lat.bil_congr hg hf
def ix[?W]{k q:Int}(h:?lE):∃c,c<?I/\?GC=q:=?NU ?CA #[c,hc,by rw[qa1,qa0 hc,qu9,e]]
def Yx.cert[?W]{j:Int}[?hh][?cl][?t0][?b3]:∃cs:?c0,?dA (·.d)=?ku/\?Gf:=by have hT:=?N4 j;have kz:=b.kz;have kw:=b.kw;(have pq:∀x y,x<k0->y<k0->bl xs ?x (?j0).g (?Mu y).f=?A2:=?Kh (by show bl xs ?x ?HD (qT xs ?x ?rq)=_;rw[UW hs j (P:=?uX) (Q:=?rq) (λa ha=>fW ha) (λc hc=>fW hc)];rw[←b.fin.dg.diag x y ?l ?l];exact(?Af (A:=?op) (A':=?u0) (U:=G) (n:=?dM) (n':=z) (w:=?p8) (λ_ _ _ _=>rfl) (l.1 x) ?rq).symm));apply#[(?ce k0).map (DI xs j z L G f l r),by rw[qi8];rfl,?xZ];{rw[gI];let#[c,hc,ec]:=ix (Jr (xs:=xs) (k:=?x) (p:=?b9) ?i ?i (by rw[qe0];exact hk));by_cases hp:p∈?yx;{let ?Hi:=ix hp;(have e1:?IC=?PC ?x c:=by unfold Gw;rw[?zM,ec,ea,qe0]);(have e2:∀x,x<k0->(?j0).r p*(?j0).d*(?j0).h ?b9=?Jm (?gz*(l.2 x i*f x*r.2 x c)) z:=λx _=>by show ?L6 _;rw[←ea,←ec,fW ha,fW hc,←B9,←B9];exact ?Ke ?qr);rw[e1,hT a c ha hc,Ad e2,Bs];apply ?j3;rw[Ax,←b.fin.dg.spread ?lQ ?Bb hi hc]};rw[?eM λx _=>by show ?L6 0;unfold qT;rw[?m hp,qe3,qe3]];rw[j5];exact Bl7 λy hy=>?La hp (by rw[←z];exact IL hs hq hk y hy)};{let#[x,hx,?g]:=?aW hc;have hx':=?sP;rw[pq x x hx' hx',?y];rfl};ext J0;have hx':=?sP;have hy':=?xt;rw[pq x y hx' hy',pq y x hy' hx',?R,?R];exact ?i2
def Cz.num[?af](t:?eg)[?b3]{j:Int}{z k0 z' k0':Nat}{L G L' G':Lat.Mat}{f f':?u}{l r l' r':?eN}[?t0](b':Yx ys j z' k0' L' G' f' l' r'):?ku=Gm k0' f':=by let#[cs,e,h]:=t.hand (b.cert hs);rw[←e];apply b'.hand (t.shape hs) h ?v0 ?_;{have:c.d∈?dA (·.d):=qk1 hc;rw[e]at this;let#[i,hi,ei]:=?aW ?aB;rw[←ei];exact b.fin.dg.pos i ?e3};rw[e];ext J0;exact b.ch x y ?sP hxy ?xt
universe Hb
namespace Lat
open Hb
section
variable[?JP][?bl]
def turn_sum(il:?mX)(c d:Nat):?Bi=?Ji (?d4*L a d) z:=by (have e1:?Bi=?h (λi=>?Ji (?Oe ?Ha) z) z:=Ad λi _=>by show ?Ju (?dQ*G j c) z*?Ju (PB i j*L j d) z=_;rw[←B9];apply ?ig;rw[←Ax];exact ?rr);rw[e1,Bs];apply Ad ?Hb;rw[Bs];(have e2:∀b,b<z->?Jm ?Ha z=?vX*?Fy:=λb hb=>by rw[B9];congr 1;exact il b a hb ha);rw[Ad e2,?aA ha λb _ ne=>by rw[?dS,qe3],?y,qd8]
def gauge_edge[?si](ir:?pb){i c:Nat}(hi:i<z)(hc:c<w):?wy=numAt f k i*QB i c:=by (have e1:∀c',?fV=?Ju (?dQ*?zx) z:=λc'=>by (have:?fV=?Ji (?PG (?dQ*(?h6*?nK)) z) m:=Ad λa _=>by show ?Ju (?dQ*?h6) z*?nK=_;rw[←B9];exact ?Ko ?cL);ext co;exact ?oz);(have e2:∀y,y<w->?nV=?xW:=λy hy=>by rw[←dg.diag i y hi hy];unfold bil;(have:?nV=?h (λc'=>?Ju (?dQ*(?zx*?rj)) z) w:=Ad λc' _=>by rw[e1,←B9];exact ?Ko ?cL);ext co;exact ?Ko ?hQ);(have e3:?wy=?lk:=by (have h1:?lk=?Dq:=by (have:?lk=?h (λy=>?Kk ?xH) w:=Ad λy _=>by rw[←B9];exact Ad λc' _=>?dL);ext co;exact Ad λc' _=>?hQ);rw[h1];have h2:∀c',c'<w->?F6=?yL:=λc' hc'=>ir c c' hc hc';(have h3:?Dq=?Kk ?yL:=Ad λc' hc'=>by rw[h2 c' hc']);rw[h3,?aA hc λb _ ne=>by rw[?gx,qd4],?y,ql7]);(have e4:?lk=?h (λy=>?xW*?qU) w:=Ad λy hy=>by rw[e2 y hy]);rw[e3,e4];have mn:=dg.mn;have mw:=dg.mw;by_cases hw:i<w;{rw[?aA hw λb _ ne=>by ext fZ,?y];unfold numAt;by_cases hk:i<k;{rw[?s hk]};rw[?m hk,dg.zero i ?l hi hw]};rw[?aw λy hy=>by ext sz];unfold numAt;ext sz
universe e9
universe Lat
namespace Hb
open PySem L2
set_option tactic.hygienic true in def KR(n:Int):∀(ms:Ms) (k:Int),?Ml ?hV=n*?aH:=λms k=>by unfold Hl;split;{rename_i h;rw[h,qe3];rfl};induction ms with| nil=>rw[qr7,E4,qd4]| cons p ms ih =>rw[qd2,C8,C8,ih];show(if ?bs then ?fy else _)=_;split<;>rfl
def Rz[?G][?eF]{j:Nat}(hj:j<?I):Av ?dm ?dt=u j:=by
 ext J6
 have hb:=?H8;ext Ip
 ext JG
def Ga[?G][?eF]{p:Int}(h:p ∉ ?aU):Av ?dm p=0:=by apply Fj λhm=>h ?_;let ?wa:=?iB;exact(Zg hr).1
def Up[?J]:∀(ns ms:Ms),?b7->?OM ?bx ?w4| [],ms,_=>by show ?aZ=?aZ+0;rw[qg0]| p::ns,ms,h=>by show ?Oy ?iX;rw[Up φ ns _ (kH h ?r p.2),RJ φ h,Dp,qm3]
set_option tactic.hygienic true in def V6[?J](n:Int)(ms:Ms):?K1 ?hV=n*?aZ:=by unfold Hl;split;{rename_i h;rw[h,qe3];rfl};induction ms with| nil=>rw[qr7,Te,qd4]| cons p ms ih =>rw[qd2,Dp,Dp,ih];show ?fy*?gq+_=_;grind
abbrev VS[?J](q:Int)(p:BPart):Int:=if ?dx then ?LY ?d2*?K1 ?e8 else 0
abbrev lfL[?J](q:Int)[?aR]:Int:=(?cM (VS φ q)).sum
def pY{n:Nat}[?al][?JN](hg:?mg)[?hm][?J] : ?Of ?ty ((if g.1=q then g.2 else 0)*?vD):=by unfold lift1;rw[qa1,qo5];by_cases e:g.1=q;{rw[?s ?Cq,?s (by rw[h.1];ext d),?bB];show ?Oy (Ep _ _);have h1:=h.at ?oB;rw[Up φ _ _ h1.n,V6,e]};rw[?R,?bN,qe3,qg0,←qa1]
def CY{n:Nat}{fl:Ms}(hf:F6 fl)[?hm][?J]:?Pg (nd gs->(∀g∈gs,?mg) → ?Of ?DA (?LY gs*?vD))| [],lf,_,_,_=>by rw[List.foldl_nil,E4,qe3,qg0]| g::gs,lf,h,hn,hk=>by have hn2:nd gs:=(qg6.mp hn).2;have hg:g.1 ∉ gs.map (·.1):=(qg6.mp hn).1;rw[qs6,CY hf hq φ gs ?H1 hn2 ?pz,pY h hf g (hk g ?aT) hq,C8];by_cases e:g.1=q;{have e2:?P4 gs:=Fj (e▸hg);rw[?bB,?bB,e2];grind};rw[?bN,?bN];grind
def PX{n:Nat}[?al][?JW](hn:?sB)[?hm][?J] : ?Of ?o4 ?E5:=by unfold Q1 VS;split;{exact CY hp.fl hq φ _ h hn hp.gk};rw[qg0]
def cY{n:Nat}[?hm][?J]:∀[?aR] [?al],?dK->?tl → ?Of ?pN ?tD| [],lf,_,_=>by show _=_+0;rw[qg0];rfl| ?cy,lf,h,hp=>by have h1:=?vq;show ?Jy ?E1=_;rw[cY hq φ ps (h.part ?e1) (?N8 hp),PX h ?e1 h1.2 hq];show _=_+(?E5+?tD);rw[qm3]
def pX{n:Nat}[?dY](hok:?yB)[?hm][?J] : ?PH Cw ls ?Da:=by (have:∀[?bO] [?bP],?dK->?yB->?Of ?sM ?Da:=λls=>by induction ls with| nil=>intro lf _ _;show _=_+0;rw[qg0];rfl| cons ps ls ih =>intro lf h hk;have h1:=?FK;rw[qs6,?NS (λp hp=>(h1 p hp).1),cY hq φ ps h h1,qd2,qk3,qm3]);unfold Cw;rw[?aB ls _ (?Dx n) hok];(have e:?PH ?jV (([]:Ms)) 0:=by rw[qa1,qq6];split<;>rfl);rw[e,qj7]
def qC[?W](φ:?uN)(u:?u)(p:Int)(m:Nat):?az xs (λy=>?Ji (u a*φ a y) m) p=?Ji (u a*?az xs (φ a) p) m:=by unfold face;(have:∀n,?zZ=?Ji (u a*?PG ?GY n) m:=λn=>by (have e:?zZ=?Pk (λj=>?Ji (u a*?GY) m):=?Ko ?vl);rw[e,Bs];exact ?KB ?hQ);exact ?aB _
def KG{l:?n}(h:l.Nodup){i j:Nat}(hi:?yT)(hj:j<l.length)(e:l[i]=l[j]):i=j:=by have h1:=?lg h;rcases ql4 i j with q | q | q;{exact ?aI e (h1 i j hi hj q)};{exact q};exact ?aI ?es (h1 j i hj hi q)
def J6[?G][?eF](y:Int):Av ?dm y=?Ji (u a*mZ ?bf y) ?I:=by by_cases h:?NO y;{let ?kn:=qg9 h;(have e1:?dt=y:=?EI);rw[←e1,Rz hj,?vm (j:=j) hj λa ha ne=>?_];{unfold mZ;rw[?y,ql7]};unfold mZ;rw[?La ne ?_,qd4];have h1:=?eI;rw[qa1,qa1,?mU,?dH]at z;exact KG h1 ha hj ?c3};rw[Ga h];symm;apply ?eM ?Hb;unfold mZ;rw[?La h ?_,qd4];rw[z,qa1,?mU];exact qd7 ha
def uJ[?G][?eF]{c:Nat}:?az xs ?Ai ?GC=?Ji (u a*?PC k c) ?gI:=by have e:?Ai=λy=>?Ji (u a*mZ (?s8 a 0) y) ?gI:=funext λy=>J6 y;rw[e,qC];exact ?KB (by rw[mY];rfl)
def sumN_cut[?bk](a:Nat):∀b,?Hs=?oP+?Jm (f (a+i)) b| 0=>by show ?oP=?oP+0;rw[qg0]| b+1=>by show ?Hs+f ?oq=_+(_+f ?oq);rw[?fs f a b,qm3]
def Rn(φ:?u):∀z,(?vd φ).sum=?BE| 0=>rfl| z+1=>by rw[qk4,qb0,List.sum_append,Rn φ z];show _+(φ z+0)=?BE+φ z;rw[qg0]
def mP(φ:BPart->Int):∀ps:?bI,(?cs φ).sum+(?cM λb=>if b.1=1 then φ b else 0).sum=(?cM φ).sum| []=>rfl| ?cy=>by have ih:=mP φ ps;unfold noB at ih ⊢;rw[qj1,qd2,qd2,qk3,qk3];by_cases h:?dx;{rw[?m ?kb,?ac];ext d};rw[?s ?kb,?aN,qd2,qk3];ext d
def gH{α:Type}(F:α->Int):∀(l:?hB) (k:Nat) (a:α),l[k]?=?j a->(∀j b,l[j]?=?j b->j≠k->F b=0)->?lB=F a| [],k,a,e,_=>?Fa| x::l,0,a,e,h=>by have e:x=a:=qa9 e;subst e;rw[qd2,qk3];(have:?lB=0:=by (have:∀(l:?hB),(∀b∈l,F b=0)->?lB=0:=λl=>by induction l with| nil=>intro _;rfl| cons y l ih=>intro hl;rw[qd2,qk3,hl y ?aT,ih λb hb=>hl b (?PB hb)];rfl);apply ?aB l ?i7;let#[j,hj]:=qf5 hb;exact h ?x b hj ?i);rw[this,qg0]| x::l,?z,a,e,h=>by rw[qd2,qk3,h 0 x ?g ?l,gH F l k a e λj b hj ne=>h ?x b hj ?l,qj7]
def BI{α:Type}{F G:α->Int}:∀{l:?hB},(∀b∈l,F b=G b)->?lB=(l.map G).sum:=λ{l} h=>by rw[qn3 h]
def uW[?ar]{k:Int}[?eG](e:Int):?Ib=Av (Mv xs ?cO (?pF ?I ?lN v)) e:=by ext sb;by_cases he:e∈?jX;{let ?AA:=qg9 he;(have e1:?pR=e:=by rw[qa1,?jZ,ex];rfl);rw[←e1,Rz (k:=?cO) hx,e1];show ?Gd=_;rw[IW hl];unfold Lat.mulV;apply ?pS;unfold Gw;rw[e1,?nL]};rw[Ga he];ext Ih
def BL[?G]{u v:?u}(h:∀a,?hM->u a=v a)(e:Int):Av ?dm e=Av ?cK e:=by rw[J6,J6];exact ?MQ h
section
variable[?ha]
def Me.lev[?sm]{j:Nat}[?a0](e:?OR j):j<4/\ps=?At/\?AN:=by ext Iw;exact#[hj,?g,_,_,_,_,_,_,_,h1,?g]
def Me.ok[?sm][?as]:∀ps∈ls,∀p∈ps,?EL/\?sB:=λps hps p hp=>by let#[j,hj]:=qf5 hps;let#[_,e,lv]:=?B9;apply#[lv.ok Db p hp,?_];rw[e]at hp;let ?n3:=?c5;exact(?qI).n
def eT[?cD][?lp][?J] : ?K1 ?dj=?Jm (VS φ p ?cv) ?aS:=by have h3:=C3 hp;rw[pX (t.ok Db) h3.1,gH (lfL φ p) ls k _ (?hE).2 λj b hj ne=>?_];{unfold lfL E6;rw[qi8,←Rn];rfl};let#[hj4,?g,_]:=?B9;unfold lfL;rw[BI (G:=?ao) ?i7];{(have:∀(l:?bI),(l.map ?pw).sum=0:=λl=>by induction l with| nil=>rfl| cons a l ih=>rw[qd2,qk3,ih];rfl);exact ?aB _};let ?n3:=?q2;unfold VS;have:Av (Dh xs ?cf ?mv ?g7 ?pA ?rG ?qW ?rH ?ga i).2.2.1 p=0:=Ga λz=>ne (by have:=(C3 z).2.2;rw[h3.2.2]at this;ext d);rw[this,qe3];split<;>rfl
def n6[?sm][?as](p:Int):F6 ?dj:=by (have:∀[?bO] [?bP],G8 ?b0 lf->?u2->G8 ?b0 ?sM:=λls=>by induction ls with| nil=>intro lf h _;exact h| cons ps ls ih=>intro lf h hk;exact ?NS ?FK);exact(?aB ls _ (?Dx _) λps hps p hp=>(t.ok Db ps hps p hp).1).at _
universe e9
abbrev cN(ms:Ms)(n:Int)(ns:Ms):?gg| 0=>ms| ?p=>?fR ?dE ?nF ?yh
def tG[?au](n:Int)(ns:Ms):∀i,nd ?dE| 0=>h| ?p=>kG (tG h n ns i) _ _
def kM(ms:Ms)(n:Int)(ns:Ms):∀i,?KP ?dE ?vJ| 0=>?v| ?p=>by have h1:=kM ms n ns i;have h2:=mR ?dE ?nF ?yh;show ?LM ?fR;ext d
def kT(ms:Ms)(n:Int){ns:Ms}(hn:?j6)(k:Int):∀i,?IX->?On ?dE n ?Ca| 0,_=>by show ?aH=?aH+n*?kl;rw[E4,qd4,qg0]| ?p,hi=>by have ih:=kT ms n hn k i ?i;(have e:?k3=?de:=?gA);show ?Ml (?fR ?dE _ _)=_;(have hnt:nd ?lY:=by unfold nd at hn ⊢;rw[qo4];exact hn.sublist (List.take_sublist ..));rw[e,IK];by_cases z:k=?jH;{subst z;rw[?y,kT ms n hn ?jH i ?l];have h1:Av ?rB ?jH=0:=Fj (by unfold nd at hnt;rw[qe1,?dU,qb0,qu2]at hnt;intro hm;exact hnt.2.2 _ hm _ (qk7.mpr ?g) ?g);(have h2:Av ?lY ?jH=ns[i].2:=by unfold Av;rw[F9 hnt (p:=?de) (qb2 (i:=i) (by rw[qg8,?ck,?dU]))];rfl);rw[h1,h2,qd4,qg0]};rw[?ad,ih];(have h3:?Ml ?lY=?Ca:=by rw[qe1,?dU];(have:∀(l:Ms),?Ml (l++[?de])=?Ml l:=λl=>by induction l with| nil=>show ?Ml (?de::[])=?kl;rw[C8,?m ?om]| cons a l ih=>rw[List.cons_append,C8,C8,ih]);exact ?aB _);rw[h3]
abbrev gO[?cn]:Sp:=?Jk (Yd λ ?bb ?am ?qZ=>aV (?Or ?ed ?cN) ?dn ?uU ?b7 ?j6 (?OP 400) (?OO 400) ((∀q∈ns,?c6 n q.2)) (?P3 ?gP))
def kK{ms ns:Ms}(hm:?b7)(hn:?j6)(n k:Int):?Ml ?gP=?aH+n*?Ml ns:=by have:=kT ms n hn k ?h4 ?v;rw[qc8]at this;rw[KS (tG hm n ns _),this]
def PD(n:Nat)[?bO]:(Cw n ls).length=n:=by (have h1:∀(fl gs:Ms) [?bP],?KM ?DA lf.length:=λfl gs=>by induction gs with| nil=>intro lf;rfl| cons g gs ih=>intro lf;rw[qs6,ih];unfold lift1;rw[qi4]);(have h2:∀[?aR] [?bP],?KM ?pN lf.length:=λps=>by induction ps with| nil=>intro lf;rfl| cons p ps ih =>intro lf;show ?KM ?E1 _;rw[ih];unfold Q1;split;{exact h1 _ _ _};rfl);(have h3:∀[?bO] [?bP],?KM ?sM lf.length:=λls=>by induction ls with| nil=>intro lf;rfl| cons p ps ih=>intro lf;rw[qs6,ih,h2]);unfold Cw;rw[h3,qk5]
def TV{ms:Ms}{k v x:Int}(h:x∈(?br).map (·.1)):x∈?aa (·.1)\/x=k:=by by_cases e:x=k;{exact ?S e};apply ?t ?_;let ?rV:=?it;unfold putI at hp;split at hp;{let ?g0:=?c5;apply ?iM #[q,hq,?_];split<;>rfl};ext su;{exact qk1 h};exact ?aI (by rw[qk7.mp h]) e
def tZ{ms:Ms}(h:?hy){k v:Int}(h0:?fF)(h1:k<40):inK ?br:=?MT (by rcases TV (qk1 hp) with h2 | h2;{let ?IS:=?aW h2;rw[←e];exact h q hq};rw[h2];exact ?ge)
def TZ{ms:Ms}(h:?hy)(n:Int){ns:Ms}(hn:inK ns):∀i,?IX->inK ?dE| 0,_=>h| ?p,hi=>by (have e:?k3∈ns:=?HE);exact tZ (TZ h n hn i ?i) (hn _ e).1 (hn _ e).2
def Ap9[?au](hk:?hy):F6 ?dG:=by apply#[?_,?bU,?MT (hk p ?s0)];{unfold nd at h ⊢;exact h.sublist ?CH};have:=(?du hp).2;ext da
def F6.lp[?st](n:Int):F6 ?gP:=Ap9 (tG h1.n n ns _) (TZ h1.k n h2.k _ ?v)
def Ad3[?a1](ms:Ms)(q:Int):?LY (E5 (zGn xs ms ?sS))=?LY ?bz:=by rw[KS (kF xs ms _),Zj];rfl
section
variable[?ha]
def tP[?cD][?lp]:B79 xs ?b2 ?dj:=by have ok:=?mj;apply#[ok.len,?e7];(have e1:Av ?dj q.1=q.2:=?Km ok.n hq);have hz:=ok.z q hq;(have hm:?A5:=by by_cases h:?A5;{exact h};apply ?aI ?_ hz;rw[←e1,←bZ q.1 ok.n,?wB];apply ?eM ?yg;unfold VS;split;{(have:wF ?xJ (?cv).2.2.2=0:=by show wF ?xJ ?on=0;split;{rfl};rw[bZ q.1 (?qI).n];exact Ga h);rw[this,qd4]};rfl);have:=C3 hm;exact#[#[?gm,?fk],?rm,hz]
def TX:∀z,?s1->kB z<=8000:=?H
universe e9
def wY[?G]{a j:Nat}(ha:?hM)(hj:j<?I)(h:?bf=?dt):a=j:=by rw[qa1,qa1,?mU,?dH]at h;exact KG ?eI ha hj h
def JV[?W]{k q:Int}(h:?lE):∃j,j<?I/\?dt=q:=?NU ?kn #[j,hj,?EI]
def jJ[?G][?J]:∀{c:Ms},nd c->(∀p∈c,?nz)->?jL=?Ji (?dy*?kP) ?I| [],_,_=>by rw[Te];exact(?eM λa _=>by rw[E4,qe3]).symm| ?dD,h,hk=>by have hn:?r ∉ c.map (·.1):=(qg6.mp h).1;have hc:nd c:=(qg6.mp h).2;let ?kn:=JV ?A0;(have e2:?Ji (Av ?dD ?bf*?kP) ?I=?Ji ((if a=j then ?oC else 0)+?dy*?kP) ?I:=Ad λa ha=>by rw[C8];by_cases z:a=j;{subst z;rw[ej,?y,?y,Fj hn,qe3,qg0]};rw[?ad,?m λy=>z (wY ha hj (y.symm.trans ej.symm)),qj7]);rw[Dp,jJ φ hc ?Hx,e2,Cq,?vm hj λa _ ne=>?dS,?y]
structure ChL[?Q](m:Ms):Prop where
 ok:F6 m
 lv:∀q,q ∉ ?aU->?P4 m
def F6.val{m:Ms}(h:F6 m)[?ly](hp:p∈m):Av m ?r=p.2:=?Km h.n hp
def ChL.key[?G][?t3]:∀p∈m,?nz:=?MT (by by_cases q:?nz;{exact q};exact ?aI ((h.ok.val hp).symm.trans (h.lv _ q)) ?DU)
def ChL.nil[?Q]:?K4 []:=#[F6.nil,λq _=>E4 q]
def pW[?st](q:Int):?LY ?bx=?LY ms+?LY ns:=(?Ie).2.2.2 q
def ChL.plus[?G][?sg]:?K4 ?bx:=#[h1.ok.plus h2.ok,λq hq=>by rw[pW h1.ok h2.ok,?ws,?EV];rfl]
def ChL.times[?G]{ms:Ms}(h:?ye)(n:Int):?K4 ?hV:=#[h.ok.times n,λq hq=>by rw[KR,h.lv q hq,qd4]]
def ChL.lp[?G][?sg](n:Int):?K4 ?gP:=#[h1.ok.lp h2.ok n,λq hq=>by rw[?wb,?ws,?EV,qd4];rfl]
def ChL.ch[?W][?as](k:Int)[?hn]:?K4 ?cK:=#[fS Db k v,λq hq=>Ga hq]
def ChL.wF[?G][?t3][?J]:Hb.wF φ m=?Ji (Av m ?bf*?kP) ?I:=jJ φ ?pq h.key
def Zl[?G]{g c:Ms}(hg:?K4 g)(hc:?cF):wI g c=wF (Av g) c:=by show wF ?iq g=_;rw[hg.wF,hc.wF];exact ?KB ?gu
section
variable[?G][?hh][?cl]
def OO(b:?qj){c:Ms}(hc:?cF)(h0:?eu)(q:Int) : ?el=?Jm (wF (Av (?kQ).2.2.1) c*?vw) z:=by show _=?Jm (?vo*?ti) z;by_cases hq:?lE;{let ?uH:=JV hq;(have e1:?Jm (?vo*Av ?q1 (?k0 d 0)) z=?h (λi=>?Ji (?Ny d) ?I) z:=?Ke (by rw[hc.wF,Rz hd,←B9];exact Ad λa ha=>by rw[Rz ha,qd1]));(have e2:?Ji (?h (λi=>?Ny d) z) ?I=?Ji (?PG (?dy*(?h6*L j d)) z) ?I:=?KB (by rw[Ax,Ax,Lat.turn_sum (P:=l.1) (PB:=l.2) ?lQ]));have e3:=b.lev.all (λa=>?dy) (?MB (by have:=h0 ?pR;rw[Fv,hc.wF]at this;apply ?h2 ?ig ?aB;exact ?gu)) d hd;rw[e1,Bs,e2,Bs];apply e3.trans (?Ko ?_);rw[←B9];exact ?KB (by show ?h6*?dy*L j d=_;rw[qe8 ?h6,qd1])};rw[hc.lv q hq];exact(?eM λi _=>by rw[Ga hq,qd4]).symm
def iL[?eF](n q:Int):?LY (Mv xs k λa=>n*u a)=n*?w8:=by rw[J6,J6,←Ax];exact ?KB ?cL
def DC[?b3](b:?qj){i:Nat}(h1:?cg≠0)(q:Int) : wF ?G9 (?kQ).2.2.2=(?kQ).1*?vw:=by (have hi:?fU:=by by_cases h:?fU;{exact h};unfold Lat.numAt at h1;rw[?aN]at h1;ext d);have hf:?cg=?bA:=?i4;show wF _ ?iE=?cg*?ti;rw[?fB,←Fv,uW hs,?l8,hf,←iL];exact BL (λa ha=>b.lev.filling (ET hs k) b.fin.dg ?lQ hi a ha) q
universe e9
def wF_sumN(A:?uN)(z:Nat):∀c:Ms,wF (λp=>?Jm (A i p) z) c=?Jm (wF (A i) c) z| []=>(?eM λi _=>rfl).symm| ?dD=>by rw[Dp,wF_sumN A z c,←Ax,←Cq];exact ?Ke ((Dp ..).symm)
def LW[?J](n:Int):∀c:Ms,wF (λp=>φ p*n) c=?jL*n| []=>(qe3 n).symm| ?dD=>by rw[Dp,Dp,LW φ n c,qq0,qd1]
def oA{φ ψ:?V}{c:Ms}(h:∀p∈c,?gq=ψ ?r):?jL=wF ψ c:=by unfold wF;rw[qn3 λp hp=>by rw[h p hp]]
abbrev cO[?bP](acc:Ms)(p:?an):Ms:=Ep acc ?CD
abbrev Ij[?bP](c:Ms):Ms:=?pC ?rY []
def KL[?al]{c:Ms}{i:Nat}[?ly](h:c[i]?=?f4):Ij lf (c.take ?p)=Ep (Ij lf (c.take i)) ?CD:=by unfold Ij;rw[qe1,h,qo6];rfl
def Vf[?G][?al]:∀{c acc:Ms},?zJ->?gF->?K4 ?AQ| [],acc,_,h=>h| ?dD,acc,hl,h=>Vf (c:=c) ?jv (?oy ?uI)
def iF[?G][?al][?J]:∀{c acc:Ms},?zJ->?gF->?K1 ?AQ=?wJ+wF (λp=>?K1 (?g8 ?hA [])) c| [],acc,_,h=>?sL| ?dD,acc,hl,h=>by show ?Oy (?pC ?rY ?BS);have h1:=?uI;rw[iF φ (c:=c) (acc:=?BS) ?jv (?oy h1),Dp];show ?K1 (Ep acc _)+_=_;rw[?BZ,V6,qm3]
abbrev b8(c:Ms)(acc:Ms)(b:BPart):Ms:=if ?fM then acc else Ep acc (Hl ?s9 ?e2)
abbrev restB(c:Ms)[?aR](acc:Ms):Ms:=?DC (b8 c) acc
def JU{c acc:Ms}[?a0]{i:Nat}{b:BPart}(h:?Lp ps b):?gK c ?Ga acc=b8 c (?gK c ?i9 acc) b:=by unfold restB;rw[qe1,h,qo6];rfl
def gZ[?G]{c acc:Ms}{b:BPart}(hb:?x5)(h:?gF):?K4 ?DV:=by unfold b8;split;{exact h};exact ?oy (hb.times _)
def c6[?G]{c:Ms}:?P8 (?gF->?K4 ?tn)| [],acc,_,h=>h| b::ps,acc,hl,h=>c6 (ps:=ps) ?jv (gZ ?u3 h)
def GZ[?G]{c:Ms}[?J]:?P8 (?gF->?K1 ?tn=?wJ+(?cM λb=>if ?fM then 0 else ?s9*?K1 ?e2).sum)| [],acc,_,h=>?sL| b::ps,acc,hl,h=>by have hb:=?u3;show ?Oy (?gK c ps ?DV);rw[GZ φ (ps:=ps) ?jv (gZ hb h),qd2,qk3,←qm3];congr 1;unfold b8;split;{exact ?sL};rw[?BZ,V6]
abbrev Of(c:Ms)(b:BPart):Int:=if ?fM then ?e9 else ?e9%b.1
section
variable[?ha]
def Oa[?cD][?lp]:?LK ?dj:=by have ok:=?mj;apply#[ok,?e7];have lv:=?PI tP hp;by_cases h:?tz=0;{exact h};let#[u,hu,eu]:=?aW (z9 h);have:=lv.part u hu;exact ?aI (Jr (by rw[←eu];exact this.1.1) (by rw[←eu];exact this.1.2) (by rw[←eu];exact ?fk)) hq
def pF[?b3][?cD]{c:Ms}[?hi](q:Int) : ?L1 ?qa q=?wV:=by rw[Fv];unfold Ij;rw[iF (xs:=xs) (k:=?b2) _ ?DK ?m0,Te,qj7];have e1:wF (λp=>wF ?yz ?dj) c=wF (λp=>?Jm (VS ?yz p ?cv) ?aS) c:=oA λp hp=>eT t Db hk ?zK _;rw[e1,wF_sumN];ext hk;unfold VS;by_cases h:?xU;{rw[?ac];simp only[h,if_true];rw[LW,DC hs ?gO (by show ?iW _ _ _≠0;have:?e6=1:=h;ext d),h,qd8]};rw[?aN];simp only[h,if_false];exact DR ?ap
def rN[?b3][?cD][?a0][?lr]{c:Ms}[?hi](h0:?eu)(hf:∀b∈?ay,?LK ?e2)(q:Int) : ?L1 (?gK c ?ay ?qa) q+(?cs ?oe).sum=?el:=by let#[bl,e]:=?hE;rw[e]at hp;cases hp;have hl:?LK ?qa:=Vf ?DK ?m0;rw[Fv,GZ _ hf hl,←Fv,pF hs t Db hk hc,OO bl hc h0 q,qm3];generalize hB:E6 xs ?T ?aS ?eQ ?yM ?q6 ?jc ?m4 ?j5=ps;(have mem:∀b∈ps,b.1≠0->?vG=b.1*?gt:=λb hb h=>by rw[←hB]at hb;let ?n3:=?q2;exact DC hs bl h q);(have s1:?Jm (?lA*?PD ?cv) ?aS=(?cM ?qp).sum:=?uV);(have s2:?wV=(?cM λb=>if b.1=1 then ?pB else 0).sum:=?uV);rw[s1,s2,←mP ?qp ps,qy4];congr 1;(have:∀qs:?bI,(∀b∈qs,b∈ps)->(?o9 λb=>?I6).sum+(?o9 ?oe).sum=(?o9 ?qp).sum:=λqs=>by induction qs with| nil=>intro _;rfl| cons b qs ih =>intro hm;have ih:=ih (?N8 hm);simp only[qd2,qk3];(have hb:?I6+Of c b*?gt=?pB:=by unfold Of;by_cases h:?fM;{rw[?ac,?ac,qj7]};rw[?aN,?aN,mem b (hm b ?aT) h];have:=Int.mul_ediv_add_emod ?e9 b.1;generalize ?e9=w at this;rw[←qd1,←qq0,qe8 (w / b.1),this]);ext d);exact ?aB _ λb hb=>?AL
universe e9
structure DP(xs ys:LLInt)(os:?n)(t s:?V):Prop where
 ts:∀q,t ?ea=q
 st:∀q,s ?bE=q
 old:∀q:Nat,?rc->os[q]?=?j (t ?b9)
 rng:∀q,(0<=q/\q<?be)↔(0<=?bE/\?bE<?be)
 lev:∀q,0<=q->q<?be->Cn (?g4 ?bH []).length=Cn (?KK ?bE).length
 bl:∀(k:Int) [?lw],bl ys k ?BR ?ul=bl xs k g f
def MB{n:Nat}{t:Nat}(h:?U<n)(q:Int):(0<=q/\q<?am)↔(0<=?h1/\?h1<?am):=?Ao
def oJ[?JR](q:Nat):?ji[q]?=os[?hP]?:=by unfold Pw V5;(have ht:?KM ?ta t:=?x1);by_cases h1:q<t;{rw[?R,?R,qn0,?eP,qg8,?jg]};rw[qn0,qd0 ?l,ht];by_cases h2:q=t;{rw[?iT,h2,qh7,qa1,?dp];rfl};rw[?eq];by_cases h3:q=?U;{rw[?pG,h3,?Gx,qa1,?OV t];show ?j ?qY=_;rw[qa1,?OV t];rfl};rw[?hO,?Je (q-t=?qM+2)];show ?vp[?qM]?=_;rw[qq7,?Je (?en+?qM=q)]
def Cz.mov[?af][?eC]:∃t s,?kN:=by induction h with| refl=>exact#[id,id,?H0,?H0,λq hq=>lY hq,λ_=>Iff.rfl,?AZ,?AZ]| @step ys os n h1 h2 h3 ih =>let#[t,s,m]:=ih;have l:=h1.len;rw[l.1]at h2;apply#[λq=>t (K9 n q),λq=>?wh,?dV,?dV,?e7,?dV,λq h0 hq=>?_,λk g f=>?_];{show t (K9 n ?wh)=q;rw[Ut,m.ts]};{show K9 n (s (t (K9 n q)))=q;rw[m.st,Ut]};{rw[oJ ?l];show _=?j (t (K9 ?am ?b9));rw[Rm];exact m.old _ ?or};{exact(MB h2 q).trans (?iA _)};{have hr:=(MB h2 q).mp #[h0,hq];rw[←m.lev _ hr.1 hr.2,Us ?l,qa3];obtain⟨u,rfl⟩:∃u:Nat,q=(u:Int):=#[?bH,?i];rw[Rm];rfl};exact(NH ?i k ?BR ?ul).trans (m.bl k g f)
def ChL.bord[?ar]{k:Int}[?t3](q:Int):?De=?jz xs k (?MA ind q) (Av m):=by rw[Fv,h.wF];have e:=Tf xs k (λp=>Av m p*?wn) ?b0;apply ?h2 e (Ad λp _=>?_);rw[j5];rfl
abbrev JB[?Q](f:?V):Prop:=∃F:?V,∀p,f p=?jz xs ?z (?MA ind p) F
def JB.of[?ar]{k:Int}{c D:Ms}(h:?v2)(e:∀q,?El=?el):?BP:=#[Av D,λp=>by rw[←e,?Hq]]
set_option tactic.hygienic true in def JB.ch[?ar][?as][?lz](h:?BP):∃D,?v2/\?uj:=by let#[F,e]:=h;have hc:=ChL.ch Db ?z (λa=>F (?r6 a 0));apply#[_,hc,?dV];rw[e,hc.bord hs];apply Ad ?bU;split;{rename_i hl;let ?Hi:=ix (Jr (xs:=xs) (k:=?z) (p:=(p:Int)) ?i ?i (by rw[qe0];exact hl));rw[←ea,Rz ha]};rfl
section
variable[?af]{t s:?V}
def DP.ind[?t5](x q:Int):ind x q=ind ?q0 ?bE:=by unfold Hb.ind;by_cases h:x=q;{rw[?ac,?s (by rw[h])]};rw[?aN,?La h (by rw[←m.st x,z,m.st])]
def DP.blt[?t5](k:Int)(q:Int)(f:?V):?PF ys q (λx=>f ?q0)=?PF xs ?bE f:=by rw[←m.bl];congr 1;funext x;exact m.ind x q
def DP.bd[?t5]{k:Int}{f g:?V}(e:∀q,g q=f ?bE):?Pn JB f↔JB ys k g:=by constructor;{rintro ⟨F,h⟩;exact#[λq=>F ?bE,λp=>by rw[e,h,m.blt]]};rintro ⟨F,h⟩;apply#[?Ds,λp=>?_];have h1:=m.blt ?z (s p) ?Ds;rw[m.ts]at h1;rw[←h1,←m.ts p,←e,h,m.ts];congr 1;funext q;rw[m.st]
universe e9
abbrev movC(s:?V)(c:Ms):Ms:=c.map λp=>?zL
def DP.get[?af][?eB]:∀(c:Ms) (q:Int),?LY ?cS=Av c ?bE| [],q=>by rw[E4];exact E4 q| ?dD,q=>by show ?LY (?zL::?cS)=_;rw[C8,C8,?yR];by_cases h:s ?r=q;{rw[?ac,?s (by rw[←h,m.ts])]};rw[?aN,?La h (by rw[z,m.st])]
def DP.rngs[?af][?eB]{q:Int}(h0:0<=q)(h1:q<?be):0<=?ea/\?ea<?be:=(?iA ?ea).mpr (by rw[m.ts];exact ?ge)
def DP.plc[?af][?eB][?lq]{k q:Int}:q∈plc ys k↔ ?NO ?bE:=by constructor;{intro h;let ?FU:=C3 h;rw[hl]at h1;have hr:=(?iA q).mp ?ge;exact Jr hr.1 hr.2 (by rw[←m.lev q h0 h1];exact h2)};intro h;let ?FU:=C3 h;have hr:=(?iA q).mpr ?ge;exact Jr hr.1 (by rw[hl];exact hr.2) (by rw[m.lev q hr.1 hr.2];exact h2)
def DP.ch[?af][?eB][?lq][?as][?lz](h:?cF):ChL ys k ?cS:=by apply#[#[?_,?bU,?_],?e7];{show((?cS).map (·.1)).Nodup;unfold movC;rw[qi8];apply ?oO ((ql5.mp ?pq).imp λ{a b} z y=>z ?_);have y:s a.1=s b.1:=y;rw[←m.ts a.1,y,m.ts]};{let ?g0:=?c5;exact h.ok.z q hq};{intro p hp;let ?g0:=?c5;have h1:=C3 (h.key q hq);have h2:=m.rngs ?e1 h1.2.1;show 0<=s q.1/\s q.1<40;ext d};rw[m.get,h.lv _ λz=>hq ((m.plc hl).mpr z)]
def DP.rnd[?af][?eB][?b3](hy:?gY)[?lq][?as][?lz][?sh](q:Int):?P4 (B8 ys ?cS):=by rw[(m.ch hl Db h).bord hy,←hz ?bE,?Hq,←m.blt];congr 1;funext x;exact m.get c x
universe Hb
namespace L2
open PySem PySem.Spec PyProof.Rows PySem.SeqAt
universe L2
namespace Hb
open PySem L2
abbrev Yw:Nat:=?i8+40
abbrev lM:Nat:=?i8+12000
abbrev uX:Nat:=4*bookF+13000
def Hs(n:Nat):(0:Int).natAbs<?cu:=qs4 n
def Gd{i:Int}{m n:Nat}(h:i.natAbs<2 ^ m)(hn:m<=n):i.natAbs<?cu:=qb6 h (qe9 ?H hn)
structure V1[?Q](b:BPart):Prop where
 r:?K4 (b.2.1)
 g:?K4 ?rb
 f:?Od ?e2
 rb:∀q,?M0 ?gt ?q8
 gb:?LU ?rb ?q8
 fb:?LU ?e2 ?l7
 nn:0<=b.1
 nb:b.1.natAbs<?r3
def Pn[?G][?eF]{n:Nat}(h:∀a,?hM->(u a).natAbs<?cu)(q:Int):?M0 ?w8 ?cu:=by by_cases hq:?lE;{let ?uH:=JV hq;rw[Rz hd];exact h d hd};rw[Ga hq];exact Hs n
section
variable[?ha]
set_option tactic.hygienic true in def Ws[?cD]{i:Nat}(hi:i<?aS):V1 xs ?T ?cv:=by have bl:=?gO;have pcl:∀j:Int,?dM<=40:=λj=>?oM;have hz:?aS<=40:=qa5 bl.zm (pcl _);(have bits:∀(P M:Lat.Mat),?bd ?aS ?aS ?b1 P->?bd ?aS ?cw ?b1 M->∀c,c<?cw->?P5 ?aS ?q8:=λP M h1 h2 c hc=>by apply Gd (m:=?vC+?aS) (Uf ?eW) (by unfold Yw;ext d);ext JC);apply#[?nx,?nx,?_,Pn (bits _ _ ?Bw bl.bL),Pn (bits _ _ ?oT bl.bG),?_,Ai1 ?xo,?_];{show ?LK ?on;split;{exact ChL.nil _ _};exact ?nx};{intro q;show(?LY ?on).natAbs<_;split;{rw[E4];exact Hs _};rename_i h0;(have hik:?h7:=by by_cases h:?h7;{exact h};exact ?aI ?mb h0);exact Pn (λa ha=>?zB i a ?tt ha) q};show ?M0 ?e6 ?r3;by_cases h:?h7;{have h1:?e6=fs k i:=?ac;have h2:=bl.fin.dg.le h;have h4:?CG<=?C6:=qe9 ?i (TX ?aS hz);have h5:?C6<?r3:=qh2 ?i ?i;have h6:=?xo i h;rw[h1];have:(fs k i).natAbs<=?CG:=O9m;exact qc5 (qa5 ?aB h4) h5};rw[?mb];exact qs4 _
def T4[?cD][?a0][?lr]:∀b∈ps,V1 xs ?T b:=λb hb=>by ext J8;exact ?PI Ws ?e3
def PF[?cD][?lp](q:Int):?M0 ?tz (2 ^ (?x8+40)):=by have bl:=?gO;have hz:?aS<=40:=?pm;rw[←bZ q (?mj).n,?wB];apply Gd (m:=?x8+?aS) (Uf ?kZ) ?i;have pb:=?Gz;unfold VS;split;{rw[bZ q pb.f.ok.n];exact aN (pb.gb p) (pb.fb q)};exact Hs _
set_option tactic.hygienic true in def kU[?b3][?cD][?a0][?lr]{D c:Ms}(hD:?LK D){N:Nat}(bD:?LU D (2 ^ N))[?hi](ec:?uj){b:BPart}(hb:b∈ps) : ∃X:Int,?e9=b.1*X/\X.natAbs<2 ^ (bookF+(N+40)):=by ext J8;have hi:=?e3;have bl:=?gO;have pb:=?Gz;have hw:?nM<=40:=?oM;(have e1:?lA=?FO:=by have e2:?lA=wF ?iq ?AO:=(Zl pb.g hc).symm;have hcb:=L6 hs (k:=?b2) (ms:=D) (?M1 hD.key);(have hbk:∀p∈?r9,?r∈?Fs:=λr hr=>by ext JB;have h2:?Kr ?rN (?ou=?b2-1):=?e1;rw[qc0,qc0]at h2;exact Jr ?Do ?xk ((?C1).trans ?i));have hnb:nd ?r9:=Lw xs D _;rw[e2,←dS,pb.g.wF,jJ _ hnb hbk];exact ?KB (by rw[ec,qe8]));(have e3:?FO=?e6*?h (λd=>Av D ?Gk*(if ?h7 then ?GZ else 0)) ?nM:=by rw[hD.wF,←Ax];apply Ad λd hd=>?_;have h1:=uJ (xs:=xs) (k:=?b2) (u:=?bS ?aS (?m4).1 ?q6 i) (c:=d);rw[?Je (?b2-1=k)]at h1;have h2:?az xs ?mV ?Gk=?e6*?GZ:=?EF (Lat.gauge_edge bl.fin.dg bl.fin.ir hi hd);rw[h2];by_cases h:?h7;{rw[?ac];grind};rw[?aN,?mb];grind);apply#[_,e1.trans e3,Gd (m:=N+bookF+?nM) (Uf λd hd=>aN (bD _) ?_) ?i];split;{rename_i h;exact bl.fin.br.2 i d (qb6 h bl.kw) hd};exact Hs _
universe e9
def ChL.chain[?G]{c:Ms}(h:?cF):?Pn ?k6 c=true:=by unfold chainB;rw[qe6];intro p hp;have:=C3 (h.key p hp);have hz:=?DU;unfold J0;rw[qc0];apply#[?_,qf8 hz];show(?PM ?jy ?pf&&?q (?K6 ?lT))=true;rw[qf8 ?gm,qf8 ?fk,qf8 ?rm];rfl
def uV[?ar][?lz][?sh]:?ev=[]:=by have hcb:=L6 hs (k:=k) (ms:=c) (?M1 h.key);cases e:?ev with| nil=>rfl| cons r l =>(have hm:r∈?ev:=by rw[e];exact ?aT);have h1:=?mn hcb r hm;unfold J0 at h1;rw[qc0]at h1;have h2:=qc9 h1.2;have hn:nd ?ev:=Lw xs c _;(have h3:Av ?ev r.1=r.2:=by unfold Av;rw[?x4];rfl);exact ?aI (h3.symm.trans (hz r.1)) h2
def Ax4[?G][?sg](n:Int)[?J]:?OM ?gP (n*?w4):=by rw[(h1.lp h2 n).wF,h1.wF,h2.wF,←Ax,←Cq];exact ?KB (by rw[?wb,qq0,qd1])
structure jB[?Q][?aR](c:Ms):Prop where
 ch:?cF
 z:?eu
 b:?F1
 w:∀p∈ps,∃n X:Int,?vQ=n+?r*X/\n.natAbs<?qV/\X.natAbs<?qV
def jB.div[?G][?a0]{c:Ms}(h:?mT){p:BPart}(hp:p∈ps)(pb:?sK)(h0:?BW):∀t∈?e8,?c6 ?Ax t.2:=λt ht=>by
 let#[n,X,e,hn,hX]:=h.w p hp;have nn:=pb.nn;have e1:?Ax=n / ?r+X:=by rw[e,Int.add_mul_ediv_left _ _ h0]
 have e2:(n / ?r).natAbs<?qV:=Lat.fdiv_small ?i hn;have e3:=LM e2 hX;rw[e1,←pb.f.ok.val ht];exact Lx e3 (pb.fb _) (by unfold uX bookF;decide)
section
variable[?N]
abbrev gM[?cn]:Sp:=?Jk (nX λ ?bb (O:Hp) ?aD ?T (wu:?O) (lf:?dr) ?nD=>nY ?dz (O a=?PZ wu) (Ge ?u1 O wu lf) ?tG ?Hp ?od ?cF (?Og lf.length) ?bF (∀p∈c,?Od ?lP/\∀t∈?lP,?c6 p.2 t.2) (?P3 (Ij lf c)))
abbrev Sr:Sp:=?Jk (Yd λ ?bb ?aD ?lb ?nD=>aV ?dz ?b8 ?bC ?bF ?od ?bg ?Gg ?eu ?u4)
structure Xl[?Q][?aR](c m:Ms):Prop where
 ch:?Od m
 sum:∀q,?De+(?cM ?oe).sum=?el
abbrev GQ[?cp]:Sp:=λvs H Q _=>nX λ(p b:Addr) ?lb ?j7 ?aD ?gv ?AV ?nD=>aV (vs=[?bW,?k ?T,?cN]) ?em ?eY (?PJ B b) ?bg ?fl ?od (jB xs ?T ?ay c) (∀(T N D:Addr) (m:Ms) (H':Hp),?PJ H T->?PJ H N->?b4->T≠N->T≠D->N≠D->?a9->H' T=?j (?aK [?w N,?w D])->H' N=?KA ((?Bf).map ?a4)->?cP=?Js m->?xh->Q (?w T) H')
universe e9
section
variable[?N]
universe e9
def WA[?G]{c:Ms}[?as](h:?cF){φ:?V}{m n:Nat}(hc:?LO m)(hφ:∀q,(φ q).natAbs<?cu):?M0 ?jL (2 ^ (m+n+40)):=by rw[h.wF];have:=?Pn Ez ?b0;exact Gd (Uf λa _=>aN (hc _) (hφ _)) (by show m+n+?vc<=_;ext d)
def Af8[?G][?a0]{c:Ms}[?as][?sh](hb:?F1)(pb:?GJ):?mT :=#[h,hz,hb,?MT #[_,0,by rw[qd4,qg0],Gd (WA Db h hb (pb p hp).gb) (by unfold lM Yw uX;ext d),Hs _]]
def Az5{α:Type}:∀l:?hB,(l.map ?pw).sum=0| []=>rfl| _::l=>by rw[qd2,qk3,Az5 l];rfl
def CG:∀c:Ms,∃N,?LO N| []=>#[0,?AI]| ?dD=>by let#[N,h]:=CG c;apply#[?nB+N,?dV];rw[C8];split;{exact qb6 qp7 ?iP};exact Gd (h q) ?i
section
variable[?ha]
def uL[?b3][?cD][?a0][?lr]{c m:Ms}[?hi](hr:?xh):(∀b∈?ay,Of c b=0)↔JB xs ?T ?iq:=by constructor;{intro h;apply JB.of hs hr.ch ?dV;have:=hr.sum q;rw[qn3 (g:=?pw) λb hb=>?Mj h b hb]at this;rw[Az5 ?ay,qg0]at this;exact this};intro h b hb;let#[D,hD,e]:=h.ch hs Db;let#[N,bN]:=CG D;let#[X,eX,_]:=kU hs t Db hk hp hD bN hc e ?AL;unfold Of;rw[eX];by_cases z:?fM;{rw[?ak,z,qe3]};rw[?ad,Int.mul_emod_right]
universe e9
universe Hb
namespace Hb
abbrev anyZ(ns:?n):Bool:=ns.any λn=>n != 0
universe Hb
namespace L2
open PySem PySem.Spec PyProof.Rows PySem.SeqAt
section
variable{X:Cx}{n:Nat}[?aF]
def qM(hc:?zT):?KJ X.K:=by intro Ag s σ H xs us Q I r h;let#[p,bs,?g,hq,q]:=h;let#[u,?g,ru]:=P6 r;cases ru;let ?tU:=I.list hq;have hh:X.A.handled=none:=?EE;(have rel:∀(i:Nat) (v:Value),its.toArray[i]?=?ft->∃b,?ks=?j b/\∃t,v=?k b t:=λi v e=>by (have e':its[i]?=?ft:=?dN);have hlt:i<its.length:=(?ag e').1;have l1:=rv.length;rw[qa3]at l1;(have hb:?ks=?j ?Fu:=by simp<;>ext d);let ?ug:=rv.get (i:=i) (x:=?a4 ?Fu) (by rw[qa7,hb];rfl);rw[e']at hu;cases hu;let#[t,?g]:=ru;exact#[_,hb,t,?g]);apply call_any_walk (qp5 pl.isList ?_);apply#[?cH,[s.heap.objs.size,p],[s.heap.objs.size],?Hh,_,_,?IU,?g,Walks.list (show X.A.in1.handled=none from hh) ?cH p ?_ ?pY,#[#[_,?mM,?g,?g],?_],?_,λh' tk k=>?_];{let#[o,_,ho,_]:=pl;exact qe2 (qc1 ho)};{exact pl.isList.at λo e=>?vK};{intro i v s' Q' E' hv hQ;let#[b,hb,t,?g]:=rel i v hv;dsimp only at hQ;rw[hb]at hQ;exact truthy_int hQ};(have e:(?ce ?Hh).any ?IU=?IR:=by have l1:=rv.length;rw[qa3]at l1;rw[qc6,←l1];unfold Hb.anyZ;rw[qn1,qm0,qm0];constructor;{rintro ⟨i,hi,hx⟩;have hlt:=?e3;(have hb:?ks=?j bs[i]:=?ai);rw[hb]at hx;exact#[_,qd7 hlt,hx]};rintro ⟨b,hb,hx⟩;let#[i,hi]:=qf5 hb;apply#[i,?fi (?ag hi).1,?_];rw[hi];exact hx);rw[e];have I1:Bo X Ag σ H { s with heap:=h',toks:=tk }:=I.kept (λb o e=>k b o (by simp;exact qe2 (qc1 e)) ?vK);exact#[?qK,H,I1,?g,q]
def v4(hc:?zT)[?sp]:?KJ K:=by subst hK;exact qM hc
universe e9
universe L2
namespace Hb
open PySem L2
section
variable[?af]{zs ks zs' ks':?B}{Ls Gs Ls' Gs':?qn}{fs fs':?bG}{lp rp lp' rp':?nE}[?t1]
def Cz.ksE[?sX]{k:Nat}(hk:?bg):?eQ=ks' k:=by have:=h.num hs ?gO (?Ek).1;rw[←F1 ?eQ ?jc,this,F1]
def Cz.zsE[?sX]:∀{k:Nat},?bg->?aS=zs' k| 0,_=>by rw[t.z0.1,t'.z0.1,h.cL]| ?z,hk=>by rw[(t.nx k ?l).1,(t'.nx k ?l).1,h.cL,h.ksE hs t t' ?l]
def Cz.ords[?sX][?sa]:?cM (·.1)=ps'.map (·.1):=by let#[b,e]:=?hE;let#[b',e']:=?Ek;rw[e]at hp;rw[e']at X1;cases hp;cases X1;rw[nH b.kz,nH b'.kz,h.num hs b b',h.ksE hs t t' hk,h.zsE hs t t' hk]
universe e9
def noB_ords[?aR]:?cs (·.1)=(?cM (·.1)).filter λn=>?q (n≠1):=by unfold noB;rw[qq9];rfl
def iT[?aR]:UT ps=((?cs (·.1)).filter λn=>?q (n=0)).length:=by unfold UT;rw[qq9,qa3];rfl
def lZ[?aR]:?rF=(?cs (·.1)).filter λn=>?q (n≠0):=by unfold twH;rw[qq9];rfl
structure Xj[?Q](j:Nat)(c:Ms):Prop where
 ch:?cF
 z:?eu
 b:?LO (?i8+9100+j)
def Xj.nil[?Q]:Xj xs k 0 []:=#[?m0,λq=>by rw[Fv,Te],?AI]
def Xj.next[?G]{hs:?bI}[?sx](hr:JA xs hs){p:BPart}(hp:p∈hs)(pb:?sK){n:Int}(hn:n.natAbs<2 ^ 9010):Xj xs k ?x (E5 (cN c n ?f3 ?zk)):=by apply#[h.ch.lp pb.r n,?dV,?dV];{have h1:=h.z q;have h2:=Ad3 xs ?f3 q;rw[hr.rnd p hp,E4]at h2;rw[Fv]at h1 h2 ⊢;rw[Ax4 h.ch pb.r,h1,←h2,qd4];rfl};rw[kK h.ch.ok.n pb.r.ok.n];have e1:(n*?LY ?f3).natAbs<2 ^ (?i8+9100+j):=Gd (m:=9010+Yw) (aN hn (pb.rb q)) (by clear hn;unfold Yw;ext d);exact LM ?zC e1
def Xj.ok[?G][?sx](hj:j<=40)[?as][?a0](pb:?GJ):?mT:=Af8 Db h.ch h.z (λq=>Gd ?zC (by unfold lM;ext d)) pb
def Xj.mov[?af][?eB][?b3](hy:?gY)[?lq][?as]{k:Int}[?sx]:Xj ys k j ?cS:=#[m.ch hl Db h.ch,m.rnd hs hy hl Db h.ch h.z,λq=>by rw[m.get];exact h.b _]
def NL{ns:?n}:anyZ ns=false↔∀n∈ns,n=0:=by unfold anyZ;rw[qx8];apply#[?D2,?D2];{have:=h n hn;simpa using this};simpa using h n hn
def qU[?af][?eB][?t1][?b3](hy:?gY)[?as](hyl:ys.length<=40)[?JA][?sa]{c r r':Ms}[?hi](hc':ChL ys ?T ?cS)(hr:Xl xs ?T ?ay c r)(hr':Xl ys ?T ?E2 ?cS r'):?rM=?pu:=by ext J1;have e1:=uL hs t1 Db hk hp hc hr;have e2:=uL hy t2 hyl hk X1 hc' hr';(have e:?rM=false↔ ?pu=false:=by rw[NL,NL,List.forall_mem_map,List.forall_mem_map,e1,e2];exact m.bd λq=>?yR);cases h1:?rM<;>cases h2:?pu;{rfl};{exact(by rw[e.mp h1]at h2;cases h2)};{exact(by rw[e.mpr h2]at h1;cases h1)};rfl
def Cz.same[?af][?eC][?b3][?t1][?JA][?sa]:?cs (·.1)=?mF (·.1)/\UT ps=UT ps'/\?rF=twH ps':=by
 ext J1;have e:=h.ords hs t1 t2 hk hp X1;have e2:?cs (·.1)=?mF (·.1):=by rw[noB_ords,noB_ords,e]
 exact#[e2,by rw[iT,iT,e2],by rw[lZ,lZ,e2]]
section
variable[?N]
structure B25[?cp](H:Hp)(p q:Addr)(xs ys:LLInt)(ls ls':?dJ)(s:?V):Prop where
 b:∃B,?em/\?eY
 b':∃B,Pr K C B q ys ls'/\?eY
 t:∃os t,?eg/\?kN
abbrev mF[?cp]:Sp:=?Jk (VO λ(p q l a:Addr) ?lb (xs ys:LLInt) (ls ls':?dJ) (s:?V) (sp ns:?n)=>aV (vs=[?bW,?w q,?w l,?k ?T,?a7]) (B25 K C H p q xs ys ls ls' s) ?bg (H l=?PZ ?rL) (?Og sp.length) (∀i:Nat,i<xs.length->sp[i]?=?j (s ?bV)) (?O3 a ?dk) ?qT ?zf)
universe e9
def Iw{S:St}{p0:?aX}[?L](k:∀H,?kt->?C0):?Jf (σ=S/\?kt):=by rintro _ H ⟨rfl,h0⟩;exact k H h0
def LV{S:St}{p0 p1:?aX}[?L](k:∀H,?kt->p1 H->?C0):?Jf (Fm (σ=S) ?kt (p1 H)):=by rintro _ H ⟨rfl,h0,h1⟩;exact k H h0 h1
def Sm[?bi]{p0 p1:?fK}[?L](k:∀x0 H,?h5->?gh->?gy):?Jf (?O9 (Fm ?bu ?fA ?hF)):=by rintro _ H ⟨x0,rfl,h0,h1⟩;exact k x0 H h0 h1
def Nu[?bi]{p0 p1 p2:?fK}[?L](k:?KX ?gy):?Jf (?O9 (Bw ?bu ?fA ?hF ?kz)):=by rintro _ H ⟨x0,rfl,h0,h1,h2⟩;exact k x0 H h0 h1 h2
def lV[?bi]{p0 p1 p2 p3:?fK}[?L](k:?KX (?qN->?gy)):?Jf (?O9 (Da ?bu ?fA ?hF ?kz ?pI)):=by rintro _ H ⟨x0,rfl,h0,h1,h2,h3⟩;exact ?NR H
def Ax1[?bi]{p0 p1 p2 p3 p4:?fK}[?L](k:?KX (?qN->?Hc->?gy)):?Jf (?O9 (G9 ?bu ?fA ?hF ?kz ?pI ?xy)):=by rintro _ H ⟨x0,rfl,h0,h1,h2,h3,h4⟩;exact k x0 H h0 h1 h2 h3 h4
def LU[?bi]{p0 p1 p2 p3 p4 p5:?fK}[?L](k:?KX (?qN->?Hc->p5  x0 H->?gy)):?Jf (?O9 (Mb ?bu ?fA ?hF ?kz ?pI ?xy (p5 x0 H))):=by rintro _ H ⟨x0,rfl,h0,h1,h2,h3,h4,h5⟩;exact k x0 H h0 h1 h2 h3 h4 h5
def YW[?cE]{p0:?lK}[?L](k:∀x0 x1 H,?lR->?jB):?Jf (?No (?ca/\?kU)):=by rintro _ H ⟨x0,x1,rfl,h0⟩;exact k x0 x1 H h0
def yW[?cE]{p0 p1:?lK}[?L](k:?LA ?jB):?Jf (?No (Fm ?ca ?kU ?oV)):=by rintro _ H ⟨x0,x1,rfl,h0,h1⟩;exact k x0 x1 H h0 h1
def RI[?cE]{p0 p1 p2 p3:?lK}[?L](k:?LA (?AB->?IM->?jB)):?Jf (?No (Da ?ca ?kU ?oV ?wv ?tT)):=by rintro _ H ⟨x0,x1,rfl,h0,h1,h2,h3⟩;exact k x0 x1 H h0 h1 h2 h3
def Ax0[?cE]{p0 p1 p2 p3 p4 p5 p6:?lK}[?L](k:?LA (?AB->?IM->?O4 p4->?O4 p5->?O4 p6->?jB)):?Jf (?No (Xn ?ca ?kU ?oV ?wv ?tT (?PY p4) (?PY p5) (?PY p6))):=by rintro _ H ⟨x0,x1,rfl,h0,h1,h2,h3,h4,h5,h6⟩;exact k x0 x1 H h0 h1 h2 h3 h4 h5 h6
def Aw9[?dX]{p0 p1:?lm}[?L](k:?KR ?iw):?Jf (?Nh (Fm ?dR ?iz ?kG)):=by rintro _ H ⟨x0,x1,x2,rfl,h0,h1⟩;exact k x0 x1 x2 H h0 h1
def GB[?dX]{p0 p1 p2:?lm}[?L](k:?KR (?nR->?iw)):?Jf (?Nh (Bw ?dR ?iz ?kG ?rC)):=by rintro _ H ⟨x0,x1,x2,rfl,h0,h1,h2⟩;exact ?Mt H
def RH[?dX]{p0 p1 p2 p3 p4:?lm}[?L](k:?KR (?nR->?zV->?we->?iw)):?Jf (?Nh (G9 ?dR ?iz ?kG ?rC ?DT ?Bh)):=by rintro _ H ⟨x0,x1,x2,rfl,h0,h1,h2,h3,h4⟩;exact k x0 x1 x2 H h0 h1 h2 h3 h4
def Aw8[?dX]{p0 p1 p2 p3 p4 p5:?lm}[?L](k:?KR (?nR->?zV->?we->?Ns p5->?iw)):?Jf (?Nh (Mb ?dR ?iz ?kG ?rC ?DT ?Bh (?PT p5))):=by rintro _ H ⟨x0,x1,x2,rfl,h0,h1,h2,h3,h4,h5⟩;exact k x0 x1 x2 H h0 h1 h2 h3 h4 h5
def Aw7[?fW]{p0:?jD}[?L](k:∀x0 x1 x2 x3 H,?kf->?jr):?Jf (?Ni (?ep/\?k1)):=by rintro _ H ⟨x0,x1,x2,x3,rfl,h0⟩;exact ?K9 k H h0
def Aw6[?fW]{p0 p1 p2:?jD}[?L](k:?KV ?jr):?Jf (?Ni (Bw ?ep ?k1 ?mi ?mS)):=by rintro _ H ⟨x0,x1,x2,x3,rfl,h0,h1,h2⟩;exact ?MO H
def YV[?fW]{p0 p1 p2 p3:?jD}[?L](k:?KV (?GK->?jr)):?Jf (?Ni (Da ?ep ?k1 ?mi ?mS ?yj)):=by rintro _ H ⟨x0,x1,x2,x3,rfl,h0,h1,h2,h3⟩;exact ?Ls H
def Aw5[?fW]{p0 p1 p2 p3 p4:?jD}[?L](k:?KV (?GK->?Nq p4->?jr)):?Jf (?Ni (G9 ?ep ?k1 ?mi ?mS ?yj (?PR p4))):=by rintro _ H ⟨x0,x1,x2,x3,rfl,h0,h1,h2,h3,h4⟩;exact k x0 x1 x2 x3 H h0 h1 h2 h3 h4
def Aw4[?he]{p0 p1 p2:?Jc ?aX}[?L](k:?O5 ?tX):?Jf (?Nj (Bw ?gs ?zl ?Fz ?Hv)):=by rintro _ H ⟨x0,x1,x2,x3,x4,rfl,h0,h1,h2⟩;exact k x0 x1 x2 x3 x4 H h0 h1 h2
def Aw3[?he]{p0 p1 p2 p3:?Jc ?aX}[?L](k:?O5 (?Kg p3->?tX)):?Jf (?Nj (Da ?gs ?zl ?Fz ?Hv (?PS p3))):=by rintro _ H ⟨x0,x1,x2,x3,x4,rfl,h0,h1,h2,h3⟩;exact ?Lb H
def Aw2[?hc]{p0 p1 p2 p3:?rd}[?L](k:?Ne ?mG):?Jf (?PQ (Da ?gX ?oo ?nG ?r2 ?nd)):=by rintro _ H ⟨x0,x1,x2,x3,x4,x5,rfl,h0,h1,h2,h3⟩;exact ?LH H
def Aw1[?hc]{p0 p1 p2 p3 p4:?rd}[?L](k:?Ne (?xa->?mG)):?Jf (?PQ (G9 ?gX ?oo ?nG ?r2 ?nd ?HS)):=by rintro _ H ⟨x0,x1,x2,x3,x4,x5,rfl,h0,h1,h2,h3,h4⟩;exact k x0 x1 x2 x3 x4 x5 H h0 h1 h2 h3 h4
def Aw0[?hc]{p0 p1 p2 p3 p4 p5:?rd}[?L](k:?Ne (?xa->?K2 p5->?mG)):?Jf (?PQ (Mb ?gX ?oo ?nG ?r2 ?nd ?HS (?Nc p5))):=by rintro _ H ⟨x0,x1,x2,x3,x4,x5,rfl,h0,h1,h2,h3,h4,h5⟩;exact k x0 x1 x2 x3 x4 x5 H h0 h1 h2 h3 h4 h5
def Av9[?hb]{p0 p1 p2:?pt}[?L](k:?Nd ?sJ):?Jf (?PP (Bw ?fj ?mk ?rZ ?rx)):=by rintro _ H ⟨x0,x1,x2,x3,x4,x5,x6,x7,rfl,h0,h1,h2⟩;exact k x0 x1 x2 x3 x4 x5 x6 x7 H h0 h1 h2
def Av8[?hb]{p0 p1 p2 p3 p4 p5 p6:?pt}[?L](k:?Nd (?Pl ?sJ)):?Jf (?PP (Xn ?fj ?mk ?rZ ?rx ?FZ ?CU ?Gn ?FM)):=by rintro _ H ⟨x0,x1,x2,x3,x4,x5,x6,x7,rfl,h0,h1,h2,h3,h4,h5,h6⟩;exact k x0 x1 x2 x3 x4 x5 x6 x7 H h0 h1 h2 h3 h4 h5 h6
def yV[?hb]{p0 p1 p2 p3 p4 p5 p6 p7:?pt}[?L](k:?Nd (?Pl (?Jo p7->?sJ))):?Jf (?PP (aV ?fj ?mk ?rZ ?rx ?FZ ?CU ?Gn ?FM (?Na p7 H))):=by rintro _ H ⟨x0,x1,x2,x3,x4,x5,x6,x7,rfl,h0,h1,h2,h3,h4,h5,h6,h7⟩;exact k x0 x1 x2 x3 x4 x5 x6 x7 H h0 h1 h2 h3 h4 h5 h6 h7
def Av7[?J4]{p0 p1 p2:?Jc (?Ng ?aX)}[?L](k:∀x0 x1 x2 x3 x4 x5 x6 x7 x8 H,?x0->?Hu->?yi->?xq):?Jf (Ex9 λx0 x1 x2 x3 x4 x5 x6 x7 x8=>Bw ?HM ?tb ?zm ?A8):=by rintro _ H ⟨x0,x1,x2,x3,x4,x5,x6,x7,x8,rfl,h0,h1,h2⟩;exact k x0 x1 x2 x3 x4 x5 x6 x7 x8 H h0 h1 h2
def Ad4[?J4]{p0 p1 p2 p3 p4 p5 p6 p7 p8 p9:?Jc (?Ng ?aX)}[?L](k:∀x0 x1 x2 x3 x4 x5 x6 x7 x8 H,?x0->?Hu->?yi->?Jg p3->?Jg p4->?Jg p5->?Jg p6->?Jg p7->?Jg p8->?Jg p9->?xq):∀σ H,(Ex9 λx0 x1 x2 x3 x4 x5 x6 x7 x8=>nY ?HM ?tb ?zm ?A8 (?Jh p3 H) (?Jh p4 H) (?Jh p5 H) (?Jh p6 H) (?Jh p7 H) (?Jh p8 H) (?Jh p9 H))->?K:=by rintro _ H ⟨x0,x1,x2,x3,x4,x5,x6,x7,x8,rfl,h0,h1,h2,h3,h4,h5,h6,h7,h8,h9⟩;exact k x0 x1 x2 x3 x4 x5 x6 x7 x8 H h0 h1 h2 h3 h4 h5 h6 h7 h8 h9
def Ad5{A0 A1 A2 A3 A4 A5 A6 A7 A8 A9:Type}{S:?Jc (?Ng (A9->St))}{p0 p1 p2 p3:?Jc (?Ng (A9->?aX))}[?L](k:∀x0 x1 x2 x3 x4 x5 x6 x7 x8 x9 H,?K0 p0->?K0 p1->?K0 p2->?K0 p3->let s:=?uE;?c8):∀σ H,(QW λx0 x1 x2 x3 x4 x5 x6 x7 x8 x9=>Da (σ=?uE) (?Jb p0 H) (?Jb p1 H) (?Jb p2 H) (?Jb p3 H))->?K:=by rintro _ H ⟨x0,x1,x2,x3,x4,x5,x6,x7,x8,x9,rfl,h0,h1,h2,h3⟩;exact k x0 x1 x2 x3 x4 x5 x6 x7 x8 x9 H h0 h1 h2 h3
def Mf{S:St}[?L]{H0:Hp}(k:let s:=S;G s H0):?Jf (σ=S/\H0=H):=by rintro _ _ ⟨rfl,rfl⟩;exact k
def Ax2[?bi][?L]{H0:Hp}(k:∀x0,?z5):?Jf (?O9 (?bu/\H0=H)):=by rintro _ _ ⟨x0,rfl,rfl⟩;exact k x0
def yX[?bi]{p0:?fK}[?L]{H0:Hp}(k:∀x0,p0  x0 H0->?z5):?Jf (?O9 (Fm ?bu (H0=H) ?fA)):=by rintro _ _ ⟨x0,rfl,rfl,h0⟩;exact k x0 h0
def ex2{A0 A1:Type}{p:?gQ}{G:Prop}(k:∀x0 x1,p x0 x1->G)(h:∃x0 x1,p x0 x1):G:=h.elim λx0 h=>h.elim λx1 h=>k x0 x1 h
def B21{p0 p1 p2 G:Prop}(k:?Ku G)(h:p0/\p1/\p2):G:=k h.1 h.2.1 h.2.2
section
variable{g:TG}{x:V}{t1 t2 t3 t4 t5 t6 t7 t8 t9 qX YZ t12 t13 t14:TS}{D:Ends}{σ:St}{H:Hp}
def xW{tc:St->?Oz Hp ?vF}{k:?vF}(h:let k':=k;tc σ H k'):tc σ H k:=h
def letG1(h:let D':=D;?Lc D'):?Lc D:=h
def let2(h:let D':=D;let u2:TS:=t2;?D3):?M3 t2 D H:=h
def letG2(h:let D':=D;let u2:TS:=t2;?zd):?Jq t2 D:=h
def let3(h:let D':=D;let u3:TS:=t3;?ze):?M3 ?H4 D H:=h
def letG3(h:let D':=D;let u3:TS:=t3;?Bl):?Jq ?H4 D:=h
def let4(h:let D':=D;let u4:TS:=t4;?xX):?M3 ?DR D H:=h
def letG4(h:let D':=D;let u4:TS:=t4;?ya):?Jq ?DR D:=h
def let5(h:let D':=D;let u5:TS:=t5;?xf):?M3 ?zo D H:=h
def letG5(h:let D':=D;let u5:TS:=t5;?GI):?Jq ?zo D:=h
def let6(h:let D':=D;let u6:TS:=t6;?xA):?M3 ?wA D H:=h
def letG6(h:let D':=D;let u6:TS:=t6;let u5:TS:=?Fr;?GI):?Jq ?wA D:=h
def let7(h:let D':=D;let u7:TS:=t7;?vN):?Jj t7:=h
def let8(h:let D':=D;let u8:TS:=t8;?Ia):?Jj (At t7 t8):=h
def let9(h:let D':=D;let u9:TS:=t9;?Ah):?Jj (?OS t9):=h
def let10(h:let D':=D;let RK:TS:=qX;?yZ):?Jj (?OS (At t9 qX)):=h
def let12(h:let D':=D;let u12:TS:=t12;let u11:TS:=At YZ u12;let RK:TS:=At qX u11;?yZ):?Jj (?OS (At t9 (At qX (At YZ t12)))):=h
universe e9
universe Hb


namespace Hb
open PySem L2
def iG[?bi]{p0:?wz}[?a5](k:∀x0,?i5->?sH):?Jn (?O9 (?bu/\?i5)):=by rintro _ ⟨x0,rfl,h0⟩;exact k x0 h0
def cQ[?bi]{p0 p1 p2:?wz}[?a5](k:∀x0,?i5->p1 x0->p2 x0->?sH):?Jn (?O9 (Bw ?bu ?i5 (p1 x0) (p2 x0))):=by rintro _ ⟨x0,rfl,h0,h1,h2⟩;exact k x0 h0 h1 h2
def Ik[?bi]{p0 p1 p2:Prop}[?a5](k:?Ku ?zQ):?Jn (?PX ?DE):=by rintro _ ⟨h0,h1,h2,x0,rfl⟩;exact k h0 h1 h2 x0
def tT[?bi]{p0 p1 p2 p3:Prop}[?a5](k:?Ku (p3->?zQ)):?Jn (?OX ?DE):=by rintro _ ⟨h0,h1,h2,h3,x0,rfl⟩;exact k h0 h1 h2 h3 x0
def zS[?cE]{p0:?gQ}[?a5](k:∀x0 x1,?ct->?gR):?Jn (?No (?ca/\?ct)):=by rintro _ ⟨x0,x1,rfl,h0⟩;exact k x0 x1 h0
def ZR[?cE]{p0 p1:?gQ}[?a5](k:?LT ?gR):?Jn (?No (Fm ?ca ?ct ?ej)):=by rintro _ ⟨x0,x1,rfl,h0,h1⟩;exact k x0 x1 h0 h1
def X0[?cE]{p0 p1 p2:?gQ}[?a5](k:?LT (?jU->?gR)):?Jn (?No (Bw ?ca ?ct ?ej ?jU)):=by rintro _ ⟨x0,x1,rfl,h0,h1,h2⟩;exact k x0 x1 h0 h1 h2
def zM[?cE]{p0 p1 p2:Prop}[?a5](k:?Ku ?zq):?Jn (?PX ?D1):=by rintro _ ⟨h0,h1,h2,x0,x1,rfl⟩;exact k h0 h1 h2 x0 x1
def MS[?cE]{p0 p1 p2 p3:?gQ}[?a5](k:?LT (?jU->?Am->?gR)):?Jn (?No (Da ?ca ?ct ?ej ?jU ?Am)):=by rintro _ ⟨x0,x1,rfl,h0,h1,h2,h3⟩;exact ?NR x1
def tS[?cE]{p0 p1 p2 p3:Prop}[?a5](k:?Ku (p3->?zq)):?Jn (?OX ?D1):=by rintro _ ⟨h0,h1,h2,h3,x0,x1,rfl⟩;exact k h0 h1 h2 h3 x0 x1
def zR[?dX]{p0:?ke}[?a5](k:?Kx ?kT):?Jn (?Nh (?dR/\?d5)):=by rintro _ ⟨x0,x1,x2,rfl,h0⟩;exact k x0 x1 x2 h0
def ZQ[?dX]{p0 p1:?ke}[?a5](k:?Kx (?er->?kT)):?Jn (?Nh (Fm ?dR ?d5 ?er)):=by rintro _ ⟨x0,x1,x2,rfl,h0,h1⟩;exact k x0 x1 x2 h0 h1
def mS[?dX]{p0 p1 p2:?ke}[?a5](k:?Kx (?er->?kp->?kT)):?Jn (?Nh (Bw ?dR ?d5 ?er ?kp)):=by rintro _ ⟨x0,x1,x2,rfl,h0,h1,h2⟩;exact k x0 x1 x2 h0 h1 h2
def Xz[?dX]{p0 p1 p2 p3 p4:?ke}[?a5](k:?Kx (?er->?kp->?wg->?AW->?kT)):?Jn (?Nh (G9 ?dR ?d5 ?er ?kp ?wg ?AW)):=by rintro _ ⟨x0,x1,x2,rfl,h0,h1,h2,h3,h4⟩;exact k x0 x1 x2 h0 h1 h2 h3 h4
def Xy[?fW]{p0 p1 p2:A0->A1->?Oz A2 A3}[?a5](k:∀x0 x1 x2 x3,?zi->?G6->?za->?Dp):?Jn (?Ni (Bw ?ep ?zi ?G6 ?za)):=by rintro _ ⟨x0,x1,x2,x3,rfl,h0,h1,h2⟩;exact ?Mt x3
def A51[?fW]{p0 p1 p2:Prop}[?a5](k:?Ku (∀x0 x1 x2 x3,?Dp)):?Jn (?PX (?Ni ?ep)):=by rintro _ ⟨h0,h1,h2,x0,x1,x2,x3,rfl⟩;exact k h0 h1 h2 x0 x1 x2 x3
def zQ[?he]{p0 p1 p2:?nb}[?a5](k:?Nm ?mc):?Jn (?Nj (Bw ?gs ?fI ?fJ ?eL)):=by rintro _ ⟨x0,x1,x2,x3,x4,rfl,h0,h1,h2⟩;exact ?MO x4
def ZP[?he]{p0 p1 p2 p3:?nb}[?a5](k:?Nm (?iY->?mc)):?Jn (?Nj (Da ?gs ?fI ?fJ ?eL ?iY)):=by rintro _ ⟨x0,x1,x2,x3,x4,rfl,h0,h1,h2,h3⟩;exact ?Ls x4
def zP[?he]{p0 p1 p2 p3 p4 p5:?nb}[?a5](k:?Nm (?iY->?Bo->?Ck->?mc)):?Jn (?Nj (Mb ?gs ?fI ?fJ ?eL ?iY ?Bo ?Ck)):=by rintro _ ⟨x0,x1,x2,x3,x4,rfl,h0,h1,h2,h3,h4,h5⟩;exact k x0 x1 x2 x3 x4 h0 h1 h2 h3 h4 h5
def ZO[?hc]{p0 p1 p2 p3:?Jc (A5->Prop)}[?a5](k:?Nx ?vT):?Jn (?PQ (Da ?gX ?iI ?hs ?ik ?l5)):=by rintro _ ⟨x0,x1,x2,x3,x4,x5,rfl,h0,h1,h2,h3⟩;exact ?Lb x5
def zO[?hc]{p0 p1 p2 p3 p4:?Jc (A5->Prop)}[?a5](k:?Nx (?Ic->?vT)):?Jn (?PQ (G9 ?gX ?iI ?hs ?ik ?l5 ?Ic)):=by rintro _ ⟨x0,x1,x2,x3,x4,x5,rfl,h0,h1,h2,h3,h4⟩;exact k x0 x1 x2 x3 x4 x5 h0 h1 h2 h3 h4
def ZN{A0 A1 A2 A3 A4 A5 A6:Type}{S:?Jc (A5->A6->St)}{p0 p1 p2 p3:?Jc (A5->A6->Prop)}[?a5](k:∀x0 x1 x2 x3 x4 x5 x6,?wT->?Hf->?to->?wf->let s:=?uQ;G s):?Jn (Ex7 λx0 x1 x2 x3 x4 x5 x6=>Da (σ=?uQ) ?wT ?Hf ?to ?wf):=by rintro _ ⟨x0,x1,x2,x3,x4,x5,x6,rfl,h0,h1,h2,h3⟩;exact ?LH x6
def zN[?hb]{p0 p1 p2 p3:?Jc (A5->A6->A7->Prop)}[?a5](k:?Nr ?Gw):?Jn (?PP (Da ?fj ?jw ?ko ?l4 ?ll)):=by rintro _ ⟨x0,x1,x2,x3,x4,x5,x6,x7,rfl,h0,h1,h2,h3⟩;exact k x0 x1 x2 x3 x4 x5 x6 x7 h0 h1 h2 h3
def ZM[?hb]{p0 p1 p2 p3 p4 p5 p6:?Jc (A5->A6->A7->Prop)}[?a5](k:?Nr (?CI->?Cf->?DL->?Gw)):?Jn (?PP (Xn ?fj ?jw ?ko ?l4 ?ll ?CI ?Cf ?DL)):=by rintro _ ⟨x0,x1,x2,x3,x4,x5,x6,x7,rfl,h0,h1,h2,h3,h4,h5,h6⟩;exact k x0 x1 x2 x3 x4 x5 x6 x7 h0 h1 h2 h3 h4 h5 h6
def tV{A0 A1 A2 A3 A4 A5 A6 A7 A8 A9 nZ:Type}{S:?Jc (?Ng (A9->nZ->St))}{p0 p1 p2 p3 p4 p5 p6 p7 p8:?Jc (?Ng (A9->nZ->Prop))}[?a5](k:∀x0 x1 x2 x3 x4 x5 x6 x7 x8 x9 Tb,?CC->?BY->?CK->?AX->?DZ->?tj->?Gu->?G0->?ue->let s:=?Cm;G s):∀σ,(lS λx0 x1 x2 x3 x4 x5 x6 x7 x8 x9 Tb=>NY (σ=?Cm) ?CC ?BY ?CK ?AX ?DZ ?tj ?Gu ?G0 ?ue)->?a3:=by rintro _ ⟨x0,x1,x2,x3,x4,x5,x6,x7,x8,x9,Tb,rfl,h0,h1,h2,h3,h4,h5,h6,h7,h8⟩;exact k x0 x1 x2 x3 x4 x5 x6 x7 x8 x9 Tb h0 h1 h2 h3 h4 h5 h6 h7 h8
universe Hb
namespace L2
open PySem PySem.Spec PyProof.Rows
section
variable[?hj][?aF][?sq]{ds:?nf}
universe e9
universe L2
namespace L2
open PySem PySem.Spec PyProof.Rows PySem.W
section
variable[?JM]{sp:Sp}{m:Str}{pos apos:Pos}{e o:Expr}[?eD]{ta:TE}{t:TA}
universe e9
section
variable[?hj]{K:Frag}[?sq]{ds:?nf}
universe e9
section
variable[?JM]{dvs:?O}{sp:Sp}{m x:Str}{p pos apos:Pos}{e o:Expr}[?eD]{ta:TE}{t:TA}
universe e9
universe L2
namespace L2
open PySem PySem.Spec PyProof.Rows
abbrev Dk[?N](n:Str)(st:Stmt):Prop:=∃(f:Addr) (fd:FuncData),W.nsIn K ?Gv n=?j (?j ?r4)/\?xp
abbrev Q0[?N][?cp](n q:Str)(st:Stmt):Prop:=∃(f:Addr) (fd:FuncData),W.findIn K ?qH n=?j (?j ?r4)/\W.isFn K ?r4=true/\?Gj
abbrev BA(x q:Str)(st:Stmt)(ps:?F):Prop:=∀(kV doc pm:Value) (an:OAddr) (Dz ct:Value) (us:?nf),?MX ps.length->bindArgs (W.fnOf x q (Ju st) (Hj st) (Au st) ?ch kV doc pm an Dz ct) #[us,[]]=pure (ps.zip us)
section
variable[?hj][?aF]{mg:?pe}{base h:Heap}
def Bq(X:K.In h)(G:h.Ns ?Gv mg){n:Str}[?sk](d:Dk K n st)(ok:∀{f fd},?xp->?mt)(hb:BA n n st ps):?NQ Has n:=by let#[f,fd,a,F]:=d;exact#[_,_,qw3 X G a,F.kp,?mP,ok F]
def Hg{C:Addr}{n q:Str}[?sk](d:Q0 K C n q st)(ok:∀{f fd},?Gj->?mt)(hb:BA n q st ps):Jn P w K mg ?Y C n ps k sp:=?L7 #[a,b,F.kp]
def fB{C:Addr}{q:Str}[?sk](m:PySem.W.makesIn K C=true)(kc:W.keepIn K ?qH=true)(d:Q0 K C ?jd q st)(ok:∀{f fd},?Jr ?jd q st->?mt)(hb:BA ?jd q st ps):?NQ JE C:=?L7 #[m,a,b,kc]
universe e9
universe L2
namespace Hb
open PySem L2
abbrev top(i:Nat):Stmt:=PySem.Challenge.pw_holebook_k77_whole_order_does_not_matter.main.body.getD i (.Pass #[0,0,0,0])
structure Fz[?N](mg:?pe)(Ah Af Aj Ar:Addr):Prop where
 m_Lines:?MN "Lines" Ah
 cl_Lines:Cls K Ah
 na_Lines_rows:D8 K Ah ?jN
 na_Lines_backs:D8 K Ah ?id
 m_Stairs:?MN "Stairs" Af
 cl_Stairs:Cls K Af
 na_Stairs_rows:D8 K Af ?jN
 na_Stairs_backs:D8 K Af ?id
 na_Stairs_starts:D8 K Af "starts"
 m_Work:?MN "Work" Aj
 cl_Work:Cls K Aj
 na_Work_table:?Mv ?eV
 na_Work_width:?Mv ?rl
 na_Work_left:?Mv "left"
 na_Work_right:?Mv "right"
 na_Work_numbers:?Mv "numbers"
 m_Book:?MN "Book" Ar
 cl_Book:Cls K Ar
 na_Book_pieces:D8 K Ar ?z4
 na_Book_levels:D8 K Ar ?yn
 na_Book_lifts:D8 K Ar "lifts"
 x_GAPS:∃a,?L2 "GAPS" [32,16,8,4,2]
 x_FACE_COUNTS:∃a,?L2 "FACE_COUNTS" [0,2,3,4]
 x_MOST_ROWS:∃t,?Ms "MOST_ROWS" 40
 x_LEVELS:∃t,?Ms "LEVELS" 4
 x_MOST_PIECES:∃t,?Ms "MOST_PIECES" 40
 n_isinstance:?KO "isinstance"
 n_int:?KO "int"
 n_bool:?KO ?sC
 n_tuple:?KO "tuple"
 n_zip:?KO "zip"
 n_max:?KO "max"
 n_len:?KO "len"
 n_all:?KO "all"
 n_range:?KO "range"
 n_dict:?KO "dict"
 n_any:?KO "any"
 n_sum:?KO "sum"
 n_list:?KO ?re
 n_enumerate:?KO ?dT
 n_min:?KO "min"
abbrev Yu[?ss]:?n:=(ns.drop ?uB).take (HT.sIx ?h4 ?h4 hi-?uB)
def Rc[?ss]:Ci ?dk lo hi=?Mf ?vh ?a4:=by unfold Ci Yu;rw[qa3,qo4,qq5]
def Re[?ss]:?KP ?vh ns.length:=by unfold Yu;rw[qb9,qh4];first|exact zn9 _ _ _|ext d
def tF:([?bv]:?F).Nodup:=?D
def ZK:(?zv:?F).Nodup:=?D
def A41:(["face",?fN,"level"]:?F).Nodup:=?D
def zK:([?cY,?bv,?fN,"k"]:?F).Nodup:=?D
def A40:(["k",?fN,"thing"]:?F).Nodup:=?D
def ZJ:(?uW:?F).Nodup:=?D
def zJ:(?IT:?F).Nodup:=?D
def ZI:([?cY,"piece","k"]:?F).Nodup:=?D
def sW:([?dO,?rl]:?F).Nodup:=?D
def A39:([?dO,?kC,?rl]:?F).Nodup:=?D
def Aj9:(["j",?eV]:?F).Nodup:=?D
def Aj8:(?z0:?F).Nodup:=?D
def Aj7:(["i","size"]:?F).Nodup:=?D
def Aj6:(?xE:?F).Nodup:=?D
def tE:(?yt:?F).Nodup:=?D
def Aj5:([?cY,"below",?fN]:?F).Nodup:=?D
def Aj4:(?Du:?F).Nodup:=?D
def tD:([?cY,?bv]:?F).Nodup:=?D
def SY:([?dO,"paper"]:?F).Nodup:=?D
def sY:(?uf:?F).Nodup:=?D
def Aj3:(?jm:?F).Nodup:=?D
def EN:(["order","loop","gauge","filling"]:?F).Nodup:=?D
def sX:(["hole"]:?F).Nodup:=?D
def Aj2:(?Fv:?F).Nodup:=?D
def Aj1:(?lJ:?F).Nodup:=?D
def Aj0:(["_law_letter"]:?F).Nodup:=?D
def Ai9:(?GX:?F).Nodup:=?D
def Ai8:([?j4,?nA,?EX]:?F).Nodup:=?D
def Ai7:([?Ff,?EX]:?F).Nodup:=?D
def Ai6:(["_law_piece",?Ho]:?F).Nodup:=?D
def Ai5:([?Ff,?Ho]:?F).Nodup:=?D
def Ai4:([?BC,?v9,?q4,"_law_chosen",?E4]:?F).Nodup:=?D
def Ai3:([?BC,?v9,"_law_need"]:?F).Nodup:=?D
def SW:(["_law_hole"]:?F).Nodup:=?D
section
variable[?hj][?aF][?sq]{Ah Af Aj Ar:Addr}
noncomputable abbrev Tp:Stmt:=top 2
def GV:?Jx ?fS ?fS Tp:=Bg
def HN[?aQ](F:?Jr ?FB ?FB Tp)[?aP] :?Ja ?fS Mi:=by apply ?K8 GV;let#[x,d,?g,hx,k]:=h;apply(?Ps (O8 (?PU "int" T.n_int boot_intT) (Qq (Ah0 (?PU ?sC T.n_bool LK)))));apply(?MJ ?ri);apply ite2 ?Eb ?Eb;{apply(?MJ ?qw);(have e2:Td d=!pK ?sC d:=by unfold Td;rw[e];rfl);rw[e2]at k;exact k};(have e2:Td d=false:=by unfold Td;simp[e]);rw[e2]at k;exact k
noncomputable abbrev Ja:Stmt:=top 4
def Dd:?Jx ["one",?kC,"last","now",?Gt,"rest"] ?H3 Ja:=Bg
def U9[?aQ](F:?Jr ?Dm ?Dm Ja)[?aP] :?Ja ?H3 Xv:=by apply ?K8 Dd;let#[n,p,?g,hA,hB,lA,lB,k]:=h;apply#[_,(Ae (?Ks 2 ?f6 (De (Aa ?E ?Ac))) (Ae (?Ks 3 ?f6 (De (Aa ?Z ?Ac))) (Ae (U5 qb8 (?KL Ku ?v5) (Ae (Ap (i:=4) ?f6 (Bh J5 ?AR ?v5)) (Ae (Ap (i:=5) ?f6 (?Po (B6 (N':=?zv) (cap:=[none,none,?j 4]) ?A ?bK (?M7 WY ?ab) (?Jd ZK ZK) ?bo (?Jl (Bh Jf ?E ?D0))))) (Ae (?Ks 2 ?f6 ?ba) (Ai (?Ks 3 ?f6 (pv 5))))))) (Ae (Cc (?KL U8 ?AR) (Ai (Bd (?Po (B6 (N':=[?bv]) (cap:=?nC) ?A ?bK (Vg (K:=K) ?ab) (?Jl (?Np 0 tF)) ?bo (?Jl (N7 Iy ?E)))))) Bn) (?Jw ?ab))))),?_];ext bj;apply#[_,?g,?d1,λL0 hL0=>?_];have s0:?P H ?pQ:=?b6 hL0;apply#[_,?g,?d1,λN0 hN0=>?_];have s1:?P ?pQ ?IW:=?b6 hN0;apply ?Om [iS n,iS p,rS L0,rS N0,none,none] (H'=?IW);rintro _ _ ⟨rfl,rfl⟩;apply ?P2 (Ex9 λ ?oS (a x y u v:Int) ?s4=>Bw ?Dw ?a9 (?LI H' L ?fp) (?Lz a 0));{apply#[λm σ G=>QW λ ?oS (a x y b u v:Int) ?s4=>Xn (σ=?AY) ?j9 (?LI G L ?fp) (?LI G N ?mx) (?Lz a b) (a.natAbs<L9) (b.natAbs<L9) (m=b.natAbs),#[_,L0,N0,n,1,0,p,0,1,?a6,?a6,?g,s0.trans s1,?Mx s1 Ab,?e5,Lat.EuI.start hA hB,lA,lB,?g],?_];rintro m σ G Dc;apply xW ?_;intro _;let#[L,N,a,x,y,b,u,v,o4,o5,?g,s2,hL,hN,hE,la,lb,?g]:=Dc;apply(?KY N hN);apply ?cJ;{(have hb0:¬b=0:=?aC);let#[hE2,hlt]:=hE.step hA hb0;let#[_,_,_,_,lu,lv]:=hE.all hA hB;(have lq:?wR<L9:=by apply qc5 ?_ la;have h3:(?cI*b).natAbs<=a.natAbs+(?nJ).natAbs:=zn1 _ _;rw[qb5]at h3;have h4:0<b.natAbs:=Int.natAbs_pos.mpr hb0;apply qi0 λh5=>?_;have h6:=qc2 b.natAbs (show a.natAbs+1<=?wR from h5);rw[qg2,qf9]at h6;have h7:=qf3 a.natAbs h4;ext d);have ok:∀z:Int,z.natAbs<L9->?c6 ?cI z:=λz hz=>EO lq hz;apply#[λσ' G'=>QW λ ?oS (a' x y b' u v:Int) ?s4=>Xn ?Dw ?uh (?LI G' L [?k a',?k x,?k y]) (?LI G' N [?k b',?k u,?ln]) (?Lz a' b') (a'.natAbs<L9) (b'.natAbs<L9) (b'.natAbs<b.natAbs),?_,?_];{rintro σ' G' ⟨L',N',a',x',y',b',u',v',o4',o5',rfl,q1,q2,q3,q4,q5,q6,q7⟩;exact#[b'.natAbs,q7,L',N',a',x',y',b',u',v',o4',o5',?g,q1,q2,q3,q4,q5,q6,?g]};apply#[_,?g,L,_,_,_,?g,?g,hL,?g,_,?g,N,_,_,_,?g,?g,hN,?g,_,_,?g,?g,V4.of9 hb0 lb,?_];apply#[_,?g,_,?g,L,N,?g,#[_,hL],#[_,hN],?bY];(have gv:∀(i:Nat) (e f:V),?Lp ((?fp:?O)) e->?Lp ((?mx:?O)) f->∃e' f':Int,e=?k e'/\f=?k f'/\?c6 ?cI f'/\i<3 ∧ (?kh:?O)[i]?=?KZ (e'-?cI*f'):=by intro i e f he hf;match i,he,hf with| 0,he,hf=>cases he;cases hf;exact#[a,b,?g,?g,ok _ lb,?H,?g]| 1,he,hf=>cases he;cases hf;exact#[x,u,?g,?g,?w3,?H,?g]| 2,he,hf=>cases he;cases hf;exact#[y,v,?g,?g,?w3,?H,?g]| i+3,he,hf=>simp at he);apply lH (K:=K) (a:=L) (b:=N) (xs:=?fp) (ys:=?mx) (n:=3) ?i2 (?Nv ?kh (?KQ ?j (?k ?cI))) ?uk (λi zs τ G1 _ hz=>?NB s3 #[?i1 hL,?i1 hN]) ?_ ?_;{rintro i e f zs τ G1 pr he hf Dc hpr;revert τ;apply zM ?_;intro s3 cX hzs o1 o2 Ei;let#[e',f',?g,?g,hok,hi3,hnext]:=gv i e f he hf;have sp:?P G1 (?KN G1 pr [?k e',?k f']):=?b6 hpr;apply ?r8;apply#[_,?g,_,?g,_,?g,_,_,?g,?g,hok,_,_,?g,?g,?_];apply#[sp _ _ cX,?MS ?cZ,(?Bp sp).turn hD,Ab,?_,_,_,?g];rw[qe1,hnext,hzs];rfl};rintro zs τ G1 ⟨s3,cX,hzs,_⟩;apply ?AS;have s4:?tu:=?ni;have Am2:zs=?kh:=hzs;(have hT2:?LI ?wO T1 ?kh:=?F3);exact#[_,?g,_,?g,N,T1,b,u,v,?nJ,?GQ,?FH,_,_,?g,?ny,(?Bp s4).seqT hN,hT2,hE2,lb,qv8 hlt lb,hlt]};(have hb0:b=0:=?aC);subst hb0;exact key _ _ #[L,N,a,x,y,u,v,o4,o5,?g,s2,hL,hE]};apply Av7 λL N a x y u v o4 o5 G s2 hL hE=>?_;intro sq;let#[e1,e2,e3]:=hE.last hA hB;apply#[_,?g,L,_,_,_,?g,?g,hL,?g,_,_,?g,?g,_,?g,?_];apply ?cJ;{(have ha:a<0:=?aC);apply(?KI L hL);let Pq1:?c2:=?Nv ?rg (Ec λo1=>τ=[o1]);apply R9 (K:=K) (a:=L) (xs:=?fp) Pq1 ?kI (λi zs τ G1 _ hz=>?Kb #[s3,_] ?i1 hL) ?_ ?_;{rintro i e zs τ G1 he Dc;revert τ;apply ?gT;intro s3 cX hzs o1 Ei;(have gv:∃e':Int,e=?k e'/\i<3/\(?rg:?O)[i]?=?KZ (-e'):=by match i,he with| 0,he=>cases he;exact#[a,?g,?H,?g]| 1,he=>cases he;exact#[x,?g,?H,?g]| 2,he=>cases he;exact#[y,?g,?H,?g]| i+3,he=>simp at he);let#[e',?g,hi3,hnext]:=gv;apply#[_,?g,_,?g,cX,?MS ?cZ,s3.turn hD,Ab,?_,_,?g];rw[qe1,hnext,hzs];rfl};rintro zs τ G1 ⟨s3,cX,hzs,_⟩;apply ?AS;have s4:?tu:=?ni;have Am2:zs=?rg:=hzs;exact k T1 (-a) (-x) (-y) _ ?ny ?F3 (e2 ha)};(have ha:¬a<0:=?aC);exact#[_,?g,k L a x y G s2 hL (e1 ?i)]
noncomputable abbrev To:Stmt:=top 7
def GU:?Jx ?lJ ?lJ To:=Bg
def HM[?aQ](F:?Jr ?yf ?yf To)[?aP] :?Ja ?lJ Mh:=by apply ?K8 GU;let#[x,ds,?g,hx,k]:=h;apply(?Ps (Bc (dJ ?A) T.n_max DJ (Aa (Bh Jf ?k9 Ak) ?wj)));(obtain⟨p,us,e,hq,hl⟩:∃(p:Addr) (us:?O),x=?bW/\(?O3 p us\/?LI H p us)/\?MX ds.length:=by rcases hx with⟨p,us,e,hq,r⟩|⟨p,us,e,hq,r⟩;{exact#[p,us,e,?t hq,?os]};exact#[p,us,e,?mI,?os]);subst e;apply#[_,?g,p,us,?g,hq,_,_,?g,?g,_,_,?g,?_];rw[hl];exact k
noncomputable abbrev M1:Stmt:=top 10
def Lk:?Jx [?fN,"faces","j","i"] ?DX M1:=Bg
def g6[?aQ](F:?Jr ?GM ?GM M1)[?aP] :?Ja ?DX Qc:=by apply ?K8 Lk;let#[a,v,xs,p,?g,hL,hv,P3,hf,k]:=h;let#[pa,?g,hq]:=hv.sq;have hpl:(p.map ?a4).length=p.length:=qa3 ..;apply#[_,(Ae (Cb qb8 ?g (?Ma (?PV (?Pv (Aa ?Z Ac)))) (?Np 2 Lk.nd) (Ai (Cb qb8 ?g ?xN (?Np 3 Lk.nd) (Ai (Cc (Bf Ku (?KT (?OB ?ab) ?ba) (?KT (?OB ?ba) ?qk) ?aY) ?lG Bn))))) ?lG),?_];ext bj;apply#[_,?g,pa,_,?g,?mI,_,?g,?i,?i,?_];rw[hpl];let Pq2:?ee:=λj σ H2=>Fm ?As ((∃o2 o3,σ=[rS a,rS pa,o2,o3])) (∀j' i',j'<j->?NA j' j');apply Ck (lo:=0) (n:=((p.length:Nat):Int).toNat) Pq2 #[?g,#[?a6,?a6,?g],λj' i' h=>?Hw] ?_ ?_;{rintro j σ H2 hj Dc;ext f;let#[?g,#[o2,o3,?g],hall]:=Dc;have hj':?kB:=O9m;apply#[_,?g,_,?g,?i,?i,?_];let Pq3:?ee:=λi σ H2=>Fm ?As ((∃o3,σ=[rS a,rS pa,?KZ (0+j),o3])) (∀i',?NA i j);apply Ck (lo:=0) (n:=?D5) Pq3 #[?g,?f1,λi' h=>?Hw] ?_ ?_;{rintro i σ H2 hi Dc;ext f;let#[?g,#[o3,?g],hall2]:=Dc;have hij:i<j:=O9m;(have mj:?f8∈p:=by rw[qa1,qa0 hj'];exact ?f5);(have mi:?gC∈p:=?HE);let#[j0,j1,j2]:=hf _ mj;let#[i0,i1,i2]:=hf _ mi;let#[_,z,hq1,at1]:=?MI ?f0 hv;cases z;rw[?Je (?D5=j)]at at1;let#[_,z,hq2,at2]:=?MI ?dC hv;cases z;rw[?A4]at at2;let#[us1,v1,hu1,av1,tv1]:=LT.get hL j0 j1;let#[fZ,v2,XZ,av2,tv2]:=LT.get hL i0 i1;let#[b1,e1,hb1,ab1]:=?MI ?dC tv1;let#[b2,e2,hb2,ab2]:=?k2 (i:=?f0-1) tv2 ?i ?i;subst e1 e2;rw[?A4]at ab1;rw[?L0 ((?f0-1).toNat=j-1)]at ab2;apply#[_,?g,_,?g,_,?g,pa,_,_,_,?g,?g,hq1,at1,a,us1,_,_,?g,?g,hu1,av1,_,?g,b1,_,_,_,?g,?g,hb1,ab1,?_];apply#[_,?g,_,?g,_,?g,pa,_,_,_,?g,?g,hq2,at2,a,fZ,_,_,?g,?g,XZ,av2,_,?g,_,_,?g,?g,b2,_,_,_,?g,?g,hb2,ab2,?_];apply#[?g,_,?g,?_];by_cases hag:?OA 0;{apply Oo (eqI hag) ?_;apply#[?g,?f1,λi' h=>?_];by_cases hz:i'=i;{subst hz;unfold Vx;exact qf8 hag};exact ?G1};apply eY (neI hag) ?_;(have e2:?of=false:=by cases q:?of with| false=>rfl| true =>unfold No at q;rw[qe6]at q;have q2:=q j (?fi hj');rw[qe6]at q2;have q3:=q2 i (?fi hij);exact ?aI (qc9 q3) hag);rw[e2]at k;exact k};rintro σ H2 ⟨rfl,⟨o3,rfl⟩,hall2⟩;apply#[?g,#[_,_,?g],λj' i' h1 h2=>?_];by_cases hz:j'=j;{subst hz;exact ?G1};exact hall j' i' ?i h2};rintro σ H2 ⟨rfl,⟨o2,o3,rfl⟩,hall⟩;(have e2:?of=true:=by unfold No;rw[qe6];intro j hj;rw[qe6];intro i hi;have:=?cr hj;exact hall j i ?i ?e3);rw[e2]at k;exact k
noncomputable abbrev a8:Stmt:=top 16
def CH:?Jx [?ds,?cY,?bv,"total"] ?xP a8:=Bg
set_option tactic.hygienic true in def oW[?aQ](F:?Jr ?HZ ?HZ a8)[?aP] :?Ja ?xP Ro:=by apply ?K8 CH;let#[a,ms,k,n,?g,ha,hl,kq]:=h;have T8:=hr.u8;apply(?O2 (?Ks 3 CH.nd (Bh Df (?Pq ?E ?Z) ?ab)) (Ai (Cc (?KL Er ?ba) (Ai (Bt (SJ ?E ?Z JW ?i6))) (Ai (Y5 ?ey ?E ?Z ?ba ?A)))));ext bj;apply#[_,?g,a,?g,?t #[_,?mu],_,?g,_,Zc ?mu,_,?g,?aH,n,Zh ms k,?g,?_];ext sd;{(have e:?ef=0:=?aC);unfold Jk at kq;rw[?bB]at kq;apply#[_,?g,a,?g,?t #[_,?mu],_,?g,?aq,?h3,ha,?g,λv hv=>?_,λhn=>?_];{rw[YM];exact kq};rw[FU]at hn;(have hn':?wl:=by simpa using hn);(have e2:?cx=ms:=by unfold Ix;rw[List.filter_eq_self];intro p hp;(have:¬?bs:=λz=>by have h3:?vZ:=qm0.mpr #[p,hp,?gr];rw[Zi]at h3;let#[p',X1,e']:=?aW h3;rw[←e']at hn';(have:∀(ns:Ms),p'∈ns->Cr ns p'.1≠none:=by intro ns;induction ns with| nil=>intro z;cases z| cons q ns ih =>intro hq;rw[D7];split;{exact ?BJ};rename_i hne;rcases qe4.mp hq with rfl | hq;{exact ?aI ?g hne};exact ih hq);exact ?aB ms X1 hn');ext da);rw[e2,Ad8 ha]at kq;exact kq};(have e:¬?ef=0:=?aC);unfold Jk at kq;rw[?bN]at kq;exact#[_,?g,_,?g,_,?g,a,_,?g,Zb ha hl,kq]
noncomputable abbrev DY:Stmt:=top 17
def rV:?Jx ?sT ?sT DY:=Bg
set_option tactic.hygienic true in def SQ[?aQ](F:?Jr "times" "times" DY)[?aP] :?Ja ?sT Uv:=by apply ?K8 rV;let#[n,a,ms,?g,ha,hm,hok,k]:=h;apply(?O2 (?Pd Er ?E (?Jw Jz)) (Ai (Bd (Cu (AK ?A) ?A T.n_dict Gc (?PV (jX (B6 (N':=?uW) (cap:=[none,none,?kF]) ?A ?bK (Lr ?Z) (?Jd ZJ ZJ) ?bo (?Jl (De (Aa ?E (Aa ?D0 Ac)))))))))));ext bj;ext sd;{(have e:n=0:=?aC);intro D hD;apply k D _ hD ?dc ?_;rw[Ab];unfold Hl;rw[?bB];rfl};(have e:¬n=0:=?aC);ext Ir;let Pq4:?c2:=?P9 (Ec λ(ts:?Ec)=>Mb (zs=ts.map V.ref) (ts.length=i) ((∀(j:Nat) t,ts[j]?=?j t->∃p:?an,ms[j]?=?f4/\H1 t=?j (?aK [?k ?r,?k ?fy])/\t≠D)) ?s2 ?qo ?CV (?KQ iS n));apply Ue (d:=a) (o:=o) (kvs:=?aq) Pq4 #[[],?g,?g,(λj t z=>?HQ),?_,Ab,?_,?a6,?a6,?g] (?Kz #[_,_,_,_,e,_]) ?_ ?_;ext Iy;{rintro i kk x zs τ H1 p hx ⟨ts,rfl,FZ,hts,ha1,Dt,hk1,o1,o2,rfl⟩ hp;let ?qS:=Nn hx;have hlt:?kj:=?iu;have sp:?FS:=?dv;apply ?qu;apply#[_,?g,_,?g,_,?g,_,_,?g,?g,?y9,?d1,λt ht=>?_];have st:=sp.trans (?b6 (o:=?aK [?k q.1,?k (n*q.2)]) ht);have ntD:t≠D:=(Aq ?pX ht).symm;apply#[st _ _ Dt,?cZ ?iK,ts++[t],?ai,by simp[FZ],λj t' e2=>?_,?_,Ab,?wM,_,_,?g];{rw[List.getElem?_append]at e2;split at e2;{let#[p',jG,h2',h3']:=hts j t' e2;exact#[p',jG,by rw[Al h3'];exact st _ _ h2',h3']};rename_i hj;(have hj0:?DF=0:=by cases hz:?DF with| zero=>rfl| succ m=>rw[hz]at e2;simp at e2);rw[hj0]at e2;(have et:t=t':=by simpa using e2);subst et;apply#[q,by rw[show j=i by ext d];exact hq,?_,ntD];rw[Al ntD];exact Ab};{rw[?qG];exact st _ _ ha1};have:=?GP;rw[?LF Al];exact st _ _ ?aB};rintro zs τ H1 ⟨ts,rfl,FZ,hts,ha1,Dt,hk1,_⟩;rw[Ks]at FZ;apply#[ha1,D,ts,cK ?pE,?g,?C5,(by rw[Ks,qa3];exact FZ),λi t e2=>?_,λE hE=>?_];{let#[p,jG,h2',_]:=hts i t e2;apply#[(?t ?r,?k ?fy),?_,?_];{unfold cK;rw[qa7,qa7,jG];rfl};have nta:t≠a:=Fn h2' ha1 ?BJ;rw[Al nta];exact h2'};(have s1:?P H (upd H1 a ?g5):=λc q e2=>by ext sZ;exact ?BF);apply k E _ (s1.free hE) (?hU (?b6 hE)) ?_;rw[Ab];have hnd':?b7:=?us;rw[Pa _ [] (by rw[qq4];exact Vd.mpr (kE hnd' n))];unfold Hl;rw[?bN,qq4]
noncomputable abbrev dY:Stmt:=top 18
def RU:?Jx ?o3 ?o3 dY:=Bg
def sQ[?aQ](F:?Jr "weigh" "weigh" dY)[?aP] :?Ja ?o3 GK:=by apply ?K8 RU;let#[a,b,ms,ns,?g,ha,hb,nab,hm,hok,k]:=h;have T8:=hr.u8;apply(?Nk (Bc (KN (K:=K) ?A) T.n_sum QO (?PV (jX (B6 (N':=?IT) (cap:=?CR) ?A ?bK (Lr ?E) (?Jd zJ zJ) ?bo (?Jl (Bh K3 ?Z (?Pq ?ab ?E))))))));ext Ir;let Pq5:?c2:=?P9 (Da (zs=(?Cl λp=>p.2*?B0).map ?a4) ?s2 ?qo ?CV (?KQ rS b));apply Ue (d:=a) (o:=o) (kvs:=?aq) Pq5 #[?g,?_,Ab,?_,?a6,?a6,?g] (?Kz #[_,e,_]) ?_ ?_;ext Iy;{rintro i kk x zs τ H1 p hx Dc hp;revert τ;apply tS ?_;intro hz1 ha1 Dt hk1 o1 o2 Ei;subst hz1;let ?qS:=Nn hx;have hlt:?kj:=?iu;have sp:?FS:=?dv;(have hb1:Rd H1 b ?o2:=by rcases hb with h|⟨z,h⟩;{exact ?t ?uu};exact ?S #[z,?uu]);have hb2:=MJ sp hb1;apply ?qu;apply#[_,?g,_,?g,b,?g,?t #[_,hb2],_,?g,_,Zc hb2,q.2,Av ns q.1,?g,Zh ns q.1,?y9,?_];apply#[?pX,?cZ ?cX,?_,?_,Ab,?wM,_,_,?g];{rw[qo3,hq,qb0,qb0];rfl};{rw[?qG];exact sp _ _ ha1};rw[?LF Al];exact sp _ _ ?GP};rintro zs τ H1 ⟨rfl,ha1,Dt,hk1,_⟩;rw[Ks,qc8]at Dt;apply#[ha1,D,_,?g,.of ?C5,k _ ?Hn];ext sZ;exact ?BF
noncomputable abbrev Jc:Stmt:=top 30
def U3:?Jx ?fS ?fS Jc:=Bg
def Vb[?aQ](F:?Jr ?Fb ?Fb Jc)[?aP] :?Ja ?fS mG:=by
 apply ?K8 U3;let#[v,xs,?g,hL,hx,k]:=h;let#[Sn,bV]:=T.x_MOST_PIECES;let#[a,us,?g,hq,r]:=id hL;have hl:?MX xs.length:=by have:=r.length;ext da
 apply(?Ps (O8 (?PU ?re T.n_list El) (Qq (Mp MM ?k9 (Ig (v:=?k 40) ?A bV ?f1) ?aY))));apply#[_,?g,?a7,?re,_,?g,?S ?FQ,hL,_,?g,?_];apply eY ?A ?_;apply#[_,?g,a,_,?g,?t hq,_,_,?g,?g,?_];show Q (.bl (?q ((us.length:Int)<=40))) H;rw[qf8 ?l];exact k
noncomputable abbrev Z8:Stmt:=top 40
def OM:?Jx ?nv ?nv Z8:=Bg
def oV[?aQ](F:?Jr ?BG ?BG Z8)[?aP] :?Ja ?nv cD:=by apply ?K8 OM;let#[v,h,w,j,f,?g,hv,hh,hj,k]:=h;let#[a,us,?g,hq,y3,Pg]:=Iq hv;apply(?Nk (?Pu ?z0 Aj8 ?rO));apply(?KI a hq);let Pq6:?c2:=λi ys τ H1=>?OK (VI i (λi=>f i j)) j;apply C5 (K:=K) (a:=a) (xs:=us) Pq6 ?kI (λi ys τ H1 _ hz=>?Kb #[s1,_] ?hX hq) ?_ ?_;{rintro i x ys τ H1 hx Dc;revert τ;apply ?gT;intro s1 Dt hz1 o Ei;subst hz1;let ?Fq:=Pg i _ hx;apply#[_,?g,_,?g,b,_,_,_,?g,?g,?hX hb,Bd1 hj,?_];apply(?NZ ?qP);rw[Vz]};rintro ys τ H1 ⟨s1,Dt,rfl,_⟩;rw[y3]at Dt;exact ?o0
noncomputable abbrev Wo:Stmt:=top 42
def jR:?Jx ?mp ?mp Wo:=Bg
def JZ[?aQ](F:?Jr ?He ?He Wo)[?aP] :?Ja ?mp Zt:=by apply ?K8 jR;let#[n,i,?g,hn,k]:=h;apply(?Nk (B6 (N':=?xE) (cap:=?pr) ?A ?bK (?Ma ?hu) (?Jl (?Pb Aj6)) ?bo (?Jl (f7 (Bf Er ?E ?Z ?aY) Ak Ak))));apply ?E8;let Pq7:?c2:=λj ys τ H1=>?OK (VI j ?DS) i;apply J9 Pq7 ?kI ?_ ?_;{rintro j ys τ H1 hj Dc;revert τ;apply ?gT;intro s1 Dt hz1 o Ei;subst hz1;apply ?zy;have sz:(VI j ?DS).length<sizeLine:=?qP;apply ?cJ;{(have e0:?f0=?bV:=?aC);have e:j=i:=O9m;apply ?xg;rw[Vz,?bB]};(have e0:¬?f0=?bV:=?aC);have e:¬j=i:=O9m;apply ?xg;rw[Vz,?bN]};rintro ys τ H1 ⟨s1,Dt,rfl,_⟩;rw[qe0]at Dt;exact ?o0
noncomputable abbrev dZ:Stmt:=top 44
def RV:?Jx ?rt ?rt dZ:=Bg
def SR[?aQ](F:?Jr "mixed" "mixed" dZ)[?aP] :?Ja ?rt Uw:=by apply ?K8 RV;let#[a,b,x,y,n,p,q,?g,hx,hy,hn,hm,k]:=h;apply(?Nk (B6 (N':=?yt) (cap:=[none,none,?kF,?j 2]) ?A ?bK (?M7 EF ?Z) (?Jd tE tE) ?bo (?Jl (Bh Df (Bh K3 ?ab ?E) (Bh K3 ?ba ?Z)))));apply#[_,?g,_,?g,x,y,?g,#[_,hx],#[_,hy],?bY];apply DH (K:=K) (a:=x) (b:=y) (xs:=VI n p) (ys:=VI n q) (n:=n) (by rw[Bv,Bv,qv7]) (?P9 (Bw ?fP ?qo (zs=VI i (λj=>a*?bc+b*q j)) (Kc λo1 o2=>τ=[o1,o2,iS a,iS b]))) ?uk (λi zs τ H1 _ hz=>?NB s1 #[?hX hx,?hX hy]) ?_ ?_;{rintro i u v zs τ H1 pr hu hv Dc hp;revert τ;apply zM ?_;intro s1 Dt hz1 o1 o2 Ei;subst hz1;let#[hi,?g]:=Xh hu;let ?f1:=Xh hv;have sp:?P H1 (?KN H1 pr [?k (p i),?k (q i)]):=?dv;apply ?r8;apply#[_,?g,_,?g,_,_,?g,?g,(hm i hi).1,_,?g,_,?g,_,_,?g,?g,(hm i hi).2,_,_,?g,?g,?_];apply#[?pX,?qP,(?hU sp).turn hD,Ab,?_,_,_,?g];rw[Vz]};rintro zs τ H1 ⟨s1,Dt,rfl,_⟩;exact ?o0
noncomputable abbrev Ov:Stmt:=top 50
def aY:?Jx ?mK ?mK Ov:=Bg
def BC[?aQ](F:?Jr ?zN ?zN Ov)[?aP] :?Ja ?mK So:=by apply ?K8 aY;let#[a,b,sp,ms,?g,y4,hb,hl,kq]:=h;have T8:=hr.u8;apply(?Nk (?Pu ?Du Aj4 (?Pq ?Z ?E)));apply(?KI a y4);let Pq8:?c2:=?OZ (ys=((sp.take i).map ?CZ).map ?a4) (?LJ [o,rS b]);apply C5 (K:=K) (a:=a) (xs:=?rL) Pq8 ?kI (λi ys τ G _ hz=>?Kb #[g,_] g.seq y4) ?_ ?_;{rintro i x ys τ G hx Dc;revert τ;apply ?gT;intro g Ea hys o Ei;(have hi:?mf:=?Ae);(have hxv:x=?k sp[i]:=by rw[qa7,?hC]at hx;simpa using hx.symm);subst hxv;have W4:=MJ g hb;apply#[_,?g,b,?g,?t #[_,W4],_,?g,_,Zc W4,?_];rw[Zh];apply#[Ea,?cZ (by rw[hys,qa3,qa3,qb9];ext d),g.turn hD,Ab,?_,_,?g];rw[qe1,?hC,qb0,qb0,hys];rfl};rintro ys τ G ⟨g,Ea,hys,_⟩;rw[qa3,qc8]at hys;apply kq D G hD g ?_;rw[Ea,hys]
noncomputable abbrev a9:Stmt:=top 54
def oN:?Jx ["turn"] ["turn"] a9:=Bg
def OW[?aQ](F:?Jr ?IN ?IN a9)[?aP] :?Ja ["turn"] cE:=by apply ?K8 oN;let#[u,t,?g,hu,k]:=h;apply#[_,(Ae (?Pr (Bf Er ?fq O6 ?aY) (De (Aa O6 (Aa ?fq (Aa ?fq (?PV (N7 Iy ?fq))))))) (?Jw ?E)),?_];ext bj;cases t with| ad i j n =>let ?rW:=hu;let ?y2:=rT;apply ?HR;apply eY ?D ?_;apply#[_,?g,ta,_,_,_,?g,?g,hT,?g,_,?g,ta,_,_,_,?g,?g,hT,?g,_,?g,ta,_,_,_,?g,?g,hT,?g,_,?g,?d1,?Ej];exact k _ _ ?ni #[T1,_,?g,?e5,?y2]| mi i =>let ?rW:=id hu;let#[_,_,?g,?g,_,_,?g,?g,?g]:=rT;ext Im| sw i j =>let ?rW:=id hu;let#[_,_,?g,?g,_,_,?g,?g,_,_,?g,?g,?g]:=rT;ext Im
noncomputable abbrev Fg:Stmt:=Eo (top 55) 0
def Yh:?Jx ?qg ?qg Fg:=Bg
def P0[?aQ](F:?Jr ?jd "Lines.__init__" Fg)[?aP] :By P w K mg ?Y Ew 1 f fd ?qg (Ny K Ah Af Aj):=by apply ?K8 Yh;let#[p,dx,C,r,b,?g,hC,hp,k]:=h;(have hc:Cls K C/\D8 K C ?jN/\D8 K C ?id:=by rcases hC with rfl | rfl;{exact#[T.cl_Lines,T.na_Lines_rows,T.na_Lines_backs]};exact#[T.cl_Stairs,T.na_Stairs_rows,T.na_Stairs_backs]);apply(?O2 (Fd (K:=K) ?E ?Z) (Ai (Fd (K:=K) ?E ?ab)));ext bj;apply(?N7 hp (hc.2.1) ?ai);apply(?N7 Ab (hc.2.2) (by simp[putF]));exact k _ _ ?g ?g
noncomputable abbrev Tk:Stmt:=top 59
def Qf:?Jx [?dO,"at"] [?dO] Tk:=Bg
def HH[?aQ](F:?Jr ?xL ?xL Tk)[?aP] :?Ja [?dO] U0:=by apply ?K8 Qf;let#[c,W,st,u,?g,hq,hb,hW,k]:=h;let#[b1,b2,b3]:=hb;apply(?O2 (?Ks 1 Qf.nd Ak) (Ae (U5 qb8 (?KL Er ?rO) (Ai (?Ks 1 Qf.nd (Bh Df ?Z Ak)))) ?Ak));ext bj;apply ?Om [rS c,?KZ ((0:Nat))] (H=H');apply Mf ?_;intro sq;apply ?P2 (σ'=[rS c,?KZ ((st:Int))]/\H=H');{apply#[λm σ G=>Ec λ ?ht=>Bw (σ=[rS c,?KZ ?cf]) (H=G) (j<=st) (m=st-j),#[_,0,?g,?g,?X,?g],?_];rintro m σ _ Dc;apply xW ?_;intro _;let#[j,?g,?g,hj,?g]:=Dc;apply#[_,?g,_,?g,c,_,_,_,?g,?g,hq,Bj (Cy ?i),?g,_,?g,?_];apply ?cJ;{(have h0:u j=0:=?aC);have hlt:j<st:=Nat.lt_of_le_of_ne hj λz=>b2 (z▸h0);apply#[λσ' G'=>Ec λ(j':Nat)=>Fm (σ'=[rS c,?KZ ((j':Int))]) (H=G') (j'=?x),?_,?_];{rintro σ' G' ⟨j',rfl,rfl,rfl⟩;exact#[st-?x,?i,?x,?g,?g,hlt,?g]};exact#[_,?g,_,_,?g,?g,?x,?g,?g,?g]};(have h0:¬u j=0:=?aC);(have hlt:j=st:=by rcases qg5 j st with h | h;{exact ?aI (b1 j h) h0};ext d);subst hlt;exact key _ _ ?i2};apply Mf ?_;intro sq;exact#[_,?g,k]
noncomputable abbrev M0:Stmt:=top 64
def Lj:?Jx [?eV,"i",?dO] [?eV] M0:=Bg
def f9[?aQ](F:?Jr ?yw ?yw M0)[?aP] :?Ja [?eV] Pz:=by apply ?K8 Lj;let#[v,n,w,M,?g,hv,hn,hw,k1,k2]:=h;let#[ta,us,?g,hq,y3,Pg]:=Iq hv;apply#[_,(Ae (Cb qb8 ?g (?NV ?hu) (Ds (K:=K) (n:=2) ?A (Bi (?Np 1 Lj.nd) (Bi (?Np 2 Lj.nd) Dr))) (Ai (Cc (Je (Bc (v5 (K:=K) ?A) T.n_any Sb (?PV (B6 (N':=?uf) (cap:=?CR) ?A ?bK (?NV ?un) (?Jd sY sY) (?Jl (Mn (Bf Ku ?E ?ab ?aY))) (?Jl (Mp Ku ?Z Ak ?aY)))))) ?lG Bn))) ?lG),?_];ext bj;apply qy5 (λσ' H'=>?Lo σ' ?a9 n) ?q3 ?_;{apply#[_,?g,ta,?g,#[us,hq],?_];let Pq9:?ee:=λi σ G=>?Lo σ ?j9 i;apply aB (K:=K) (a:=ta) (xs:=us) Pq9 #[?a6,?a6,?g,Same.refl H,λi j hi=>O9m] (λi σ G _ hz=>?Kb #[_,_,_,s1,_] ?hX hq) ?_ ?_;{rintro i v σ G p hv Dc hp;ext f;revert σ;apply ZR ?_;intro o1 o2 s1 hS Ei;let ?Fq:=Pg i v hv;have sp:?P G ?C4:=?dv;apply ?qu;generalize ?C4=G1 at sp;have s2:=?hU sp;apply(?KI b ?wU);let B76:?c2:=λj zs τ G2=>Ec λ(bs:?ae Bool)=>Mb (zs=bs.map V.bl) (bs.length<=j) ((?pP↔∃c,c<j/\c≠i/\M i c≠0)) (?P G1 G2) (G2 D=?qx) (j<=w) (?KQ ?j (?k ?bV));apply dI (K:=K) (a:=b) (xs:=VI w (M i)) B76 #[[],?g,?v,#[λz=>?HQ,λ#[c,hc,_]=>O9m],?dc,Ab,?X,?a6,?a6,?g] (λj zs τ G2 _ hz=>?Kb #[_,_,_,_,g,_] g.seq ?wU) ?_ ?_;{rintro j y zs τ G2 pr hy ⟨bs,rfl,hbl,hiff,g,Ea,hj,q1,q2,rfl⟩ hpr;let#[hjw,?g]:=Xh hy;have gp:?P G2 ?Dn:=?b6 hpr;apply ?r8;generalize ?Dn=G3 at gp;apply ?zy;apply ?cJ;{(have hji:j≠i:=?Lv ((?ht:Int)=?bV) ?aC);apply#[_,?g,?g,?EO,?cZ ?iK,bs++[!(?q (M i j=0))],?_,?cX,?_,(?wK).turn hD,Ab,hjw,_,_,?g];{rw[qb0];congr 1;by_cases z:M i j=0<;>simp[z]};rw[List.any_append,qt0,hiff];constructor;{rintro (⟨c,h1,h2,h3⟩ | h);{exact ?CL};exact#[j,?i,hji,?kM]};rintro ⟨c,h1,h2,h3⟩;rcases qg5 c j with h | h;{exact ?t #[c,h,h2,h3]};have:c=j:=O9m;subst this;exact ?S ?Ex};(have hji:j=i:=by (have:(?ht:Int)=?bV:=?aC);ext d);apply#[bs,?g,?i,hiff.trans #[λ#[c,h1,h2]=>#[c,?i,h2],λ#[c,h1,h2,h3]=>?CL],?wK,?EO,hjw,_,_,?g]};rintro zs τ G2 ⟨bs,rfl,_,hiff,g,Ea,_⟩;rw[Bv]at hiff;apply#[D,bs,?g,.of Ea,_,?g,?_];apply ?cJ;{(have h2:?pP:=?aC);let#[c,c1,c2,c3]:=hiff.mp h2;exact k2 (λz=>c3 (z i c hi c1 λe=>c2 ?es)) _ (?mw g)};(have h2:¬?pP:=?aC);apply#[_,_,?g,?mw g,λx c hx hc hne=>?_];rcases qg5 x i with h | h;{exact hS x c h hc hne};have:x=i:=O9m;subst this;exact qh0 λz=>h2 (hiff.mpr #[c,hc,λe=>hne ?es,z])};rintro σ G Dc;revert σ;apply ZR ?_;intro o1 o2 s1 hS Ei;rw[y3]at hS;exact key _ _ #[_,_,?g,s1,hS]};apply yW λo1 o2 G s1 hS=>?_;intro sq;exact k1 hS _ s1
noncomputable abbrev Ic:Stmt:=top 70
def Ti:?Jx ?jm ?jm Ic:=Bg
def T5[?aQ](F:?Jr ?HV ?HV Ic)[?aP] :?Ja ?jm Le:=by apply ?K8 Ti;let#[a,us,ps,?g,ha,rU,hpl,kq]:=h;apply(?Nk (B6 (N':=?Fv) (cap:=?nC) ?A ?bK ?rf (?Jl (?Pb Aj2)) (?Jl (Mn (Bf Ku ?fq Ak ?aY))) (?Jl ?E)));apply(?KI a (.of ha));have ul:=rU.len;let B75:?c2:=?OZ (B7 G ys (noB ?i9)) ?C3;apply Jj (K:=K) (a:=a) (xs:=us) B75 #[?dc,Ab,trivial,?a6,?g] (λi ys τ G _ hz=>by let#[h1,_]:=hz;exact ?Mx h1 ha) ?_ ?_;{rintro i v ys τ G hv Dc;revert τ;apply ?gT;intro h1 Ea rY o Ei;have hi:=(?ag hv).1;let#[p,hp,pv]:=rU.get hv;have pv1:=pv.same h1;let#[t,c1,c2,c3,?g,et,_]:=id pv1;(have fG:?Ga=?i9++[p]:=by rw[qe1,hp];rfl);(have yl:ys.length<=1000:=by have h2:=rY.len;have h3:=qf2 (λp:BPart=>?q (?r≠1)) ?i9;rw[qb9]at h3;unfold noB at h2;ext d);apply(?KY t (.of et));apply ?pT;{(have jF:¬?dx:=?ei);apply#[_,?g,Ea,?gj,h1.turn hD,Ab,?_,_,?g];rw[fG,IA,?m jF];exact B7.snoc (?lC Ea rY) (pv1.put Ea)};(have jF:?dx:=?ei);apply#[h1,Ea,?_,_,?g];rw[fG,IA,?s jF];exact rY};rintro ys τ G ⟨h1,Ea,rY,_⟩;rw[ul,qc8]at rY;exact kq D ys G hD h1 Ea rY
noncomputable abbrev Gu:Stmt:=top 77
def F8:?Jx [?qR,"_law_chain","_law_place"] [?qR] Gu:=Bg
def Qx[?aQ](F:?Jr ?DN ?DN Gu)[?aP] :?Ja [?qR] Xt:=by apply ?K8 F8;let#[a,ms,?g,ha,hm,k]:=h;have T8:=hr.u8;apply#[_,(Ae (?Ks 1 F8.nd Jz) (Ae (Ty (Cb qb8 ?g (eG ?E) (?Np 2 F8.nd) (Ai (?Pd Ku ?GL (Ai (Y5 ?ey ?Z ?ab ?GL ?A)))))) ?Ak)),?_];ext bj;intro D hD;have naD:a≠D:=Aq ha hD;apply ?S #[a,?aq,(by rw[Al naD];exact ha),?BN];have A76:?b7:=?us;apply(?NM ?_);let B74:?ee:=λi σ H1=>Ec λo1=>Bw (σ=[rS a,rS D,o1]) ?s2 (H1 D=?Js ?lF) ((∀c q,c≠a->c≠D->?mJ));apply AA (d:=a) (o:=o) (kvs:=?aq) B74 #[?a6,?g,Ab,?_,λc q n1 n2 e=>by rw[Al n1,Al n2];exact e] (λi σ H1 _ hz=>by let#[_,_,e,_]:=hz;exact e) ?_ ?_;{rw[Al naD.symm,Ab];rfl};{rintro i kk x σ H1 hx Dc;ext f;revert σ;apply cQ ?_;intro o1 ha1 Dt hk1 Ei;let ?qS:=Nn hx;have hlt:?kj:=?iu;have hat:Cr ms q.1=?j q.2:=F9 A76 ?vt;apply#[_,?g,_,?g,a,?qc,?g,?xR,?g,_,?g,?_];have ct:=DG hq;apply ?cJ;{(have e:¬?j8:=?aC);rw[?bN]at ct;(have ln:?KP ?lF 1000000:=by have:=MR ?jG;rw[qb9]at this;ext d);apply#[_,?g,_,?g,a,?qc,?g,?xR,_,?g,_,?g,D,_,?g,Zb Dt ln,?_];apply#[_,?g,?_,?_,λc r n1 n2 e2=>?_];{rw[Al naD];exact ha1};{rw[Ab,put_new (yK (rO A76 hq)),ct]};rw[Al n2];exact hk1 c r n1 n2 e2};(have e:?j8:=?aC);rw[?bB]at ct;exact#[_,?g,ha1,by rw[ct];exact Dt,hk1]};rintro σ H1 Dc;revert σ;apply cQ ?_;intro o1 ha1 Dt hk1 Ei;rw[Ks,qc8]at Dt;apply#[ha1,_,?g,k D _ hD ?Hn (?N3 naD.symm)];ext sZ;exact hk1 c q z (Aq e2 hD) e2
noncomputable abbrev Qn:Stmt:=top 81
def DX:?Jx ?nj ?nj Qn:=Bg
def EK[?aQ](F:?Jr ?IP ?IP Qn)[?aP] :?Ja ?nj Oq:=by apply ?K8 DX;let#[a,ns,k,?g,hS,h0,hl,kq]:=h;apply(?O2 (?Pr (Bf U8 ?Z ?k9 ?aY) ?rO) (?Jw Ak));ext bj;apply#[_,?g,_,?g,a,_,?g,?t hS,_,_,?g,?g,_,?g,?_];apply ?cJ;{(have h2:k<(ns.length:Int):=?aC);(have e:Um ?dk k=?KZ ?xF:=by let#[j,?g]:=qn5 h0;apply Bj ?_;have hj:j<ns.length:=O9m;rw[qa7,?dH];simp[AJ,hj]);exact#[_,?g,_,?g,a,_,k,_,?g,?g,hS,e,kq]};(have h2:¬k<(ns.length:Int):=?aC);(have e:?xF=0:=by unfold AJ;have:?OO k.toNat:=O9m;simp[this]);rw[e]at kq;exact kq
noncomputable abbrev Oz:Stmt:=top 82
def Jp:?Jx [?j4,?nA,"_law_size","_law_faces",?q4] ?Dh Oz:=Bg
def bF[?aQ](F:?Jr ?tS ?tS Oz)[?aP] :?Ja ?Dh My:=by apply ?K8 Jp;let#[v,w,fam,?g,hv,hw,k]:=h;let#[aw,?g,hq]:=hv.sq;have hlen:?KM ?fE w.length:=qa3 ..;(have UB:w.length<=4:=by rcases hw with z | z | z<;>ext d);apply#[_,(Ae (?Ks 2 Jp.nd ?k9) (Ae (Cc (?KL Er ?Z) (Ae (?Pd U8 ?ab ?zF) (Ai (Bd (B6 (N':=?GX) (cap:=[none,?kF]) ?A ?bK ?xN (?Jl (?Np 0 Ai9)) ?bo (?Jl (Bh ?mh (C7 ?eT ?Z Fc (C9 ?E)) (?Pp ?Z (Bh Df ?E Ak)))))))) Bn) (Ae (Cc ?xi ?zF Bn) (Ae (Cc (?KL U8 ?Z) (Ae (?Pr ?xi (Fp (Aa ?xw (?PV ?xw)))) (Ai (Bd (B6 (N':=["_law_letter"]) (cap:=?nC) ?A ?bK (Vg (K:=K) ?E) (?Jl (?Np 0 Aj0)) ?bo (?Jl (De ?hu)))))) Bn) (Ae (?Ks 3 Jp.nd (Fp (?PV (?Pp ?E Ak)))) (Ae (Cb qb8 ?g (?Ma (?PV ?qk)) (?Np 4 Jp.nd) (Ai (?Nt (Bh ?mh (Bh ?mh (?NF ?oK) (De (?PV (Bh Fq (Bh Df (?KT ?E ?oK) (?KT ?E ?Bd)) ?Z)))) (?Pp ?E ?Bd))))) (Ae (?Nt (?NF ?qk)) (?Jw ?ba)))))))),?_];ext bj;apply#[_,?g,aw,_,?g,?mI,?_];rw[hlen];ext sd;{(have hf:fam=0:=?aC);subst hf;apply ?CX;apply ?pT;{(have h3:?Au:=by (have:?e0<2:=?ei);ext d);apply ?zz;apply ?GF;(have e:Ay w 0=[]:=?Lg ?y ?pG);rw[e];rfl};(have h3:¬?Au:=?Lv (?e0<2) ?ei);(have e:Ay w 0=(?ce ?A9).map ?Ea:=?Lg ?y ?hO);rw[e]at k;apply ?E8;let B73:?c2:=?Kq ?Dv (Ec λo=>τ=[o,rS aw]);apply J9 B73 ?zh ?_ ?_;{rintro i ys τ H1 hi Dc;revert τ;apply tT ?_;intro hi1 s1 Dt r1 o Ei;(have hi2:?np:=by simpa using hi);have hq1:?LI H1 aw ?fE:=?zs;apply(?Mp hq1 (λp1 H2 s2 q2=>?_));{rw[hlen];rintro ⟨_,z⟩;rw[?Hj,HT.sIx_nat]at z;ext d};apply(?M5 (s2.seqT hq1) (λp2 H3 s3 q3=>?_));{rw[hlen];rintro ⟨z,_⟩;rw[?yN,HT.sIx_nat]at z;ext d};rw[?Hj,J8]at q2;rw[?yN,Ir]at q3;apply#[p1,p2,_,_,?g,?g,?i1 q2,q3,?_,λp H4 s4 q4=>?_];{apply Br ?_;simp only[qb9,qh4,qa3];first|exact zn4 ?i|ext d};have gY:?P H1 H4:=?ny;have KQ:H4 D=?iG:=gY _ _ Dt;(have t4:TI K H4 ?bW ?Ab:=by apply ?lV;rw[qb0,qo4,qq5];exact q4);have r4:?bZ K H4 ys ?Dv:=?hw gY r1;(have hyl:?Bq:=by have:=r1.length;ext da);apply#[KQ,?gj,?i,(?hU gY).turn hD,Ab,?_,_,?g];rw[qk4,qb0];exact ?F9};rintro ys τ H1 ⟨_,s1,Dt,r1,_⟩;rw[?L0 ((?e0).toNat=w.length)]at r1;exact ?Al};(have hf:¬fam=0:=?aC);apply ?nQ;apply ?pT;{(have h3:?DW:=?ei);apply ?zz;apply ?GF;(have e:?ij=[]:=?Lg ?kD ?pG);rw[e];rfl};(have h3:¬?DW:=?ei);apply ?CX;apply ite2 ?yr ?yr;{(have h5:fam<0:=?IJ);apply ?nQ;apply ite2 ?zH ?zH;{(have h7:?H9:=by (have:?e0=1:=?FR);ext d);(have e:?ij=[[],[]]:=?LB ?s);rw[e]at k;apply#[?X,λp1 hp1=>#[?X,λp2 hp2=>#[?d1,?bU]]];have s1:?P H ?pM:=?b6 hp1;have s2:?P ?pM ?m5:=?b6 hp2;have s3:?P ?m5 (?OQ ?m5 p [?jC,?tH]):=?dv;have hp0:?jb:=(?jq).free hp;apply k p _ _ hp0 ((?jq).trans s3) Ab ?_;have t1:TI K _ ?jC []:=?lM (?Mx s3 (s2 _ _ Ab));have t2:TI K _ ?tH []:=?lM (?Mx s3 Ab);exact#[_,_,?g,t1,_,_,?g,t2,?g]};(have h7:¬?H9:=?Lv (?e0=1) ?FR);(have e:?ij=w.map ?iJ:=?LB ?m);rw[e]at k;apply(?KI aw hq);let B72:?c2:=?Kq ((?Gm ?iJ).map tI) ?C3;apply R9 (xs:=?fE) B72 ?zh (λi ys τ H1 _ hz=>by let#[_,s1,_]:=hz;exact ?zs) ?_ ?_;{rintro i x ys τ H1 hx Dc;revert τ;apply tT ?_;intro hi1 s1 Dt r1 o Ei;(have hi2:?np:=?Ae);(have hx2:x=?FD:=by rw[qa7,qa0 hi2]at hx;simpa using hx.symm);subst hx2;apply#[_,?g,?d1,?bU];have s2:?P H1 ?I8:=?dv;have KQ:=s2 _ _ Dt;have t4:TI K ?I8 ?bW [w[i]]:=?lM ?e5;have r4:=?hw s2 r1;(have hyl:?Bq:=by have:=r1.length;simp at this;ext d);apply#[KQ,?gj,?i,(?jq).turn hD,Ab,?_,_,?g];(have e2:(?gD ?p).map ?iJ=?Gm ?iJ++[[w[i]]]:=by rw[qe1,qa0 hi2,qb0];rfl);rw[e2];exact ?F9};rintro ys τ H1 ⟨_,s1,Dt,r1,_⟩;rw[hlen,qc8]at r1;exact ?Al};(have h5:¬fam<0:=?IJ);have hpos:0<fam:=O9m;(have e:?ij=?Mm ?jY++[?Bz]:=by unfold Ay;rw[?kD,?hO,?m h5]);rw[e]at k;apply#[_,?g,_,?g,aw,_,?g,hq,?_,λp1 H1 s1 q1=>#[?d1,?bY]];{rw[hlen];rintro ⟨z,_⟩;rw[?C7,HT.sIx_nat]at z;ext d};rw[?C7,Ir]at q1;have rA:?b4:=s1.free hD;have s2:?P H1 ?yX:=?dc;(have t1:TI K ?yX ?jC ?li:=by apply ?lV;rw[qq5];exact s2.seqT q1);have hn:?zb=?jY:=O9m;apply#[_,?g,_,_,?g,?g,_,?g,?i,?i,Ck (lo:=0) (n:=?zb) (λi σ H2=>Kc λ(ys:?O) (o:?dI V)=>Bw (σ=[rS aw,iS fam,?KZ ?A9,rS D,o]) (?P H H2) (H2 D=?iG) (?bZ K H2 ys (?Mf ?BL tI))) #[_,?a6,?g,?jq,Ab,#[_,_,?g,t1,?g]] ?_ ?_];{rintro i σ H2 hi Dc;ext f;revert σ;apply X0 ?_;intro ys o sH L4 r2 Ei;rw[hn]at hi;have hq2:?yA:=?tk;have c0:?dC=((i:Nat):Int):=O9m;have c1:?ns=?oF:=O9m;have c2:(?dC+2)=((i+2:Nat):Int):=O9m;(have at0:Um ?fE ?dC=?KZ ?xz:=by rw[c0];apply Bj ?_;rw[qa7,?dU];simp[?Je ?np]);(have at1:Um ?fE ?ns=?KZ ?BK:=by rw[c1];apply Bj ?_;rw[qa7,?dU];simp[?Je (?p<w.length)]);apply#[_,?g,?N6 _,?_];apply(?Mp hq2 ?Cs);{rw[hlen];rintro ⟨_,z⟩;rw[c0,HT.sIx_nat]at z;ext d};rw[c0,J8]at qa;apply#[_,?g,_,?g,aw,_,_,_,?g,?g,?vR,at0,_,?g,_,?g,_,_,?g,?g,aw,_,_,_,?g,?g,?vR,at1,_,_,?g,?g,_,?g,_,_,?g,?g,hpos,?d1,λpb hb=>?_];have sb:?P Ha (?KN Ha pb [?k ?D6]):=?b6 hb;apply#[pa,pb,_,_,?g,?g,sb.seqT qa,?e5,Br ?cX,λpc Hc sc qc=>?_];have sac:=(sa.trans sb).trans sc;apply(?M5 (sac.seqT hq2) (λpd Hd sd qd=>?_));{rw[hlen];rintro ⟨z,_⟩;rw[c2,HT.sIx_nat]at z;ext d};rw[c2,Ir]at qd;apply#[pc,pd,_,_,?g,?g,sd.seqT qc,qd,Br ?cX,λpe He se qe=>?_];have rX:=(sac.trans sd).trans se;have hDe:=rX _ _ L4;(have te:TI K He (?w pe) ?oj:=by apply ?lV;simp only[qb0,qo4,qq5,qd2,qr7];exact qe);(have hyl:?MW ?p:=by have:=r2.length;ext da);apply(?NN hDe);apply#[_,_,?g,(?xj rX).turn rA,Ab,?_];(have e3:(?Mm ?p) = ?BL++[?oj]:=by rw[qk4,qb0];rfl);rw[e3];exact K0 hDe (?hw rX r2) te};rintro σ H2 Dc;revert σ;apply X0 ?_;intro ys o sH L4 r2 Ei;rw[hn]at r2;have hq2:?yA:=?tk;have c1:(?e0-1)=((?jY:Nat):Int):=O9m;apply#[_,?g,?N6 _,_,?g,_,?g,_,_,?g,?g,_,?g,aw,_,?g,hq2,?_,?Cs];{rw[hlen];rintro ⟨_,z⟩;rw[c1,HT.sIx_nat]at z;ext d};rw[c1,J8]at qa;have hDa:=sa _ _ L4;(have ta:TI K Ha (?w pa) ?Bz:=by apply ?lV;rw[qo4];exact qa);(have hyl:?MW w.length:=by have:=r2.length;simp at this;ext d);apply(?NN hDa);apply#[_,?g,?_];exact k D _ _ rA ((?xj sa).turn rA) Ab (K0 hDa (?hw sa r2) ta)
end
mutual
#check(4,[?a,?b,?c,.(by first|with_reducible(first|assumption|exact Nat.le_trans ‹_› (Nat.le_of_ble_eq_true rfl)|exact Nat.lt_of_lt_of_le ‹_› ‹_›|exact Nat.le_of_lt ‹_›|exact Nat.lt_of_lt_of_eq ‹_› ‹_›|exact Nat.lt_of_lt_of_eq ‹_› (Eq.symm ‹_›)|exact Nat.lt_of_le_of_lt ‹_› ‹_›|exact Nat.succ_le_of_lt ‹_›|exact Nat.le_of_not_lt ‹_›|exact Nat.sub_le _ _|exact Nat.le_of_succ_le ‹_›|exact Nat.lt_succ_of_lt ‹_›|exact Nat.le_add_right _ _|exact Int.toNat_sub _ _|exact Nat.le_trans (Nat.min_le_right _ _) ‹_›|exact Nat.le_trans (Nat.sub_le _ _) (Nat.le_trans (Nat.le_of_eq ‹_›) ‹_›))|lia),.(by first|(apply Hb.let12 ?_;intro _ _ _ _ _ _ _ _ _ _ _ _)|(apply Hb.let10 ?_;intro _ _ _ _ _ _ _ _ _ _)|(apply Hb.let9 ?_;intro _ _ _ _ _ _ _ _ _)|(apply Hb.let8 ?_;intro _ _ _ _ _ _ _ _)|(apply Hb.let7 ?_;intro _ _ _ _ _ _ _)|(apply Hb.let6 ?_;intro _ _ _ _ _ _)|(apply Hb.let5 ?_;intro _ _ _ _ _)|(apply Hb.let4 ?_;intro _ _ _ _)|(apply Hb.let3 ?_;intro _ _ _)|(apply Hb.let2 ?_;intro _ _)),.(by first|(apply Hb.letG6 ?_;intro _ _ _ _ _ _)|(apply Hb.letG5 ?_;intro _ _ _ _ _)|(apply Hb.letG4 ?_;intro _ _ _ _)|(apply Hb.letG3 ?_;intro _ _ _)|(apply Hb.letG2 ?_;intro _ _)|(apply Hb.letG1 ?_;intro _)),rfl,some,O9m,base,.of,Same,upd,.(by rfl),.int,none,qy5,λkey=>?_,key,.lst,.ref,.inl,rS a,Same.new,pv 0,.(by decide),pv 2,Has,F.okZ,λDz A outer s H vs Q E hr h=>?_,FnScope,pv 1,∀(T:?CT),a,∀{f:Addr}{fd:FuncData},a,rS p,V.int,λ_ _=>rfl,pv 3,Bm _,.(by decide +kernel),.inr,T.cl_Work,.(by ext e),Rep.same,spot,T.cl_Stairs,.tup,?Jg Dy ?K,pv 4,.(by ext Y),.(by kernel_rfl),.(by simpa using this),Reps.same,(k:Int),Nat->?bJ->St->Hp->Prop,rS b,pv 5,?KA Az,?Jx H,Br ?au,?Ft ?a1,rS l,rS D,"shape",λ_ _ _ _=>Ca,.ins,W.findIn,decide,i+1,"self",.(by ext aK),?k Ab,.(by simpa using h1),.(by simp;ext d),Nat->St->Hp->Prop,?Jg G0 (λ_ _ _=>rfl),(i:Int),λD hD=>?_,?MN Bb ?y,if_neg,T.cl_Book,.(by(repeat (first | rw[As,?bI] | ext lG))<;>first | rfl | assumption),?L9 ?F,putF,pv 6,?h v,"number",T.n_range,T.n_len,?Jg Kw ?Dm,rS ga,Reps,qb1 _,rS la,SameX,?h 1,rS tp,if_pos,?ox V,"width",Aw (K:=K),.(by exact nomatch hl),?KA Be,hc.1,"table",Ik ?_,ite2,_,.(by simp),iS k,?h ?p,.(by rw[qa3];ext d),rS q,T.na_Stairs_rows,?as ?fn ?fn,(0:Int),?b5 ?i,?bb Int,"chain",small,(t:Int),spot+1,?L9 ?y,[?aH,"k"],Kp.upd,?L9 ?A,?x hD,pv 9,iS fam,B5.nd,"turn",.(by ext N),?aj ?g,?bb V,g.trans,A / g,[?aH],xs.getD,(?Hh ?_),s1.trans,.(by apply Mf ?_;intro sq),?o i,Dj.nd,"thing",C0.nd,s2.trans,#[_,?g,?g,_,?g,?_],SameX.upd,"__init__",#[_,?g,?_],?b1+?aO,List,Cj xs k,"place",qa0 hi,f i,V.ref,?h o,?bX ?nb,?MV ?y,R.same,SameX.of,iS i,.(by ext c9),l.prog,Cl.nd,?h (?o ?nq),pv 8,H=H',rS R1,"told",f+d,sB.trans,xs.length,_,as.map ?bg,Rows,?J 0,T.cl_Lines,rS p1,?u T1,(D:Addr),rS L,?a1+1,?aR (λz=>?fu (z▸hm) ?bH),.(by simpa using h2),T.na_Stairs_starts,?L9 ?cW,?KA E3,Ed.nd,λIl=>?_,?u Ah,Ce.nd,?KR G,R.same.seq,f j,List.replicate,H' D,c%1000000%4,?bP s2,#[_,?g],Dq.nd,noB ps,for_list,"other",(?IR ?g),(?HO _ _ ?g),?h (?o ((?bc:Nat):Int)),pv 7,[?aH,?dl,?dY],(?fV,Lat.one),(?cq hv).1,?k ?fz,?LA N9,?v ?g,q.1.toNat,?Jc ?aQ ?F,?u a,s1.seq,.(by have:=?dk),.(by rw[qb0];rfl),rS hd,.(by ext d),?KR H2,Lat.Mat × Lat.Mat,Xz ?_,"_law_shape",?m H2 R1 ?CR,qa2.mp,[none],"_law_cell",t ?S,Cj xs ?c7,Ch.nd,0+?aO,Ex.nd,T.na_Work_table,rS nn,?u D2,[?aH,?bG],T.na_Work_numbers,ns.map ?J,?Lo ?A,?G8 [o],?b5 ?t8,-?qw,cK ms,?h ?fL,#[_,qa0 ?i],W.keepIn,?L9 ?L,?h q,?h ?lt,?L9 ?a4,?x hp,Mz.nd,"blend",Fp Ac,"_law_script","_law_other",Xy ?_,Al z,?Lo ?a4,T.na_Work_left,w+n,?JC ys,rS tl,?JO D,"one",qb2 hq,"_law_family",Dv.nd,"backs",hc.2.2,?L9 ?aQ,hc.2.1,TI.sq,[?aB,"k"],xa.1,[?aq,?al],Ba ?a5 ?aQ ?A ?K,?v hq,?KA Jg,?h 21,(?cq hx).1,"rows",k-1,#[?g,?_],_,?k et,?h ?Bb,?gi g2,?KV ?mF,?Fw ?h8 hi,λC hC=>?_,λhnd o=>?_,?bV s3,Al CI.symm,?h 0,Nn hx,"law",ns.length,Kp.of,cK ns,iS letters,[?aH,"i","j",?dU,?cS],?u Aj,"row",?t [],PW.pt,os.map ?J,(j:Int),?g6 i,?h 63,Ee.nd,Cg _ _ _,?u Af,.(by rintro σ G Dc;revert σ),.(by have T8:=hr.u8),OL.trans s4,?R s1 hL,?LU ?ei,noB ps2,c≠D,?aR ?bH,?HY ?jo,s.1 i ?ct,H' b,λm hm=>?_,rS tg,σ'=[?I,?bm,?h ?xy],?KV hb,?Iw l4,?L9 Ak,R2.same,"numbers",?jz _,.dK [],?x hT1,"_law_cells",pv 11,Al hb,Ft ws ?yP,K.lookup,(m:Int),T.na_Work_right,(?HK hp),[?aB,?b4],s2.seq,"pieces","papers",?KV e,bo.1,?LA ?A,Ay ?ge fam,u1 T8,cK c,?Jx H3,Ht ys t,.(by ext ch;ext Z),rS ta,T.n_dict,s3.trans,X0 ?_,Nat->Int,?Jw H',T.n_list,Al ?l0,#[q,hq,?g,?g],H1 D=?dR,.(by ext ci),?Ft ?kh,?wP g3,"_law_k",?b6+1,iS n,?Hp H,?m H1 p ?Ai,(?G3 p ?aJ),s.1 ?S ?ct,rS N,(?KP ?s7),#[as,xa,na],?t us,sp.map ?J,(ws:?bJ),Ai N6,?u E,s.1 i,mainGlobals,?GS (((k+1:Nat):Int)=?c7),TI.mk,[?bT],Lat.one,#[_,z,_],"lifts",x.same,?HY ?z,k H1 s1,Do ws ?fp (?yg m),.(by(. (ext aT))),.(by intro z;cases z),?Fl ?s7,?k L4,[?aH,"i"],qh1.mp,(?L2 hD),#[?z,?z],s0.free,Bj rC,?f0 s4,λh1=>?_,?JF Lh,?K4 ?nM,#[_,?g,_,?g,?i,?i,?_],Xm.of,.cons,.(by ext fd),absurd,?HY ?au,"_law_word",?Lx ?a4,?J8 ?da,xa.2.1,iG ?_,TI.same,Al n2,tu ?aO,(?x vS).turn,LT.get,(?cQ).take,?bK g1,#[r,b,lx,_],?Fs ?y ?L,qi2 _ _,id hL,?u Ar,?J8 ?nn,(us:?bJ),[?aB,?bT,"level"],?Fw Lz T8,top 69,Cj xs 0,?Ft ?q2,?JC ws,?U [?o sv,?o nv],?u D,Al n1,λz=>?tV,"right",λa=>a=nm,?Fq (spot<n),?L9 ?dg,q.1=0,?JF Nz,Ij ?rE c,T.na_Book_pieces,?o ?eB,Iq hv,plc xs k,"_law_words",(o:?ak),Gm m f,?bV st,layer[j],?H7 s1,?u ta,.(by ext gz),g1.trans,?x hC,?KR H1,top 63,?u D1,?Lo ?F,?O ?g,pv 10,ws.map tI,qk9 _ ?z,(xs.length:Int),(v:V),R.free,top 58,rS fi,∀(Cd:?G7 ?kY ?jt ?y5),a,∀(Dl:?Fu ?ju ?df ?Dn),a,.(by first | exact Or.inl ?g | exact Or.inr ?g),.(by let ?ek:=lx.ob),∀{α:Type}{P:?bb α->Prop},a,.(by exact k H (?jz H)),∀(us:?bb α),a,T.n_all,R.push,.(by have:=r.length;ext Z),(?iY).length,xa.row,R3.same,"is_chain",#[_,?g,_,?g,_,_,?g,?g,#[hb0,hb1],?_],"is_place_of_level",rS c3,?l G1 G',.(by ext lO),#[_,?g,_,_,?g,?g,?fj,?ae,?uA],(?jw).1 i ?m1 / s.1 ?bv ?m1,[?aB,"k",?bT],Lat.turnL,rS c2,C6.nd,?Iy i,"loop",?x hpt,[?aH,?aq,?al],W.nsIn,?Gh (?CX "object.__setattr__"),"many","lifts_of",G=H',layer,#[i,hi,?g],R2.same.free,Vn[j],?ot ?g,Al CI,?u Gz,MS ?_,s2.free,"_law_most",wL i j g a b f r,?u ga,s1.free,"check_round",fs.map ?J,W.codeIn,"ones",#[_,?g,k v H2 w s2 tv (hW w hwl)],"_law_turned_order",?h ps,#[g,_],[?bT,?pK],W.fnOf,σ'=[?I,none],?t [?o 0],T.m_Lines,‹_›,"places_of_level",PySem.W.makesIn,?aR ?ck,j+1,"is_list_of_wholes",Ay w fam,?Fl #[?g,s1],?ox L2.V,(os:?b3),?Fh ?y,Lat.blendR,wF (Av ?ph) c,(?g3).toNat,(?cq hq).1,Sum.inl,.(by rw[Bv];ext d),?M3 Bt Cd ?se,Cz xs ys os,#[z1,z2,z3],"_law_words_with",?Jx H1,?MN Bb ?nz,(w:?b3),"filling","is_whole_below",qa4 _,?aR h0,#[bs,xb,nb],?u Ip,[?aB,"k",?e7],rS c1,"_law_plus",?u b,pv 12,mS ?_,.(by rw[qb7,qi3];ext d),PySem.W.hasDictIn,#[_,?g,_,?g,_,?g,_,_,?g,?g,hb0,?a7,λpt hpt=>?_],plc xs ?dm,[?aB,"k",?bd,?aY],?L9 ?oc,λ_=>False,"bases_of",?CQ i j 1 l,?If m,_,"_law_piece_off",R.same.trans,?t fZ,T.na_Stairs_backs,Cn (Fb ?zD).length,(o4:?ak),(?bw g),_,?o ?b6,?U [?kH,?u lp,?u gp,?u fl],-?d7,Li.nd,#[_,?g,_,_,?g,?g,(by ext lQ),?g,_,?g,?_],((i:Nat):Int),"border",hc.ch,?KJ vR,Gx.nd,"border_table",?h 2,rE.get hv,#[a,?g,Yq],"lines","gauge",?m G e ?mQ,T.na_Lines_backs,?Ft ?cw,"parts_of",nb a ha,ns.getD i (0,0),?as ?nl ?nl,?u J7,#[s1,_],[?bT,?hS],"turned",T.na_Work_width,"_law_any_shape","diagonal",w.length=i,"piece",cN ms n ns i,(?gZ).length,"is_shape","is_chain_of_some_level",(w:Int),ns[j]%?mo,iS c',"__setattr__",.func,[none,?ah],T.na_Lines_rows,R2.same.trans,[?bT,?al],"stepped",[?dU,?cS,?al],#[x',hx',tx],R2.free,"first_misfit",?h ?e8,qj6 ?eF,Cn ?zc,(Vn.length:Int),(?cQ).length,"lift_of",s4.trans s5,Sv d f l r,"_law_word_by",[?aB,?bT,?pK],[?dK],?o ?bf,.(by ext aL),cK p.2.2.1,RY.trans,?Kj ?i,PySem.W.plainOver,["k",?pK],"flipped","product",?rH t i f s d,?m H2 d ?qc,"is_part",Same.refl,σ'=[?I,?ey,?dq],Kv lf (ps.take j),ys=?bz,?bb Addr,?Im ?_,λT1 hT1=>?_,s0.trans,#[T1,_,?g,?aJ,?wL],?U [?qq,?o q.2],?o (fs.getD i 0),?LU (((?cu:Nat):Int)),¬N a,.(by simpa using jF),qg9 ha,ys.map tI,.str "add",#[VQ,vQ],?o ?kx,"_law_sums_alike",[(pl,1)],?Fw Bz ?ce,"plus",Aa ?L ?qA,?KA E9,qo1 _ ?z,"chain_of",?Fw Pe ?n,(c':Int),[?pn],?Hp H0,"fits","_law_shape_by",λr' b' G2 sx n1 n2 z=>?_,#[q,hq,pv],"check_level",Al nD,.(by ext lP),g.free,as.length=i,#[z,e1,e2],"left",?Kj h1,"add_faces",(need:Int),"list",movC su c,?Fw Bz ?y,?JF Ny,?Jx G1,?bP sp,?h M,#[_,_,?p,[],?g,?x hp0,?fT ?aJ,?g],Bk xs,[?dU,?cS],hrep _ ?g,"list_times",?tS g1,((?ct:Nat):Int),λE hE=>?_,?u3 f k0 i,.none,?aG+j,λz=>?_,(k0:Int),TI K H2 v w,∀f∈fs,0<=f/\f<?gs/\(?DD).length=need,sL.seq,qf2 _ _,.(by simpa using h4),s.1 j,"is_table",R1.free,#[a,pt,_,_,?g,?g,s3.seqT Yq,?aJ,?mC,λp3 H3 s4 q3=>?_],PySem.W.plainGet,Str.empty,cQ ?_,?I6 j,∀(Bu:?Fu ?hw ?dd ?v4),a,.(by rw[As,?eO]),.(by apply Iw ?sB;intro sq),.(by rw[?bI,Ug];simp[h1]),.(by rintro σ H2 Dc;revert σ),.(by injection this with this),.(by let ?sT:=T.x_LEVELS),.(by apply ?fv),.(by let#[VQ,vQ,sm3]:=x.sm),.(by rw[qa3,?de];exact hi),.(by rw[qa3,xb.1];exact hi),.(by show ?b1<3;decide),[?e7,?al],?GO H1 ?p ?nA,L8 xs ms i,"Lines.turn",sB2.trans,W.isFn,?t (Ci us ?p (?h ?aO)),?yh i 0,λc r n1 n2 e=>?_,G D=?dR,λq=>?u8,?k hp2,cs.length=i,?GA H T1 [?kF,?lt,?gX,?o 1],K w.params,ds.all ?nE,?Jw (?GA H2 pt [?o ?wZ]),[?fX,?b4],T.n_tuple,#[?xJ,?d6,?EV,?zS,?f8,?h5 L4 s2 (by rw[hal];exact h2),_,?g],(?AG).len,Aq e nL,?m H9 e2 ?uP,?t [?c1],Gw xs ?c7,"Lines.blend",(xs:LLInt),?u L,?o ?aO,(st:Int),?m H5 c3 ?wt,acc.map tI,λ(k:Nat)=>chainB xs ?a1 ms,?ad K H' us ?Dh,?m H2 T3 ?qg,(?lf).In,t ?bv,(?Jt ?wZ),?o g,g3.trans,?II Ea,.(by rw[TN];exact h3q),(o5 o6 o7 o8 o9:?ak),?bb (Str × V),(?xs,s.2),Vn.map ?J,?Lo ?y,Br ?jo,spot<i,?m G p ?gL,xb.2.1,?v ha,Nat.le_of_ble_eq_true ?g,?jg<=ps.length,?k Am7,(Rr:Addr),[?ga,?fw,?dW],((spot:Nat):Int),?Gi Aj ?EC,?KJ g4,?Gl hp3,.dK ?AR,ms.getD i (0,0),#[tvc,dxc,fsc,hpc,l1c,l2c,l3c,l4c,l5c,l6c,l7c,_],Kk ?A ?L Fu,?U [?bR,?kH],(t:?zE),(?Kl hD),w.1.toNat,?h ?qq,Lat.Shares,(TA.of R hcl).same,(bu:?bJ),x3.tup,?x ZX,[?aH,"i","first"],?JD G l r,?cg hq,G D=?gK,.(by rw[y3]<;>rfl),Cj xs ?a1,?h ?qc,T.n_isinstance,q.2.2.2,?ME G' D ?hj,?BS-1,?JO E,sp.zip ns,?m H12 e5 ?su,.(λi ys τ G _ hz=>by ext ri),Rows.nil,WE _ _ _,?Ld hp3,R3.rep hal,?Fw Bz ?F,?eQ / ?fH,σ'=[?I,iS ?S,?bm,?Ft ?kv,?Ft ?fH,?Ft ?eQ],"share",?k Ea,"meet",?Gi Aj ?xl,λa=>?EE,?k P3,?i7 / q.1,#[t,_,?g,?dp,?g,_,_,?g,_,_,?g,_,_,?g,_,_,?g,?g,?_],qa0 hjl,.(by simpa using q),?h m,?GY Dt,Ci ?eA ?p ?Ap,"twists",λe=>?sI,sH.trans,?m H10 e3 ?ux,su ?aO,(ys:LLInt),bs.map ?bg,De Ac,?k y.st,layer.take j,xs.length<=40,?Ld e,C7 ?cC ?y Fc ?sa,?Fh (?J6 0 sW),"_law_spots",(?Bj).length,?x hE,?m H L0 (?t [v]),#[tva,kZ,KU,hpa,l1a,l2a,l3a,l4a,ZS,l6a,l7a,_],layer.map tI,?m H7 c5 ?Aj,?MC ?eC,sB7.trans,.dK ?eu,SameX.refl _ _,?h ?q3,lu++ru,wA.same,(x.same.trans s1).free,?GR xs.length,qa5 (Ez _ _ _) Db,[?cs,?dW,?zG],(?ei-?qN).toNat,"loops",λh2=>?_,?m H2 b ?qi,?L9 ?aW,?bP s3,pv 13,(z:Int),[?b4,?pH,?aY],?HY (SV ?i),λD2 H2 L4 s2 h2=>?_,"spot",?GA H3 T1 [?kF,?gX,?lt,?o ?wr],?u t,?m H8 e1 ?Ei,(?zK:Int),?Fw Bb ?A,.(by rw[Bv]),ys.getD (t+1) [],?bV sp,(o7:?ak),Aa ?aQ ?bB,[?co,?ed],G c=?dD,pv.same (?bw g),?k Dt,Gm m ?vx,?JO o,"_law_one",(?cq hy).1,[?ed,?he],?LB o ?eA,bk.tie,?JI [],?K6 Aj fs,?b5 ?jo,#[tu,b,h1q,h2q,h3q],(n:Int),T.n_any,#[ci,_,rC,_,pV],"_law_at",belowD ?bR b,?x8 λf=>?Ct,?k x.st,.own p,"order",#[tv,dx,fs,hp,l1,l2,l3,l4,l5,l6,l7,hrep],λG1 g1=>?_,xb.there.2,Str->?ox Value,"gauges","_law_book",su w.1,[?aB,?r4],?t vs,?J8 ?b8,Kk ?aQ ?F Fu,(z▸R.free),.(by rw[?gN];exact e),lift1 ?rM,[?aB,?bT],?h 31,?x hT,?m4 g4,Aa ?A ?dC,[?aq,?al,?j2],?I3 1000,[?aB,"k",?eo,?nk,?oX],λps' D us' G1 iI nD g1 hD rP=>?_,[?j2,?bG],λh3=>?_,"_law_number",Eu.mpr,zs=cs.map ?bg,?m H D ?e8,(?es).length,Option,?m H5 p ?mN,?Jp (rS P),λt ht=>?_,?tF s',?LD (rS di),"shrink_row",[?aH,?nu,"i"],?u la,?m H6 c4 ?DY,Lr ?F,?Fh ?mB,λT hT=>?_,(as:?k3),(qg3.mp hq).1,.(by ext rb),FP ?zc,λH2 s2=>?_,"count",F5 fam w,"faces",?Jx H5,iS most,"bound",R2≠N,?as ?x9 ?x9,Aq e hD,[?eZ,?aq,?al],s46 _ _ hpa,?m (?m G1 FG (.own L')) L' ?sY,eO ?z ?z,?JB Bu ?bj,Kk ?aQ ?A Fu,Ci vs ?wd ?p,D≠p,"holes",?cg hS,"put_in",(fs:?b3),Xm r b H1 G,?Lo ?aW,xb.2.2,(s:?cm),λc q e=>?_,?R Oc hrep,c.take,q.2.2.1,?Jo ?ey ?dq ?I,?t ?bz,R4.same,"straighten",?MT ?aU,"size",λw=>?oP,?k x.nu,"put_in_order",Fp ?eX,?Jr ?y,?x hR,?Jg MY (λ_ _ _ _ _=>rfl),?m H3 c1 ?sd,U m M l r,T.n_enumerate,?JC zs,?i1[m],λi j=>if j=i then 1 else 0,"_law_place",(sz:Int),?t ?nJ,"shrink",?GA H1 pr [?u bx,?u cy],(?eM).take,qg4 _ ?i,?u T,i<ns.length,?L9 ?W,fam=0,?O (?O (?O ?cc)),T.n_zip,hfs f hf,?m H4 p ?n3,?Ld hpa,T.na_Book_levels,.(by simp at e),?aF (?je<2),lx.keep s1,"_law_face",[?oY,?dL,?nR,?xQ,?dK],?aO+1,λa=>a=nm\/a=r2\/a=b2,[?aH,"k",?b4],[?co,?cs],qa0 hmf,?Hi ?jo,?MF ?b8,(?en,?u P),H' p1=?d9,[?sw,?ed,?he],ds.map YX,R1.same.free,g4.trans g5,#[?i,?i],?m H11 e4 ?E0,.dK (cK ?wf),?LU ?oK,?L4 P ?xX,List.range,?U [],?m G2 e1 ?qg,.frz o ?ui,[?aH,"i","j"],?KJ ZZ,x4.tup,?m H4 c2 ?vl,WN.trans,?J8 ?bB,Ci vs ?p ?Ap,?o q.1,.(by rw[Ab];rfl),λH1 s1=>?bZ,Oa ti Db T9 ?EM,na a ha,DK.tie,B / g,iS kind,i<xs.length,?GE ?dr g3,s1.turn hD,λ_=>?_,?aj h0,s3.free,"bases",.(by ext rU),qa5 (Ez ..) Db,?JC bu,"step",?fT ?_,[?oB,?os,?dL],∃ps,ls[i]?=?ho,ys.length<=40,.ad i ?S (-kk),Cw ?bx ls,?GA G T1 [?kF,?bR,?t4,?o (-qq)],N7 Iy Ak,Lat.shrS,m9 ?S i ?fH ?eQ g a c s,?cM+1,?GA H T1 [?kF,?bR,?o ?S,?o (-kk)],?LD none,p.2.2.2,"tuple",?Jx G,[?aH,?bT],?GA G3 T1 [.str "minus",?xy],#[P,_,?g,?v (?k hP),?_],.(by let#[p,k,B,xs,ls,?g,bk,sB,hk0,T9,kq]:=h;let ?sT:=T.x_LEVELS;let(?IT _ _ _):=bk.ob;let ?D4:=hW.at (k:=k.toNat) ?uW;rw[qa7]at e2;let#[ps,hps,?g]:=?fh e2;have hpl:=?ll bk.len;have nl:?mI:=?l5;have el:=rE.len;(have hat:Um lu k=?h ?fP:=by have:=Bj e1;rwa [?uv]at this)),.(by ext e;apply#[_,?g,k,4,?g,hk0,T9,?_];apply#[_,?g,p,Ar,dx,_,_,?g,?ER,?aS,?qH,?g,_,?g,Lv,lu,_,_,?g,?g,?Fo sB MV,hat,E,?g,(?Kl ?yQ),?aP]),.(by rw[hfs];(ext aT)),∀(Vm:?Fu ?kL ?kr ?ya)(Ph:?Fj "times" [?aY,?b4] Uv),a,.(by have fG:?AQ=?eC++[q]:=by rw[qe1,hq];rfl),.(by(have VP:?ng:=?h6)),.(by rintro ys τ H1 ⟨as,hal,rfl,R,_⟩;exact k D as H1 ?i R),∀(Dg:?GH P Af),a,.(by let ?nV:=x.ob),.(by rw[qa7,?be]at hx;rw[qa1,?be];simpa using hx.symm),∀(Ji:?Fj "mixed" ["a",?dU,"b",?cS] Uw),a,.(by apply(?Hn ta hT1)),.(by rwa [?GS (((?cd:Nat):Int)=q.1)]at this),.(by(. exact ?Af)),∀(Gh:?Fj ?ww [?jJ] Mh),a,∀(Gi:?Fj ?CF ?fU Mi),a,.(by let ?hp:=hz;exact ?Fo g ?yQ),.(by let#[r1,b1,r2,b2,lx,ly,f1,f2,f3,f4]:=x.li),.(by apply#[_,?g,_,?g,?i,?i,?aP]),.(by apply ?CE),.(by apply ?cU),.(by rintro ys τ H1 ⟨s1,Dt,rfl,_⟩),.(by apply ?as ?Bo ?Bo),.(by apply ?fq),.(by rcases ha with rfl | rfl | rfl),.(by apply Iw λH2 gA=>?_;intro sq),?m H1 D ?eb,ChL.nil ..,mF K Ar,?Lx ?L,(z.symm▸y.mq),?l G G',?L9 ?pm,.type "type",?hJ z l.2 L i,λP H2 nP s2 hP=>?_,?J8 ?AM,?k xa',PZ _ _ hLr hLb h,(?Ho ta hq _),(?cQ).map,#[?g,?g],?I9 ?nM (λu hu=>hWl u (ql2 hu)),.own L,?Fk Od ?ce Ac,λH1 s1=>?_,Heap->Prop,#[?n,?n,?n,?n],movC su ?zW,"_law_faces_by",R.row i _ ?be,(?Gz b ?eu),D9 xs e (?je-1),o3' g' a b sh,?o p.1,ok.hd j ?i hj2,Int.dvd_of_emod_eq_zero,[?qU,?yd],λF hF=>?_,?aD Ah dl [],Y1 ?lf,Lat.blend_row_ne,Tg K,#[Jx,Fk],?GE ?Cm kp5,(R2:Addr),?Fs ?y ?gn,λuD=>?_,?IN [],?ML Hr ?vZ,C9 ?F,"Work.share",?JF cF,?t ?qp,Aa ?F ?yI,dd.keep λc kvs e0 e=>?_,(p1:Addr),?m (?m G3 FG ?s9) L ?sY,?GA H1 p [?bR,?k9],H' p=?h ?ii,#[ws,_,_,_,_,_,_,?g,g,Ea,dd,ER],?jL<=1000,(?j8).2.2,Kp H3 H',.(by ext lI),Xs K,#[hW.1,λi v ps e1 e2=>?_],"Book.count",?g1 g1 tp,J0 xs k p n,?t ((Pw os t).map ?J),#[_,_,q,_],"_law_kind",(z▸z1),Ec λo1=>τ=[o1,?dq],gO K,Rk ws w fam,?f0 wQ,(?bv:Nat),(?fM).length,?o (?t2:Int),Hy ms fs n i,?Da=false,Rr≠N,.(by ext ax),?Jq o4 none,?jV WO,?GB 4,#[fs,?g,?i,hfs],?L9 (?Lo ?np),(?cM:Int).toNat,sC.trans,?u e1,(?cK ?bx ?b1).map ?J,?KA Q3,?HY ?bH,a=O3\/a=O4,?LJ (Hn (K:=K) qe7 PySem.F.slot_list_pop PySem.F.type_list_pop IB ?aQ ?aU),sx2.same,?Jg Aa2 (λ_ _ _ _=>rfl),?m G1 c ?lX,?GI ?eX,Xq K,qo1 _ ?i,sG.trans,C9 ?fx,?Fw Bz ?L,.(nomatch z),.(by rw[qa7,?qR];rfl),(?Kw ?_),(o1 o2 o3:?ak),Aq hb hD,?u Lf,H1 c=?dD,?Fs ?A ?fx,.(by rw[qe1,hw];rfl),"Work.straighten",#[?i,?i,?i,?Kw ?pR],?cL=?gK,(Aq (s2 _ _ hD) R3.free).symm,(?eM).map,G5 c=?bh,F5 fam u,?Lo ?L,R.same.free,Qb K,?JF GO,λR1 p o fZ ys os H' s' hR hp ho X1 ho' r' hT=>?_,(?Js _ _ _),na a (ma a ha),Aa ?y ?zo,#[?x L4,Ab,?g,?p,?g],?h ?jO,(?KI o1),#[cs,_,ecs,_,hcs],(?nJ).set i (?u D3),Ux K,lx.nn a ha e,σ'=[?I,?w,none],fc∈acc,ys=(?cK i true).map V.bl,Lat.numAt,?m H3 Z ?lo,.type ?rN,MF K,?Ko pO c,q.map ?zA,(vs:?bJ),λp0 hp0=>?_,?JF CF,?Fq (j≠spot),(?G3 pp ?aJ),Lv≠a,(?Ho a hq Pg),?Hi ?so,?JF Xu,(p o:Addr),?L9 ?nz,qk9 _ ?i,?KL pl 0,"_law_need",(?HL L _ hL),?I6 ?cd,?t ?BT,?Fh (?J6 0 SW),λG' z=>?_,?a0 sa rL,?GA H1 T2 ((?wN:?b3).map ?J),GQ K Ar,[?u ab,va],.(by have:=bk.n4;ext ax),?L9 ?Ef,sx1 b _ (Fn e hp ?ft) e,?Hf ?fb,#[_,_,?g,?g,_,_,?g,?g,?g],.(λi zs τ G1 _ hz=>by ext FV),∀v∈ws,v≠?cf,(?fb).length,rows.take,(o1 o2 o3 o4 o5 o6 o7:?ak),?u nm,(VI m f).set i ?m3,.dK ?d8,?Fq (?D7=((t+2:Nat):Int)),?o Vn[t],λx hx=>?_,?JO b,λj ys τ G' _ hz=>?JX #[g',_] g' hD,?KC H6 Aj (?aV ?gP ?wM ?EC),λj hj=>?_,?Fw xb.row hi,Yu ns ?p ?nA,λhS G1 s1=>?bZ,.(by let(?J2 e):=hz;exact e),?k ?_,?GS (((k.toNat:Nat):Int)=k),K7.binds (ps:=?e5) ?pu,?t (?nC++?BT),Uz K,#[_,qa0 (by have:=bk.n4;ext d)],?Fz Er ?ps,σ=[?w,?a3,?aA,o1,o2],?EH w M P,#[q0,q1,q2],Ej K,q.map ?J,us++[?nw],qd7 FZ,#[_,?g,p,VW,fs',?g,X1,?Iw l4',_,?g,_,?g,_,_,?g,?g,?_],.(by rw[F1]),(o2 o3:?i3),Bh J5 ?L ?dO,?m H1 L (?t (?Cf i ?gM)),?Fw Bz ?wA,((?ku).trans g2).trans,sL.seqT hT,?JO B,.(by split<;>ext d),Px K,#[r',b',ly,_],λj hj1 hj2=>?_,?KC H5 Aj (?aV ?eZ ?ug fs4),?R ?bk hv,Y1 K,k01.trans,?GC (?Jh #[_,_,e,_]),?aF (?J fam=?c1)=true,"_law_more",(z.same wQ).there.1,(?eM).length,["hole"],VI ?dQ ?fQ,hW.2 i v ps e1 e2,?Fw mT T8,?L9 ?zf,Aa ?y ?eX,(sp:?b3),?jj/\?mf,λG4 fs hfs hG4=>?dn,?JB Gi ?b8,"start_of",?G2 G' i s',?GI ?bB,?m H T1 (?U [?o 0,?o 2,?o 3,?o 4]),.(by rw[Ld];decide),#[v,hv,tv],?G6 Cs (Aa ?F ?uX),?t ?uV,?m H1 l1 ?ht,?vO k19,#[pa,pu,?g,hpa,rP],[?w,?a3,rS E,o3,o4],?K1 hp2,?gi ?eY,Oc.seq hq,z.there.1,?IN fs,(?zZ).length,?Fs ?ce ?F,λk=>if k=i then g else f k,?KA Gg,?f0 ?ji,#[bu5,_,?g,s5,zZ,?_,uB],"Stairs.__init__",Nat.add_le_add_left (Nat.sub_le _ _) _,(?Iu la lu (?v hlq)),λp=>J0 xs k p.1 p.2,H' R1=?h ?DZ,?Hp H3,Bh Df Ak (Bh Fq ?yW Ak),?y7++?pU,ys.getD i [],?MN Bb ?L,(?a1).toNat,"Stairs.put_in",Mx.binds (ps:=?d1) ?V,VI z (?u3 f k0),g.natAbs<L9,"Work.__init__",?Jc ?aQ ?L,?xe=true,?GI ?ia,gR K Ar,#[_,_,?g,?g,_,_,?g,?g,_,_,?g,?g,_,_,?g,?g,?g],?u R',[0,0,0,2,3],?KL Rb acc,g2.trans,"Book.__init__",#[[],?g,?iL,λf h=>(by cases h)],λT N D m H' nT nN nD _ _ _ g hT hN hD hr0=>?Fl #[T,N,D,m,?g,g,hT,hN,hr0],Gm m (shF i j g f),Qw K7 T Hh Ji,?k A96,?Fg 2 ?dH (?LG Hi ?F ?wx),#[_,_,_,_,s3,_],(?I6 pl.toNat).length,c'%letters,(z▸R2.free),Zz K Ar,qd7 hj,?h ?D7,?o (os.getD t 0),[(?b6,?fC),(?fC,?b6)],?I6 i,base.Ns ?fR mg,.ad i ?bv (-qq),?as ?r1 ?r1,zC _ _ iJ,?yg (m+1),Wf K,?JO R2,?Kw (hb.1 c ?i),?l H0 H4,.(by have:=Bj hv;ext re),-?Es,?La H H',?t ?y7,Au Gf,?m H5 p ?Ev,"level_of",C7 ?cC ?y ?BG ?BG,#[sF _ _ R.at,?d6,cs++[F],?f8,?xE,?_,_,?g],?JU ?af ?ai o7,?JO T,?v A83,?kv<=?lu,.(by rw[?ha];exact Dt),#[c,_,ec,_,hc],"levels",nN _ z1,CD K,(?i1).map,λh4=>?_,Ep ms ?CY,?m H4 nm ?e8,?Iw m4,HT.sIx_nat,.(by rw[qb7,hcl];rfl),"is_straight",#[h1,h2,h3],?La H3 H',s5.t hB4,?GY R.at,#[r,b,lx,f1,f2],?GY hp1,"Book.holes",?u c,?JO p,?m G E ?eb,"_law_level_here",(b:Addr),?Fz Er (?Jr ?br),(?Hn t ?dp),?LI (Ec λ(fam:Int)=>Fm (?K2 ?bE) ?bs (fam<100)),Wg K Ar,"numbers_at",[?m3,?o a,?o b],λg' a b G' sh z'=>?_,Au Fw,λD H1 hD s1 Dt=>?_,?cK us.length true,((?mA).length:Int),?Iw l6c,?HC ?gs,.(by rw[qj7]<;>rfl),?JF Lg,λe1 ZX=>?_,Zv K,p.2.2.1.take,(?lE).length,?aV ?aq ?fP fs,?pc _ _ rdj,(if ?jO<?ny then ?jO else ?ny).toNat,?k xp.2.1,?pc _ _ rdi,λe1=>?_,top 55,λx a=>s.1 x (w+a),"_law_size",a=nm\/a=r2'\/a=VX,?GS ((?ba).toNat=i),h.Ns ?fR mg,C9 ?a4,?o ?mM,?JO L',"Stairs.meet",σ'=[?I,?w,?aA],?JF gP,?Hs [o1,o2],?m H p0 ?fL,Et K,.(by rw[?bI,Ug];simp[h2]),?qp++?uV,dT ?gI ?gI ?fV,#[_,?g,?g],?l G3 G4,?H0 ((?cM).toNat),Bf Er ?gn O6 ?M,?IC ?aq E fs,(?i1).length,?m H L ?pj,#[t1,c1,c2,c3,?g,_,et,_],Aa ?cW ?bB,?L9 ?zp,(z▸L4),?L9 (?Lo ?iT),λ_ z=>z.elim,?JF Zx,?Fq (?b1+?a1=?a1),Of c,?ue j,sB _ _ hE,?J4 Yu ?dj,(?x ndl).turn,VI W (s.1 k),Cn ?xk=i,Zy K,Bh O9 ?y Ak,G D=?py,#[E,eu,?g,hE,rE],#[dv,uD,rv],Y0 K,nb a (mb a ha),?LA ?F,(?x5,?u Lv),#[y',hy',ty],?KV ha,(?es).take,(?gZ).getD,Lat.ChainTo,?GA H1 p [?o j,v],LT.len hL,(o12 o13 o14 o15:?ak),S7 K H' tp nm r1 D1 D2 b2 z ?cu k0 f l r,Ss K,Ij lf ?zW,?GI ?aU,((?mX:Nat):Int),"Stairs.shrink_row",?HW Dt,(?qf i).map,MG K,xs.take i,(E:Addr),(?nH).toNat,"column",((f:Nat):Int),?Kf sp.length,#[h2,h3],?JF gQ,?Fh (?J6 0 tF),oO.trans,?Hp H2,(?Iu _ _ ?g),?ad K H' fZ ?kE,qd7 _,WX K Ah Aj H0 H' p L R nm n w ?ko l r [],K9 t,(?Lh g),#[g,Ea,?_,_,?g],?I6 i.toNat,Nat->Nat,"Book.twists","_law_letters",(?Dv i).map,#[cs,_,_,R,_],λf hf=>?_,(us.length:Nat),(gp:Int),λR hR=>?_,?MF ?aU,?u L',?KK ?jd,(?KD (rS av) ?a8 ?aA),?x ho,.(by simp[hal]),(z▸y.mq),.(by rw[?dx];exact Dt),[?w,?a9,?I,rS o,o1,o2,o3],?pg i,?LE ?fD,[?w,rS af,?fD,o1,o2],?IC ?dl D1 fs,?K1 e,λj i=>P1 (?bN (?yh j 0).toNat []) ((?iY).getD i 0),ds.length,hB.2 i v ps hv hps,?o ?zL,?Lo (?Fs ?aW ?cW),C9 ?cW,.(by show deps (Fb _)+1<=8;rw[Ld];decide),?m (?m H2 VW ?oR) p (?aD Af VW []),?Iw m5,Jw.binds (ps:=?cX) ?aN,(P:Addr),npn.symm,spot<=i,Aa ?F ?bB,Ig (v:=?o 4) ?n Fk ?cO,#[?x nE,Ab,?g,?p,?g],?KA Im,?Gs (by let ?jC:=hz;exact ?mg),λT2 hT2=>?_,?Gi Ar [],((d:Nat):Int),?JO D2,?m G1 t ?gL,?IK ?y Mr,?ML S0 ?bB,Aa ?W ?dF,"_law_i",k0+i,λ_=>0,?JO M,?KL Rb ws,(e▸ha),(?JL none none),?JF Zw,[?w,?av,?ai,?af,?ac,?bq,?cV,?cz,?dS,?eT,?gw,?aA,o12,o13,o14,o15],(ls:?bb (?bb BPart)),Cr ?wf q[m],?Ld hb,Zu K,?Fw x.row hi,?IX 3,bk.lev _ _ hps,T.m_Book,?KJ pZ,#[o1,o2',o3'],?J5 ?y (?Lx ?W) Ac,s5.trans,?L9 ?d4,cG K Ar,#[v,h,w,f,?g,hv,hh,hw,k],Xr K,?g6 ?aG,cK ?kJ,.ad j i ?wr,DU K,Qd K,j-ts.length,?aV ?dl ?gm fs,qg4 _ (Int.le_of_lt h2),#[y1,y2],tI xs[i],?o (os.getD (t+1) 0),?v Ea,?HH ?cG,?Ko hk1 c,.(by have:=rM.length;ext Z),?KU hD ?bC,"Work.put_in_order",.(by ext FW),?Gi C ?AW,?t ?w8,Sr K,"_law_without_noughts",s47 _ _ x.nu,Gk K,(ws.take i).map,?h ?b6,Aa ?F ?b8,Ba ?a5 ?F ?y ?K,?O z,#[zH,ZG],"_law_total",?cK (VI n f).length true,?JW (rS t2),F7 K,?m H1 B ?q3,(?HL ta _ hT1),#[pr,pb],?m H6 C ?ii,H4 a=?bh,Mj K,(?Ho ta hq Pg),#[?p,?g,x],[?w,?fD,?a3,?aA,o4],(x2.same s3).there.1,?H7 ?bk,Py K,λkey=>?fe,Nat.add_lt_of_lt_sub,"shared_divisor",ok d ?i,Ci ?eA ?wd ?p,?Iw l6a,C9 Ak,(?yD).length,i<ms.length,?Iw l6,ls++[?Jk E6 ?a1],[?I,o1],#[t,c1,c2,c3,?g,et,_],.(by rw[?dx];exact Ea),?Fl #[?g,λa ha=>by rw[Al ha,Al ha],Ab],?aV ?dl ?gm [],r.1 i,?Fw Bz ?A,(vs.length:Int),[?Aa,?we],((0:Nat):Int),#[o2,o3,?g,d,f,l,r,hd,hv,z],?GA G p [?bR,v],#[_,qa0 (by have:=DK.n4;ext d)],Lv≠p,dd.2 _ v hv,?aV ?aq ?gg [],?o ?jO,oO.free hnm,#[XN,zI,LR],[none,none],?KJ (?fA),?KJ gp,H1 D=?py,?LB N ((?s6 ?yO).map ?J),E5 ((?mq).take i),Hz K,ns.getD i 0,?Hd U7 ?px ?b8,[?gM,?zO],λe=>?_,Zd (?O #[o,W4]) hat,(o3 o4:?ak),tI ?pz,?o ns[j],#[_,b,?g,hb],λT G4 nT s4 hT=>?_,Uy K,(?Gz b ?e3),?fs ?cO (?fs ?cO (?fs ?cO (?fs ?cO (.nil)))),(?bV s28).trans,(o7 o8 o9:?ak),Jy K,Aa ?wx ?eX,V4.of9 ?i h3,gM K,?GY hp2,.(by rw[qa7,?n8];rfl),?MV ?A,.(by ext lG;exact l2),.(by simpa using h3),?Cf i ?gm,s3.seq hS2,U1 K,?GY hp3,#[_,?g,?g,?_],(?GF a #[_,hq] ?aP),"is_whole",(?G3 pr ?aJ),(?eC).filter,Xp K,#[hi,?g],?KK (?H5 ?jd),?Fw Bz ?W,?Hp G1,hDp.symm,[?m3,?o a,?o c],"Work.step",Lat.addS,?t ?nd,?Ij hx,Fz K mg Ah Af Aj Ar,g2 _ _ QZ,[?w,?c3,?bt,?a9,o4,none,none,none],?ML S0 ?ry,.builtin,ns.take i,(?JL (rS b2) VR),?Fz Ku ?a4,?Hp H1,λi=>r.1 ?A2,c'%fam,?Kq s2 ?bk,(?bz).set,?IC ?ke L' ?yD,"is_list_of_few",?IL s,(?DD).getD,?t ?gq,?h5 hF sF ?_,?vO kp3,?Hv ?ph h2,#[hz,?i],?HY ?so,?He qY.free,"Book.told",Pg i _ hx,(EY ws f:Int),G b=?h (.frz o ?na),.mi ?S,?GB 2,#[hi,b,?g,hb],shL i j g b f l,?l H3 G,?m H5 C ?fL,Lat.downS t i s d,[?I,?a8,?a3,?fI,rS Rr,o5,o6,o7,o8,o9],?JA ?c3 ?bt none,#[E,eu,qs,e1,e2,hE,rE],?GA H4 T zs,?cu-k0,?b6+2,(?j8).2.1,?l4 hb,Nat.le_of_dvd (Int.natAbs_pos.mpr ?i) (qw0.mpr sh.dA),?bV ?h9,?L9 ?qo,?I6 f.toNat,.(by simp[hwl]),sp.trans,#[VW,fs',X1,_,_,_,l4',_],"faces_agree",x4.right,m<fu.length,?I6 (Vn[j].toNat),?IY g' j,#[ta,vs,?g,hT,rT],sp.getD i 0,λB hB=>?_,?Jn ?b8,#[?p,?p,?g,Ab,?_,?_],?cL=?jc,Sq K,Lat.insT,?K1 hl,λC nC=>?_,?LA ?a4,Sw Mx T Vk Za,?t ?pU,?U [?u p,?u o],AB xs (?U ds),#[?g,λi v ps e=>?qI],rows.map tI,?M8 ?y (?LR ?ki ?f4 El),.(λi c _ _=>by ext F6),Aa ?A ?kM,Part.nil,xs.map tI,x.fr.2.2.2,[none,?dy],?Gc #[n2,?g,?g,hn2],#[_,us,z,hq,r],λ_=>rfl,Iz K,"_law_chosen",?H7 sB1,.(by rw[UJ];exact h5),Au U4,∀a,?fE->?kB,#[_,?g,t1,_,_,_,?g,?g,?dp,?g,vV,?b5 (by rw[yl,qa3,qa3,qb9];ext d),g'.turn nE,Ab,?_,_,?g],(?ew).length,(?ew).take,?JF GP,?L9 ?br,A01.trans gg,?GQ 9010,?t ?BE,.ad i j 1,?k hN2,(?Cg).length,TA.of R1 hl1,"without_borders",?II hRG,#[us,hq,y3],(3:Int).toNat,[o,rS d],"add_at",?JB Gh ?aU,?aV ?ke ?zO ?xl,Pc ws fam 4 [w] [],a=q\/N a,"one_row","Lines.__init__",Lat.beside,s7 _ _ hC,"Stairs.shrink",(z.same sn).there.1,i<ws.length,hc.ch.key q hq,Lat.moveS i ?S s,?I6 (p[i].toNat),∀o,H c=?bh->G c=?bh,λD2 L4=>?_,?H7 sB,xb.there.1,?xe&&?aF (Cn (?zD).length=l),.(by rw[qa1,hq];rfl),as++[D2],.(by unfold lM Yw bookF;decide),?Lj ?dJ,?JO Rr,?g1 s3 tx,a=nm\/?tK,#[st,lx],Do ws ?fp ?wl,x.keep s1,?Fq (j≠i),?Lx ?F,?Fh (?J6 0 sX),#[p1,us,?g,?Fo sC hp1,?IO sC],?t ?nC,?AL s6,"across",?m G' p ?mU,I ?S s,"_law_cell_at",layer++rows,∀q∈?cQ,V1 xs ?a1 q,#[_,?g,?z,?z,?_],show x=?bR from hx,b*?cJ / g,?Fw v4 ?n,?JF Qe,?Gi Ar (?aV ?fX ?ta ?sN),?cK (z-k0) ?c1,λtp htp=>?_,?l HL H1,T.na_Book_lifts,?hr ?e0 ?e0 (Ju U4) (Hj U4) ?Dr ?ky zT Aa3 ZE Aa8 UU Aa4,?Jm i i,.(by(let#[f1,f2]:=fin i D H1 hi hD s1 (by rw[Dt];congr 2;exact Ri λc _=>by simp[wC]) λr hr=>by funext c;simp[wC,hr]);exact#[_,?g,_,?g,L,_,_,i,?g,?g,f1,Js (by rw[qa3,x.1];exact hi),#[_,?g,f2]]),.(by(have hc:Cls K C/\D8 K C ?dl/\D8 K C ?dY:=by rcases hC with rfl | rfl;{exact#[?c2,?jU,?j5]};exact#[?T,?az,?ij])),.(by(. rw[hf4,hf3,hf2];(ext aT))),.(by apply ?Fd (?Ll ?a6)),.(by by_cases z:i=c;{subst z;simp[Lat.one]};have:¬c=i:=λe=>z e.symm;simp[Lat.one,z,this]),.(by let ?ek:=x.ob;let ?fK:=x.rw;let ?iN:=x.bk),.(by let#[dx,P,Lv,Lf,lu,wu,hp,_]:=bk.ob;let#[dx2,P2,Lv2,Lf2,lu2,wu2,hq,_]:=DK.ob),.(by have rul:ru.length=rows.length:=by have:=rR.length;ext Z),.(by have hi:i<n:=by ext ch;rw[qa3,?de]at this;exact this),.(by have hxv:x=?Bs:=?Gu hjn),∀(Dm:?G7 ?hC ?gF ?Ax),a,∀(Cs:Jn P w K mg ?j Af ?p3 ?me 4 ?xg),a,∀(Hw:?Fj ?sF [?fw,?dW] My),a,∀(Hr:?Fj ?En [?dK,?fB] Oq),a,.(by by_cases z:c=b;{subst z;rw[hb]at e;cases e;exact Ab};rw[?dN]),.(by have hjn:j<ns.length:=?ex),.(by(. exact#[?ae,?KU ?bC hD])),∀(Ry:?Fj ?EA [?b4,?bd,?aY] Ro),a,∀(Ev:?Fu ?iK ?hq ?Bk),a,∀(L1:?Ht P),a,∀(L3:?G7 ?jv ?jY ?sS),a,.(by rw[As,?c8]),∀(Lb:?B P w K mg ?j ?hA ?hI 5 ?tn),a,∀(Rx:?B P w K mg ?j ?iu ?el 7 ?wm),a,∀(Fr:?Gp ?pW ?xV),a,.(by have nN:?Ds:=?Hq x.nn),.(by let ?oT:=x.ob),.(by(. exact λk k1 k2=>?sR k1 k2 _ _ _ _)),.(by let#[z_,L_,G_,zs,ks,Ls,Gs,fs,lp,rp,ti,_]:=bk.tie),.(by let ?zI:=hz;exact ?cI ?s3),.(by rw[qa7,qa0 ?ck,qa1,qa0 ?ck];rfl),.(by exact ?bX ?bi),.(by apply(?GF _ ?a7 ?zM)),.(by have cb:∀z:Int,V4 z g:=λz=>V4.of9 ?i lg),.(by have nl:?mI:=?l5),.(by rcases ho with⟨_,q⟩|⟨_,q⟩<;>cases q),∀(S0:?Fu ?hl ?kS ?AT),a,@(?q (λσ' H'=>?a) ?r ?_),@(By P w K mg ?j Ew ?a f fd ?b ?c),@(Ds (K:=K) (n:=2) ?n (Bi (An (i:=?a) ?b) (Bi ?c Dr))),@(Ap (i:=?a) ?b ?c),@(λ_ _ _ _=>?a),@(Fa K ?a ?b ?c f fd),@(?B P w K mg ?j ?a ?b 1 (?c K)),@(Ao ?a hr (Aa ?b ?c)),@(?s _ _ ?a),@(λi σ H2=>S8 λ ?kR ?gt ?gb ?iI=>Bw (σ=[?jQ,?bE,?e4,?h (?o ?a),?b,?aX,o]) ?cl ?l2 ?jI),@(uu ?a (λF=>?b) ?c),@(?k (?a _ _ ?b)),@(?E ?a ?b (Au ?c)),@(show ?a by ext d),@(Bt (Hn (K:=K) qe7 qh6 qh5 Fx ?a ?b)),@(Ba ?a5 ?a ?b ?K),@(?h (?o ?a)),@(?B P w K mg ?j ?a ?b 2 ?c),@(?a ?b=?h (.dK (cK ?c))),@(?a (K:=K) ?b),@(σ'=?a/\∃(d:Nat) (f:?f2) (l r:?cm),?b),@(Fd (K:=K) ?y ?a),@(Bf ?a ?b Ak ?M),@(?C ?a ?D),@((?a ?b).trans ?c),@(SX Af H0 ?a p q M n W t ?b ?c),@(#[?a,_,?g,?b,?g,_,_,?g,_,_,?g,?g,?_]),@(WX K Ah Aj H0 ?a p L R nm n w ?ko l r ?b),@(?v #[?g,_,?k ?a]),@(Ai (Bt (Cm ?y ?T ?a hr ?b))),@(?B P w K mg ?j ?a ?b 3 ?c),@(Ec λo=>τ=?a),@(Ff (λσ' H'=>?a/\?b) ?_ ?fJ),@(?m ?a ?b (?U ?c)),@(by show ?b1<?a;decide),@(λi σ G _ hz=>?a),@(?aE K ?a ?b=?aw),@((?a).trans ?b),@(#[_,?g,?a,?g,?b,?c]),@(Jn ?a w K mg ?j ?b ?dI ?e5 2 ?gU),@(Jn ?a w K mg ?j ?b ?bG ?d1 3 ?fo),@(Cf ?n ?aZ ?a),@(#[_,?g,p,Aj,kZ,KU,_,?g,hpa,?P,?d2,ZS,_,?g,nm,_,_,_,?g,?g,?pp,Bj (Cy ?a),?_]),@(?a K ?b=true),@(#[_,?g,p,Aj,dx,?a,?g,?b,?P,?c,?i,?_]),@(by funext b;by_cases hb:b=?a;{subst hb;rw[Ab,Ab]};rw[?ef,?ef,?ef]),@(qj3 X G ?a),@(?m ?a C (?t (Ci ?d3 ?b ?c))),@(#[_,?g,_,?g,_,?g,?a,_,?g,?b,?c]),@(Am (λσ' H'=>Ec λ ?oK=>Fm ?zX ?hU (n.natAbs<2 ^ ?a)) ?_ ?cE),@(us.length=?a),@(show ?a by ext d),@(Dk K ?a ?b),@(Aa ?A (Aa ?a Ac)),@(An (i:=?a) ?cx),@(#[_,?g,p,Af,dx,fs,_,?g,hp,?T,?cA,l3,_,?g,q,_,_,_,?g,?g,?a,?b,?_]),@(#[H0,p,L,R,nm,n,w,m,i,?a,l,r,f,?g,z,?i,?i,mn,mw,o1,?sX,?xY]),@(s2 _ _ ?a),@(Ai (Bd (De ?a))),@((?a).length<=1000),@(Rep K ?a ?c4 (vX ?b)),@(Il _ _ ?a),@(Bt (Cm ?aQ ?c2 K5 hr (Aa (De (Aa O6 (Aa ?a ?b))) Ac))),@(by have:=qc2 m ?a;rw[qg2,qf9]at this;exact this),@(H9 ?a=?h (?t (VI n (?i6 s.2 i j ?bL ?iq (-c) a ?b)))),@(Op λ ?c5 ?pZ ?o3=>G9 (?a=?zQ) ?hE ?mn ?on ?l3 (?b)),@(?h (?h ?a)),@(?aD ?a dx ?b),@(#[_,?g,_,?g,_,_,?g,?g,?a,?g,?b,?c,?_]),@(λi j c hi hj hc=>iX (?a i j hi hj) (?b j c hj hc)),@(s4 _ _ ?a),@(λfr hc o e=>fr _ _ (?a _ hc).1 (?b _ hc).2.1 ?ep),@(uv ?a (λF=>?b) ?c),@(mkL (N:=?ib) hl1 R1 hl2 R2 ?a sN hfs hG4 ?yL),@(Jn P w K mg ?j Ar ?a ?b9 4 ?b),@(H9 ?a=?h (?t (VI W (?i6 s.1 i j a c ?d7 ?bL ?b)))),@(?O #[b,?a,?b,?dv]),@(λi ys τ H1 _ hz=>?a),@(qw3 X G ?a),@(by rw[qa7,qa0 ?a]at hx;simpa using hx.symm),@(Jj (K:=K) (a:=E) (xs:=eu) ?a ?cT ?ms ?_ ?_),@(#[_,_,_,?a,?g,?g,?g,(by show(?b:Nat)<=sizeLine;decide),?c]),@(#[_,?g,?a,?b,?g,?c,_,_,?g,?g,_,?g,?_]),@(λj σ H2 _ hz=>by let ?a:=hz;exact ?em hS),@(#[_,?g,?a,o,?b,?g,Ab,?_]),@(∀w:?b3,w.length=?a->?pG),@(λi zs τ G1=>Ec λcs=>Bw ?ou ?ld ?a ?sy),@(#[_,?g,p,dx,fs,?g,hp,?eW,_,?g,_,?g,_,?a,?b,?g,?_]),@(#[?a,?g,?z,?z,?z]),@(λk hk=>#[mk ?a bo.2 hi hk,mk ?b bo.2 hj hk]),@(qa5 ?a ?z),@(?lB K ?a ?lC=true),@(?a _ _ hp),@(∀c q,c≠?a->?eN->?b->?c),@(σ=[?a9,?aX,?bE,?c6,rS R,o5,o6,o7,o8,?a]),@(Jn P w K mg ?j Aj ?a ?bM ?b ?c),@(Cc (?e9 (sD ?a ?b)) ?cb Bn),@(?aF (0<=i)&&?aF (i<?a)),@(λk hk=>#[mk ?a ?eq hi hk,mk ?b ?eq hj hk]),@(C5 (K:=K) (a:=r) (xs:=?bz) ?a ?b ?ub ?_ ?_),@(by rw[qa7,qa0 ?a];rfl),@(by (have:?a<?b:=?aI);ext d),@(An (i:=7) ?a),@(?wh->By ?bo w ?a mg ?j Ew 14 fa fd ?jm ?b),@(?aE K ?a ?jR=?hR),@(#[dx,fs,?a,l1,l2,l3,l4,l5]),@(#[_,?g,?a,?b,_,_,?g,?g,?c,?g,?_]),@(#[D,_,_,?g,?g,?a,?b2,?_]),@(?a (by simp only[qb7,qd5,qi5];ext d)),@(#[_,?g,?a,?b,?g,?c,_,?g,?_]),@(∀{G:Hp}{c:Addr},?pa->c∈?a->?EP),@(λc hc=>Lx ?a ?b ?z),@(nN9 K ?a),@(Cc (Ki (Je (Ao ?a hr ?bj))) ?fO Bn),@(?h (.frz o (.dK ?a))),@(#[_,?g,_,?g,tI fc,?lw,?a,?v ?b,?wO,_,?g,?_]),@(#[?a,?b,(?c).turn hD,Ab,?_,_,?g]),@(sp _ _ ?a),@(Ar3 ?a w K mg ?j Ah ?bY ?cX 1 ?kl),@(Oo ?a ?_),@(H2 ?a=?h (?t ?b)),@((?bK ?a).turn ?b),@(#[_,?g,_,?g,_,?g,_,?g,a,_,?g,?a,?du]),@(?a (by simp only[qd5,qi5];ext d)),@(?a (K:=K) ?n ?b ?c),@(λa e=>?a e),@((?a).map tI),@((?a).map ?J),@(λa ha=>?a),@(eY ?a ?_),@(by (have:¬?a:=?b);ext d),@(SX Af H0 G' p q M n W t cnt ?a),@(?l G1 (?m G1 F (?t (Ci ?vV ?a ?b)))),@((?a).natAbs<L9),@(#[_,?g,?a,_,_,_,?g,?g,?b,?g,?g,_,?g,?_]),@(#[?a,us,?g,?b,y3,?c]),@(?a a=none),@(λa e z=>?a a z e),@(show(?a).all id=true by simp),@(Kc λo1 o2=>τ=?a),@(JE ?a w K mg ?j Ah ?cX 1 ?kl),@(GF _ _ ?a (s5 _ _ ?b)),@(?x (o:=.dK (cK ?a)) ?b),@(?B P w K mg ?j ?a ?b 4 ?c),@((?a ?b).map ?c),@(#[_,?g,p,Ar,dx,_,?g,?a,?aS,?b,?au,?_]),@(#[_,?g,_,?g,a,k,xs,?g,?a,?b,?c]),@(vs d i ?a f l r hv ?i ?i ?i),@(qf2 (λp:BPart=>?aF ?a) ?eC),@(k _ ?S st s hs hI hb hex ?a),@(fs.length<=?a),@(Ai (Bt (Cm ?y ?P K4 hr ?a))),@(Aa (Cu ?kN ?n ?f4 El ?a) Ac),@(?bN ?a []),@(λd r n1 n2 e=>?a),@(fin ?a (by unfold GS;rw[?b h2])),@(Oh (ws:=ws) (fam:=fam) ?a [] ?b),@(?l G2 (?m (?m G2 dl ?a) ?b ?sP)),@(?l ?a (?m ?b ?c ?k8)),@(?aV ?a (?bg ?b) ?c),@(#[E,eu,?g,?a,B7.kd (λc o e ho=>?b) rE]),@(OL _ _ (hk _ _ ?a (sO _ _ ?b))),@(?hk K ?a ?b=true),@(?a[j]?=?h ?b),@(λi ys τ G=>Bw ?cH ?la ?a ?b),@(g1 _ _ ?a),@(Ck (lo:=0) (n:=4) ?a ?b ?_ ?_),@(Bt (N8 ?a ?P ?b hr)),@(?hQ K ?fR ?a),@(?c0 H H1 D as ?a ?b),@(?aD Ah FG ?a),@(?a0 ?a r),@(#[_,?g,_,?g,p,Aj,dx,_,?g,?a,?P,?b,?c,?_]),@(#[_,?g,?cf,?ki,?a,?g,?O ?qC,?b,_,?g,?_]),@(#[?bC,Ab,?a,?p,?g]),@(BindsTo s fd #[[?a],[]] [?b]),@(#[dx,P,Lv,Lf,lu,wu,hp,?a,MV,hW,?b,?c]),@(#[?a,dl,Ah,?u ?b,?u ?c,?g,?cc,Ab,?vc]),@(λa o e=>sx _ _ ?a ?za),@(qc5 ?gA ?a),@(An (i:=?a) ?hL),@((rP.same ?a).2 ?b v w hv hw),@(#[_,_,#[?a,Vh,Q4],?wD,?DX]),@(#[_,_,#[?a,Sy,Pf],?uw,?wU]),@(#[_,?g,p,C,dx,?a,?g,?b,?ap,?c,?i,?_]),@(#[_,?g,?a,us,?g,?v ?b,_,?g,?i,?i,?c]),@(mu.length=(?a).length),@(by rw[i0];exact Bj ?a),@((?xj ?a).foldl ?og lg),@(#[_,?g,ta,us,?g,?v ?a,n,?mi,?i,?b]),@(?a a≠none),@(∀a o,?a a=?bh->?B2),@(λx hx=>(pbn x ?a).f),@(λw e=>?O (?a ?b)),@(λq hq=>?a),@(λa ha z=>?a),@(show ?a=min ?b ?e1 from ?xD _ _ ?c),@(by rw[Al ?a];exact e),@(Aq ((?eJ) _ _ ?a) nE),@(?k (kb ?a mdj _ ?xm)),@(?k (kb ?a mdi _ ?xp)),@((Fb ?a).any λe=>eqD e ?b),@(#[_,?g,?a7,?a]),@(#[_,?g,?a,?b,?g,?c,?_]),@(#[?a,?b,?g,?g,?i]),@(?a _ ?bH),@(sz=?a/\need=?b),@(Cw ?bx (ls.take ?a)),@(?eh ?a=?h ?b),@(?ad K H2 ?a ?b),@(#[fs++[?a],?f8,?iV,?zJ]),@(#[_,_,_,?a,_]),@(#[#[B,bk,?a],#[B2,DK,?b],os,tu,?c,mv]),@(?a ns ?ah ?b),@(Aa ?a (Aa ?b ?c)),@(An (i:=?a) ?b),@([?w,?av,?ai,?af,?ac,?bq,?a,?b,?c,none,none,none,none,none,none,none]),@(Bc ?am ?aa qg1 ?a),@([?w,?av,?ai,?af,?ac,?bq,?cV,?cz,?dS,?a,?b,?c,none,none,none,none]),@(σ'=[?w,?a,?b,?c,none,none,none,none]),@(Ao ?a hr ?b),@(?h (?t ?a)),@(WX K Ah Aj H0 ?a p L R nm n w ?p ?b ?c ?gc),@(σ'=[?I,?a8,?a3,?a,?b,none,none,none,none,none]),@(?a K Ah Af Aj),@(σ'=[?I,?a8,?a3,?fI,rS ?a,?mY,?iQ,?hK,?hD,?Ft ?b]),@(Ai (?Fg ?a ?b ?c)),@(?h (.dK (cK ?a))),@(Am (λσ' H'=>?a) ?_ ?b),@(λi ys τ H1=>Ec λas=>Bw ?kc ?k2 ?a (?G8 ?b)),@([?I,?ay,?a9,?a8,?w,?a3,?cj,o7,o8,o9,?a,?b,none,none]),@(?a=[?w,?c3,?bt,?a9,o4,?I,?b,?c]),@(σ'=[?w,?av,?ai,?af,?ac,?bq,?cV,?cz,?dS,?eT,?gw,?aA,?dE,?h ?kH,rS fl,?a]),@(H ?a=none),@(σ'=[?I,?ay,?a9,?a8,?w,rS b0,?a,none,none,none,none,none,none,none]),@(LX ?a Ah L O1 O2 ?p n n ?cY ?b),@((?e2 ?a).trans ?bA),@(Cc (Ki (Je ?a)) ?b Bn),@(Ck (lo:=0) (n:=?a) (?Fm ?b ?c) ?kp ?_ ?_),@(σ'=[?w,?aA,?a,?ac,?a8,?kA,?b,?c]),@(by let ?a:=hz;exact ?Fo ?b ?c),@(σ'=[?I,?ay,?a9,?a8,?w,?a3,?cj,o7,o8,o9,rS b2,VR,rS t1,?a]),@(by let ?a:=hz;exact ?Fo ?b ?c),@(by let ?a:=hz;exact ?b ?c),@(Cm ?a ?aS ?b hr ?cB),@(Aa (B6 (N':=?lR) (cap:=?jT) ?n ?X ?vD ?nQ ?aC (?Fh ?a)) ?b),@(?v (?Fo ?a ?b)),@(Ba ?a5 ?a ?b ?K),@(Rep K ?a (?u ?b) ?c),@(by let ?a:=hz;exact ?b ?c),@(σ=[?a9,?aX,?bE,?c6,?bt,?Ft (0+i),rS B,?a,o8,o9]),@(λ_ _ _ _ _ _=>?a ?b),@(by let ?a:=hz;exact e),@(λi ys τ H1=>Bw ?gk ?f7 ?a ?b),@(WX K Ah Aj H1 H' p L R nm n w ?p l r (Gm ?a f)),@(?a xs ?b z k0 L G f l r),@(λi σ G=>?a),@(?Cj ?a 0=(?bN (p.getD ?b 0).toNat []).getD ?dm 0),@(Cu L7 ?n ?ez Gc ?a),@(σ'=[?a,?b,?c,none,none]),@(σ'=[?I,?dE,?h ?gX,?h ?jn,?Ft ?cJ,?a]),@(σ'=[?ey,?dq,?c6,?I,?a,?b]),@(Bh Fq ?a Ak),@(#[p,o,vs,ys,os,?a,?b,?c,?g,s2,hp,ho,hp2,ho2,r2,hT]),@(#[_,_,_,w++[?a],?g,?GE ?dw s4,?r9,?DE]),@(σ'=[?w,?a9,rS p0,?a,none,none,none]),@(H3 ?a=none),@(?l H2 ?a),@(?l ?a H'),@(?e9 (EA ?a (Y4 ?b))),@(?aE K ?a ?b=?Gh ?c),@(#[_,?g,_,_,?g,?g,?a,?_]),@(s3 _ _ ?a),@(σ'=[?qx,?w,?pJ,?a,none,none,none]),@(R6 (d:=b) (o:=o) (kvs:=?a) ?b ?DQ ?c ?_ ?_),@(below ws fam [] ?a),@(LX H' Ah R r2 b2 ?p w w ?a ?gQ),@(H' p=?h (?aD ?a dx ?b)),@(?bX (?bl ?a)),@(?IL ?a=?Gh (?o ?b ?c)),@(#[_,?g,?G5 ?a,_,?g,?b,_,_,?g,?g,?c,?b2,?_]),@(?a (K:=K)),@(by let(?J2 ?a):=hz;exact ?Fo ?b ?c),@(?m ?a p (?Gi ?b ?c)),@([?w,iS m,?gJ,?f9,?a,?b,?c,o7]),@(LX H' Ah ?a r1' b1' ?p n n ?b ?qO),@(?l H1 ?a),@(?B P w K mg ?j ?a ?b 1 ?c),@(by show ?a<=sizeLine;decide),@([?w,?a3,?aA,?a,o2,o3,o4,o5,o6,o7]),@(?a _ _ Ea),@(qa5 ?eF ?a),@(by have:=?a ?b;ext d),@(SX Af H ?a p q ?n4 n ?dQ t ?b s),@(#[?a,us,?g,?k ?b,?IO ?c]),@(#[?a,_,?S,_,?g,?g,Ab,?_,?b5 ?b,?BO]),@(λNf=>Nf _ _ ?a),@(LX ?a Ah R O3 O4 ?p w w ?cY ?b),@(?l H ?a),@(?hs/\∃L R m M l r,?pw/\?a),@(∀a,?a->?kT),@(λD hD=>?Fl #[D,?g,?a,?b,Ab]),@(s1 _ _ ?a),@([?I,?eL,?a,o3,none]),@(Xm r b ?a H'),@(Mn (Bf ?a ?b Ak ?M)),@(H' ?a=?h (?U [?u N,?gM])),@(Ge H ?a ws ?b),@(Fd (K:=K) ?y (?Fk ?a ?b ?aU)),@(Bj (j:=t) ?a),@((?a) _ _ ?b),@(#[D1,fs1,_,?g,?ea,Dt,hf1,A80,?a]),@(?a=xs.length),@(∀base:Heap,?a ?j->?HI ?b ?c),@(∀a,?Hp ?a->?b),@(H2 ?a=none),@(Bj (Cy ?a)),@(?v (?Gl (OL _ _ ?a))),@(#[_,?k ?a]),@(?a[i]?=?h ?b),@(?a _ _ pr pb ?b),@(?a ?b r n1 n2 e),@(σ'=[?a,?b,?c,none]),@(st _ _ (?a _ _ (?b _ _ e))),@(s6 _ _ ?a),@(by rw[Al ?a];exact Ea),@(by rw[Al ?a];exact Ab),@(?a=[rS x,rS tb,iS w,rS T,?b,?c]),@(λi zs τ H1=>?a),@(λc hc=>?a),@(_=?h (HO.dK (cK ?a))),@(SX Af H0 H' p q M n W ?a ?b ?c),@(N7 Iy (Bh J5 ?a ?dO)),@(?v #[?g,_,?a]),@(?m ?a p ?b p=?h ?c),@(#[[],?g,?g,?mt ?a,?p,?g]),@(?a s1 sx n1 n2 ?b),@(SqT K H' ?a ?b),@(Aa (Bh Jf ?F ?a) Ac),@(#[?S,st,s,?g,y,hI,hs,hb,?a]),@(#[?a,fs',?b,?_,?_,?_,?eS,?_]),@(?a ?b (?Im ((?c).2.2 ?rw))),@(Aa ?a Ac),@(Ai (Bd ?a)),@(H' ?a=?JC ?b),@(B6 (N':=["_law_hole"]) (cap:=?cr) ?n ?X (?Fw Bz (?JZ ?a Fr)) ?uQ ?aC ?p8),@(σ'=[?I,?bm,iS j,iS A,iS B,?c6,iS a,iS c,?Ft ?d7,?Ft ?bL,rS ci,?a]),@(σ'=[?I,?ay,?a9,?a8,?w,?a3,?cj,?j6,iS ce,?a,none,none,none,none]),@(λσ' H'=>Ec λ ?sV=>Da (?JG R2 ?a) ?pL ?wn ?km (?Fv H' R2 ?b)),@(Ao ?a hr (?J5 ?b ?c Ac)),@(Ds (K:=K) (n:=4) ?n (Bi ?a ?b)),@(λσ' H'=>?a),@(Bt (Hn (K:=K) qe7 qu0 qt9 Ww ?aQ (?GU ?a))),@(Jj (K:=K) (a:=D) (xs:=us') ?a ?zq ?un ?_ ?_),@(Op λ ?il ?mV ?pd=>Fm ?t9 (?KM ?a ?b) (J ?c t s)),@(Cc ?a (?JH 3 ?b ?c) Bn),@(H' ?a=?JI ?b),@(σ'=(?J7 ?a ?b none)),@(AA (d:=b) (o:=o) (kvs:=?a) ?b ?c ?vP ?_ ?_),@(σ'=(?J9 ?eT ?a ?b)),@(O7 (v:=.ty ?a) ?g ?b ?c ?g),@(C5 (K:=K) (a:=a) (xs:=us) ?a ?b ?c ?_ ?_),@(Bf ?a (?JZ ?a4 ?b) (?JZ ?aW ?c) ?M),@(?h (?o ?a)),@(Kj (?Fk Ji ?a (?J5 ?ee ?b ?gS)) ?c),@(C7 ?cC ?a ?b Fc),@(Bh ?di (C7 ?cC ?a Fc ?xx) (Fp ?b)),@(Bf ?gG ?a ?b ?g),@(Bh Jf ?a Ak),@(?ag p ?a ?b),@(#[_,_,_,_,_,_,?a,_]),@(?ad K ?a ?b (?Hf ?c)),@(g _ _ ?a),@(Ec λ ?c5=>Bw ?a ?dT ?a6 ?b),@(Ao Vl hr (?J5 ?a ?b ?da)),@(Ao L3 hr (?J5 ?a ?b ?nn)),@(#[_,_,_,_,_,_,_,_,_,?a,_]),@(Yd λ ?xR (c:Ms) ?Bz=>?a),@(Ai (?Fy ?a)),@(?eR=?JC ?a),@(?JE none none/\?a),@(#[?a,?b5 ?b,?c,Ab,?_,_,?g]),@(Ai (Cb qb8 ?g ?a ?AF ?b)),@(Ba ?ao ?a Ak ?K),@(λ_ _ _ _=>(?Ff 0 ?a (?J6 1 ?b))),@(#[_,(?LA ?a),?_]),@(#[_,(Ae ?a ?b),?_]),@(?a (Bc ?kQ ?h4 Sc (?L9 ?b))),@(Ai (Cc ?a ?b Bn)),@(Aa ?a (?L9 ?b)),@(Ap (i:=?a) ?b ?c),@(Op λ ?sg ?gE ?lr=>G9 ?a ?b ?qV ?ly ?kq ?nN),@(Bh Df ?a Ak),@(insAt ?S (?u ?a) ((?b).eraseIdx i)),@(Lu L1 hr ?n ?hu (?J5 ?a ?b Ac)),@(Kj (?Fk Ji ?a (?J5 ?gp ?b ?gS)) ?c),@(Cu ?zr ?n ?lj Ka (?L9 ?a)),@(Bh ?di (?LX ?a ?b) (?LW ?c ?tT)),@(?a (?JB ?b ?c)),@(VI W λk=>?a*s.1 i k+?b*s.1 j k),@(Ff ?a ?_ (?KP ?b)),@(Bw ?a (?Jv ?b) ?ev ?c),@(Bi ?a (Bi ?b (Bi ?c Dr))),@(Bc ?vy ?ml Dn (?J5 ?a ?b Ac)),@(nX λ ?uI ?u9 ?nI ?i4 ?tY=>?a),@(Mn (Bf Er ?a ?b ?M)),@(Ai (Kj ?a ?b)),@(restB c ?a ?gV),@(?q (t:=?mu) ?a ?r ?_),@(?a ?b=?JC ?c),@(Cu ?kN ?n ?f4 El ?a),@(Ae (Ty (Cb qb8 ?g ?p7 ?a (Ai ?b))) ?er),@(B6 (N':=?vU) (cap:=?cr) ?n ?X ?kK ?Eg (?Fh (?KY ?a ?mB)) ?b),@(Ai (?Fr ?a (?L9 ?b))),@(B6 (N':=[?aY]) (cap:=?cr) ?n ?X ?a ?z3 ?aC (?Fh ?b)),@(Ao Oe hr (?J5 ?y ?a (?L9 (?Fs ?b ?iT)))),@(Ao ?a hr ?b),@(#[_,(Ai ?a),?_]),@(?a (K:=K) ?b),@(λ_ _ _ _=>(?J6 0 ?a)),@(Am ?a ?_ ?cE),@(Cc (?Fz ?a ?b) ?c Bn),@(Bh ?tI ?a (De (?L9 ?b))),@(Ap (i:=?a) ?cv ?b),@(Bc ?am ?aa qg1 ?a),@(Ao ?a hr (?J5 ?A ?b Ac)),@(Aa ?a ?aU),@(Ai (Bd ?a)),@(mL (d6 ?a ?b ?c) ?n ?n ?ft ?mH),@(Ae ?a (?LA ?b))])
noncomputable abbrev Qm:Stmt:=top 83
def C0:?Fp [?cs,?dW,?zG,?xt,"_law_base",?fw,?fB] ?ni Qm:=Bg
def eK[?H](F:?Fi ?jk ?jk Qm)[?G] :?Fe 1 ?ni ?uy:=by apply ?G0 C0;let#[c,fam,letters,?g,hl0,hl1,hf,k]:=h;have m1:0<=?cM:=?kO;have m2:?cM<4:=?gr;apply#[_,(Ae (?Fg 0 ?bU ?ps) (Ae (?Fg 3 ?bU ?ps) (Ae (?Fg 4 ?bU ?A) (Ae (?LM (?Fz Er ?F) ?bU ?rv) (Ae (?LM (?Jy (?Fz U8 ?F) (?Fz Ku ?L)) ?bU Ak) (Ae (?MQ HF ?F (?JH 4 ?bU ?F)) (Ae (?Fg 0 ?bU ?yW) (Ae (?Fg 5 ?bU ?nK) (Ae (Cb qb8 ?g (?GI ?dC) (?J6 6 ?bU) (Ae (?Lv 5 ?bU (?MR ?a4 (Bh Fq ?y ?W))) (?JH 0 ?bU (Bh O9 ?y ?W)))) ?DW))))))))),?_];ext Q;apply(?K0 (?GB 1000000));apply(?K0 ?tB);apply ?bZ;have fork:?qB\/(fam<0/\?cM=1)\/(fam<0/\¬?cM=1)\/0<fam:=O9m;have SV:¬?qB->¬?vQ:=λz q=>z ?n9;(have A56:?qB->?vQ:=λz=>by simp[z]);have hb0:0<letters:=hl0;have hb1:letters<1073741824:=O9m;rcases fork with hz|⟨hz,h1⟩|⟨hz,h1⟩ | hz;{apply ?bW;apply ?Hi (A56 hz);apply ?z6;apply ?cU;apply ?eP;apply ?fv;apply ?cU;apply ?eP;have hW:?H0 ((?rJ).toNat):=λw e=>?v #[hz,?i,?i];apply ?hG;apply ?fq;apply Ck (lo:=0) (n:=(?rJ:Int).toNat) (?Fm ?rJ ?e4) ?kp ?_ ?_;{rintro i σ H2 hi Dc;ext f;revert σ;apply ?dM;intro c' v o w s2 tv hwl Ei;let ?j1:=tv.sq;apply ?iX;have s3:?lh:=?hO;apply ?lA;apply ?hB;apply ?m2;rw[qb0];exact q3};rintro σ H2 Dc;revert σ;apply ?dM;intro c' v o w s2 tv hwl Ei;exact ?hm};{apply ?bW;apply ?ns;apply ?cU;apply ?qS;apply ?bW;apply ?HY (eqI h1);apply ?cU;apply ?eP;have hW:?yB:=?Ik ?v ?Co;apply ?hG;apply ?fq;apply ?JT ?tE ?cM ?e4;{rintro i σ H2 hi Dc;ext f;revert σ;apply ?dM;intro c' v o w s2 tv hwl Ei;let ?j1:=tv.sq;apply ?iX;have s3:?lh:=?hO;apply ?lA;apply ?hB;apply ?m2;rw[qb0];exact q3};rintro σ H2 Dc;revert σ;apply ?dM;intro c' v o w s2 tv hwl Ei;exact ?hm};{apply ?bW;apply ?ns;apply ?cU;apply ?qS;apply ?bW;apply ?Hi (neI h1);apply ?cU;apply ?eP;have hW:?H0 ?E8:=?Ik ?v #[hz,?O (?O e)];apply ?hG;apply ?fq;apply ?JT ?E8 (3) ?e4;{rintro i σ H2 hi Dc;ext f;revert σ;apply ?dM;intro c' v o w s2 tv hwl Ei;let ?j1:=tv.sq;apply ?iX;have s3:?lh:=?hO;apply ?lA;apply ?hB;apply ?m2;rw[qb0];exact q3};rintro σ H2 Dc;revert σ;apply ?dM;intro c' v o w s2 tv hwl Ei;exact ?hm};apply ?bW;apply ?ns;ext rm;apply ?eP;ext lM;ext rm;apply ?qS;apply ?bZ;have hW:?yB:=?Ik ?O ?Co;have hb0:0<fam:=hz;have hb1:fam<1073741824:=O9m;apply ?hG;ext rp;apply ?JT ?tE ?cM ?bE;{rintro i σ H2 hi Dc;ext f;revert σ;apply ?dM;intro c' v o w s2 tv hwl Ei;let ?j1:=tv.sq;apply ?iX;have s3:?Jw (?GA H2 pt [?o ?Cd]):=?hO;apply ?lA;apply ?hB;apply(?Jt ?Cd);rw[qb0];exact q3};ext lJ;apply ?dM;intro c' v o w s2 tv hwl Ei;exact ?hm
noncomputable abbrev Jd:Stmt:=top 86
def Ch:?Fp [?co,?ed,"_law_pieces","_law_old",?cs,?oN,?dL] ?o5 Jd:=Bg
def Vc[?H](F:?Fi ?hn ?hn Jd)[?G] :?Fe 1 ?o5 ?B3:=by apply ?G0 Ch;let#[a,l,ns,xs,?g,hL,hS,hnl,Db,hx4,k]:=h;ext eI;let ?Dl:=?gB;apply#[_,(Ae (?Fg 2 ?cv ?qT) (Ae (?Fg 3 ?cv (EG ?n ?n ?f4 ?n ?aZ ?ia)) (Ae (Cb qb8 ?g ?mx (?J6 4 ?cv) (Ai (Cc (?Fz HF ?qo) (Ae (?Fg 5 ?cv (Bh Fq ?W (?LZ ?qo))) (Ai (Cc (?LY ?a4 ?tc) (Ae (?MS 6 (?MX ?a4 ?fx (d6 ?fx ?a4 mK))) (Ae (?MS 2 (?M2 ?A (?J5 ?tc (?Fs ?A ?a4) Ac) ?A)) (Ae (?MS 3 (?M2 ?L (?J5 (?Fs ?L ?fx) (?Fs ?L ?a4) Ac) ?L)) (Ai (U6 (N':=["_law_piece",?dL]) (cap:=[none,?h 6]) (i:=2) ?cv ?n ?gh ?n ?X ?BR (?Fh (?J6 0 Ai6)) ?aC (?Fh (?M1 (B6 (N':=[?qL,?dL]) (cap:=?jT) ?n ?X (?MN Vg ?y) (?MO Ai5) ?aC (λ_ _ _ _=>(Qr ?et ?F ?y ?y ?sD)))))))))) Bn))) Bn))) (?GZ ?ol)))),?_];ext Q;cases z;ext rX;apply#[_,?g,a,us,?g,?dh,?uA];have s0:?KR ?y4:=?x hp0;apply ?G9 (?Ju none) (H'=?y4);rintro _ _ ⟨rfl,rfl⟩;apply ?Fd (Ec λ(o:Addr)=>Da (?Ju (rS o)) ?a6 (H' p0=?d9) ?oA (?LB o ((LY ?bx).map ?J)));{apply#[_,?g,a,us,?g,?v (s0.seq hq),?bx,by rw[VP],?i,λo ho=>?_];exact ?Fl #[o,?g,?k6 ?zR,?Kd ?zR Ab,?fk ho,Ab]};apply lV λo H1 s1 hp1 hoN zV=>?_;intro sq;apply ?Fd (?M9 (Xn (σ'=?zV) ?a6 ?xO ?oA (H' p=?h ?ob) ?oE (?ad K H' vs ?kE) ?iD));{apply#[_,?g,l,?g,#[_,?pX],?cR (K:=K) (a:=l) (xs:=?d3) (λj σ H2=>?M9 (Xn (σ=?zV) ?cl ?xO ?oA (H2 p=?h ?ob) (?HZ o ?eA) (?J0 vs ?kE) ?iD)) #[p0,o,us,xs,_,?p,?p,?p,?g,s1,hp0,hoN,hp1,zV,?IO s1,.refl] (?Gy (?Lh s2)) ?_ ?_];{rintro j x σ H2 hx Dc;ext f;revert σ;apply ZM ?_;intro p o vs ys os o1 o2 o3 s2 hp ho hp2 ho2 r2 hT Ei;(ext FH);(ext FB);subst hxv;(have vsl:vs.length=ys.length:=by have:=r2.length;ext Z);let#[hyl,hol]:=hT.len;apply(?Gx p vs (?v ?lc));apply ?as ?fn (λh1=>?tq);(have h2:1<ys.length:=?HG ((1:Int)) ?BS);apply#[_,?g,_,?g,p,vs,?g,?v ?lc,_,_,?g,?g,_,_,?g,?g,(by show ?b1<?mo;ext d),?_];(obtain⟨t,ht,ht1⟩:∃t:Nat,?jP=?b6/\t+1<ys.length:=by have a0:0<=?jP:=?tR;have a1:?jP<?mo:=?uK;exact#[(?jP).toNat,?i,?i]);apply ?M5 (λσ' G=>σ'=[?w,?a9,?I,rS o,?h ?Bs,?h ?io,o3]/\H2=G) #[by rw[←ht];rfl,?g];rintro _ _ ⟨rfl,rfl⟩;(have get:∀{i:Nat},i<ys.length->∃v,vs[i]?=?aX/\TI K H2 v ?w9:=λ{i} hi=>by (have e:?Km ?kE (tI ?w9):=by rw[qa7,?be,qa1,?be];rfl);let ?vj:=r2.get e;exact ?vj);let#[va,hva,tva]:=get (i:=t) ?i;let#[vb,hvb,tvb]:=get (i:=t+1) ht1;have atb:Um vs ?fC=?h vb:=Bj (j:=t+1) hvb;have ata:Um vs ?b6=?h va:=?Kc hva;let#[ab,?g,sqb]:=?dc tvb;apply#[_,?g,_,?g,_,?g,_,_,?g,?g,p,vs,_,_,?g,?g,?lc,atb,?io,Fb ?o1,?g,?O #[ab,_,?g,sqb,?hZ],?vi,_,?g,?_];apply ?as ?or (λh3=>?tq);(have hmem:?b6 ∉ ?o1:=by intro hm;have h4:(?Is ?o1 ?io)=true:=qm0.mpr #[?io,qc7.mpr #[_,hm,?g],by simp[eqD]];rw[h4]at h3;simp at h3);have hT2:=Cz.step t hT ht1 hmem;apply λd hd=>#[_,?g,_,?g,_,_,?g,?g,_,?g,_,_,?g,?g,_,?g,Ab,[(?iA ?b6,?J ?fC),(?iA ?fC,?J ?b6)],?g,?au,?_];rw[yG];(have e3:?m (?m H2 d ?eb) d ?qc=?jx:=?GM d);rw[e3];have s3:?Jw ?jx:=?x hd;have hd3:(?jx) d=?mk:=Ab;generalize ?jx=H3 at s3 hd3;have hp3:=?vq;have ho3:=?K1 ho2;apply#[_,?g,_,?g,_,?g,p,vs,?g,?k hp3,λc1 hc1=>?_];have s4:?l H3 ?pv:=?x hc1;have A89:(?pv) c1=?h ?sd:=Ab;generalize ?pv=H4 at s4 A89;have P3:=?mP;apply#[_,?g,_,?g,_,_,?g,?g,p,vs,_,_,?g,?g,?n5,atb,_,?g,_,?g,p,vs,_,_,?g,?g,?n5,ata,?a7,λc2 hc2=>?_];have s5:?l H4 ?qm:=?x hc2;have A88:(?qm) c2=?h ?vl:=Ab;generalize ?qm=H5 at s5 A88;(have Cx1:?Ga ?qp:=by rw[J8,qb9];ext d);(have TR:?Ga ?pU:=by rw[?uj,Ir,qh4];ext d);apply#[c1,c2,_,_,?g,?g,?Fo s5 A89,?k A88,?Hc Br,λc3 hc3=>?_];have s6:?l H5 ?lv:=?x hc3;have A87:(?lv) c3=?h ?wt:=Ab;generalize ?lv=H6 at s6 A87;apply#[_,?g,_,?g,_,_,?g,?g,_,?g,p,vs,?g,?Fo (?Ej) P3,λc4 hc4=>?_];have s7:?l H6 ?p6:=?x hc4;have A86:(?p6) c4=?h ?DY:=Ab;generalize ?p6=H7 at s7 A86;apply#[c3,c4,_,_,?g,?g,?Fo s7 A87,?k A86,?HN Br,λc5 hc5=>?_];have s8:?l H7 ?nX:=?x hc5;have Am9:(?nX) c5=?h ?Aj:=Ab;have r8:=oQ r2 tva tvb;generalize ?nX=H8 at s8 Am9;generalize ?w8=ws at Am9 r8;have s28:?Jw H8:=(((?GE ?fm s5).trans s6).trans s7).trans s8;have hd8:H8 d=?mk:=(((?GE ?ji s6).trans s7).trans s8) _ _ hd3;replace r8:=?a0 s28 r8;have ho8:=s28 _ _ ho2;have oa:Um ?eA ?b6=?h ?we:=?Kc ?Ah;have ob:Um ?eA ?fC=?h ?Aa:=Bj (j:=t+1) ?Ah;apply(?GP o (?k ho8) ?xh);have s9:?l H8 ?nx:=?md;have A82:(?nx) e1=?h ?Ei:=Ab;generalize ?nx=H9 at s9 A82;have ho9:=s9 _ _ ho8;apply#[_,?g,_,?g,_,_,?g,?g,o,_,_,_,?g,?g,?k ho9,ob,_,?g,_,?g,o,_,_,_,?g,?g,?k ho9,oa,?a7,λe2 he2=>?_];have s10:?l H9 ?ln:=?x he2;have zX:(?ln) e2=?h ?uP:=Ab;generalize ?ln=H10 at s10 zX;(have Cc4:?Ga ?nC:=by rw[J8,qb9,qa3];ext d);(have Cc3:?Ga ?BE:=by rw[?uj,Ir,qh4,qa3];ext d);apply#[e1,e2,_,_,?g,?g,?Fo s10 A82,?k zX,?Hc Br,λe3 he3=>?_];have s11:?l H10 ?nG:=?x he3;have ZW:(?nG) e3=?h ?ux:=Ab;generalize ?nG=H11 at s11 ZW;apply#[_,?g,_,?g,_,_,?g,?g,_,?g,o,_,?g,?Fo (s10.trans s11) ho9,λe4 he4=>?_];have s12:?l H11 ?qb:=?x he4;have zW:(?qb) e4=?h ?E0:=Ab;generalize ?qb=H12 at s12 zW;apply#[e3,e4,_,_,?g,?g,?Fo s12 ZW,?k zW,?HN Br,λe5 he5=>?_];rw[PL];have s13:?l H12 ?mr:=?x he5;have ZV:(?mr) e5=?h ?su:=Ab;generalize ?mr=H13 at s13 ZV;have wO:?l H8 H13:=((?G1 s9.trans s10 s11).trans s12).trans s13;(have hfo:?JO e5:=by have:?KR H12:=((?G1 ?By s9 s10).trans s11).trans s12;exact this.free he5);replace r8:=?a0 wO r8;have zY:=wO _ _ Am9;have Bw0:=wO _ _ hd8;have A04:?KR H13:=?By wO;(have wsl:ws.length=?Du:=by have:=r8.length;ext Z);have hsl:=CA ht1;(have h4s:∀q∈?ew,q.length<=4:=?Il (by rcases CJ hq with z | z;{exact hT.le4 hx4 q z};subst z;exact ?ae));apply(?GF c5 (?Kl zY) ?aP);have hDH:?dT:=A04.free hD;let B71:?a2:=λi zs τ G=>Bw (?l H13 G) ?yX (?ad K G zs (?Hx ?zH ?lb tI)) (?G8 ?E9);apply C5 (K:=K) (a:=c5) (xs:=ws) B71 ?cT (λi zs τ G _ hz=>?JX #[g1,_] g1 zY) ?_ ?_;{rintro i x zs τ G hx Dc;revert τ;apply ?ar;intro g1 Ea rG o' Ei;have hi:?EL:=?dk;have hi2:i<?Du:=O9m;(have hix:?Km (?Hf ?ew) (tI ?ew[i]):=?HF hi2);let ?jZ:=r8.get hix;rw[hx]at hx';cases hx';have hq4:=h4s _ (qd7 hi2);generalize hqe:?ew[i]=q at tx hq4;let#[ax,?g,sqx]:=?dc tx;have sqG:SqT K G ax ?v5:=g1.seqT sqx;apply(?GF ax #[_,sqG] ?EQ);let B70:?a2:=λm ys' τ' G'=>Bw ?rx (?ME G' D2 ys') (ys'=(?Hx q.take m ?zA).map ?J) (Ec λo=>τ'=?E9);apply R9 (K:=K) (a:=ax) (xs:=?v5) B70 ?tt (λm ys' τ' G' _ hz=>?Je #[g2,_] g2.seqT sqG) ?_ ?_;{rintro m y ys' τ' G' hy Dc;revert τ';apply ?ar;intro g2 Ao0 hys o'' Ei;(have hm:m<q.length:=by have:=?oC;ext Z);(have hyv:y=?o q[m]:=by rw[qa7,qa0 hm]at hy;simpa using hy.symm);subst hyv;have A83:G' d=?mk:=?Kd ?dr Bw0;apply#[_,?g,d,?g,?v #[_,?x1],_,?g,_,?g,_,Bc2 ?x1,?_];(have ev:(Option.map ?J ?AB).getD (?J q[m])=?J (K9 t q[m]):=by rw[←xV];cases ?AB<;>rfl);rw[ev];apply(?Lm Ao0 (by rw[hys,qa3,qa3,qb9];ext d) (g2.turn L4));rw[qe1,qa0 hm,qb0,qb0,hys];rfl};rintro ys' τ' G' ⟨g2,Ao0,hys,_⟩;rw[qa3,qc8]at hys;apply#[D2,_,?g,?v #[?k Ao0,?zt]];have g3:?l G' (?GA G' T2 ys'):=?x hT2;have B08:=?qz;apply(?Lm ?Bf (by have:=rG.length;rw[this,qa3,qa3,qb9];ext d) (B08.turn hD));(have e5:?Hx ?Dv ?aG ?lb=?zH ?lb++[?u8]:=by rw[qe1,qa0 hi2,qb0,hqe];rfl);rw[e5];apply K0 ?Bf (?a0 ?fA rG) ?r9;rw[←hys];exact ?aJ};rintro zs τ G ⟨g1,Ea,rG,_⟩;rw[wsl,qc8]at rG;exact#[D,e5,zs,Kt ys t,Pw os t,_,_,_,?g,A04.trans g1,hDH,hfo,Ea,?II ZV,rG,hT2]};rintro σ H2 Dc;revert σ;apply ZM ?_;intro p o vs ys os o1 o2 o3 s2 hp ho hp2 ho2 r2 hT Ei;exact ?Fl (?Js o1 o2 o3)};apply Av8 λp o vs ys os o1 o2 o3 H2 s2 hp ho hp2 ho2 r2 hT=>?_;intro sq;ext FY;have sR:?Jw (?m H2 R ?DZ):=?pt;exact k R p o vs ys os _ (?bV sR) Ab hp ho (sR _ _ hp2) (sR _ _ ho2) (?a0 sR r2) hT
noncomputable abbrev M7:Stmt:=top 88
def Cl:?Fp [?co,?cs,?xt,?uM,?Do,?fB,"_law_some",?A1] ?qQ M7:=Bg
def i6[?H](F:?Fi ?ig ?ig M7)[?G] :?Fe 1 ?qQ ?AU:=by apply ?G0 Cl;let#[a,xs,c,?g,hL,hsh,Db,kq]:=h;let ?Dl:=?gB;apply#[_,(Ae (Ap (i:=2) ?bp (Ba ?ao (De (?J5 Ak Ak (Aa Ak ?eX))) (?Jr ?F) ?K)) (Ae (?Fg 3 ?bp (PEw.h (XD (K:=K) (SM (ns:=?wN) ?X) ?A ?K))) (Ae (?Fg 1 ?bp (Bh O9 ?F Ak)) (Ae (?Fg 4 ?bp ?nK) (Ae (Cb qb8 ?g ?vg (?J6 5 ?bp) (Ae (U6 (N':=[?oN,?co,?uM]) (cap:=[none,?dy,?h 3]) (i:=6) ?bp ?n ?gh ?n ?X ?wJ (?Fh (?J6 0 Ai3)) (?Fh (?MA (?J8 (?L9 ?Ar)) ?A)) ?i5) (Ae (Cc (?Fz HF ?L) (Ai (Cb qb8 ?g (?GI ?dF) (?HH ?bp) (Ai (U6 (N':=[?oN,?co,?A1,?Do,?fB]) (cap:=[none,?dy,?h 7,?h 4,?h 5]) (i:=6) ?bp ?n ?gh ?n ?X (?Fw Bz ?aW) (?Fh (?J6 0 Ai4)) (?Fh (?MA (Ba ?ao ?Ar ?A ?K) (Ba ?ao (?Jc ?F (Ba ?ao ?L ?A ?K)) (?LZ ?W) ?K))) ?i5)))) Bn) (Ae (?MQ Er ?gD (?GZ (?MV ?nK))) (Ae (Ap (i:=4) ?bp (?MR ?W (?Fs ?aW (Bh Fq ?F ?gD)))) (?JH 1 ?bp (Bh O9 ?F ?gD))))))) (?GZ (?MV ?W))))))),?_];ext Q;cases z;ext rX;have c0:0<=c%4:=?kO;have c1:c%4<4:=?gr;(obtain⟨sz,need,hsz,A75,Ch9⟩:∃sz need:Nat,Um [?c1,?J 2,?J 3,?J 4] (c%4)=?gJ/\Um [?c1,?c1,?c1,?J 2,?J 3] ?q2=?f9/\((?Ix 0 0)\/(?Ix 2 0)\/(?Ix 3 2)\/(?Ix 4 3)):=by have:c%4=0\/c%4=1\/c%4=2\/c%4=3:=O9m;rcases this with e | e | e | e<;>rw[e];{exact(?Iv 0 0)};{exact(?Iv 2 0)};{exact(?Iv 3 2)};exact(?Iv 4 3));apply#[?a7,?k5];have s1:?KR ?vh:=?ec;apply#[_,?g,_,_,?g,?g,?tB,T1,_,_,_,?g,?g,?aJ,hsz,?_];generalize ?vh=H1 at s1;apply#[?a7,?zt];have s2:?KF ?uT:=?x hT2;apply#[_,?g,T2,_,_,_,?g,?g,?aJ,A75,?_];generalize ?uT=H2 at s2;apply(?K0 ?fj);apply#[?a7,λT3 hT3=>?_];have s3:?Jw ?lz:=?x hT3;have A91:(?lz) T3=?h ?qg:=Ab;generalize ?lz=H3 at s3 A91;have qY:?KR H3:=?GE ?cN s3;apply ?M5 (?LI (Ec λ ?ei=>σ'=[?w,iS m,?gJ,?f9,rS T3,none,none,none]/\H3=H')) ?y9;apply Ax2 λm0=>?_;intro sq;ext rp;let B69:?aM:=λk σ G=>lR λ ?ei ?gt (p:?b3) (o5 o6 o7:?ak)=>Da (σ=(?KD ?aX o5 o6)) ?cH (TI K G v p) (Part xs need p) (p.length=k);apply Ck (lo:=0) (n:=(?q2).toNat) B69 #[m0,?u T3,[],?p,?p,?p,?g,qY,?fT (?k A91),?Dg,?g] ?_ ?_;{rintro k σ G hk Dc;ext f;revert σ;apply ZO ?_;intro m v p o5 o6 o7 sG tp hP hpl Ei;have T9:k<sz:=O9m;rw[?yN];have QZ:=?R sG hL;apply ?q (λσ' G'=>Kc λ ?c5 ?pZ=>Da (σ'=(?KD ?aX ?a8 ?aA)) ?rx ?mn ?on ?l3) ?r ?_;{apply(?Ic a (sG.seq hq) ?aP);let B68:?a2:=λi ys τ G1=>Da (i<=xs.length) (?l G G1) (G1 D=?dR) ((∃fs:?b3,ys=?hj/\?I3 i/\?l3)) (?G8 [o,?w,?f9]);apply AH B68 #[?ae,?bC,Ab,?wR,?p,?g] ?_ ?_;{rintro i ys τ G1 hi ⟨_,g1,Dt,⟨fs,rfl,hfl,hfs⟩,o,rfl⟩;have hi2:?qy:=O9m;let#[us',w,Bs6,hw,tw]:=?g5 (?R g1 QZ) (i:=?ba) ?i ?i;rw[?xv]at tw;let#[b,?g,hb]:=?dc tw;apply#[_,?g,_,?g,a,us',_,_,?g,?g,Bs6,hw,b,_,?g,?O hb,_,?g,?g,_,?g,?_];apply ?as ?fn (λh1=>#[?i,g1,Dt,?tC,_,?g]);(have h2:(?wg).length=need:=by (have:((?Hg ?wg).length:Int)=?kh:=?aI);rw[qa3]at this;ext d);apply#[_,?g,Dt,?d6,?i,g1.turn hD,Ab,(?J1 ?ba),_,?g];rcases qj5.mp hf with q | q;{exact hfs f q};(have:f=?ba:=?n9);subst this;apply#[?i,?i,?_];rw[?xv];exact h2};rintro ys τ G1 ⟨_,g1,Dt,⟨fs,rfl,hfl,hfs⟩,_⟩;exact ?Fl #[D,fs,?g,g1,Dt,?i,hfs]};rintro _ G1 ⟨D1,fs1,rfl,g1,Dt,hf1,A80⟩;have tp1:=?ss;let#[av,?g,sqv]:=?dc tp1;apply ?q (λσ' G'=>?Gg σ' (0<need->∀f∈fs,∀i:Nat,i<k->?F1)) ?r ?_;{apply ?cU;apply ?b0;{(have hn:0<need:=?HG ?b1 ?kh);apply ?fq;let B67:?aM:=λi σ G'=>?Gg σ (∀f∈fs,∀i':Nat,i'<i->?Jm i' i');apply Ck (lo:=0) (n:=?wB) B67 (?Ke (λf _ i' h=>O9m)) ?_ ?_;{rintro i σ G2 hi Dc;ext f;revert σ;apply ?cn;intro D2 Vn o8 g2 L4 hf2 pU uE Ei;have hik:i<k:=O9m;rw[?Fq (?ba=?aO)];have hip:i<p.length:=O9m;(have hpi:p.getD i 0=p[i]:=by rw[qa1,qa0 hip];rfl);let ?v3:=hP.ok p[i] (qd7 hip);apply(?GF D2 #[_,?ff] ?aP);let B66:?a2:=λj ys τ G3=>Bw (?l G2 G3) (G3 D=?dR) ((∃fs:?b3,ys=?hj/\?I3 j/\∀f∈fs,f∈Vn/\?F1)) (?G8 [o,?w,?dE,rS av,?a8]);apply Jj (K:=K) (a:=D2) (xs:=?mA) B66 (?IR ?wR) (λj ys τ G3 _ hz=>?JX #[g3,_] g3 L4) ?_ ?_;{rintro j x ys τ G3 hx ⟨g3,cX,⟨fs,rfl,hfl,hfs⟩,o,rfl⟩;(have hj:j<Vn.length:=?ex);(have hxv:x=?o ?hY:=?Gu hj);subst hxv;let#[f0,f1,f2]:=pU ?hY ?wc;have gG3:=?qz;have A97:=?R gG3 QZ;let#[us4,w4,Bs5,hw4,tw4]:=?g5 A97 f0 f1;let#[b4,?g,hb4]:=?dc tw4;let#[us5,w5,Bs4,hw5,tw5]:=?g5 A97 q0 q1;let#[b5,?g,hb5]:=?dc tw5;have ga:∀{l:?b3}{t:Nat},t<l.length->Um (l.map ?J) ?b6=?Ft (l.getD t 0):=λ{l t} h=>?Kc (by rw[qa7,qa0 h,qa1,qa0 h];rfl);have i4:i<(?DK).length:=O9m;have k5:?dm<(?EO).length:=O9m;apply#[_,?g,_,?g,a,us4,_,_,?g,?g,Bs5,hw4,_,?g,b4,_,_,_,?g,?g,hb4,ga i4,_,?g,_,?g,_,?g,av,_,_,_,?g,?g,(?fA).seqT sqv,(by rw[ga hip,hpi]),a,us5,_,_,?g,?g,Bs4,hw5,_,?g,_,_,?g,?g,b5,_,_,_,?g,?g,hb5,(by rw[?Fq (?a1-1=((?dm:Nat):Int))];exact ga k5),?g,_,?g,?_];apply ?as ?nl (λh2=>#[g3,cX,?tC,_,?g]);(have h3:(?DK).getD i 0=(?EO).getD ?dm 0:=?bn);apply#[_,?g,cX,?d6,g3.turn hD,Ab,(?J1 ?hY),_,?g];rcases qj5.mp hf with q | q;{exact hfs f q};(have:f=?hY:=?n9);subst this;exact#[?wc,by rw[hpi];exact h3]};rintro ys τ G3 ⟨g3,cX,⟨fs,rfl,hfl,hfs⟩,_⟩;rw[qa3]at hfl;apply#[D,fs,_,?g,?fA,cX,?i,λf hf=>pU f (?qE).1,λf hf i' hi'=>?_];by_cases e:i'<i;{exact uE f (?qE).1 i' e};have:i'=i:=O9m;subst this;exact(?qE).2};rintro σ G2 Dc;revert σ;apply ?cn;intro D2 Vn o8 g2 L4 hf2 pU uE Ei;exact ?Fl #[D2,Vn,_,?g,g2,L4,hf2,pU,λ_ f hf i hi=>uE f hf i ?i]};exact ?Fl (?Ke (λhn=>?fu (show ?b1<?kh by ext d) ?aI))};rintro _ G2 ⟨D2,Vn,o8,rfl,g2,L4,hf2,pU,uE⟩;apply#[_,?g,D2,_,?g,?v ?ff,?g,_,?g,?_];apply ?b0;{apply#[?a7,λe1 ZX=>(?It ?zM)];have g3:?l G2 ?qh:=?md;have g4:?l ?qh (?GA ?qh R [?tG,?o m]):=?pt;exact kq R ?tG m [] _ (?G1 ?vE g3 g4) ?aJ (?fT (?Fo g4 Ab)) ((?Dg (need:=0)).fits (size:=0) ?g ?i)};(have hfl:0<Vn.length:=by rw[qa3]at h1;have:¬Vn.length=0:=λz=>h1 (by rw[z];simp);ext d);have m0':0<=m%?jf:=?tR;have m1':m%?jf<?jf:=?uK;let#[t,ht]:=qn5 m0';have FZ:t<Vn.length:=O9m;(have hat:Um ?mA (m%?xc)=?h ?uk:=by rw[qa3,ht];exact ?Kc (?HF FZ));(have VU:?xc=?jf:=by rw[qa3]);apply#[_,?g,_,?g,_,?g,_,?g,D2,_,?g,?v ?ff,_,_,?g,?g,(by rw[VU];ext d),D2,_,_,_,?g,?g,?ff,hat,?a7,?xh];have g3:?l G2 (?GA G2 e1 [?uk]):=?md;have Bm9:=(?fA).seqT sqv;apply#[av,e1,_,_,?g,?g,Bm9,?aJ,Br (by rw[qa3];ext aL),λP G4 g4 hP4=>?_];apply#[_,?g,_,?g,D2,_,?g,?Jb (?ok) L4,_,_,?g,?g,(by rw[VU];exact ?qa),?_];apply#[_,?u P,p++[Vn[t]],_,_,_,?g,?vE ?ok,?fT (by rw[qb0];exact hP4),hP.snoc (pU _ ?v7) (λhn i hi=>?_),?iV];rw[hpl];exact uE hn _ ?v7 i ?i};ext eH;apply ZO ?_;intro m v p o5 o6 o7 sG tp hP hpl Ei;ext FY;have g1:?l G (?GA G R [v,?o m]):=?pt;exact kq R v m p _ ?ku ?aJ ?ss (by first|exact hP.fits (hpl.trans (Int.toNat_natCast _)) Ch9|exact hP.fits hpl ?i)
noncomputable abbrev Jb:Stmt:=top 3
def U2:?Fp ?hq ?hq Jb:=Bg
def Va[?H](F:?Fi ?iK ?iK Jb)[?G][?rh]:?Fe 2 ?hq ?Bk:=by apply ?G0 U2;let#[x,d,b,?g,hx,k]:=h;apply(?Lq (O8 ?vd (Qq (SK MM U8 Ak ?y ?F))));apply(?HO x d hx);ext ro;{let#[i,?g]:=jI e;cases ?Er;apply ?cU;apply ?as ?xq ?xq;{apply ?z6;(have e2:?oO=?aF (i<b):=by show(?HC b)=_;rw[e1];rfl);rw[e2]at k;exact k};(have e2:?oO=false:=by show(?HC b)=_;simp at e1;ext aL);rw[e2]at k;exact k};(have e2:belowD d b=false:=by cases d<;>first | rfl | (exfalso;exact e ?g));rw[e2]at k;exact k
noncomputable abbrev JS:Stmt:=top 15
def Y3:?Fp [?dU,?cS,?bu,?bd,?aY] ?kr JS:=Bg
def xH[?H](F:?Fi ?kL ?kL JS)[?G][?FJ]:?Fe 2 ?kr ?ya:=by apply ?G0 Y3;let#[a,b,ms,ns,?g,ha,hb,hm,hn,k]:=h;apply(?Lr (?Fg 2 Y3.nd ?DP) (?MG (?Ff 3 Y3.nd (?J6 4 Y3.nd)) (Bt (?JB Ry ?Df))));ext Q;apply#[_,?g,a,?d8,?g,ha,?aP];have CI:b≠D:=?tZ;apply ?Gr ?e3 (by rw[?ha];exact hb);apply ?Bw;let B65:?aM:=λi σ H1=>Kc λo1 o2=>Bw ?v1 (H1 b=?HT ?e3) (?Fv H1 D ?xA) ((?H8 b (H c=?dD) ?tb));apply ?K3 ?e3 B65 (λi σ H1 _ hz=>?ut);{rw[?dx,Ab];rfl};{intro c q n1 n2 e;rw[?gN,?g2];exact e};{rintro i kk x σ H1 p hx Dc hp;ext f;revert σ;apply ?f1;intro o1 o2 hb1 Dt hk1 Ei;let ?f6:=?dz;have npb:b≠p:=Aq hb1 hp;have npD:?pV:=Aq Dt hp;have hlt:?q9:=?i9;apply ?fG;apply#[_,?g,_,?g,_,?g,D,?xA,q.1,q.2,?g,(by rw[Al npD];exact Dt),?_,?_];{have:=IF ?CY ms;rw[qb9]at this;ext d};apply#[_,_,?g,?_,?_,?lZ];{rw[?ha,Al npb];exact hb1};{rw[Ab,OS hq]};rw[?g2,Al (Aq ?Ad hp)];exact ?Ad};rintro σ H1 Dc;revert σ;apply ?f1;intro o1 o2 hb1 Dt hk1 Ei;rw[Ks,qc8]at Dt;apply#[hb1,_,?g,k D _ hD ?pe ?zU];ext FG;exact hk1 c q z ?pN e
noncomputable abbrev Id:Stmt:=top 33
def Tj:?Fp ?dd ?dd Id:=Bg
def T6[?H](F:?Fi ?hw ?hw Id)[?G][?rg]:?Fe 2 ?dd ?v4:=by apply ?G0 Tj;let#[a,i,xs,?g,hL,Db,k]:=h;let ?E7:=?yk;let#[_,us',z,hq',r]:=?gB;apply#[_,(?LA (B6 (N':=[?bd,?jJ,"k"]) (cap:=[none,none,?ah]) ?n ?X ?Bm (?Lp ZI ZI) (?Fh (?MA ?EB ?A)) ?i5)),?_];cases z;apply(?GF a #[us',hq'] ?aP);(have Bs7:?Kf us'.length:=?h6);let B64:?a2:=λj ys τ H1=>Da (j<=us'.length) ?gk ?f7 (ys=(Nc xs i j).map ?J) (?Hs [o1,o2,?bm]);apply dI (K:=K) (a:=a) (xs:=us') B64 #[?ae,?bC,Ab,?g,?p,?p,?g] (λj ys τ H1 _ hz=>?Je #[_,s1,_] ?cg hq') ?_ ?_;{rintro j v ys τ H1 p hv Dc hp;revert τ;apply tS ?_;intro hj s1 Dt hys o1 o2 Ei;have hj2:j<us'.length:=?cZ;have hj3:j<xs.length:=O9m;let ?yZ:=r.getV hv;(have edv:dv=tI ?lE:=by rw[qa7,qa0 hj3]at uD;rw[qa1,qa0 hj3];simpa using uD.symm);subst edv;have sp:?KF ?yj:=?dG;apply ?fG;apply#[_,?g,v,Fb ?lE,?g,?O (?R ?kn rv),_,?g,?g,_,?g,?_];rw[show(Fb ?lE).length=?xk from qa3 ..];have hDp:(?yj) D=?dR:=?ys;(have yl:ys.length<=j:=by rw[hys,qa3];exact Ez ..);apply ?jA;{(have h3:?yU:=?bn);apply#[_,?g,hDp,?b2,?i,(?kn).turn hD,Ab,?_,_,_,?g];rw[e9 h3,qb0,hys];rfl};(have h3:¬?yU:=?bn);apply#[?i,?kn,hDp,?_,_,_,?g];rw[EE h3];exact hys};rintro ys τ H1 ⟨_,s1,Dt,hys,_⟩;rw[Bs7]at hys;apply k D H1 hD s1 ?_;rw[Dt,hys];rfl
noncomputable abbrev Gp:Stmt:=top 37
def Qh:?Fp ?jD ?jD Gp:=Bg
def Qt[?H](F:?Fi ?i0 ?i0 Gp)[?G][?rh]:?Fe 2 ?jD ?C0:=by apply ?G0 Qh;let#[a,n,f,?g,hq,hn,k]:=h;apply#[_,(?MW (O8 ?Dd (O8 (Mp Er ?oc ?F ?M) (?Ls Qq (?MJ ?kk ?vd))))),?_];apply(?IQ (dL n f) (uR hq));apply ?Hi (by simp[pK,dL]);apply#[_,?g,a,_,?g,?dh,_,?g,?g,_,?g,?_];apply ?Hi (isI ?o0);ext rl;let B63:?a2:=?Ji ?u2 ?d5;apply C5 (K:=K) (a:=a) (xs:=VI n f) B63 ?cT ?zs ?_ ?_;{rintro i x ys τ H1 hx Dc;revert τ;apply ?ar;intro s1 Dt hz1 o Ei;subst hz1;let ?CJ:=Xh hx;apply#[_,?g,_,?jn,?g,?g,Dt,?oI,?r0,Ab,?_,_,?g];rw[qw4,qb0];rfl};ext rn;apply#[D,?Av,?g,?o8,?_];rw[?Hr ?Av];exact ?fa
noncomputable abbrev Wr:Stmt:=top 39
def jS:?Fp ?df ?df Wr:=Bg
def KC[?H](F:?Fi ?ju ?ju Wr)[?G](fC:?Fj ?yy [?aq,"j"] cD):?Fe 2 ?df ?Dn:=by apply ?G0 jS;let ?AO:=h;apply(?Lq (B6 (N':=["j",?aq]) (cap:=?Dj) ?n ?X ?yp (?Fh (?J6 0 Aj9)) ?aC (?Fh (?JB fC ?Aq))));ext rk;let B62:?a2:=?JK (?IM h (λi j=>f j i)) [o,?aX];apply J9 B62 ?fi ?_ ?_;{rintro i ys τ H1 hi ⟨as,hal,rfl,R,o,rfl⟩;have hi2:i<w:=O9m;apply#[_,?g,_,?g,v,h,w,i,f,?xf,?vM,hh,hi2,?nt];exact ?lk};ext rY
noncomputable abbrev jT:Stmt:=top 41
def wM:?Fp ?kS ?kS jT:=Bg
def XH[?H](F:?Fi ?hl ?hl jT)[?G](z6:?Fj ?EF [?pn,"i"] Zt):?Fe 2 ?kS ?AT:=by apply ?G0 wM;let#[n,?g,hn,k]:=h;apply(?Lq (B6 (N':=["i",?pn]) (cap:=?Dj) ?n ?X (?GI ?b8) (?Fh (?J6 0 Aj7)) ?aC (?Fh (?JB z6 ?Aq))));ext rk;let B61:?a2:=?JK (?IM n ?q0) [o,?fD];apply J9 B61 ?fi ?_ ?_;{rintro i ys τ H1 hi ⟨as,hal,rfl,R,o,rfl⟩;apply#[_,?g,_,?g,n,i,?xf,hn,?nt];exact ?lk};ext rY
noncomputable abbrev Ow:Stmt:=top 43
def Gx:?Fp [?eZ,?aq,?al,?bu,?aY,?e7] ?pO Ow:=Bg
def BD[?H](F:?Fi ?kt ?kt Ow)[?G][?rc]:?Fe 2 ?pO ?DS:=by apply ?G0 Gx;let#[x,v,h,w,a,f,?g,hx,hv,hh,hw,hm,k]:=h;let(?Ho tb hq Pg):=?gY;apply(?Lr (?Fg 3 ?ix (Bh jY ?pr ?A)) (?MY (Cb qb8 ?g (?Hd EF ?qD ?bj) (?Ff 4 ?ix (?J6 5 ?ix)) (Ai (?Fg 3 ?ix (?ML Ji (?J5 Ak ?L ?A0))))) ?L));ext Q;apply ?Fd (Ec λT=>Bw (?Ku σ' none none) ?x0 ?a6 (?LB T (VI w ?A3)));{apply#[?a7,λl0 hl0=>?_];have s0:?KR (?m H l0 ?ht):=?x hl0;apply#[_,?g,l0,_,_,?g,?g,Ab,?i,?i,?mC,?p9];apply ?Fl #[T,?g,?fk hT,?k6 ?oj,?_];rw[Ab,qe0,Aq3]};apply Nu λT0 H1 hT0 s1 hT1=>?_;intro sq;apply#[_,?g,_,?g,x,tb,?g,#[_,?cg hx],#[_,?mg],?_];apply yE (K:=K) (a:=x) (b:=tb) (xs:=VI h a) (ys:=us) (n:=h) (by rw[Bv,y3,qv7]) (λi σ H2=>Op λT o1 o2=>Bw (?Ku σ o1 o2) ?x0 ?cl (?HZ T (VI w λj=>sumN (λk=>a k*f k j) i))) #[T0,?p,?p,?g,hT0,s1,hT1] (λi σ H2 _ hz=>by let#[_,_,_,_,_,s2,_]:=hz;exact#[?em hx,?em hq]) ?_ ?_;{rintro i u v σ H2 pr hu hv Dc hp;revert σ;apply ?iU;intro T o1 o2 hT s2 hT2 Ei;let ?CJ:=Xh hu;let ?Bt:=Pg i _ hv;have sp:?Jw (?GA H2 pr [?o (a i),?iS]):=?dG;apply ?CG;apply#[_,?g,_,?g,_,?g,1,a i,T,b,w,_,?bf,?g,?Fo sp hT2,(?o2).seq hb,?i,λj hj=>#[?pR,hm i j hi hj],λD H3 hD s3 cX=>?_];apply#[D,_,_,?g,(?o2).free hD,?GE ?o2 s3,?_];rw[cX];congr 2;apply Ri ?up;show 1*_+_=sumN _ i+_;rw[qd8]};ext lJ;apply ?iU;intro T o1 o2 hT s2 hT2 Ei;exact#[_,?g,k T H2 hT s2 hT2]
noncomputable abbrev Qk:Stmt:=top 47
def Ou:?Fp [?b4,?pH,?aY,"i","face"] ?nr Qk:=Bg
def EI[?H](F:?Fi ?kg ?kg Qk)[?G][?FJ]:?Fe 2 ?nr ?Bv:=by apply ?G0 Ou;let#[a,v,ms,fs,n,?g,ha,hv,hm,kq]:=h;let#[af,?g,sq]:=?dc hv;apply(?MM (Cb qb8 ?g (?Hd sI ?px ?aU) (?Ff 3 Ou.nd (?J6 4 Ou.nd)) (Ai (Bt (?JB Ry (Aa ?y (?Lu ?W (f7 (?Fz Er (Bh Fq ?L Ak)) ?A (N7 Iy ?A)))))))));let B60:?aM:=λi σ H1=>∃o1 o2,σ=?zY/\S5 a H H1/\?Fv H1 a ?t5;apply#[_,?g,af,?g,#[_,sq],qA (K:=K) (a:=af) (xs:=?hj) B60 #[?p,?p,?g,λ_ _ _ e=>e,ha] (λi σ H1 _ #[_,_,_,s1,_]=>SqT.x s1 ha sq) ?_ ?_];{rintro i x σ H1 p hx Dc hp;ext f;apply ex2 ?_ Dc;clear Dc;intro o1 o2 Dc;apply B21 ?_ Dc;clear Dc;rintro rfl s1 ha1;(have hi:i<fs.length:=?ex);(have hxv:x=?k9:=?pC);subst hxv;have sp:?KF ?si:=?dG;have ha2:=?HW ha1;have hl:=W1 ms fs n i;apply ?fG;(have fin:∀m,m=GS n i->Ro K [?cf,?k9,?o m] ?si (λv H'=>∃o1 o2,([?w,rS af,?fD,?dE,?h ?k9]:St)=?zY/\S5 a H H'/\?Fv H' a (Hy ms fs n ?aG)) E0:=by intro m hm2;subst hm2;apply#[a,?t5,_,_,?g,ha2,?i,_,_,?g,λc q n1 e=>?_,Ab];rw[?gN];exact ?HW (s1 c q n1 e));apply#[_,?g,_,?g,_,?g,_,_,?g,?g,?Cw,?g,_,?g,?_];apply ?b0;{(have h2:?aO%2=0:=?aI);exact#[_,?g,?I8 n ?aj]};(have h2:¬?aO%2=0:=?aI);exact#[_,?g,_,?g,?I8 (-n) ?aR]};rintro σ H1 ⟨o1,o2,rfl,s1,ha1⟩;rw[qa3]at ha1;exact kq H1 s1 ha1
noncomputable abbrev Z7:Stmt:=top 53
def Wj:?Fp [?j2,?bG,?bu,"i"] ?oq Z7:=Bg
def OU[?H](F:?Fi ?jE ?jE Z7)[?G][?rc]:?Fe 2 ?oq ?yV:=by apply ?G0 Wj;let#[r,u,as,n,W,f,t,?g,x,hu,hm,hn,hW,k]:=h;have hq:SqL K H r ?bz:=?k x.2.1;apply#[_,(Ae (?Fg 2 Wj.nd ?qT) (Ae (?Fg 3 Wj.nd ?gn) (Ae (Cc ?yC (?MB (?MJ (Bz (K:=K) ?g9) (N7 Iy ?y)) ?mT) (Ai (Cc ?yC (Ae (Kj ?sW ?mT) (?MB ?g9 (Kk ?A ?gn Fu))) (?MB (?Fk Ji Ak (?J5 ?g9 ?gn (?L9 ?sW))) ?mT)))) ?er))),?_];ext Q;apply#[_,?g,r,?bz,?g,?dh,λL hL=>?_];have sL:?KR ?yF:=?x hL;generalize hHL:?yF=HL at sL;(have hLL:HL L=?h ?pj:=by rw[←hHL];exact Ab);have hqL:SqL K HL r ?bz:=?l4 hq;(have fin:∀(i:Nat) (D:Addr) (H1:Hp),i<n->HL D=none->?Ey->?ME H1 D (VI W (wC t f i))->(∀r,r≠i->wC t f r=f r)->H1 L=?h ?pj/\Q ?ls ?vC:=by intro i D H1 hi hD s1 h1 he;(have nDL:D≠L:=λz=>by rw[z,hLL]at hD;cases hD);apply#[?KV hLL,?_];have s2:?KR ?vC:=(sL.trans s1).turn hL;apply k L (as.set i D) _ hL s2 (x.made s2 hi Ab (by rw[Al nDL];exact h1) he) ?bO;rcases qp2 ha with ha | rfl;{exact#[?mG,λz=>x.there.2 a ha (z▸hL)]};exact#[?O (sL.free hD),nDL]);cases t with| sw i j=>exact hm.elim| mi i =>have hi:i<n:=hm;let ?DM:=hu;let ?ua:=rT;have hT1:SqT K HL ta [V.str "minus",?J i]:=?vF;let#[b,_,eb,_,hb]:=?AE;apply ?Az;ext rd;apply ?Hi ?bH;apply#[_,?g,_,?g,r,_,_,_,?g,?g,hqL,Bj eb,b,?g,#[_,?D9],?aP];let B59:?a2:=λc ys τ H1=>Bw ?Ey ?f7 (ys=VI c (λc=>-(f i c))) ?d5;apply C5 (K:=K) (a:=b) (xs:=VI W ?bf) B59 ?cT (λc ys τ H1 _ hz=>?JY ?jC ?cg ?D9) ?_ ?_;{rintro c y ys τ H1 hx Dc;revert τ;apply ?ar;intro s1 Dt hz1 o Ei;subst hz1;let#[hc,?g]:=Xh hx;apply#[_,?g,_,?g,Dt,?b5 ?iB,?r0,Ab,?_,_,?g];rw[Vz]};ext rn;rw[Bv]at Dt;ext F2| ad i j m =>let#[hi,hj,hij,hm]:=hm;let ?DM:=hu;let ?wL:=rT;have hT1:SqT K HL ta [V.str "add",?J i,?J j,?J m]:=?vF;let#[bi,_,ebi,_,hbi]:=?AE;let#[bj,_,ebj,_,hbj]:=?Fw x.row hj;apply ?Az;ext rd;apply ?tJ;ext rd;apply ?tJ;apply#[_,?g,_,?g,r,_,_,_,?g,?g,hqL,Bj ebi,_,?g,ta,_,_,_,?g,?g,hT1,?g,_,?g,_,?g,ta,_,_,_,?g,?g,hT1,?g,r,_,_,_,?g,?g,hqL,Bj ebj,?_];apply#[1,m,bi,bj,W,?bf,?cJ,?g,?l4 hbi,?l4 hbj,hW,?Kw #[?pR,hm c hc],?xa];ext F2
noncomputable abbrev Fw:Stmt:=Eo ?xr 2
def Dv:?E [?aH,"i","j",?dU,?cS,?eo,"a","b","c","d",?e7,"back"] ?e5 ?xZ:=Bg
def Qw[?H](F:?Fi ?dI ?lq Fw)[?G](Hh:?Fj ?BC ?kr Xv)[?rc]:?Fe 2 ?e5 ?gU:=by apply ?G0 Dv;let#[p,C,r,b,sv,n,W,i,j,A,B,s,N,?g,hC,x,hi,hj,hij,hn,hW,hA,hB,lA,lB,bo,k]:=h;ext F7;let ?B0:=x.refs;have rb:=x.ne;ext F3;apply#[_,(Ae (?Fg 5 ?dX (?JB Hh ?kM)) (Ae (?Fg 6 ?dX ?dO) (Ae (?Fg 7 ?dX ?dO) (Ae (?Fg 8 ?dX (?Kz ?W)) (Ae (?Fg 9 ?dX ?vB) (Ae (?Fg 10 ?dX ?ce) (Ae (?M0 ?aW ?cW ?od) (Ae (?M0 ?br ?bD ?pT) (Ae (?Fg 11 ?dX ?ce) (Ae (?LV ?bD (N7 Iy ?br) ?od) (Ae (?LV (N7 Iy ?cW) ?aW ?pT) ?DW))))))))))),?_];ext Q;apply ?Fd (S8 λ(L:Addr) (g a c:Int)=>Bw (σ'=[?I,?bm,iS j,iS A,iS B,?c6,none,none,none,none,none,none]) ?a6 (?L4 L ?CO) (?mZ A B g a c));{exact#[_,?g,_,?g,A,B,?g,hA,hB,lA,lB,λL g a c H1 s1 hL sh=>?Fl #[L,g,a,c,?g,s1,hL,sh]]};apply Aw6 λL g a c H1 s1 hL sh=>?_;intro sq;have g0:=sh.pos;have lg:?wF:=qc5 ?DA lA;ext FZ;have la:a.natAbs<L9:=qc5 sh.la lB;have lc:c.natAbs<L9:=qc5 sh.lb lA;have eB:B.fdiv g=?qw:=?q7;have eA:A.fdiv g=?bL:=?q7;have lz':?Hm ?qw:=?IW lB;(have lz:?Hm ?d7:=by rw[qd3];exact lz');have lu:?Hm ?bL:=?IW lA;have hp1:=?gf;have hr1:=?KV ?fz;let#[ci,_,rC,mci,pV]:=?dt;let#[cj,_,ecj,mcj,hcj]:=?Fw ?h8 hj;let#[di,_,edi,mdi,hdi]:=?uq;let#[dj,_,edj,mdj,hdj]:=?Fw xb.row hj;have mk:∀{u:Int}{k c U:Nat}{f:Lat.Mat},u.natAbs<L9->Lat.Bits n U big f->k<n->c<U->IntMulOk u (f k c):=λh1 h2 h3 h4=>KH h1 (h2 _ _ h3 h4);apply ?uN;apply ?uN;apply#[_,?g,_,?g,L,_,_,_,?g,?g,hL,?g,_,_,?g,?g,cb _,_,?g,?_];apply#[_,?g,_,?g,L,_,_,_,?g,?g,hL,?g,_,_,?g,?g,cb _,?_];apply#[_,?g,p,C,dx,fs,_,?g,hp1,?ap,?db,l1,_,?g,r,_,_,_,?g,?g,?k hr1,?fl,?_];apply ?JJ (?rL/\H1=H') (λkey=>?Fl #[by rw[←eA,←eB];rfl,?g]);ext bQ;apply ?Fd (Ec λD1=>Mb ?rL (?KX H1) (Kp H1 H') (H1 D1=none) (?eR=H1 b) (?LB r ?C9) (?LB D1 (?M4 a c)));{apply#[_,?g,_,?g,_,?g,_,?g,p,C,dx,fs,_,?g,hp1,?ap,?db,l1,_,?g,r,_,_,_,?g,?g,?k hr1,Bj ecj,?_];apply#[a,c,ci,cj,W,?fQ,?l7,?g,?cg pV,?cg hcj,hW,?HD la lc,λD1 H2 Dt s2 h2=>?_];(have nD:D1≠r:=λz=>by rw[z,hr1]at Dt;cases Dt);apply#[_,?g,p,C,dx,fs,_,?g,?xL,?ap,?db,l1,_,?g,r,_,_,i,?g,?g,?GY hr1,Js ?hF,?_];exact ?Fl #[D1,?g,(?fr s2).l,?JR s2,Dt,by rw[Al rb.symm,s2 _ _ ?ds,?ds],Ab,by rw[?kZ];exact h2]};apply LU λD1 H3 vW kp3 n1 b3 r3 d3=>?_;intro sq;have hp3:=?Kn vW hp1;have kr:?HP as:=?Gm na na;have kb:?HP bs:=?Gm nb nb;have qr:∀{G:Hp}{k:Nat}{c:Addr},?pa->c∈as->SqL K H c ?yT->as[k]?=?h c->SqL K G c ?yT:=λfr hc _ e=>?k (kr fr hc _ (xa.2.2 _ _ e));(have rci:?Km as ci:=by rw[qa7]at rC;let ?kd:=?fh rC;cases e2;exact e1);(have rcj:?IG as cj:=by rw[qa7]at ecj;let ?kd:=?fh ecj;cases e2;exact e1);(have rdi:?Km bs di:=by rw[qa7]at edi;let ?kd:=?fh edi;cases e2;exact e1);(have rdj:?IG bs dj:=by rw[qa7]at edj;let ?kd:=?fh edj;cases e2;exact e1);(have D1r:D1≠r:=λz=>by rw[z,hr1]at n1;cases n1);(have D1b:D1≠b:=λz=>by rw[z,?ds]at n1;cases n1);apply ?Fd (Ec λD2=>Mb ?rL (?KX H3) ?sn (?Jv D2) (?eR=H3 b) (?LB r ((?C9).set j ?d0)) (?LB D2 (?M4 ?d7 ?bL)));{apply#[_,?g,_,?g,_,?g,_,?g,p,C,dx,fs,_,?g,hp3,?ap,?db,l1,_,?g,r,_,_,_,?g,?g,?k r3,Bj (by rw[qm6 hij];exact ecj),?_];apply#[?d7,?bL,ci,cj,W,?fQ,?l7,?g,qr vW mci pV rci,qr vW mcj hcj rcj,hW,?HD lz lu,λD2 H4 L4 s4 h4=>?_];(have nD:D2≠r:=λz=>by rw[z,r3]at L4;cases L4);apply#[_,?g,p,C,dx,fs,_,?g,?mP,?ap,?db,l1,_,?g,r,_,_,j,?g,?g,?Gl r3,Js (by rw[qi4,qa3,?de];exact hj),?_];apply ?Fl #[D2,?g,(?fr s4).l,?JR s4,L4,?_,Ab,by rw[?kZ];exact h4];(have e3:H3 b=?nc:=by rw[b3];exact ?ds);rw[Al rb.symm,?Gl e3,e3]};apply LU λD2 H5 fr5 kp5 n2 b5 r5 d5=>?_;intro sq;(have e5:H5 b=?nc:=by rw[b5,b3];exact ?ds);have Ao5:=vW.trans fr5;have II:=?Kn fr5 hp3;(have D2r:D2≠r:=λz=>by rw[z,r3]at n2;cases n2);(have D2b:D2≠b:=λz=>by rw[z,b3,?ds]at n2;cases n2);apply#[_,?g,p,C,dx,fs,_,?g,II,?ap,?dZ,l2,_,?g,b,_,_,_,?g,?g,?k e5,Bj edi,?_];apply ?JJ (?p2/\H5=H') ?BA;ext bQ;apply ?Fd (Ec λD3=>Mb ?p2 (?KX H5) (Kp H5 H') (H5 D3=none) (H' r=H5 r) (?Lk ?tx) (?LB D3 (VI n λk=>?bL*s.2 i k+?iq*s.2 j k)));{apply#[_,?g,_,?g,_,?g,_,?g,_,?g,p,C,dx,fs,_,?g,II,?ap,?dZ,l2,_,?g,b,_,_,_,?g,?g,?k e5,Bj edj,?_];apply#[?bL,?iq,di,dj,n,s.2 i,s.2 j,?g,?Ir Ao5,?Iq Ao5,hn,?H4 lu (by rw[qd3];exact lz),λD3 H6 cX s6 h6=>?_];(have nD:D3≠b:=λz=>by rw[z,e5]at cX;cases cX);apply#[_,?g,p,C,dx,fs,_,?g,(?Kr II),?ap,?dZ,l2,_,?g,b,_,_,i,?g,?g,?Kr e5,Js ?ka,?_];exact ?Fl #[D3,?g,(?fr s6).r,?JR s6,cX,by rw[Al rb,?Kr r5,r5],Ab,by rw[?kZ];exact h6]};apply LU λD3 H7 fr7 kp7 n3 r7 b7 d7=>?_;intro sq;have Ao4:=Ao5.trans fr7;have hp7:=?Kn fr7 II;(have D3r:D3≠r:=λz=>by rw[z,r5]at n3;cases n3);(have D3b:D3≠b:=λz=>by rw[z,e5]at n3;cases n3);apply ?Fd (Ec λD4=>Mb ?p2 (?KX H7) (Kp H7 H') (H7 D4=none) (H' r=H7 r) (?Lk ((?tx).set j (?u D4))) (?LB D4 (VI n λk=>-c*s.2 i k+a*s.2 j k)));{apply#[_,?g,_,?g,_,?g,_,?g,_,?g,p,C,dx,fs,_,?g,hp7,?ap,?dZ,l2,_,?g,b,_,_,_,?g,?g,?k b7,Bj (by rw[qm6 hij];exact edj),?_];apply#[-c,a,di,dj,n,s.2 i,s.2 j,?g,?Ir Ao4,?Iq Ao4,hn,?H4 (by rw[qd3];exact lc) la,λD4 H8 KQ s8 h8=>?_];(have nD:D4≠b:=λz=>by rw[z,b7]at KQ;cases KQ);apply#[_,?g,p,C,dx,fs,_,?g,(s8 _ _ hp7),?ap,?dZ,l2,_,?g,b,_,_,j,?g,?g,s8 _ _ b7,Js (by rw[qi4,qa3,xb.1];exact hj),?_];apply ?Fl #[D4,?g,(?fr s8).r,?JR s8,KQ,?_,Ab,by rw[?kZ];exact h8];have e7:=r7.trans r5;rw[Al rb,s8 _ _ e7,e7]};apply LU λD4 H9 fr9 kp9 n4 r9 b9 d9=>?_;intro sq;have PZ:=Ao4.trans fr9;(have D4r:D4≠r:=λz=>by rw[z,r7,r5]at n4;cases n4);(have D4b:D4≠b:=λz=>by rw[z,b7]at n4;cases n4);have k19:Kp H1 H9:=(?G1 kp3.trans kp5 kp7).trans kp9;have u1:?JO D1:=?hh n1;(have DT:∀{G:Hp}{D:Addr},Kp H G->G D=none->?dT:=λkp e=>by cases z:H _ with| none=>rfl| some o=>exact ?fu e (kp _ (by rw[z];exact λq=>by cases q)));have k01:Kp H H1:=?e2 s1;have u2:?zw:=DT ?Cm n2;have u3:?JO D3:=DT ?sU n3;have u4:?JO D4:=DT (?GE ?sU kp7) n4;ext FR;(have hL9:SqT K H9 L ?CO:=by rcases hL with h | h;{exact ?v (by (have hLr:L≠r:=λz=>by rw[z]at h;rcases h with h|⟨_,h⟩<;>rw[hr1]at h<;>cases h);(have hLb:L≠b:=λz=>by rw[z]at h;rcases h with h|⟨_,h⟩<;>rw[?ds]at h<;>cases h);rcases h with h|⟨q,h⟩;{exact ?v ?s4};exact ?O #[q,?s4])};exact ?O h);apply#[_,?g,k L g a c H9 (?G1 ?fr s1 PZ) ?vn hL9 sh #[(?HK (?Kn PZ hp1)),#[_,xa.two (D1:=D1) (D2:=D2) hi hj hij ?_ (?Hh (kr PZ ha)) ?_ ?_ ?_,?bO],#[_,xb.two hi hj hij b9 (?Hh (kb PZ ha)) ?_ ?_ ?_,?bO],rb,x.nr,x.nb,?Im (x.nn a ha (DT ?vn z))]];{rw[r9,r7,r5]};{show ?Gq D1 i;rw[Lat.blend_row_p hij];exact(fr9 _ _ D1r D1b (fr7 _ _ D1r D1b (fr5 _ _ D1r D1b d3)))};{show ?Gq D2 j;rw[Lat.blend_row_q];exact(fr9 _ _ D2r D2b (fr7 _ _ D2r D2b d5))};ext FT;{rcases mQ ha with ha | rfl | rfl;{exact ?qu};{exact#[D1r,D1b,nN _ u1]};exact#[D2r,D2b,nN _ u2]};{show ?Gf D3 i;rw[Lat.blend_row_p hij];exact fr9 _ _ D3r D3b d7};{show ?Gf D4 j;rw[Lat.blend_row_q];exact d9};ext FT;rcases mQ ha with ha | rfl | rfl;{exact ?j8};{exact#[D3r,D3b,nN _ u3]};exact#[D4r,D4b,nN _ u4]
noncomputable abbrev Kh:Stmt:=Eo ?gv 0
def Wk:?Fp ?cX ?cX Kh:=Bg
def Wv[?H](F:?Fi ?bY ?w1 Kh)[?G](y9:?HX P):?Fe 2 ?cX ?y2:=by apply ?G0 Wk;let#[p,dx,r,b,?g,hp,k]:=h;apply(?Lr (Bt (xE y9 hr ?n ?hu ?ts)) ?EX);ext Q;apply#[_,?g,_,?g,_,?g,p,dx,Af,r,b,?g,?go,hp,λH1 fs hfs hH1=>?_];(have hp1:H1 p=?h (?Gi Af fs):=by rw[hH1];exact Ab);(have s1:?La H H1:=by rw[hH1];ext FX);(have hl:?I3 2:=by rw[hfs];exact ?zP);apply#[?ae,?aP];have hDp:p≠D:=Aq hp1 hD;apply#[_,?g,p,Af,dx,fs,?g,by rw[Al hDp];exact hp1,?T,?cA,?i,?_];apply k D _ _ ?_ (by rw[hfs]) (?bX (?bP (?bl ?bC))) (?Kt ?CN) Ab;cases z:H D with| none=>rfl| some o=>rw[s1 _ _ ?CN z]at hD;cases hD
noncomputable abbrev b6:Stmt:=top 79
def Wl:?Fp [?oB,?os,?dL,?Au,?q1] ?rA b6:=Bg
def oX[?H](F:?Fi ?iR ?iR b6)[?G](Hq:?Fj ?Al [?Au] Xt):?Fe 2 ?rA ?sz:=by apply ?G0 Wl;let#[a,b,n,ms,ns,?g,ha,hb,hm,hn,lm,ln,hmul,kq]:=h;ext eI;apply(?Lr (?Fg 3 Wl.nd ?DP) (Ae (Ty (Cb qb8 ?g (eG ?A) (?J6 4 Wl.nd) (Ai (Y5 ?et ?L ?W (Bh Df (Qr ?et ?L ?W Ak ?sD) (Bh K3 ?F (Y6 ?et ?A ?W ?K))) ?n)))) (?LA (?JB Hq ?dC))));ext Q;apply ?Fd (?Le (σ'=[?w,?fD,?a3,?aA,none]) (?cL=?h ?ui));{exact#[_,?g,a,_,?g,?mG,?Af]};apply Nu ?xa;intro sq;have CI:b≠D:=?tZ;have hb1:=?eV;apply ?Fd (Ec λo4=>Fm (σ'=?B6) ?a6 (?cL=?JI (cN ms n ns ?e1)));{apply ?Gr ?e3 hb1;apply ?Bw;let B58:?aM:=?Jl (Ec λo4=>Bw (σ=?B6) (G b=?HT ?e3) (?Fv G D ?jK) ((?H8 b ?tb ?o6)));apply ?LP ?e3 B58 #[?p,?g,Ab,?zU,λc q n1 n2 e=>?of];{rintro i kk x σ G hx Dc;ext f;revert σ;apply ?lD;intro o4 W4 Ea pO Ei;let ?f6:=?dz;have hi:=?i9;(have hqd:?j9=q:=?EU);have hat:Cr ns q.1=?h q.2:=F9 hn ?dV;have lz:=kM ms n ns i;apply#[_,?g,D,?g,?v #[_,?Ab],_,?g,_,Zc ?Ab,_,?g,_,?g,_,?g,b,?o q.2,?g,?Bp,n,q.2,?g,?g,hmul q ?dV,Av ?jK q.1,n*q.2,Zh _ _,?g,_,?g,_,?g,D,_,?g,Zb Ea ?i,?_];apply#[_,?g,?_,?_,?lZ];{rw[?ha];exact W4};{rw[Ab];show ?Kx (putI ?jK (?j9).1 (Av ?jK (?j9).1+n*(?j9).2));rw[hqd]};rw[?g2];exact ?u7};rintro σ G Dc;revert σ;apply ?lD;intro o4 W4 Ea pO Ei;rw[Ks]at Ea;apply#[W4,?Fl #[o4,?g,?pe,?BN]];by_cases z:c=b;{subst z;rw[hb]at e;cases e;exact Ab};rw[?dN];exact pO c q z ?pN ?ep};apply Sm λo4 G sG Ea=>?_;intro sq;have lz:=kM ms n ns ?e1;exact#[_,?g,D,_,?g,Ea,?i,λD2 H2 n2 s2 e2=>kq D2 H2 (sG.free n2) (?tS s2) e2]
noncomputable abbrev Lp:Stmt:=top 84
def Ce:?Fp [?ga,?fw,?dW,"_law_layer","_law_rows",?fB,"_law_below",?oB,?qL,?vR] ?mL Lp:=Bg
def Yl[?H](F:?Fi ?iF ?iF Lp)[?G][?FE]:?Fe 2 ?mL ?B9:=by apply ?G0 Ce;let#[l,us,v,ws,w,fam,?g,hl,hr0,hv,hw,hlen,k]:=h;ext eI;(have s0w:∀u∈[w],?tk:=λu hu=>by (have e:u=w:=by simpa using hu);subst e;exact hw);apply#[_,(Ae (?Fg 3 ?cG (Fp ?aU)) (Ae (?Fg 4 ?cG ?dJ) (Ae (Cb qb8 ?g ?tP (?J6 5 ?cG) (Ae (?Fg 4 ?cG (Bh ?di ?L ?W)) (Ae (?Fg 6 ?cG ?dJ) (Ae (Cb qb8 ?g ?tU ?Ac (Ai (Cb qb8 ?g (?Fw Bz (?JB Hw ?yH)) (?J6 8 ?cG) (?Lt (?Jy (?LY ?br ?y) (?LY ?br ?aW)) (Ai (?Fr ?aW ?Dx)))))) (?JH 3 ?cG ?aW))))) (Ae (?Fg 9 ?cG ?qT) (?MY (Cb qb8 ?g ?CL ?Ac (?Lt (?LY ?cW ?bD) (Ai (?Fr ?bD ?cB)))) ?bD))))),?_];ext Q;apply(?It (λL0 hL0=>?_));have s1:?KR ?nU:=?x hL0;apply#[?ae,λR0 hR0=>?_];have s2:?l ?nU (?m ?nU R0 ?e8):=?x hR0;apply#[_,?g,?z,?z,Ck (lo:=0) (n:=(4:Int).toNat) (λi σ H2=>lS λ(L R:Addr) (lu ru:?bJ) (?hV rows:LLInt) ?m7=>NY (?H9 o9) ?cl (?HZ L lu) (?J0 lu ?nW) (?HZ R ru) (?J0 ru ?Dc) ((∀u∈layer,?tk)) (Pc ws fam (4-i) ?hV rows=?ED) (layer.length<=4 ^ i) (rows.length<=1000*i)) #[L0,R0,[v],[],[w],[],?p,?p,?p,?p,?p,?g,?cN,?GY Ab,Reps.one (?g1 ?cN hv),Ab,?g,s0w,?g,?au,?au] ?_ ?_];{rintro i σ H2 hi Dc;ext f;revert σ;apply tV ?_;intro L R lu ru layer rows o5 o6 o7 o8 o9 sH hL rL hR rR hWl hlay VU hrl Ei;(have hi4:i<4:=by simpa using hi);(have h4i:4 ^ i<=64:=by have:i=0\/i=1\/i=2\/i=3:=O9m;rcases this with rfl | rfl | rfl | rfl<;>decide);(have lul:lu.length=layer.length:=by have:=rL.length;ext Z);(ext F9);apply#[_,?g,_,?g,L,R,_,_,?g,?g,?k hL,?k hR,Br ?i,λR1 hR1=>?_];have sa:?Jw ?cp:=?x hR1;have Bx9:(?cp) R1=?h ?CR:=Ab;(have rRa:?Lc ?cp ?nd ?Eo:=by rw[qb0];exact(?uS).append (?a0 sa rR));have hLa:=sa _ _ hL;have rLa:?ad K ?cp lu ?nW:=?uS;have sHa:?KR ?cp:=?nF sa;apply#[?ae,?DO];have sb:?l ?cp (?m ?cp B ?e8):=?x hB;have hBH:?vG:=sHa.free hB;apply#[_,?g,L,?g,#[_,?Fo sb hLa],?cR (K:=K) (a:=L) (xs:=lu) (λj σ H3=>Op λ ?mb (o7 o8:?ak)=>Bw (?Jf o7) (?l ?cp H3) (H3 B=?r7) (?Lc H3 bu ?fp)) #[[],_,_,?g,sb,Ab,?g] (λj σ H3 _ hz=>?JV ?wX s3 hLa) ?_ ?_];{rintro j x σ H3 hx Dc;ext f;revert σ;apply ?iU;intro bu o7 o8 s3 hB3 rB Ei;have hj:j<lu.length:=?dk;have hjl:j<layer.length:=O9m;(have hjx:?IG ?nW (tI ?ge):=?C5);let ?jZ:=rLa.get hjx;rw[hx]at hx';cases hx';have hwj:F5 fam ?ge:=hWl _ ?z8;apply#[_,?g,_,?g,x,?ge,fam,?g,?EZ,hwj,λp fu H4 hp s4 P3 r4=>?_];have fl:=Lc hwj;(have ful:fu.length=?ow:=by have:=r4.length;ext Z);(have hpB:p≠B:=λz=>by rw[z,hB3]at hp;cases hp);have hB4:=?Gl hB3;apply#[p,?g,#[_,?n5],?cR (K:=K) (a:=p) (xs:=fu) (λm σ H5=>Kc λ ?mb (o8:?ak)=>Da (?Jf (?h x)) (?ag B H4 H5) (H5 B=?r7) (?ad K H5 bu ?uZ) (?ud<=1000)) #[bu,_,?g,?nb,hB4,(by simpa[Do]using ?a0 s4 rB),?_] (λm σ H5 _ hz=>by let(?J2 s5):=hz;exact ?k (s5 _ _ hpB P3)) ?_ ?_];{have:=?s8;simp only[List.take_zero,Do,qi5,qb9]at this ⊢;ext d};{rintro m y σ H5 hy Dc;ext f;revert σ;apply ?hc;intro bu5 o8' s5 zZ WT Bw5 Ei;have hm:?DJ:=?oC;have hmf:m<?ow:=O9m;(have hmy:(?Hf ?es)[m]?=?h (tI ?es[m]):=?tW);let ?ye:=r4.get hmy;rw[hy]at hy';cases hy';generalize hf:?es[m]=fc at ty;have ty5:TI K H5 y fc:=TI.t ?xI ty;(have hl5:H5 l=?d9:=by apply s5 l _ ?l0 (?Gl (?K1 (sHa _ _ hl)));rw[z]at hl;rw[hl]at hBH;cases hBH);have rl5:?Jd H5 l ?Ck:=#[l,us,?g,?k hl5,Reps.t ?xI (v9 ws) (?a0 (?G1 sHa.trans s3 s4) hr0)];have rb5:?Jd H5 B (?t ?uZ):=#[B,bu5,?g,?k zZ,WT];(have e0:?Ec=(if fc ∉ ws/\fc ∉ ?fb then ?fb++[fc] else ?fb):=by rw[qe1,?qR,hf];exact Yb _ _ _ _);(have Bw4:bu5.length=?ud:=by have:=WT.length;ext Z);(have uB:?Ga ?Ec:=by have h1:=Uh (ws:=ws) ?wl ?fp;have h2:=?s8;simp only[qi5,qb9]at h1 h2;(have h3:?ow<=4:=by have:=fl.1;have:=fl.2;split at*<;> ext d);ext d);generalize hacc:?fb=acc at WT rb5 e0 Bw4 Bw5;apply#[_,?g,_,?g,tI fc,?gq,ty5,?v rl5,?A5,_,?g,?_];by_cases h1:fc∈ws;{apply ?Cp;apply ?fv;apply ?w0;rw[e0,?aR (by simp[h1])];exact WT};apply ?uG;apply(?HU ty5 rb5);by_cases h2:?u1;{apply ?HY ?y6;apply ?w0;rw[e0,?aR (by simp[h2])];exact WT};apply ?Hi ?y6;apply(?K9 zZ B zZ);apply#[_,_,?g,s5.upd,Ab,?_,uB];rw[e0,?aj #[h1,h2]];exact K0 zZ WT ty5};rintro σ H5 Dc;revert σ;apply ?hc;intro bu5 o8' s5 zZ WT _ Ei;apply#[bu5,_,_,?g,?_,zZ,?_];{exact s5.same ?fm hB};rw[ful,qc8]at WT;rw[qe1,?n8];have e1:?K4 (?nM++(?h ?ge).toList)=Do ws ?fp ?es:=aM _ _ _ _ _;rw[e1];exact WT};rintro σ H3 Dc;revert σ;apply ?iU;intro bu o7 o8 s3 hB3 rB Ei;rw[lul,qc8]at rB;apply ?bZ;apply#[B,R1,bu,?nd,?K4 ?hV,?Eo,_,_,_,_,_,?g,sHa.trans s3,hB3,rB,?K1 Bx9,?a0 s3 rRa,?_,?_,?_,?_];{intro u hu;rcases Se _ _ hu with z|⟨t,ht,z⟩;{exact ?tV};exact(Po (hWl t ht) z).1};{rw[←hlay,?Fq (4-i=(4-?aG)+1)];rfl};{have:=?I9 ?hV hWl;simp only[qi5]at this;rw[qh8];ext d};rw[qb7];ext d};ext lJ;apply tV ?_;intro L R lu ru layer rows o5 o6 o7 o8 o9 sH hL rL hR rR hWl hlay VU hrl Ei;have Mq:rows=?ED:=hlay;have Bt6:=kN (ws:=ws) hw;rw[←Mq]at Bt6;(ext F9);apply#[_,?g,l,_,?g,?Jb sH hl,λM hM=>?_];have sm:?Jw (?m H2 M ?fL):=?x hM;have hMH:?A4:=sH.free hM;(have VP:?GR ws.length:=by have:=hr0.length;ext Z);apply#[_,?g,R,?g,#[_,?Fo sm hR],?cR (K:=K) (a:=R) (xs:=ru) (λj σ H3=>Kc λ(mu:?bJ) ?o3=>Bw (?H9 (rS M)) (?Jw H3) (?ME H3 M mu) (?Lc H3 mu ?eg)) #[us,_,?g,sm,Ab,(by simpa[Ft]using ?a0 (?nF sm) hr0)] (λj σ H3 _ hz=>?KB s3 s3 hR) ?_ ?_];{rintro j x σ H3 hx Dc;ext f;revert σ;apply ?f1;intro mu o7' s3 hM3 rM Ei;have hj:j<ru.length:=?dk;have hjl:j<rows.length:=O9m;(have hjx:?IG ?Dc (tI rows[j]):=?C5);let ?jZ:=rR.get hjx;rw[hx]at hx';cases hx';generalize hf:rows[j]=fc at tx;have tx3:TI K H3 x fc:=?EZ;(have e0:Ft ws (?ue ?hz)=(if fc∈?eg then ?eg else ?eg++[fc]):=by rw[qe1,?n8,hf];exact Yc _ _ _);have hal:=aR ?yP ws;rw[qb9]at hal;(have mul:?Id ?eg:=?Ae);generalize hacc:?eg=acc at rM e0 hal mul;have rm3:?Jd H3 M (?t ?lw):=#[M,mu,?g,?k hM3,rM];apply(?HU tx3 rm3);by_cases h1:?u1;{apply ?Cp;apply#[mu,_,?g,s3,hM3,?_];rw[e0,?aj h1];exact rM};apply ?uG;apply(?K9 hM3 M hM3);apply#[_,_,?g,s3.turn hM,Ab,?_];rw[e0,?aR h1];exact K0 hM3 rM tx3};rintro σ H3 Dc;revert σ;apply ?f1;intro mu o7' s3 hM3 rM Ei;rw[rul,qc8,Mq]at rM;exact#[_,?g,k M mu H3 hMH (?nF s3) hM3 rM]
noncomputable abbrev M8:Stmt:=top 89
def Lm:?Fp [?ed,?he,?co,?cs] ?oD M8:=Bg
def i7[?H](F:?Fi ?jG ?jG M8)[?G](Pl:?KG ?ig ?qQ ?AU):?Fe 2 ?oD ?yu:=by apply ?G0 Lm;let#[c,ns,m,?g,hS,hl,kq]:=h;apply#[_,(Ae (?Fg 2 Lm.nd ?dJ) (Ae (Cb qb8 ?g (?Fw Bz ?nP) (?J6 3 Lm.nd) (?MI ?A (?Lo (?JB Pl ?ol)))) ?er)),?_];ext Q;apply#[?a7,?aP];have s1:?KR ?ov:=?bC;have Dt:(?ov) D=?jc:=Ab;generalize ?ov=H1 at s1 Dt;apply(?GP c ?pX ?du);have s2:?KF ?lS:=?gj;have hcl:=Re ns ?p ?nA;(have hC2:?ME (?lS) C (?Hg ?ur):=by rw[←Rc];exact Ab);have L4:=?nB;generalize ?lS=H2 at s2 hC2 L4;generalize ?ur=cs at hcl hC2;(have hCD:C≠D:=λz=>by subst z;rw[Dt]at hC;cases hC);let B57:?aM:=?Jl (Op λ ?gE ?lr ?gb=>G9 (σ=[rS c,iS m,?aA,o]) (?ag D H2 G) (G D=?d9) (?ad K G us ?Dh) ?kq (xs.length=i));apply#[C,?g,(?Kl hC2),?cR (K:=K) (a:=C) (xs:=cs.map ?J) B57 #[[],[],?p,?g,?nb,L4,?g,(λk p h=>by simp at h),?g] (?GC (?JY ?wX ?k (s3 _ _ hCD hC2))) ?_ ?_];{rintro i x σ G hx Dc;ext f;revert σ;apply ?cn;intro us xs o s3 Ea rG hsh Db Ei;(have hi:i<cs.length:=?ex);(have hxv:x=?o cs[i]:=by rw[qa7,?be]at hx;simpa using hx.symm);subst hxv;(have VP:?ng:=by have:=rG.length;ext Z);apply#[_,?g,?L0 ?n1,_,?g,_,?g,D,xs,cs[i],?g,#[D,us,?g,?n1,rG],hsh,?i,λR v m' p G1 g1 hR tv hF=>?_];apply#[R,_,_,_,?g,?g,hR,?g,?_];have A99:=?m5;apply(?HM A99);exact#[us++[v],xs++[p],_,?g,(?f0 (?bl g1)).upd,Ab,K0 A99 (?a0 g1 rG) tv,EW hsh hF,?iV]};ext eH;apply ?cn;intro us xs o s3 Ea rG hsh Db Ei;rw[qa3]at Db;apply#[_,?g,kq D us G xs hD ?_ Ea rG hsh ?i];intro b q e;exact s3 b q ?pN (?Kd ?cN e)
noncomputable abbrev Go:Stmt:=top 9
def Qg:?Fp ?gF ?gF Go:=Bg
def Qs[?H](F:?Fi ?hC ?hC Go)[?G][?FK][?rg]:?Fe 3 ?gF ?Ax:=by apply ?G0 Qg;let#[a,x,d,l,xs,?g,hL,hx,k]:=h;let ?E7:=?yk;apply(?Lq (O8 (?Fk Ev ?F ?ia) (Qq (Mp Er (?Fk Gh (?Jc ?y ?F) Ac) ?A ?M))));apply#[_,?g,_,?g,a,us,?g,?dh,x,d,_,?g,hx,_,?g,?_];rw[y3];ext ro;{(obtain⟨i,rfl⟩:∃i,d=?bR:=by cases d<;>first | exact ?cO | (exfalso;simp[belowD]at e));cases ?Er;have e':?wI:=e;(have h0:0<=i/\i<?gs:=by simpa using e');let#[us',v,hq',hv,tv]:=?g5 hL h0.1 h0.2;apply#[_,?g,_,?g,a,us',i,v,?g,?g,hq',hv,v,_,?g,?O tv,_,?g,?g,?_];(have e2:D9 xs ?bR l=?aF (?ik=l):=by show ?ET=_;rw[e'];simp[Fb]);rw[e2]at k;(have e3:?aF (?J ?ik=?J l)=?aF (?ik=l):=by by_cases z:?ik=l;{simp[z]};simp[z]);rw[e3];exact k};(have e2:D9 xs d l=false:=by cases d with| int i =>have e':¬?wI:=e;show ?ET=false;rw[Bool.eq_false_iff.mpr e'];rfl| _=>rfl);rw[e2]at k;exact k
noncomputable abbrev M4:Stmt:=top 32
def Z4:?Fp ?jt ?jt M4:=Bg
def g8[?H](F:?Fi ?kY ?kY M4)[?G][?FK]:?Fe 3 ?jt ?y5:=by apply ?G0 Z4;let#[i,b,?g,h0,h1,k]:=h;apply(?MM (?HS Ev));apply#[_,?g,_,?g,?bR,?bR,b,?g,?g,_,?g,?_];rw[show ?oO=true from belowD_of h0 h1];ext lM;exact k
noncomputable abbrev Tq:Stmt:=top 36
def gW:?Fp ?jW ?jW Tq:=Bg
def HQ[?H](F:?Fi ?l8 ?l8 Tq)[?G](Ho:?Fu ?i0 ?jD ?C0):?Fe 3 ?jW ?AP:=by apply ?G0 gW;let ?AO:=h;let#[Xo,IV]:=T.x_MOST_ROWS;let ?uF:=?gY;apply#[_,(Ae (?HB (Ki (Je ?Dd)) (jV (Bf HF ?oc (Ig (v:=?o 40) ?n IV ?cO) ?M))) (Ai (?Ls Bd (B6 (N':=?lR) (cap:=?jT) ?n ?X ?kk ?nQ ?aC (?Fh (?JB Ho ?bj)))))),?_];ext Q;apply(?IQ (dT h w f) hv);apply ?HY (by simp[pK,dT]);apply(?Gx a _ ?dh);apply ?eP;ext rl;let B56:?a2:=?Ji ?u2 (?G8 [o,iS w]);apply ?LS B56 ?cT ?zs;{rintro i x ys τ H1 hx Dc;revert τ;apply ?ar;intro s1 Dt hz1 o Ei;subst hz1;let ?Cx:=?Cs;apply#[_,?g,_,?g,b,w,?bf,?g,?cg hb,hw,?pE];apply(?HV ?nB ?oI ?cN);rw[qw4,qb0];rfl};ext rn;apply#[D,?xb,?g,?o8,?_];rw[?Hr ?xb];exact ?fa
noncomputable abbrev Wn:Stmt:=top 38
def JQ:?Fp ?jY ?jY Wn:=Bg
def jZ[?H](F:?Fi ?jv ?jv Wn)[?G](Q6:?Fu ?kt ?pO ?DS):?Fe 3 ?jY ?sS:=by apply ?G0 JQ;let#[u,v,h,d,w,f,g,?g,hu,hv,hh,hd,hw,hm,k]:=h;let ?uF:=Iq hu;apply(?Lq (B6 (N':=[?e7,?cS,?al]) (cap:=[none,?ah,?iz]) ?n ?X ?kk (?Fh (?J6 0 A39)) ?aC (?Fh (?JB Q6 ?ts))));ext rl;let B55:?a2:=?JK (?IM w (λi j=>sumN (λk=>f i k*g k j) d)) [o,?aX,iS w];apply ?LS B55 ?fi (?Gs (?Je #[as,_,_,R,_] ?cI hq));{rintro i x ys τ H1 hx ⟨as,hal,rfl,R,o,rfl⟩;let ?Cx:=?Cs;apply#[_,?g,_,?g,_,?g,b,v,d,w,?bf,g,?g,?cI hb,?vM,hd,hw,λk j hk hj=>hm i k j hi hk hj,?nt];exact ?lk};ext rY
noncomputable abbrev Tu:Stmt:=top 51
def GX:?Fp ?iP ?iP Tu:=Bg
set_option tactic.hygienic true in def HV[?H](F:?Fi ?kP ?kP Tu)[?G][?lF]:?Fe 3 ?iP ?x7:=by apply ?G0 GX;let#[a,b,xs,k,ns,?g,hL,Db,hb,hnl,kq]:=h;apply(?MM (Bd (Cu (AK ?n) ?n ?ez Gc (?L9 (B6 (N':=[?bd,?aY]) (cap:=?Be) ?n ?X (?Hd EF ?qD (Aa ?pS ?bB)) (?Lp tD tD) (?Fh (?KY Ku ?F)) (?Fh (De ?bj)))))));apply(?Hz hL Db (λP H1 hP s1 hP1=>?_));have pl:?sl:=?r6;have hnd:=Fh xs k;generalize y4:?gZ=sp at hP1 hnl pl hnd kq;have hb1:=?cg hb;have hzn:=JG hnl hnd;(have hzl:(?mq).length=sp.length:=by rw[List.length_zip];ext d);apply#[_,?g,P,b,?g,(?Kl hP1),#[_,hb1],?aP];apply IS (K:=K) (a:=P) (b:=b) (xs:=?fM) (ys:=?d3) (n:=sp.length) (by rw[qa3,qa3];ext d) (λi zs τ G=>Bw (?KF G) ?yX ((∃ts:?k3,zs=ts.map ?bg/\ts.length=?nS/\∀(j:Nat) t,?IG ts t->∃p:Int × Int,?IG ?Bj p/\G t=?h (?U [?sK,?o p.2])/\t≠D)) ?y3) #[?bC,Ab,#[[],?g,?g,λj t z=>by simp at z],?p,?p,?g] (λi zs τ G _ hz=>by let ?hp:=hz;exact#[?Fo g hP1,g.seq hb1]) ?_ ?_;{rintro i x y zs τ G p hx hy ⟨g,Ea,⟨ts,rfl,FZ,hts⟩,o1,o2,rfl⟩ hp;(have hi:i<sp.length:=?ex);have hz:=jH hnl hi;(have hxv:x=?o ?DN:=?pC);(have hyv:y=?o ?Bl:=by rw[qa7,qa0 (?Fq ?q9)]at hy;rw[qa1,qa0 (?Fq ?q9)];simpa using hy.symm);subst hxv hyv;have ct:=DG hz;generalize ?DN=sv at hz ct;generalize ?Bl=nv at hz ct;have gp:?l G ?mE:=?dG;have hp1:(?mE) p=?h ?gL:=Ab;generalize ?mE=G1 at gp hp1;have ctl:?nS<=i:=qa5 (MR _) (by rw[qb9];ext d);apply(?G3 p (?k hp1));apply ?bW;apply ?b0;{(have e:¬nv=0:=?aI);rw[?aR e]at ct;apply(?GF _ ?a7 ?p0);have gt:=gp.trans (?x (o:=?gL) ht);have ntD:t≠D:=(Aq ?Bg ht).symm;have hDt:=?KJ gt;have htt:(?zx) t=?h ?gL:=Ab;generalize ?zx=G2 at gt hDt htt;apply#[hDt,?d6,?Ha gt hD,Ab,#[ts++[t],?au,by rw[ct];simp[FZ],λj t' e2=>?_],_,_,?g];rw[ct];rw[List.getElem?_append]at e2;split at e2;{rename_i hj;let#[p',jG,h2',h3']:=hts j t' e2;exact#[p',by rw[qc3 ?ck];exact jG,by rw[Al h3'];exact gt _ _ h2',h3']};rename_i hj;(have hj0:?AV=0:=by cases hz:?AV with| zero=>rfl| succ m=>rw[hz]at e2;simp at e2);rw[hj0]at e2;(have et:t=t':=by simpa using e2);subst et;apply#[(sv,nv),?_,?_,ntD];{rw[qd0 ?ck,?Fq (j-?nS=0)];rfl};rw[Al ntD];exact htt};(have e:nv=0:=?aI);rw[?aj e]at ct;rw[ct];exact#[?bK gp,?Bg,#[ts,?g,FZ,λj t z=>let #[p',a1,a2,a3]:=hts j t z;#[p',a1,gp _ _ a2,a3]],_,_,?g]};rintro zs τ G ⟨g,Ea,⟨ts,rfl,FZ,hts⟩,_⟩;rw[←hzl,qc8]at FZ hts;apply#[D,ts,cK (E5 ?mq),?g,Ea,(by rw[Ks];exact FZ),λi t e2=>?_,?kw];{let#[p,jG,h2',_]:=hts i t e2;apply#[(?v p.1,?o p.2),?_,h2'];unfold cK;rw[qa7,jG];rfl};apply kq E _ ((?bP g).free hE) (?G1 ?bP g ?nT) ?_;rw[Ab,Pa _ [] (by rw[qq4];exact Vd.mpr (A42 hzn)),qq4]
noncomputable abbrev Gf:Stmt:=Eo ?xr 1
def AY:?E ?d1 ?d1 ?wu:=Bg
def Sw[?H](F:?Fi ?bG ?lU Gf)[?G](Vk:?Fu ?jE ?oq ?yV)(Za:?Fj ?Ek [?bG] cE):?Fe 3 ?d1 ?fo:=by apply ?G0 AY;let#[p,u,C,r,b,sv,n,W,s,N,t,?g,hC,x,hu,m1,m2,hn,hW,k]:=h;ext F7;ext F3;apply(?Lr (?Kb Vk ?aQ) (Ai (Fd (K:=K) ?y (?Fk Vk ?aQ (?L9 (?JB Za ?aU))))));ext Q;apply#[_,?g,p,C,dx,fs,_,?g,hp,?ap,?db,l1,_,?g,r,u,as,n,W,s.1,t,?g,xa,hu,m1,hn,hW,λD1 as1 H1 Dt s1 x1 n1=>?_];have hp1:=?gf;apply(?Ib fs hp1 ?db);have sx1:?La H ?fF:=?K7 s1;have Az3:?La H1 ?fF:=?bi;(have hu1:Rep K ?fF u (vX t):=by apply Rep.t #[λb xs e=>?_,λb o u e=>?_] (by cases t<;>rfl) hu;{exact ?uY};exact ?uY);have hl1:?vv=fs.length:=N5 l1;have hp2:(?fF) p=?h ?Ai:=Ab;have x2:=x1.x hp1 Az3;have wA:=xb.x hp sx1;(have YD:?Kh (?fF) ?fE:=λa e=>by by_cases hap:a=p;{rw[hap,Ab]at e;cases e};rw[Al hap]at e;exact ?hh e);generalize hH2:?fF=H2 at sx1 Az3 hu1 hp2 x2 wA YD;apply#[_,?g,p,C,dx,_,_,?g,hp2,?ap,?dZ,?C7,_,?g,u,t,?g,hu1,λu2 H3 s3 hu3=>?_];apply#[b,u2,bs,n,n,s.2,tnA t,?g,?ne s3,hu3,m2,hn,hn,λD2 bs2 H4 L4 s4 x4 n4=>?_];have QX:=?fm;have P3:=QX _ _ hp2;apply(?Ib _ P3 ?dZ);have hl2:(?IC ?dY D2 ?zZ).length=?vv:=N5 (x:=?iS) ?C7;have sx5:?La H4 (?KC H4 C (?aV ?dY ?d0 ?AW)):=?bi;have f2:?zw:=YD _ (?r3 L4);have dne:D1≠D2:=λz=>?B7 ?yJ;ext FR;apply k D1 D2 _ (?bX (sx1.trans (?bl QX))) Dt f2 #[#[dx,_,Ab,?_,?_,?_,?eS,?i],#[as1,(x2.same QX).x P3 sx5,?bO],#[bs2,x4.x P3 sx5,?bO],dne,nN _ Dt,nN _ f2,?k4];{rw[As,?eO,As,?bI]};{rw[As,?bI]};{rw[As,?eO,As,?eO];exact l3};{rw[As,?c8,As,?c8];exact l4 m hm};{have h1:=(x2.same s3).there.2 a ha;let ?z1:=n1 a ha;apply#[h3,λz=>h1 ?yJ,?_];rcases h2 with h2 | h2;{exact(na a h2).2.2};exact nN a h2};{let ?z1:=n4 a ha;apply#[?l0,h3,?_];{rcases h2 with h2 | h2;{exact ?oV a h2 (z▸Dt)};exact ?B7 (z▸h2)};rcases h2 with h2 | h2;{exact(nb a h2).2.2};exact nN a (YD _ (?r3 h2))};by_cases hap:a=p;{rw[hap,Ab]at z;cases z};rw[Al hap]at z;exact x.nn a ha (YD _ (QX.free z))
noncomputable abbrev M5:Stmt:=Eo ?gl 0
def Z5:?Fp ?hP ?hP M5:=Bg
def g9[?H](F:?Fi ?bY ?wG M5)[?G][?FL][?Fc]:?Fe 3 ?hP ?z2:=by apply ?G0 Z5;let#[H0,p,dx,v,n,w,M,?g,s0,fp,hp,hv,hn,hw,k]:=h;let(?Ho ta hq0 _):=?gY;apply#[_,(Ae (?Fy ?F) (Ae (?Fy ?A) (Ae (?Fy (?Lz ?CW ?CW)) (Ae (?Fy (?Lz ?zz ?zz)) ?EX)))),?_];ext Q;(have mkL:∀{G1 G2 G3:Hp}{D1 D2 L FG:Addr}{as1 lN:?k3}{m:Nat}{fs:?m8}{G4:Hp}{N:Addr->Prop},as1.length=m->?c0 G1 G2 D1 as1 m ?q0->lN.length=m->?c0 G2 G3 D2 lN m ?q0->G3 L=none->?l G3 ?sh->fs=?aV ?dY ?d0 ?BP->G4=?m (?m ?sh L (?IN ?BP)) L ?vu->(∀a,N a->?Ih G1) → ?yA/\LX G4 Ah L D1 D2 ?p m m ?cY N:=by intro G1 G2 G3 D1 D2 L FG as1 lN m fs G4 N hl1 R1 hl2 R2 nL sN hfs hG4 hN;(have hL4:G4 L=?h ?vu:=by rw[hG4];exact Ab);(have st:?yA:=λa o e=>by rw[hG4,Al ?lm,Al ?lm];exact sN _ _ e);clear hG4;(have x1:TA G4 D1 as1 m m ?fV:=((?E4).same (?jV st)).congr ?De);(have x2:TA G4 D2 lN m m ?fV:=((TA.of R2 hl2).same st).congr ?De);have t1:=(?E4).there;have f2:?Kh G2 ?CM:=?He ?qY;have nN:∀a,?CM->?kB:=?Hq hN;apply#[st,#[FG,fs,hL4,?r5,?r5,?r5,?eS,?_],#[as1,x1,?bO],#[lN,x2,?bO],λz=>t1.1 ?wa,nN _ ?l9,nN _ (f2 _ ?ja),?Im (hN a ha (f2 _ (?hX (st.free z))))];{rw[hfs,As,?c8,As,?c8];rfl};{rw[hfs];exact ?CK};{let ?hW:=?kD;let ?iE:=R1.row i _ ?be;exact#[z2,λz=>t1.2 _ ha ?wa,?x6]};let ?hW:=?kD;let ?iE:=R2.row i _ ?be;exact#[λz=>t1.1 ?sx,z2,nN _ (f2 _ z1)]);apply(?IP hp ?cy ?au);apply ?G9 ?k0 (?m H p (?aD Aj dx ?Ba)=H');rintro _ _ ⟨rfl,rfl⟩;apply ?Fd (?k0/\∃fs,fs=?aV ?al ?Bb ?Ba/\?oH/\?ws);{apply(?IP Ab ?jF (by simp[putF]));exact ?Fl #[?g,_,?g,Ab,?bX ?bi]};ext rr;let#[Vn,hf2,hp2,sx2]:=gA;(have l2:Vn.length<=2:=by rw[hf2];exact ?zP);have RY:?l H0 H2:=?tM s0 fp;apply ?Fd (?k0/\∃(L O1 O2:Addr) (fs:?m8),fs=?aV ?ke ?ls Vn/\?oH/\?La H2 H'/\Kp H2 H'/\p≠L/\?Ki L/\?Ki O1/\?Ki O2/\?JQ H' ?ib);{apply(?Ig (RY.seq hq0) (λO1 os1 G1 hl1 R1=>?_));apply(?Ig ((?jq R1.same).seq hq0) (λO2 os2 G2 hl2 R2=>?_));have s2:=R1.same.trans ?eY;intro L dl nL ndl Bp2;have sN:?IA ?s9 L:=?yS nL;apply(?IU L O1 O2);let ?Eb:=?Go nL;have P3:=st _ _ ?C4;have XN:p≠L:=Aq ?C4 nL;apply(?GL _ P3 ?dP);exact ?Fl #[?g,L,O1,O2,_,?g,Ab,?K7 ?gd,?JR ?gd,XN,?hd nL,?l9,?qY ?ja,lx.x P3 XN ?bi ?bA]};apply Iw λH3 gA=>?_;intro sq;let#[L,O1,O2,fs3,hf3,hp3,sx3,kp3,XN,nL,n1,n2,lx3]:=gA;(have l3:fs3.length<=3:=by rw[hf3];exact ?KK (qj6 l2));have qY:?l H0 H3:=sx3.same RY fp;apply ?Fd (?k0/\∃(R O3 O4:Addr) (fs:?m8),fs=?aV ?gP (?u R) fs3/\?oH/\?xH/\?sn/\p≠R/\?Jv R/\?Jv O3/\?Jv O4/\?JQ H' (λa=>?tK)/\?KQ H' ?ib);{apply(?GF w ?i (λO1' os1 G1 hl1 R1=>?_));apply(?GF w ?i (λO2' os2 G2 hl2 R2=>?_));have s2:=R1.same.trans ?eY;intro R dl nR ndl Bp2;have sN:?IA (.own R) R:=?yS nR;apply(?IU R O1' O2');let ?Eb:=?Go nR;have P3:=st _ _ ?CC;have zI:p≠R:=Aq ?CC nR;have n4:?Jv O2':=?qY ?ja;apply(?GL _ P3 ?ej);(have y1:?JQ G4 (λa=>a=O1'\/a=O2'):=lx3.more ?gd (?Hh (?O (by rcases ha with rfl | rfl;exact R1.free;exact n4))) λa ha=>by rcases ha with rfl | rfl;{let ?fW:=lx.rw;exact ?vt};let ?fW:=lx.bk;exact ?vt);exact ?Fl #[?g,R,O1',O2',_,?g,Ab,?K7 ?gd,?JR ?gd,zI,?hd nR,?l9,n4,y1.x P3 XN ?bi ?bA,lx.x P3 zI ?bi ?bA]};apply Iw λH4 gA=>?_;intro sq;let#[R,O3,O4,fs4,hf4,P3,zA,kp4,zI,nR,n3,n4,lx4,ly4]:=gA;(have l4:fs4.length<=4:=by rw[hf4];exact ?KK (qj6 l3));have oO:?wp:=zA.same qY fp;apply#[?ae,λnm hnm=>?_];have sn:?l H4 ?xB:=?x hnm;have Am5:?m H4 nm ?e8 nm=?jc:=Ab;have II:=sn _ _ P3;generalize ?xB=H5 at sn Am5 II;apply(?GL _ II ?d2);(have ex:∀a,?Ea->?Ih H5:=?Hh (by ext rq;{rw[Am5];exact ?gO};{let ?fW:=ly4.rw;exact ?EK};let ?fW:=ly4.bk;exact ?EK));have z1:?JQ H5 (λa=>?Ea):=lx4.more sn (?Hh (ha.elim (λe=>?O (e▸hnm)) ?v)) ex;have z2:?KQ H5 ?gQ:=ly4.more sn (?Hh (?O (ha▸hnm))) λa ha=>ex a ?mG;have GF:?La H5 ?vL:=?bi;have ZC:?l H0 ?vL:=GF.same (?z4 sn) fp;have g2:?KT ?z5:=?He RY.free;have g3:?KT ?w6:=?Cq;have npn:p≠nm:=Aq P3 hnm;(have LR:L≠R:=λz=>by let ?sv:=lx3.ob;rw[z,nR]at q;cases q);apply k L R nm _ #[#[?gg,dx,_,Ab,?_,?_,?_,?_,?_,?eS,?_,λM' e=>by cases e;exact ?R (λa o e=>by rw[y8 (Aq e ?Bc)];exact ZC _ _ e) hv],#[O1,O2,O3,O4,z1.x II XN GF ?bA,z2.x II zI GF ?bA,g2 _ n1,g2 _ n2,g3 _ n3,g3 _ n4],by rw[Al ?zm];exact Am5,ZC,#[fp,g2 _ nL,g3 _ nR,?Bc],?Bd,#[hn,hw]];ext F4;ext F4;{rw[hf4,hf3];(ext aT)};{rw[hf4];(ext aT)};ext fc;{rw[hf4,hf3,hf2];(iterate 5 ext FN);rfl};exact ?KK ?i
noncomputable abbrev Tm:Stmt:=top 71
def Ex:?Fp [?aB,?r4,?fX,"parts",?oS,?hN,?j3,?iJ,?bd,?aY] ?oa Tm:=Bg
def HK[?H](F:?Fi ?hT ?hT Tm)[?G][?rV]:?Fe 3 ?oa ?tQ:=by apply ?G0 Ex;let#[a,b,xs,us,ls,?g,hL,Db,hb,hB,hok,kq]:=h;let#[_,xu,z,hq,r]:=?gB;apply#[_,(Ae (U6 (N':=[?jJ]) (cap:=?cr) (i:=2) ?cx ?n ?gh ?n ?X ?kk (?Fh (?J6 0 Aj1)) ?aC (λ_ _ _ _=>Jz)) (Ae (Cb qb8 ?g ?mx (?GV 3) (Ai (Cb qb8 ?g ?tU (?LH (?GV 4) (?M7 (?GV 5) (?GV 6) (?GV 7))) (?Lt (?Fz Er ?W) (Ai (Ty (Cb qb8 ?g (Lr ?aW) (?Ff 8 ?cx (?J6 9 ?cx)) (Ai (Kj (?LG Vm (?Fs ?A ?br) (?Fk Ph ?bD ?cB)) (Kk ?A ?br Fu)))))))))) ?er)),?_];ext Q;cases z;(have xul:?Kf xu.length:=?h6);apply ?Fd (Kc λ ?c5 ?fN=>Da (σ'=[?w,?a3,?aA,none,none,none,none,none,none,none]) ?a6 ?dT ?tg (?Ka H' (?cK ?bx [])));{apply ?CE;let B54:?a2:=λi ws τ G=>Bw ?cH ?mh (?Ka G (?cK i [])) ?d5;apply C5 (K:=K) (a:=a) (xs:=xu) B54 (?IR #[?g,λi v e=>?qI]) (λi ws τ G _ hz=>?JY ?hp g.seq hq) ?_ ?_;{rintro i x ws τ G hx Dc;revert τ;apply ?ar;intro g Ea dd o Ei;have hi:i<xu.length:=?dk;(have wl:ws.length=i:=by have:=dd.1;rwa [qk5]at this);apply ?kw;have g1:?l G ?xP:=?nT;apply(?HV ?m5 ?b2 ?g7);rw[qw4];apply Ge.keep (H:=?xP) ((dd.same g1).snoc (?kb hE) Ab) λc kvs _ e=>?_;rw[?f5];{exact e};rw[z,?m5]at e;cases e};rintro ws τ G ⟨g,Ea,dd,_⟩;rw[xul]at dd;exact ?Fl #[D,ws,?g,g,hD,Ea,dd]};apply RI λD ws H1 s1 nD hD dd=>?_;intro sq;apply ?Fd (nX λ ?fN ?uf=>Bw (σ'=?tv) ?a6 ?tg (?Ka H' ?rE));{apply(?GF b (?Kl ?eV) ?_);let B53:?aM:=?Jl (nX λ ?fN ?uf=>Da (σ=?tv) ?cH ?mh (Ge H G ws ?hM) (G8 ?bx ?hM));apply ?cR (K:=K) (a:=b) (xs:=us) B53 #[ws,_,_,_,_,_,_,_,?g,s1,hD,dd,G8.first _] (?GC (?JY ?zB ?k ?AC)) ?_ ?_;{rintro i v σ G hv Dc;ext f;revert σ;apply zN ?_;intro ws o1 o2 o3 o4 o5 o6 o7 g Ea dd ER Ei;have hi:=?cZ;have h0:=hB.1;obtain⟨ps,hps⟩:?rB:=?dA;let ?vo:=?zd;have pok:=hok ps (qb2 hps);have pl:=rP.len;(have fG:?Iy ?aG=Kv ?hM ps:=by unfold Cw;rw[qe1,hps,qo6];rfl);generalize ?hM=lf at dd ER fG;apply(?GF pa (?Kl ?qG) ?_);let B52:?aM:=λj σ G=>Ex7 λ ?fN (o2 o3 o4 o5 o6 o7:?ak)=>Da (σ=(?KI (rS pa))) ?cH ?mh (?Ka G ?k1) (G8 ?bx ?k1);apply ?cR (K:=K) (a:=pa) (xs:=pu) B52 ?sk (?GC (?Je #[_,_,_,_,_,_,_,_,g,_] ?k ?qG)) ?_ ?_;{rintro j v σ G hv Dc;ext f;revert σ;apply ZN ?_;intro ws o2 o3 o4 o5 o6 o7 g Ea dd ER Ei;let#[p,hp,pv]:=rP.get hv;let#[t,c1,c2,c3,?g,et,e1,e2,e3,nec]:=pv.same g;have pk:=pok p (qb2 hp);(have ejk:Kv lf (ps.take ?hz)=Q1 ?k1 p:=by unfold Kv;rw[qe1,hp,qo6];rfl);generalize ?k1=lg at dd ER ejk;(have e20:∃kvs,H c2=?h (.dK kvs):=by let#[t',_,c2',_,q1,q2,_,q4,_]:=pv;cases q1;have:=?Ld q2;rw[et]at this;ext lK;ext lK;injection this with _ this;injection this with _ this;ext lK;ext lK;exact#[_,by rw[this];exact q4]);apply ?n7;apply ?bW;apply ?b0;{(have h1:p.1=1:=?aI);have eP:Q1 lg p=p.2.2.1.foldl ?og lg:=?aj h1;rw[eP]at ejk;(have nDc:c2≠D:=λz=>by rw[z,Ea]at e2;cases e2);apply ?O #[c2,?jp,e2,?dv];apply(?Gz c2 ?jp);let B51:?aM:=λm σ G2=>Op λ ?fN (o6 o7:?ak)=>G9 (σ=[?w,?a3,?aA,rS pa,?h ?sK,?iQ,?hK,?hD,o6,o7]) (G2 c2=?HT ?jp) (G2 D=?gK) (?Ka G2 ?ie) (G8 ?bx ?ie) ((?H8 c2 ?o6 (G2 c=?dD)));apply R6 (d:=c2) (o:=o) (kvs:=?jp) B51 #[ws,_,_,?g,Ab,?Ks nDc.symm,?_,ER,λc q n1 _ e=>?of] (?GC (?Jh #[_,_,_,_,e,_])) ?_ ?_;{apply ?sf;rw[?f5];{exact e};let#[_,q]:=e20;rw[z,q]at e0;cases e0};{rintro m kk x σ G2 pp hx Dc hpp;ext f;revert σ;apply ?cn;intro ws o6 o7 hc2 iJ dd ER hk Ei;let ?f6:=?dz;let#[x0,x1]:=pk.gk q ?dV;(have emk:?If (m+1)=lift1 ?rM ?ie q:=by rw[qe1,hq,qo6];rfl);generalize ?ie=lh at dd ER emk;have wl:?Kf ws.length:=dd.1.trans ER.1;have OL:?IB G2 G2 pp:=?x hpp;apply ?uD;obtain⟨v,hv⟩:∃v,ws[?cd]?=?aX:=?dA;let#[c,?g,nc,hc]:=?BZ;(have hat:Um ws q.1=?h ?xN:=?wq);(have nc3:c3≠D:=λz=>by rw[z,Ea]at e3;cases e3);have e33:=OL _ _ (hk _ _ nec.symm nc3 e3);have lc:=ER.at ?cd;apply#[_,?g,_,?g,D,ws,_,_,?g,?g,?Fo OL iJ,hat,_,?g,_,?g,q.2,c3,?rM,?g,e33,?H5 pk.fl.len,pk.mul q ?dV,?Bu];apply#[c,T,_,_,?g,?Kk hc,hT,?H5 lc.len,?H5 ((pk.fl.times q.2).len),λE G5 nE s5 hE=>?_];have zC:=?GE ?eJ s5;apply#[_,?g,_,?g,D,ws,_,_,?g,?g,?wk,by rw[wl];have:=Js (l:=xs.length) (i:=?cd) ?i;ext re,?_];apply#[_,_,_,?g,?_,Ab,emk▸ ?_,emk▸ER.lift1 pk.fl q,?I7 ?_];{rw[Al nDc];exact zC _ _ hc2};{apply Ge.keep (H:=G5) ((dd.same zC).set ?_ hE ?cd) λd kvs _ e=>?_;{cases e:H E with| none=>rfl| some r =>have:=?Kd ?eJ (hk E r (?Ip hc2).symm (?Ip iJ).symm ?nO);rw[nE]at this;cases this};rw[?f5];{exact e};rw[z,?wk]at e;cases e};rw[?g2];exact zC _ _ (?Ko hk d)};rintro σ G2 Dc;revert σ;apply ?cn;intro ws o6 o7 hc2 iJ dd ER hk Ei;rw[Ks,qc8,←ejk]at dd ER;apply#[hc2,ws,_,_,_,_,_,_,?g,λc r e=>?_,by rw[Al nDc.symm];exact iJ,?sf,ER];{by_cases z:c=c2;{subst z;have:=?nO;rw[e2]at this;cases this;exact Ab};rw[?dN];exact hk c r z (Aq e nD) ?nO};rw[?f5];{exact e};rw[z,hc2]at e;cases e};(have h1:¬p.1=1:=?aI);have eP:Q1 lg p=lg:=?aR h1;rw[←ejk.trans eP]at dd ER;exact ?sk};rintro σ G Dc;revert σ;apply ZN ?_;intro ws o2 o3 o4 o5 o6 o7 g Ea dd ER Ei;rw[pl,qc8,←fG]at dd ER;exact#[ws,_,_,_,_,_,_,_,?g,g,Ea,dd,ER]};rintro σ G Dc;revert σ;apply zN ?_;intro ws o1 o2 o3 o4 o5 o6 o7 g Ea dd ER Ei;rw[hB.1,qc8]at dd;exact ?Fl #[ws,_,_,_,_,_,_,_,?g,g,Ea,dd]};apply Av9 λws o1 o2 o3 o4 o5 o6 o7 H2 s2 L4 dd=>?_;intro sq;exact#[_,?g,kq D ws H2 nD s2 L4 dd]
noncomputable abbrev Wp:Stmt:=top 72
def Li:?Fp [?fX,?b4,?bu,?bd,?aY] ?li Wp:=Bg
def KA[?H](F:?Fi ?jh ?jh Wp)[?G][?rV]:?Fe 3 ?li ?C3:=by apply ?G0 Li;let#[a,b,O,xs,k,wu,lf,c,?g,ha,dd,sO,nb,hb,hc,VU,Db,hl,kq]:=h;have hwl:wu.length=lf.length:=dd.1;apply(?Lr (?Fg 2 ?ir Jz) (?MG (?Ff 3 ?ir (?J6 4 ?ir)) (Ap (i:=2) ?ir (?MU Vm (?Fk Ph ?W (?L9 ?g9))))));ext Q;apply ?Fd (?Le (?Jo ?w ?a3 ?aA) (?cL=?JI (Ij lf (?pg 0))));ext rf;apply Nu λD0 H1 nD s1 Dt=>?_;intro sq;(have CI:D0≠b:=λz=>by rw[z,hb]at nD;cases nD);apply ?Fd (Op λ ?yw ?Bq=>Bw (σ'=?vp) ?mp ?a6 (?LN E (Ij lf c)));{apply ?Gr ?eu ?eV;apply ?sH;let B50:?aM:=?Jl (Op λ ?yw ?Bq=>G9 (σ=?vp) (E≠b) ?mp ?Cu (?Fv G E ?yo) ((∀d q,d≠b->H d=?dD->G d=?dD)));apply R6 (d:=b) (o:=o) (kvs:=?eu) B50 #[D0,?p,?p,?g,CI,nD,Ab,?x3,λd q n e=>by rw[Al n];exact ?ep] (?GC (?Jh (?Lb e))) ?_ ?_;{rintro i kk x σ G pp hx Dc hpp;ext f;revert σ;apply ?cn;intro E o3 o4 nE hE0 W4 vV hk Ei;let ?f6:=?dz;have hqm:=?dV;let#[x0,x1,_]:=C3 (hc.key q hqm);let#[lk,lm]:=hl q hqm;have OL:?IB G G pp:=?x hpp;apply ?uD;obtain⟨v,hv⟩:∃v,wu[?cd]?=?aX:=?dA;let#[c1,?g,_,hc1]:=?BZ;(have hat:Um wu q.1=?h (?u c1):=?wq);have ne1:c1≠b:=Aq hc1 nb;have nea:a≠b:=Aq ha nb;have Bw2:=?IE ne1 hc1;have haG:=?IE nea ha;have hch:ChL xs (k+1) ?yo:=Vf (λp hp=>(hl p (ql2 hp)).1) ?rt;apply#[_,?g,_,?g,_,?g,_,?g,a,wu,_,_,?g,?g,?k haG,hat,q.2,c1,lf.getD ?cd [],?g,Bw2,?H5 lk.ok.len,lm,?Bu];apply#[E,T,_,_,?g,?Kk vV,hT,?H5 hch.ok.len,?H5 ((lk.ok.times q.2).len),λE2 G5 nE2 s5 hE2=>?_];have zC:=?GE ?eJ s5;have gY:=?eJ;(have neb:E2≠b:=λz=>by rw[z,gY _ _ W4]at nE2;cases nE2);apply#[E2,_,_,?g,neb,?_,zC _ _ W4,?_,λd r n e=>zC _ _ (hk d r n e)];{cases e:H E2 with| none=>rfl| some r=>rw[gY _ _ (hk _ _ neb e)]at nE2;cases nE2};rw[hE2,KL hq]};rintro σ G Dc;revert σ;apply ?cn;intro E o3 o4 nE hE0 W4 vV hk Ei;rw[Ks,qc8]at vV;apply#[W4,?Fl #[E,o3,o4,?g,hE0,λd q e=>?_,by rw[Al nE];exact vV]];by_cases z:d=b;{subst z;rw[hb]at e;cases e;exact Ab};rw[?dN];exact hk d q z e};apply GB λE o3 o4 H2 nE s2 hE=>?_;intro sq;exact#[_,?g,kq E H2 nE s2 hE]
noncomputable abbrev Oy:Stmt:=top 85
def Ee:?Fp [?sw,?ed,?he,?dW,?ga,?cs,?vR] ?qW Oy:=Bg
def BE[?H](F:?Fi ?kV ?kV Oy)[?G](Nk:?Fu ?iF ?mL ?B9)(Ub:?KG ?jk ?ni ?uy)[?FE]:?Fe 3 ?qW ?yn:=by apply ?G0 Ee;let#[a,ns,kind,most,?g,hS,hl,hm0,hm1,k]:=h;ext eI;apply#[_,(Ae (?Fg 3 ?eE Ak) (Ae (?LM ?v0 ?eE ?rG) (Ae (?LM ?v0 ?eE ?w7) (Ae (?Fg 4 ?eE ?dJ) (Ae (Cb qb8 ?g ?mx (?J6 5 ?eE) (Ae (Ap (i:=6) ?eE (?ML Nk (?J5 ?W (?Fk Ub ?a4 (?Lu ?L ?w7)) ?dC))) (?Lt (Bf MM ?gD ?A ?M) (?JH 4 ?eE ?aW)))) (Ai (Bd (B6 (N':=[?fw,?dW,?ga]) (cap:=[none,?h 3,?h 4]) ?n ?X ?CL (?Fh (?J6 0 Ai8)) ?aC (?Fh (?M1 (B6 (N':=[?qL,?ga]) (cap:=[none,?iz]) ?n ?X (?MN Bz (?JB Hw ?bj)) (?MO Ai7) ?aC (λ_ _ _ _=>(Hn (K:=K) qe7 PySem.F.slot_list_index PySem.F.type_list_index (?MN pH T8) ?F ?b8))))))))))))),?_];ext Q;apply ?G9 (?K2 (iS 0)) ?bs;ext bQ;apply Am ?xU ?_ λA54=>?_;rotate_left;{apply ?is;apply ?wj;{exact#[_,?g,A54 _ _ #[-1,?g,?g,?z]]};exact A54 _ _ #[0,?g,?g,?z]};apply yX λB10 hf0=>?_;intro sq;apply ?MP ?xU;rotate_left;{apply ?is;apply ?wj;{apply#[_,?g,_,_,?g,?g,?fj,_,_,?g,?g,(?GB 19),_,_,?g,?g,?Gc ?CD];have:kind / 18%19<19:=?gr;ext d};exact ?Gc #[B10,?g,?g,hf0]};apply yX λfam hf=>?_;intro sq;have l1:0<=kind / 3%6:=?kO;have l2:kind / 3%6<6:=?gr;apply#[?ae,λW0 hW0=>?_];have s0:?KR (?m H W0 ?e8):=?x hW0;apply#[_,?g,a,?g,#[_,s0.seq hS],?cR (K:=K) (a:=a) (xs:=?d3) (λj σ H2=>Yd λ(W:Addr) (wu:?bJ) (ws:LLInt) (o5 o6:?ak)=>Mb (σ=[?qx,?w,?pJ,?bE,rS W,o5,o6]) ?cl (?JO W) (?HZ W wu) (?J0 wu ?gq) (NQ fam ws) ((ws.length:Int)<=most)) #[W0,[],[],?p,?p,?g,s0,hW0,Ab,?g,NQ.nil,by simpa using hm0] (?Gy (?Lb s2)) ?_ ?_];{rintro j x σ H2 hx Dc;ext f;revert σ;apply zP ?_;intro W wu ws o5 o6 s2 hW hW2 rW hO hwl Ei;(ext FH);(ext FB);subst hxv;apply#[_,?g,_,?g,_,?g,_,?g,_,_,?g,?g,?fj,_,_,?g,?g,(?GB 6),_,_,?g,?g,?_];apply#[_,_,_,?g,?i,?i,?i,λv H3 w s3 tv hw=>?_];apply ?bZ;apply#[W,wu,v,ws,w,fam,?g,?K1 hW2,?a0 s3 rW,tv,hw,?i,λM mu H4 hM s4 hM4 rM=>?_];have QX:=?fm;have hMH:?A4:=(?dw).free hM;(have mul:?Id ?t0:=?Ae);apply#[_,?g,M,_,?g,?v (?k hM4),_,?g,_,_,?g,?g,_,?g,?_];apply ?b0;{(have h2:(mu.length:Int)<=most:=?aI);exact#[_,?g,M,mu,?t0,_,_,?g,?bV QX,hMH,hM4,rM,AV hO hw,?i]};exact#[W,wu,ws,_,_,?g,?bV QX,hW,QX _ _ hW2,?a0 QX rW,hO,hwl]};ext lJ;apply zP ?_;intro W wu ws o5 o6 s2 hW hW2 rW hO hwl Ei;(have wul:wu.length=ws.length:=by have:=rW.length;ext Z);apply(?GF W (?Kl hW2) ?aP);have hDH:?dT:=?hd hD;let B49:?a2:=λi ys τ H1=>Bw (?Jw H1) ?f7 (?ad K H1 ys (?Hx ?Ao ?po tI)) (?G8 [o,?bE,rS W]);apply C5 (K:=K) (a:=W) (xs:=wu) B49 ?cT (λi ys τ H1 _ hz=>?JV ?jC s1 hW2) ?_ ?_;{rintro i x ys τ H1 hx Dc;revert τ;apply ?ar;intro s1 Dt r1 o Ei;have hi:i<wu.length:=?dk;have hil:?EL:=O9m;(have hix:?Km ?gq (tI ws[i]):=?HF hil);let ?jZ:=rW.get hix;rw[hx]at hx';cases hx';let#[hwi,hfi]:=hO.mem (qd7 hil);generalize hwe:ws[i]=w at tx hwi hfi;apply#[_,?g,_,?g,x,w,fam,?g,?g1 s1 tx,hwi,λp fu H3 hp s3 hp3 r3=>?_];(have ful:fu.length=?yE:=by have:=r3.length;ext Z);have s13:=?no;apply#[p,?g,(?Kl hp3),?EQ];let B48:?a2:=λm zs τ H4=>Bw (?l H3 H4) (H4 D2=?py) (zs=((?i1).take m).map (λf=>?J ?Ct)) (?G8 [o,rS W]);apply C5 (K:=K) (a:=p) (xs:=fu) B48 ?tt (λm zs τ H4 _ hz=>?Je #[s4,_] ?k ?mP) ?_ ?_;{rintro m y zs τ H4 hy Dc;revert τ;apply ?ar;intro s4 KQ hzs o Ei;have hm:?DJ:=?oC;have hmf:m<?yE:=O9m;(have hmy:(?x8 tI)[m]?=?h ?Br:=?tW);let ?ye:=r3.get hmy;rw[hy]at hy';cases hy';have hfm:?pz∈ws:=hfi _ ?z8;have gY:=s13.trans s4;have rw4:?Jd H4 W ?Ck:=#[W,wu,?g,?Fo gY hW2,?a0 gY rW];have hfl:=(Lc hwi);(have hzl:zs.length<=4:=by rw[hzs,qa3,qb9];have:=hfl.2;have:=hfl.1;split at this<;>ext d);apply#[_,?g,?v #[?g,_,?Fo gY hW2],_,?g,?gq,y,?Br,EY ws ?pz,?g,rw4,?g1 s4 ty,?A5,KW hfm,?_];apply#[KQ,?b2,s4.turn L4,Ab,?_,_,?g];rw[qe1,?qR,qb0,hzs];rfl};rintro zs τ H4 ⟨s4,KQ,hzs,_⟩;rw[ful,qc8]at hzs;have gY:=s13.trans s4;apply#[D2,_,?g,?v #[?k KQ,?p9]];have s5:?l H4 ?D5:=?oj;have hD5:=?Kd ?vz Dt;(have t5:TI K ?D5 ?q8 ?oP:=by apply ?fT ?uu;rw[qi8,Ab,hzs];rfl);(have hyl:ys.length=i:=by have:=r1.length;simp at this;ext d);apply#[hD5,?b2,(gY.trans s5).turn hD,Ab,?_,_,?g];(have e2:?Hx ws.take ?aG ?po=?Ao ?po++[?oP]:=by rw[qe1,qa0 hil,hwe,qb0];rfl);rw[e2];exact K0 hD5 (?a0 ?vz r1) t5};rintro ys τ H1 ⟨s1,Dt,r1,_⟩;rw[wul,qc8]at r1;exact k D ys H1 (Os ws fam) hDH (?bV s1) Dt r1 (AX hO) (by unfold Os;rw[qa3];exact hwl)
noncomputable abbrev JT:Stmt:=top 8
def MI:?Fp ?gF ?oh JT:=Bg
def XI[?H](F:?Fi ?kU ?kU JT)[?G][?rg](Pj:?Fj ?DH [?aB,?pH] Qc)[?FC]:?Fe 4 ?oh ?u6:=by apply ?G0 MI;let#[a,th,d,xs,?g,hL,hd,k]:=h;let#[bY,bW,bA]:=T.x_FACE_COUNTS;ext eI;apply#[_,(Ae (?HB (Ki (Je (?M8 ?F (?LR ?rN ?lj Ka)))) (jV (?LY ?pm (Ig (v:=?u bY) ?n bW ?g)))) (Ae (?Fg 2 MI.nd ?EB) (Ae (Cc (Ki (?Ls Je (B6 (N':=["face",?aB,"level"]) (cap:=[none,?dy,?iz]) ?n ?X (?Fw Vg ?F) (?Fh (?J6 0 A41)) ?aC (?Fh (?ML Dm (?J5 ?F ?y (Aa (Bh Jf ?A Ak) Ac))))))) ?cb Bn) (?LA (A26 (Mp U8 ?A Ak ?M) (?M3 Qq Pj ?bj)))))),?_];ext Q;apply#[_,?g,_,_,d,?g,?qC,hd,_,?g,?_];cases d with| non=>ext h2| bl b=>ext h2| int i=>ext h2| str z=>ext h2| lst es=>ext h2| tup ds =>let#[pa,us,?g,hq,r]:=id hd;have ul:?GR ds.length:=r.length;apply ?HY (by simp[pK]);apply#[_,?g,pa,us,?g,?O hq,?o (us.length:Int),Fb [0,2,3,4],?g,?O #[_,_,?g,bA H,?hZ],?vi,_,?g,?_];rw[ul];(have cnt:(! ?Is [0,2,3,4] (?o (ds.length:Int)))=! ?pD:=by rw[zfp]);by_cases hc:?pD=true;rotate_left;{(have hc':?pD=false:=by simpa using hc);apply ?Hi (by rw[?bI,cnt,hc'];rfl);(have e2:?t6:=by rw[R7];simp[hc']);rw[e2]at k;exact k H (?jz H)};apply ?HY (by rw[?bI,cnt,hc];simp);have hn4:ds.length<=4:=(YL hc).1;apply(?Iu _ ds (?O hd));apply(?GF pa #[_,hq] ?aP);let B47:?a2:=?Ji (ys=((ds.take i).map λe=>V.bl ?sI)) (Ec λo=>τ=[o,?w,?Ft ?je]);apply R9 (K:=K) (a:=pa) (xs:=us) B47 ?cT (?Gs (?JY ?jC s1.seqT hq)) ?_ ?_;{rintro i x ys τ H1 hx Dc;revert τ;apply ?ar;intro s1 Dt hys o Ei;have hi:i<us.length:=?dk;let#[e,he,re]:=r.getV hx;apply#[_,?g,_,?g,_,?g,_,_,?g,?g,a,x,e,_,xs,?g,?eK,?R s1 re,?_];apply(?Lm Dt (by rw[hys,qa3,qb9];ext d) ?r0);rw[qe1,he,qb0,hys];rfl};rintro ys τ H1 ⟨s1,Dt,hys,_⟩;rw[ul,qc8]at hys;(have Bs2:ys=?Hx ds.map ?nE V.bl:=by rw[hys,qi8];rfl);rw[Bs2]at Dt;apply#[D,_,?g,?o8,_,?g,?_];(have Bb6:(ds.map ?nE).all id=?lg:=by rw[List.all_map];rfl);by_cases ha:?lg=true;rotate_left;{(have ha':?lg=false:=by simpa using ha);apply ?Hi (by rw[Bb6,ha'];rfl);(have e2:?t6:=by rw[R7];rw[ha',hc];rfl);rw[e2]at k;exact ?fa};apply ?HY (by rw[Bb6,ha];simp);(have e2:?Da=(?qJ || No xs ?qX):=by rw[R7];rw[ha,hc];rfl);rw[e2]at k;ext rm;apply ?b0;{have h2:?qJ=true:=h1;rw[h2]at k;exact ?fa};(have h2:?qJ=false:=?aI);rw[h2]at k;have hint:=iZ ha;(have tv:TI K H1 (?u pa) ?qX:=by have:=?R s1 hd;rw[hint]at this;exact this);apply#[_,?g,_,?g,a,_,xs,?qX,?g,?eK,tv,by simpa using hn4,?_,?fa];intro f hf;rw[qe6]at ha;(have hm:L2.D.int f∈ds:=by rw[hint];exact qc7.mpr #[f,hf,?g]);have:=ha _ hm;simp only[D9,qc0,qr3]at this;let#[#[f0,f1],f2]:=this;apply#[f0,f1,?_];rw[qa3];rw[eU,eU]at f2;(have h3:¬?je<2:=?bn);rw[eU]at h3;ext d
noncomputable abbrev Wq:Stmt:=top 13
def JR:?Fp ?iZ ?iZ Wq:=Bg
def kC[?H](F:?Fi ?jy ?jy Wq)[?G][?FC][?rh]:?Fe 4 ?iZ ?xi:=by apply ?G0 JR;let#[a,xs,k,p,n,?g,hL,kq]:=h;apply(?Lq (O8 (?Fk Dm ?y ?C6) (O8 (?JB Gi ?dC) (Qq (Mp Ku ?L Ak ?M)))));apply#[_,?g,_,?g,_,?g,a,?o p,?o p,k,xs,?g,hL,?g,_,?g,?_];ext ro;{apply(?HO _ (?o n) ?g);apply ?Hi ?g;apply ?CD;(have e2:?st=! ?aF (?J n=?c1):=by unfold J0;rw[e];by_cases z:n=0;{subst z;simp};simp[z]);rw[e2]at kq;exact kq};(have e2:?st=false:=by unfold J0;simp[e]);rw[e2]at kq;exact kq
noncomputable abbrev Gr:Stmt:=Eo ?gv 4
def Ey:?Fp [?aH,"i","first","j","at","quotient"] ?me Gr:=Bg
def Qv[?H](F:?Fi ?p3 ?yr Gr)[?G][?rZ]:?Fe 4 ?me ?xg:=by apply ?G0 Ey;let#[H0,p,q,M,n,W,t,cnt,s,i,f,?g,x,hi,hf,hif,hds,ok,k]:=h;ext lN;let ?g8:=x.ex;ext h0;apply#[_,(Ai (Cb qb8 ?g (cI ?n ?aZ (?GU ?fy)) (?J6 3 Ey.nd) (Ae (?Fg 4 Ey.nd ?wH) (Ae (?Lv 5 Ey.nd (Bh J5 (?Fs ?ce ?W) (?Fs ?wH ?W))) (?Lt ?Ca (?G6 Dg (?L9 (De (?J5 O6 ?F (Aa ?L (Aa (N7 Iy ?a4) Ac))))))))))),?_];apply#[_,?g,_,?g,p,Af,dx,fs,_,?g,hp,?T,?cA,l3,q,_,?g,?v ?oQ,(f:Int),(cnt:Int),?o0,?i,?_];rw[?GS ((((cnt:Nat):Int)-?yz).toNat=cnt-f)];clear lx hp l1 l2 l3 l4 l5;apply Ck (lo:=(f:Int)) (n:=cnt-f) (λd σ G=>Op λo3 o4 o5=>σ=[?I,?bm,iS f,o3,o4,o5]/\?G2 G cnt ?jw) #[?p,?p,?p,?g,x] ?_ ?_;{rintro d σ G hd Dc;revert σ;apply zR ?_;intro o3 o4 o5 y Ei;let ?g8:=y.ex;let ?ek:=lx.ob;let ?fK:=lx.rw;let ?xG:=hds ?bv ?i ?i;have bo:=?BD;have ej:?yz+?zv=((?t2:Nat):Int):=O9m;rw[ej];have hji:?bv≠i:=O9m;have er:(?jw).1 ?bv=s.1 ?bv:=Z2 t i f s d _ hji;let ?oM:=?dt;let#[cj,_,ecj,_,hcj]:=?MN ?h8 (?Fq (?bv<n));rw[er]at hcj;apply(?GW ?nL ?jr);apply#[_,?g,p,Af,dx,fs,_,?g,hp,?T,?az,l1,_,?g,r,_,_,_,?g,?g,?ca,?fl,_,?g,ci,_,_,_,?g,?g,pV,?kf,_,?g,p,Af,dx,fs,_,?g,hp,?T,?az,l1,_,?g,r,_,_,_,?g,?g,?ca,Bj ecj,_,?g,cj,_,_,_,?g,?g,hcj,?kf,_,_,?g,?g,?C2,?_];have hsx:∀G',?Hk (?CQ i ?bv (-?hH) ?jw)->?Hk (?rH t i f s (d+1)):=λG' z=>z.re (by rw[Lat.shrS,er]);have hq:(?hH).natAbs<2 ^ big:=Lat.fdiv_small h2 (?eq i _ hi h1);apply ?JJ (σ'=[?I,?bm,iS f,?h ?t4,?Ft (((?m1:Nat):Int)),?Ft ?hH]/\?hU) (λkey=>?Fl #[by rw[←?AX];rfl,?g]);rintro _ _ ⟨rfl,rfl⟩;generalize ?hH=qq at hsx hq;apply ?bW;apply ?pM;{apply#[_,?g,p,dx,fs,?g,hp,?eW,_,?g,_,?g,_,?g,_,?g,?a7,?k5];have s1:?l G ?rF:=?ec;have hT:?Gb ?rF ?wi:=?k7;generalize ?rF=G1 at s1 hT;apply#[p,?c4,Af,r,b,_,n,W,_,_,?wi,?g,?go,?qK,hT,#[hi,?i,λz=>hji z.symm,?HQ (by rw[qd3];exact hq) (?eq _ _ ?i hc)],#[?i,hi,hji,?HQ (by rw[qd3,qd3];exact hq) (bo.2 _ _ hi hc)],?i,?i,?kW];exact#[_,_,_,?g,hsx _ (?L3 y.redo z)]};(have h5:qq=0:=?l6);subst h5;exact#[_,_,_,?g,hsx _ (y.re (Lat.addS_zero _ _ _).symm)]};ext eH;apply zR ?_;intro o3 o4 o5 y Ei;exact k _ y
noncomputable abbrev Ox:Stmt:=Eo ?gl 4
def Jo:?Fp [?aH,"i","j",?dU,?cS,?eo] ?qj Ox:=Bg
def bE[?H](F:?Fi ?n0 ?sb Ox)[?G](K5:?GH P Ah)(Nh:?GG P Ah):?Fe 4 ?qj ?sc:=by apply ?G0 Jo;let#[H0,p,L,R,nm,n,w,m,i,j,l,r,f,?g,x,hij,hj,mn,mw,ok,k1,k2]:=h;let ?kG:=x.sm;ext ra;ext rj;let#[p1,p1']:=ok.p1;let#[p2,p2']:=ok.p2;apply#[_,(Ae (?Fg 3 Jo.nd ?ce) (Ae (?Fg 4 Jo.nd ?dg) (Ai (Cc (?Fz Ku (Bh Fq ?W ?L)) (Ae (?Gd ?F (Aa ?A ?eX)) (Ae (?Fg 5 Jo.nd (Cm ?aQ ?c2 Nh hr (Aa ?F ?Df))) (Ae (?Gd ?A (?Lu ?F (?Kz (Bh K3 ?dO ?W)))) (Ae (Kj ?dO ?od) (?MB (Bh K3 ?vB ?W) ?pT))))) Bn)))),?_];ext Q;apply(?GJ (show i<m by ext d));apply(?GJ hj);apply Ff (?LI (?Jp none/\?bs)) ?_ ?fJ;ext bQ;apply(?Gj p1 _ ?g);apply ?b0;rotate_left;{(have h2:?cJ%?bf=0:=?aI);exact k1 (?sM h2)};ext Q;let#[dl,fl,hL,_,_,_,m4,_]:=lx.ob;apply ?Fd (σ'=[?I,?dE,?h ?gX,?h ?jn,?LU ?cJ,none]/\∃r1 b1,?JD H' ?id r/\LX H' Ah L r1 b1 ?p n n ?id ?qO/\?K5 r/\H0 r1=none/\H0 b1=none);{apply#[_,?g,p,Aj,kZ,KU,_,?g,hpa,?P,?dP,l3a,L,dl,fl,?g,hL,?xC,_,?g,_,?g,?a7,?k5];have s1:?KR ?le:=?ec;have hT:?Gb ?le ?E1:=?k7;generalize ?le=G1 at s1 hT;apply#[L,?c4,Ah,r1,b1,_,n,n,l,_,?E1,?g,?cc,?qK,hT,?tf,?tf,?i,?i,?kW];let ?AY:=x.left lx ly f3 f4 s1 sx n1 n2 z;exact ?Fl #[?g,r',b',y1,z,y2,?nf n1,?nf n2]};ext rr;let#[r1',b1',x2,lx2,ly2,f1',f2']:=gA;let#[tvb,dxb,fsb,hpb,l1b,l2b,l3b,l4b,l5b,l6b,l7b,_]:=x2.ob;let#[dr,fr,hR,_,_,_,m5,_]:=ly2.ob;apply ?q (λσ' H'=>S8 λ ?zl (g a b:Int)=>G9 ?oz (?mZ ?bf ?cJ g a b) ?qe (?JD H' ?id ?hf) (?KE L ?id) (?K5 ?hf)) ?r ?_;{apply#[_,?g,p,Aj,dxb,fsb,_,?g,hpb,?P,?ej,l4b,R,dr,fr,?g,hR,?zj,_,?g,_,?g,_,?g,_,?g,?_];apply#[R,Ah,r2,b2,_,w,w,i,j,?bf,?cJ,r,_,?g,?cc,ly2,?i,?i,?i,?i,?i,p1,p2,p1',p2',ok.br,λP g a b G fr kp hT sh z=>?_];let ?AY:=x2.right lx2 ly2 f1' f2' f3 f4 fr kp z;exact ?Fl #[P,g,a,b,?g,sh,hT,y1,y2,z]};apply Aw5 λP g a b H3 sh hT3 x3 lx3 ly3=>?_;intro sq;let ?mS:=x3.ob;let#[dl3,fl3,hL3,_,_,_,m6,_]:=lx3.ob;have g0:=sh.pos;have lg:?wF:=qc5 ?DA p1';have lb:b.natAbs<L9:=qc5 sh.lb p1';ext FZ;have ek:∀z:Int,z.fdiv g=z / g:=λz=>?q7;have lk':(?Es).natAbs<2 ^ 18000:=?IW (Bq0 lb p2');apply ?Fd (Fm ?oz ?qe (?JD H' ?Cy ?hf));{apply#[_,?g,p,Aj,dxc,fsc,_,?g,hpc,?P,?dP,l3c,L,dl3,fl3,?g,hL3,?Iw m6,_,?g,_,?g,_,?g,P,_,_,_,?g,?g,hT3,?g,_,?g,_,_,?g,?g,EO lb p2',_,?g,P,_,_,_,?g,?g,hT3,?g,_,_,?g,?g,cb _,_,?g,?a7,?_];rw[ek];intro T1 hT1;have s1:?l H3 ?nv:=?ec;have hT:?Gb ?nv ?AS:=?k7;generalize ?nv=G1 at s1 hT;apply#[L,?c4,Ah,r1',b1',_,n,n,_,_,?AS,?g,?cc,lx3.keep s1,hT,#[?i,?i,?i,?HQ (by rw[qd3];exact lk') (ok.bl.2.1 _ _ ?i hc)],#[?i,?i,?i,?HQ (by rw[qd3,qd3];exact lk') (ok.bl.2.2 _ _ ?i hc)],?i,?i,?kW];let#[y1,_]:=x3.left lx3 ly3 f3 f4 s1 sx n1 n2 z;exact ?Fl #[?g,mE (s1.seqT hT3) (?KV hL3) sx,y1]};apply LV λH4 hT4 x4=>?_;intro sq;let#[tvd,dxd,fsd,hpd,l1d,l2d,l3d,l4d,l5d,l6d,l7d,_]:=x4.ob;apply#[_,?g,P,_,_,_,?g,?g,hT4,?g,_,?g,p,Aj,dxd,fsd,_,?g,hpd,?P,?d2,l5d,_,?g,nm,_,_,i,?g,?g,x4.nu,Js ?iB,?_];have e1:?uh=?Hg ?o9:=RS ?i;have x5:=x4.num (ns':=?o9);rw[←e1]at x5;have hT5:SqT K (?m H4 nm (?t ?uh)) P ?xX:=Az6 hT4 x4.nu;apply ?M5 (?LI (Fm ?oz ?qe (WX K Ah Aj H0 H' p L R nm n w ?p ?Cy ?hf ?o9))) #[?g,hT5,x5];apply LV λH6 hT6 x6=>?_;intro sq;let#[tve,dxe,fse,hpe,l1e,l2e,l3e,l4e,l5e,l6e,l7e,_]:=x6.ob;have lA:(?bf / g).natAbs<L9:=?IW p1';apply#[_,?g,_,?g,P,_,_,_,?g,?g,hT6,?g,_,_,?g,?g,cb _,_,?g,_,_,?g,?g,(by rw[ek];exact EO lA p2'),_,?g,p,Aj,dxe,fse,_,?g,hpe,?P,?d2,l5e,_,?g,nm,_,_,j,?g,?g,x6.nu,Js (by rw[Bv];exact hj),?_];rw[ek];(have e2:(VI m ?vx).set j (?o (?bf / g*?cJ))=?Hg ?wT:=by rw[RS hj];show VI m _=VI m _;apply Ri ?tX;unfold shF Lat.put2;by_cases z1:c=j;{subst z1;rw[?bI,?hy,?bI]};rw[?aR z1];by_cases z2:c=i;{rw[?aj z2,?aj z2]};rw[?aR z2,?aR z2,?aR z1]);have x7:=x6.num (ns':=?wT);rw[←e2]at x7;exact k2 g a b _ sh x7
noncomputable abbrev Tl:Stmt:=top 67
def Dj:?E [?aB,"k",?eo,?nk,?oX,?hS,?al,?eZ,"turned_loops","turned_gauges","fillings",?bu,"i",?aY,?iJ,?hN] ?oo (Au Tl):=Bg
def HJ[?H](F:?Fi ?j7 ?j7 Tl)[?G][?FM][?gy][?lF](Oe:?G7 ?kP ?iP ?x7):?Fe 4 ?oo ?CI:=by apply ?G0 Dj;let#[a,tp,nm,r1,D1,D2,b2,vl,vg,xs,k,z,k0,w,L,G,f,l,r,?g,hL,Db,hw,hvl,hvg,x,hz,hkz,hkw,hf0,bl1,bl2,bL,bG,kq]:=h;let#[la,lu,?g,hlq,Am6,_]:=Iq hvl;let#[ga,gu,?g,_,_,_]:=Iq hvg;have hm:?bc<=40:=?nh;(have hwl:w<=40:=by rw[hw];exact ?nh);apply#[_,(Ae (?Fg 5 ?bS (?J8 ?dC)) (Ae (?Fg 6 ?bS (?J8 (?L9 ?pS))) (Ae (?Fg 7 ?bS (Bh ?di ?d4 (Bh jY ?pr (Bh Jf ?a4 ?s2)))) (Ae (?Lv 8 ?bS (?Lg (?Fk Dl ?d4 ?dF) ?L)) (Ae (?Fg 9 ?bS (?Lg ?d4 ?W)) (Ae (?Fg 10 ?bS (?LG Dl ?d4 ?s2)) (Ae (?Fg 11 ?bS ?dJ) (Ae (Cb qb8 ?g (?Hd U7 ?px ?cB) (?Ff 12 ?bS (?J6 13 ?bS)) (Ae (Ap (i:=14) ?bS (f7 (?Fz Er ?np) Jz (?MK ?Ef ?gp))) (Ae (?Lv 15 ?bS (?MK ?F ?br)) (?MI ?ee (De (Aa ?np (Aa (pv 15) (Aa (Ao Oe hr (?J5 ?y ?F (Aa (Ba ?a5 ?bD ?iT ?K) Ac))) (Aa (pv 14) Ac))))))))) (?LA ?ee))))))))),?_];ext Q;apply ?Fd (?LO none none/\?bs);{apply ?w3;rw[Am6];exact ?fe};ext bQ;apply ?Fd (?LO ?cV none/\?a6);{apply(?Hz hL ?i (λP H1 nP s1 hP=>?_));apply ?rR;rw[qa3];exact ?i2};ext lH;apply ?Fd (Ec λ(nn:Addr)=>Fm (?LO ?cV ?cz) ?a6 (?LB nn ?wE));{have x1:=?fY s1;apply#[_,?g,tp,_,_,_,?g,?g,x1.tup,?g,?a7,λl1 hl1=>?_];have s2:?KF ?vm:=?x hl1;have e2:?m H1 l1 ?ht l1=?h ?ht:=Ab;generalize ?vm=H2 at s2 e2;have x2:=x1.same s2;apply#[_,?g,_,?g,tp,_,_,_,?g,?g,x2.tup,?g,nm,_,?g,?v x2.num,_,_,?g,?g,l1,_,_,?g,?g,e2,?_,?_,?_,λl2 hl2=>?_];{rw[Bv];ext d};{rw[Bv];ext d};{rw[Bv];exact ?mC};(have er:(?cK (?nq-(((VI k0 f).length:Nat):Int)).toNat [?c1]).flatten=?Ew:=by rw[Bv,?GS ((?nq-?l1).toNat=z-k0)];generalize z-k0=n;induction n with| zero=>rfl| succ n ih=>rw[qk0,qm8,ih];rfl);rw[er];have s3:=?bV (?x (o:=?t ?Ew) hl2);have x3:=x1.same s3;apply#[nm,l2,_,_,?g,?g,x3.num,?aJ,Br (by rw[Bv,qk5];ext d),λnn hnn=>?_];apply ?Fl #[nn,?g,(?no).trans (?x hnn),?_];rw[Ab,kD hkz]};apply Sm λnn H2 s2 hnn=>?_;intro sq;apply ?Fd (Ec λ(tl:Addr)=>Fm (σ'=(?J7 ?cV ?cz ?dS)) ?f3 (?Jd H' tl (dT z ?bc (?hJ z l.2 L))));{have x2:=?fY s2;apply#[_,?g,tp,_,_,_,?g,?g,x2.tup,?g,_,?g,?gm,z,z,_,?g,x2.lback,?i,?i,λF as H3 hal R3=>?_];apply#[_,?g,_,?g,?u F,?p5,z,z,?bc,_,_,?g,?mw,?R ?DB hvl,?i,?i,?i,?Gk bl2 bL,λtl at_ H4 FZ R4=>?_];exact ?Fl #[tl,?g,R3.same.trans ?pk,R4.rep FZ]};apply Sm λtl H3 s3 FZ=>?_;intro sq;have s23:=?dw;apply ?Fd (Ec λ(tg:Addr)=>Fm (?LQ none none) ?ev (?Jd H' tg (dT z ?bc (?hJ z l.1 G))));{have x3:=?fY s23;apply#[_,?g,tp,_,_,_,?g,?g,?mc,?g,_,?g,_,?g,?u r1,?hg,z,z,?bc,_,_,?g,x3.left,?R s23 hvg,?i,?i,?i,?Gk bl1 bG,λtg at_ H4 htg R4=>?_];exact ?Fl #[tg,?g,?pk,R4.rep htg]};apply Sm λtg H4 s4 htg=>?_;intro sq;have QX:=s23.trans s4;apply ?Fd (Ec λ(fi:Addr)=>Fm (?LQ ?gw none) (?Jx H4) (?Jd H' fi (dT w w r.1)));{have x4:=?fY QX;let#[_,du,ez,hdq,Bv8,_]:=Iq ?DI;cases ez;apply#[_,?g,tp,_,_,_,?g,?g,?ql,?g,_,?g,tp,_,_,_,?g,?g,?ql,?g,D2,du,?g,?v hdq,?_];rw[Bv8];apply#[?d0,w,w,_,?g,?DI,?i,?i,λfi at_ H5 hfi R5=>?_];exact ?Fl #[fi,?g,R5.same,R5.rep hfi]};apply Sm λfi H5 s5 hfi=>?_;intro sq;apply ?Fd (Ec λ ?c5=>Bw (?LQ ?gw ?aA) ?pI (H5 D=none) ?DR);ext FI;apply Nu λD H6 s6 nD hD=>?_;intro sq;have s25:=QX.trans s5;have A74:=(?GE ?fm s5) _ _ hnn;have Bs9:=?R ?ji FZ;have Bt0:=?R s5 htg;have hL5:=?R s25 hL;apply ?Fd (Yd λ ?gE ?yl=>Bw (σ'=?A9) ?pI (?cL=?d9) (B7 H' us (?Jk E6 k)));{apply#[_,?g,nn,?g,#[_,?Fo s6 A74],?_];let B46:?aM:=λi σ G'=>Yd λ ?gE ?yl=>Bw (σ=?A9) (?l H5 G') (G' D=?d9) (B7 G' us (?yt (?Jk Dh k)));apply aB (K:=K) (a:=nn) (xs:=?wE) B46 #[[],?p,?p,?p,?p,?g,s6,hD,trivial] (λi σ G' _ hz=>?JX (?Lb g) g A74) ?_ ?_;{rintro i v σ G' p hv Dc hp;ext f;revert σ;apply zQ ?_;intro us o12 o13 o14 o15 g Ea rU Ei;(have hi:i<z:=by have:=?cZ;rwa [Bv]at this);rw[Cy hi]at hv;cases hv;(have VP:?GR i:=by have:=rU.len;rw[qa3,qk2]at this;exact this);have sp:?l G' ?El:=?dG;have ep:?L1 G' ?mU ?mU:=Ab;apply(?G3 p (?k ep));generalize ?El=G1 at sp ep;have g1:=?bK sp;(have rows:∀(t:Addr) (h w':Nat) (M:Lat.Mat) (G2:Hp),Rep K G2 ?nw (dT h w' M)->i<h->∃tu b,SqL K G2 t tu/\Um tu ?aO=?h ?iS/\SqL K G2 b (VI w' (M i)):=λt h w' M G2 hr hih=>by let#[_,tu,ez,hq,hl,Pg]:=Iq hr;cases ez;obtain⟨u,hu⟩:∃u,?Km tu u:=#[tu[i],qa0 ?i];let ?Bt:=Pg i u hu;exact#[tu,b,hq,Bj hu,hb]);apply ?Fd (Ec λ(fl:Addr)=>Fm (?JN o15) ?km (?LN fl (if ?kx=0 then [] else Mv xs (k+1) ?BQ)));{apply ?bW;apply ?b0;{(have e0:?kx=0:=?aI);apply λfl hfl=>?Fl #[fl,?g,?x hfl,?_];rw[Ab,?aj e0];rfl};(have e0:¬?kx=0:=?aI);(have hik:i<k0:=by by_cases hh:i<k0;{exact hh};unfold Lat.numAt at e0;rw[?aR hh]at e0;exact ?fu ?g e0);let ?oJ:=rows fi w w r.1 G1 (?R g1 hfi) ?i;apply#[_,?g,_,?g,_,_,?g,?g,_,?g,_,?g,fi,tu,_,_,?g,?g,h1q,h2q,a,b,xs,k+1,Gm w ?BQ,?g,?R g1 hL5,?i,?m6,by rw[F1,hw],λfl G2 nfl g2 hfl=>?_];apply ?Fl #[fl,?g,g2,?_];rw[hfl,?aR e0,hw];rfl};apply Sm λfl G2 g2 hfl=>?_;intro sq;have pZ:=?dr;apply ?Fd (Ec λ(lp:Addr)=>Fm (?JN (rS lp)) (?Jx G2) (?LN lp (Mv xs k ?s0)));{let ?oJ:=rows tl z ?bc _ G2 (?R pZ Bs9) hi;apply#[_,?g,_,?g,_,?g,_,?g,tl,tu,_,_,?g,?g,h1q,h2q,a,b,xs,k,Gm ?bc ?s0,?g,?R pZ hL5,?i,?m6,?v9,λlp G3 nlp g3 hlp=>?_];exact ?Fl #[lp,?g,g3,hlp]};apply Sm λlp G3 g3 hlp=>?_;intro sq;have ZZ:=pZ.trans g3;have A05:=?G1 ?DF g2 g3;let ?oJ:=rows tg z ?bc _ G3 (?R ZZ Bt0) hi;apply#[_,?g,?v #[?g,_,?Fo A05 Ea],_,?g,_,?g,_,?g,_,?g,_,?g,_,?g,tg,tu,_,_,?g,?g,h1q,h2q,a,b,xs,k,Gm ?bc (?hJ z l.1 G i),?g,?R ZZ hL5,?i,?m6,?v9,λgp G4 ngp g4 hgp=>?_];apply(?It ?p0);have g5:=?x (o:=?ip) ht;have et:?m G4 t ?ip t=?h ?ip:=Ab;generalize ?m G4 t ?ip=G5 at g5 et;have g45:=?qZ;have vR:=A05.trans g45;apply(?HM ?iw);have hP:Iv G5 ?nw (Dh xs k z k0 L G f l r i):=#[t,lp,gp,fl,?g,et,g45 _ _ hlp,g5 _ _ hgp,(?m4 g45) _ _ hfl,(Aq (g3 _ _ hfl) ngp).symm];(have nDt:∀c o,?tj->(∀vs,o≠?ob)->?eN:=λc o e h z=>by rw[z,?iw]at e;cases e;exact h _ ?g);(have sx:∀c o,?eN->?tj->?m G5 D (?t ?v6) c=?bh:=λc o hc e=>?Io hc);apply#[?v6,_,_,_,_,?g,?Ha vR nD,Ab,?_];rw[qk4,qb0];exact B7.snoc (B7.put ?iw (B7.same vR rU)) (Iv.put hP ?iw)};rintro σ G' Dc;revert σ;apply zQ ?_;intro us o12 o13 o14 o15 g Ea rU Ei;rw[Bv]at rU;exact ?Fl #[us,_,_,_,_,?g,g,Ea,rU]};apply Aw4 λus o12 o13 o14 o15 H7 s7 hD7 rU=>?_;intro sq;exact#[_,?g,kq D us H7 (s25.free nD) (s25.trans s7) hD7 rU]
noncomputable abbrev O0:Stmt:=Eo ?gH 2
def aZ:?Fp ?b9 ?b9 O0:=Bg
def BF[?H](F:?Fi ?pW ?xM O0)[?G][?gx]:?Fe 4 ?b9 ?xV:=by apply ?G0 aZ;ext rS;apply#[_,(Ae ?iC (Ai (Bd (B6 (N':=[?oS,?hN,?j3,?iJ]) (cap:=[none,none,none,none]) ?n ?X ?kK (?Fh (?LH (?J6 0 EN) (?M7 (?J6 1 EN) (?J6 2 EN) (?J6 3 EN)))) ?aC (?Fh (De (Aa ?y (Aa (?Jn ?aU) (?Lu (?Jn ?bB) (?Jn ?dC)))))))))),?_];ext rT;let B45:?a2:=?IH (Fe H G ys ?eC) (S8 λo1 o2 o3 o4=>τ=[o1,o2,o3,o4]);apply C5 (K:=K) (a:=E) (xs:=eu) B45 #[?bC,Ab,#[?g,λi v p e=>?qI],_,_,_,_,?g] ?ms ?_ ?_;{rintro i v ys τ G hv Dc;revert τ;apply A51 ?_;intro g Ea rY o1 o2 o3 o4 Ei;have hi:=?cZ;let ?kX:=?j0;let#[t,c1,c2,c3,?g,et,d1,d2,d3,_]:=?o7;(have yl:?rC:=by have:=rY.1;rw[qb9]at this;ext d);apply ?n7;apply#[_,?g,_,?g,c1,_,?g,?v d1,λa1 h1=>?_];have g1:=?Hv (q.2.1) h1;apply#[_,?g,c2,_,?g,?v (?II d2),λa2 h2=>?_];have g2:=?gi ?Cn;apply#[_,?g,c3,_,?g,?v (g2 _ _ d3),λa3 h3=>?_];have g2':=?Cn;have g3':=?Hv ?mm h3;have g3:=?wP g3';apply#[?a7,λt' ht'=>?_];have g4':=?x (o:=?U [?qq,?u a1,?u a2,?u a3]) ht';have g4:=?m4 g4';apply#[?mO,?b2,?Ha g4 hD,Ab,?_,_,_,_,_,?g];rw[qe1,hq];apply Fe.snoc ((rY.same g4).put ?mO) (Ps.put ?_ ?mO);exact#[t',a1,a2,a3,?g,#[(?bK g3).free ht',?kb h1,(?g7).free h2,(?bK g2).free h3],Ab,(?G1 g2'.trans g3' g4') _ _ Ab,(g3'.trans g4') _ _ Ab,g4' _ _ Ab]};rintro ys τ G ⟨g,Ea,rY,_⟩;rw[el,qc8]at rY;exact kq ps D ys G hps hD g Ea rY
noncomputable abbrev O5:Stmt:=Eo ?gH 4
def AZ:?Fp ?b9 ?b9 O5:=Bg
def BG[?H](F:?Fi ?pF ?sr O5)[?G][?gx]:?Fe 4 ?b9 ?AN:=by apply ?G0 AZ;ext rS;apply#[_,(Ae ?iC (?MW (?MT (?L9 (?MH Er ?i5))))),?_];ext rT;let B44:?a2:=?IH (ys.length=(?CH λp=>?aF (p.1=0)).length) ?d5;apply ?Gv B44;{rintro i v ys τ G hv Dc;revert τ;apply ?ar;intro g Ea yl o Ei;let ?kX:=?j0;let ?BM:=?o7;(ext rW);(have y40:?rC:=by have h3:=?I1 (p.1=0);rw[qb9]at h3;ext d);apply ?xT;apply ?jA;{(have jF:?gT:=?bn);apply#[_,?g,Ea,?b2,g.turn hD,Ab,?_,_,?g];rw[fG,qi9,qj1,?aj ?kC,qq8,qb7,qb7,yl];rfl};(have jF:¬?gT:=?bn);apply ?zC;rw[fG,qi9,qj1,?aR ?kC,qq8,qv9,yl]};rintro ys τ G ⟨g,Ea,yl,_⟩;apply#[D,ys,?g,?v ?n1,?_];rw[el,qc8]at yl;rw[yl];exact kq ps G hps g
noncomputable abbrev M9:Stmt:=Eo ?gH 5
def Z6:?Fp ?b9 ?b9 M9:=Bg
def i8[?H](F:?Fi ?nD ?zF M9)[?G][?gx]:?Fe 4 ?b9 ?wb:=by apply ?G0 Z6;ext rS;apply(?Lr ?iC (?LA (?MH Ku ?p8)));ext rT;let B43:?a2:=λi ys τ G=>Bw ?cH ?la (ys=((?CH λp=>?aF (p.1≠0)).map (·.1)).map ?J) ?d5;apply ?Gv B43;{rintro i v ys τ G hv Dc;revert τ;apply ?ar;intro g Ea yl o Ei;let ?kX:=?j0;let ?BM:=?o7;(ext rW);(have y40:?rC:=by have h3:=?I1 (p.1≠0);rw[qb9]at h3;rw[yl,qa3,qa3];ext d);apply ?xT;apply ?jA;{(have jF:¬?gT:=?bn);apply#[_,?g,t,_,_,_,?g,?g,?dp,?g,Ea,?b2,g.turn hD,Ab,?_,_,?g];rw[fG,qi9,qj1,?aj ?kC,qq8,qb0,qb0,yl];rfl};(have jF:?gT:=?bn);apply ?zC;rw[fG,qi9,qj1,?aR ?kC,qq8,qv9,yl]};rintro ys τ G ⟨g,Ea,yl,_⟩;rw[el,qc8]at yl;apply kq ps D G hps hD g ?_;rw[Ea,yl];rfl
noncomputable abbrev Ts:Stmt:=top 12
def gX:?Fp ?hI ?hI Ts:=Bg
def HS[?H](F:?Fi ?hA ?hA Ts)[?G](z8:?Hw ?jy ?iZ ?xi):?Fe 5 ?hI ?tn:=by apply ?G0 gX;let#[a,b,xs,k,ms,?g,hL,hb,hm,kq]:=h;apply#[_,(Ae (?JS (Bc iV ?ml Dn (?GU (?LR "dict" ?ez Gc))) ?cb) (?MW (Bc ?kQ ?h4 Sc (?L9 (jX (B6 (N':=[?bd,?aY,?aB,"k"]) (cap:=[none,none,?dy,?ah]) ?n ?X (Lr ?A) (?Lp zK zK) ?aC (?Fh (?ML z8 (?J5 ?A ?L ?bj))))))))),?_];ext Q;apply(?HO b _ (?v hb));ext lM;apply ?Gr ?d8 hb;apply#[_,?g,b,o,?d8,?g,Ab,?aP];let#[rA,CI]:=aA hD;let B42:?a2:=?Kv (Da (zs=(?Hx ms.take i ?w4).map V.bl) (H1 b=?h ?qi) ?Bh (S5 b H H1) (?Hs [o1,o2,?w,?av]));apply Ue (d:=b) (o:=o) (kvs:=?d8) B42 #[?g,?_,Ab,?_,?p,?p,?g] (λi zs τ H1 _ hz=>?Jh #[_,e,_]) ?_ ?_;{rw[?dx];exact Ab};{intro c q n1 e2;rw[Al (Aq e2 rA),?gN];exact e2};{rintro i kk x zs τ H1 p hx Dc hp;revert τ;apply tS ?_;intro hz1 hb1 Dt hk1 o1 o2 Ei;subst hz1;let ?f6:=?dz;have hlt:?BI:=?i9;have sp:?IB H1 H1 p:=?dG;apply ?fG;apply#[_,?g,_,?g,_,?g,_,?g,a,xs,k,q.1,q.2,?g,?R sp (Rep.x hk1 hb hL),?_];apply#[?ys,?oI,?_,?_,Ab,λc r n1 e2=>?_,_,_,?g];{rw[qo3,hq,qb0,qb0];rfl};{rw[?dx];exact ?HW hb1};rw[Al (λz=>by rw[z,rA]at e2;cases e2)];exact ?HW (hk1 c r n1 e2)};rintro zs τ H1 ⟨rfl,hb1,Dt,hk1,_⟩;rw[Ks,qc8]at Dt;apply#[hb1,D,ms.map ?w4,?g,?k ?x3,?_];rw[List.all_map];apply kq _ λc q e2=>?_;by_cases z:c=b;{subst z;rw[hb]at e2;cases e2;exact Ab};rw[?dN];exact hk1 c q z e2
noncomputable abbrev Ln:Stmt:=top 31
def Kd:?Fp [?en,?bd,?jJ] [?en] Ln:=Bg
def Yj[?H](F:?Fi ?jb ?jb Ln)[?G](UE:?Hw ?kU ?oh ?u6):?Fe 5 [?en] ?AD:=by apply ?G0 Kd;let#[v,xs,?g,hL,hs,hx,k]:=h;let#[a,us,?g,hq,r]:=?gB;(have hl:?ng:=?h6);apply(?Lr (Cb qb8 ?g ?Bm (?Ff 1 Kd.nd (?J6 2 Kd.nd)) (Ai (?JS (?Fk UE ?nP ?bB) ?yc))) (?LA JW));ext Q;apply(?GF a #[us,hq] ?_);let B41:?aM:=?Jl (Kc λo1 o2=>σ=[?w,o1,o2]/\?cH);apply aB (K:=K) (a:=a) (xs:=us) B41 #[?p,?p,?g,?jz H] (?GC (by let#[_,_,_,s1]:=hz;exact ?mg)) ?_ ?_;{rintro i v σ G p hv Dc hp;ext f;revert σ;apply zS ?_;intro o1 o2 s1 Ei;(have hi:?qy:=by have:=?cZ;ext d);let ?yZ:=r.getV hv;(have edv:dv=?AZ:=by rw[qa7,?be]at uD;simpa using uD.symm);subst edv;have sp:?l G ?BW:=?dG;apply ?fG;generalize ?BW=G1 at sp;have s2:=?kn;apply#[_,?g,_,?g,_,?g,a,us,?g,?em hq,?tX];have s3:?l G1 ?tO:=?x hc;have ec:?m G1 c ?lX c=?h ?lX:=Ab;generalize ?tO=G2 at s3 ec;have s4:=?dw;(have Bw1:LT K G2 ?xN ?yv:=by apply#[c,_,?g,?k ec,?_];rw[J8,qo4];exact(?IO s4).take i);apply#[_,?g,c,v,?AZ,?yv,?g,Bw1,?R s4 rv,λG3 s5=>?bZ];rw[QA (hs i xs[i] ?be)];apply ?fZ;exact#[_,_,?g,?ji]};ext eH;apply zS ?_;intro o1 o2 s1 Ei;exact k G s1
noncomputable abbrev M6:Stmt:=Eo ?gv 2
def Ib:?Fp [?aH,?nu,"i","at","head",?cS] ?p4 M6:=Bg
def i5[?H](F:?Fi ?n2 ?y0 M6)[?G][?FD][?rZ](Kq:?GG P Af):?Fe 5 ?p4 ?to:=by apply ?G0 Ib;let#[H0,p,q,M,n,W,t,?S,i,s,Nx,?g,x,hs,hi,ok,k]:=h;ext lN;let ?xK:=x.ex;ext h0;let ?fK:=lx.rw;let ?xG:=ok.hd ?S ?iL hs;let#[o1,o2]:=ok.oth;let ?oM:=?dt;let ?tw:=?MN ?h8 ?gR;apply#[_,(Ae (?Fg 3 Ib.nd ?ce) (Ae (?Fg 4 Ib.nd (?Jc ?ce ?L)) (Ae (?Fg 5 Ib.nd (?Jc ?dg ?L)) (Ae (Cc (?Fz Er (Bh Fq ?a4 ?W)) (?G6 Dg (?L9 (De (Aa O6 (?J5 ?A ?F (Aa (N7 Iy (Bh J5 ?a4 ?W)) Ac)))))) (Ae (Bt (Cm ?y ?T Kq hr (?J5 ?F ?A ?A0))) ?vk)) (?G6 Cs (Aa ?A ?uX)))))),?_];ext Q;apply(?GW ?oQ (?Kj hs));apply#[_,?g,p,Af,dx,fs,_,?g,hp,?T,?az,l1,_,?g,r,_,_,_,?g,?g,?ca,Bj ecs,_,?g,cs,_,_,_,?g,?g,hcs,?kf,?_];apply#[_,?g,p,Af,dx,fs,_,?g,hp,?T,?az,l1,_,?g,r,_,_,_,?g,?g,?ca,?fl,_,?g,ci,_,_,_,?g,?g,pV,?kf,?_];apply ?JJ (?mz/\?bs) ?BA;ext bQ;apply ?MD (?LI (?mz/\∃s1,?G2 H' i s1/\dP n W t i ?b7 i s1/\Hds W t ?b7 i s1.1/\Nx (?rH t i ?b7 s1 (i-?b7))));{apply(?Gj h2 _ ?g);apply ?pM;{(have h5:?eQ%?fH=0:=?l6);have h6:?eQ=?my*?fH:=(Int.ediv_mul_cancel (?sM h5)).symm;let ?At:=ok.add _ h6;apply#[_,?g,p,dx,fs,?g,hp,?eW,_,?g,_,?g,_,?g,_,?g,_,_,?g,?g,?C2,_,?g,?a7,?_];rw[?AX];have hk:?Hm ?my:=?IW o2;generalize ?my=kk at h6 zH ZG hk;intro T1 hT1;have s1:?KR ?rK:=?ec;have hT:?Gb ?rK ?rD:=?k7;generalize ?rK=G1 at s1 hT;apply#[p,?c4,Af,r,b,_,n,W,_,_,?rD,?g,?go,?qK,hT,#[hi,?i,?i,?Kw (KH (by rw[qd3];exact hk) (ok.bo.1 _ _ ?i hc))],#[?i,hi,?i,?Kw (KH (by rw[qd3,qd3];exact hk) (ok.bo.2 _ _ hi hc))],?i,?i,?kW];apply ?Fl #[?g,_,?L3 x.redo z,zH,?vK,ZG];have e:(tnS ?rD s).1 j=?l7:=Lat.addR_row_ne ?Ee;rw[e];exact ?sL};apply ?JJ (?mz/\∃g a c,?mZ ?fH ?eQ g a c/\?G2 H' i ?rI) ?cE;rotate_left;{apply(?H2 ?g _);apply#[p,Af,r,b,_,n,W,?S,i,_,_,s,_,?g,?go,lx,?i,hi,?i,?i,?i,h2,o1,h3,o2,ok.bo,λL g a c G fr kp _ sh z=>?_];exact ?Gc #[?g,g,a,c,sh,x.redo2 lx f1 f2 fr kp z]};apply Iw λG gA=>?_;intro sq;let#[g,a,c,sh,y]:=gA;let#[zH,ZG,ok3]:=ok.ble g a c sh;(have hd1:Hds W t ?b7 i (?rI).1:=λj hj1 hj2=>by have e:(?rI).1 j=?l7:=?sR ?uC ?Ee _ _ _ _;rw[e];exact ?sL);let ?vJ:=y.ex;let ?DG:=ly.ob;apply ?v8;apply#[H0,p,q,M,n,W,t,i,_,?S,?b7,?g,y,?i,?i,?v ?i,hd1,zH,?uR];apply ?Fl #[?g,_,z,ZG,?vK,ok3];rw[Z2 _ _ _ _ _ _ ?uC];exact hd1 j hj1 hj2};apply Iw λG gA=>?_;intro sq;let#[s1,y,zH,hd1,ZG]:=gA;let ?vJ:=y.ex;let ?DG:=ly.ob;apply ?v8;exact#[H0,p,q,M,n,W,t,i,s1,i,?b7,?g,y,hi,?i,?O ?iL,hd1,zH,λG' z=>k _ _ z ZG]
noncomputable abbrev Kf:Stmt:=Eo ?gv 3
def N4:?Fp ?fg ?bM Kf:=Bg
def Wt[?H](F:?Fi ?q4 ?EJ Kf)[?G][?FD]:?Fe 5 ?bM ?A8:=by apply ?G0 N4;let#[H0,p,q,M,n,W,t,i,s,?g,x,ok,k]:=h;ext lN;let ?g8:=x.ex;ext h0;apply(?MM (Cb qb8 ?g (WZ ?n ?aZ (?J5 (?LZ ?fy) ?rG (?L9 ?rG))) (?J6 1 N4.nd) ?vk));apply#[_,?g,p,Af,dx,fs,_,?g,hp,?T,?cA,l3,q,_,?g,?v ?oQ,_,_,?g,?g,_,?g,_,?g,?aG,?o0,?i,?_];clear lx hp l1 l2 l3 l4 l5;let B40:?aM:=λd σ G=>Ec λo1=>σ=?BL/\?G2 G ?aG ?D1;apply uI (hi:=((?aG:Nat):Int)-1) (n:=?aG) B40 ?B5 ?_ ?_;{rintro d σ G hd Dc;ext f;revert σ;apply ?g0;intro o1 y Ei;let ?g8:=y.ex;let ?ek:=lx.ob;rw[?GS (((?aG:Nat):Int)-1-?zv=((i-d:Nat):Int))];let ?At:=?BD;apply(?H2 _ ?g);apply#[H0,p,q,M,n,W,t,?aG,?D1,i-d,i-d+1,?g,y,?i,?i,?v ?i,zH,ZG,?uR];rw[?Fq (?aG-(i-d+1)=d)]at z;exact#[_,?g,z]};ext eH;apply ?g0;intro o1 y Ei;exact k _ y
noncomputable abbrev Gq:Stmt:=Eo ?gl 3
def C6:?Fp [?aH,?hS,"gap","i","j"] ?bM Gq:=Bg
def zt(m i:Nat):?nj=m-?aG:=Int.toNat_sub m ?aG
def zu{m i:Nat}(h:i<m):?aG+?nj=m:=by rw[zt];exact Nat.add_sub_cancel' h
def Qu[?H](F:?Fi ?pq ?Ag Gq)[?G](K4:Jn P w K mg ?j Aj ?n0 ?qj 4 ?sc):?Fe 5 ?bM ?uB:=by apply ?G0 C6;let#[H0,p,L,R,nm,n,w,m,l,r,f,Sv,?g,x,mn,mw,v0,vs,k]:=h;let#[LO,Aq1,SA]:=T.x_GAPS;let ?kG:=x.sm;ext ra;apply#[_,(Ae (?Fg 1 ?hL ?fy) (Ae (Cb qb8 ?g (?Fw Vg (Ig (v:=?u LO) ?n Aq1 ?g)) (?IX 2) (?Ln (?GI (?L5 ?A)) (?I4 (?J5 ?L (Bh Df ?L ?A) Ac)))) (?Ln ?yp (Ai (Cb qb8 ?g (cI ?n ?aZ (?MV ?rv)) (?IX 4) (?I4 ?kM)))))),?_];ext Q;apply ?Fd (?Jo ?I ?eL none/\?bs);{exact#[_,?g,p,Aj,kZ,KU,_,?g,hpa,?P,?d2,ZS,nm,_,?g,?v ?pp,?Fl #[by rw[qa3,F1];rfl,?g]]};ext bQ;apply ?Fd (Kc λ ?vA=>σ'=(?KW o2)/\∃(d:Nat) (f:?f2) (l r:?cm),d<=5*m/\?jj/\?JD H' l r);{apply#[LO,?g,#[_,SA H],?_];let B39:?aM:=λg σ' G=>Kc λ ?vA=>?Fx (?KW o2) (d<=g*m/\?vb);apply YE (K:=K) (a:=LO) (xs:=(([32,16,8,4,2]:?b3).map ?J)) B39 #[?p,?p,?g,0,f,l,r,?i,v0,x] (λg σ G _ _=>SA G) ?_ ?_;{rintro g y σ G hy Dc;ext f;let ?BV:=Dc;(have hg:∃gp:Nat,y=?ze/\1<=gp/\gp<=32/\g<5:=by match g,hy with| 0,hy=>cases hy;exact(?H3 32)| 1,hy=>cases hy;exact(?H3 16)| 2,hy=>cases hy;exact(?H3 8)| 3,hy=>cases hy;exact(?H3 4)| 4,hy=>cases hy;exact(?H3 2)| g+5,hy=>simp at hy);let#[gp,?g,g1,g2,g5]:=hg;apply(?Gj _ ?i ?i);apply Ck (lo:=0) (n:=(?ei-?zL).toNat) (λi σ' G=>Ec λ(o3:?i3)=>?Fx (?KW (?h ?ze)) (d<=g*m+i/\?vb)) #[o3,?g,d,f,l,r,hd,hv,z] ?_ ?_;{rintro i σ G hi ⟨o3,rfl,d,f,l,r,hd,hv,z⟩;rw[Int.toNat_sub]at hi;replace hi:=?BB hi;rw[qj7];let ?mS:=z.ob;(have hm5:g*m+m<=5*m:=?Ge (show g+1<=5 from g5));apply#[_,?g,p,dxc,fsc,?g,hpc,?xd,_,?g,_,?g,_,?g,_,_,?g,?g,?_];let ?AJ:=?I0 (i+gp);apply(?GX (i+gp));{exact#[_,?g,d+1,f,l,r,?i,o2' uD,z]};exact#[_,?g,d+1,_,_,_,?i,?sJ,z']};rintro σ G ⟨o3,rfl,d,f,l,r,hd,hv,z⟩;apply#[_,_,?g,d,f,l,r,?_,hv,z];rw[qg2,qf9];rw[Int.toNat_sub]at hd;exact qa5 hd ?w2};rintro σ G ⟨o2,o3,rfl,d,f,l,r,hd,hv,z⟩;exact ?Fl ?BV};apply YW λo2 o3 G gA=>?_;intro sq;let#[d,f,l,r,hd,hv,z]:=gA;ext rp;apply Ck (lo:=0) (n:=(?ei).toNat) (λi σ' G=>Kc λ(o3 o4:?i3)=>?Fx [?I,?eL,o2,o3,o4] (d<=5*m+i*m/\?jj/\?yi m i f/\?mf)) #[o3,?p,?g,d,f,l,r,?i,hv,λa b ha=>O9m,z] ?_ ?_;{rintro i σ G hi ⟨o3,o4,rfl,d,f,l,r,hd,hv,hc,z⟩;rw[qe0]at hi;rw[qj7];(have him:i*m+m<=m*m:=?Ge (show ?aG<=m from hi));apply#[_,?g,_,_,?g,?g,_,?g,_,_,?g,#[?i,?i,?i,?i],?_];apply Ck (lo:=?qN) (n:=?nj) (λj σ' G=>Ec λ(o4:?i3)=>?Fx [?I,?eL,o2,?dE,o4] (d<=5*m+i*m+j/\?jj/\Lat.ChainAt m i ?kz f/\?mf)) #[o4,?g,d,f,l,r,?i,hv,hc.at,z] ?_ ?_;{rintro j σ G hj Dc;ext f;rw[zt]at hj;replace hj:=?BB hj;let#[o4,?g,d,f,l,r,hd,hv,hc,z]:=Dc;rw[?Fq (?qN+?eB=((?kz:Nat):Int))];let ?mS:=z.ob;apply#[_,?g,p,dxc,fsc,?g,hpc,?xd,_,?g,_,?g,?_];let ?AJ:=?I0 ?kz;apply(?GX ?kz);{exact#[_,?g,d+1,f,l,r,?i,o2' uD,hc.skip uD,z]};exact#[_,?g,d+1,_,_,_,?i,?sJ,hc.step ?i ?i sh.pair,z']};rintro σ G ⟨o4,rfl,d,f,l,r,hd,hv,hc,z⟩;rw[zu hi]at hc;apply#[_,_,?g,d,f,l,r,?_,hv,hc.next,z];rw[qg2,qf9];rw[zt]at hd;exact qa5 hd (qa5 ?w2 (Nat.le_of_eq (Nat.add_assoc _ _ _)))};rintro σ G ⟨o3,o4,rfl,d,f,l,r,hd,hv,hc,z⟩;rw[qe0]at hc;exact k d f l r _ hv hc z
noncomputable abbrev E8:Stmt:=top 14
def Mc:?Fp ?jl ?jl E8:=Bg
def Md[?H](F:?Fi ?jN ?jN E8)[?G][?FO]:?Fe 6 ?jl ?An:=by apply ?G0 Mc;let#[a,b,xs,n,ms,?g,hL,hb,hm,hn,kq]:=h;apply#[_,(?MW (Bc (?Fw v5 ?n) ?oL Sb (?L9 (B6 (N':=["k",?aB,?bT]) (cap:=[none,?dy,?ah]) ?n ?X ?vg (?Fh (?J6 0 A40)) ?aC (?Fh (?ML Lb (?J5 ?F ?y ?bB))))))),?_];ext rk;let B38:?a2:=?Kv (Bw ?gk ?Bh (zs=?Hx ?yt ?lx V.bl) (?G8 [o,?w,?a3]));apply J9 B38 ?cT ?_ ?_;{rintro i zs τ H1 hi Dc;revert τ;apply ?ar;intro s1 Dt hzs o Ei;have hi2:i<n:=O9m;apply#[_,?g,_,?g,_,?g,a,b,xs,_,ms,?g,?eK,?eV,hm,?pE];apply(?HV ?nB (?b5 (by rw[hzs,qa3,qa3,qk2];ext d)) ?cN);rw[qk4,qb0,qb0,hzs,?Fq (?ba=?aO)];rfl};rintro zs τ H1 ⟨s1,Dt,hzs,_⟩;rw[qe0]at hzs;apply#[D,?Hx ?qf n ?lx,?g,?k (by rw[Dt,hzs]),?_];rw[List.any_map];exact kq _ s1
noncomputable abbrev Tr:Stmt:=top 29
def GW:?Fp ?fU ?fU Tr:=Bg
def HR[?H](F:?Fi ?jM ?jM Tr)[?G](Kr:?Fj ?Ch ?fU mG)(Ni:?B P w K mg ?j ?jb [?en] 5 ?AD):?Fe 6 ?fU ?ty:=by apply ?G0 GW;let#[v,xs,?g,hL,hs,Db,k]:=h;apply(?Lq (O8 (?JB Kr ?b8) (Qq (Mp Ah5 (?JB Ni ?b8) JW ?M))));apply#[_,?g,v,xs,?g,hL,Db,_,?g,?_];apply ?Hi ?n;exact#[_,?g,v,xs,?g,hL,hs,Db,λH1 s1=>#[?g,?fa]]
noncomputable abbrev Kg:Stmt:=Eo ?gv 1
def I0:?Fp [?aH,"i",?nu] ?fg Kg:=Bg
def Wu[?H](F:?Fi ?pY ?wC Kg)[?G](Od:?Fj ?ve [?e7] U0)[?rZ](Ng:Jn P w K mg ?j Af ?n2 ?p4 5 ?to):?Fe 6 ?fg ?yM:=by apply ?G0 I0;let#[H0,p,q,M,n,W,t,i,s0,I,?g,x,hi,P,ht,k]:=h;ext lN;apply#[_,(Ae (?Fg 2 I0.nd Ak) (Ae (U5 qb8 (?Jy (Bf U8 ?A ?F ?M) (Bf MM ?dg ?sA ?M)) (Ae (Cc (Bf Er ?dg ?sA ?M) (?G6 Ng ?C6) Bn) (?JH 2 I0.nd (?Lx ?A)))) (Ae ?tL (Ae ?tL (Ae (?LJ (?JB Od ?gS)) (?Lt (Bf U8 (?Fs ?dg ?dg) Ak ?M) (?G6 Dg (?L9 (De (Aa O6 ?bB)))))))))),?_];ext Q;apply Ff (?LI (σ'=[?I,?bm,?Ft ?BU]/\?bs)) ?_ ?fJ;ext bQ;apply ?Fd (Op λspot st s=>G9 ?eU (?Ky t i s) ?Em ?zn (Iu W ?fQ st) ((?mD->st<?ct)));{apply#[λm σ' G=>Kc λspot s=>Da ?eU (?G2 G i s) ?Em ?zn (m=i-spot),#[_,0,s0,?g,x,P.start,?ae,?g],?_];rintro m σ G Dc;apply xW ?_;intro _;let#[?S,s,?g,y,hI,hs,?g]:=Dc;let#[st,hb]:=Iu.ex (P.ok ?S s hs hI);let ?g8:=y.ex;let ?ek:=lx.ob;let ?fK:=lx.rw;let ?oM:=?dt;apply(?HL _ ?g _);apply ?b0;{(have hlt:?mD:=?HG ?mM ?aO);apply#[_,?g,p,Af,dx,fs,_,?g,hp,?T,?cA,l3,_,?g,q,_,_,_,?g,?g,?nL,?Kj hlt,_,?g,p,Af,dx,fs,_,?g,hp,?T,?az,l1,_,?g,r,_,_,_,?g,?g,?ca,?fl,ci,W,st,_,?g,pV,hb,?i,_,_,?g,?g,_,?g,?_];apply ?jA;{(have hle:?ct<=st:=by (have:?x2:=?bn);ext d);apply#[λσ' G'=>Kc λME s'=>Bw (σ'=[?I,?bm,?Ft (((ME:Nat):Int))]) ?vf (I ME s') (ME=?b7),?_,?_];{rintro σ' G' ⟨ME,s',rfl,z1,z2,rfl⟩;exact#[i-?b7,?i,?b7,s',?g,z1,z2,hlt,?g]};apply Am (t:=?mu) (λσ' G'=>?eU/\∃s',?vf/\I ?b7 s') ?_ ?cE;rotate_left;{apply#[_,?g,p,Af,dx,fs,_,?g,hp,?T,?cA,l3,_,?g,q,_,_,_,?g,?g,?nL,?Kj hlt,_,?g,p,Af,dx,fs,_,?g,hp,?T,?az,l1,_,?g,r,_,_,_,?g,?g,?ca,?fl,ci,W,st,_,?g,pV,hb,?i,?g,_,?g,?_];apply ?as ?or ?or;{(have he:?ct=st:=by (have:?kv=?lu:=?C8);ext d);apply#[_,?g,p,dx,fs,?g,hp,?eW,_,?g,_,?g,?_];apply#[H0,p,q,M,n,W,t,?S,i,s,I ?b7,?g,y,hlt,hi,P.meet ?S s hlt hI ?wo (by rw[he];exact hb.2.1),λG' s' z1 z2=>?_];exact ?Gc #[?g,s',z1,z2]};(have he:¬?ct=st:=?Hj (?kv=?lu) ?C8);exact ?Gc #[?g,s,y,P.skip ?S s hlt hI ?wo]};rintro _ G' ⟨rfl,s',z1,z2⟩;exact#[_,?g,_,_,?g,?g,?b7,s',?g,z1,z2,?g]};(have hle:¬?ct<=st:=?Hj ?x2 ?bn);exact ?Fl (?L6 (λ_=>O9m))};(have hlt:¬?mD:=?Hj (?mM<?aO) ?aI);exact ?Fl (?L6 (λz=>?fu z hlt))};apply RH λspot st s G y hI hs hb hex=>?_;intro sq;let ?xK:=y.ex;ext h0;let ?fK:=lx.rw;let ?iN:=lx.bk;let ?B0:=lx.refs;have rb:=lx.ne;let#[ci,rci,rC,mci,pV]:=?dt;let#[di,rdi,edi,mdi,hdi]:=?uq;(have six:∀l:Nat,i<l->seqIndex? ?it l=?h i:=λl hl=>by unfold seqIndex?;simp only[?Fq (¬?it<0),if_false,qe0];first | (rw[?hy]) | (rw[?aj ?ck]) | (ext aL));apply ?Fd (Fm ?eU ((∀a,a≠r->H' a=G a)) (?LB r (?Ly ci ?bz)));{apply#[_,?g,p,Af,dx,fs,_,?g,hp,?T,?az,l1,?L0 ?ca,_,?g,_,?g,p,Af,dx,fs,_,?g,hp,?T,?az,l1,?L0 ?ca,_,?g,r,_,_,i,_,?g,?g,?fz,?i,?i,six _ ?hF,rC,?_];apply(?KO r (by rw[qj8 ?hF,qa3,?de];ext d));rw[qj8 ?hF,qa3,?de];ext d};apply LV λG1 e1 r1=>?_;intro sq;apply ?Fd (Fm ?eU ((∀a,a≠b->H' a=G1 a)) (?Lk (?Ly di ?nJ)));{have hp1:G1 p=_:=(e1 _ pr).trans hp;have b1:G1 b=_:=(e1 _ rb.symm).trans ?mF;apply#[_,?g,p,Af,dx,fs,_,?g,hp1,?T,?ij,l2,?G5 b1,_,?g,_,?g,p,Af,dx,fs,_,?g,hp1,?T,?ij,l2,?G5 b1,_,?g,b,_,_,i,_,?g,?g,b1,?i,?i,six _ ?ka,edi,?_];apply(?KO b (by rw[qj8 ?ka,qa3,xb.1];ext d));rw[qj8 ?ka,qa3,xb.1];ext d};apply LV λG2 e2 b2=>?_;intro sq;have r2:=(e2 _ rb).trans r1;have e02:∀a,a≠r->a≠b->G2 a=G a:=λa h1 h2=>(e2 a h2).trans (e1 a h1);have hp2:=(e02 _ pr pb).trans hp;have qr:q≠r:=λz=>lx.nr ?zT;have qb:q≠b:=λz=>lx.nb ?zT;have q2:=(e02 _ qr qb).trans y.st;let#[ya,ma]:=xa.move hi hs rci r2 λa ha=>e02 a (?qu).1 (?qu).2.1;let#[yb,mb]:=xb.move hi hs rdi b2 λa ha=>e02 a (?j8).1 ?D8;let ?tw:=?Fw ya.row ?gR;(have Bb4:Lat.moveR s.1 i ?S ?S=?fQ:=by rw[Lat.move_row];unfold Lat.mvI;rw[?hy,?bI]);rw[Bb4]at hcs;apply ?Fd (?eU/\?Ky (?DT t ?S st) ?aG ?EN);{apply#[_,?g,p,Af,dx,fs,_,?g,hp2,?T,?cA,l3,?G5 q2,_,?g,_,?g,p,Af,dx,fs,_,?g,hp2,?T,?az,l1,_,?g,r,_,_,_,?g,?g,?k r2,Bj (by rw[cU,Wy]at ecs;exact ecs),cs,W,st,_,?g,hcs,hb,?i,?_];apply#[q,_,?S,_,?g,?g,q2,by rw[Bv];exact hs,?b5 ?iB,?Fl ?dn];rw[jO hs];have qp:p≠q:=Fn hp y.st ?ft;apply#[#[r,b,#[(?HK (by rw[Al qp];exact hp2)),#[_,?L8 ya.put qr.symm ?tr,?Hh ?tr],#[_,?L8 yb.put qb.symm ?yb,?Hh ?yb],rb,lx.nr,lx.nb,?k4],f1,f2],Ab,λa o e=>?_,y.fp,y.fq,y.mq,#[VQ,vQ,?i]];{by_cases haq:a=q;{rw[haq,Ab]at z;cases z};rw[Al haq,e02 a (λe=>lx.nr ?A6) (λe=>lx.nb ?A6)]at z;exact lx.nn a ha z};rw[Al (Aq e y.fq),e02 a (Aq e f1) (Aq e f2)];exact y.same _ _ e};apply Iw λG3 z=>?_;intro sq;let#[r3,b3,l3x,_]:=z.ex;let#[dx3,fs3,hp3,l1,l2,l3,l4,l5]:=l3x.ob;let#[as3,xa3,na3]:=l3x.rw;let#[c3,_,ec3,_,hc3]:=?Fw xa3.row ?gR;have UJ:(?EN).1 ?S=?fQ:=Bb4;rw[UJ]at hc3;(have est:?DT t ?S st ?S=st:=by unfold Lat.insT;rw[?hy,?bI]);apply#[_,?g,p,Af,dx3,fs3,_,?g,hp3,?T,?az,l1,_,?g,r3,_,_,_,?g,?g,?k xa3.2.1,Bj ec3,_,?g,p,Af,dx3,fs3,_,?g,hp3,?T,?cA,l3,_,?g,q,_,_,_,?g,?g,?k z.st,?jr,c3,_,_,_,?g,?g,hc3,Bj (by rw[est];exact Cy hb.2.2),_,_,?g,?g,_,?g,?_];apply ?pM;{(have h5:s.1 i st<0:=?l6);apply#[_,?g,p,dx3,fs3,?g,hp3,?eW,_,?g,?a7,?k5];have s1:?l G3 ?rQ:=?ec;have hT:?Gb ?rQ ?Cv:=#[T1,_,?g,?aJ,?ua];generalize ?rQ=G4 at s1 hT;apply#[p,?c4,Af,r3,b3,_,n,W,_,_,?Cv,?g,?go,l3x.keep s1,hT,?gR,?gR,?i,?i,λr' b' G5 sx n1 n2 w=>?_];apply ?I2 ((?L3 z.redo w).re ?_);rw[Lat.insS,?aj ?Dq];rfl};(have h5:¬s.1 i st<0:=?l6);apply ?I2 (z.re ?_);rw[Lat.insS,?aR ?Dq]
noncomputable abbrev Z9:Stmt:=top 46
def Rp:?Fp [?aB,?b4,?bu,?bd,?aY] ?el Z9:=Bg
def OV[?H](F:?Fi ?iu ?iu Z9)[?G](Fi:?B P w K mg ?j ?jN ?jl 6 ?An)(Ua:?Fu ?kg ?nr ?Bv):?Fe 7 ?el ?wm:=by apply ?G0 Rp;let#[a,b,xs,ms,?g,hL,hb,hm,h4,#[kc,T9,hch],kq]:=h;ext lL;apply(?Lr (?JS (?Fk Fi ?y ?se) ?fO) (Ae (?Fg 2 Rp.nd Jz) (?MG (?Ff 3 Rp.nd (?J6 4 Rp.nd)) (Bt (?Fk Ua ?A (Aa ?g9 ?qA))))));ext Q;apply#[_,?g,_,?g,a,b,xs,4,ms,?g,hL,hb,hm,?z,?sB];have hany:((?qf 4).any ?lx)=true:=qm0.mpr #[kc,qd9.mpr T9,hch];apply ?bZ;rw[hany];ext lM;have hL1:=?eK;have hb1:=?eV;apply ?aP;have CI:b≠D:=Aq hb1 hD;have s2:?KF ?rs:=?bC;have hL2:=?R s2 hL1;have hb2:=?GY hb1;generalize hH2:?rs=H2 at s2 hL2 hb2;(have L4:H2 D=?h ?eb:=by rw[←hH2];exact Ab);apply ?Gr ?d8 hb2;apply(?Gz b ?d8);let B37:?aM:=?Jl (Kc λo1 o2=>Bw ?v1 (G b=?h ?qi) (?Fv G D ?lT) ((?H8 b (H2 c=?dD) ?o6)));apply ?K3 ?d8 B37 (?GC ?ut);{rw[?dx];exact L4};{intro c q n1 n2 e;rw[?gN];exact e};{rintro i kk x σ G p hx Dc hp;ext f;revert σ;apply ?f1;intro o1 o2 W4 Ea pO Ei;let ?f6:=?dz;have npb:b≠p:=Aq W4 hp;have npD:?pV:=Aq Ea hp;have hlt:?BI:=?i9;(have hqd:?mR=q:=?EU);have hpart:=qe6.mp hch q ?dV;(have hin:0<=q.1/\q.1<?gs:=by unfold J0 at hpart;rw[qc0]at hpart;exact HB hpart.1);have sp:?IB G G p:=?dG;(have QZ:LT K G ?cf xs:=by (have e1:S5 b H2 ?nm:=λc r n e=>?Io n);have l1:=Rep.x e1 hb2 hL2;(have d1:(?nm) D=?h ?eb:=by rw[?dx];exact L4);(have e2:S5 D ?nm G:=λc r n e=>by by_cases z:c=b;{subst z;rw[Ab]at e;cases e;exact W4};rw[?dN]at e;exact pO c r z n e);exact Rep.x (m:=[]) e2 d1 l1);let#[us,v,ZU,hat,tv]:=?g5 (?R sp QZ) hin.1 hin.2;apply ?fG;(have hfl:(?uO).length<=4:=by rcases Hu (l:=xs) (i:=?cd) (d:=[]) with z | z;{exact h4 _ z};rw[z];exact ?ae);have hbl:=cP h4 ms i;apply#[_,?g,_,?g,_,?g,a,us,_,v,?g,?g,ZU,hat,_,?g,D,v,?lT,?uO,q.2,?g,?HW Ea,tv,?i,λG2 sG2 iJ=>?_];apply#[_,_,?g,sG2 _ _ CI (?HW W4),?_,?lZ];{rw[iJ];show ?Kx (lO ?lT (?I6 ((?mR).1.toNat)) (?mR).2);rw[hqd]};exact sG2 c r n2 (?HW ?u7)};ext eH;apply ?f1;intro o1 o2 W4 Ea pO Ei;rw[Ks]at Ea;apply#[W4,_,?g,kq D _ (?hh hD) ?pe ?BN];ext FG;exact pO c q z (Aq ?ep hD) (?GY ?ep)
noncomputable abbrev Wm:Stmt:=top 57
def Ot:?Fp [?aq,?al,?j2,"stairs","i",?eo] ?om Wm:=Bg
def JY[?H](F:?Fi ?jX ?jX Wm)[?G](W3:JE P w K mg ?j Af ?cX 2 ?y2)[?FL](Ko:Jn P w K mg ?j Af ?pY ?fg 6 ?yM)(Kn:Jn P w K mg ?j Af ?q4 ?bM 5 ?A8):?Fe 7 ?om ?uH:=by apply ?G0 Ot;let#[v,L,r,b,sv,N,n,w,M,P,PB,J,?g,hv,lx,hn,hw,TJ,j0,jt,k]:=h;let(?Ho ta Yq Pg):=?gY;ext h0;let#[ps,xp,np]:=lx.rw;let ?iN:=lx.bk;have nN:?Ds:=?Hq lx.nn;apply#[_,(Ae (Ap (i:=3) Ot.nd (Lu W3 hr ?n T.m_Stairs (Aa (B6 (N':=[?e7,"paper"]) (cap:=?Be) ?n ?X (EF (K:=K) ?n ?qD (Aa ?y ?uJ)) (?Lp SY SY) ?aC (?Fh (Bh ?di ?y ?F))) (?I5 ?uJ)))) (Ae (Cb qb8 ?g ?wJ (?J6 4 Ot.nd) (Ae (Bt (Cm ?L ?T Ko hr ?qA)) (Ai (Bt (N8 ?L ?T Kn hr))))) (Ae (?Lv 5 Ot.nd (Lu L1 hr ?n ?hu (?Ja (?LW ?y ?sa) (?L9 ?wA)))) (?LA (De (?Ja ?nP ?dF)))))),?_];ext Q;apply ?Fd (Kc λp q=>?Jq none none/\SX Af H H' p q ?n4 n ?dQ ?A3 0 (?v2,PB));{apply#[_,?g,_,?g,L,Ah,dx,fs,_,?g,hp,?c2,?jU,l1,ta,r,?g,#[_,Yq],#[_,?xo],?aP];apply DH (K:=K) (a:=ta) (b:=r) (xs:=us) (ys:=ps.map ?bg) (n:=n) (by rw[y3,qa3,xp.1,qv7]) (?Kv (Ec λcs=>Bw ?ou ?ld (?c0 H H1 D cs ?dQ ?v2) ?y3)) #[[],?g,?g,?mt hD,?p,?p,?g] (λi zs τ H1 _ hz=>by let ?zI:=hz;exact#[?cI Yq,?cI ?xo]) ?_ ?_;{rintro i x y zs τ H1 pr hx hy ⟨cs,rfl,hcl,R,o1,o2,rfl⟩ hpr;let#[hi,bx,?g,hbx]:=Pg i x hx;let#[cy,_,ey,_,hcy]:=?Fw xp.row hi;rw[ey]at hy;cases hy;have sp:?KF ?q5:=?x hpr;apply ?CG;apply#[_,?g,_,?g,bx,cy,_,_,?g,?g,sp.seq (?cI hbx),sp.seq (?cI hcy),Br (by rw[Bv,Bv];ext d),?kw];have sE:?l ?q5 (?m ?q5 E (?t (VI w (M i)++VI n (P i)))):=?nT;apply#[sE _ _ (?HW R.at),?d6,cs++[E],?f8,?xE,?_,_,_,?g];apply ?h5 (sp.free hE) (?DF sE) ?_;rw[hcl,Ab,lP (h:=?EH w M P i) (?Kw (Lat.beside_lo hc)) (λa _=>Lat.beside_hi w M P i a)]};rintro zs τ H1 ⟨cs,rfl,hcl,R,_⟩;have hp1:=?B8;apply#[_,?g,L,Ah,dx,fs,_,?g,hp1,?c2,?j5,l2,b,_,?g,?Jb ?bk ?mF,?DO];intro p VW np' vS XQ;have s2:?KF ?Ay:=?x hB;have hB2:?m H1 B ?q3 B=?nc:=Ab;generalize ?Ay=H2 at s2 hB2 np' vS;have s3:?Jw ?zi:=?g4 np';have qY:=?G1 ?ih s2 s3;have f2:∀a,?z5->?fE:=λa e=>(?ih s2).free e;apply#[p,VW,_,_,?g,Ab,λq H4 fs' hq hfs sx hq4 P3=>?dn];generalize ?zi=H3 at s3 qY hq sx;have f3:∀a,?w6->?fE:=?Cq;have st:?Ii H2:=?IV (Aq e np');have xc:=(?ma s2);have wA:TA H2 B bs n n PB:=#[xb.1,hB2,λi c e=>?GY (?bk _ _ (?pc i c e))];have hHB:?vG:=?tm hB;have Bz1:=?xJ;have q2:?Ki q:=?r3 hq;have nM:∀a,?Ih H2->?kB->¬?EE:=λa h1 h2 h3=>h3.elim (λz=>h1 (z▸q2)) h2;apply ?Fl #[p,q,?g,#[#[D,B,#[(?L7 VW P3),#[cs,xc.same st,?bO],#[bs,?ne st,?bO],?_,?_,?_,?k4],?gu,hHB],hq4,λa o e=>?Ce,f2 _ np',f3 _ hq,?cc,#[?i,?i,?ae]]];{rw[hfs];(ext aT)};{rw[hfs];(ext aT)};{rw[hfs];(ext aT)};{rw[hfs,As,?c8,As,?c8,As,?c8];rfl};{rw[hfs];exact ?KK (qa5 ?jd (?H5 (qj6 ?jd)))};{let ?hW:=?kD;let ?iE:=?sG;exact#[z2,Aq z3 hB,nM _ (by rw[?GY z3];exact ?gO) ?x6]};{have:=?oV a ha;apply#[λz=>this ?oe,λz=>this (z▸hHB),nM a (wA.there.2 a ha) ?sm]};{exact Aq R.at hB};{exact nM D (by rw[Bz1];exact ?gO) (nN _ ?gu)};{exact nM B (by rw[hB2];exact ?gO) (nN _ hHB)};rcases ha with rfl | ha;{rw[hq4]at z;cases z};cases e:H a with| none=>exact ?tz| some o=>rw[?Ce]at z;cases z};apply YW λp q H1 x0=>?_;intro sq;apply ?Fd (?LL H' n n);{apply(?Ic ta (x0.same.seq Yq) ?_);apply Ck (lo:=0) (n:=(?zK:Int).toNat) (λi σ' G=>?LL G i i) #[?p,_,_,?g,x0,j0 _] ?_ ?_;{rintro i σ G hi Dc;revert σ;apply ZQ ?_;intro o4 t s y hJ Ei;rw[qe0,y3]at hi;rw[qj7];let#[I,hP,hD]:=TJ.step i t s hi hJ;let#[r3,b3,ly,_]:=y.ex;let#[dx3,fs3,hp3,_,_,_,m4,_]:=ly.ob;apply#[_,?g,p,dx3,fs3,?g,hp3,?xC,_,?g,H,p,q,_,n,?dQ,t,i,s,I,?g,y,hi,hP,jt i t s hJ,λG1 spot st s' hs hI hb hex z=>?_];let#[d1,d2]:=hD ?S st s' hs hI hb hex;let#[r4,b4,lz,_]:=z.ex;let#[dx4,fs4,P3,_,_,_,m5,_]:=lz.ob;apply#[_,?g,p,dx4,fs4,?g,P3,?zj,H,p,q,_,n,?dQ,_,i,_,?g,z,d1,λG2 z2=>?_];exact#[_,_,_,?g,z2,d2]};rintro σ G Dc;revert σ;apply ZQ ?_;intro o4 t s y hJ Ei;rw[qe0,y3]at y hJ;exact ?Fl #[o4,t,s,?g,y,hJ]};apply Aw9 λo4 t s G y hJ=>?_;intro sq;let#[r,b,ly,f1,f2]:=y.ex;let ?ek:=ly.ob;let ?fK:=ly.rw;let ?iN:=ly.bk;have s0:=y.same;apply ?Fd (Kc λ(L' E:Addr)=>Da (?Jq o4 (rS L')) ?rO ?xz ?mp (LX H' Ah L' E b ?p n n ?m9 N));{apply#[_,?g,p,Af,dx,fs,_,?g,hp,?T,?az,l1,r,?g,#[_,?ca],?kw];have xa':=?fz;let B36:?a2:=?H1 (?c0 G G1 E cs n ?xs);apply ?HE B36 (?L2 hE);{rintro i x zs τ G1 hx ⟨cs,rfl,hcl,R,o1,rfl⟩;(ext FA);let ?x4:=?dt;rw[ec]at hx;cases hx;apply(?GP c (?cI hc) ?sO);have sF:?Hl ?tu ?p:=?x hF;apply ?wy;apply ?Cl;rw[hcl,Ab,yT]};rintro zs τ G1 ⟨cs,rfl,hcl,R,_⟩;rw[qa3,?de]at hcl;have hp1:=?B8;apply#[_,?g,p,Af,dx,fs,_,?g,hp1,?T,?ij,l2,?_];intro L' FG nL vS XQ;have s3:?l G1 ?pQ:=?g4 nL;apply#[L',FG,Ah,_,_,?g,?cc,Ab,λH4 fs' hfs hH4=>?dn];(have sx:?ag L' ?pQ H4:=by rw[hH4];ext FX);(have hL4:H4 L'=?h (?IN fs'):=by rw[hH4];exact Ab);clear hH4;generalize ?pQ=G3 at s3 sx;have st:?Ii G1:=?IV ?lm;have nN':?Kh G ?kB:=λa e=>nN a (?fk e);apply ?Fl #[L',E,?g,?ih st,?fk (?tm nL),?fk ?gu,#[(?L7 FG hL4),#[cs,?ma st,?bO],#[bs,(xb.same ?bk).same st,?bO],?_,nN' _ ?gu,?_,?k4]];{rw[hfs];(ext aT)};{rw[hfs];(ext aT)};{rw[hfs];(ext aT)};{rw[hfs,As,?c8,As,?c8];rfl};{rw[hfs];exact ?CK};{let ?hW:=?kD;let ?iE:=?sG;exact#[z2,λz=>?ES ?sx,nN' _ z1]};{exact#[λz=>?oV a ha ?oe,?D8,λz=>?sm ?As]};{exact λz=>?ES ?oe};{exact λz=>ly.nb ?As};cases e:H a with| none=>exact ?tz| some o=>rw[?Kq ?bk s0]at z;cases z};apply RI λL' E G4 s4 fL fE lx4=>?_;intro sq;have P3:=?Gl hp;have xa':=?Gl ?fz;apply#[_,?g,p,Af,dx,fs,_,?g,P3,?T,?az,l1,r,?g,#[_,?s3],?aP];let B35:?a2:=?H1 (?c0 G4 G1 D cs w (λx a=>s.1 x a));apply ?HE B35 ?fi;{rintro i x zs τ G1 hx ⟨cs,rfl,hcl,R,o1,rfl⟩;(ext FA);let ?x4:=?dt;rw[ec]at hx;cases hx;apply(?GP c (?cI (s4.seq hc)) ?sO);have sF:?Hl ?p ?tu:=?x hF;apply ?wy;apply ?Cl;rw[hcl,Ab,Bd0]};rintro zs τ G1 ⟨cs,rfl,hcl,R,_⟩;rw[qa3,?de]at hcl;apply(?It ?Ex);have s5:?l G1 (?GA G1 tp ?Bn):=?x htp;have zB:=?ih s5;exact k tp D L' E b cs t s _ (?G1 ?k6 s4 zB) hJ ?aJ (?ma s5) (lx4.keep zB) ((?k6 s4).free ?gu) fL fE f2
noncomputable abbrev M3:Stmt:=top 48
def Qi:?Fp [?aB,?b4,"edge"] ?el M3:=Bg
def g7[?H](F:?Fi ?hi ?hi M3)[?G][?FP]:?Fe 8 ?el ?Ak:=by apply ?G0 Qi;let#[a,b,xs,k,c,?g,hL,hs,Db,hb,T9,hc,hz,kq]:=h;have h4:=Wi hs;have en:=uV hs hc hz;apply(?Lr (?Fg 2 Qi.nd (?JB Rx ?bj)) (Ai (?MQ HF (Bc QL ?aa qg1 ?bB) ?fO)));ext Q;apply ?Fd (Ec λ ?c5=>Fm (σ'=[?w,?a3,?aA]) ?a6 (?cL=?oG));{exact#[_,?g,_,?g,a,b,xs,c,?g,hL,hb,?H5 hc.ok.len,h4,#[k,T9,hc.chain],λD H1 nD s1 hD=>?Fl #[D,?g,s1,by rw[hD,en]]]};apply Sm λD H1 s1 hD=>?_;intro sq;apply(?Gx D (cK []) hD);apply ?fZ;exact kq H1 s1
noncomputable abbrev Lo:Stmt:=top 49
def Ke:?Fp [?aB,"k","below","columns"] ?dd Lo:=Bg
def Yk[?H](F:?Fi ?iy ?iy Lo)[?G][?gx][?lF][?gy](Q5:?Fj ?xW ["spots",?b4] So)[?FP]:?Fe 8 ?dd ?vI:=by apply ?G0 Ke;let#[a,xs,k,?g,hL,Db,h4,h0,h5,kq]:=h;ext lL;apply#[_,(Ae (Bt (?Fk Cd ?F (?L9 (?Lx ?zp)))) (Ae (?Lv 2 Ke.nd (?Fk Bu ?y (?L5 Ak))) (Ae (U6 (N':=[?bd,"below",?aB]) (cap:=[none,?iz,?dy]) (i:=3) Ke.nd ?n ?gh ?n ?X (?Fw Bz ?pS) (?Fh (?J6 0 Aj5)) ?aC (?Fh (?ML Q5 (?Lu ?F (?MU Rx (?MX ?y Ak mK)))))) (?MW (?Fk Dl ?L ?DC))))),?_];ext Q;apply#[_,?g,_,_,?g,?g,k,5,?g,h0,h5,?_];apply ?G9 (?Kp ?w ?av none) ?bs;ext bQ;apply ?Fd (Ec λ(B:Addr)=>Fm (?Kp ?w ?av (rS B)) ?a6 (?LB B ((?iY).map ?J)));{apply#[_,?g,_,?g,_,_,?g,?g,a,?dm,xs,?g,hL,Db,λB H1 hB s1 hB1=>?_];exact ?Fl #[B,?g,s1,hB1]};apply Sm λB H1 s1 hB=>?_;intro sq;have hL1:=?eK;have bl:?h7<=1000:=?r6;have cl:?sl:=?r6;apply ?Fd (Kc λ(C:Addr) ?pA=>Fm (σ'=[?w,?av,rS B,rS C]) (as.length=?jL) (?c0 H1 H' C as ?h7 ?zb));{apply(?Hz hL1 Db (λP H2 hP s2 hP2=>?_));apply#[P,?g,(?Kl hP2),?aP];let B34:?a2:=λi ys τ G=>Ec λ ?pA=>Bw ?kc ?k2 (?c0 H2 G D as ?h7 ?zb) (?G8 [o,rS B,?w]);apply C5 (K:=K) (a:=P) (xs:=?Hg ?gZ) B34 ?fi (λi ys τ G _ hz=>?KB R ?bk hP2) ?_ ?_;{rintro i x ys τ G hx ⟨as,hal,rfl,R,o,rfl⟩;(have hi:i<?jL:=?ex);(have hxv:x=?o ?lY:=?pC);subst hxv;(have hmem:?lY∈?gZ:=by rw[qa1,?be];exact qd7 hi);let ?v3:=C3 hmem;generalize hpe:?lY=pl at q0 q1 q2;have Bu1:Ii [] [(?iA pl,?J 1)]=?AR:=rfl;have sG:=?bV ?bk;apply#[_,?g,_,?g,λe he=>(?Iu Ab [(?iA pl,?J 1)] ?au)];rw[Bu1];(have e3:?m (?m G e ?eb) e ?mQ=?j4:=?GM e);rw[e3];have g1:?l G ?j4:=?x he;have ZX:(?j4) e=?h ?mQ:=Ab;generalize ?j4=G1 at g1 ZX;(have UB:?wY<=4:=by rcases Hu (l:=xs) (i:=pl.toNat) (d:=[]) with z | z;{exact h4 _ z};rw[z];exact ?ae);(have y6:chainB xs k ?kJ=true:=by unfold chainB J0;rw[List.all_cons,List.all_nil,Bool.and_true,qc0];apply#[?_,?au];show(?aF (0<=pl)&&?aF (pl<?gs)&&?aF (Cn ?wY=k))=true;rw[qf8 q0,qf8 q1,qf8 q2];rfl);(have hk3:k<4:=by rw[←q2];unfold Cn;split<;>ext d);apply#[a,e,xs,?kJ,?g,?R ?ku hL1,ZX,?au,h4,#[k.toNat,?i,by rw[?uv];exact y6],λE2 G2 hE2 g2 Bz4=>?_];apply#[B,E2,?iY,B8 xs ?kJ,?g,?Fo ((?ku).trans g2) hB,?v Bz4,bl,λD2 G3 L4 g3 cX=>?_];have gG:=?qz;apply#[gG _ _ R.at,?d6,?EV,?zS,?f8,?h5 ((?dr).free L4) gG ?_,_,?g];rw[cX,xU,hal,hpe];congr 3;refine CM;intro i' _;exact aL xs pl _};rintro ys τ G ⟨as,hal,rfl,R,_⟩;rw[qa3]at hal;exact ?Fl #[D,as,?g,hal,R.earlier s2]};apply yW λC as H2 hal R=>?_;intro sq;apply#[_,?g,_,?g,B,_,?g,?Jb ?bk hB,?u C,?jL,?h7,_,by rw[qa3];rfl,R.rep hal,cl,bl,λD lN H3 An2 R3=>?_];exact kq D lN H3 An2 (R3.earlier (?bP ?bk))
noncomputable abbrev Ql:Stmt:=Eo ?gl 2
def Ky:?Fp [?aH,"height","by_rows","by_columns"] ?bM Ql:=Bg
def EJ[?H](F:?Fi ?r8 ?CP Ql)[?G](Vl:?B P w K mg ?j ?jX ?om 7 ?uH)[?gy]:?Fe 8 ?bM ?Dw:=by apply ?G0 Ky;let#[H0,p,L,R,nm,n,w,M,l,r,ns,Nx,?g,x,ok,k]:=h;let ?kG:=x.sm;ext FS;ext rj;replace hrep:=?ks;let ?s5:=Iq hrep;let#[J1,T1,j10,j1t,j1n]:=ok.ex;have A68:=?pf;replace hq:=?vs;apply#[_,(Ae (?Fg 1 Ky.nd ?fy) (Ae (?Fg 2 Ky.nd (?Lf ?aQ ?aQ)) (Ae (?Lv 3 Ky.nd (?Lf (?Fk Dl ?d4 ?da) ?F)) (Ae (?Kb Dl ?tl) (Ae (?Fy ?d4) (?Lj ?tl)))))),?_];ext Q;apply ?Fd (?Kp ?I ?qd none/\?bs);{apply#[_,?g,p,Aj,dx,fs,_,?g,hp,?P,?cy,l1,ta,us,?g,?dh,?Fl #[by rw[y3];rfl,?g]]};ext bQ;apply ?Fd (nX λ(tp D L' r1' b1':Addr) ?pA ?mV ?pd=>aV (?Kp ?I ?qd ?ai) ?a6 (J1 n t s) (?L4 tp ?Bn) (TA H' D as n w s.1) (?KE L' ?m9) ?xz (?JO r1') (?JO b1'));{apply#[_,?g,p,Aj,dx,fs,_,?g,hp,?P,?cy,l1,_,?g,p,Aj,dx,fs,_,?g,hp,?P,?jF,l2,_,?g,p,Aj,dx,fs,_,?g,hp,?P,?dP,l3,?gg,L,r1,b1,?p,_,n,w,M,l.1,l.2,J1,?g,A68,lx,VQ,vQ,T1,j10,j1t,λtp D L' r' b' as t s H1 s1 hJ hT xD lx1 _ fL fr fb=>?_];exact ?Fl #[tp,D,L',r',b',as,t,s,?g,s1,hJ,hT,xD,lx1,fL,fr,fb]};apply yV λtp D L' r1' b1' as t s H1 s1 hJ hT xD lx1 fL fr fb=>?_;intro sq;let#[J2,T2,j20,j2t,j2n]:=j1n t s hJ;have hp1:=?gf;apply ?Fd (nX λ(tp2 D2 R' r2' VX:Addr) (lN:?k3) (t2:?zE) (s2:?cm)=>aV (σ'=[?I,?qd,?ai,rS tp2]) ?iG (J2 w t2 s2) (?L4 tp2 [?d0,?wM]) (TA H' D2 lN w n s2.1) (LX H' Ah R' r2' VX ?p w w (λx a=>s2.1 x (n+a),s2.2) ?gQ) (H1 R'=none) (H1 r2'=none) (H1 VX=none));{apply#[_,?g,tp,_,_,_,?g,?g,hT,?g,_,?g,p,Aj,dx,fs,_,?g,hp1,?P,?jF,l2,?gM,n,w,s.1,?g,xD.rep,?i,?i,λF fas H2 hl2 R2=>?_];have hp2:=?eY _ _ hp1;apply#[_,?g,_,?g,p,Aj,dx,fs,_,?g,hp2,?P,?ej,l4,?u F,R,r2,b2,?p,_,w,n,(λi j=>s.1 j i),r.1,r.2,J2,?g,R2.rep hl2,ly.keep (?bP ?eY),vQ,VQ,T2,j20,j2t,λtp2 D2 R' r' b' lN t2 s2 H3 s3 hJ2 hT2 xD2 lx2 _ fR YD fb2=>?_];exact ?Fl #[tp2,D2,R',r',b',lN,t2,s2,?g,?jV s3,hJ2,hT2,xD2,lx2,?hX fR,?hX YD,?hX fb2]};apply yV λtp2 D2 R' r2' VX lN t2 s2 H3 s3 hJ2 hT2 xD2 lx2 fR YD fb2=>?_;intro sq;have hp3:=?K1 hp1;have hT3:=s3.seqT hT;apply#[_,?g,tp2,_,_,_,?g,?g,hT2,?g,_,?g,?d0,w,n,s2.1,?g,xD2.rep,?i,?i,λE eas H4 UB R4=>?_];have wQ:=R4.same;have P3:=wQ _ _ hp3;have oO:?wp:=(?G1 x.same.trans s1 s3).trans wQ;have n4:=(?bP ?t1) _ _ x.nu;(have Bo2:Rep K (Vj H4 ?gQ) ?fP (dT n w λi j=>s2.1 j i):=R4.hid UB (?Im (by cases ha;rw[?Kd ?no x.nu]at z;cases z)));have hT4:=wQ.seqT hT3;have Bx5:=wQ.seqT hT2;(have ex:∀a,?xu->?Ih H4:=?Hh (by ext rq;{rw[n4];exact ?gO};{let ?fW:=lx2.rw;exact ?vS};let ?fW:=lx2.bk;exact ?vS));have z1:LX H4 Ah L' r1' b1' ?p n n ?m9 (λa=>?xu):=lx1.more ?t1 (?Hh (by ext rq;{exact ?v ?cc};{exact ?O YD};exact ?O fb2)) ex;have z2:=lx2.keep wQ;have XN:p≠L':=Aq hp fL;have zI:p≠R':=Aq hp1 fR;(have LR:L'≠R':=λz=>by let ?sv:=lx1.ob;rw[z,fR]at q;cases q);apply(?GL fs P3 ?cy);have sx5:?La H4 ?qF:=?bi;have II:?L1 H4 ?n3 ?n3:=Ab;have kp5:Kp H4 ?qF:=Kp.upd;have e1:?BH=fs.length:=N5 l1;generalize ?qF=H5 at sx5 II kp5;have hT5:=mE hT4 P3 sx5;have Bx4:=mE Bx5 P3 sx5;apply#[_,?g,tp,_,_,_,?g,?g,hT5,?g,_,?g,p,Aj,dx,_,?g,II,?P,?dP,?i,?_];have e2:?E3=?BH:=N5 (x:=?ls) (by ext lG;exact l3);have GF:?La H5 ?oy:=?bi;have hp6:?L1 H5 ?mN ?mN:=Ab;have kp6:Kp H5 ?oy:=Kp.upd;generalize ?oy=H6 at GF hp6 kp6;apply#[_,?g,tp2,_,_,_,?g,?g,mE Bx4 II GF,?g,_,?g,p,Aj,dx,_,?g,hp6,?P,?ej,?i,?_];have e3:(?IC ?gP R' ?Cg).length=?E3:=N5 (x:=?u R) (by rw[As,?eO,As,?eO];exact l4);have sx:?La H4 ?uo:=?bX (sx5.trans GF);have kp:Kp H4 ?uo:=?G1 kp5.trans kp6 ?bA;have g0:?KT ?fE:=?He x.same.free;have g1:?KT ?Cb:=?He ?nf;have npn:nm≠p:=Fn x.nu hp ?ft;apply k L' R' _ _ _ _ (j2n t2 s2 hJ2) #[#[?fP,dx,_,Ab,?_,?_,?_,?_,?_,?eS,?i,λM' e=>by cases e;exact B16 (p:=p) (dx:=dx) (C:=Aj) Bo2 (by rw[y8 ?zm];exact P3) (λa o ne e=>by by_cases z:a=nm;{rw[pQ z]at e;cases e};rw[y8 z]at e ⊢;exact sx _ _ ne e)],#[r1',b1',r2',VX,z1.x P3 XN sx kp,z2.x P3 zI sx kp,g0 _ fr,g0 _ fb,g1 _ YD,g1 _ fb2],sx _ _ npn n4,sx.same oO x.fr.1,#[x.fr.1,g0 _ fL,g1 _ fR,?Di],?Bd,?kG];ext fc;ext fc;ext fc;ext fc;ext fc;(iterate 3 ext FN);exact l6 m hm
noncomputable abbrev Ie:Stmt:=Eo ?gl 1
def Ll:?Fp ?fg ?bM Ie:=Bg
def T7[?H](F:?Fi ?pl ?te Ie)[?G](Mr:?HA ?r8 8 ?Dw)(Pi:?Fj ?xF [?aq] Pz):?Fe 9 ?bM ?Eu:=by apply ?G0 Ll;let#[H0,p,L,R,nm,n,w,M,l,r,U,?g,x,ok,nx,k]:=h;have sm:=x.sm;let#[_,dx,fs,hp,_,_,_,_,_,l6,_]:=x.ob;apply#[_,(Ae ?zy (Ae (U5 qb8 (Ki (?M3 Je Pi ?da)) (Ai ?zy)) (Ai (Cb qb8 ?g (?GI (?L9 (Bc (qL ?n) T.n_min qP (Aa ?fy ?da)))) (?J6 1 Ll.nd) (?Lt (Bf Ku ?vw Ak ?M) (?MI ?aQ ?vw)))))),?_];ext Q;apply ?Fd (?KS ?z9);{exact#[_,?g,p,dx,fs,?g,hp,?BJ,H0,p,L,R,nm,n,w,M,l,r,[],_,?g,x,ok,λL' R' M' l' r' H' #[m,hu] y=>?Fl #[?g,L',R',m,M',l',r',hu,y]]};apply Iw λH1 gA=>?_;intro sq;let#[L,R,m,M,l,r,hU,x]:=gA;clear ok hp l6;apply ?Fd (?KS (Lat.Straight n w M/\?z9));{apply#[λm σ' G=>?hs/\∃L R M l r,?pw/\?G4 G [],#[m,?g,L,R,M,l,r,hU,x],?_];rintro m σ G Dc;apply xW ?_;intro _;let#[?g,L,R,M,l,r,hU,x]:=Dc;let ?oT:=x.ob;replace hrep:=?ks;apply#[_,?g,p,Aj,dx,fs,_,?g,hp,?P,?cy,l1,tv,n,w,M,?g,?pf,?i,?i,?us,?us];{apply ?fv;exact ?Fl #[?g,L,R,m,M,l,r,hU,hS,?Ed]};apply ?Hi ?au;apply#[λσ' G'=>?hs/\∃L R m' M l r,m'<m/\U m' M l r/\?G4 G' [],?_,?_];{rintro σ' G' ⟨rfl,L,R,m',M,l,r,hm,hU,y⟩;exact#[m',hm,?g,L,R,M,l,r,hU,y]};exact#[_,?g,p,dx,fs,?g,?gf,?BJ,H0,p,L,R,nm,n,w,M,l,r,[],_,?g,?Ed,nx m M l r hU hS,λL' R' M' l' r' H' #[m',hm,hu] y=>#[?g,L',R',m',M',l',r',hm,hu,y]]};ext rr;let#[L,R,m,M,l,r,hU,hS,x]:=gA;ext FS;replace hrep:=?ks;let ?B4:=Iq hrep;replace hq:=?vs;(have emin:?xn=min n w:=by split<;>first|exact zn7 ?hv ?hv|exact zna ?hv ?hv|ext d);apply#[_,?g,p,Aj,dx,fs,_,?g,hp,?P,?cy,l1,ta,us,?g,?dh,_,?g,p,Aj,dx,fs,_,?g,hp,?P,?jF,l2,_,_,?g,_,?g,?vH,?vH,?_];apply Ck (lo:=0) (n:=?xn) (λi σ' G=>Ec λo1=>σ'=?BL/\?G4 G (QY i M)) ?B5 ?_ ?_;{clear hp hrep hq Pg l1 l2 l3 l4 l5 l6 l7;rintro i σ G hi ⟨o1,rfl,y⟩;rw[emin]at hi;rw[qj7];let ?oT:=y.ob;replace hrep:=?ks;let ?B4:=Iq ?pf;have e:=qa0 (l:=us) (i:=i) ?i;let#[_,b,eb,hb]:=Pg i _ e;rw[eb]at e;apply#[_,?g,p,Aj,dx,fs,_,?g,hp,?P,?cy,l1,_,?g,ta,_,_,_,?g,?g,hq,Bj e,_,?g,b,_,_,_,?g,?g,hb,?jr,?g,_,?g,?_];apply ?b0;{(have h0:¬M i i=0:=?aI);apply#[_,?g,p,Aj,dx,fs,_,?g,hp,?P,?d2,l5,?G5 y.nu,_,?g,p,Aj,dx,fs,_,?g,hp,?P,?cy,l1,_,?g,ta,_,_,_,?g,?g,hq,Bj e,_,?g,b,_,_,_,?g,?g,hb,?jr,nm,_,_,?g,?g,y.nu,?_,?_];{have:=XM i M;exact ?d6};have z:=y.num (ns':=QY ?aG M);rw[Qy,?iM,qb0]at z;exact#[_,?g,by rw[Qy,?iM];exact z]};(have h0:M i i=0:=?aI);exact#[_,?g,by rw[Qy,?r2];exact y]};ext eH;apply ?g0;intro o1 y Ei;rw[emin]at y;exact k L R m M l r _ hU hS y
noncomputable abbrev Qo:Stmt:=Eo ?gH 6
def Dq:?Fp [?aH,"k",?b4,?eZ,"rest",?oS,?hN,?j3,?iJ,?aY] ?qP Qo:=Bg
def EL[?H](F:?Fi ?bu ?Cr Qo)[?G][?gx](Pk:?B P w K mg ?j ?hi ?el 8 ?Ak)(z7:?G7 ?jh ?li ?C3)[?FO](kQ:?Fj "weigh" [?j3,?b4] GK)[?rV]:?Fe 9 ?qP ?uU:=by apply ?G0 Dq;let#[p,b,k,B,xs,ls,ps,c,?g,bk,sB,nb,T9,hps,hb,hc,kq]:=h;ext lL;let(?IT hP hLf dd):=bk.ob;let ?D4:=hW.at (k:=k) ?uW;rw[qa7,hps]at e2;apply#[_,(Ae ?iC (Ae (?JS (?Fk Lb ?aQ ?zo) ?fO) (Ae (?M3 Bt Pk ?o4) (Ae (?Fg 3 ?cP ?dJ) (Ae (?Fg 4 ?cP (?JB z7 ?o4)) (Ae (Cb qb8 ?g ?kK (?LH (?J6 5 ?cP) (?M7 (?J6 6 ?cP) (?HH ?cP) (?J6 8 ?cP))) (Ae (?Fg 9 ?cP (?JB kQ ?yH)) (Ae (Cc ?Ca (Ae (?Lv 4 ?cP (?LG Vm ?W (?Fk Ph (Bh J5 ?bD ?a4) ?Dx))) (?JH 9 ?cP (Bh Fq ?bD ?a4))) Bn) (?MI ?L ?bD)))) (?GZ ?kM))))))),?_];ext Q;cases e2;ext FU;have hs:=bk.sh;have Db:=bk.len;have pbs:=T4 ti Db T9 hps;have pbn:?Ep:=?Il (pbs q ?pB);have hpl:=?ll Db;ext Fa;have el:=rE.len;have hat:Um lu ?a1=?h ?fP:=Bj e1;(have bC:∀q∈c,q.2.natAbs<2 ^ lM:=?Il (by rw[←hc.ch.ok.val hq];exact hc.b q.1));apply ?Fd (?Ll ?bs);{exact#[_,?g,?a1,4,?g,?i,?i,?fe]};ext bQ;ext F5;{apply#[_,?g,p,Ar,dx,_,_,?g,?ER,?aS,?gW,?g,_,?g,_,?g,P,b,xs,?a1,c,?g,?R sB hP,hb,?H5 hc.ch.ok.len,?qs];rw[hc.ch.chain];apply ?fZ;exact ?i2};ext lH;have sB1:=?bw s1;ext F5;{exact#[_,?g,p,Ar,dx,_,_,?g,?Dp,?aS,?gW,?g,_,?g,P,b,xs,k,c,?g,?R sB1 hP,hs,Db,?eV,T9,?iv,hc.z,λH2 s2=>?Fl #[?g,?cN]]};apply Iw ?pE;intro sq;apply ?Fd (Ec λ(N:Addr)=>Bw (?JE ?fI none) (?Ki N) ?f3 (H' N=?jc));{exact#[?ae,λN hN=>?Fl #[N,?g,hN,?x hN,Ab]]};apply Nu λN H3 nN s3 hN3=>?_;intro sq;have qY:=?dw;have sB3:=?bw qY;apply ?Fd (Ec λ ?mK=>?M6 (?JE ?fI (rS Rr)) Rr (?LN Rr ?gV));{apply#[_,?g,p,Ar,dx,_,_,?g,?H7 sB3,?aS,?Ez,?g,_,?g,Lf,b,B,xs,?a1,wu,?rE,c,?g,hLf,dd,sB3,nb,qY _ _ hb,?iv,PD _ _,Db,?Il #[?qt,?p0],λRr H4 nR s4 hR=>?Fl #[Rr,?g,nR,s4,hR]];have lb:=PF ti Db T9 ?EM t.1;rw[(?qt).ok.val ht]at lb;exact Lx (bC q hq) lb ?EW};apply Nu λR0 H4 nR0 s4 hR4=>?_;intro sq;have oO:=qY.trans s4;have nHN:?JO N:=?hd nN;have nHR:?JO R0:=qY.free nR0;(have nRN:R0≠N:=λz=>by rw[z,hN3]at nR0;cases nR0);have hcl:ChL xs ?c7 ?gV:=Vf (?Il ?qt) ?rt;apply ?Fd (lR λ ?mK ?m7=>G9 (σ'=?D2) ?t7 ?EY ?a6 ?Bi (?LN Rr (?MC ?cQ)));{apply#[_,?g,p,Ar,dx,_,_,?g,?H7 (?bw oO),?aS,?qH,?g,_,?g,Lv,lu,_,_,?g,?g,?Fo (?bw oO) MV,hat,E,?g,#[_,?Fo (?bw oO) hE],?_];let B33:?aM:=λi σ G=>lR λ ?mK ?m7=>G9 (σ=?D2) ?t7 ?EY ?cH (?ME G N (((?eC).map ?yO).map ?J)) (?Fv G Rr ?nY);apply ?cR (K:=K) (a:=E) (xs:=eu) B33 #[R0,_,_,_,_,_,?g,nRN,nHR,oO,?Gl hN3,hR4] (λi σ G _ hz=>?JV ?zB ?im hE) ?_ ?_;{rintro i v σ G hv Dc;ext f;revert σ;apply zO ?_;intro Rr o5 o6 o7 o8 o9 nRr uG g hNG hRG Ei;have hi:=?cZ;let ?kX:=?j0;let#[t,c1,c2,c3,?g,et0,d10,d20,d30,_]:=pv;have et:=?im _ _ et0;have d2:=?im _ _ d20;have d3:=?im _ _ d30;have hqm:=?dV;have pb:=pbn q hqm;have nc2:c2≠b:=Aq d20 nb;have hcr:ChL xs ?c7 ?nY:=c6 (?Ij (ql2 hx)) hcl;apply ?n7;apply ?MP (?LI (?JG Rr ?i7/\?rO));rotate_left;{apply#[_,?g,_,?g,c2,b,?ph,c,?g,d2,?v ?AC,nc2,?H5 pb.g.ok.len,?ul,?oU];{rw[←pb.g.ok.val hx];exact Lx (pb.gb _) (hc.b _) ?EW};rw[Zl pb.g ?iv];exact ?Gc #[?g,g1]};apply Iw ?oU;intro sq;apply ?MP (?LF (Of c q) (?MC ?AQ));rotate_left;{rw[JU hq]at Il;unfold Of b8 at Il;apply ?bW;apply ?b0;{(have h0:q.1≠0:=?aI);have nn:=pb.nn;have efd:(?i7).fdiv q.1=?n6:=qg4 _ nn;rw[?iM,?iM]at Il;apply Am (?LF ?i7 (Ep ?nY (Hl ?n6 ?mm))) ?_ λBr5=>?_;rotate_left;{apply#[_,?g,_,?g,_,?g,_,_,?g,?g,V4.of ?i pb.nb,_,?g,?n6,c3,?mm,by rw[efd];rfl,?II d3,?H5 pb.f.ok.len,hc.div hqm pb h0,λT G2 nT g2 hT=>?_];have Bx8:=?E6;apply#[Rr,T,_,_,?g,?v (g2 _ _ Bx8),hT,?H5 hcr.ok.len,?H5 ((pb.f.ok.times _).len),λR2 G3 nR2 g3 hR2=>?_];have pZ:=?dr;(have OZ:?pL:=λz=>by rw[z,pZ _ _ hNG]at nR2;cases nR2);exact Br5 _ _ #[R2,?g,OZ,?kb (pZ.free nR2),?fA,hR2]};apply lV λR2 G3 OZ An6 g3 hR2=>?_;intro sq;exact#[_,?g,_,?g,_,_,?g,?g,?i,?Gc #[R2,?g,OZ,An6,g3,hR2]]};(have h0:?gT:=?aI);rw[?r2,?r2]at Il;exact ?Gc #[Rr,?g,nRr,uG,?ea,?E6]};apply lV λR2 G2 OZ An6 g2 hR2=>?_;intro sq;have A94:=g2 _ _ (?II hNG);(ext rW);apply#[_,?g,?G5 A94,_,?g,N,_,_,?g,?g,A94,?b5 ?_,R2,_,_,_,_,_,?g,OZ,An6,(?GE ?g7 g2).turn nHN,?_,by rw[Al OZ];exact hR2];{rw[qa3,qa3,qb9];ext d};rw[Ab,fG,qb0,qb0];rfl};rintro σ G Dc;revert σ;apply zO ?_;intro Rr o5 o6 o7 o8 o9 nRr uG g hNG hRG Ei;rw[el,qc8]at hNG hRG;exact ?Fl #[Rr,_,_,_,_,_,?g,nRr,uG,g,hNG,hRG]};apply Aw1 λRr o5 o6 o7 o8 o9 H5 nRr uG s5 hN5 hR5=>?_;intro sq;apply(?GF _ (?KH 2) ?p9);have s6:?l H5 (?GA H5 T [?u N,?u Rr]):=?oj;apply kq T N Rr _ _ (s5.free hT) nHN uG (λz=>by rw[z,hN5]at hT;cases hT) (λz=>by rw[z,hR5]at hT;cases hT) nRr.symm ?Ej Ab (?Kr hN5) (?Kr hR5) #[c6 ?CS hcl,λq=>rN hs ti Db T9 hps ?iv hc.z ?CS q]
noncomputable abbrev Tt:Stmt:=top 62
def Ml:?Fp [?aq,?al,"work","left_back",?gP] ?df Tt:=Bg
def HU[?H](F:?Fi ?jH ?jH Tt)[?G](FA:JE P w K mg ?j Aj ?hP 3 ?z2)(Io:?HA ?pl 9 ?Eu)(Gv:?HA ?pq 5 ?uB)[?gy](W7:?G7 ?l8 ?jW ?AP):?Fe 10 ?df ?CB:=by apply ?G0 Ml;let#[v,n,w,A,Fin,?g,hv,hn,hw,hP,k]:=h;let ?s5:=?gY;let#[U,Y,a1,a2,a3,a4,a5]:=hP.ex;apply#[_,(Ae (?HS W7) (Ae (?Fg 2 Ml.nd (Lu FA hr ?n T.m_Work ?bj)) (Ae (?IK ?A Io) (Ae (?IK ?A Gv) (Ae (?Fg 3 Ml.nd (?JB Dl (Aa ?iH ?ia))) (Ae (?Fg 4 Ml.nd (?JB Dl (?MV ?iH))) (?GZ (?J5 ?nz ?iH (Aa ?L (?Lu ?W ?iH)))))))))),?_];ext Q;apply ?MD (?LI (?Jo ?ey ?dq none/\?a6));{apply#[_,?g,_,?g,?gg,n,w,A,?g,hv,hn,?i,?qs];apply ?fv;exact ?i2};ext lH;apply ?Fd (S8 λp L R nm=>?pi/\WX K Ah Aj H1 H' p L R nm n w (?h A) ?cY ?cY []);{apply#[_,?g,_,?g,?_];intro p dx np vS XQ;have sN:?l H1 (?KC (?m H1 dx ?oR) Aj []):=?g4 np;exact#[H1,p,dx,?gg,n,w,A,?g,sN,np,Ab,?R s1 hv,?i,hw,λL R nm H' y=>#[?g,?Fl #[p,L,R,nm,?g,y]]]};apply Aw7 λp L R nm H2 x=>?_;intro sq;apply ?Fd (lR λL R k f l r=>Da ?pi (k<=n) (k<=w) (Y k 0 f l r) (?Jj k));{let ?nV:=x.ob;apply#[_,?g,p,kZ,KU,?g,hpa,?BF,H1,p,L,R,nm,n,w,A,_,_,U,?g,x,a1,a2,λL' R' m M l r H' hU hS y=>?_];let#[k,f,e,k1,k2,hY]:=a3 m M l r hU hS;rw[e]at y;exact ?Fl #[L',R',k,f,l,r,?g,k1,k2,hY,y.drop]};apply Aw2 λL R kk f l r H3 k1 k2 hY x=>?_;intro sq;apply ?Fd (Op λf l r=>Bw ?pi (Fin kk f l r) (?yi kk kk f) (?Jj kk));{let ?nV:=x.ob;apply#[_,?g,p,kZ,KU,?g,hpa,?BF,H1,p,L,R,nm,n,w,kk,l,r,f,Y kk,?g,x,k1,k2,hY,a4 kk,λd f' l' r' H' hY' hC y=>?_];exact ?Fl #[f',l',r',?g,a5 _ _ _ _ _ hY',hC,y]};apply GB λf l r H4 hF hC x=>?_;intro sq;ext ra;ext rj;let#[dl,fl,hL,e1,e2,_]:=lx.ob;let#[dr,fr,hR,e3,e4,_]:=ly.ob;let#[as1,xa1,_]:=lx.rw;let#[bs1,xb1,_]:=lx.bk;let#[lN,xa2,_]:=ly.rw;let#[bs2,wA,_]:=ly.bk;have gY:=x.same;apply#[_,?g,p,Aj,kZ,KU,_,?g,hpa,?P,?dP,l3a,L,Ah,dl,fl,_,?g,hL,?c2,?j5,e2,_,?g,ta,us,?g,?v ((?bP gY).seq hq),?u b1,n,n,l.2,?mi,xb1.rep,?i,?i,λD1 c1 H5 hc1 R1=>?_];have zB:=R1.same;apply#[_,?g,p,Aj,kZ,KU,_,?g,(zB _ _ hpa),?P,?ej,l4a,R,Ah,dr,fr,_,?g,(zB _ _ hR),?c2,?jU,e3,_,?g,?u r2,w,w,r.1,?g,(xa2.same zB).rep,?i,?i,λD2 c2 H6 hc2 R2=>?_];have s46:=zB.trans ?eY;apply#[_,?g,p,Aj,kZ,KU,_,?g,?pP,?P,?d2,ZS,_,?g,p,Aj,kZ,KU,_,?g,?pP,?P,?dP,l3a,L,Ah,dl,fl,_,?g,(s46 _ _ hL),?c2,?jU,e1,_,?g,_,?g,_,?g,p,Aj,kZ,KU,_,?g,?pP,?P,?ej,l4a,R,Ah,dr,fr,_,?g,(s46 _ _ hR),?c2,?j5,e4,?a7,?Ex];have WO:?l H6 (?GA H6 tp [?ug,?u r1,?gm,?d0,?u b2]):=?x htp;have s47:=s46.trans WO;have rX:=?G1 ?bP gY s47;have g1:∀a,?Cb->?fE:=?He ?hh;apply k tp nm r1 D1 D2 b2 kk f l r _ hF hC k1 k2 #[rX,?aJ,?Am,(xa1.same s47).rep,(R1.later ?tA).rep hc1,(R2.later WO).rep hc2,(?ne s47).rep,?bO];rcases ha with rfl | rfl | rfl | rfl | rfl;{exact#[g1 _ ?Di,_,?Am,?iB]};{exact#[g1 _ f1,_,s47 _ _ xa1.2.1,by rw[qa3,xa1.1];ext d]};{exact#[g1 _ (gY.free ?l9),_,?Kd ?tA R1.at,by rw[qa3,hc1];ext d]};{exact#[g1 _ (gY.free (zB.free ?ja)),_,WO _ _ R2.at,by rw[qa3,hc2];ext d]};exact#[g1 _ f4,_,s47 _ _ wA.2.1,by rw[qa3,wA.1];ext d]
noncomputable abbrev Lq:Stmt:=top 87
def B5:?E [?oY,?dL,?nR,?xQ,?dK,"_law_chain","_law_holes","_law_j",?cs,?os,"_law_moved",?q1,"_law_first","_law_second"] ?qM (Au Lq):=Bg
set_option tactic.hygienic true in def Ym[?H](F:?Fi ?kI ?kI Lq)[?G][?FQ](Mt:Jn P w K mg ?j Ar ?bu ?qP 9 ?uU)[?FF](fD:?Fu ?iR ?rA ?sz):?Fe 10 ?qM ?ru:=by apply ?G0 B5;let#[p,q,l,a,k,xs,ys,ls,qZ,su,sp,ns,?g,tb,T9,hl,hsl,y4,hS,hnl,kq]:=h;ext eI;let(?J3 sB sB2 ht):=tb;have hs:=bk.sh;have Db:=bk.len;have hy:=DK.sh;have hyl:=DK.len;have hlen:=ht.len.1;ext FU;let#[z2_,L2_,G2_,zs2,ks2,Ls2,Gs2,Vn,lp2,rp2,ti2,_]:=DK.tie;ext F8;apply#[_,(Ae (?Fg 5 ?bF Jz) (Ae (?Fg 6 ?bF (Cm ?y ?aS Fr hr ?dC)) (Ae (Cb qb8 ?g (?GI (?L9 ?gD)) (?HH ?bF) (Ae (?Lv 8 ?bF (?Fk Hr ?W (?L9 (Bh Df Ak ?cW)))) (Ae (?Fg 9 ?bF (?LZ (?Jr (Bh O9 ?br Ak)))) (Ae (Cc ?xS (Ai (Ap (i:=9) ?bF (Bh K3 ?bD (Bc (dJ ?n) T.n_max DJ (Aa Ak ?vY))))) Bn) (Ae (Cc (?Jy ?xS (?Fz Er ?zf)) (?JH 9 ?bF Ak) Bn) (Ai (?Fg 5 ?bF (?ML fD (?J5 ?a4 ?bD ?vY))))))))) (Ae (?Fg 10 ?bF Jz) (Ae (Ty (Cb qb8 ?g (eG ?a4) (?J6 11 ?bF) (Ai (Y5 ?et ?gp (?Fs ?A ?ee) (Y6 ?et ?a4 ?ee ?K) ?n)))) (Ae (?Fg 12 ?bF (Cm ?y ?aS Mt hr (Aa ?L ?dF))) (Ae (?Fg 13 ?bF (Cm ?F ?aS Mt hr (?J5 ?L ?gp Ac))) (?MY (Cc (Bf Ku (?J8 ?yK) (?J8 ?tD) ?M) ?cb Bn) (Mp Er (Bc ?Et ?oL Sb ?yK) (Bc ?Et ?oL Sb ?tD) ?M))))))))),?_];ext Q;obtain⟨ps,hps⟩:∃ps,ls[k]?=?ho:=?uz;obtain⟨ps2,BK⟩:∃ps,qZ[k]?=?ho:=?BX;have same:=ht.same hs ?oF ?qv T9 hps BK;have lv:=?AG;have hpl:=lv.len Db;ext Fa;have n40:?jg<=40:=O9m;have hrr:=lv.rounds hs Db;have pbn:?Ep:=?Il (T4 ti Db T9 hps q ?pB);have Bo6:∀q∈?eM,V1 ys ?a1 q:=?Il (T4 ti2 hyl T9 BK q ?pB);apply ?Fd (Ec λ(b0:Addr)=>Bw (?JP none) (?JO b0) ?a6 (H' b0=?oG));ext rf;apply Nu λb0 H1 nb0 s1 hb0=>?_;intro sq;have sB1:=?bw s1;apply ?Fd (Op λ(hd:Addr) (O:Hp) (hu:?bJ)=>Bw (?JP ?cj) ?iG (?LB hd hu) (Fe O H' hu ?cQ));{apply#[_,?g,p,dx,_,?g,?Dp,?g,_,?g,p,?a1,B,xs,ls,?g,bk,sB1,?i,?i,?op];rw[?Fq (?wB=k),hps]at iI;cases iI;exact ?Fl #[D,_,us',?g,g1,hD,rP]};apply GB λhd O hu H2 s2 hhd rP=>?_;intro sq;have RY:=?cN;have ul:=rP.1;apply ?Fd (?Li (Da (σ'=?A7) ?um ?a6 (?eR=?h ?na) (Xj xs ?a1 ?jg c)));{apply#[_,?g,hd,hu,?g,?v (?k hhd),_,?g,?i,?i,?_];let B32:?aM:=?Jl (?Li (Da (σ=?A7) ?um (?l H2 G) (G b=?h ?na) (Xj xs ?a1 i c)));apply Ck (lo:=0) (n:=hu.length) B32 #[b0,[],_,_,_,?g,nb0,?ea,?GY hb0,Xj.nil ..] ?_ ?_;{rintro i σ G hi Dc;ext f;revert σ;apply ZP ?_;intro b c o7 o8 o9 nb g W4 dr Ei;obtain⟨w,hw⟩:∃q,?cQ[i]?=?dD:=?dA;obtain⟨v,hv⟩:∃v,hu[i]?=?aX:=?dA;let#[t1,c1,c2,c3,?g,_,et,e1,e2,e3]:=?IY g i;have hwm:=qb2 hw;have pb:=pbn w hwm;have Am7:=?Ld hhd;have i0:?ba=?it:=O9m;(have atu:Um hu ?ba=?h (?u t1):=?Ie hv);apply ?JJ (Ec λ(ce:Int)=>?LE o9/\?hU) ?cE;rotate_left;{exact#[_,?g,_,?g,_,_,?g,?g,a,ns,1+?cw,?g,(?jq g).seq hS,?i,hnl,?Gc ?y9]};rintro _ _ ⟨ce,rfl,rfl⟩;apply ?GQ 9;rotate_left;{apply#[_,?g,_,_,?g,?g,?fj,_,_,?g,?g,(?GB 9),_,_,?g,?g,?_];generalize hm:ce / 3%9=m;have m0:0<=m:=hm▸ ?kO;have m1:m<9:=hm▸ ?gr;exact ?Gc #[m-4,?g,?g,?i]};rintro _ _ ⟨n1,rfl,rfl,hn1⟩;apply ?Dz;rotate_left;{apply ?is;apply ?as ?fn (λh1=>?Gc #[n1,?g,?g,Gd hn1 ?z]);have nn:=pb.nn;(have hmx:(if w.1 > 1 then w.1 else 1:Int).natAbs<2 ^ 9000:=by split;{exact pb.nb};exact Gd (m:=1) ?z ?z);exact#[_,?g,_,?g,_,?g,hd,hu,_,_,?g,?g,?mJ,atu,t1,_,_,_,?g,?g,?dp,?g,_,_,?g,_,_,?g,?g,Lx hn1 hmx ?z,?Gc #[_,?g,?g,Gd (m:=9+9000) (aN hn1 hmx) ?z]]};rintro _ _ ⟨n2,rfl,rfl,hn2⟩;apply ?Dz;rotate_left;{apply ?is;apply ?b0;{apply#[_,?g,_,?g,hd,hu,_,_,?g,?g,?mJ,atu,t1,_,_,_,?g,?g,?dp,?g,?g,_,?g,?_];exact ?as (λh2=>?Gc #[0,?g,?g,Hs _]) (λh2=>?Dk)};exact Oo ?z ?Dk};rintro _ _ ⟨n,rfl,rfl,hn⟩;apply#[_,?g,_,?g,_,?g,_,?g,hd,hu,_,_,?g,?g,?mJ,atu,t1,_,_,_,?g,?g,?dp,?g,b,c1,n,c,w.2.1,?g,W4,e1,dr.ch.ok.n,pb.r.ok.n,by have:=dr.ch.ok.len;ext d,by have:=pb.r.ok.len;ext d,?ul,λb2 G1 nb2 g1 hb2=>?_];{rw[←pb.r.ok.val hx];exact Lx hn (pb.rb _) (by unfold Yw bookF;decide)};exact#[b2,_,_,_,_,?g,RY.free (?kb nb2),?g7,hb2,dr.next hrr hwm pb hn]};rintro σ G Dc;revert σ;apply ZP ?_;intro b c o7 o8 o9 nb g W4 dr Ei;rw[ul]at dr;exact ?Fl #[b,c,o7,o8,o9,?g,nb,?jq g,W4,dr]};apply Aw3 λb c o7 o8 o9 H3 nb s3 jF dr=>?_;intro sq;have cn:=dr.ch.ok.n;apply ?Fd (Ec λ(e0:Addr)=>?M6 (σ'=(?JL (rS e0) none)) e0 (H' e0=?oG));ext rf;apply Nu λb2 H4 n32 s4 Bx1=>?_;intro sq;(have nbb:b2≠b:=λz=>by rw[z,jF]at n32;cases n32);have hb4:=?Gl jF;have UB:=?Gl ?DU;have nlb:l≠b:=Aq hl nb;have nl2:l≠b2:=Aq ?DU n32;apply ?Fd (Ec λVR=>Fm (σ'=?CZ) ?ev (?LN b2 ?kj));{apply ?Gr ?eu hb4;apply ?sH;let B31:?aM:=?Jl (Ec λVR=>Bw (σ=?CZ) ?Cu (?Fv G b2 ?sE) ((∀d r,d≠b->d≠b2->H4 d=?h r->G d=?h r)));apply ?LP ?eu B31 #[?p,?g,Ab,by rw[Al nbb];exact Bx1,?I7 ?of];{rintro i kk x σ G hx Dc;ext f;revert σ;apply ?lD;intro VR W4 Ea pO Ei;let#[w,hw,?g,?g]:=?dz;have hwm:=qb2 hw;have hat:Cr c w.1=?h w.2:=F9 cn hwm;have hpl:=C3 (dr.ch.key w hwm);have hlG:=pO _ _ nlb nl2 UB;(have atl:Um ?fM w.1=?Ft ?oZ:=by have e1:=y4 ?mX ?i;(have e2:?fM[?mX]?=?Ft (su ?yq):=by rw[qa7,e1];rfl);have e3:=Bj e2;rwa [?Fq (?yq=w.1)]at e3);have c40:=dr.ch.ok.len;apply#[_,?g,_,?g,b,?o w.2,?g,?Bp,_,?g,_,?g,_,?g,l,_,_,_,?g,?g,?k hlG,atl,b2,_,?g,Zb Ea (by unfold movC;rw[qa3,qb9];ext d),?_];apply#[_,?g,by rw[Al nbb.symm];exact W4,?_,?I7 (by rw[?g2];exact ?Ko pO d)];(have fG:movC su (?pg ?aG)=?sE++[(?oZ,w.2)]:=by unfold movC;rw[qe1,hw,qb0];rfl);rw[Ab,fG,put_new];intro hin;let#[u,hu1,XZ]:=qc7.mp hin;let#[y,hy1,?g]:=qc7.mp hu1;have hu3:su y.1=?oZ:=XZ;(have hy3:y.1=w.1:=by rw[←mv.ts y.1,hu3,mv.ts]);let#[j,hj]:=qf5 hy1;rw[qg8]at hj;split at hj;{rename_i hji;have h1:=(?cq hj).1;have h2:=(?cq hw).1;(have e1:(c.map (·.1))[j]?=?h w.1:=by rw[qa7,hj,←hy3];rfl);(have e2:(c.map (·.1))[i]?=?h w.1:=by rw[qa7,hw];rfl);have e3:=(?cq e1);have e4:=(?cq e2);have:=KG cn e3.1 e4.1 (e3.2.trans e4.2.symm);ext d};cases hj};rintro σ G Dc;revert σ;apply ?lD;intro VR W4 Ea pO Ei;rw[Ks,qc8]at Ea;apply#[W4,?Fl #[VR,?g,λd r e=>?_,?Ks nbb]];by_cases z:d=b;{subst z;rw[jF]at e;cases e;exact Ab};rw[?dN];exact pO d r z (Aq e n32) (?Gl e)};apply Sm λVR H5 s5 Bx0=>?_;intro sq;have hb5:=s5 _ _ jF;have vR:=?f0 s5;have drm:=dr.mov mv hs hy hlen Db;have rok:=dr.ok n40 Db pbn;have Bo0:=drm.ok n40 hyl Bo6;apply ?Fd (S8 λ(t1 N D:Addr) (m:Ms)=>Da (?JW none) ?pI (?KZ t1) ?Bi (Xl xs ?a1 ?cQ c m));{exact#[_,?g,p,dx,_,?g,?H7 (?bw vR),?g,_,?g,_,?g,p,b,k,B,xs,ls,ps,c,?g,bk,?bw vR,sB.free nb,T9,hps,hb5,rok,?wS]};apply YV λt1 N1 D1 m1 H6 s6 ht1 hN1 hr1=>?_;intro sq;have ZC:=vR.trans s6;apply ?Fd (S8 λ(t2 N D:Addr) (m:Ms)=>Da ?Aw (?Jx H6) (?KZ t2) (?LB N ((?ti (Of ?kj)).map ?J)) (Xl ys ?a1 ?eM ?kj m));{exact#[_,?g,q,dx2,_,?g,(?lV ZC) _ _ hq,?g,_,?g,_,?g,q,b2,k,B2,ys,qZ,ps2,?kj,?g,DK,?lV ZC,(?lV s3).free n32,T9,BK,?Kr Bx0,Bo0,?wS]};apply YV λt2 N2 D2 m2 H7 s7 ht2 hN2 hr2=>?_;intro sq;have A67:=s7 _ _ ht1;have A96:=s7 _ _ hN1;have B20:=qU mv hs hy Db hyl ?oF ?qv T9 hps BK dr.ch drm.ch hr1 hr2;(have Bq7:?jg=?vT:=by have:=congrArg List.length same.1;ext Z);apply ?Fd (?Aw/\H7=H');{apply#[_,?g,t1,_,_,_,?g,?g,?k A67,?g,N1,_,?g,?v ?wV,_,?g,t2,_,_,_,?g,?g,?k ht2,?g,N2,_,?g,?v ?E2,?g,_,?g,?_];apply ?HY (by simp[Bq7]);exact ?fe};ext bQ;apply#[_,?g,t1,_,_,_,?g,?g,?k A67,?g,N1,_,?g,?wV,_,?g,t2,_,_,_,?g,?g,?k ht2,?g,N2,_,?g,?E2,?_];have es:?KR H7:=ZC.trans s7;rw[B20];apply ?dn;rw[qf8 ?g];exact kq _ es
noncomputable abbrev Tv:Stmt:=top 66
def Ed:?Fp [?aB,?bu,?nk,?oX,"k",?al,?eo,?hS] [?aB] Tv:=Bg
set_option tactic.hygienic true in def HW[?H](F:?Fi ?ic ?ic Tv)[?G][?Fc](W9:?B P w K mg ?j ?jH ?df 10 ?CB)[?lF][?FM](W5:?Hw ?j7 ?oo ?CI)[?gy](Nj:?B P w K mg ?j ?iy ?dd 8 ?vI):?Fe 11 [?aB] ?sp:=by apply ?G0 Ed;let#[a,xs,?g,hL,hs,Db,kq]:=h;ext lL;(have h4:∀x∈xs,x.length<=4:=λx hx=>by let#[i,hi]:=qf5 hx;rcases (hs i x hi).cnt with e | e | e | e<;>ext d);have pl:∀k,?bc<=40:=λk=>?nh;apply#[_,(Ae (?Fg 1 ?cD ?dJ) (Ae (Ap (i:=2) ?cD (?ML S0 (?L9 (?J8 (Aa (Ao Bu hr ?vZ) Ac))))) (Ae (?Fg 3 ?cD (?JB S0 ?DC)) (Ae (Cb qb8 ?g (?GI ?yI) (?J6 4 ?cD) (Ae (?Fg 5 ?cD (?MT (?L9 (?ML Bu ?AK)))) (Ae (Ap (i:=6) ?cD (?JB W9 (Aa (?Fk L3 ?L (Aa (?ML Nj ?AK) ?dF)) ?dF))) (Ae (Bt (Hn (K:=K) qe7 qh6 qh5 Fx ?F (?L9 (?Fk W5 ?y (?J5 ?W ?aW ?ol))))) (Ae (?Fg 7 ?cD (?J8 (?L9 ?pb))) (Ae (?Fg 2 ?cD (?LW (?JB Dl (Aa ?pb ?dF)) ?zg)) (?JH 3 ?cD (?LW ?pb ?zg)))))))) ?yc)))),?_];ext Q;apply ?Fd (Ec λ ?c5=>Bw (?JA ?aA none none) ?a6 ?dT ?DR);ext FI;apply Nu λD H1 s1 nD hD=>?_;intro sq;apply ?Fd (Ec λ(la:Addr)=>Bw (?JA ?aA ?af none) ?iG (la≠D) (Rep K H' ?p5 ?y8));{apply#[_,?g,a,0,xs,?g,?eK,?i,?s1];apply ?rR;rw[qa3];exact#[?gI,?g,?uL,λla at_ H3 hal R3=>?Fl #[la,?g,?DB,?th,nF ?mw]]};apply Nu λla H2 s2 nlD hla=>?_;intro sq;apply ?Fd (Ec λ(ga:Addr)=>Bw (?JA ?aA ?af ?ac) ?f3 (ga≠D) (Rep K H' ?hg ?y8));{let#[_,lu,ez,hlq,Am6,_]:=Iq hla;cases ez;apply ?w3;rw[Am6];exact#[?gI,?g,?uL,λga at_ H3 hal R3=>?Fl #[ga,?g,?h9,?th,nF ?mw]]};apply Nu λga H3 s3 ngD hga=>?_;intro sq;have s13:=?GE ?cN s3;apply ?Fd (Ac4 K H a D xs 4 σ' H');{apply ?Eq;apply ?IJ (λk σ G'=>Ac4 K H a D xs k σ G') ?_;{apply#[[],[],la,ga,?gI,?fV,?fV,_,_,_,_,?g,s13,?Kd ?dw hD,?g,Kb.first xs,?Db,nlD,ngD,?R s3 hla,hga,?_,?iL,one_bits _ _,one_bits _ _];(have e0:Cj xs (?BU-1)=0:=by show(plc xs (0-1)).length=0;rw[wX];rfl);rw[e0];exact Lat.Lev.first _ _};{rintro k σ G' hk Dc;ext f;let#[us,ls,la,ga,z,L,G,o4,o5,o6,o7,?g,g,Ea,VU,y6,hB,nla,nga,rla,rga,lev,hzm,bL,bG]:=Dc;rw[?yN];have C21:=pl ?a1;have C00:=pl ?c7;(have hzw:z+?cu<=40:=by have:=SG (xs:=xs) (?Fq (?a1≠?c7));ext d);have VP:?GR k:=hB.1.trans VU;have ekk:?c7-1=?a1:=O9m;have QZ:=?R g hL;apply ?Fd (?JU ?af o6 o7/\?Jx G');{apply#[_,?g,_,?g,_,_,?g,?g,a,?c7,xs,?g,QZ,?i,?s1];apply ?rR;rw[qa3];exact ?Fl #[?g,s2]};apply Iw ?oU;intro sq;have tw:=ET hs ?a1;have told:=lev.told tw;let#[pv,st]:=lev.st;have plan:=qQ st told (λq c _ _=>WC h4 _ q c) hzw;apply ?Fd (QW λ(tp nm r1 D1 D2 b2:Addr) (k0:Nat) (f:?f2) (l r:?cm)=>Da ?wz ?km ?ym (LQ D nm r1 D1 D2 b2) (?Jk Yx ?a1));{apply#[_,?g,_,?g,_,?g,_,_,?g,?g,a,xs,?c7,?g,?R ?g7 hL,?i,h4,?i,?i,λT as G2 hal R2=>?_];rw[ekk]at hal;have rT:Rep K G2 ?q8 (dT ?mj ?cu ?lp):=R2.rep hal;apply#[_,?g,?hg,?q8,z,?mj,?cu,G,?lp,?g,?R ?vr rga,rT,?i,?i,?i,λi j c hi hj hc=>Lx (bG i j hi hj) (jN h4 _ j c) (by unfold bookF;decide),λT2 lN G3 An2 R3=>?_];apply#[_,?g,?u T2,z,?cu,Lat.gT ?mj G ?lp,_,?g,R3.rep An2,?i,?i,plan,λtp nm r1 D1 D2 b2 k0 f l r G4 hF hC k1 k2 x=>?_];exact ?Fl #[tp,nm,r1,D1,D2,b2,k0,f,l,r,?g,(?jV ?h9).trans ?fY,x.r,x.ne (?KJ ((?vr).trans ?h9)),#[lev,hF,hC,k1,k2,bL,bG,hzm]]};apply Ad5 λtp nm r1 D1 D2 b2 k0 f l r G2 g2 x xn bl=>?_;intro sq;have pZ:=?dr;apply ?Fd (Ec λ(us':?bJ)=>Da ?wz ?a6 (?cL=?JC us') (Gj D H' us' ?BK) ?ym);{apply#[_,?g,?G5 ?AI,_,?g,_,?g,_,?g,_,?g,_,?g,a,tp,nm,r1,D1,D2,b2,?p5,?hg,xs,?a1,z,k0,_,L,G,f,l,r,?g,?R (?bK pZ) hL,Db,?g,?R pZ rla,?R pZ rga,x,?i,bl.kz,bl.kw,λi hi=>by have:=bl.fin.dg.pos i hi;ext d,bl.fin.bl.1,bl.fin.bl.2,bL,bG,λE eu G3 nE g3 hE rE=>?_];have ZZ:=pZ.trans g3;apply(?HM ?qk);(have nED:E≠D:=λq=>by rw[q,?AI]at nE;cases nE);apply ?Fl #[us++[?fP],?g,(?bK ZZ).turn nD,Ab,?_,?_];{exact(hB.same ZZ).snoc ?qk nED hE rE};exact(?fY g3).put xn ?qk hB.refs};apply lV λus' G3 g3 An9 hB3 x3=>?_;intro sq;apply ?Fd (?JU ?af ?ai (?LU ?l1)/\G3=H');{apply#[_,?g,tp,_,_,_,?g,?g,?mc,?g,nm,_,?g,?v x3.num,?_];rw[Bv];exact ?fe};rintro _ _ ⟨rfl,rfl⟩;have hkw:=bl.kw;apply ?Fd (Ec λ(la2:Addr)=>Bw (?JU (rS la2) ?ai (?LU ?l1)) (?Jx G3) (la2≠D) (?Jd H' la2 (dT ?D6 ?cu ?Cc)));{apply#[_,?g,tp,_,_,_,?g,?g,?mc,?g,_,?g,?d0,_,_,_,?g,x3.right,?i,?i,λF as G4 hal R4=>?_];apply#[_,?g,_,?g,F,_,?g,?k R4.at,?du];(have ec:Ci ?bz (?h ?l1) ?p=?Hx as.drop k0 ?bg:=by rw[Ir,qq5]);rw[ec];have R5:=R4.drop (k:=k0) hC ?g;apply ?Fl #[C,?g,R5.same,(Aq (?pk _ _ An9) hC).symm,?_];exact R5.rep (by rw[qh4,hal])};apply Nu λla2 G4 g4 Bp1 Bo1=>?_;intro sq;have x4:=x3.same g4;let#[_,bu,ez,hbq,Bw3,A90]:=Iq x4.rback;cases ez;apply#[_,?g,tp,_,_,_,?g,?g,?ql,?g,_,?g,_,?g,b2,bu,?g,hbq,?du];rw[Ir];have g5:=?x (o:=?t (bu.drop k0)) hC;apply#[us',?BK,la2,C,?D6,?Cc,(λi=>r.2 ?A2),_,_,_,_,?g,?GE ?ok g5,?Kd ?qZ An9,by rw[qb7,VU];rfl,y6.snoc bl,hB3.same ?qZ,Bp1,(Aq (g4 _ _ An9) hC).symm,?_,?_,?_,?_,?_,?_];{rw[?fS];exact ?R g5 Bo1};{rw[?fS];apply YJ (us:=bu) (λi u e=>?_) Bw3 ?aJ;let#[h1,b,eb,hb]:=A90 i u e;exact#[h1,b,eb,g5.seq hb]};{let#[pl',lo]:=bl.fin.lo;have:=lev.next tw bl.fin.dg bl.fin.il bl.fin.ir lo;rw[?fS,ekk];exact this};{rw[?fS];ext d};{rw[?fS];exact λi c hi hc=>bl.fin.br.1 _ _ ?i hc};rw[?fS];exact λi c hi hc=>bl.fin.br.2 _ _ ?i hc};rintro σ G' h;exact ?Fl h};rintro _ H4 ⟨us,ls,la',ga',z,L,G,o4,o5,o6,o7,rfl,g,Ea,VU,y6,hB,_⟩;exact#[_,?g,kq D us ls H4 nD g Ea VU #[_,_,_,y6] hB.out]
noncomputable abbrev Na:Stmt:=Eo ?gH 0
def Qj:?Fp [?aH,?bT,?r4] ?rP Na:=Bg
def i9[?H](F:?Fi ?bY ?wQ Na)[?G](Xa:?B P w K mg ?j ?ic [?aB] 11 ?sp)(W6:?G7 ?hT ?oa ?tQ)(W8:?B P w K mg ?j ?jM ?fU 6 ?ty)(Jh:?Fj ?E5 ["parts"] Le):?Fe 12 ?rP ?wK:=by apply ?G0 Qj;let#[p,dx,a,us,H0,xs,?g,hp,ha,r,s0,n0a,n0p,hs,Db,k]:=h;have hL:LT K H ?cf xs:=(?KN a ha s0);(have nap:a≠p:=λz=>by rw[z,hp]at ha;cases ha);apply#[_,(Ae (Cc (Ki (?M3 Je W8 ?aU)) ?fO Bn) (Ae (?Fy ?zN) (Ae (?Fg 2 Qj.nd (?JB Xa ?da)) (Ae (Fd (K:=K) ?y (B6 (N':=["parts"]) (cap:=?cr) ?n ?X ?BR (?Fh (?J6 0 Aj3)) ?aC (?Fh (?JB Jh ?b8)))) (?Lj (?JB W6 ?o4)))))),?_];ext Q;apply ?Fd (?u0/\?a6);{apply#[_,?g,?cf,xs,?g,hL,hs,Db,?qs];exact Oo ?z ?i2};ext lH;apply ?Fd (Ec λ ?zl=>G9 ?u0 ?ws (H' P=?d9) (P≠p) (P≠a) (?K6 Ar [?qU]));{apply#[_,?g,a,us,?g,?v (?k ?yf),λP hP=>?_];have s2:=?bP (?x (o:=?fL) hP);have nPp:P≠p:=(Aq ?gf hP).symm;apply#[_,?g,p,Ar,dx,[],?g,?GY hp,?aS,?gW,?au,?_];exact ?Fl #[P,?g,?K7 s2,?Kt nPp,nPp,(Aq ?yf hP).symm,?qr]};apply Ax1 λP H2 sx2 hP2 nPp nPa hp2=>?_;intro sq;have RY:=?tM s0 n0p;have ha2:=sx2 _ _ nap ha;apply ?Fd (Op λ ?c5 ?mb ?AA=>Mb ?y1 ?f3 (?cL=?r7) ?pV (Pt H' bu ls) (ls.length=4) (∃z L G,Kb xs 4 ls z L G));{apply#[_,?g,p,Ar,dx,_,_,?g,hp2,?aS,?gW,?g,P,xs,?g,(?KN P hP2 RY),hs,Db,λD bu ls H3 nD s3 hD UB y6 hB=>?_];exact ?Fl #[D,bu,ls,?g,s3,hD,(Aq hp2 nD).symm,hB,UB,y6]};apply Aw8 λD bu ls H3 s3 hD nDp hB UB A66=>?_;intro sq;have y6:=let #[_,_,_,t]:=A66;Kb.lev t;have hp3:=?vq;have ha3:=?K1 ha2;have h0:=hB.1;apply ?Fd (Kc λ(Lv:Addr) ?fN=>Xn ?y1 ?xH (H' Lv=?gK) ?BY ?uE (Pt H' ws (ls.map noB)) ?uc (?K6 Ar ?sN));{apply(?GF D ?mW (λLv MV=>?_));have nLp:?BY:=(Aq hp3 MV).symm;have nLa:?uE:=(Aq ha3 MV).symm;let B30:?a2:=λi ws τ G=>Da ?Cz (G Lv=?gK) (Gj Lv G ws (?Hx ls.take i noB)) ?uc ?d5;apply C5 (K:=K) (a:=D) (xs:=bu) B30 #[?x MV,Ab,?Db,(λv hv=>by cases hv),?p,?g] (λi ws τ G _ hz=>?JV ?hp g hD) ?_ ?_;{rintro i v ws τ G hv Dc;revert τ;apply tT ?_;intro g QZ hW hna o Ei;have hi:=?cZ;obtain⟨ps,hps⟩:?rB:=?dA;let ?vo:=?zd;have hpl:=(y6 i ps hps).len Db;(have wl:ws.length<=i:=by have:=hW.1;rw[qa3,qb9]at this;ext d);apply#[_,?g,pa,pu,ps,?g,?qG,rP.same g,?i,λE eu G2 nE g2 hE rE=>?_];have nEL:E≠Lv:=(Aq QZ nE).symm;apply#[?CU,?b2,?Ha g2 MV,Ab,?_,λv hv=>?_,_,?g];{rw[qe1,hps,qb0];exact(hW.same g2).snoc ?CU nEL hE rE};rcases qj5.mp hv with hv | hv;{exact hna v hv};rw[qk7]at hv;subst hv;exact λz=>by cases z;rw[?Ld ha3]at nE;cases nE};rintro ws τ G ⟨g,QZ,hW,hna,_⟩;rw[h0,qc8]at hW;apply(?Hy ?mv ?qH);apply ?Fl #[Lv,ws,?g,?K7 g,by rw[Al nLp];exact QZ,nLp,nLa,?sq,hna,?qr];let#[E,eu,?g,_,hE,rE]:=?vW;apply(?ID ?_ ?_);{rw[?f5];{exact hE};rw[z,?mv]at hE;cases hE};rw[?f5];{exact e};rw[z,?mv]at e;cases e;rcases ho with⟨_,q⟩|⟨_,q⟩<;>cases q};apply Ax0 λLv ws H4 zA MV nLp nLa hW hna P3=>?_;intro sq;have oO:=zA.same (?jq s3) n0p;have hP4:=zA _ _ nPp (?K1 hP2);have KQ:=zA _ _ nDp hD;have ha4:=zA _ _ nap ha3;have kd4:∀c o,H3 c=?bh->(∀C d f,o≠?aD C d f)->H4 c=?bh:=λc o e h=>zA _ _ (λz=>by rw[z,hp3]at e;cases e;exact h _ _ _ ?g) e;have hB4:Pt H4 bu ls:=#[h0,λi v ps e1 e2=>by let ?yY:=hB.2 i v ps e1 e2;exact(?ID (kd4 _ _ hE λ_ _ _ z=>(by cases z)) (kd4 c o e λ_ _ _ z=>by rcases ho with⟨_,q⟩|⟨_,q⟩<;>rw[q]at z<;>cases z))];apply#[_,?g,p,Ar,dx,_,_,?g,P3,?aS,?gW,?g,_,?g,P,D,xs,bu,ls,?g,(?KN P hP4 oO),Db,KQ,hB4,λps hps=>?_,λLf wu H5 nLf s5 hLf dd=>?_];{let#[i,hi]:=qf5 hps;exact(y6 i ps hi).ok Db};have nfp:Lf≠p:=(Aq P3 nLf).symm;have nfa:Lf≠a:=(Aq ha4 nLf).symm;have II:=s5 _ _ P3;apply(?Hy II ?Ez);(have hp6:?L1 H5 ?Ev (?Gi Ar [?qU,?yd,(?fX,?ta)]):=?qr);have GF:?La H5 ?wv:=?bi;generalize ?wv=H6 at hp6 GF;have ha6:=?Hu nap ha4;have ZC:=GF.same (?z4 s5) n0p;have sB:=UC ZC n0a;(have kd6:∀c o,H5 c=?bh->((∃l,o=?U l)\/∃l,o=.dK l)->pS H6 a c=?bh:=λc o e ho=>by (have ncp:c≠p:=λz=>by rw[z,II]at e;cases e;ext Fb);have e6:=GF c o ncp e;rw[Mu ?l0];{exact e6};rw[z,ha6]at e6;cases e6;ext Fb);apply k (pS H6 a) ls H6 ((?G1 sx2.trans (?bl s3) zA).trans (?G1 ?bl s5 GF)) #[#[dx,P,Lv,Lf,ws,wu,?_,#[P,us,?g,?uu,?IO sB],?_,?sq,?_,dd.1,λi v e=>?_],hs,Db,UB,y6,A66] sB PR mV;{rw[Mu nap.symm];exact hp6};{rw[Mu nPa];exact ?Hu nPp hP4};{rw[Mu nLa];exact ?Hu nLp MV};{let ?yY:=?vW;have hE5:=s5 _ _ hE;(have nEp:E≠p:=λz=>by rw[z,II]at hE5;cases hE5);have nEa:E≠a:=λz=>hna _ (qb2 e1) (by rw[z]);exact#[E,eu,?g,by rw[Mu nEa];exact GF _ _ nEp hE5,B7.kd kd6 (rE.same s5)]};{rw[Mu nfa];exact GF _ _ nfp hLf};let#[c,e1,_,e2]:=dd.2 i v e;exact#[c,e1,?g,kd6 _ _ e2 (?O ?cO)]
noncomputable abbrev U4:Stmt:=top 90
def Mz:?E [?dK,?co,"_law_pair",?nR,?q1,?oY,?dL,?fB] ?jm ?Dr:=Bg
def Ah8[?H](F:?Fi ?e0 ?e0 U4)[?G](Q7:?G7 ?kV ?qW ?yn)(Hi:?KG ?hn ?o5 ?B3)(Y9:JE P w K mg ?j Ar ?rP 12 ?wK)[?FF](Pm:?Fu ?jG ?oD ?yu)(Nl:?B P w K mg ?j ?kI ?qM 10 ?ru)(K6:?Gp ?pF ?AN)(Jt:?Gp ?nD ?wb)[?FQ]:?Fe 14 ?jm ?vN:=by apply ?G0 Mz;let#[a,ns,?g,hS,hl,Ci0,kq]:=h;ext eI;apply#[_,(Ae (?Fg 1 ?dH (?JB Q7 (Aa ?sZ ?C1))) (Ae ?wW (Ae (Cc (?Fz Er (?Jr ?sZ)) (Ae (?Fg 1 ?dH (?JB Pm ?C1)) (Ai ?wW)) Bn) (Ae (?Fg 3 ?dH (Bh jY ?pr ?pm)) (Ae (Cb qb8 ?g (?GI ?ry) (?J6 4 ?dH) (?MB ?W (Kk ?L (?Fs ?d4 ?W) Fu))) (Ae (?Fg 5 ?dH (Lu Y9 hr ?n ?AH (?L9 ?zN))) (Ae (?Lv 6 ?dH (Lu Y9 hr ?n ?AH (?I5 ?AM))) (Ae (Cb qb8 ?g ?tP (?HH ?dH) (Ae (Cc (Bf ?vX (?LC ?a4) (?LC ?aW) ?M) ?cb Bn) (Ae (?HB (?LT Ku K6 K6) (jV (?LT ?vX Jt Jt))) (?Lt (Ki (Je (?Fk Nl ?a4 (?J5 ?aW ?L (Aa ?cW ?b8))))) ?cb)))) ?cb)))))))),?_];ext Q;apply ?Fd (?Lw (?JA ?c3 none none) ?a6);{apply#[_,?g,a,ns,0,?g,hS,?z,hl,_,?g,_,?g,_,?g,a,_,?g,hS,?du];have sC:?KR (?GO H ?ah ?oi):=?gj;have hcl:=?J4 Re ?oi;apply#[C,?J4 Yu ?oi,_,20,?g,?_,?i,?z,?z,λp1 us1 H1 zs hp1 s1 Bu0 r1 hsh hzl=>?_];{rw[←Rc];exact ?aJ};exact ?Fl #[p1,us1,zs,?g,?tF s1,Bu0,r1,hsh,?i]};apply RH λp1 us xs H1 s1 hp1 r hs Db=>?_;intro sq;have hS1:=?pX;apply ?Fd (lR λ(R1 p o:Addr) (fZ:?bJ) ?nI ?i4=>Mb ?D3 ?iG ?w5 ?sj ?oE ?z7 ?iD);{apply(?Hb hS1);have sC:?KF (?GO H1 ?ah ?eD):=?gj;have hcl:=?J4 Re ?eD;apply#[p1,C,?J4 Yu ?eD,xs,?g,?Eh,?_,?i,?i,Wi hs,?tp];{rw[←Rc];exact ?aJ};exact ?Fl #[R1,p,o,fZ,ys,os,?g,?p1,hR,X1,ho',r',hT]};apply Aw0 λR0 y0 o0 us0 ys0 os0 H2 s2 hR0 hy0 ho0 r0 hT0=>?_;intro sq;have hS2:=?em hS1;apply ?Fd (Ex9 λ(p1 R1 p o:Addr) (us fZ:?bJ) (xs ys:LLInt) ?i4=>nY ?D3 ?f3 ?qV ?ly ?kq ?nN ?w5 ?sj ?oE ?z7 ?iD);{apply#[_,?g,a,ns,0,?g,hS2,?z,hl,_,_,?g,?g,?Cw,?g,_,?g,?_];apply ?as ?r1 (λ_=>?Fl #[p1,R0,y0,o0,us,us0,xs,ys0,os0,?g,?ea,?xL,?a0 s2 r,hs,Db,hR0,hy0,ho0,r0,hT0]);apply ?MP (?LI (?Lw (?JA ?c3 (rS R0) none) ?f3));rotate_left;{apply(?GP a hS2 ?du);have sC:?Jw (?GO H2 ?ah ?dj):=?gj;have hcl:=?J4 Re ?dj;(have C39:(?yR).length<=40:=by unfold Yu;rw[qb9,?In (HT.sIx ?e1 0 ?ah) 1 1,?In (HT.sIx ?e1 ?e1 ?dj) 21 21];first|exact Nat.le_trans zn6 ?mH|ext d);apply#[C,?yR,20,?g,?_,?i,λp us H' xs hp s' X1 r' hsh Db=>?_];{rw[←Rc];exact ?aJ};exact ?Gc #[p,us,xs,?g,?p1,X1,r',hsh,?i]};apply RH λp1 us xs H3 s3 hp1 r hs Db=>?_;intro sq;have hS3:=?CA;apply(?Hb hS3);have sC:?l H3 (?GO H3 ?dj ?eD):=?gj;have hcl:=Re ns ?dj ?eD;apply#[p1,C,Yu ns ?dj ?eD,xs,?g,?Eh,?_,?i,?i,Wi hs,?tp];{rw[←Rc];exact ?aJ};have sCs:=?p1;exact ?Fl #[p1,R1,p,o,us,fZ,xs,ys,os,?g,?f0 sCs,sCs _ _ hp1,?a0 sCs r,hs,Db,hR,X1,ho',r',hT]};apply Ad4 λp1 R1 y1 o1 us fZ xs ys os H3 s3 hp1 r hs Db hR1 hy1 zV r2 hT=>?_;intro sq;have hS3:=?CA;ext rX;let#[tu,su,mv]:=hT.mov;have hlen:=hT.len;have hys:=hT.shape hs;apply ?Fd (Ec λ(l:Addr)=>?M6 (?JA ?c3 ?bt ?a9) l (?LB l ?tH));{apply#[(?KH 1),λZ hZ=>?_];have sZ:?l H3 ?u4:=?x hZ;have eZ:?m H3 Z ?lo Z=?h ?lo:=Ab;generalize ?u4=G1 at sZ eZ ⊢;apply#[_,?g,p1,us,?g,?Jb sZ hp1,Z,_,_,?g,?g,eZ,?i,?i,Br (by rw[VP,qe0];show 1*xs.length<=_;ext d),λl hl=>?_];(have eC:(?cK (?ny).toNat [?c1]).flatten=?tH:=by rw[VP,qe0,List.flatten_replicate_singleton,List.map_replicate]);rw[eC];exact ?Fl #[l,?g,sZ.free hl,sZ.trans (?x hl),Ab]};apply Nu λl H4 nl3 s4 UB=>?_;intro sq;apply ?Fd (Kc λ ?va ?il=>Da (σ'=?CV) ?ev (?LB l ?fM) ?z0 (∀i:Nat,?qy->?Km sp ?nH));{apply#[_,?g,p1,us,?g,?Jb s4 hp1,_,?g,?i,?i,?_];let B29:?aM:=λi σ G=>Kc λ ?va ?il=>Da (σ=?CV) ?Cz (?ME G l ?fM) ?z0 (∀j:Nat,j<i->sp[(tu ?eB).toNat]?=?h ?eB);apply Ck (lo:=0) (n:=us.length) B29 #[_,_,?g,s4,UB,qk5,λj hj=>O9m] ?_ ?_;{rintro i σ G hi Dc;ext f;revert σ;apply ?hc;intro sp o4 g hlG spl y4 Ei;have hor:=mv.old i ?i;have hoG:=?Ld zV;have hRG:=?Ld hR1;have rg:=(mv.rng ?aO).mp ?qa;have i0:?ba=?it:=O9m;(have ato:Um ?eA ?ba=?Ft ?g3:=?Ie (by rw[qa7,hor];rfl));(have hix:VT ?t3 ?g3=?h ?i8:=by have:=Js (l:=?t3) (i:=?i8) ?t8;rwa [?GS (((?i8:Nat):Int)=?g3)]at this);apply#[_,?g,_,?g,_,?g,R1,_,_,_,?g,?g,?k hRG,?g,_,?g,o1,_,_,_,?g,?g,?k hoG,ato,l,_,_,_,?g,?g,hlG,hix,sp.set ?i8 ?aO,_,?g,g.turn nl3,by rw[Ab,qy3,i0],by rw[qi4];exact spl,?up];rw[qo5];by_cases hj2:j=i;{subst hj2;rw[?bI,?aj ?ck]};have rj:=(mv.rng ?eB).mp ?qa;rw[if_neg,y4 j ?ck];intro z;have z2:?g3=tu ?eB:=O9m;(have z3:?aO=?eB:=by rw[←mv.st ?aO,z2,mv.st]);ext d};rintro σ G Dc;revert σ;apply ?hc;intro sp o4 g hlG spl y4 Ei;rw[VP]at y4;apply ?Fl #[sp,o4,?g,g,hlG,spl,λi hi=>?_];have rg:=mv.rngs (q:=?aO) ?i ?i;have:=y4 ?yx ?i;rwa [?GS (((?yx:Nat):Int)=?nH),mv.ts,qe0]at this};apply RI λsp o4 H5 s5 hl5 spl y4=>?_;intro sq;apply ?Fd (Op λ(p:Addr) (B:Hp) ?AA=>Bw (?JM σ' none none) (Pr K Ar B p xs ls) (?l H5 B) (?Jx B));{apply#[_,?g,p1,us,?g,?Jb s5 hp1,?DV];have s6:?l H5 ?D0:=?x nC;have hC:?m H5 C ?fL C=?d9:=Ab;generalize ?D0=H6 at s6 hC ⊢;intro p dx np vS XQ;have s7:?l H6 (?m (?m H6 dx ?oR) p ?zu):=?g4 np;apply#[p,dx,C,us,H5,xs,?g,Ab,?EI,?IO s5,s6.trans s7,nC,s6.free np,hs,Db,λB ls H8 sx bk s5B sBH nB=>?dn];exact ?Fl #[p,B,ls,?g,bk,s5B,sBH]};apply GB λp B ls H6 bk s5B sB6=>?_;intro sq;have s56:=s5B.trans sB6;have s36:=?AL s56;apply ?Fd (Op λ(q:Addr) (B2:Hp) (qZ:?bb (?bb BPart))=>Bw (?JM σ' ?ay none) (Pr K Ar B2 q ys qZ) (?l H6 B2) (?Jx B2));{apply#[_,?g,R1,_,_,_,?g,?g,?Fo s36 hR1,?g,y1,fZ,?g,?Jb s36 hy1,?DV];have s6:?l H6 ?B1:=?x nC;have hC:?m H6 C ?ii C=?h ?ii:=Ab;generalize ?B1=H8 at s6 hC ⊢;intro q dx nq vS XQ;have s7:?l H8 (?m (?m H8 dx (.own q)) q ?zu):=?g4 nq;apply#[q,dx,C,fZ,H6,ys,?g,Ab,?EI,?a0 s36 r2,s6.trans s7,nC,s6.free nq,hys,?i,λB2 qZ H9 sx DK s5B sBH nB=>?dn];exact ?Fl #[q,B2,qZ,?g,DK,s5B,sBH]};apply GB λq B2 qZ H7 DK s6B WN=>?_;intro sq;ext F8;have WO:=s6B.trans WN;have sB7:=sB6.trans WO;have hS7:=((s36.trans WO).seq hS3);have hl7:=(s56.trans WO) _ _ hl5;apply ?q (λσ' H'=>True) ?r ?_;{apply ?Eq;let B28:?aM:=λi σ G=>Ec λo7=>?JM σ ?ay o7/\?l H7 G;apply ?IJ B28 #[_,?g,?ea];{rintro i σ G hi Dc;ext f;revert σ;apply ?g0;intro o7 g Ei;obtain⟨ps,hps⟩:?rB:=?uz;obtain⟨ps2,BK⟩:∃ps,qZ[i]?=?ho:=?BX;have same:=hT.same hs ?oF ?qv hi hps BK;have hpl:=?ll Db;have nl:?mI:=?l5;have C10:=(DK.lev _ _ BK).len DK.len;have nl2:?vT<=ps2.length:=?l5;have it:(?ba).toNat=i:=O9m;have sBG:=?nZ g;have A01:=?qn g;apply ?Fd (?JM σ' ?ay ?j6/\?rO);{apply#[_,?g,p,dx,_,?g,?H7 sBG,?g,_,?g,p,?cw,B,xs,ls,?g,bk,sBG,?i,?i,?op];rw[it,hps]at iI;cases iI;have ul:=rP.1;apply#[D,?g,?mW,λE nE=>?_];let B27:?a2:=λj ys τ G'=>Bw ?hE (G' E=?dR) (ys=((?g6 j).map (·.1)).map ?J) ?d5;apply ?LK B27;{rintro j v ys τ G' hv Dc;revert τ;apply ?ar;intro g' vV yl o Ei;have hj:=?cZ;obtain⟨w,hw⟩:∃w,?IG ?cQ w:=?dA;let ?yG:=?DL;(have fG:?g6 ?hz=?g6 j++[w]:=?td);apply ?Dt;rw[fG,qb0,qb0,yl];rfl};rintro zs τ G2 ⟨g2,vV,yl,_⟩;rw[ul,qc8]at yl;have gg:=?dr;apply#[_,?g,q,dx2,_,?g,?Kd ?Dy hq,?g,_,?g,q,?cw,B2,ys,qZ,?g,DK,?Dy,?i,?i,?op];rw[it,BK]at iI;cases iI;have ul:=rP.1;apply#[D,?g,?mW,λE2 nE=>?_];let B26:?a2:=λj ys τ G'=>Bw ?hE (G' E2=?dR) (ys=((?q6 j).map (·.1)).map ?J) ?d5;apply ?LK B26;{rintro j v ys τ G' hv Dc;revert τ;apply ?ar;intro g' vV yl o Ei;have hj:=?cZ;obtain⟨w,hw⟩:∃w,?IG ?eM w:=?dA;let ?yG:=?DL;(have fG:?q6 ?hz=?q6 j++[w]:=?td);apply ?Dt;rw[fG,qb0,qb0,yl];rfl};rintro zs2 τ G2 ⟨g22,Bz2,yl2,_⟩;rw[ul,qc8]at yl2;have gg2:=?gi g22;have gg4:=?gi g22;apply#[?t (Fb (?s6 (·.1))),?t (Fb (?ti (·.1))),#[E,_,?g,?Fo gg4 vV,?ot yl],#[E2,_,?g,?k Bz2,?ot yl2],?zh,?_];rw[same.1,Ra];apply ?bZ;apply ?fZ;exact ?Fl #[?g,gg.trans gg4]};apply Iw λJ gJ=>?_;intro sq;have gJ7:=?bK gJ;apply ?Fd (?JM σ' ?ay ?j6/\?Jx H7);{have a1:=?nZ gJ7;apply#[_,?g,p,dx,_,?g,?H7 a1,?g,_,?g,p,?cw,B,xs,ls,?g,bk,a1,?i,?i,λpx J1 hpx j1=>?_];rw[it,hps]at hpx;cases hpx;have a2:=?G1 ?qn gJ7 j1;apply#[_,?g,q,dx2,_,?g,a2 _ _ hq,?g,_,?g,q,?cw,B2,ys,qZ,?g,DK,a2,?i,?i,λpx J2 hpx j2=>?_];rw[it,BK]at hpx;cases hpx;apply#[?g,_,?g,?_];apply ?HY (by simp[same.2.1]);have a3:=?G1 a1.trans j1 j2;apply#[_,?g,p,dx,_,?g,?H7 a3,?g,_,?g,p,?cw,B,xs,ls,?g,bk,a3,?i,?i,λpx D1 J3 hpx nD1 j3 Dt=>?_];rw[it,hps]at hpx;cases hpx;have a4:=?G1 a2.trans j2 j3;apply#[_,?g,q,dx2,_,?g,a4 _ _ hq,?g,_,?g,q,?cw,B2,ys,qZ,?g,DK,a4,?i,?i,λpx D2 J4 hpx nD2 j4 L4=>?_];rw[it,BK]at hpx;cases hpx;apply#[?t (Fb (twH ps)),?t (Fb (twH ps2)),#[D1,_,?g,?Fo j4 Dt,?hZ],#[D2,_,?g,?ff,?hZ],?zh,?_];rw[same.2.2,Ra];apply ?bZ;apply ?fZ;exact ?Fl #[?g,(((gJ7.trans j1).trans j2).trans j3).trans j4]};apply Iw λJ2 gJ2=>?_;intro sq;apply#[_,?g,_,?g,_,?g,_,?g,_,?g,p,q,l,a,i,xs,ys,ls,qZ,su,sp,ns,(by rw[qj7];rfl),(?J3 (?nZ gJ2) (?qn gJ2) hT),hi,gJ2 _ _ hl7,spl,y4,gJ2.seq hS7,hl,λJ3 s3=>?bZ];apply ?fZ;exact#[_,?g,gJ2.trans s3]};rintro σ G Dc;revert σ;apply ?g0;intro o7 g Ei;exact ?Fl trivial};exact λσ' H' _=>kq _
universe e9
def Kw[?h1](h:∀a0,P [a0])[?h3](hl:?GR 1):P us:=by cases us with| nil=>ext an| cons a0 u0 =>cases u0 with| nil=>exact h a0| cons _ _=>simp at hl
def Dy[?h1](h:∀a0 a1,P [a0,a1])[?h3](hl:?GR 2):P us:=by cases us with| nil=>ext an| cons a0 u0 =>cases u0 with| nil=>ext an| cons a1 u1 =>cases u1 with| nil=>exact h a0 a1| cons _ _=>simp at hl
def G0[?h1](h:∀a0 a1 a2,P [a0,a1,a2])[?h3](hl:?GR 3):P us:=by cases us with| nil=>ext an| cons a0 u0 =>cases u0 with| nil=>ext an| cons a1 u1 =>cases u1 with| nil=>ext an| cons a2 u2 =>cases u2 with| nil=>exact h a0 a1 a2| cons _ _=>simp at hl
def Aa2[?h1](h:∀a0 a1 a2 a3,P [a0,a1,a2,a3])[?h3](hl:?GR 4):P us:=by cases us with| nil=>ext an| cons a0 u0 =>cases u0 with| nil=>ext an| cons a1 u1 =>cases u1 with| nil=>ext an| cons a2 u2 =>cases u2 with| nil=>ext an| cons a3 u3 =>cases u3 with| nil=>exact h a0 a1 a2 a3| cons _ _=>simp at hl
def MY[?h1](h:∀a0 a1 a2 a3 a4,P [a0,a1,a2,a3,a4])[?h3](hl:?GR 5):P us:=by cases us with| nil=>ext an| cons a0 u0 =>cases u0 with| nil=>ext an| cons a1 u1 =>cases u1 with| nil=>ext an| cons a2 u2 =>cases u2 with| nil=>ext an| cons a3 u3 =>cases u3 with| nil=>ext an| cons a4 u4 =>cases u4 with| nil=>exact h a0 a1 a2 a3 a4| cons _ _=>simp at hl
set_option maxHeartbeats 4000000 in
noncomputable abbrev nS(K:W.Frag)(s:Str)(a:Addr):Prop:=?Ci=?Gh ?cf
noncomputable abbrev nN9(K:W.Frag)(s:Str):Prop:=?Ci=?aw
noncomputable abbrev kO(K:W.Frag)(a b:Addr)(v:Bool):Prop:=PySem.W.kitOne K ?cf ?iS=?aX
def all_mk{l:PySem.W.OpenLaw}{w:World}{K:W.Frag}{h:Heap}{mg:?oW}{fa:Addr}{Ah:Addr} {Af:Addr} {Aj:Addr} {Ar:Addr} {Gz:Addr}{j6 aO:OAddr}{Z1:Ta}{j7 v6 AE d8 Rg aH:Value} {Ip:Addr}{bH BW:OAddr}{aX:Ta}{BH BJ bM bB S4 bT:Value} {J7:Addr}{EM fX:OAddr}{dW:Ta}{eN eW fJ EC Vw fP:Value} {Ap0:Addr}{A32 Aa8:OAddr}{Az8:Ta}{A33 zT Aa3 ZE UU Aa4:Value} {Xo:Tok} {Jx:Tok} {Sn:Tok} {fF:Addr}{XR:Nat}{rQ:Ta}{OG oG OF oF OE:Tok} {L5:Addr}{m8:Nat}{Yf:Ta}{Wc Wb Wa V9:Tok} (X:K.In h) (G:?xw) (hfa:mg ?e0=?h (?u fa)) (UZ:nS K "Lines" Ah) (QU:nS K "Stairs" Af) (yR:nS K "Work" Aj) (yS:nS K "Book" Ar) (LC:?GT ?CF Tp) (Xc:?GT ?BC Ja) (lC:?GT ?ww To) (bO:?GT ?DH M1) (UP:?GT ?EA a8) (YI:?GT "times" DY) (yI:?GT "weigh" dY) (Xe:?GT ?Ch Jc) (UO:?GT ?yy Z8) (qG:?GT ?EF Wo) (yJ:?GT "mixed" dZ) (FJ:?GT ?xW Ov) (uQ:?GT ?Ek a9) (BX:?Jz ?cF ?bY ?hb) (w9:?GK ?lW ?hb) (bJ:?Iz Gz #[j7,j6,?jS (?hr ?bY ?EG (Ju Fg) (Hj Fg) (Au Fg) ?ky v6 AE d8 aO Rg aH),Z1]) (BV:?IF Rg ?EG) (Sx:?GK ?dB ?hb) (KZ:?GT ?ve Tk) (BN:?GT ?xF M0) (Vt:?GT ?E5 Ic) (Sk:?GT ?Al Gu) (iQ:?GT ?En Qn) (fN:?GT ?sF Oz) (IP:?GT ?jk Qm) (Xf:?GT ?hn Jd) (bR:?GT ?ig M7) (Xd:?GT ?iK Jb) (Ap5:?GT ?kL JS) (Vu:?GT ?hw Id) (Sh:?GT ?i0 Gp) (qI:?GT ?ju Wr) (Ap6:?GT ?hl jT) (fK:?GT ?kt Ow) (iO:?GT ?kg Qk) (UN:?GT ?jE Z7) (fY:?Jz ?cF ?dI ?iO) (Sy:?GK ?lW ?iO) (eV:?Iz Ip #[BH,bH,?jS (?hr ?dI ?lq (Ju Fw) (Hj Fw) ?xZ ?ky BJ bM bB BW S4 bT),aX]) (fU:?IF S4 ?lq) (Pf:?GK ?dB ?iO) (Yt:Q0 K Af ?bY ?w1 Kh) (UQ:?GT ?iR b6) (aG:?GT ?iF Lp) (BR:?GT ?jG M8) (Sg:?GT ?hC Go) (BP:?GT ?kY M4) (lD:?GT ?l8 Tq) (QF:?GT ?jv Wn) (LF:?GT ?kP Tu) (IZ:?Jz ?cF ?bG ?jB) (Vh:?GK ?lW ?jB) (IG:?Iz J7 #[eN,EM,?jS (?hr ?bG ?lU (Ju Gf) (Hj Gf) ?wu ?ky eW fJ EC fX Vw fP),dW]) (iW:?IF Vw ?lU) (Q4:?GK ?dB ?jB) (bQ:Q0 K Aj ?bY ?wG M5) (LB:?GT ?hT Tm) (QG:?GT ?jh Wp) (fM:?GT ?kV Oy) (Ap8:?GT ?kU JT) (qH:?GT ?jy Wq) (Sj:Q0 K Af ?p3 ?yr Gr) (FL:Q0 K Aj ?n0 ?sb Ox) (LA:?GT ?j7 Tl) (FN:Q0 K Ar ?pW ?xM O0) (fO:Q0 K Ar ?pF ?sr O5) (bS:Q0 K Ar ?nD ?zF M9) (lE:?GT ?hA Ts) (aF:?GT ?jb Ln) (BQ:Q0 K Af ?n2 ?y0 M6) (Yr:Q0 K Af ?q4 ?EJ Kf) (Si:Q0 K Aj ?pq ?Ag Gq) (Nm:?GT ?jN E8) (LD:?GT ?jM Tr) (Ys:Q0 K Af ?pY ?wC Kg) (uP:?GT ?iu Z9) (QE:?GT ?jX Wm) (bP:?GT ?hi M3) (AF:?GT ?iy Lo) (iP:Q0 K Aj ?r8 ?CP Ql) (Vv:Q0 K Aj ?pl ?te Ie) (IQ:Q0 K Ar ?bu ?Cr Qo) (lF:?GT ?jH Tt) (AG:?GT ?kI Lq) (lG:?GT ?ic Tv) (BS:Q0 K Ar ?bY ?wQ Na) (B23:nS K ?e0 Ap0) (Bq9:?Iz Ap0 #[A33,A32,?jS ?F0,Az8]) (B17:?IF UU ?e0) (Br6:?GK ?dB (?u Ap0)) (aS:?Jz ?eG ?dI ?iO) (bX:?Jz ?eG ?bG ?jB) (PK:PySem.W.readsIn K Ah ?rz=true) (pN:PySem.W.findCls K ?cF ?rz ?bY=?h (.val ?hb)) (PM:PySem.W.specialIn K ?cF "__getattribute__"=?Gh (?CX "type.__getattribute__")) (tK:?GK ?hx Ah) (tX:?GK ?dB ?cF) (pB:?GK ?hx Af) (PJ:?GK ?dB ?eG) (xT:?GK ?hx Aj) (XX:?GK ?dB ?e6) (XT:?GK ?hx Ar) (xY:?GK ?dB ?gC) (SI:?H6 Ah) (UD:?GK ?iW Ah) (SE:?GK ?js Ah) (RX:?aE K ?cF ?jR=?hR) (qy6:?GD ?cF ?dl) (qy7:?GD ?cF ?dY) (OT:?H6 Af) (PU:?GK ?iW Af) (oS:?GK ?js Af) (ON:?HJ ?eG) (qy8:?GD ?eG ?dl) (qy9:?GD ?eG ?dY) (qz0:?GD ?eG "starts") (XA:?H6 Aj) (yC:?GK ?iW Aj) (wW:?GK ?js Aj) (WM:?HJ ?e6) (qz1:?GD ?e6 ?aq) (qz2:?GD ?e6 ?al) (qz3:?GD ?e6 ?ke) (qz4:?GD ?e6 ?gP) (qz5:?GD ?e6 ?eZ) (xB:?H6 Ar) (YC:?GK ?iW Ar) (WW:?GK ?js Ar) (wN:?HJ ?gC) (qz6:?GD ?gC ?en) (qz7:?GD ?gC ?x5) (qz8:?GD ?gC ?fX) (YR:nS K "GAPS" fF) (xX:?Iz fF #[?u5,?p,.seq #v[?o 32 OG,?o 16 oG,?o 8 OF,?o 4 oF,?o 2 OE] XR,rQ]) (AR:nS K "FACE_COUNTS" L5) (q9:?Iz L5 #[?u5,?p,.seq #v[?o 0 Wc,?o 2 Wb,?o 3 Wa,?o 4 V9] m8,Yf]) (FW:?K8 "MOST_ROWS" 40 Xo) (QT:?K8 "LEVELS" 4 Jx) (AN:?K8 "MOST_PIECES" 40 Sn) (dR:?HR "isinstance") (Av4:?HR "int") (Ad1:?HR "bool") (VY:?HR ?rN) (Au9:?HR "zip") (Av2:?HR "max") (Av3:?HR "len") (Av6:?HR "all") (vZ:?HR "range") (Ad0:?HR "dict") (Av5:?HR "any") (Av0:?HR "sum") (Ac9:?HR ?ki) (gB:?HR "enumerate") (Av1:?HR "min") : ∃fd:FuncData,(∀(s:Shared) (v:Value),?IS v (?dK,v))/\?Kg K.In K ?vN:=by have e:=hfa.symm.trans (?Gt B23);cases e;have T:?CT:=#[?Gt UZ,#[SI,UD,SE,RX],qy6,qy7,?Gt QU,#[OT,PU,oS,ON],qy8,qy9,qz0,?Gt yR,#[XA,yC,wW,WM],qz1,qz2,qz3,qz4,qz5,?Gt yS,#[xB,YC,WW,wN],qz6,qz7,qz8,#[fF,?Gt YR,λH=>?O (?Gw xX 5 (?fs ?cO ?Bx))],#[L5,?Gt AR,λH=>?O (?Gw q9 4 ?Bx)],#[_,?Gt FW],#[_,?Gt QT],#[_,?Gt AN],?GN dR,?GN Av4,?GN Ad1,?GN VY,?GN Au9,?GN Av2,?GN Av3,?GN Av6,?GN vZ,?GN Ad0,?GN Av5,?GN Av0,?GN Ac9,?GN gB,?GN Av1];have Jw:=FD (st:=Fg) bJ BV Sx;have K7:=FD (st:=Fw) eV fU Pf;have Mx:=FD (st:=Gf) IG iW Q4;have B89:=FD (st:=U4) Bq9 B17 Br6;apply#[?F0,λs v=>.of_eq ?g,λbase _ _=>?_];have uu:=@Bq ?bo w K mg ?j h X G;have uv:=@Hg ?bo w K mg ?j;have Gi:=?Fn LC (HN F T) ?ab;have Hh:=?Fn Xc (U9 F T) ?V;have Gh:=?Fn lC (HM F T) ?ab;have Pj:=?Fn bO (g6 F T) ?V;have Ry:=?Fn UP (oW F T) ?aN;have Ph:=?Fn YI (SQ F T) ?V;have kQ:=?Fn yI (sQ F T) ?V;have Kr:=?Fn Xe (Vb F T) ?ab;have fC:=?Fn UO (oV F T) ?V;have z6:=?Fn qG (JZ F T) ?V;have Ji:=?Fn yJ (SR F T) ?tN;have Q5:=?Fn FJ (BC F T) ?V;have Za:=?Fn uQ (OW F T) ?ab;have y9:?HX ?bo:=#[_,_,#[PK,pN,PM,Sx],?zk,P0 Jw T];have L1:?Ht ?bo:=#[_,_,#[tK,BX,w9,tX],?zk,P0 Jw T];have Od:=?Fn KZ (HH F T) ?ab;have Pi:=?Fn BN (f9 F T) ?ab;have Jh:=?Fn Vt (T5 F T) ?ab;have Hq:=?Fn Sk (Qx F T) ?ab;have Hr:=?Fn iQ (EK F T) ?V;have Hw:=?Fn fN (bF F T) ?V;have Ub:=?Fn IP (eK F T) ?aN;have Hi:=?Fn Xf (Vc F T) ?V;have Pl:=?Fn bR (i6 F T) ?V;have Ev:=?Fn Xd (Va F T Gi) ?V;have Vm:=?Fn Ap5 (xH F T Ry) ?V;have Bu:=?Fn Vu (T6 F T Gh) ?V;have Ho:=?Fn Sh (Qt F T Gi) ?V;have Dl:=?Fn qI (KC F T fC) ?V;have S0:=?Fn Ap6 (XH F T z6) ?ab;have Q6:=?Fn fK (BD F T Ji) ?aN;have Ua:=?Fn iO (EI F T Ry) ?aN;have Vk:=?Fn UN (OU F T Ji) ?V;have Nh:?GG ?bo Ah:=(?Ia fY);have Kq:?GG ?bo Af:=(?Ia aS);have W3:=fB pB PJ (P:=l.prog) (w:=w) (base:=base) Yt (λF=>Wv F T y9) ?aN;have fD:=?Fn UQ (oX F T Hq) ?aN;have Nk:=?Fn aG (Yl F T Hw) ?aN;have Pm:=?Fn BR (i7 F T Pl) ?V;have Dm:=?Fn Sg (Qs F T Ev Gh) ?aN;have Cd:=?Fn BP (g8 F T Ev) ?V;have W7:=?Fn lD (HQ F T Ho) ?V;have L3:=?Fn QF (jZ F T Q6) ?aN;have Oe:=?Fn LF (HV F T Bu) ?aN;have K5:?GH ?bo Ah:=(?IZ IZ);have Dg:?GH ?bo Af:=(?IZ bX);have FA:=fB xT XX (P:=l.prog) (w:=w) (base:=base) bQ (λF=>g9 F T L1 S0) ?aN;have W6:=?Fn LB (HK F T Vm Ph) ?V;have z7:=?Fn QG (KA F T Vm Ph) ?V;have Q7:=?Fn fM (BE F T Nk Ub Hw) ?aN;have UE:=?Fn Ap8 (XI F T Gh Pj Dm) ?V;have z8:=?Fn qH (kC F T Dm Gi) ?tN;have Cs:=?Gn Sj (Qv F T Dg) ?aN;have K4:=?Gn FL (bE F T K5 Nh) ?aN;have W5:=?Fn LA (HJ F T L3 Dl Bu Oe) ?pu;have Fr:=?Gn FN (BF F T Cd) ?V;have K6:=?Gn fO (BG F T Cd) ?V;have Jt:=?Gn bS (i8 F T Cd) ?V;have Lb:=?Fn lE (HS F T z8) ?aN;have Ni:=?Fn aF (Yj F T UE) ?ab;have Ng:=?Gn BQ (i5 F T Cs Dg Kq) ?aN;have Kn:=?Gn Yr (Wt F T Cs) ?ab;have Gv:=?Gn Si (Qu F T K4) ?ab;have Fi:=?Fn Nm (Md F T Lb) ?aN;have W8:=?Fn LD (HR F T Kr Ni) ?ab;have Ko:=?Gn Ys (Wu F T Od Dg Ng) ?V;have Rx:=?Fn uP (OV F T Fi Ua) ?V;have Vl:=?Fn QE (JY F T W3 L1 Ko Kn) ?aN;have Pk:=?Fn bP (g7 F T Rx) ?V;have Nj:=?Fn AF (Yk F T Cd Bu Dl Q5 Rx) ?V;have Mr:=?Gn iP (EJ F T Vl Dl) ?ab;have Io:=?Gn Vv (T7 F T Mr Pi) ?ab;have Mt:=?Gn IQ (EL F T Cd Pk z7 Lb kQ Vm Ph) ?aN;have W9:=?Fn lF (HU F T FA Io Gv Dl W7) ?V;have Nl:=?Fn AG (Ym F T Fr Mt Hr fD) ?pu;have Xa:=?Fn lG (HW F T S0 W9 Bu L3 W5 Dl Nj) ?ab;have Y9:=fB XT xY (P:=l.prog) (w:=w) (base:=base) BS (λF=>i9 F T Xa W6 W8 Jh) ?V;exact Ah8 B89 T Q7 Hi Y9 Hr Pm Nl K6 Jt Fr
def walk{l:PySem.W.OpenLaw}{q:Program}{loose:?bb Str}{XP:?oW->?sC}{YP:World->?sC}{d:DefRec}{K:Params->PySem.W.Frag}(hn:l.most=?eD)(hdf:d.params.defaults=[]) (hY:∀(w:World) (h:Heap),YP w h->?m0 h) (F:∀(w:World) (mg:?oW) (fa:Addr) (h:Heap),?m0 h->?xw->mg d.name=?h (?u fa) → ∃fd:FuncData,(∀(s:Shared) (u:Value),?IS u (?dK,u))/\?Kg ?m0 ?lf ?sQ) : PySem.W.WalkO q loose XP YP l.row.toRowW d [] (λf vs=>PySem.call f vs) :=L2.walk_ofB (n:=63) (k:=14) (x:=?dK) (CX:=λ_=>Ew) (sp:=λw=>?sQ) hn ?z hdf #[?g,?z,?z,?g] hY F (λ_ _ a ns hl An0 _ hS=>#[a,ns,?g,hS,hl,An0,?Dm]) λ_ _ _ _ _ z=>z
universe Hb
universe Internal
open Internal
end
mutual
#check(0,[])
namespace PySem.W.Fast
def t_g414Orkeapb:True:=#[]
def t_dzWoVm69t4m:True:=#[]
def t_5nJmebvG4k7:True:=#[]
def t_1p099RvgE8a:True:=#[]
def t_hnJVzFmEtqg:True:=#[]
def t_4cDLhIuE1yd:True:=#[]
def t_cbKm7Rlo9bS:True:=#[]
def t_6jjIsSiEfOf:True:=#[]
def t_apDnQVngxUa:True:=#[]
def t_1R6KwQBIipW:True:=#[]
def t_cwgYx5lC95g:True:=#[]
def t_6zPG8PNoutG:True:=#[]
def t_181eBeldXeD:True:=#[]
def t_1JTLcm8bl4E:True:=#[]
def t_jvL8aBhxmOC:True:=#[]
def t_3sxpP7pR1Yb:True:=#[]
def t_jpqoox2iDPt:True:=#[]
def t_5Y7vGaSYq3m:True:=#[]
def t_k7lWRIyfdag:True:=#[]
def t_lALzqhcNmqv:True:=#[]
def t_1MsDdqK9cON:True:=#[]
def t_6QO8H9K9GxQ:True:=#[]
def t_9fdYFxFc9p6:True:=#[]
def t_bCaB9cdVwyD:True:=#[]
def t_1JJPFGo9rEs:True:=#[]
def t_jGOKWK2AJmR:True:=#[]
def t_2daLd9404Rp:True:=#[]
def t_6RX8UJ0rSuv:True:=#[]
def t_bJJB4SMa6aT:True:=#[]
def t_j7h8c6QSNO8:True:=#[]
def t_27xcR8xgiIX:True:=#[]
def t_hGhW6jholj5:True:=#[]
def t_kDlzfgnIqff:True:=#[]
def t_afIB018hjHf:True:=#[]
def t_jedu2H4lBEM:True:=#[]
def t_25wHXrukUvJ:True:=#[]
def t_cTdeSdLTH0P:True:=#[]
def t_kvKpY4IRytb:True:=#[]
def t_8zkEa590LuG:True:=#[]
def t_jWyvGvDKeNK:True:=#[]
def t_21BssSJz6Co:True:=#[]
def t_fNwfdTkXmWj:True:=#[]
def t_hWomVu2D1bq:True:=#[]
def t_dF8HYYJGJlU:True:=#[]
def t_5dfnCCOB7vb:True:=#[]
def t_kzvq65BDVx0:True:=#[]
def t_4ndbYdDJdib:True:=#[]
def t_dv0feqofxsb:True:=#[]
def t_26i6bB87xTK:True:=#[]
def t_iUnsNCJHn7T:True:=#[]
def t_lxmXZmHVbU7:True:=#[]
def t_fluOM5G76bG:True:=#[]
def t_e8WpCa3Kb5Y:True:=#[]
def t_govxiQcHX2B:True:=#[]
def t_ORBwPyeoTC:True:=#[]
def t_5cUSVahciSm:True:=#[]
def t_8WFlqAAWJzT:True:=#[]
def t_jbIjPYyaJul:True:=#[]
def t_Ueeq2RQRrM:True:=#[]
def t_7bKMnweluj1:True:=#[]
def t_hVy9skEkwLx:True:=#[]
def t_2n6ScbOGUKC:True:=#[]
def t_2uWfzAStwia:True:=#[]
def t_7nMc0ij30e0:True:=#[]
def t_3Hu0JElkYgd:True:=#[]
def t_8FZSmN1NeJo:True:=#[]
def t_9GQXVVYYgHX:True:=#[]
def t_hpoFe9gZW9S:True:=#[]
def t_bKcl40IzOdl:True:=#[]
def t_k3ORGw0MFL7:True:=#[]
def t_j0oderGA3AK:True:=#[]
def t_jdfMh1pjWXH:True:=#[]
def t_19455rJ6Uvl:True:=#[]
def t_eodlmF32Uc2:True:=#[]
def t_eeQ86XMYgdD:True:=#[]
def t_829nteE4O43:True:=#[]
def t_en8XChU85v6:True:=#[]
def t_awN6Wrb3Dz7:True:=#[]
def t_hkMWq6wZHbo:True:=#[]
def t_gUtwFXfhgeQ:True:=#[]
def t_9h4NVwej9ne:True:=#[]
def t_1PUmpgCCc70:True:=#[]
def t_aCMONT5jNIp:True:=#[]
def t_lgZf28gBIhY:True:=#[]
def t_ewbM8Mg1VNU:True:=#[]
def t_lSI6rWjVMZa:True:=#[]
def t_ktLt0LptO8R:True:=#[]
def t_kLLzh1zoLt1:True:=#[]
def t_1FWk4E1lyy9:True:=#[]
def t_99H0iYTJ9Gs:True:=#[]
def t_6e8k2bVtK6t:True:=#[]
def t_6rs3hlQWBnS:True:=#[]
def t_cRdmvLmlHSM:True:=#[]
def t_ir6naYGrfnw:True:=#[]
def t_kOYey2nPSYY:True:=#[]
def t_9yrZtRFMWIP:True:=#[]
def t_a8Hert2iK3M:True:=#[]
def t_56N7EDWwp7t:True:=#[]
def t_dFSSJ6YExIq:True:=#[]
def t_fEOq49j8YSu:True:=#[]
def t_e4LNtyyAiSJ:True:=#[]
def t_3Z6EDUsd4fI:True:=#[]
def t_3FkjYNBb7Jn:True:=#[]
def t_j7H7safeaRU:True:=#[]
def t_5Xt2G3theZF:True:=#[]
def t_6s9tdsCXTwC:True:=#[]
def t_bXSdY3HtEf0:True:=#[]
def t_1tnaG5CODBl:True:=#[]
def t_2Wz5chBj5EE:True:=#[]
def t_kDpyEN0Mjok:True:=#[]
def t_86I7pEMF1cl:True:=#[]
def t_h0GcAyOCN8Y:True:=#[]
def t_d4wKBm1xmLZ:True:=#[]
def t_9MA5kTDWQog:True:=#[]
def t_aBXuioHpfhU:True:=#[]
def t_7V3NRTB2a0X:True:=#[]
def t_6BrIZfMW8x9:True:=#[]
def t_6ODVi8ZQbmL:True:=#[]
def t_UvqBPPtxc8:True:=#[]
def t_ln9Nh2yGpzf:True:=#[]
def t_dQOx3fv8Bd3:True:=#[]
def t_cxYMOEHv4yr:True:=#[]
def t_ihY9ZBnNzes:True:=#[]
def t_JfXb9boXIX:True:=#[]
def t_hmsC0f6enlg:True:=#[]
def t_iUp4kLU8CJM:True:=#[]
def t_1h7mSU65las:True:=#[]
def t_lSyRu8Xmp9L:True:=#[]
def t_81IOxaCMkcv:True:=#[]
def t_lQVkwwgyIVM:True:=#[]
def t_jgbQU7heHSh:True:=#[]
def t_6MrfiTFV73k:True:=#[]
def t_1M8qhBXTzDT:True:=#[]
def t_64DUhak9m8N:True:=#[]
def t_8pWT3ycDCzL:True:=#[]
def t_djoOwL9mZGp:True:=#[]
def t_d6vKjnUeWZ2:True:=#[]
def t_5r6SL1tDLCo:True:=#[]
def t_iUrl5uK2Ysb:True:=#[]
def t_aWt2vKNcMK4:True:=#[]
def t_gfhnisQb7xa:True:=#[]
def t_lc8Bqm4FuiT:True:=#[]
def t_lr2mBB4400d:True:=#[]
def t_jl0wu8zruvu:True:=#[]
def t_8mU34W3qRsk:True:=#[]
def t_gY7npz1uHVI:True:=#[]
def t_kAiHNzdyi8H:True:=#[]
def t_7QrSLEnc6kP:True:=#[]
def t_gopmD8ke5Bd:True:=#[]
def t_1PweWhJwM7o:True:=#[]
def t_2MEisvcMo1V:True:=#[]
def t_gGtrRKMLXhB:True:=#[]
def t_hoRqPQTZg4P:True:=#[]
def t_468noFExBQh:True:=#[]
def t_fjsfFYAUnqb:True:=#[]
def t_7zcLzG1cOK9:True:=#[]
def t_hAM285M8KR0:True:=#[]
def t_dybmqwIFjZb:True:=#[]
def t_ldnWrn70Nyr:True:=#[]
def t_43fYYSo0Svu:True:=#[]
def t_cafdPKFY60q:True:=#[]
def t_FuKRND3EyP:True:=#[]
def t_eYxEP3dlkTo:True:=#[]
def t_BAwTG1pwj4:True:=#[]
def t_jIriB1K3D1C:True:=#[]
def t_akSvKRPMfUO:True:=#[]
def t_6qmZjprI12i:True:=#[]
def t_l81rsg3o1qX:True:=#[]
def t_1HwNUUcsc1W:True:=#[]
def t_eEuRIpcLVBl:True:=#[]
def t_b1t2Sh6vvat:True:=#[]
def t_2ICziDGl9L0:True:=#[]
def t_iLY4jr2UjJz:True:=#[]
def t_cNQTsols6s1:True:=#[]
def t_fN6dxPgsVN:True:=#[]
def t_27KJvJecEOo:True:=#[]
def t_1kRFXFRVj6K:True:=#[]
def t_gq3thkS0a8E:True:=#[]
def t_4UaBo3hiog7:True:=#[]
def t_5PEZYDoo7Ht:True:=#[]
def t_kdtc0skBpOD:True:=#[]
def t_jDY8uF8O3d4:True:=#[]
def t_4hPNUBFHf3d:True:=#[]
def t_4KseHILHAI9:True:=#[]
def t_gILZKghO03K:True:=#[]
def t_a1YLPTu22Yc:True:=#[]
def t_1W0y0ooyAds:True:=#[]
def t_iUmAcgh60lA:True:=#[]
def t_fUJ9ab6wViY:True:=#[]
def t_bpvsFGmoCJz:True:=#[]
def t_cgrgY9Nhwg7:True:=#[]
def t_lBgyyP1uEoU:True:=#[]
def t_h6DAZksyzd1:True:=#[]
def t_cNvvoM98pAq:True:=#[]
def t_iiDHk8ABVFt:True:=#[]
def t_ko3nqt7z3e2:True:=#[]
def t_8D7pPwl0i13:True:=#[]
def t_buua824WcIy:True:=#[]
def t_a7HsSSmyi9Q:True:=#[]
def t_5ymhfPo8909:True:=#[]
def t_gGrhwuzu0ma:True:=#[]
def t_jq9OSMf4TaY:True:=#[]
def t_3L4rHNndSCJ:True:=#[]
def t_6ellA22ylRu:True:=#[]
def t_bcZfaACR0LJ:True:=#[]
def t_d0ivm3pEL7s:True:=#[]
def t_errTHvhvr1H:True:=#[]
def t_kEhXc0aW9yF:True:=#[]
def t_5LinWGHJnTe:True:=#[]
def t_5cpoYi0GA1J:True:=#[]
def t_lsV0WUYLKM4:True:=#[]
def t_fIbOxs2pamw:True:=#[]
def t_ikFfTuihlfO:True:=#[]
def t_hi7nIjPU4mC:True:=#[]
def t_6f7Fn83D0Ux:True:=#[]
def t_3VxnGkmIqd:True:=#[]
def t_v2tTffP3fP:True:=#[]
def t_5lBYnfRXUkh:True:=#[]
def t_ffW9i8SOfSf:True:=#[]
def t_i2z3y1HIMK6:True:=#[]
def t_caz4Pyzr5WH:True:=#[]
def t_hK1yAHXmZ53:True:=#[]
def t_cpXXTejpuvR:True:=#[]
def t_9YLQmWvZb57:True:=#[]
def t_fYERGriXr9h:True:=#[]
def t_8xQ6eFWVRXr:True:=#[]
def t_6tuwykOsyVR:True:=#[]
def t_1PhY89k8DEJ:True:=#[]
def t_jVVuHyFRccA:True:=#[]
def t_4OXK2IuJkFE:True:=#[]
def t_cxXaVtcsBC0:True:=#[]
def t_3z5TgL83PU8:True:=#[]
def t_IPWOiythc2:True:=#[]
def t_eVar2U8L1pL:True:=#[]
def t_a6s55NDaSKe:True:=#[]
def t_1f8wMfVLRMt:True:=#[]
def t_Ss6oeUmf5o:True:=#[]
def t_c41WWJBOdWI:True:=#[]
def t_6UHrXk6wsgn:True:=#[]
def t_ao6pITmHmqU:True:=#[]
def t_aZo9FPChB2K:True:=#[]
def t_kanG8K47MER:True:=#[]
def t_iihMXOBGFv3:True:=#[]
def t_9QVpsjIyVqO:True:=#[]
def t_lonv7VyeR1P:True:=#[]
def t_3G4U4dN4I6n:True:=#[]
def t_kSLh93jXYRp:True:=#[]
def t_4hlXoHfTqM9:True:=#[]
def t_9WBsMJ6762W:True:=#[]
def t_5njboUCWmfA:True:=#[]
def t_gQ9LW8pbjY1:True:=#[]
def t_24EnOetLh7r:True:=#[]
def t_45ihgbjnQ2a:True:=#[]
def t_eFFGJklCpq:True:=#[]
def t_2exjq1n0PI5:True:=#[]
def t_e0xPFlEhykW:True:=#[]
def t_2oKpZ6pI0U0:True:=#[]
def t_oVgq1GLXOo:True:=#[]
def t_cytkmWrOOfR:True:=#[]
def t_7gQrqZGozR7:True:=#[]
def t_kyPXmAE79ZI:True:=#[]
def t_29Qkh6oYsth:True:=#[]
def t_gVajkSLnrej:True:=#[]
def t_etRsU3VsBAl:True:=#[]
def t_k3Q4K2CHIB7:True:=#[]
def t_6DJbydcUz3h:True:=#[]
def t_jTWRm8FtGsz:True:=#[]
def t_8gfP1HBReUG:True:=#[]
def t_cxapYH40i8T:True:=#[]
def t_dMKTHfyr54l:True:=#[]
def t_502KznkTdFG:True:=#[]
def t_lgrkIvTKk0r:True:=#[]
def t_9ETLAtoCZVS:True:=#[]
def t_faiBvC7a6bY:True:=#[]
def t_5bht91q5B1j:True:=#[]
def t_g9ej6CwQH4e:True:=#[]
def t_kvPMizw5UP2:True:=#[]
def t_61QWkxJlqo5:True:=#[]
def t_cuqtN7pHH4g:True:=#[]
def t_gD2sEullKtf:True:=#[]
def t_14GMqN9Intx:True:=#[]
def t_5U1v2nmL40p:True:=#[]
def t_lipBUZimIQv:True:=#[]
def t_3y11zAzEgY:True:=#[]
def t_eUEU1XevCFB:True:=#[]
def t_D1E9tdiVeK:True:=#[]
def t_e5WcSVb3vlZ:True:=#[]
def t_chplByVIBIN:True:=#[]
def t_eYhd7ZEQgxJ:True:=#[]
def t_9KNycq1M4Qj:True:=#[]
def t_1KkbjTEQGAv:True:=#[]
def t_gN8PijxYxds:True:=#[]
def t_d67vZO175mQ:True:=#[]
def t_5FdpdYcyuTO:True:=#[]
def t_dRnbryw6OJI:True:=#[]
def t_isHHsnRkcRp:True:=#[]
def t_fRLkhYYWiFD:True:=#[]
def t_19PayiabgP6:True:=#[]
def t_aWS8p6gfIsU:True:=#[]
def t_bZXZiFpMWsc:True:=#[]
def t_9uNh5QGLAow:True:=#[]
def t_biDp7jFjYw7:True:=#[]
def t_a88HRayeTKw:True:=#[]
def t_lmcNlMT4DWr:True:=#[]
def t_HubsaGMDw:True:=#[]
def t_cIYgDW985jT:True:=#[]
def t_2QPveQZiK32:True:=#[]
def t_cHrK5iR3Z3P:True:=#[]
def t_3gE6mL1tvV8:True:=#[]
def t_38GiuEvpfle:True:=#[]
def t_bAJgRGpOTBJ:True:=#[]
def t_jUs4zQ7Pn36:True:=#[]
def t_4Zf3jy0SEni:True:=#[]
def t_Tr4N6I2NSz:True:=#[]
def t_4nG0stWKnmq:True:=#[]
def t_22QSr5ieuNa:True:=#[]
def t_kDWOYXnMaqQ:True:=#[]
def t_2PjDRSP859d:True:=#[]
def t_5cfWULOGk0M:True:=#[]
def t_6zGGCOpXKmL:True:=#[]
def t_lugVRpWz1bh:True:=#[]
def t_3MNZIlWjSnV:True:=#[]
def t_de5sfpFN00W:True:=#[]
def t_gfj4fQ1msOB:True:=#[]
def t_aKeE3gijfIt:True:=#[]
def t_6yuREauA374:True:=#[]
def t_4gs1IcV5niR:True:=#[]
def t_17j1Z24RsNj:True:=#[]
def t_g8Ff5XPp9Hf:True:=#[]
def t_8F2o4koMRmh:True:=#[]
def t_62lLiba5ffI:True:=#[]
def t_5ZPYVp5CYv1:True:=#[]
def t_jFfXZxsmIgZ:True:=#[]
def t_9c6B6uLObrj:True:=#[]
def t_adKnto45JAK:True:=#[]
def t_gq6tqKOSGbV:True:=#[]
def t_2cZzWxxLZJ7:True:=#[]
def t_669nkdqhPY:True:=#[]
def t_lSHVOFFrZoZ:True:=#[]
def t_hxtdx4w5LjB:True:=#[]
def t_hVP9nj9zgbo:True:=#[]
def t_dj3ahFpTCnB:True:=#[]
def t_lCFLrIUbMjY:True:=#[]
def t_bkrs7RoSk7C:True:=#[]
def t_g3zNyec5XnQ:True:=#[]
def t_h9rkXyNkSlq:True:=#[]
def t_2ld1XwYGkw6:True:=#[]
def t_crXCxdbwsCY:True:=#[]
def t_aPHEAgSkApa:True:=#[]
def t_2acpU7GDxna:True:=#[]
def t_czx0NcNlJfu:True:=#[]
def t_dvhDVAZBW1N:True:=#[]
def t_boOgVODAgRy:True:=#[]
def t_7VnGtFvyG8L:True:=#[]
def t_hwG7ySEAtmo:True:=#[]
def t_ihgNdkcHGqH:True:=#[]
def t_is1Eyeh22xT:True:=#[]
def t_1h8i39TnYpc:True:=#[]
def t_aDnkpzYUNox:True:=#[]
def t_flvf5nzAeIs:True:=#[]
def t_9aWyxyxpGny:True:=#[]
def t_5R6Df8CLsSe:True:=#[]
def t_9dapwt86cq2:True:=#[]
def t_hYRlbfC6dIy:True:=#[]
def t_a4IxUNMug3n:True:=#[]
def t_baI6T1xclDL:True:=#[]
def t_5F3fPvyc6W1:True:=#[]
def t_lq9umokONMM:True:=#[]
def t_4ci6tPEEc8O:True:=#[]
def t_a5BJJ4YEoBI:True:=#[]
def t_ey8ylVEQVy2:True:=#[]
def t_bryTvxvYXrI:True:=#[]
def t_lBpoCIfUiwS:True:=#[]
def t_bFSG0J3ULkC:True:=#[]
def t_cDIPUu3GGoT:True:=#[]
def t_5zfkty9nZiu:True:=#[]
def t_51MV1QfFJP2:True:=#[]
def t_iI8CHrCxNle:True:=#[]
def t_gBCnMqomD9L:True:=#[]
def t_ilJ1DKfEyS9:True:=#[]
def t_gzhryKUN3rU:True:=#[]
def t_4r2rZA7vfdz:True:=#[]
def t_fpv1iEZ1o7Q:True:=#[]
def t_k9gOSf95Bph:True:=#[]
def t_gwgdd1MRLGL:True:=#[]
def t_jM1001qRWnj:True:=#[]
def t_lh4z3vlnCd4:True:=#[]
def t_9kXmYpBrb8d:True:=#[]
def t_6ypBD9NiPXp:True:=#[]
def t_bscFJRvk90i:True:=#[]
def t_ex3DPFpTQT:True:=#[]
def t_1Hc1fiHbnsV:True:=#[]
def t_gD3vq05I91P:True:=#[]
def t_32MeAKo7oy8:True:=#[]
def t_1AqzJiPWMbs:True:=#[]
def t_7r5OT66A2HO:True:=#[]
def t_8j3AcK9BNKi:True:=#[]
def t_2LdNmw36mnV:True:=#[]
def t_a11Kn3ND0XD:True:=#[]
def t_5pcr9Rjeq9L:True:=#[]
def t_tWfepmfLST:True:=#[]
def t_gO2MX6tTxhe:True:=#[]
def t_2KqO7JhrnRP:True:=#[]
def t_3fFJAXIVH7c:True:=#[]
def t_3OgdXRLKs9C:True:=#[]
def t_lBFYYFx6aZK:True:=#[]
def t_ls3CGMn6m3s:True:=#[]
def t_kkBwkr6THMb:True:=#[]
def t_6mOOFOLYNpa:True:=#[]
def t_hkymAMo6kyr:True:=#[]
def t_3woprB0qUUv:True:=#[]
def t_hd0iTjoHnVQ:True:=#[]
def t_1OFjMiaurkv:True:=#[]
def t_gD6OyqOSKyl:True:=#[]
def t_cSr8zqwQJkK:True:=#[]
def t_iiSPpjGKeOr:True:=#[]
def t_a2fnLLfEbK6:True:=#[]
def t_Qk6YgYnUQL:True:=#[]
def t_dqNrzYHsg1F:True:=#[]
def t_cVjDK98jDvQ:True:=#[]
universe PySem.W.Fast
end
open PySem PySem.W PyProof.Rows
set_option maxRecDepth 100000 in
set_option maxHeartbeats 0 in
theorem PySem.Challenge.cw_holebook_k77_whole_order_does_not_matter_holds : PySem.Challenge.rw_holebook_k77_whole_order_does_not_matter.Holds := by
 w_on;o_law;k_head;(case hw=>w_witness2)
 k_fill
 refine Hb.walk (l:=PySem.Challenge.rw_holebook_k77_whole_order_does_not_matter) rfl rfl (fun w h Y=>PySem.W.kIn_of Y) ?F
 case F =>
  intro w mg fa h KX G hmg
  refine' Hb.all_mk KX G hmg ..
  all_goals try delta Hb.nS Hb.nN9 Hb.kO
  all_goals try first | exact⟨_,_,by k_is,⟨⟨_,_,_,_,_,_,_,_,_,rfl,by k_is,by k_is⟩,by k_is⟩⟩ | exact⟨_,_,by k_is,by k_is,⟨⟨_,_,_,_,_,_,_,_,_,rfl,by k_is,by k_is⟩,by k_is⟩⟩ | k_is | kit_is | kts_isx | k_exc | k_qdec | kernel_rfl | decide +kernel
