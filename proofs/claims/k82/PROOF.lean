import PyProof.Rows.All
import Wide.All
import OpenK.AllK
import Wide.FinOn
import Lean
import PyProof.EqAt
import PyProof.EqKinds
import PyProof.TupleCall
import PySem.Challenge.RW_holebook_k82_whole_discs_and_their_sums
set_option linter.all false
set_option Elab.async false
set_option maxRecDepth 100000
set_option genSizeOf false
set_option genInjectivity false
set_option maxHeartbeats 0
set_option compiler.extract_closed false
noncomputable section
local macro_rules|`(tactic|omega)=>`(tactic|first|with_reducible assumption|with_reducible exact Nat.le_trans (by assumption) (Nat.le_of_ble_eq_true rfl)|with_reducible exact Nat.lt_of_lt_of_le (by assumption) (by assumption)|with_reducible exact Nat.le_of_lt (by assumption)|with_reducible exact Nat.lt_of_lt_of_eq (by assumption) (by assumption)|with_reducible exact Nat.lt_of_lt_of_eq (by assumption) (Eq.symm (by assumption))|with_reducible exact Nat.lt_of_le_of_lt (by assumption) (by assumption)|with_reducible exact Nat.succ_le_of_lt (by assumption)|with_reducible exact Nat.le_of_not_lt (by assumption)|with_reducible exact Nat.sub_le _ _|with_reducible exact Nat.le_of_succ_le (by assumption)|with_reducible exact Nat.lt_succ_of_lt (by assumption)|with_reducible exact Nat.le_add_right _ _|lia)
local macro_rules|`(tactic|ac_rfl)=>`(tactic|first|exact .inl rfl|exact .inr rfl|assumption)
local macro_rules|`(command|mutual $cs* end)=>do
 unless cs[0]!.raw.isOfKind ``Lean.Parser.Command.check do Lean.Macro.throwUnsupported
 let some l:=cs[0]!.raw.find? (·.isOfKind `«term[_]»)|Lean.Macro.throwUnsupported
 let d:Char->Nat:=fun c=>if c.isDigit then c.toNat-48 else c.toNat-55
 let a:Char->Nat:=fun c=>if c.isLower then c.toNat-97 else c.toNat-39
 let e:Lean.Syntax->Nat:=fun s=>match s.getId.toString.toList with
  | [x]=>a x
  | [x,y]=>52+a x*36+d y
  | [x,y,z]=>1924+(a x*36+d y)*36+d z
  | _=>1000000
 let f:Array Lean.Syntax->Lean.Syntax->Lean.Syntax:=fun m s=>s.rewriteBottomUp fun x=>
  if x.isOfKind ``Lean.Parser.Term.syntheticHole then m.getD (e x[1]) x
  else if x.isOfKind ``Lean.Parser.Term.app&&x[0].isOfKind ``Lean.Parser.Term.explicit&&x[0][1].isOfKind ``Lean.Parser.Term.paren then
   x[0][1][1].rewriteBottomUp fun y=>if y.isOfKind ``Lean.Parser.Term.syntheticHole&&e y[1]<2 then x[1][e y[1]] else y
  else if x.isOfKind Lean.nullKind&&x.getArgs.any (fun y=>y.isOfKind ``Lean.Parser.Term.instBinder&&y[2].isOfKind ``Lean.Parser.Term.forall) then
   x.setArgs (x.getArgs.flatMap fun y=>if y.isOfKind ``Lean.Parser.Term.instBinder&&y[2].isOfKind ``Lean.Parser.Term.forall then y[2][1].getArgs else #[y])
  else if x.isOfKind ``Lean.Elab.Tactic.Ext.ext then
   match x.find? (·.isIdent) with
   | some i=>match m[e i]? with
    | some t=>Lean.mkNode ``Lean.Parser.Tactic.paren #[Lean.mkAtom "(",t[1],Lean.mkAtom ")"]
    | none=>x
   | none=>x
  else x
 let mut m:=l[1].getSepArgs.map fun x=>if x.isOfKind ``Lean.Parser.Term.inaccessible then x[1] else x
 for _ in [0:((cs[0]!.raw.find? (·.isOfKind `num)).get!.isNatLit?).get!] do m:=m.map (f m)
 return Lean.mkNullNode ((cs.extract 1 cs.size).map fun c=>
  if c.raw.isOfKind ``Lean.Parser.Command.universe then
   let i:=c.raw[1][0]
   Lean.mkNode ``Lean.Parser.Command.end #[Lean.mkAtom "end",Lean.mkNullNode (if i.getId==`e9 then #[] else #[i,Lean.mkNullNode])]
  else
   let c:=(f m c.raw).rewriteBottomUp fun x=>(if x.isOfKind ``Lean.Parser.Term.basicFun then x.setArg 0 (x[0].setArgs (x[0].getArgs.map fun y=>if y.isOfKind ``Lean.Parser.Term.hole then Lean.mkIdent `_y9 else y)) else if x.isOfKind ``Lean.Parser.Tactic.rcasesPat.ignore then Lean.mkNode ``Lean.Parser.Tactic.rcasesPat.one #[Lean.mkIdent `_y9] else x).setInfo .none
   if c[1].isOfKind ``Lean.Parser.Command.definition&&!c[1][3][1].isOfKind ``Lean.Parser.Term.explicit then c.setArg 0 (c[0].setArg 4 (Lean.mkNullNode #[Lean.mkNode ``Lean.Parser.Command.noncomputable #[Lean.mkAtom "noncomputable"]])) else c)
mutual
#check(4,[?a,?b,some,∀(I:?A),a,∀(K:W.Frag),a,wpAny,X.env,.int,(?l0 ?aB X.w),.inl,.ref,?c o,X.xe,.inr,?r V,.lst,decide,List,.nil,?h i,s.heap.objs.size,absurd,?r ?aJ,.non,∀{Ac:Bg}{σ:St}{H:Hp}{s:Shared},a,.(by obtain⟨t',rfl⟩:=ry),?V1 H s,s.heap,?c v,∀{A:Around},a,?r Str,St->?a2,if_neg,.cons,(Ck I q ?N),∀(Ac:Bg) (s:Shared) (σ:St) (H:Hp),a,.tup,its.toArray,?c u,(?aE),Vals,∀{K:W.Frag},a,if_pos,.(by intro Ac s σ H Q I h),∀{us:?w},a,∀{pos:Pos},a,∀{a:Addr},a,name,Reps,?r ?gN,?XW b,.builtin,∀{E:?gI},a,∀(hK:X.K=K:=by rfl),a,Hp->Prop,none,outer,∀{es:?eL},a,∀(xs:?o),a,p.isList,V.int,pure,Nat->Int,X.prog,.seq,?r D,.(by simp),xs[i]?=?c4,.type,base,.none,Value,.(by decide +kernel),∀{u:Value},a,?k a,∀{h:Heap},a,.Call,s.heap.get?,qual,?c ?p7,eval,∀{s:Shared},a,∀(a:Addr),a,List.replicate,I.kIn,I.list,(?dI),(?eU),.Attribute,(i+1),bootBuiltins,?aG ?dL,compareOp,(by omega),I.hok,xs.length,.(by simp<;>omega),.(by exact qc2 e),?O xs us,.str,?r Int,?c c,(EP X Ac σ Q),(?kH),.(by ext aK),Option,(?o4),(?dT),.(by obtain⟨x,H1,I1,r1,q1⟩:=_z),∀{xs:?o},a,∀(s:Shared),a,∀(h:Heap),a,ObjOk,?hQ σ H,(e::es),[?aM],k _ _ ?dC e,.BoolOp,?c0 x u,(?aM),?cU a,I.bare,Pv i σ H,Str->?l8,RelV,Same,?bB _,X.base,?c x,(?k f),.bl b,?k b,∀(Pv:?J2)(h0:Pv 0 [] τ H),a,∀{P:Program}{w:World}{K:W.Frag},a,∀(X:Cx)(Ac:Bg),a,∀(s':Shared),a,∀(C:Addr),a,?r (Str × V),2 ^ 62,Bool,congrArg,kindOf,(?k it),?r Env,?c ?jY,false,args,?XW p,.bool,true,?c1 H H',?aP b=?l,Pv i ys τ H,?c0 v u,h.get?,∀v,o.data≠?p7 v,Qj.2,"int",ns.map,?o->?rY,I.freeC,X.mg,.(by intro X hP hw hK hc i Ac s σ H E I hf st hg;subst hP hw hK),.(by exact ?IN),∀(x:V)(y:V)(H:Hp)(Q:VK),a,∀(P:Program)(w:World),a,∀(hc:?qU),a,∀(us:?w),a,∀{fp:?X},a,∀(H:Hp)(Q:VK),a,∀(u:Value),a,∀{H H':Hp},a,(?pN),S H a xs,(?I0),(qc2 e),SqT K H a xs,s'.heap,qa2 _,?qB x=?bD,?c0 x v,"list",?c .local,s₁,.(by ext b8),?h _,?VU a xs,IsPair,?hR ?aJ,?k p,?aG ?g9,binaryOp,?c j,?oX=?l,False.elim,?XR vs ds,scope,deps ds,I.free,∀(x0:A0) (x1:A1) (x2:A2) (x3:A3) (x4:A4) (x5:A5) (x6:A6) (x7:A7),a,∀(vs:?o),a,∀{t':Nat},a,?bB x,?r Stmt,d::ds,codeAny,(n:Int),I.cell,starEach,.Name,(?k D),(?p []),[z,TI,TO,i1,i2],?ZA e,?WZ xs.length,Nat->?pX,(?l0 prog w),?r Expr,?h n,(?u9).any,assign,.bl _,V->?a2,(∀σ' H',?rZ->∃m',m'<m/\W ?b1 m' σ' H'),v=?aM,W.findIn,?WP 1,?aX hq,i<=xs.length,g x σ H' fun σ2 H2=>tb ?CT σ2 H2,?W1 v d,I.tuple,Pv ?b1,(?p ys),W i m σ H,(.ListComp elt [⟨tg,iter,ifs,0⟩] sc pos),.(by obtain⟨a,vs,rfl,q,r⟩:=hy;cases ry),.(by intro Ac s σ H x y v u Q I rx ry h),∀{te:TE}{D:Addr}{Q:?a2}{τ:St}{H:Hp},a,.(by cases (show ?hP a=_ from h')),.(by intro Ac s σ H xs us Q I r h),∀{K:W.Frag}{a:Addr}{xs:?o},a,∀(ha:?QW)(hb:?WG b tb),a,∀{Q:?gI},a,∀{vs:?o}{ds:?aD},a,.(by obtain⟨t,rfl⟩:=r),∀(ha:?K9),a,∀(n:Nat)(f:?aA),a,∀{i:Nat}{x:Str},a,∀(hr:F2 k X.A),a,∀(ns:?bC),a,∀{ns:?bC},a,∀(r:?cT),a,∀{vs:?o},a,∀(xs:LLInt),a,_::_,HT.sIx,qa4.mp,.(by simp at h),(?V3 he h),?r (Str × Addr),(n,k),I.tok _,List.range,?G hk,(vs++dvs),s₁.heap,qc3 _ rfl,(f i),i<=n,X.stack,(∃m,W 0 m σ H),fun b hb=>?_,?K ds,?O vs us,Nat->?aA,⟨_,rfl⟩,"tuple",?bH Int,h.IsListIter,t σ H Q,(g i j),?iW ?aY,?ZA o,fun v s1 _z=>?_,s1.heap.objs.size,?aJ->?i7,"zip",h'.get?,?h j,fun _=>none,Addr,Hy n f,Value.ref,(qo9 _),body,(?l0 P w),Gl X x,"enumerate",backTo,fun _ _=>False,?eZ hq,∀(hf:?zP\/?VL ?dM:=by ac_rfl),a,.(by obtain⟨f0,f1,f2,f3,f4,f5⟩:=hf it ?N),∀(x:p0) (x:p1) (x:p2) (x:p3) (x:p4) (x:p5) (x:p6),a,∀(mg:?bZ)(base:Heap),a,∀(hf:?tZ),a,.(by intro Ac s σ H D I h),.(by obtain⟨t,rfl⟩:=rx),∀(he:?yJ),a,.(by rw[qd0,←hl]),∀{α:Type},a,I.os,{ s with toks:=?o5 },(?W1 x d),value,fun _ _ _=>False,?k x,H l=?xF,fs.lookup,?k ?u,?G h,(fun z=>?PK),?r α,Aj f n,?eD x px,.(by simpa using e),(a:Addr),H' b,V.ref,D.nx,Array,(k:Int),b≠X.env.locals,?O xs its,(x=?aM),?XW D,X.N[i]?=?c4,(?CC),fun x H' y=>?_,I.ok.kind,.function,sc.names,(?qF),Rows,I.pin,K.lookup,Shared->Prop,?Q hk,?h b,2 ^ 64,Ite K a,(O9m),(?hG),Value.bool,pl.isList,(?q6 es x1 tpos),qb1 ..,{ s with heap:=h' },0<=i,(ys++[y]),?n x,?gK b,.fields,uU lo n,"bool",(?hD),IntMulOk,2 ^ 63,?r (Str × Value),?H r t,I.base.free,I.hok.fresh,.(by cases (?Z0 ?c6);cases (show v=?iE b from ry)),∀(he:?u0:=by rfl),a,.(by cases (?Z0 ?x);cases (show v=Value.none from ry)),∀(F:Bv ?aB X.w X.K ?d1 ?c3 CX k f fd ps sp),a,∀(hdb:?HF:=by decide),a,∀(hd:?HF:=by decide),a,∀(hd:?YW ?b7),a,.(by cases (?Z0 ?t)),.(by cases (show y=?bB z from hy)),.(by by_cases hlt:?CA),.(by have e:i=xs.length:=O9m),∀{prog:Program}{w:World},a,∀(Q:?L0),a,∀(Q:VK)(x:V)(H1:Hp),a,∀{x1:Nat}{tpos:Pos},a,.(by simpa using this),∀{b:Addr}{o:Obj},a,∀{g:TG}{tc:TT},a,∀(A:Around),a,eqDs a b,?lQ [ov] (?yD ov m pl),{ s with heap:=h',toks:=t' },s.toks,Paired,bindL,sc.names.lookup,?c ?a3,bindC,?W X.K H vs ds,r.get,rv.get,(?y4),[e,it],.call,qa6 _ e,F2 k A,?Y7 us,.free,?c y,?ZQ c,(?V3 ha h),nC ?g2,?r Keyword,?hK+f n,?bH V,(by ext mL),.(by simpa using hb),(?VJ a o),"range",scope.names.lookup,?a9 ?cL,(ps.zip us),X.env.kindOf,?yV apos.atName,pos.line,?c0 y u,.(by decide),u=?gP a,(?VW x ?bQ),c.nocell,"str",sp vs H Q E,cA ?fY H,(f,first),fun _ _ q=>q,?XW a,R.row j a e,vs[i]?=?C,Pv i zs τ H,(by simp;omega),?XW ?u,⟨x,H1,I1,r1,q1⟩,X.base.get? b=?l,(0:Int),b ∉ ch,model,swapsWith,ys[i]?=?jZ,K.In ?B,?lC ?x1,(?YB e rfl),IsZip,R.free,?bH ?aJ,qa6 _ q,xs=[?dT],LT K H ?bV xs,s.heap.push,?qW s'.gens,I.loc,(Fi ns),(?Z id),Ne.symm,items,.Assign,(?o8),sX.names.lookup,Aj _ n,h _ ?N,?gN->Prop,b ∉ ex,holding,(v:V),Heap->Prop,?h (lo+i),qc5.mp,Heap.SameBut,?ZQ b,I.kept,.bl ?cP,(?p xs),(k+1),?uJ ?aQ ?e0 ?u f cd,SameX,H a=?l,IsEnum,Ma X Ac H b,Q v H',V->?rY,(?oC tI),IntsAre vs ns,qa8 _,∀{g:TG}{tb:TS}{D:Ends}{σ:St}{H:Hp}(Pv:?pX)(h0:?MG),a,∀(s:Shared) (Q:?gI) (E:?gI),a,∀{X:Cx}{sc:Scope}{N':?E}{cap:?r (?bH Nat)},a,∀(hb:?JD)(hd:?GF)(hx:?LZ),a,.(by obtain⟨_,_,z,_⟩:=h';cases z),∀{mg:?bZ}{base:Heap},a,∀(x8:A8) (x9:A9) (N4:bB) (Ob:fZ),a,∀{a b:Addr}{xs ys:?o}{n:Nat},a,∀{Ac:Bg}{s:Shared}{σ:St}{H:Hp},a,.(by obtain⟨a,vs,e,q,r⟩:=h),.(by simp only[qd0]<;>omega),∀(E:?gI),a,.(by obtain⟨t,rfl⟩:=ry),∀{Q:Unit->?i7},a,∀{m:?bZ},a,∀(lo hi:?gA),a,∀{f:?g7},a,.(by exact ?g8),∀(outer:?cJ),a,∀{vs:?w},a,∀(ha:PT X a tA),a,∀(x:?x0),a,∀{xs ys:?o},a,∀{σ:St}{H:Hp},a,∀(p:?bC),a,∀(ds:?aD),a,(k,x)::r,?G hj,?p _,(?lA),(x:V),fun σ2 H2=>tb { D with nx:=?f0,ct:=?f0,bk:=D.nx } σ2 H2,ZL K a,ds.any fun e=>?uV,?b2 x,I.len,Q ?eE H',I.laid,Obj.mapSeq,h1.get?,⟨xs,q,?dI⟩,?c (?uH),.Constant,"dict",bs[i]?,{ cls:=?b3,data:=?aC ?vF },?iM=?l,A.deeper,cells.lookup,I.list_inj,"isinstance",fun b o e=>?jV,.Compare,?H _ t,?VU a us,behindInMarks op b=false,ys.length,I.step,(qg7 _ _),(Kd h2),vs=[],?VJ p ?rM,xs.getD,(start N vs),?lU h,?k C,s.toks+1,(f:?g7),X.outer,VI n f,I.turned,b ∉ X.fs,(As st),xs.map,I7.unpinned,letOwnedTupleGo,dep d,2 ^ m,assignEach,?b0 o f pos',(?h i t),k b u q,MY S NE a b,W.fnOf x ?aQ (Ik st) (F7 st) ?oB ?aI kV doc pm an Dp ct,?c (.own a),(?GC),.(nomatch e),a.length=b.length,.func,(hi-lo).toNat,qp8 _,?p ds,S H b ys,(h<=1000),?cU b,Sum.inl,(x=?k l),(?r5),∀b xs,H b=?qQ->?hO=?qQ,?r L2.D,Fb X sc N' ?xC s H fp,n<=1000,?c a,env.kindOf,.cell,(neC b o e hx),?d1 x,(b,o),(dT h w f),?bW=?l,V->?cZ,.(nomatch h),I.base.keep,s.heap.FunFrames,fs.map,s.heap.update,(x=.bl c),ZK K a,[a,b],(?pK),?j rfl,(GG RG),?Q hj,w::vs,Nat->?lS,n::ns,X.env.locals,Vs X sc N' cap,?V1 H' s',(?M3 pos (keywordEach [] ?g)),Nat->?F,(y xs q),?j i,I.ok.above,(VW X H d),?eB x c e,PySem.W.instObj,Ap t u D σ H,(xs.length:Int),.Tuple,⟨H1,I1,q1⟩,?XW l,env.cells,(?n7),X.env.cells.lookup,(n+1),Vis ?yQ x,b≠e,?cO ?cP,(?K xs),((p,w)::?y2),fun b o e n hb hx=>?_,(i:Int),s.heap.IsCell,xs.length<=i,(d:L2.D),Sum.inr,call_meets,True.intro,?c ?qG,(tOp r ta tb),.(by simpa using h1),.bl ?cL,?ZQ X.calm,attributeBase,AllBare,r.inj r',hf b hb,.bl k,.Subscript,(by simpa using hu),(Classical.propDecidable _),(c.cells I.ok),?m2 B H H1,WC K a b,∀x∈ns,x.natAbs<2 ^ Ph,ns.length<=n,callerA,I.ok.bs b o e,qb6 h1,s2.heap,?VU a ?jS,Hp->?V5 ?gN ?o,sc.kind=?i1,(?G9),?r (?QN),I1.list,k.toNat,callWith,(?eD x pos),.(by ext sS),(?K [x,y]),.(by simpa using hx),?fO ?b7 0 lo,fun u s1 _z=>?_,(w<=1000),(x=?t),.ad i j n,?c1 H H1,IteG S a,hf b hb',ForInStep.yield,fun b hb=>(?qY).1,?V5 Hp VK,N σ' H',?hO=none,Aj g n,?wB K ?c5=true,?c (?yC),It->?a2,(hr.mono hk),Zw H H',fun r s4 _z=>?_,∀(hN:X.N.Nodup)(hi:?hX)(hx:?y7),a,.(by obtain⟨o',e1⟩:=I.base.there b o e hx),.(by obtain⟨b,ws,rfl,q',r'⟩:=hy;cases ry),∀(k:∀b u,?wW),a,.(by obtain⟨b,ws,z,q',r'⟩:=h';cases z),∀{pl:?xA}(he:?MQ)(c:?z3),a,∀{f:?g7}(R:?GD),a,.(by (ext mF)),.(by obtain⟨its,_,p,_⟩:=?eZ q),∀{kindOf:Str->?bH NameKind}{x:Str},a,.(by obtain⟨its,_,p,_⟩:=?aX q),∀(R:?s4)(vs:?o)(H1:Hp),a,.(by have e:b=it:=?k7),∀(x0:A0) (x1:A1) (x2:A2) (x3:A3),a,∀(hn:x≠"__name__":=by decide),a,.(by obtain⟨e,y⟩:=y;subst e),∀(H':Hp) (i:?pV),a,.(by cases (show ?nZ from h)),∀(r:?pD),a,∀{f:?F4},a,.(by rw[An (At q hn)];exact q),∀(sp:Sp)(dvs:?o)(E:XK),a,∀{kw:?iT},a,∀(cap:?r (?bH Nat)),a,∀(hu:X.A.units+n<cLine),a,∀{D:Addr}{as:?X},a,∀{n i:Nat}{f:?aA},a,∀(x:p0) (x:p1) (x:p2),a,∀{P:Program}{w:World},a,∀(c:?pU),a,∀(f:?g7),a,∀(R:?s4),a,∀(its:?w),a,∀(g:Int->?xV),a,∀{e:Expr}{te:TE},a,∀(fp:?X),a,∀(ha:?QW),a,∀(hl:?WG l tl),a,∀(r:?g6),a,∀(x:?cQ),a,∀{X:Cx}{Ac:Bg},a,(?kR).2.2,tb σ H1 Q,?WZ n,D->?cF,n=?cX\/n=?iP\/n=?kL\/n=?g9\/n=?dL\/n=?nI,?gK ?u,.(by rw[q];simp),∀f,N6 (?hF f) (mA f),sc.names.all,us.length=h,⟨us,[]⟩,SqT X.K H p ys,∀b o u,H b=?uP->?hO=?uP,relabel sc ?g,{ cls:=?aG ?k9,data:=?iN #[?h lo t,?h hi u,?h 1 v] },?bO P w H h a o,its.toArray.size,Data.fields _=Data.cell v,?Q ?b5,?wO∈sc.names,I1.laid,xs.drop,∀b∈fp,?m5,?y3=?QK::?v8,Q () s',qe2 hQ,.same _,as.length=h,base.Ns ?vG mg,?c (?C),p'.isList,Builtin.Int.intBits,?gV pos (?v8),H4 D=?c ?f1,PySem.W.plainGet,⟨v,H,I,r,h⟩,Rep X.K H v e,?xO/\?YG k,?V5 Int Int,(n,NameKind.cell),.ins C dx fs,?WK 1,envOfC,fun _ _ z=>z.elim,k b o (fun z=>hc (by simp[z])) e,(xs:LLInt),H p=?xF,its.toList,?c (?FC),?W8 e,⟨_,?fZ,rfl,rfl⟩,{ s3 with heap:=s3.heap.push { cls:=?aG "slice",data:=?iN #[vl,vu,?aI] } },?V1 H ?jI,(Y4 i),eqD e d,mA ?V,?ZA a,fun h' eb=>⟨rfl,?W0 (fun b o hb e=>eb b o hb e)⟩,W.isFn K ?c5=true,(f v u),fun i=>?JB,?gA->?a2,fun xs ys i=>?qL\/ys.length<=i,I.write,⟨e,?_⟩,V->?gA->?gA->?rY,IsPart,?eC es ?g,?VZ C,((0:Nat):Int),?VU p ys,isTrue,s₁.heap.get?,.(by simpa using h2),vs.toArray,mainGlobals,wpAny_standAt,h.Ns1 dx mA,?V1 H ?iI,fun p hp=>?_,J.go i H,d0::ds,I.ok.bsz,?fT::r,k b ob q,(h w:Nat),j<xs.length,PA X es t,env.cells.lookup,(?gV cpos (?v8)).any,(hs.2 b (?X5 ?dF ?q0)).trans,?ZQ (?yL),as.map ?hP,p.getD,PySem.Within,x.2≠NameKind.cell,SqT K H p ys,?iR i j,?c ?y5,u.keep,Result->?i7,kk c o hc e,?dR h TO c d,eqDs_refl,wpAny_Name,?q3 C ?u,W.keepIn,i.toNat,imms ds,?VU a ?lK,I.ok.noex,.UnaryOp,pyIter,h.objs.size<=a,∀vs H Q E,?kM->?ML,k b o hc e,o.cls=?dU,Rep X.K H x d,o.dict=none,(n,NameKind.free),ds[i]?=?c d,qa0 hj,?gP ?aZ::us,?c0 y v,N'.zip cap,(i:Nat),u=Value.none,?oX=?M->?iM=?M,?lL p.1,⟨n,?aE,?mA,h0⟩,.(by simp at e),Qo P w H h,PySem.W.emptyDict,?o->?a2,its.toArray.size*k.toNat,seqIndex_neg,?dY hq',[?t,?gL],o.slots,W.codeIn K Dp ?aQ=true,upd H ?u ?rM,Sem ?cF,.FunctionDef,H2.objs.size,i<vs.length,OP _ _ e,?c ?lZ,putF f y fs,getAttr,I1.kept,putF f v fs,s₁.heap.Ns,Q (?lY) H',s'.os=s.os,s3.heap.objs.size,M4 K fd ps [],(i==j),(?VP ?DK ys),its.length,Un.kept,?aJ->Sem ?aJ,tn i ?B,Int->V,(K w.params).In,FnScope,typeIs_int,⟨o,ho,hd⟩,sliceBounds lo hi ?a3 n,d.name,P.zip vs,?eC ?bQ ?g,?cY ?a8,{ cls:=?b3,data:=?aC ?L n },Rep.inj,WB ?yQ x,H b=?M,Reps.same,dx≠x,i8 X.env.cells ?i2 [],?c ?c5,getMethod,acc++its,X.s₀.heap.get? b=?l,?ZA b,(?fP hi).1,BZ ?b6 e,?WG e te,J.stop i H,?XD k,?jM x=?aR,Or.inr,I.base,-?eA<=i,X.env.scope,?dY hq,pa.isList,SqL X.K H p ys,?oH es ?g,standAt,seqIndex_of,(x,NameKind.free),?r (?k5),c.kind,(hs.2 b (?X5 ?dF (I.ok.cab x c hfn hc))).trans,?c1 H1 H2,PySem.W.methodObj,Cls X.K C,H1 a=?nG,a<h.objs.size,?p9=none,(?aG T),r.append,(?lC ?tR).objs.size,?bH HO,I.ok.mod.kin,?MR+?e1<cLine,fun _=>0,Df K C f,iR P w K mg ?aH A ?a4 s H,X.pn++Ac,List.foldl,BindsTo,?lU (?GX b z),if c then A else B,?hF m=none,getItem,ys.length<sizeLine,.(by simp[h]),X.fn x=true,.(by simpa using h),?aS e env,pb.isList,Bi ?DP,.(by refine ?n ⟨?QR,?f0,fun ys' τ' H' p'=>?FS,?hZ⟩),.(by refine ?n ⟨?QR,?f0,fun σ' H' p'=>?FS,?hZ⟩),∀(hch:∀b∈ch,?LS),a,.(by refine⟨fun i m ys τ H=>m=xs.length-i/\?eW/\?cS,?R5,?_⟩),.(by refine⟨fun i m σ H=>m=xs.length-i/\?eW/\?bY,?R5,?_⟩),.(by rw[show putF f v (?n1)=(if k=f then(k,v)::r else(k,x)::?HD) from rfl];by_cases hk:k=f),.(by have l1:=r.length;have l2:=r'.length;have l3:=rv.length;have l4:=VE.length),∀(hs:?u0:=by rfl),a,∀(A:Around) (outer:?cJ) (s:Shared) (H:Hp) (vs:?o) (Q:VK) (E:XK),a,.(by obtain⟨its,r',pl,hz⟩:=?eV;have hlen:=r'.length),.(by obtain⟨σ',H',I,q⟩:=h;exact⟨σ',H',?E1,q⟩),∀(hs:∀x,foldedSetIterable iter ?g x=?a9 x:=by intro _;rfl),a,.(by subst e;exact I1.fpOk ?aY (I1.hok.fresh ?aY)),∀(hl:?WR ?dQ),a,.(by obtain⟨sl,e1⟩:=?XE ?KF hx),∀{t u:TS}{D:Ends}{σ:St}{H:Hp}(P:?F),a,.(by obtain⟨z,its,n,r,hl,e⟩:=I.lstM hH),.(by obtain⟨its,r',pl,hz⟩:=?gX),∀(e:H a=?nG)(c:?z3),a,.(by by_cases hk:?vW),.(by obtain⟨e,n,ne,nf,d⟩:=?BV),.(by rintro i m ys τ H ⟨rfl,hi,p⟩),∀(hu:?DU),a,.(by obtain⟨f,fd,h1,h2,h3⟩:=h.ex),.(by obtain⟨⟨old,h1⟩,h2⟩:=st),.(by rintro i m σ H ⟨rfl,hi,p⟩),∀(hd:∀zs τ H,Pv n zs τ H->Q H),a,.(by exact ?V2 hb Q),.(by obtain⟨v,r,rfl,h1,h2⟩:=h),∀(hn:n=min ?b7 ?nV),a,.(by obtain⟨od,J,hl⟩:=I.look),∀(σ:St)(H:Hp)(Q:?F),a,.(by rcases ?o3 with e | e),∀(ho:?WH (?b4 op) r),a,∀(ps:?E)(k:Nat)(sp:Sp),a,∀{fd:FuncData}{ps:?E},a,∀(hok:Qo ?aB X.w H' h'),a,∀{c A B:Prop}[Decidable c],a,∀(hz:?Q1),a,∀(P4:KL) (Qt:rB) (Qs:RA),a,∀(prog:Program)(w:World),a,∀(sc:Scope)(N':?E),a,∀{mA:?bZ},a,∀(hk:j<=k:=by decide),a,∀{a b:Expr}{ta tb:TE},a,∀{z TI TO i1 i2:Addr},a,∀(hi:?PV),a,∀(i j:Int) (t u:Tok),a,∀(h:?dZ),a,∀(h:SqT X.K H a xs),a,∀(hn:l.most=?c n),a,Qo ?aB X.w H' ?dH,fun p hp=>?v hp (by simp[Fb]),env.scope.kind==?i1,?UZ cd,(n,(?vT n).getD 0)::acc,IrU g x H Q,∀x∈sc.names,?w0,⟨rfl,fin⟩,Mod X.K ?d1 ?c3,?b6 p _ hk,.list_str z t' ?a7 O9m,wpAny_isTrue_Compare1,F.slot_int_rmul,.(by rw[hC];exact ?oT),?P2 i ?b7,fun b o e=>(e0.bs b o e).1,.tuple_str z t' p O9m,cO ?DP&&ds.all (fun e=>Di xs e (?zT-1))&&(?q (?zT<2) || L7 xs (ds.map UZ)),ItB Q x H1,fun σ' H' p'=>?KA,fun j y v' e1 e2 e3=>?_,⟨_,hen⟩,?i5 p hp,.compLoop,Heap.get?_update_other,fun τ2 H2=>te τ2 H2 ?DK,∃c,?vT n=?bD,Addr × Obj,.bool_int c i t,sc.isCoroutine=false,cap.length=N'.length,.(by simpa using hk),∃o,?dX/\?cV,?W5 (?y3),?XC g k,r xs H Q,fun a e=>?_,i<xs.length,FU K xs H Q,∀b∈fp,?s0,PG X ?rK ?uU,?W5 (?eC [] ?g),hn.sameBut,(?Y3 ?gD ?g8),e=x\/H e=?c (.own x),?O ys its',List.range',.list_tuple ?a7 p' O9m,I.ok.exfs,QS Q x H1,Vals.append,?aP b=?M->?iM=?M,o.data=.dict es ep,fun j a e=>?_,fun r s'=>r=w/\?W3 r s',ds[j]' ?iC,{ D with nx:=N,ct:=N,bk:=D.nx },?VZ b,∃sl,?iM=?c { o with slots:=sl },∃o,?pC,.int_tuple c t p O9m,Or.inl rfl,Q (?h ?gD ?jJ) ?h9->?NM,X.prog=P,X.H₀ b=none,.str_str c t z t',∀x:Str,x≠"__name__"->mb x=?n9,R x y H2,.list_none ?a7 O9m,(Zh ?r3),FZ X ?gR tb,?WU h,PS X (?lJ [?MW] e pos) (nQ te ?uU),?dD/\?oV,H b=?l->?hO=?l,"type.__call__",eqDs_len,op≠.NotIn,hA b (?tJ),.of_refs hab main,(sizeLine:Nat),qb0 _ hb,.str_tuple c t p O9m,fun y H4=>?uA/\?zN/\Pv ?b1 ?iK τ2 (upd H4 D (?p ?iK)),⟨a,e,q⟩,wG K x lo hi H Q,Calls.Name_function_global,[op,op'],ds.length,X.A.handled=none,.(by simpa using rv),call_list_seq,?r WData,∀σ' H',?OG->u D σ' H',qS Q x H1,?p (?PZ),(?kR).2.1,Paired.mapP,Rep K H' v d,(?qN a:Key),I.unwish,?YK ?oB,lo+?vA*1,[s1.heap.objs.size],.tuple_list p ?u7 O9m,us.length=ps.length,?WG o to,WE K f D σ y x H2,PA X ?pL ta,?XY h ?aI,.(by rw[qa3];exact hl),?nN x=?bD,?O ys its,es.toList.any,(i=0/\j=1)\/(i=0/\j=2)\/(i=0/\j=3)\/(i=1/\j=2)\/(i=1/\j=3)\/(i=2/\j=3),PySem.W.takerIn,{ cls:=?b3,data:=?aC its'.toArray n' },?WG e ta,?ZD ?nO,.(fun _ _ _ z=>by ext TJ),c.locals,(?fP h).1,.list_int i t' ?a7 O9m,⟨z,H3,I3,r3,k,e,q3⟩,subscriptTail_builtinR,SqT K H' a xs,.(by simpa using hs),(Q ?gD H),(?bB x t),fun x a e=>?_,U1 ?aB X.w X.K tg J fp it tn,(?lH hb),Int->Int,⟨⟨old,h1⟩,h2⟩,⟨_,?fZ,rfl,rfl,_,rfl⟩,.(by simp[putF]),hl i ys τ H hi p,.none_list ?a7 O9m,hd σ H p,?aJ->?xT,fun i x v e1 e2 e3=>?_,qT C m sp dvs E t σ Q x H1,{ s with heap:=?LC },OP _ _ q,fun _ _ z=>no z,.list_bool b ?a7 O9m,?WG ?kJ (tCB r t),.frz o u,(?aV k its).flatten,HP X Ac σ Q s',(i=0/\j=1)\/(i=0/\j=2)\/(i=1/\j=2),?WZ kvs.length,.(show n+1+j=n+(j+1) by omega),.tuple_int i t' p O9m,(?tQ).names.lookup x=?aR\/(?tQ).names.lookup x=?cK,?UU (call ?lG (v::us)) ?bE,(show False from r).elim,tn i s7.heap,?lV e h' h3,Ma X Ac H' b,I.pins_of,IsRangeIter,wK K n t v σ H Q,⟨xs.length-?b1,O9m,rfl,hlt,p'⟩,fun w hw=>h w (qb0 _ hw),cellsFrom,∃t,FZ (iF Ei P w K mg ?aH N ?aQ ?oB f Dp A ?a4 s H E).nox (F7 st) t/\?KU,PA X [a] ta,QW R vs H1,h.ok ?b6,fun h' tk k=>⟨_,H,?lX k,?_,q⟩,?hQ σ H1,(n,v)::r,?aP l=?w3,fun z=>(hch c z).2.2.1 x c e rfl,.bool_tuple c p O9m,n<=1000000,fs.length<=1000,subscriptTail,?xX N ps ?e0,?W1 v ?pB,(?gV cpos (?y3)).all (fun x=>!x.1)&&(?M3 cpos (keywordEach [] ?g)).all (fun x=>x.1.isSome),(zs++[y]),II cap σ,?XZ H1 as,⟨o,e,c⟩,?O dvs ds,l.row.toRowW,Xy fp s5.heap,(us++ds).length=ps.length,X.s₀.heap.FunFrames,SqL X.K H a xs,Aq1 g x y H Q,List.length,r x y H Q,?E0=?qN b,?kD x=?aR\/?kD x=?cK,qb0 _ (?iH),?aW a o hk,TI K H v ns,KI K x y H Q,b≠it->?PY,∀y∈sc.names,y.2≠?jY,qa5 ?vN I.sz,I.stkSub,IrI C g x y H Q,mg ?y1=?c (?k fa),.tuple_bool b p O9m,?v rfl z,?cG ?c e,∃t,u=Value.int i t,Rep.same,Bj (X.wish E) Ac σ H s,LLInt->LLInt->LLInt,e0.hok.fresh,W m σ H,∀C s₀ H₀ fp,PTs (?WO C) ifs tc,∃o',?iM=?c o',⟨main,?_⟩,?cR/\?Y,putF f v r,κ × Value,(x==("__debug__":Str))=false,fitsIndex_both h1 h2,?aV k xs,hd ys τ H p,(?m1).kindOf,?aD->?cF,Bj X Ac σ' H' s',F2 ?m0 A,qW R vs H1,?q (?iJ),?WG ?rK (Ad8 i),⟨σ,H,I,h⟩,Builtin.List.listTooLong,j<1073741824,(mixKind prog w).is,hs i x ys τ _ ?pY p,(?fP e).1,(?MO).symm,(?oY a:Key),?WM ?V,∀σ H,Pv ?b7 σ H->?bP,I.ok.hd hc,tn 0 ?B,subscripted,?i6 a=?l,s.heap.Ns ?pT m,I.ok.inj,?vC e ?g whole,codeAny_mono,?xI (t':=s1.toks) hk,?o1 ?wC [],.int_bool c t b,scal x y=true,QO X.K C m f,?aP p=?w3,.(by ext sP;simp[Reps]),?gB it a i,?aP it=?l,kG K xs H Q,q _ I.fresh,∀x∈P,?M8,Bj X Ac (σ.set i (?C)) H s',?yX∈sc.names,TY.extBut,?v (show ?ZQ false from hs) qe1,fun _ s'=>SP X Ac D .next s',r x xs H Q,d.params.defaults=[],fun y H4=>H4 D=?c (?p zs)/\zs.length<sizeLine/\Pv ?b1 ?GB τ2 (upd H4 D (?p ?GB)),.(by simpa using I.len),.tuple_none p O9m,hk c o n1 n3 n4 n5 e,.int_str c t z t',.ins C ?u [],fun x c e=>?_,?WZ ns.length,∃t,u=Value.float b t,?qW s.gens,Hy ?qC f,Nat->?NC,WH K x y H Q,(?xJ).length,H a≠none,FW x vs H Q,?y6 I hx' hy',fun ys' τ' H' p'=>?KA,PT X c tc,?YS (?ZA ?rK),dL w ?g0,PS X st t,M4 X.K fd ps ds,?V1 H' s2,?vD a=?c ?nK,fun o=>o.bind fun j=>?Q9,fun b=>?_,Reps.inj,F2 k ?r8,{ s with heap:=h₁,toks:=s.toks+([]:?iT).length },∀b∈fp,?YI b,.(by rintro rfl;exact h v qb1),(?cL,?yG),fun c H1=>Q (!c) H1,fun h' st' sb=>?_,(sb.2 b hb).trans,⟨y,H2,I2,r2,q2⟩,wD i σ H Q,∀b ps,H b=?c (.tbl ps)->∃more,?hO=?c (.tbl (ps++more)),(vs=[x]),∀name,?MA=?c (?uW),?wN/\o.data=?aC its n/\?WZ its.size/\?O xs ?uO,[v,ov,iv],?ZQ (g==k),PySem.W.handedIn,deps ?lF,I.base.tbls,?VZ a,Int->?EX,(i+n).toNat,hb b hb',wpAny_comprehension_free,?ZA (?UY o []),k a _ ?dC e,PA X ?bQ t,⟨n-?b1,O9m,rfl,hlt,p'⟩,WG x y H Q,QT tb σ Q x H1,h₁.get?,?tX (t':=s1.toks) (fun b u e=>?jV) ?aY ?_,I.base.slot,Eo K x ?aQ st f fd,WD tb σ Q x H1,fun b z=>?v z (noA b),t D σ H,⟨ok.mod,ok.kind,ok.glob,ok.blt,ok.above,ok.inj,ok.has,ok.cab,ok.hd,ok.frames,ok.stk,ok.exf,ok.bs,ok.bsz,ok.noex,ok.exfs,ok.funs,ok.frf⟩,pre_splitW hpre,(dL n f),?VU p xs,⟨?qI,?qI,?iV,?OP,?QG,?PE,?K1⟩,J.yld i H x H',?bH Expr,ob.slots,i.toNat=j,s₁.gens=#[],t { nx:=fun _ H'=>Q ?x H',rt:=Q } ?o2 H,bindArgs,.bool_str c z t,.(by subst z;rw[r]at mu;exact mu),(its.toArray.size:Int),?fO ?xR 0 lo,?cF->?a2,.none_tuple p O9m,QU K xs H Q,PySem.W.cellsFrom_some,h.objs.size,?WK 4,?YG ?m0,x.2=NameKind.local->?jM x.1=?c NameKind.local,?c1 H0 H,?WG ?rK (tC v),(X.wish E).Ok,ih _ ?O4,(?l4).push (?wA),?YN b,PG X tg g,Bj X Ac σ H' { s with heap:=h',gens:=g',drawn:=d',toks:=t' },Uf f y fs,TI K H v p,qe9.mp hb,op≠.In,.(by have:=r.dp;omega),?JI I r r',?nM (?m1),.(by rw[An (hm b _ q fun z=>z)];exact q),∀c∈?eG,p c,?HX=?oY b,KG x vs H Q,I.ok.frf,(b∈X.ex\/?V8 b)/\?hT/\?OW,fs.length<1000,(?b6 b u e).stay,slot_list_getitem.lookup,σ[i]?=?u6,pl.isList.typeIs,xs.eraseIdx,Rv CX X E,fun i h h' st k=>st.at fun o e=>k it ?N o e,(vs=?bR),h'.objs.size,backToKw,List.mem_append_left,hl i σ H hi p,∃u,us=[u]/\?bU,?o->?V5 ?o Nat,?jM x=?dM\/?yM,?qB x=?p5,PySem.W.lookIn ?V od,qR Q x H',?aP c=?l->?gK c=?l,.set S n,{ s with heap:=h',toks:=tk },(?o8).length,Pv 0 σ H,?xI (t':=s1.toks) ?nQ,fun _ e=>?oP,qV K xs H Q,?ZL ?f1,vs.length=ps.length,∀[?bM] [?dA],?zI s fd ⟨[u],[]⟩ [(x,u)],Mk X.K C f,qb6 this,?ZA (?UY e ?cM),?WG o ta,A.units+1,I.tuple_inj,?VE M (storeName ?g x u),?q (x=y),PySem.W.hasDictIn K C=true,?eD x pos',(?xJ).map,compPost,?ZQ (! ?q (?a8 a=?a8 b)),.(fun v z=>by rw[d]at z;cases z),?r Key × Addr × Value,?c (?gP ?u)=?c r,P[i]?=?c4,fun _ s5 _z=>?_,builtinsNs,Subscript_,?V6 ?gS,u σ H1 Q,⟨xs,ys,xs[i],ys[i],qa,qb,?dO,?dO⟩,.(by ext TZ),c ∉ fp,?o->?F,?FU ?aZ scope.names [],{ s with heap:=?lC ?tR,toks:=tk },⟨rfl,rfl⟩,.str_bool c t b,fun v hv=>(qj2.mp nd).1 (qq9 hv).1,fun _=>rfl,?lV z h' h3,k b u (hb b n) q,fun b ob q=>?l9,?YS (f ?oJ (?h j u)),A.depth+1,wpAny_assign_Name,?dQ/\?VU b ys,fun z=>(hch _ z).2.1 rfl,Nat->?a2,Data.seq,PI X tg iter wi,if j=i then 1 else 0,?P7 (?h x),?V1 H ?ME,∀b∈fp,∃o,?cR/\?cV,?r Key × V,(Su H Z),hl i σ H hi pp,z.sameBut hs (cne y c e),?W K H' vs ds,UnaryOp_,fun m hm=>hl m (qb0 _ hm),(ql3.mp hp).elim,hs i x σ _ ?pY p,K.In ?aH,H1 p=none,Df X.K C f,(?YB rfl r),I.hok.laid,fun i=>(?nJ).getD ?cP,∀C s₀ H₀ fp,PE (?WO C) elt te,wH K x y H Q,?vD b=?l,P σ' H',kF r' tc σ Q y z H3,?XX ?e1,∃t,u=Value.bytes b t,Fb X sc N' C s H fp,∀b∈fp,?FO,PySem.W.makesIn K C=true,∀C s₀ H₀ fp,PG (?WO C) tg g,QX K R vs H1,fun b o e hx=>?_,?VU b (VI w ?g0),fU K xs H Q,⟨xs,ys,qa,qb,he⟩,Int->?cF,xs[f.toNat]?=?c q,(?Y3 ?nV ⟨?o5,by rw[qd0,hlen]⟩),(?LD)/\∀p∈?zG,p.1≠b,QY t u vs σ H Q,⟨a,_,rfl,h,?R8⟩,I7.pin ?pA (qg8 _ (qg8 _ (Nh hb e))),CE ?a4 P w H s Q u s',qU o i v H Q,seqIndex?,us.toArray[j],⟨u,r,?_⟩,.str_int c t i t',.(by have:=r.length;ext jC),WData.weight,?UU (?uX) (?ZT ?v0 Q),PySem.W.plainOver K C=true,(ns:?bC),?O [x] us,qX K R x H1,∀σ H,Pv n σ H->?bP,I.base.frzs,?ZL (?K ys),Bj Y [] τ' H' s',UM ?yQ X.N sc N' cap=true,(?iS-1) / 8,?oF<=?e1,.(nomatch z),.(fun v q=>by ext TW),b∈X.fs,F2 ?m0 X.A,Aj (fun i=>f i j) n,Hy n ?zD,?c1 ?NZ (Su H' Z),QO X.K C m g,wI K n neg x y H Q,?hR UInt8,fun c hc=>?_,i.natAbs<?oG,.(by simpa using q7),hb wh Ac s1 σ H1 Q I1 q1,?cR->?nL,C8 xs lo hi,hd σ H pp,?WZ ys.length,?p6 n==?aR,T.keep _ _ _ xC fun b hb o e=>(?OZ).1,wJ K R x H1,PGs X es t,qq1 (pl:=pl) (Dh ?fR ?rP) ht,?eB x a (ltc x a e),tn i ?dH,(σ[j]?).join,Nat.log2_lt,H dx=?oN,IrEqD K n x y H Q,A.handled=none,.(by simp[eqDs]at h),Su H Z a,I.base.tups,sc.isGenerator=false,?XC a sysModules,SqL X.K H a ys,(?cL,?eH),ItFld K f Q x H1,.int_int c t i t',Str × NameKind,(?cL,?uX),b ∉ X.ex,Y7 ds es hl,⟨xs,xs[i],q,by simp[hlt]⟩,Dh ?k1 ?gG,∃t,u=Value.str x t,qd5.mp hi,⟨hz,hTI,⟨u,v,hTO⟩,h1,h2⟩,?WG a ta,?v (show b∈([]:?X) from z) ?N,.str_list c t ?a7 O9m,.bl (!c),EqD X H s d,.Pass ⟨0,0,0,0⟩,∀d∈ds,?R0,iQ ?B x dx C mA,SqT K H a ?jS,⟨?b7,?aE,?mA,h0⟩,.bool_list c ?a7 O9m,(?yU).findIdx?,Ex.mpr rfl,∃u,?gK e=?M,Mut (H x),.int_list c t ?a7 O9m,?ZA (?UY o ?bQ),.(by have:=r.un;omega),WI K R vs H1,(?ZH ?gD),us'.toArray[j],?W3 u s',?aP p.1=?c p.2/\H p.1=none/\p.1≠X.env.locals/\p.1 ∉ X.fs/\∀v,p.2.data≠?p7 v,∀(hs:∀i x y zs τ H p,?aF->?l2->?kT->?cN->g ?bJ τ (?o0) (?VP ?IR zs)),a,∀(hs:∀i x ys τ H p,?aF->?cS->?ZJ τ ?xQ),a,∀(hs:?ZC ?xQ),a,.(by refine ?Q6;obtain⟨x,H1,I1,rx,a,dx,fs,ex,ea,l,q⟩:=_z;subst ex;obtain rfl:?kI:=rx;refine Ro I1 ea c hm l ?_),∀(hs:∀i x y σ H p,?aF->?l2->?bY->?cN->g ?bJ σ (?o0) ?n6) (hd:?PD),a,∀(hs:∀i x σ H p,?aF->?bY->?ZJ σ ?n6) (hd:?HZ),a,∀(hg:?ON) (ht:?H9) (he:?OD),a,∀(hs:?ZC ?BY),a,.(by have I1:?vJ:=?W0 (fun b o hb e=>?JQ e);obtain⟨o,e,c,d⟩:=id st'),.(by obtain⟨j,h1,h2,h3,h4,h5⟩:=kC he;obtain⟨w,ew,rw'⟩:=?jQ h2;have hl:=r.length;have hn:=bX;have fin:?W3 w s:=⟨z,H,I,rw',q⟩),.(by have I3:?pV:=I2.call' hos hun hok hbare (Bj.fpCh f2);have f3:Ma X Ac H' C:=I2.fpOk hC hHC;obtain⟨_,k1,_,k3,k4,k5⟩:=f3),∀(hs:∀i x σ H,?aF->?bY->g x σ H ?n6) (hd:?HZ),a,.(by first | rfl | simp[Around.under,Code.weight,Code.isCreation,Code.isGuard,Code.isCaller,Code.frames,Code.isFrame,guardIds]),.(by intro value slice Ac s σ H x y v u Q I rx ry h hs;obtain⟨p,xs,i,z,rfl,rfl,hq,he,q⟩:=h;cases rx;obtain⟨t,rfl⟩:=ry),∀(pa:PlainAttrs T)(slot:Slot T ?V id)(hty:typeOf ?lG=?a9 (?aG "method_descriptor"))(hm:MtR X id r)(ho:?E7)(ha:?K9),a,.(by refine Dh (?V2 hb _) fun u s2 _z=>?_;obtain⟨y,H2,I2,r2,q2⟩:=_z;exact hf v u s2 x y H2 I2 r1 r2 q2),∀(hs:?eC ?pL ?g=[?QO,?JN]:=by rfl)(hs2:?eC [b] ?g=[?JN]:=by rfl),a,.(by rw[e]at e';cases e';rw[d]at d';injection d' with d1 _;have:its=its':=by simpa using ?cG Array.toList d1),∀(mu:?RA)(he:?CH)(k:∀b u,?qE->?wW)(ZW:?R9),a,∀{x qual:Str}{st:Stmt}{f:Addr}{fd:FuncData}{N ps:?E}{k:Nat}{sp:Sp}(F:?KG)(S:?xX N ps ?oB),a,∀(hf:∀v u s2 x y H2,?V1 H2 s2->?dK->?kG->?D4->?f ?i X.A ?v0 Q ?m s2),a,.(by simp only[sliceBounds,HT.sIx,Option.getD_none,show(1:Int) > 0 by decide,if_true];by_cases h:i<0),.(by obtain⟨σ3,H3,I3,n3⟩:=q3;obtain⟨m',hm,w3⟩:=hN σ3 H3 n3;exact⟨m',hm,σ3,H3,I3,w3⟩),.(by obtain⟨xs,x,hq,hx⟩:=hg;obtain⟨its,rv,p,hz⟩:=?eV;obtain⟨u,hu,ru⟩:=?jR hx),.(by obtain⟨o,e,d⟩:=T.obj _ _ xC b hb;exact(?OZ).2.1),.(by rw[ql6 (?lH hj)]at e2;obtain⟨u',r',q⟩:=hl j y v' e1 e2 e3;refine⟨u',r',?_⟩),.(by have vH:∀c o,H c=?l->?NB:=fun c o e hm=>by rw[(hf c hm).1]at e;cases e),.(by obtain⟨o',es',YZ,ho',r'⟩:=hm;rw[ho]at ho';cases ho';exact⟨_,es',YZ,hL,r'⟩),∀{q:Program}{loose:?E}{XP:(?bZ)->?lS}{YP:World->?lS}{d:DefRec},a,.(by have e2:?XC op CmpOp.NotIn:=?WV h2),.(by obtain⟨x,H5,I5,r5,y5,xC,YW⟩:=_z;have I5':=I5.pinned (GG YW) (T.obj _ _ xC)),.(by have e1:?XC op CmpOp.In:=?WV h),.(by obtain⟨i,j,rfl,q⟩:=h;obtain⟨u,w',rfl,⟨t,rfl⟩,⟨t',rfl⟩⟩:=dD r),.(by refine⟨fun i m σ H=>m=n-i/\?g1/\?bY,?wY,?_⟩),.(by subst e;obtain⟨o,e,c,d⟩:=st;exact⟨o,e,?N0⟩),.(by refine⟨⟨o,e,ex.1⟩,fun a e2=>?_⟩;cases e2;exact⟨o,e,ex.2.1⟩),.(by intro Ac s σ H R I h;refine Dh (?V3 hl h) ?gG),∀(h:∀{N:?F},(∀σ' H',?OG->?rZ)->t { D with nx:=N } σ H),a,.(by obtain⟨ia,ra,pa,_⟩:=?aX EV;obtain⟨ib,rb,pb,_⟩:=?aX lZ),∀{to:TE}{t:TA}{name:Str}{apos cpos:Pos}{T id:String}{r:?pD},a,∀(hst:?u0:=by rfl),a,.(by obtain⟨_,_,_,_,o,_,_,e,ex,_⟩:=?BI;exact⟨o,e,ex⟩),.(by obtain⟨p,ys,rfl,hq,q⟩:=h;obtain⟨u,rfl,rx⟩:=U5 r;cases rx),∀(X:?l3)(I:?R3)(hg:?uB K C ?V=true),a,.(by have hu':?zC:=by simp only[dep]at hu;omega),∀(hs:?X8 e ?MW:=by rfl),a,∀(hbase:?qV o ?V ?g (?gF)=?gF:=by rfl),a,.(by obtain⟨xs,hq,hx⟩:=hg;obtain⟨its,rv,p,hz⟩:=?eV),.(by have e:=r.length;simp only[Array.length_toList]at e;omega),.(by obtain⟨oc,od,kV,doc,pm,an,Dp,ct,osl,rfl,lk,hcd⟩:=F.ex),.(by obtain⟨d,rfl,q⟩:=q1;cases r1;exact qk4 ⟨H1,I1,q⟩),.(by subst hj;rw[hi]at e1;cases e1;rw[qp5 hiσ]at e2;cases e2),∀(hl:∀i zs τ H,?g1->?kT->?NP),a,.(by have hf:H1 ?gH=none:=I1.hok.fresh ?aY),.(by obtain⟨it,fp,tn,J,H2,e,I2,T,st2,f2,hW⟩:=h2;subst e),.(by subst e;exact ?WT ?nF ?HI),∀(hcap:?PH)(hi:?NT),a,.(by cases y<;>exact ?IN),.(by have e2:its'.toArray.size=es.length:=?dO),.(by rcases Do hv with⟨j,u,rfl,rfl⟩|⟨y,u,rfl,rfl⟩),∀(hi:?hX:=by rfl)(hx:?y7:=by ac_rfl),a,.(by have e1:its.toArray.size=ds.length:=?dO),.(by subst e;exact ?WT ?nF ?F3),∀(hl:?WR ?dG),a,.(by exact⟨f.2.2.2.1,f.2.1,f.2.2.2.2.1,f.2.2.2.2.2⟩),.(by have hx':=hx;obtain⟨a,vs,rfl,q,r⟩:=hx;cases rx),.(by obtain⟨a,e,⟨xs,hq⟩,q⟩:=q1;subst e;cases r1),∀{ta:TA}{p pos:Pos}(hg:Gl X ?k9)(hm:?d1 ?k9=none),a,∀{S:?rD}{NE:?M7},a,∀{x:Str}{ps:?E}{j k:Nat}{sp:Sp}{p pos:Pos}{e:Expr},a,.(by rcases Do hb with⟨j,u,rfl,e⟩|⟨y,u,rfl,e⟩),∀(hs:?eC [a] ?g=[?QO]:=by rfl),a,.(by obtain⟨p,ys,a,b,c⟩:=z;exact⟨p,ys,a,b,c⟩),∀(hg:?gT)(hm:?z6)(hv:?n9=?M),a,.(by exact qb0 _ (ih (fun y hy=>hn y (qb0 _ hy)) h)),.(by obtain⟨σ7,H7,I7,n7⟩:=q7;exact again I7 n7),.(by refine ?QS),.(by simp only[eqD];by_cases hl:ds.length=es.length),∀(hl:?WE ?eW ?dQ),a,∀(x:p7) (x:p8) (x:p9) (x:VG) (x:p11) (x:p12) (x:p13),a,∀{g':?hR GenState}{t':Nat}{d':Drawn}{ch:?X},a,.(by have e:b=s1.heap.objs.size:=?k7),∀(len:?wJ),a,∀{l:?rG}{acc:?fS},a,∀{pl:?xA}{Q:Value × ?w->?i7},a,.(by cases (show ?NS _ _=Data.cell v from q)),.(by obtain⟨hz,hTI,⟨u0,v0,hTO⟩,h1,h2⟩:=st),.(by obtain⟨m,⟨o,es,ep,ho,r⟩,_⟩:=id ?lE),.(by rw[An (E3 e h (by intro z;cases z))];exact e),∀(h:ta σ H fun x H1=>tb σ H1 fun y H2=>?D4),a,∀(ha:n<=xs.length)(hb:n<=ys.length)(he:NE xs ys n),a,∀(hcd:(x==("__classdict__":Str))=false:=by decide),a,∀(k:∀b u,?CO),a,.(by have hk':k=NameKind.free:=?C4),∀(hp:PassesOwn ?i X.A ?g ?m),a,∀(hline:?ZQ (apos.endLine==cpos.line):=by rfl),a,∀(h:Jy ?aB X.w X.K ?d1 ?c3 C m ps j sp),a,∀(hn:(?yU).length=n:=by rfl),a,∀(r:?v6),a,∀{n:Nat}{f g:?aA}(h:∀i,i<n->f i=g i),a,∀{qual:Str}{scope:Scope}{f:Addr}{cd:Value},a,∀(σ':St) (H':Hp) (i:?HL),a,∀{h':Heap}{Y:?eQ}{T:?lS},a,∀(Pv:?pX)(h0:?MG),a,∀(hg:?gT)(hm:?p9=?c ?bI),a,∀{items:?dS}(x:Pl h a ?lI),a,∀(hb:?JL),a,∀(hd:?YW n),a,∀{cells:?fS}{x:Str},a,∀{tg elt iter:Expr}{ifs:?eL},a,∀(ha:?MQ)(hv:?WG ?hB tv),a,∀(hh:?MV),a,∀{X:Cx}{a b c:Expr}{ta tb tc:TE},a,∀(D:ZipApart z TI TO i1 i2 a b),a,∀{X:Cx}{CX:rA}{k:Nat}{f C:Addr},a,∀(hg:?gT)(hm:?p9=?M),a,∀(hm:?nU),a,∀{x qual:Str}{st:Stmt}{f:Addr},a,@((?a).go i H/\∃N:?F,?eR/\∀x H',(?b).yld i H x H'->?eX),@(?f ?i X.A ?a ?b ?m s),@(Pk ?a g ?b te D Q τ H),@(fun σ H Q=>?a σ H fun x H1=>?b),@([?gU,?gJ,"dict_itemiterator","dict_reverseitemiterator","odict_iterator","itertools.zip_longest","itertools.pairwise"].contains ?a),@(?aO (?b0 ?a m apos) ?b [] pos),@(iF CX P w K mg ?aH N ?aQ ?e0 f ?a A ?a4 s H E),@(Dh (hi Ac s σ H _ I ?a) fun v s1 h1=>Dh h1 fun itv s2 h2=>?_),@(Bj X Ac σ ?a ?b),@(?a Ac s1 σ H1 ?b I1 q1),@(?a Ac s σ H _ I ?b),@(qr8 (h₀:=X.base) ?zB ?a (Dh (ha pos Ac s σ H _ I h) fun us s1 ⟨vs,H1,I1,r,q⟩=>⟨I1.kIn,?_⟩) he hpl),@(?a->?b->Prop),@(?e9 ?a ?r8 (?jU (?k fa) ⟨?bR,[]⟩) (fun r s'=>r=.ok (.ret ?i3)/\OldK ?fY ?dH/\s'.os=s₁.os/\?lD) ?dN),@(?a (Dh (ha pos Ac s σ H _ I h) fun us s1 ⟨vs,H1,I1,r1,q1⟩=>hc Ac s1 σ H1 vs us Q I1 r1 q1) he hpl),@(X.s₀.heap.objs.size<=?a),@(?a (Dh (h pos Ac s σ H _ I hq) fun us s1 ⟨xs,H1,I1,r,z,q⟩=>⟨by rw[←r.length];exact z,?_⟩)),@((sc.names.map fun ?fT=>if (k==?jY&&sX.kind==?i1&&?lL n==?aR) then ?uG else ?fT).lookup p.1=?a),@(fun σ H R=>ta σ H fun vs H1=>?a),@(sp (?hD::?fX) (upd (upd ?a dx (.own x)) x (.ins C dx [])) (fun v H2=>v=?x/\Q ?iQ H2) E),@(?a ?q1 ?b (HR I (A:=X.A.in1) (by show X.A.units+1+?e1<cLine;omega) hx rx r rv) (fin r rv)),@(?f ?a A ?b Q E s),@(?a fun _ _ _ _ _ _ _ q=>?b q),@(zG ha hb I h fun v u s2 x y H2 I2 rx ry q=>ho Ac s2 σ H2 x y v ?a Q I2 rx ry q),@(Q (.bl ?a) H),@((?a).stop i H/\?bP),@(upd H ?a ?b),@(nU I (A:=A.in1) (by show ?zC;omega) r r' rv VE (eqDs_ok I ds) fun d h=>Wn ?a),@(X.env.scope.names.lookup x=?a),@(?q ((e::es).length+([]:?k3).length+(if ([]:?k3).isEmpty then 0 else ?a)<30)),@(qo8 ?a ?aW ?b k ?hI fin),@(show ?a b=_ from h'),@(fun τ2 H2=>tc τ2 H2 fun b H3=>if ?lW then te τ2 H3 ?a else Pv ?b1 ?b τ2 H3),@(fun x y H Q=>?a),@(?a (?cY WData.int)),@(∀{binds:?iT}[?mP],(∀v,(x,v) ∉ binds)->?a ?cH binds m x=m x),@(fun _ _ _ H _ I h=>?a ?b),@(SqL K H ?a ?b),@(OpR X ?a (XH fun i j=>.bl ?b)),@(?aO (?eD ?a p) ?b [] pos),@(?DS p ?a ho hc hd (fun h' c' kp e=>fin its r' hz h' c' kp e) ?k6),@(?zH (fun x1 x2=>x1++x2) #[] (?aV ?a ?L)=(?aV ?b its).flatten.toArray),@(s.heap.objs.size<=?a),@(?o9 (t':=s.toks) ?a f0 f1 f3 f4 f5),@(Rep K H ?a ?b),@(PE X (?nH ?a j pos) (tC ?b)),@(EP X Ac σ Q ?a ?b),@(?v (qb4 ?a ?b) ?gQ),@(?rJ pos f first (?gV pos ?a) ?pW),@(?eT ?a ?bI "__setattr__"=?c (?c (?Z "object.__setattr__"))),@(⟨u,rfl,eY (s:=?iI) e c d ?bF ⟨x,H,I1,ru,?a,st',?rX⟩⟩),@(Gi ?r3 (fun z=>by simp at z) ?a),@(?i6 f=?c ⟨oc,od,?oR ?a,osl⟩),@(?a Pv h0 hl (fun i x ys τ H e p=>hs i x ys τ H e p) hd),@(show ?a from r),@(fun b o _ _ hc e _=>?a),@(?a q loose XP YP ?GG d [] (fun f vs=>PySem.call f vs)),@(∀i σ H,?a->?bY->?b),@(Fd X (?Z ?a) ?b),@(PE X ?a ?b),@(OpR X ?a ?b),@(?c { cls:=?aI,data:=?iN ?a }),@(?a (Ck I q (?cG not ?b))),@(s1.heap.objs.size+?a),@(fun _ _ _ _ _ st h=>?a st h),@(?eT K ?bI ?a),@(by subst hK;exact ?a ?b),@(Fb X sc N' ?a s₀ H₀ fp),@(s.heap.objs.size+?a),@(fun Ac s σ H Q I hw=>?a (h Ac s σ H Q I hw)),@(∀i ys τ H,?eW->?cS->?a),@(fun y H4=>?uA/\?zN/\N ?iK ?a (upd H4 D (?p ?iK))),@(?j ⟨?a,?b⟩),@(?dR ?a TI (?k i1) (?k i2)),@(by cases op<;>first | rfl | exact ?v rfl ?a),@(?n ⟨?a,?f0,?b,?hZ⟩),@(fun i H=>∃xs x,?a/\?aF),@(by rw[I.ok.glob];exact I.mod.glob.keeps ?a),@(?a<=sizeLine),@(?a c o (I.cne x c e) hc nch ho (?d0 x c e)),@(⟨?gH,?E4,_,_,H1,rfl,?MH,?a a _,?uR,?g4,q⟩),@(fun b ps q=>⟨#[],by rw[An ?a,q];simp⟩),@(PS X (?lJ [?oI] ?hB pos) (Af4 ?a ta tv f)),@(NP X Ac ?a s'),@(qd8 (qb4 ?a ?b)),@(fun σ H Q=>t σ H fun xs H1=>?a Q xs H1),@(Un fs ex H ?a h ?b),@(?l1 ?a (?c (?b)) ?kF ?g=?kB),@(?c { cls:=?dU,data:=?aC #[?h i ?jJ,?a] }),@(?b2 ?a=?c (?aG ?b)),@(fun _ H Q=>Q ?a H),@((?a==?b)=false),@(?a==NameKind.free),@(?a b o e n hb ?b),@(?a (NE:=?v3) O9m O9m O9m Pv h0 hl hs hd),@(∀i ys τ H,i<n->?cS->g (?lT) τ H ?a),@(fun xs H Q=>?a),@(fun i H=>∃xs,?a/\?qL),@(fun _ s2=>YP X Ac σ r Y (T ?rB) ?a s2),@(?cU ?a=?l/\?cV),@(?a (i:=i) (qj2.mp nd).2 (?qS) (?vE) hk),@(⟨?k ?gH,upd H1 ?gH ?a,?KE,rfl,q _ hf⟩),@(∀[?fC] (n:Nat),?dZ->?W K H (?a n) (?b n)),@(∀[?bL][?S] (n:Nat),?bA->?O (?a n) (?b n)),@(ho Ac s2 σ H2 x y v u ?a I2 r1 r2 q2),@(PI X tg l (?a ?b tl)),@(?W K H ?a ?b),@(?a _ _ (vH _ _ ?b) q),@(qa7 (?a (qa7 ?b))),@(U1 P w K tg ?a [it] it ?b),@(PW X (?bT .And ?a pos) ?b),@(H ?a=none),@(A.units+?a<cLine),@(?l6 ?a z TI TO ?b),@(?i4 H ?a D ?b w f),@(?c (?p (VI w (f ?a)))),@(?b2 ?a=?c (?Z ?b)),@((?a (?rO)).take (?fO ?b7 ?b7 hi-?rO)),@(⟨?h ?a,H,?fU,?b,q⟩),@(PW X (?bT .Or ?a pos) ?b),@(⟨(hs.2 p.1 ?a).trans e,n,ne,nf,d⟩),@(fun i H x H'=>H'=H/\∀xs,?a->?aF),@(A.under (?Z ?DC ⟨?o4::?a,kw⟩)),@((∃c d,?w7)/\?gB i1 a ?a/\?gB i2 b ?b),@((?kH:∀j,j<?a->∀i,i<j->?b) j hj i h),@(((∃xs,SqL K H1 a xs))->(R ?a H1)->?b),@(⟨_,?a,?b⟩),@(show s.heap.IsTuple ?a ?L from p),@(fun σ H R=>tl σ H fun x H1=>?a),@(RcAt A s ?bV (?c7) (eqD (?a) (?b es))),@(PG X (?q6 es k pos) (Am8 ?a n t)),@(Bv P w K mg ?aH Ei ?a f fd ps sp),@(?c { cls:=?b3,data:=?aC #[] ?a }),@(?a<s.heap.objs.size),@(fun acc C=>?MY ?i X.A ?m ?a ?b acc C),@(F2 k (?nM (?uJ ?aQ ?a ?u f Dp))),@(?m4 ?a e it ?b old),@(⟨?a,H1,I1,rfl,q1⟩),@(∀x c,?dJ->c≠?a),@(qu0 (Kq ?a hg hm hv ?_ hn hdb)),@(fun q=>hb (q▸ ?a)),@(Un (?k2) ?a H H' ?B ?b),@(?tL (fun x=>?q ?a)),@(?f ?i X.A ?a Q E s),@((i8 cells l acc).lookup ?a=?bD),@((cA h H).get? b=?a),@((?o1 (?vY ?a 0).toNat []).getD ?b 0),@(∀ys τ H,Pv ?a ys τ H->Q H),@(∀p,?O8->Q ?bJ (upd H1 p ?a)),@(∀[?bL][?S] (i:Nat),?bA->?O ?a ?b),@(by subst hK;exact(?a).imp ?EK),@(show y=?a from hy),@(show x=?a from hx),@(PT X (?nR a [op] [b] pos) (?a ?b)),@(?a ?cH ?qH m ?b=_),@(?a ?aB X.w X.K ?d1 ?c3 ?b ps j sp),@(St->?V5 Hp (?a)),@((∀p,?cN->Q ?bJ (?VJ p ?a))->?b),@(∀[?J] (D:Ends),?A->?KJ->?UU (?a st ?g) (SP X Ac D)),@(W.fnOf ?V ?aQ params ?gR ?e0 dV kV doc pm an Dp ?a),@(?A->?gC->?UU ?a (?b X Ac σ Q)),@(?aS ?a ?g),@(fun xs H Q=>∃i j,xs=?x6/\Q (?h ?a) H),@(∀i x ys τ H,?aF->?cS->g x τ H ?a),@(fun ys hy=>by rw[?a hy hq];exact hx),@(fun b u q n _=>by rw[An ?a];exact n),@(PE X (?UY o []) (IX C m sp ?a ?b ta RT)),@(PE X (?UY o ?bQ) (IX C m sp ?a ?b ta t)),@(fun i j=>?h ?a),@((?VI ?a)\/?b),@(?cN->g ?bJ ?a (?VJ p (?K [?t,x])) ?b),@(?aO (?b0 ?a ?V apos) ?bQ [] cpos),@(∀l,?q8->Q (?k l) (?VJ l ?a)),@(fun b o _ hb _ e n=>?XE ?a ?N),@(?a9 (i8 ?q9 ?a ?b)),@(fun u s₂=>?f ?i X.A ?a ?b ?m s₂),@(by rw[hk];exact(?YB I' ?a)),@(?a=true),@(∀p ys,?n4->((?vB\/?w1))->?a->?b),@(?c (?eO (?hL) ?a)),@(fun v s₁=>?f ?i X.A (?yG) (?ZO ?a ?b) ?m ?dN)])
theorem O9m{p:Prop}(h:p:=by omega):p:=h
def qa0:=@List.getElem?_eq_getElem
def qa1:=@List.getD_eq_getElem?_getD
def qa2:=@Nat.le_refl
def qa3:=@List.length_map
def qa4:=@List.getElem?_eq_some_iff
def qa5:=@Nat.le_trans
def qa6:=@PySem.Heap.get?_push_of_some
def qa7:=@PySem.wpAny_bind
def qa8:=@Nat.zero_le
def qa9:=@List.length_append
def qb0:=@List.mem_cons_of_mem
def qb1:=@List.mem_cons_self
def qb2:=@List.getElem?_map
def qb3:=@Int.natAbs_mul
def qb4:=@Nat.lt_of_lt_of_le
def qb5:=@List.getElem?_append_left
def qb6:=@Option.some.inj
def qb7:=@List.mem_of_getElem?
def qb8:=@List.map_append
def qb9:=@List.getElem?_append_right
def qc0:=@Nat.mul_le_mul_right
def qc1:=@Nat.lt_of_le_of_lt
def qc2:=@PySem.Heap.lt_size
def qc3:=@PySem.Heap.get?_push_size
def qc4:=@Int.natAbs_neg
def qc5:=@List.mem_cons
def qc6:=@PySem.PassesOwn.never
def qc7:=@Int.mul_zero
def qc8:=@List.map_cons
def qc9:=@List.length_cons
def qd0:=@List.size_toArray
def qd1:=@Int.one_mul
def qd2:=@Bool.and_eq_true
def qd3:=@List.length_take
def qd4:=@Int.mul_assoc
def qd5:=@List.mem_range
def qd6:=@Int.toNat_natCast
def qd7:=@List.mem_map
def qd8:=@Nat.ne_of_lt
def qd9:=@Nat.le_of_lt
def qe0:=@List.length_replicate
def qe1:=@Bool.false_ne_true
def qe2:=@PySem.wpAny_pure
def qe3:=@of_decide_eq_true
def qe4:=@Nat.pow_add
def qe5:=@List.getElem_mem
def qe6:=@Nat.mul_le_mul_left
def qe7:=@List.length_range
def qe8:=@Int.mul_comm
def qe9:=@List.mem_singleton
def qf0:=@Int.natAbs_add_le
def qf1:=@Nat.pow_le_pow_right
def qf2:=@List.all_eq_true
def qf3:=@Nat.mul_le_mul
def qf4:=@Nat.one_mul
def qf5:=@Nat.add_mul
def qf6:=@decide_eq_true
def qf7:=@Nat.lt_or_ge
def qf8:=@List.length_filter_le
def qf9:=@List.getElem?_eq_none
def qg0:=@List.take_length
def qg1:=@List.filter_append
def qg2:=@PyProof.Rows.callWith_type1
def qg3:=@PySem.F.plainAttrs_list
def qg4:=@Int.zero_mul
def qg5:=@Decidable.byContradiction
def qg6:=@List.getElem?_of_mem
def qg7:=@Nat.le_add_right
def qg8:=@List.mem_append_right
def qg9:=@Int.fdiv_eq_ediv_of_nonneg
def qh0:=@List.replicate_succ
def qh1:=@PySem.boot_len
def qh2:=@Int.natAbs_ediv_le_natAbs
def qh3:=@Nat.pow_succ
def qh4:=@Nat.pow_lt_pow_right
def qh5:=@List.mem_replicate
def qh6:=@Nat.sub_self
def qh7:=@Nat.le_of_not_lt
def qh8:=@List.take_succ
def qh9:=@List.length_drop
def qi0:=@Nat.le_mul_of_pos_right
def qi1:=@Int.eq_ofNat_of_zero_le
def qi2:=@List.pairwise_cons
def qi3:=@List.getElem?_take
def qi4:=@PySem.wpAny_field
def qi5:=@Int.mul_le_mul_of_nonneg_left
def qi6:=@PySem.wpAny_setField_rec
def qi7:=@PySem.W.mg_none_of
def qi8:=@List.getElem?_range
def qi9:=@Int.mul_ediv_cancel_left
def qj0:=@PySem.Heap.size_push
def qj1:=@Nat.le_antisymm
def qj2:=@List.nodup_cons
def qj3:=@List.length_set
def qj4:=@PyProof.Rows.TI.same
def qj5:=@Nat.succ_le_succ
def qj6:=@List.length_eraseIdx_of_lt
def qj7:=@Option.map_eq_some_iff
def qj8:=@List.getElem_of_mem
def qj9:=@List.append_assoc
def qk0:=@Int.mul_one
def qk1:=@Int.le_of_dvd
def qk2:=@decide_eq_false
def qk3:=@Int.mul_le_mul_of_nonneg_right
def qk4:=@PySem.wpAny_truthy_bool
def qk5:=@Int.emod_lt_of_pos
def qk6:=@Nat.lt_of_not_le
def qk7:=@List.filter_cons
def qk8:=@List.getElem?_replicate
def qk9:=@Int.zero_add
def ql0:=@Int.mul_nonneg
def ql1:=@List.flatten_cons
def ql2:=@beq_eq_false_iff_ne
def ql3:=@List.mem_append
def ql4:=@Nat.one_le_two_pow
def ql5:=@List.map_map
def ql6:=@List.getElem?_set_ne
def ql7:=@PySem.F.type_list_append
def ql8:=@PySem.F.slot_list_append
def ql9:=@List.range_succ
def qm0:=@List.mem_filter
def qm1:=@List.length_nil
def qm2:=@List.find?_cons
def qm3:=@Int.emod_nonneg
def qm4:=@Nat.le_of_eq
def qm5:=@Int.add_zero
def qm6:=@List.mem_map_of_mem
def qm7:=@Nat.le_mul_of_pos_left
def qm8:=@List.take_of_length_le
def qm9:=@PySem.wpAny_call_entry
def qn0:=@Nat.ne_of_gt
def qn1:=@List.nil_append
def qn2:=@List.append_nil
def qn3:=@Bool.eq_iff_iff
def qn4:=@PySem.wpAny_seqItems
def qn5:=@Nat.lt_trichotomy
def qn6:=@PySem.Calls.callWith_builtin
def qn7:=@PySem.wpAny_pyIter_tuple
def qn8:=@PySem.wpAny_passesOwn
def qn9:=@List.mem_or_eq_of_mem_set
def qo0:=@List.drop_eq_getElem_cons
def qo1:=@Int.natAbs_lt_natAbs_of_nonneg_of_lt
def qo2:=@Classical.byContradiction
def qo3:=@List.any_eq_true
def qo4:=@PySem.mem_of_lookup
def qo5:=@Int.neg_neg
def qo6:=@Int.neg_mul
def qo7:=@PySem.F.slot_tuple_iterator_next
def qo8:=@PySem.W.kia_one
def qo9:=@Nat.lt_irrefl
def qp0:=@Nat.add_sub_cancel_left
def qp1:=@List.filter_nil
def qp2:=@List.any_cons
def qp3:=@Int.dvd_mul_of_dvd_left
def qp4:=@PySem.wpAny_mono
def qp5:=@List.getElem?_set_self
def qp6:=@List.filter_eq_nil_iff
def qp7:=@decide_eq_true_eq
def qp8:=@Nat.le_succ
def qp9:=@List.ext_getElem?
def qq0:=@Int.gcd_dvd_right
def qq1:=@PySem.W.methodCall_KW
def qq2:=@PySem.Calls.spliced_cons
def qq3:=@Nat.mul_lt_mul''
def qq4:=@List.lookup_cons
def qq5:=@Nat.add_le_add_right
def qq6:=@Nat.add_assoc
def qq7:=@Int.dvd_trans
def qq8:=@Nat.lt_two_pow_self
def qq9:=@List.of_mem_zip
def qr0:=@List.filter_eq_self
def qr1:=@List.cons.injEq
def qr2:=@Int.mul_eq_zero
def qr3:=@Int.add_mul
def qr4:=@PySem.F.slot_enumerate_next
def qr5:=@Bool.or_eq_true
def qr6:=@Nat.mul_lt_mul_of_pos_left
def qr7:=@Nat.le_of_mul_le_mul_right
def qr8:=@PySem.W.callWith_K
def qr9:=@Nat.sub_zero
def qs0:=@List.getElem?_drop
def qs1:=@PySem.Calls.evalArgs_plain
def qs2:=@Bool.false_eq_true
def qs3:=@Nat.le_of_mul_le_mul_left
def qs4:=@Int.eq_of_mul_eq_mul_left
def qs5:=@PySem.F.type_list_insert
def qs6:=@PySem.F.slot_list_insert
def qs7:=@List.take_add_one
def qs8:=@List.pairwise_map
def qs9:=@List.getElem?_set
def qt0:=@List.foldl_append
def qt1:=@Int.not_lt
def qt2:=@Int.dvd_mul_of_dvd_right
def qt3:=@PySem.F.plainAttrs_dict
def qt4:=@List.getElem?_cons_succ
def qt5:=@List.filter_cons_of_pos
def qt6:=@List.filter_cons_of_neg
def qt7:=@Int.mul_pos
def qt8:=@Int.mul_add
def qt9:=@Int.dvd_of_emod_eq_zero
def qu0:=@PySem.wpAny_Call_Name_kw
def qu1:=@Nat.succ_ne_self
def qu2:=@List.getElem_map
def qu3:=@Int.gcd_dvd_left
def qu4:=@Int.fmod_nonneg_of_pos
def qu5:=@PySem.wpAny_pyIter_list
def qu6:=@PySem.wpAny_pyIter_enum
def qu7:=@PySem.F.slot_dict_pop
def qu8:=@PySem.F.slot_dict_get
def qu9:=@Nat.zero_add
def qv0:=@Nat.lt_trans
def qv1:=@List.length_singleton
def qv2:=@List.filter_map
def qv3:=@Int.natAbs_dvd_natAbs
def qv4:=@Int.le_trans
def qv5:=@PySem.wpAny_holding
def qv6:=@PySem.W.mg_of
def qv7:=@List.replicate_succ'
def qv8:=@PySem.wpAny_pyIter_zip
def qv9:=@List.drop_zero
def qw0:=@PySem.W.plainGet_of
def qw1:=@PySem.F.slot_dict_itemiterator_iter
def qw2:=@Nat.add_le_add_left
def qw3:=@List.map_congr_left
def qw4:=@List.filter_sublist
def qw5:=@List.filterMap_cons
def qw6:=@PySem.wpAny_execs_nil
def qw7:=@Nat.add_sub_cancel
def qw8:=@List.map_take
def qw9:=@List.map_drop
def qx0:=@Int.fmod_lt_of_pos
def qx1:=@PySem.F.slot_zip_next
def qx2:=@beq_iff_eq
def qx3:=@List.replicate_append_replicate
def qx4:=@List.nodup_append
def qx5:=@List.filter_congr
def qx6:=@Int.mul_left_comm
def qx7:=@Nat.pow_zero
def qx8:=@Nat.min_self
def qx9:=@Nat.add_comm
def qy0:=@List.map_nil
def qy1:=@Int.dvd_refl
open PySem in
noncomputable abbrev LLInt:=?r (?bC)
open PySem in
noncomputable abbrev Bg:=?r (?C0)
open PySem in
noncomputable abbrev Qr:=?hR (?l8)
open PySem in
noncomputable abbrev OAddr:=?bH ?gN
namespace L2
open PySem PySem.Spec PyProof.Rows
noncomputable abbrev Key:=Sum Int Str
def aF:Key->?aJ->?cF
 | ?j k,v=>Value.isInt k v
 | ?iL,v=>Value.isStrOf x v
def A29(w:World):Key->Int
 | ?j k=>hashInt k
 | ?iL=>hashStr w x
theorem Do:∀{k:Key}{v:Value},aF k v=true->(∃i t,k=?oY i/\v=Value.int i t)\/(∃x t,k=?qN x/\v=Value.str x t)
 | ?pZ,v,h=>by
   obtain⟨t,e⟩:=Value.isInt_shape (k:=i) (v:=v) h;exact ?j ⟨i,t,rfl,e⟩
 | ?iL,v,h=>by
   obtain⟨t,e⟩:=Value.isStrOf_shape (x:=x) (v:=v) h;exact ?n ⟨x,t,rfl,e⟩
theorem lV(i:Int)(t:Tok):aF (?pZ) ?oJ=true:=by simp[aF,Value.isInt]
theorem LU(x:Str)(t:Tok):aF (?iL) ?ET=true:=by simp[aF,Value.isStrOf]
theorem YJ(a b:Int):?q (?LP)=(a==b):=by
 by_cases e:a=b
 . subst e;simp
 . have h:¬?LP:=fun q=>e (Sum.inl.inj q);rw[qk2 h];exact(ql2.mpr e).symm
theorem yI(a b:Str):?q (?GO)=?q (a=b):=by
 by_cases e:a=b
 . subst e;simp
 . have h:¬?GO:=fun q=>e (Sum.inr.inj q);rw[qk2 h,qk2 e]
theorem yJ(a:Int)(b:Str):?q (?HX=?qN b)=false:=qk2 (fun q=>nomatch q)
theorem YI(a:Str)(b:Int):?q (?E0=?oY b)=false:=qk2 (fun q=>nomatch q)
def mixKind[?AY]:PySem.KeyKind prog w Key where
 is:=aF
 hash:=A29 w
 inj:=fun v a b ha hb=>by
  rcases Do ha with⟨i,t,rfl,rfl⟩|⟨x,t,rfl,rfl⟩
  . ext TH
    . injection e with e1 _;rw[e1]
    . exact ?oP
  . ext TH
    . exact ?oP
    . injection e with e1 _;rw[e1]
 byValue:=fun k v h=>by
  rcases Do h with⟨i,t,rfl,rfl⟩|⟨x,t,rfl,rfl⟩<;>rfl
 pyHash:=fun hv h=>by
  rcases Do hv with⟨i,t,rfl,rfl⟩|⟨x,t,rfl,rfl⟩
  . exact wpAny_pyHash_int h
  . exact wpAny_pyHash_str h
 eqBool:=fun hu hv h=>by
  rcases Do hu with⟨i,t,rfl,rfl⟩|⟨x,t,rfl,rfl⟩
  . ext T6
    . rw[YJ]at h;exact wpAny_eqBool_int h
    . rw[yJ]at h;exact SeqAt.EqAt.int_str i t y u _ _ _ _ h
  . ext T6
    . rw[YI]at h;exact SeqAt.EqAt.str_int x t j u _ _ _ _ h
    . rw[yI]at h;exact wpAny_eqBool_str h
 «strs»:=fun k x t v h=>by
  rcases Do h with⟨i,u,rfl,e⟩|⟨y,u,rfl,e⟩
  . exact ?oP
  . injection e with e1 _;subst e1;cases v<;>rfl
theorem EN[?AY](i:Int)(t:Tok):?HT (?pZ) ?oJ=true:=lV i t
theorem eN[?AY](x:Str)(t:Tok):?HT (?iL) ?ET=true:=LU x t
set_option genInjectivity true in
inductive V where
 | non | bl (b:Bool) | int (i:Int) | str (x:Str) | byt (b:?PT) | flt (b:UInt64) | ref [?aU] | ty (n:String)
 deriving DecidableEq
noncomputable abbrev rS[?aU]:?k5:=?c ?bV
noncomputable abbrev iS(i:Int):?k5:=?c (?t)
def RelV:?V5 V ?aJ
 | ?x,u=>?wV
 | ?c6,u=>u=?iE b
 | ?t,u=>?H3
 | ?e6,u=>?QT
 | .byt b,u=>?OJ
 | .flt b,u=>?IZ
 | ?aM,u=>?kI
 | .ty n,u=>u=Value.type n
noncomputable abbrev Vals:?V5 ?o ?w:=?jK ?c0
theorem Vals.length[?bL][?S](r:?bA):xs.length=us.length:=Paired.length r
theorem Vals.get:∀[?bL][?S]{i:Nat}{x:V},?bA->?aF->∃u,us[i]?=?M/\?bU
 | _,_,_,_,?s,e=>?wZ
 | _,_,0,_,?H r _,e=>by simp at e;subst e;exact ?OA
 | _,_,i+1,x,?nS,e=>by
   obtain⟨u,h1,h2⟩:=Vals.get (i:=i) (x:=x) t (?hM);exact⟨u,?qS,h2⟩
theorem Vals.set{x:V}[?aL](r:?bU):?YY (xs.set i x) (us.set i u)
 | _,_,_,?s=>?s
 | _,_,0,?nS=>?iU
 | _,_,i+1,?H q t=>?H q (Vals.set r i t)
theorem Vals.append:∀[?mX]{us ws:?w},?bA->?O ys ws->?O (xs++ys) (us++ws)
 | _,_,_,_,?s,s=>s
 | _,_,_,_,?iU,s=>?H r (?CN t s)
theorem Vals.take:?XO xs.take us.take
 | _,_,0,_=>?s
 | _,_,_+1,?s=>?s
 | _,_,n+1,?iU=>?H r (Vals.take n t)
theorem Vals.drop:?XO ?tY us.drop
 | _,_,0,r=>r
 | _,_,_+1,?s=>?s
 | _,_,n+1,?nS=>Vals.drop n t
def N6:?V5 ?k5 ?l8
 | ?C,?M=>?cT
 | none,none=>True
 | _,_=>False
def KV{κ:Type}:?r (κ × V)->?r (?HE)->Prop:=?jK fun(p:κ × V) (q:?HE)=>p.1=q.1/\?c0 p.2 q.2
def kV:Key->V
 | ?pZ=>?t
 | ?iL=>?e6
inductive HO where
 | lst [?a6]
 | tup [?a6]
 | dK (kvs:?r (Key × V)) | dT (kvs:?r (?NY))
 | set (S:?OT) (n:Nat)
 | ins (C dx:Addr) (fs:?cD)
 | own (x:Addr)
 | xd (fs:?cD)
 | met (f x:Addr)
 | rng (lo hi:Int)
 | frz (o:Obj) (u:HO)
 | tbl (ps:?dS)
 | ext (φ:?lS)
noncomputable abbrev Hp:=?gN->?zA
def upd(H:Hp)[?aU](o:HO):Hp:=fun b=>if b=a then ?l else H b
theorem Ab{H:Hp}[?U]{o:HO}:upd H a o a=?l:=by unfold upd;rw[?Q rfl]
theorem An{H:Hp}{a b:Addr}{o:HO}(h:b≠a):upd H a o b=H b:=by unfold upd;rw[?hH]
theorem E3{H:Hp}{a b:Addr}{o u:HO}(h:?m3)(h':?y8)(d:o≠u):a≠b:=by
 intro e;subst e;rw[h]at h';exact d (qb6 h')
theorem At{H:Hp}{a b:Addr}{o:HO}(h:?m3)(h':?Y):a≠b:=by
 intro e;subst e;rw[h]at h';cases h'
def Pl[?bN][?aU](items:?dS):Prop:=∃o,?pC/\?wL/\?wN/\∃n,o.data=?aC ?lI n
theorem Pl.tup[?aN][?U][?UG]:IsTup h a ?lI:=let ⟨o,e,c,_,d⟩:=x;⟨o,e,c,d⟩
theorem Pl.lt[?aN][?U][?UG]:?z5:=x.tup.lt
theorem Pl.new[?bN](items:?dS):Pl (h.push { cls:=?dU,data:=?aC ?lI }) ?L4 ?lI:=?EZ
section
variable[?d5]
def ObjOk(H:Hp)[?bN][?aU]:HO->Prop
 | ?p xs=>?eI/\∃(its:?w) (n:Nat),?hU/\?bW=?w3
 | ?K xs=>?eI/\∃its:?w,?hU/\Pl h a ?L
 | .dK kvs=>?FG/\?QI/\∃vs,KV kvs vs/\h.DictOf (mixKind P w) a vs
 | .dT kvs=>?FG/\?QI/\∃xs:?r (?N1),
    ?jK (fun(p:?NY) (q:?N1)=>p.1=q.1/\H q.2.1=?c (?K (p.1.map kV))/\?c0 p.2 q.2.2) kvs xs ∧
    ∃o es ep,?pC/\o.ExactDict/\?CP/\es.toList=?oC (entryOfKey (tupleKind (mixKind P w)))/\(?oC (·.1)).Nodup
 | ?MD=>h.SetOf (intKind P w) a S n
 | ?uH=>?QB/\?G6/\dx≠a/\?bW=?c (?q3 C dx) ∧
    ∃mA,?vI/\(?tK)/\?vZ mA (?pH (·.1))
 | .own _=>?CW
 | .xd fs=>∃mA,h.Ns1 a mA/\?tK
 | .rng lo hi=>∃t u v,?bW=?c ?tR
 | ?FC=>?pC/\?bO H h a u
 | .tbl ps=>?bW=?WI ps
 | .met f x=>?bW=?c (?z2 ?c5 ?iQ)
 | .ext φ=>φ h/\(?CW)/\∀h1 h2:Heap,φ h1->(∀o,?nE a=?l->h2.get? a=?l)->φ h2
def Qo(H:Hp)[?bN]:Prop:=∀a o,?m3->?tS
universe e9
section
variable[?t0][?dB]{h h':Heap}[?U]{o:HO}
theorem ObjOk.lt(x:?tS):?z5:=by
 cases o with
 | lst xs=>obtain⟨_,_,_,_,e⟩:=x;ext b9
 | tup xs=>obtain⟨_,_,_,p⟩:=x;exact p.lt
 | dK kvs=>obtain⟨_,_,_,_,o,_,_,e,_⟩:=x;ext b9
 | dT kvs=>obtain⟨_,_,_,_,o,_,_,e,_⟩:=x;ext b9
 | set S n=>obtain⟨o,_,_,_,e,_⟩:=x;ext b9
 | ins C dx fs=>obtain⟨_,_,_,e,_⟩:=x;ext b9
 | own y=>obtain⟨_,e⟩:=x;ext b9
 | xd fs=>obtain⟨_,⟨_,_,_,e,_⟩,_⟩:=x;ext b9
 | rng lo hi=>obtain⟨_,_,_,e⟩:=x;ext b9
 | frz ob u=>obtain⟨e,_⟩:=x;ext b9
 | tbl ps=>exact qc2 (show ?bW=?c _ from x)
 | met f y=>exact qc2 (show ?bW=?c _ from x)
 | ext φ=>obtain⟨_,⟨_,e⟩,_⟩:=x;ext b9
theorem Paired.mapP{α β:Type}{F G:?V5 α β}:∀{l₁:?hJ}{l₂:?r β},?jK F l₁ l₂->(∀a b,F a b->G a b)->?jK G l₁ l₂
 | _,_,?s,_=>?s
 | _,_,?iU,f=>?H (f _ _ r) (?DY t f)
theorem ObjOk.stay(x:?tS)(k:∀b u,(b=a\/H b=?oN)->?wW)
 (ho:∀b,H b=?oN->?hO=?oN) (ht:?p1):?bO P w H' h' a o:=by
 induction o with
 | lst xs=>obtain⟨z,its,n,r,e⟩:=x;exact⟨z,its,n,r,?bS⟩
 | tup xs=>obtain⟨z,its,r,ob,e,c⟩:=x;exact⟨z,its,r,ob,?bS,c⟩
 | dK kvs=>obtain⟨z,y,vs,r,ob,es,ep,e,c⟩:=x;exact⟨z,y,vs,r,ob,es,ep,?bS,c⟩
 | dT kvs =>
   obtain⟨z,y,xs,r,ob,es,ep,e,c⟩:=x;exact⟨z,y,xs,?DY r fun p q z=>⟨z.1,ht _ _ z.2.1,z.2.2⟩,ob,es,ep,?bS,c⟩
 | set S n=>obtain⟨ob,es,ep,t,e,c⟩:=x;exact⟨ob,es,ep,t,?bS,c⟩
 | ins C dx fs =>
   obtain⟨d,z,ne,e,mA,⟨od,es,ep,e2,c⟩,r⟩:=x;exact⟨ho _ d,z,ne,?bS,mA,⟨od,es,ep,k _ _ (?n d) e2,c⟩,r⟩
 | own y=>obtain⟨ob,e⟩:=x;exact⟨ob,?bS⟩
 | xd fs=>obtain⟨mA,⟨od,es,ep,e,c⟩,r⟩:=x;exact⟨mA,⟨od,es,ep,?bS,c⟩,r⟩
 | rng lo hi=>obtain⟨t,u,v,e⟩:=x;exact⟨t,u,v,?bS⟩
 | frz ob u ih=>obtain⟨e,q⟩:=x;exact⟨?bS,ih q⟩
 | tbl ps =>
   have e:?bW=?WI ps:=x;show ?gK a=?WI ps;exact ?K8
 | met f y =>
   have e:?bW=?c (?z2 ?c5 (?k y)):=x;show ?gK a=?c (?z2 ?c5 (?k y));exact ?K8
 | ext φ=>obtain⟨p,⟨o,e⟩,st⟩:=x;exact⟨st _ _ p fun o q=>k _ _ ?dC q,⟨o,?bS⟩,st⟩
theorem Qo.lt[?mW](e:?m3):?z5:=(x a o e).lt
theorem Qo.fresh[?mW](e:?wI):?kQ:=by
 cases q:H a with
 | none=>rfl
 | some u=>exact ?W4 (x.lt q) e
theorem Qo.kept[?mW][?sB]:Qo P w H h':=fun a o e =>
 (x a o e).stay (fun b u _ q=>?oK) (fun _ q=>q) ?kP
theorem Qo.laid[?mW][?sB](hp:?wI)(new:?bO P w ?k8 h' a o):Qo P w ?k8 h':=fun b u e=>by
 have hn:=x.fresh hp;by_cases hb:b=a
 . subst hb;rw[Ab]at e;cases e;exact new
 . rw[An hb]at e;exact(x b u e).stay (fun c v _ q=>k c v q) (fun c q=>?rL) fun c xs q=>?rL
universe e9
def Rd(H:Hp)[?aU](u:HO):Prop:=H a=?M\/∃o,H a=?uP
theorem Rd.ok[?t0]{H:Hp}[?aN][?U]{u:HO}(r:Rd H a u)[?mW]:?bO P w H h a u:=by
 rcases r with r|⟨o,r⟩
 . exact x a u r
 . obtain⟨_,q⟩:=x a _ r;exact q
def Mut:?zA->Prop
 | ?c (?n3)=>True
 | ?c (.dK _)=>True
 | ?c (.dT _)=>True
 | ?c (.set _ _)=>True
 | ?c (.ins _ _ _)=>True
 | ?c (.ext _)=>True
 | _=>False
section
variable[?t0]{H:Hp}{h h':Heap}{x e:Addr}{o':HO}
theorem Qo.write(ok:?x0)[?S1]
 (new:?bO P w (?VJ x o') h' x o'):Qo P w (?VJ x o') h':=fun b u q=>by
 have Ah9:∀c y,H c=?c (.own y)->c≠x:=fun c y r z=>?KX
 have A00:∀c xs,H c=?qQ->c≠x:=fun c xs r z=>?KX
 by_cases hb:b=x
 . subst hb;rw[Ab]at q;cases q;exact new
 . rw[An hb]at q;by_cases YS:b=e
   . have q':H b=?c (.own x):=by
      rcases he with z | z
      . exact ?v (YS.trans z) hb
      . rw[YS];exact z
     rw[q]at q';cases q';obtain⟨v,hv⟩:=ZW;exact⟨v,by rw[YS];exact hv⟩
   . refine(ok b u q).stay (fun c v hc r=>k c v ?_ r) (fun c r=>by rw[An (Ah9 c b r)];exact r) fun c xs r=>by rw[An (A00 c xs r)];exact r
     rcases hc with rfl | hc
     . exact YS
     . rintro rfl;rcases he with z | z
       . exact Ah9 c b hc z
       . rw[hc]at z;cases z;exact hb rfl
universe e9
structure Un(fs ex:?X)(H H':Hp)(h h':Heap):Prop where
 keep:∀b o,?dX->?Y->b ∉ fs->?lP->?nL
 slot:∀b o,?dX->?Y->b∈fs->?lP->?CV
 free:∀b o,?dX->?Y->?lP->?s0
 there:∀b o,?dX->?lP->?HA
 tups:?p1
 frzs:?tP
 tbls:?JT
section
variable{fs fs' ex ex':?X}{H H1 H2:Hp}{h h1 h2 h':Heap}{a x e:Addr}{o:HO}
theorem Un.any(u:?X7 H1 h1){b:Addr}{ob:Obj}(q:?oX=?c ob)(n:?Y)(hx:?lP):∃sl,?nE b=?c { ob with slots:=sl }:=by
 by_cases hb:b∈fs
 . exact u.slot b ob q n hb hx
 . exact⟨?KR,?w4 b ob q n hb hx⟩
theorem Un.kept[?sB]:?X7 H h' :=
 ⟨fun b ob q _ _ _=>?vP,fun b ob q _ _ _=>⟨?KR,?vP⟩,fun _ _ _ n _=>n,fun b ob q _=>⟨ob,?vP⟩,?kP,fun _ _ _ q=>q,fun _ ps q=>⟨#[],?tJ⟩⟩
theorem Un.refl:?X7 H h:=?xS ?kP
theorem Un.laid[?sB](hp:?wI)(hn:?kQ):?X7 ?k8 h' where
 keep:=fun b u q _ _ _=>?oK
 slot:=fun b u q _ _ _=>⟨u.slots,?oK⟩
 free:=?ZE (?X5 (qc2 q) hp)
 there:=fun b u q _=>⟨u,?oK⟩
 tups:=fun b xs q=>?rL
 frzs:=fun b u xs q=>?rL
 tbls:=?X2 (At q hn)
theorem Un.write[?S1]:Un fs ex H (?VJ x o) h h':=by
 have hx:∀b,?Y->b≠x:=fun b n z=>by subst z;rw[n]at mu;exact mu
 have hb:∀b,?Y->?qE:=fun b n z=>by
  subst z;rcases he with r | r
  . exact hx b n r
  . rw[n]at r;cases r
 have hm:∀b u,?y8->¬Mut (?M)->b≠x:=fun b u q nm z=>by subst z;rw[q]at mu;exact nm mu
 refine⟨fun b u q n _ _=>?NK,fun b u q n _ _=>⟨u.slots,?NK⟩,?ZE (hx b n),fun b u q _=>?_,
  fun b xs q=>?LN,fun b u xs q=>?LN,?X2 (hm b _ q fun z=>z)⟩
 by_cases YS:b=e
 . subst YS;exact ZW
 . exact⟨u,k b u YS q⟩
universe e9
def trk[?bN](H:Hp):?X:=(?fV ?L4).filter fun a=>(H a).isSome
def cA[?bN](H:Hp):Heap:=PySem.W.hideAll h (trk h H)
theorem MA[?bN](H:Hp):(cA h H).objs.size=h.objs.size:=PySem.W.hideAll_size _ _
theorem PM[?aN]{H:Hp}[?jD](e:?dX)(n:?Y):?YU ?l :=
 PySem.W.hideAll_get _ e fun hm=>by
  have q:(H b).isSome=true:=(qm0.mp hm).2;rw[n]at q;simp at q
theorem TF[?aN]{H:Hp}[?jD](e:?YU ?l):?dX/\?Y:=by
 have e':h.get? b=some o:=PySem.W.of_hideAll (trk h H) e;refine⟨e',?_⟩;cases q:H b with
 | none=>rfl
 | some x =>
   have hm:b∈trk h H:=qm0.mpr ⟨qd5.mpr (qc2 e'),by simp[q]⟩;have z:?YU none:=PySem.W.hideAll_none (trk h H) hm;rw[z]at e;cases e
structure Mod[?e][?h1]:Prop where
 kin:?O7
 glob:?u5
 blt:∃mb,base.Ns ?N5 mb/\?D3
 nolimit:base.NoLimit
structure Cx where
 prog:Program
 w:World
 K:PySem.W.Frag
 mg:?bZ
 base:Heap
 A:Around
 N:?E
 s₀:Shared
 H₀:Hp
 env:Env
 outer:?cJ
 stack:?cJ
 ex:?X
 fn:Str->?cF
 calm:Bool
 pn:Bg
 xe:?gI
def nC(l:?cJ):?X:=l.filterMap (·.frame)
noncomputable abbrev Cx.fs(X:Cx):?X:=nC ?o7
def Vis(sc:Scope)(x:Str):Prop:=?jM x=?dM\/?yM\/?jM x=?cK
def WB(sc:Scope)(x:Str):Prop:=?M8
def Be7(env:Env)[?bN](m:?bZ)(x:Str)[?dA]:Prop :=
 (?p6 x=?dM/\m x=?M)\/((?p6 x=?aR\/?p6 x=?cK)/\∃c,?vT x=?bD/\h.IsCell c (?M))
structure Cx.Ok(X:Cx):Prop where
 mod:?BH
 kind:X.env.scope.kind=?i1
 glob:X.env.globals=mainGlobals
 blt:X.env.builtins=builtinsNs
 above:?V8 X.env.locals
 inj:∀x y c,?dJ->?qB y=?bD->x=y
 has:∀x,(?GP)->∃c,?dJ
 cab:∀x c,?zP->?dJ->?V8 c
 hd:?qU->?DQ
 frames:X.A.frames=?c ?g2
 stk:X.stack=X.outer\/(X.stack=X.env::X.outer/\X.env.frame=?c ?pT)
 exf:∀b∈X.ex,?hT/\?LD
 bs:∀b o,?kX->?yF/\?D1
 bsz:X.base.objs.size<=X.s₀.heap.objs.size
 noex:∀b o,?kX->?QP
 exfs:∀b∈X.ex,?oA
 funs:?GJ ?c3 ?o7
 frf:∀b∈X.fs,?D1
structure Bj[?cA](σ:?yY)(H:Hp)[?bM]:Prop where
 ok:X.Ok
 os:s.os=X.s₀.os
 bare:?J0
 base:Un X.fs X.ex X.H₀ H X.s₀.heap ?B
 loc:∃m,?I4/\∀(i:Nat) (x:Str) (v:V),?hX->?LW->?qD->∃u,?cT/\Be7 ?g ?B m x u
 cell:∀x c,?dJ->∃v,?qK c v
 free:?XW ?pT
 freeC:∀x c,?dJ->?XW c
 pin:∀p∈?zG,?RI
 hok:Qo ?aB X.w H ?B
 len:σ.length=X.N.length
section
variable[?tC]{σ:?yY}[?dB][?aT]{h':Heap}
theorem Cx.Ok.nofr(ok:X.Ok)[?jD](e:?kX):?oA:=fun hb=>by
 have:=(ok.funs.mem hb).1;rw[e]at this;cases this
theorem Bj.bs[?d]:∀b o,?kX->?HC:=fun b o e =>
 ⟨?pF b o (?r9).1 (?r9).2 (I.ok.nofr e) (?wF b o e),?iV b o (?r9).1 (?r9).2 (?wF b o e)⟩
theorem Bj.bk[?d]:∀b o,?kX->?cR:=fun b o e=>(I.bs b o e).1
theorem Bj.mod[?d]:?BH:=I.ok.mod
theorem Bj.kIn[?d]:X.K.In ?B:=I.ok.mod.kin.keeps I.bk
theorem Bj.lt[?d]:?YI X.env.locals:=let (?YB hn _):=I.loc;hn.lt
theorem Bj.sz[?d]:?V8 s.heap.objs.size:=qa5 ?q0 (qd9 I.lt)
theorem Bj.nofs[?d][?U](h:?K2):a ∉ X.fs:=fun hb=>by
 obtain⟨_,o,ho,_⟩:=I.ok.funs.mem hb;exact ?W4 (qc2 ho) (qa5 I.sz h)
theorem Bj.cne[?d]:?YN X.env.locals:=fun x c e z=>by
 obtain⟨v,o,ho,hd⟩:=?q2;obtain⟨m,⟨o',es,ep,ho',hd',_⟩,_⟩:=I.loc;rw[z,ho']at ho;cases ho;rw[hd']at hd;cases hd
theorem Bj.funs[?d]:?pG ?c3 ?o7:=by
 have all:∀(l:?cJ),(∀b∈nC l,?PM)->?GJ ?c3 l->?pG ?c3 l:=by
  intro l
  induction l with
  | nil=>intro _ _;trivial
  | cons env r ih =>
    intro hs hl;obtain⟨hk,⟨L,o,hf,hn,ho,hd⟩,hr⟩:=hl;have hL:L∈X.fs:=hs L (by unfold nC;rw[qw5,hf];exact qb1);obtain⟨sl,e⟩:=?KF L o ho (?LR L hL) hL fun z=>?CL L z hL;exact⟨hk,⟨L,_,hf,hn,e,hd⟩,ih (fun b hb=>hs b (by unfold nC;rw[qw5,hf];exact ?DI)) hr⟩
 exact all ?o7 (fun _ hb=>hb) I.ok.funs
theorem Bj.stack[?d]:?pG ?c3 ?g2:=by
 rcases I.ok.stk with e|⟨e,hf⟩
 . rw[e];exact I.funs
 . rw[e];obtain⟨m,hn,_⟩:=I.loc;refine ?H (by rw[I.ok.kind];decide) hf hn ?_ I.funs;exact Heap.get?_none_of_le (qa5 ?vN ?q0)
theorem Bj.stkSub[?d]:∀b∈?k2,b∈X.env.locals::X.fs:=fun b hb=>by
 rcases I.ok.stk with e|⟨e,hf⟩
 . rw[e]at hb;exact ?DI
 . rw[e]at hb;unfold nC at hb;rw[qw5,hf]at hb;exact hb
theorem Bj.stkFree[?d]:∀b∈?k2,?Y:=fun b hb=>by
 rcases ?lU (?GX b hb) with e | hb
 . rw[e];exact I.free
 . obtain⟨_,o,ho,_⟩:=I.ok.funs.mem hb;exact ?iV b o ho (?LR b hb) fun z=>?CL b z hb
theorem Bj.step[?TR][?d]
 [?zW]
 (keep:∀b o,?hT->?oA->?kZ->?cR->?Y->?nL)
 (slot:∀b o,?hT->?PM->?kZ->?cR->?Y->?CV) (free:∀b o,?kZ->?cR->?Y->?s0)
 (there:∀b o,?kZ->?cR->?HA)
 (tups:?p1) (frzs:?tP) (tbls:?JT)
 (ns:∀m,?I4->h'.Ns ?pT m) [?AU] (hg:?qW g') :
 ?LF:=by
 have neL:∀b o,?yF->?hT:=fun b o e=>?X5 ?dF ?q0
 have neC:∀b o,?yF->?QP->?kZ:=fun b o e hx hb=>by
  rcases (hch b hb).1 with z | z
  . exact hx z
  . exact ?W4 ?dF z
 have cellK:∀x c,?dJ->∀v,?qK c v->h'.IsCell c v:=fun x c e v ?xZ=>by
  have nch:c ∉ ch:=?G3;by_cases hc:c∈X.fs
  . obtain⟨sl,q⟩:=?X0 slot;exact(?YB q hd)
  . exact⟨o,?X0 keep,hd⟩
 refine⟨I.ok,?h8,hg,⟨?qI,?qI,fun b o e n hx=>?_,?OP,fun b xs e=>tups b xs (?QG b xs e),fun b o xs e=>frzs b o xs (?PE b o xs e),fun b ps e=>?_⟩,?_,?IX,?_,?IX,?vK,hok,?nA⟩
 . exact keep b o (neL b o e) hb ?p8 (?XE ?pF hx) (?iV b o e n hx)
 . ext A8;obtain⟨sl',e2⟩:=slot b _ (neL b o e) hb ?p8 e1 (?iV b o e n hx);exact⟨sl',e2⟩
 . ext s9;exact free b o' ?p8 e1 (?iV b o e n hx)
 . ext s9;exact there b o' ?p8 e1
 . obtain⟨m1,e1⟩:=?K1 b ps e;obtain⟨m2,e2⟩:=tbls b _ e1;exact⟨m1++m2,by rw[e2,Array.append_assoc]⟩
 . obtain⟨m,hn,hl⟩:=I.loc;refine⟨m,ns m hn,?F5⟩;obtain⟨u,r,l⟩:=hl i x v e1 e2 e3;refine ?P4;rcases l with l|⟨k,c,e,z⟩
   . exact ?j l
   . exact ?n ⟨k,c,e,cellK x c e _ z⟩
 . obtain⟨v,z⟩:=?q2;exact⟨v,cellK x c e v z⟩
 . obtain⟨m,⟨o,_,_,ho,_⟩,_⟩:=I.loc;exact free _ o (?NQ) ho ?e2
 . obtain⟨v,o,ho,hd⟩:=?q2;exact free c o (?G3) ho (?d0 x c e)
 . ext AE;have nch:p.1 ∉ ch:=fun z=>(hch p.1 z).2.2.2 p hp rfl;exact⟨keep p.1 p.2 ne nf nch e n,free p.1 p.2 nch e n,ne,nf,d⟩
theorem Bj.un[?e5][?d](u:Un X.fs [] H H' ?B h')[?AU]:?V1 H' ?jI:=by
 ext TY;obtain⟨sl,hL⟩:=u.any ho ?e2 ?N
 exact ?nW (g':=s.gens) (d':=s.drawn) (ch:=[]) (fun _ z=>?PK) (?ZM ?w4) (?ZM u.slot) (fun b o _ e n=>u.free b o e n ?N) (fun b o _ e=>u.there b o e ?N) u.tups u.frzs u.tbls (fun m' hm=>by
  ext SA) hok ?bX
theorem Bj.call[?TR][?d](u:?YQ ch h')[?AU](hg:?qW g')
 [?zW] :
 ?LF:=by
 ext TY;obtain⟨sl,hL⟩:=u.any ho ?e2 ?NQ
 exact ?nW (ch:=ch) hch (fun b o hL hb hc e n=>?w4 b o e n (fun z=>(?zJ).elim hL hb) hc) (fun b o _ _ hc e n=>u.any e n hc) (fun b o hc e n=>u.free b o e n hc) (fun b o hc e=>u.there b o e hc) u.tups u.frzs u.tbls (fun m' hm=>by
  ext SA) hok hg
theorem Bj.turned[?e5]{it:Addr}[?d](k:∀b o,?GU)(hn:?XW it)(hL:it≠X.env.locals)
 (h1:it∈X.ex\/?V8 it) (h2:?YN it) (h3:∀p∈?zG,p.1≠it):?uT:=by
 have nit:∀b u,?y8->b≠it:=fun b u e z=>by rw[z,hn]at e;cases e
 refine ?nW (g':=s.gens) (d':=s.drawn) (ch:=[it]) (?g4) (?WC ?uL) (?WC ⟨?x7,?uL⟩) (fun _ _ _ _ n=>n)
  (fun b o hc e=>⟨o,?uL⟩) (fun _ _ e=>e) (fun _ _ _ e=>e) (fun b ps e=>⟨#[],by rw[e];simp⟩) (fun m hm=>?_) (fun b u e=>?_) ?bX
 . ext sK
   subst e;exact⟨h1,hL,h2,h3⟩
 . obtain⟨o,es,ep,ho,r⟩:=hm;exact⟨o,es,ep,k _ o (?lH hL) ho,r⟩
 . refine ?LU (fun c v hc q=>k c v ?_ q) (fun _ q=>q) ?kP;rcases hc with z | z
   . rw[z];exact nit b u e
   . exact nit c _ z
theorem Bj.tok[?d](t:Nat):Bj X Ac σ H { s with toks:=t }:=I.un (h':=s.heap) (t':=t) Un.refl ?b6
theorem Bj.kept[?e5][?d][?U3]:?uT:=I.un (?xS k) (I.hok.kept k)
theorem Bj.laid[?U]{o:HO}[?e5][?d][?U3](hp:?K2)(new:?bO ?aB X.w ?k8 h' a o) :
 ?V1 ?k8 ?jI:=I.un (Un.laid k hp (?iW hp)) (?OB k hp new)
theorem Bj.write{x e:Addr}{o:HO}[?e5][?d](mu:?RA)(he:?CH)(k:∀b u,?qE->?CO)(ZW:?R9)
 (new:?bO ?aB X.w (?VJ x o) h' x o):?V1 (upd H x o) ?jI:=I.un (Un.write mu he k ZW) (I.hok.write mu he k ZW new)
theorem Bj.pins_of{vG:Bg}[?d](h:∀p∈vG,?RI):Bj X vG σ H s :=
 ⟨I.ok,?h8,?bX,?yO,?lE,?eB,?e2,?d0,fun p hp=>?O5 (fun z=>?i5 p (?M4 _ z)) (h p),?b6,?nA⟩
theorem eK{N:?E}(hN:N.Nodup){i j:Nat}{x:Str}(a:N[i]?=?c4)(b:N[j]?=?c4):i=j:=by
 obtain⟨h1,e1⟩:=?fP a;obtain⟨h2,e2⟩:=?fP b;exact(List.getElem_inj hN).mp (e1.trans e2.symm)
theorem v5{M:Model}[?D][?a0][?fG]{v:V}[?aL][?mO][?d][?s8][?fK]
 (h:∀s',?IK->(∃a,?lV a ?B ?dH/\(a=X.env.locals\/?M9))->?u1) [?gY]:?MT:=by
 obtain⟨m,hn,hl⟩:=id ?lE;have hcls:(X.env.scope.kind==.class || (X.env.scope.kind==.module&&X.env.locals != X.env.globals))=false:=by rw[I.ok.kind];rfl
 have hiσ:i<σ.length:=by rw[I.len];exact ?yH
 have cne:=I.cne
 have tracked:∀[?U]{h':Heap},(∃o,?aP a=?l/\?kQ)->?lV a ?B h'->Qo ?aB X.w H h':=fun {a h'} ha hs b ob e=>by
  obtain⟨_,_,hfree⟩:=ha;refine(?b6 b ob e).stay (fun c w' hc q=>(hs.2 c ?_).trans q) (fun _ q=>q) ?kP;rintro rfl;rcases hc with rfl | hc
  . rw[hfree]at e;cases e
  . rw[hfree]at hc;cases hc
 rcases hx with hk | hk
 . refine wpAny_storeName_local hk hn (fun h' hn' hs=>?_) hcls;obtain⟨oL,_,_,hoL,_⟩:=id hn;refine h _ ⟨I.ok,?h8,?bX,?KO,(?YB hn' ?BT),fun y c e=>?_,?e2,?d0,?vK,tracked ⟨oL,hoL,?e2⟩ hs,?IS⟩ (?YB hs ?pN)
   . exact ?vV (?XE ?pF hx)
   . ext A8;exact⟨sl,?vV e1⟩
   . ext s9;exact⟨o',?vV e1⟩
   . by_cases hj:j=i
     . ext SY;exact⟨u,r,?WT hk ?aE⟩
     . ext S8;rcases q with⟨k,e⟩|⟨k,c,e,z⟩
       . refine ?WT k ?_;have:y≠x:=fun e=>hj (eK hN e1 (e▸hi));simp[this,e]
       . exact ?n ⟨k,c,e,?O1⟩
   . obtain⟨w',z⟩:=?eB y c e;exact⟨w',?O1⟩
   . ext AE;exact(?Y5 ne)
 . have hfn:?zP:=by
    rcases hf with z | z
    . exact z
    . rw[z]at hk;cases hk
   obtain⟨c,hc⟩:=I.ok.has x (?j hk);obtain⟨w',z⟩:=?eB x c hc;refine wpAny_storeName_cell ?i0 hk hc z (fun h' hc' hs=>?_);obtain⟨oc,hoc,A51⟩:=id z;refine h ?iI ⟨I.ok,?h8,?bX,?KO,⟨m,?CF hs (?lH (cne x c hc)),?BT⟩,fun y c' e=>?_,?e2,?d0,?vK,tracked ⟨oc,hoc,?d0 x c hc⟩ hs,?IS⟩ ⟨c,hs,?n hc⟩
   . exact ?z0 (?XE ?pF hx)
   . ext A8;exact⟨sl,?z0 e1⟩
   . ext s9;exact⟨o',?z0 e1⟩
   . by_cases hj:j=i
     . ext SY;exact⟨u,r,?n ⟨?j hk,c,hc,hc'⟩⟩
     . ext S8;rcases q with q|⟨k,c',e,z'⟩
       . exact ?j q
       . refine ?n ⟨k,c',e,z'.sameBut hs ?_⟩;rintro rfl;exact hj (eK hN e1 (?I5 _ _ _ e hc▸hi))
   . by_cases hcc:c'=c
     . subst hcc;exact⟨_,hc'⟩
     . obtain⟨w2,z2⟩:=?eB y c' e;exact⟨w2,z2.sameBut hs hcc⟩
   . ext AE;refine(?Y5 ?_);intro q;rw[q,hoc]at e;have q':oc=p.2:=qb6 e;exact d w' (by rw[←q'];exact A51)
theorem DI{M:Model}[?D][?a0][?fG]{v:V}[?aL][?mO][?d][?s8][?fK]
 (h:∀s',?IK->?u1) [?gY]:?MT :=
 v5 I hN hi hx r (fun s' I' _=>h s' I') hf
theorem Bj.call'{s':Shared}{ch:?X}[?d](ho:?xM)(u:?YQ ch ?dH)(hok:?B9)(hg:?lD)
 [?zW]:?pV:=by
 obtain⟨h',g',d',t',o'⟩:=s';have e:o'=s.os:=ho;subst e;exact I.call (g':=g') (t':=t') (d':=d') u hok hg hch
universe e9
noncomputable abbrev XK:=?aJ->OAddr->?a2
noncomputable abbrev St:=?yY
noncomputable abbrev VK:=?eQ
noncomputable abbrev TE:=St->?rY
noncomputable abbrev TT:=?Z5 ?L0
noncomputable abbrev TA:=?Z5 ?x2
structure Ends where
 nx:?F
 rt:VK
 bk:?F:=?gW
 ct:?F:=?gW
noncomputable abbrev TS:=Ends->?F
inductive EP[?cA](σ:St)(Q:VK)[?dA][?cB]:Prop
 | mk (v:V) [?sO] [?fK] (q:?m6):?RH
inductive TP[?cA](σ:St)[?j9](b:Bool)[?cB]:Prop
 | mk [?sO] (q:Q b H'):TP X Ac σ Q b s'
inductive AP[?cA](σ:St)(Q:?x2)[?d7][?cB]:Prop
 | mk [?e4] [?sO] [?tA] (q:Q vs H'):AP X Ac σ Q us s'
inductive NP[?cA](N:?F)[?cB]:Prop
 | mk [?UC] (q:?rZ):?X4 N
inductive HP[?cA](σ:St)(Q:?a2)[?cB]:Prop
 | mk [?sO] (q:Q H'):?FE
inductive YP[?cA](σ:St)[?dA](Y:?eQ)(T:Prop)[?t7](s2:Shared):Prop
 | mk (x:V) (H':Hp) (i:?JE) (r:?bU) (y:Y x H') (t:T) (f:?CC):YP X Ac σ u Y T fp s2
inductive RP[?cA](Q:VK)[?dA][?cB]:Prop
 | mk (v:V) [?UC] [?fK] (q:?m6):RP X Ac Q u s'
def SP[?cA](D:Ends)(f:Flow)[?cB]:Prop :=
 match f with
 | .next=>?X4 ?hQ
 | .brk=>?X4 D.bk
 | .cont=>?X4 D.ct
 | .ret u=>RP X Ac D.rt u s'
def PE(X:Cx)(e:Expr)(t:TE):Prop :=
 ∀[?J] (Q:VK),?A->?gC->?UU (?eH) ?bE
def PT(X:Cx)(e:Expr)(t:TT):Prop :=
 ∀[?J] [?j9],?Z9 (?vC e ?g (?eH)) TP
def PW(X:Cx)(e:Expr)(t:TT):Prop :=
 ∀(whole:Sem ?aJ) [?J] [?j9],?Z9 (?I6) TP
theorem PW.pt{X:Cx}{e:Expr}{t:TT}(h:PW X e t):PT X e t:=h _
def PA(X:Cx)(es:?eL)(t:TA):Prop :=
 ∀(pos:Pos) [?J] (Q:?x2),?Z9 (spliced (?u9)) AP
def PS(X:Cx)(st:Stmt)(t:TS):Prop :=
 ?Z7 exec
def FZ(X:Cx)(st:?e7)(t:TS):Prop :=
 ?Z7 execs
theorem Dh[?h7]{t:Sem α}{Q Q':α->?i7}{M:Model}[?D][?a0][?aT](h:?VE M t)(hQ:∀a s,Q a s->Q' a s):?f M A t Q' E s:=qp4 h hQ fun _ _ x=>x
section
variable{X:Cx}
theorem bin[?B2][?fA][?mJ]{R:V->?eQ}[?d][?U0]
 [?h7]{Q:α->?i7}{f:?aJ->?aJ->Sem α}
 [?S3] :
 ?P8:=by
 ext TN;ext bK;ext RY
inductive wD(i:Nat)(σ:St)[?d9]:Prop
 | mk:∀v,(?LW)->(Q v H)->?JS
def Ad8(i:Nat):TE:=fun σ H Q=>?JS
def tC(v:V):TE:=?XB v
theorem xO[?fG][?T](hN:?hX)(hv:?qD)[?j2][?U2]:?HP:=by
 ext R;obtain⟨v,e,h⟩:=h;obtain⟨m,hn,hl⟩:=I.loc;obtain⟨u,r,l⟩:=hl i x v hN e hv;have fin:?W3 u s:=?uC
 rcases l with⟨hk,hm⟩|⟨hk,c,hc,hcell⟩
 . exact ?w9 (wpAny_loadName_local ?i0 hk hn hm fin) hd
 . rcases hk with hk | hk
   . exact ?w9 (wpAny_loadName_cell ?i0 hk hc hcell fin) hd
   . exact ?w9 (wpAny_loadName_free ?i0 hk hc hcell fin hcd) hd
theorem Am{i j pos}:?W2 (?t) (?t):=?VT wpAny_Constant_int ⟨?t,H,?fU,?g8,h⟩
theorem Ou{b j pos}:?W2 (?cO b) (?c6):=?VT Constant_bool ⟨?c6,H,I,rfl,h⟩
theorem gQ{j pos}:?W2 ?aI ?x:=?VT Constant_none ⟨?x,H,I,rfl,h⟩
theorem Nc{x j pos}:?W2 (?e6) (?e6):=?VT Calls.Constant_str ⟨?e6,H,?fU,?g8,h⟩
def Gl(X:Cx)(x:Str):Prop:=?kD x=?c .globalImplicit
theorem Wj[?a0][?mJ]{x:Str}[?aL][?T][?fB][?d][?UQ](h:Q u s)
 [?j2]:?JA :=
 ?DN ?i0 hg (Calls.loadGlobal_global (?WY I.bk) hm h) hd
theorem Kq[?a0][?mJ]{x:Str}[?aL][?T][?fB][?d][?TK](h:Q u s)
 [?sM] [?j2]:?JA:=by
 obtain⟨mb,h1,h2⟩:=I.mod.blt;exact ?DN ?i0 hg (Calls.loadGlobal_builtin (?WY I.bk) hm (by rw[I.ok.blt];exact h1.keeps I.bk) ((h2 x hn).trans hv) h) hd
theorem Js{x:Str}{v:V}[?aL][?T][?UQ][?fK][?j2]:?L9 :=
 fun _ _ _ H _ I h=>Wj I hg hm ?uC hd
theorem Ig{x:Str}{v:V}[?aL][?T][?TK][?fK][?sM][?j2]:?L9 :=
 fun _ _ _ H _ I h=>Kq I hg hm hv ?uC hn hd
variable[?B2][?T]
def PC(X:Cx)(op:CmpOp)(a b:Expr)(t:TE):Prop :=
 ∀[?J] (Q:VK),?A->?gC →
   ?UU (?uX) (?ZT (?b4 op v u) ?bE)
theorem OQ(b:Expr){op:CmpOp}(h:?LJ)(h2:?DE):?nU:=by
 ext SE
 ext SC
 cases b<;>simp[behindInMarks,e1,e2]
inductive ItB[?j9](x:V)(H1:Hp):Prop
 | mk:∀c,?pJ->(Q c H1)->?BR
def tB(t:TE):TT:=?UW t ?BR
theorem Az6{op:CmpOp}{t:TE}(h:PC X op a b t)(h1:?nU:=by first | exact OQ _ ?bF ?bF | rfl):?Z2 tB t:=by
 intro Ac s σ H Q I hw;refine ?BK (Dh (?V3 h hw) fun v s1 h1=>Dh h1 fun u s2 h2=>Dh h2 fun c s3 _z=>?_) h1;ext bK;ext SX
theorem Ga{e:Expr}{t:TE}(h:?WG e t)(he:∀whole,?I6=(do let v ←whole;?yV e.pos;?lQ [v] (truthy v)):=by intro _;rfl):PT X e (tB t):=by
 intro Ac s σ H Q I hw;refine isTrue_plain (Dh (?V3 h hw) ?gG) (he _);ext bK;ext SX
variable{tA tB':TT}{rest:?eL}
def Ay3(t u:TT):TT:=fun σ H Q=>t σ H fun c H1=>if ?k0 then ?N8 else Q ?cL H1
def tOr(t u:TT):TT:=fun σ H Q=>t σ H fun c H1=>if ?k0 then Q ?cP H1 else ?N8
def Ay0(t:TT):TT:=fun σ H Q=>t σ H ?JO
theorem JG[?mV]:?XV [a] tA:=by
 intro wh Ac s σ H Q I h;refine isTrue_and (Dh (ha Ac s σ H Q I h) fun c s1 e=>?_);cases c with
 | true=>exact isTrue_and_nil e
 | false=>exact e
theorem bM[?mV]:?Y4 [a] tA:=by
 intro wh Ac s σ H Q I h;refine isTrue_or (Dh (ha Ac s σ H Q I h) fun c s1 e=>?_);cases c with
 | false=>exact isTrue_or_nil e
 | true=>exact e
theorem nZ[?mV](hb:?XV (b::rest) tB'):?XV (a::b::rest) (Ay3 tA tB'):=by
 intro wh Ac s σ H Q I h;refine isTrue_and (Dh (ha Ac s σ H _ I h) fun c s1 _z=>?_);obtain⟨H1,I1,q1⟩:=_z;cases c with
 | true=>exact ?PX
 | false=>exact ?q7
theorem DU[?mV](hb:?Y4 (b::rest) tB'):?Y4 (a::b::rest) (tOr tA tB'):=by
 intro wh Ac s σ H Q I h;refine isTrue_or (Dh (ha Ac s σ H _ I h) fun c s1 _z=>?_);obtain⟨H1,I1,q1⟩:=_z;cases c with
 | true=>exact ?q7
 | false=>exact ?PX
theorem Gv[?mV]:PT X (?wG .Not a pos) (Ay0 tA):=by
 ext R;exact isTrue_not (Dh (ha Ac s σ H (?JO) I h) fun c s1 ?q7=>?q7)
inductive QT(tb:TE)(σ:St)[?jA]:Prop
 | mk:∀c,?pJ->(if ?k0 then ?tE else Q (?qT) H1)->?KC
def Ae8(ta tb:TE):TE:=?UW ta ?KC
inductive WD(tb:TE)(σ:St)[?jA]:Prop
 | mk:∀c,?pJ->(if ?k0 then Q (?lY) H1 else ?tE)->?KH
def Ax9(ta tb:TE):TE:=?UW ta ?KH
inductive QS[?jA]:Prop
 | mk:∀c,?pJ->(Q (?QZ) H1)->?CM
def Ae2(ta:TE):TE:=?UW ta ?CM
theorem Nd{op}{t:TE}(h:?WG a t):?WG (?bT op [a] pos) t:=?WQ BoolOp_one
theorem Lu[?t8](hb:?WG (?bT .And (b::rest) pos) tb):?WG (?bT .And (a::b::rest) pos) (Ae8 ta tb):=by
 intro Ac s σ H Q I h;refine BoolOp_and (Dh (ha Ac s σ H _ I h) fun v s1 _z=>?_);obtain⟨x,H1,I1,r1,q1⟩:=_z;obtain⟨c,rfl,q1⟩:=q1;cases r1;refine qk4 ?_;cases c with
 | true=>ext AL
 | false=>exact(?YM ?qT)
theorem Ah0[?t8](hb:?WG (?bT .Or (b::rest) pos) tb):?WG (?bT .Or (a::b::rest) pos) (Ax9 ta tb):=by
 intro Ac s σ H Q I h;refine BoolOp_or (Dh (ha Ac s σ H _ I h) fun v s1 _z=>?_);obtain⟨x,H1,I1,r1,q1⟩:=_z;obtain⟨c,rfl,q1⟩:=q1;cases r1;refine qk4 ?_;cases c with
 | false=>ext AL
 | true=>exact(?YM ?lY)
theorem OD[?t8]:?WG (?wG .Not a pos) (Ae2 ta):=by
 ext R;refine ?O3 (?QS);ext bK;obtain⟨c,rfl,q1⟩:=q1;cases r1;exact not_of (qk4 (?YM ?QZ))
def tIf(t:TT)(ta tb:TE):TE:=fun σ H Q=>t σ H fun c H1=>if ?k0 then ta σ H1 Q else ?tE
theorem Xz{c:Expr}(hc:PT X c tA)[?fA]:?WG (.IfExp c a b pos) (tIf tA ta tb):=by
 intro Ac s σ H Q I h;refine wpAny_IfExp (Dh (hc Ac s σ H _ I h) fun d s1 _z=>?_);obtain⟨H1,I1,q1⟩:=_z;cases d with
 | true=>exact ?V2 ha Q
 | false=>ext AL
universe e9
def SqL[?e](H:Hp)[?aU][?a6]:Prop :=
 Rd H a ?lZ ∨
  ∃(o:Obj) (its:?dS) (n:Nat),?I3/\o.cls=?b3/\?JW
def SqT[?e](H:Hp)[?aU][?a6]:Prop :=
 Rd H a ?qG ∨
  ∃(o:Obj) (its:?dS) (n:Nat),?I3/\?wL/\?JW
def Ba3:?aJ->?k5
 | ?aI=>?c ?x
 | ?cO b=>?c (?c6)
 | ?h i _=>?c (?t)
 | ?bB x _=>?c (?e6)
 | .bytes b _=>?c (.byt b)
 | .float b _=>?c (.flt b)
 | ?aM=>?c ?bV
 | ?aG n=>?c (.ty n)
 | _=>none
theorem RelV.abs{x:V}[?aL](r:?bU):Ba3 u=?c4:=by
 cases x with
 | non=>cases r;rfl
 | bl _=>cases r;rfl
 | int _=>ext fD;rfl
 | str _=>ext fD;rfl
 | byt _=>ext fD;rfl
 | flt _=>ext fD;rfl
 | ref _=>cases r;rfl
 | ty _=>cases r;rfl
theorem RelV.inj{x y:V}[?aL](r:?bU)(q:?kG):x=y:=qb6 (r.abs.symm.trans q.abs)
theorem Vals.inj:∀[?mX][?S],?bA->?O ys us->xs=ys
 | _,_,_,?s,?s=>rfl
 | _,_,_,?iU,?H r' t'=>by rw[?qX,Vals.inj t t']
section
variable{X:Cx}[?y][?U][?mX]
theorem SqL.of[?P](h:H a=?xF):?dQ:=?j (?j h)
theorem SqT.of[?P](h:H a=?qQ):?dG:=?j (?j h)
theorem Bj.list[?d](h:?GK):∃its:?w,?hU/\PlainL ?B a ?L/\?eI:=by
 rcases h with h|⟨o,its,n,hk,hc,hd,hs,hz,r⟩
 . obtain⟨z,its,n,r,e⟩:=?FY;exact⟨its,r,⟨_,n,e,rfl,rfl,rfl⟩,z⟩
 . refine⟨?uO,r,⟨o,n,?GR,hc,hd,?ER⟩,?_⟩;ext SV
theorem Bj.tuple[?d][?B7]:∃its:?w,?hU/\IsTup ?B a ?L/\?eI:=by
 rcases h with h|⟨o,its,n,hk,hc,_,hs,hz,r⟩
 . obtain⟨z,its,r,p⟩:=?FY;exact⟨its,r,p.tup,z⟩
 . refine⟨?uO,r,⟨o,?GR,hc,n,?ER⟩,?_⟩;ext SV
theorem Bj.list_inj[?d](h:?GK)(h':?QJ):xs=ys:=by
 obtain⟨its,r,⟨o,n,e,_,_,d⟩,_⟩:=?aX h;obtain⟨its',r',⟨o',n',e',_,_,d'⟩,_⟩:=?aX h';ext S0
 subst this;exact ?qX
theorem Bj.tuple_inj[?d][?B7](h':SqT X.K H a ys):xs=ys:=by
 obtain⟨its,r,⟨o,e,_,n,d⟩,_⟩:=?eZ h;obtain⟨its',r',⟨o',e',_,n',d'⟩,_⟩:=?eZ h';ext S0
 subst this;exact ?qX
universe e9
noncomputable abbrev Cx.wish(X:Cx)[?mM]:Cx:={ X with xe:=E }
noncomputable abbrev Cx.nox(X:Cx):Cx:=X.wish ?gW
theorem Cx.Ok.wish{X:Cx}(ok:X.Ok)[?mM]:?LA :=
 ?KK
theorem Cx.Ok.unwish{X:Cx}[?a0](ok:?LA):X.Ok :=
 ?KK
section
variable{X:Cx}[?y][?a0]
theorem Bj.wish[?d][?mM]:?H5:=⟨I.ok.wish E,?h8,?bX,?yO,?lE,?eB,?e2,?d0,?i5,?b6,?nA⟩
theorem Bj.unwish(I:?H5):?A:=⟨I.ok.unwish,?h8,?bX,?yO,?lE,?eB,?e2,?d0,?i5,?b6,?nA⟩
theorem SP.unwish{D:Ends}{f:Flow}{s':Shared}(h:SP (X.wish E) Ac D f s'):SP X Ac D f s':=by
 cases f with
 | next=>ext A4
 | brk=>ext A4
 | cont=>ext A4
 | ret u=>obtain⟨v,σ',H',I,r,q⟩:=h;exact⟨v,σ',H',?E1,r,q⟩
theorem FZ.nox{st:?e7}{t:TS}(h:FZ X.nox st t):FZ X st t:=fun Ac s σ H D I hw =>
 qp4 (h Ac s σ H D (I.wish _) hw) (fun _ _ q=>q.unwish) fun _ _ z=>?dY z
universe e9
section
variable{X:Cx}{st:Stmt}{rest:?e7}{t u:TS}[?t6][?T]
def Ae3:TS:=fun D σ H=>?bP
def Ap(t u:TS):TS:=fun D σ H=>t { D with nx:=u D } σ H
theorem Bs:FZ X [] Ae3:=fun _ _ σ H _ I h=>qw6 ?HQ
theorem Af(h1:?JC)(h2:FZ X rest u):FZ X (st::rest) (Ap t u):=by
 intro Ac s σ H D I h;refine wpAny_execs_cons (Dh (h1 Ac s σ H { D with nx:=u D } I h) fun f s1 q=>?_);cases f with
 | next =>
   obtain⟨σ',H',I',q⟩:=q;exact h2 Ac s1 σ' H' D I' q
 | ret v=>exact q
 | brk=>exact q
 | cont=>exact q
theorem Ak(h1:?JC):FZ X [st] t:=by
 intro Ac s σ H D I h;refine wpAny_execs_cons (Dh (h1 Ac s σ H D I h) fun f s1 q=>?_);cases f with
 | next=>exact qw6 q
 | ret v=>exact q
 | brk=>exact q
 | cont=>exact q
theorem Bj.quiet[?y][?d]:interactive ?g=false:=by simp[interactive,I.ok.kind]
def Ae5(te:TE):TS:=fun D σ H=>te σ H fun _ H1=>?G0
theorem Bx[?h5](hs:?l1 e ?a3 ?kF ?g=?kB:=by rfl):PS X (.Expr e pos) (Ae5 te):=by
 ext h3;exact wpAny_Expr_any (Dh ?fR fun v s1 ?kW=>⟨σ,H1,I1,q1⟩) I.quiet hs
def Ax8(te:TE):TS:=fun D σ H=>te σ H D.rt
theorem Bb[?h5]:PS X (.Return (?c e) pos) (Ax8 te):=by
 ext h3;exact wpAny_Return_some (Dh ?fR fun v s1 ?kW=>⟨x,σ,H1,I1,r1,q1⟩)
def RU(c:TT)(t u:TS):TS:=fun D σ H=>c σ H fun b H1=>if ?lW then t D σ H1 else u D σ H1
theorem Cf{c:Expr}{a b:?e7}{tc:TT}(hc:?J9)(ha:FZ X a t)(hb:FZ X b u):PS X (.If c a b pos) (RU tc t u):=by
 intro Ac s σ H D I h;refine wpAny_If (Dh (hc Ac s σ H _ I h) fun d s1 _z=>?_);obtain⟨H1,I1,q1⟩:=_z;cases d with
 | true=>exact ?V2 ha D
 | false=>exact ?V2 hb D
def WY:TS:=?hC
theorem Sh:PS X st WY:=fun _ _ _ _ _ _ h=>h.elim
universe e9
noncomputable abbrev TG:=V->?Z5 ?F
noncomputable abbrev rJ:=?o->?Z5 ?F
def PG(X:Cx)(target:Expr)(t:TG):Prop :=
 ∀[?J] (v:V) [?dA] (Q:?F),?A->?cT->t v σ H Q →
   ?UU (?eO target ?g u) (fun _ s'=>NP X Ac Q s')
def PGs(X:Cx)(ts:?eL)(t:rJ):Prop :=
 ∀[?J] [?e4] [?d7] (Q:?F),?A->?g6->t vs σ H Q →
   ?f ?i X.A (assignInOrder ((?oH ts ?g).map (·.2)) us) (fun _ s'=>?X4 Q) ?m s
noncomputable abbrev zI:=V->V->V->?V5 Hp (?a2)
def Ap2(X:Cx)(t:zI):Prop :=
 ∀[?J] (o i v:V) (ov iv u:Value) (Q:?a2),?A->?c0 o ov->?c0 i iv->?cT->t o i v H Q →
   ?UU (setItem ov iv u) (fun _ s'=>?FE)
section
variable{X:Cx}[?T]
def Y4(i:Nat):TG:=fun v σ H Q=>Q (σ.set i (?C)) H
theorem SQ[?fG][?s8][?gY]:?CD:=by
 intro Ac s σ H v u Q I r h;exact ?NO (DI I hN hi hx r (fun s' I'=>⟨_,H,I',h⟩) hf)
theorem Ar[?fG](hN:X.N.Nodup)[?T7][?gY]:?CD:=SQ hN hi hx hf
structure Aq2[?e4][?AP]:Prop where
 mk::(left:?nZ) (right:Q σ H)
def A91:rJ:=fun vs σ H Q=>Aq2 vs σ H Q
inductive QY(t:TG)(u:rJ)[?e4][?AP]:Prop
 | mk:∀v r,(vs=v::r)->(t v σ H fun σ' H'=>u r σ' H' Q)->?OX
def Am9(t:TG)(u:rJ):rJ:=fun vs σ H Q=>?OX
theorem Da:PGs X [] A91:=by
 intro Ac s σ H vs us Q I r h;obtain⟨e,h⟩:=h;subst e;cases r;exact assignInOrder_nil ?HQ
theorem Bh{e:Expr}[?a5]{t:TG}{u:rJ}(h1:PG X e t)(h2:PGs X es u)
 (hs:(?oH ?bQ ?g).map (·.2)=?eO e ?g::(?yU).map (·.2):=by rfl):PGs X ?bQ (Am9 t u):=by
 intro Ac s σ H vs us Q I r h;obtain⟨v,vr,e1,h⟩:=h;subst e1;cases r with
 | cons r rr =>
   rw[hs];refine assignInOrder_cons (Dh (h1 Ac s σ H _ _ _ I r h) fun _ s1 _z=>?_);obtain⟨σ1,H1,I1,q1⟩:=_z;exact h2 Ac s1 σ1 H1 _ _ Q I1 rr q1
inductive wK[?e](n:Nat)(t:rJ)(v:V)[?AP]:Prop
 | mk:∀a xs,(?eS)->(?dG)->(xs.length=n)->(t xs σ H Q)->?FR
def Am8[?e](n:Nat)(t:rJ):TG:=fun v σ H Q=>?FR
theorem XN[?a5]{k:Nat}{t:rJ}{n:Nat}[?d6](h:?Q5)
 [?U8] (hst:?R7 (·.1)=none:=by rfl):?YF X.K:=by
 intro Ac s σ H v u Q I r hw;obtain⟨a,xs,e1,hq,hl,hw⟩:=hw;subst e1;cases r;obtain⟨its,rv,ht,hz⟩:=?gX;refine assign_Tuple_tuple ?dE ht (by simp[hn,←hl,rv.length]) hst fun h' hx=>?_;have I1:?vJ:=?lX (t':=s.toks) fun b o e=>hx b o (qd8 ?dF) e;exact h Ac _ σ H xs _ Q I1 (?DR) hw
def A90(to ti:TE)(t:zI):TG:=fun v σ H Q=>to σ H fun o H1=>ti σ H1 fun i H2=>t o i v H2 fun H3=>Q σ H3
theorem Kn{o i:Expr}{to ti:TE}{t:zI}(ho:?E7)(hi:?WG i ti)(hs:Ap2 X t)
 (ha:∀v,?eO (?r0 o i pos) ?g v=(do
   let ov ←?lQ [v] (?gF)
   let iv ←?lQ [v,ov] (?ZA i)
   ?yV pos
   ?lQ ?JX (setItem ov iv v)
   release ?JX []):=by intro _;rfl):PG X (?r0 o i pos) (A90 to ti t):=by
 intro Ac s σ H v u Q I r h;rw[ha];refine qa7 (qv5 (Dh (?V3 ho h) fun ov s1 _z=>?_));ext bK;refine qa7 (qv5 (Dh (?V2 hi _) fun iv s2 _z=>?_));obtain⟨y,H2,I2,r2,q2⟩:=_z;refine ?XT ?vH (qv5 (Dh (hs Ac s2 σ H2 x y v ov iv u _ I2 r1 r2 r q2) fun _ s3 _z=>?_));obtain⟨H3,I3,q3⟩:=_z;exact wpAny_release ⟨σ,H3,I3,q3⟩
def nQ(te:TE)(g:TG):TS:=fun D σ H=>te σ H fun x H1=>g x σ H1 ?hQ
theorem Hx{tg e:Expr}{te:TE}{g:TG}[?h5](hg:?LE)(hs:swapsWithSole [tg] e ?kF ?g=?kB:=by rfl)(hw:swappedStores [tg] e ?g=?a9 ?a3:=by rfl)
 (h1:(?oH [tg] ?g).map (·.2)=[?eO tg ?g]:=by rfl):PS X (?lJ [tg] e pos) (nQ te g):=by
 ext h3;refine wpAny_Assign_stores (Dh ?fR ?gG) hs hw;ext bK;rw[h1];exact Dh (hg Ac s1 σ H1 x v _ I1 r1 q1) fun _ s2 q=>q
theorem NZ[?fG][?t6]{pos':Pos}[?s8][?h5][?SS][?gY] :
 ?D9:=by
 ext h3;refine wpAny_Assign_Name (Dh ?fR ?gG) hs;obtain⟨y,H1,I1,r1,q1⟩:=_z;exact DI I1 hN hi hx r1 (fun s2 I2=>⟨_,H1,I2,q1⟩) hf
theorem Au[?fG][?t6]{pos':Pos}(hN:X.N.Nodup)[?h5][?T7][?SS][?gY]:?D9:=NZ hN hi hx he hs hf
universe e9
section
variable{X:Cx}[?T]
def wX(c:TT)(tb:TS):TS:=fun D σ H=>∃W:?pX,(∃m,?H8)/\∀m σ H,?H8 →
 c σ H fun b H1=>if ?lW then ∃N:?F,(∀σ' H',?rZ->∃m',m'<m/\W m' σ' H')/\tb ?CT σ H1 else ?G0
theorem Os{c:Expr}{body:?e7}{tc:TT}{tb:TS}[?U5](hc:?J9)(hb:?D7):PS X (.While c ?gR [] pos) (wX tc tb):=by
 intro Ac s σ H D I h;obtain⟨W,⟨m0,w0⟩,turn⟩:=h;refine wpAny_While (codeAny_whileLoop (fun n s'=>∃σ' H',Bj X Ac σ' H' s'/\W n σ' H') ?_ m0 ⟨σ,H,I,w0⟩);rintro n s1 ⟨σ1,H1,I1,w1⟩;refine qn8 hp (Dh (hc Ac s1 σ1 H1 _ I1 (turn n σ1 H1 w1)) fun b s2 _z=>?_);obtain⟨H2,I2,q2⟩:=_z;cases b with
 | true =>
   obtain⟨N,hN,q2⟩:=q2;rw[if_pos rfl];refine qn8 hp (Dh (hb Ac s2 σ1 H2 _ I2 q2) fun f s3 q3=>?_);cases f with
   | next =>
     ext S5
   | cont =>
     ext S5
   | brk=>exact q3
   | ret v=>exact q3
 | false =>
   rw[?G qe1];exact qw6 ⟨σ1,H2,I2,q2⟩
universe e9
structure It where
 go:?NR
 yld:Nat->Hp->?eQ
 stop:?NR
def Ma[?cA](H:Hp)(b:Addr):Prop :=
 ?Y/\?hT/\?oA/\(b∈X.ex\/?V8 b)/\?OW
theorem Bj.fpOk[?tC]{σ:St}[?dB][?aT]{b:Addr}[?d](hb:?CU)(hn:?s0):?FO:=by
 refine⟨hn,qn0 (qb4 I.lt hb),I.nofs hb,?n (qa5 I.sz hb),fun x c e z=>?_,fun p hp z=>?_⟩
 . obtain⟨v,q⟩:=?q2;exact ?W4 q.lt (by rw[z];exact hb)
 . exact ?W4 (qc2 (?BV).1) (by rw[z];exact hb)
structure U1[?d5][?e](tg:Expr)(J:It)[?t7](it:Addr)(tn:?pR):Prop where
 mem:it∈fp
 obj:∀i h,tn i h->∀b∈fp,?C5
 keep:∀i h h',tn i h->(∀b∈fp,∀o,?dX->?nL)->tn i h'
 item:∀(X:Cx),?D0->X.w=w->X.K=K->?qU->∀(i:Nat) [?J] [?mM],?A->(?tZ)->?xU->?vL →
  ?f ?gS X.A (pyNext ?cI) (fun r s1=>∃u,r=?M ∧
   ?f ?gS X.A (?oE tg ?cI u) (fun _ s2=>YP X Ac σ u (J.yld i H) (tn ?b1 ?rB) fp s2) E s1) E s
 done:∀(X:Cx),?D0->X.w=w->X.K=K->?qU->∀(i:Nat) [?J] [?mM],?A->(?tZ)->?xU->?yK →
  ?f ?gS X.A (pyNext ?cI) (fun r s1=>r=none/\?V1 H s1) E s
 self:∀[?jF] (i:Nat) [?mC],?xU->Q ?cI s->?VE ?gS (?wH ?cI)
noncomputable abbrev TI:=?Z5 ?s4
def PIE[?cA](σ:St)(tg:Expr)[?t3](itv:Value)(s2:Shared):Prop :=
 ∃(it:Addr) (fp:?X) (tn:?pR) (J:It) (H':Hp),itv=?k it/\?JE/\?EV/\tn 0 ?rB/\(?OL)/\R J H'
def PI(X:Cx)(tg iter:Expr)(wi:TI):Prop :=
 ∀[?J] [?t3],?A->wi σ H R →
   ?UU (?ZA iter) (fun v s1=>?f ?i X.A (?wH v) (PIE X Ac σ tg R) ?m s1)
theorem eY{M:Model}[?D][?a0][?aT]{tg:Expr}{it:Addr}[?aL]{o:Obj}{n:String}{vs:?dS}[?mO](ho:?IG)(hc:o.cls=?aG n)(hd:o.data=?iN vs)
 (hn:?UX n=false) (hQ:Q () s):?VE M (?oE tg ?cI u):=by
 unfold letOwnedTupleGo
 cases tg<;>first
  | exact ?u2
  | (cases u<;>first
      | exact ?u2
      | (refine qa7 (wpAny_load ho ?_)
         rw[hc,hd];show ?f M A (if ?ZQ (?UX n&&vs[0]?==?c (rawInt _)) then _ else _) Q E s;rw[?G (by intro h;rw[hn,Bool.false_and]at h;cases h)];exact ?u2))
def ZL[?e][?aU]:It :=
 ⟨?WX ?dQ,?Y6 ?dQ,?XI ?dQ⟩
def ZK[?e][?aU]:It :=
 ⟨?WX ?dG,?Y6 ?dG,?XI ?dG⟩
def uU(lo:Int)(n:Nat):It:=⟨fun i _=>i<n,fun i H x H'=>H'=H/\x=?lT,fun i _=>n<=i⟩
theorem KN[?c9]{tg:Expr}(a it:Addr):?XU ?qA (fun i h=>?IF) where
 mem:=?aE
 obj:=fun i h st b hb=>by
  ext sK
  ext SH
 keep:=?M0
 item:=by
  ext d2;ext S6;ext gZ;refine wpAny_pyNext_list_item st ?a7 (x:=u) ?r1 ?JP;ext RR;exact(?W7 ⟨rfl,?EJ⟩)
 done:=by
  ext d2;ext SU;ext gZ;have hl:=rv.length;exact wpAny_pyNext_list_end ?dE st ?a7 ?kU ?uY
 self:=?WL wpAny_pyIter_listiter
theorem GC[?c9]{tg:Expr}(a it:Addr):?XU ?pM (fun i h=>h.IsTupleIter it a i) where
 mem:=?aE
 obj:=fun i h st b hb=>by
  ext sK
  ext SH
 keep:=?M0
 item:=by
  ext d2;obtain⟨xs,x,hq,hx⟩:=hg;obtain⟨its,rv,p,hz⟩:=?gX;obtain⟨u,hu,ru⟩:=?jR hx;ext gZ;refine wpAny_pyNext_tuple_item st (?YC a) (x:=u) ?r1 ?JP;ext RR;exact(?W7 ⟨rfl,?ZD ?MS⟩)
 done:=by
  ext d2;obtain⟨xs,hq,hx⟩:=hg;obtain⟨its,rv,p,hz⟩:=?gX;ext gZ;have hl:=rv.length;exact wpAny_pyNext_tuple_end ?dE st (?YC a) ?kU ?uY
 self:=?WL wpAny_pyIter_tupleiter
theorem gD[?c9]{tg:Expr}(it:Addr)(lo:Int)(n:Nat):?XU (?iO) (fun i h=>?FQ h it (lo+?wU*1) (?eA-?wU) 1) where
 mem:=?aE
 obj:=fun i h st b hb=>by
  ext sK
  subst e
  exact⟨_,st,fun v z=>by
   have z':?tU:=z;cases z'⟩
 keep:=fun i h h' st k=>k it ?N _ st
 item:=by
  ext d2;ext gZ;have W:=Walks.range (prog:=X.prog) (w:=X.w) ?dE it lo 1 n;refine W.item i s _ _ hg st fun v h' tk hv st' kk=>?_;obtain⟨t,rfl⟩:=hv;have I1:?NW:=?o9 (fun b o hb e=>kk b o (?k7) e) f0 f1 f3 f4 f5;refine⟨_,rfl,eY (s:=?ME) (n:="range_iterator") st' rfl rfl ?bF ⟨?lT,H,I1,⟨t,?_⟩,?NF,st',?rX⟩⟩;rw[qk0]
 done:=by
  ext d2;ext gZ;exact wpAny_pyNext_range_end ?dE st (by have:n<=i:=hg;omega) ?uY
 self:=?WL wpAny_pyIter_rangeiter
section
variable{X:Cx}{tg:Expr}
inductive qX[?e][?t3](x:V)(H1:Hp):Prop
 | mk:∀a,?hV->?YA ?qA ?PC
def VS[?e](tl:TE):TI:=?YD ?PC
inductive wJ[?e][?t3](x:V)(H1:Hp):Prop
 | mk:∀a,?hV->((∃xs,SqT K H1 a xs))->(R ?pM H1)->?Q4
def Aj9[?e](tl:TE):TI:=?YD ?Q4
theorem sP{l:Expr}{tl:TE}[?t9]:?XQ VS X.K:=by
 ext SJ;ext bK;ext TD;obtain⟨its,rv,p,hz⟩:=?rH hq;refine qu5 ?a7 ?_;refine(?X1 KN);ext TS
 ext A6
theorem XM{l:Expr}{tl:TE}[?t9]:?XQ Aj9 X.K:=by
 ext SJ;ext bK;ext TD;obtain⟨its,rv,p,hz⟩:=I1.tuple hq;refine qn7 (show s1.heap.IsTuple a ?L from p) ?_;refine(?X1 GC);ext TS
 ext A6
theorem dU[?y]{R:?s4}[?a0]{lo hi:Int}{t u v:Tok}{tk:Nat}[?d](h1:-(?cE)<=lo)(h2:lo<?cE)(h3:-(?cE)<=hi)(h4:hi<?cE)
 (q:R (uU lo ?oS) H):?f ?i X.A (?wH ?iD) (PIE X Ac σ tg R) E ?NE:=by
 refine wpAny_pyIter_range (IsRange.new ..) (small_one h1 h2 h3 h4) ?_;have I1:?V1 H ?NE:=?lX ?nQ
 refine⟨?z9,[?z9],_,_,H,rfl,
  ?xI (t':=tk) ?nQ,gD _ lo ?oS,?_,?g4,q⟩
 . have e1:?E3=lo:=?aE
   have e2:((?oS:Nat):Int)-?vA=Builtin.Range.rangeSize lo hi 1:=by rw[rangeSize_one];split<;>omega
   show ?FQ _ _ (?E3) (((?oS:Nat):Int)-?vA) 1;rw[e1,e2];exact ?fZ
 . have e:b=?z9:=?k7
   ext A6
inductive QW[?sJ]:Prop
 | mk:∀j:Int,(vs=[?gL])->(-(?cE)<=j)->(j<?cE)->(R (uU 0 j.toNat) H1)->?FX
def Ak1(ta:TA):TI:=?VB ?FX
inductive qW[?sJ]:Prop
 | mk:∀i j:Int,(vs=?x6)->((-(?cE)<=i/\i<?cE/\-(?cE)<=j/\j<?cE))->(R (uU i (j-i).toNat) H1)->?HN
def Ak0(ta:TA):TI:=?VB ?HN
theorem C9{a:Expr}[?TE](ha:?FW)[?TI]:PI X tg (?VW ?k9 [a]) (Ak1 ta):=by
 intro Ac s σ H R I h;refine Call_ (Kq I hg hm boot_range (qg2 (Dh (ha pos Ac s σ H _ I h) fun us s1 _z=>?_) hs rfl));obtain⟨vs,H1,I1,r1,q1⟩:=_z;obtain⟨j,e,q1,q2,q⟩:=q1;subst e;cases r1 with
 | cons r rr =>
   cases rr;ext fD;exact call_range_1 (dU I1 O9m O9m q1 q2 (by simpa using q))
theorem z9{a b:Expr}[?TE](ha:?E9)[?RZ] :
 PI X tg (?VW ?k9 ?pL) (Ak0 ta):=by
 intro Ac s σ H R I h;refine Call_ (Kq I hg hm boot_range (qg2 (Dh (ha pos Ac s σ H _ I h) fun us s1 ⟨vs,H1,I1,r1,q1⟩=>?_) (by rw[hs,hs2]) (by rw[hs2];rfl)));obtain⟨i,j,e,⟨q1,q2,q3,q4⟩,q⟩:=q1;subst e;cases r1 with
 | cons r rr =>
   cases rr with
   | cons r' rr =>
     cases rr;ext fD;obtain⟨t',rfl⟩:=r';exact call_range_2 (dU I1 q1 q2 q3 q4 q)
def Ay2(wi:TI)(g:TG)(tb:TS):TS:=fun D σ H=>wi σ H fun J H1=>∃W:?eJ,(∃m,W 0 m σ H1)/\∀i m σ H,?f2 →
 (?yK/\?bP)\/(?vL/\∃N:?F,?eR/\∀x H',?KP->?eX)
def Xy[?t7][?bN]:Bg:=fp.filterMap fun b=>(?oX).map fun o=>?pA
theorem Nh[?d8][?aN][?jD](hb:b∈fp)(e:?dX):?pA∈Xy fp h:=List.mem_filterMap.mpr ⟨b,hb,by rw[e];rfl⟩
theorem lN[?d8][?aN]{p:?C0}(hp:p∈Xy fp h):p.1∈fp/\?cU p.1=?c p.2:=by
 obtain⟨b,hb,e⟩:=List.mem_filterMap.mp hp;cases q:h.get? b with
 | none=>rw[q]at e;cases e
 | some o =>
   rw[q]at e;have e':?pA=p:=qb6 e;subst e';exact⟨hb,q⟩
theorem Bj.pinned[?y][?d8][?d][?h2](ho:?NX):Bj X (Ac++Xy fp ?B) σ H s :=
 ?FP fun p hp=>?O5 (fun z=>?i5 p (qg8 _ z)) fun z=>by
  obtain⟨hb,e⟩:=lN z;obtain⟨f0,f1,f2,_⟩:=hf p.1 hb;obtain⟨o,e',d⟩:=ho p.1 hb;rw[e]at e';cases e';exact⟨e,f0,f1,f2,d⟩
theorem Bj.unpinned{Ac pl:Bg}[?mY][?aT](I:Bj X (Ac++pl) σ H s):?A:=?FP fun p hp=>?i5 p (qg8 _ (?M4 _ hp))
theorem Cv{iter:Expr}{body:?e7}{wi:TI}{g:TG}{tb:TS}[?T][?U5][?d6](hi:?NT)(hg:?LE)(hb:?D7)
 [?A5]:PS X (.For tg iter ?gR [] pos) (Ay2 wi g tb):=by
 ext h3;refine wpAny_For (?V0 h) hs;obtain⟨it,fp,tn,J,H2,e,I2,T,st2,f2,W,⟨m0,w0⟩,turn⟩:=h2;subst e;have GG:∀{H':Hp},?hY->?OL:=fun hn b hb=>⟨hn b hb,(f2 b hb).2⟩
 refine codeAny_forLoop_any (fun n s'=>∃i σ' H',?HL/\?Q8/\?hY/\W i n σ' H') ?_ m0 ⟨0,σ,H2,I2,st2,fun b hb=>(f2 b hb).1,w0⟩;rintro n s3 ⟨i,σ3,H3,I3,st3,RG,w3⟩;rcases turn i n σ3 H3 w3 with⟨stop,qn⟩|⟨go,N,hN,step⟩
 . refine qn8 hp (Dh (T.done X rfl rfl rfl hc i Ac s3 σ3 H3 ?m I3 ?pO st3 stop) ?s7);obtain⟨hr,I4⟩:=_z;subst hr;exact qw6 ⟨σ3,H3,I4,qn⟩
 . refine qn8 hp (Dh (T.item X rfl rfl rfl hc i Ac s3 σ3 H3 ?m I3 ?pO st3 go) ?s7);obtain⟨u,hr,h4⟩:=_z;subst hr;refine qn8 hp (Dh h4 ?N4);ext SD;refine qn8 hp (Dh (hg _ s5 σ3 H5 x u _ I5' r5 (step x H5 y5)) fun _ s6 _z=>?_);obtain⟨σ6,H6,I6,q6⟩:=_z;refine qn8 hp (Dh (hb _ s6 σ6 H6 _ I6 q6) fun f s7 q7=>?_)
   have again:∀{σ7:St}{H7:Hp},Bj X (Ac++?GH) σ7 H7 s7->N σ7 H7->∃m,m<n/\∃i σ' H',Bj X Ac σ' H' s7/\?FM/\?hY/\W i m σ' H':=fun {σ7 H7} I7 n7=>by
    obtain⟨m',hm,w7⟩:=hN σ7 H7 n7;refine⟨m',hm,i+1,σ7,H7,?oD,?Q3,?g4,w7⟩;ext S7
   cases f with
   | next=>ext TM
   | cont=>ext TM
   | brk=>obtain⟨σ7,H7,I7,q7⟩:=q7;exact⟨σ7,H7,?oD,q7⟩
   | ret v=>obtain⟨x7,σ7,H7,I7,r7,q7⟩:=q7;exact⟨x7,σ7,H7,?oD,r7,q7⟩
universe e9
theorem for_list[?f9][?mB][?TP]
 [?RU] :
 ∃W:?eJ,?g3/\∀i m σ H,?f2 →
   ?ZI ?n7 (?UT ?n7 ?n7):=by
 ext zY;ext AJ;have q:=?M5;ext j6
 . ext zV;ext sN;exact ?O6
 . ext j7
   ext T9
theorem UD[?f9][?mB](hl:?WE ?eW ?dG)
 [?RU] :
 ∃W:?eJ,?g3/\∀i m σ H,?f2 →
   ?ZI ?pK (?UT ?pK ?pK):=by
 ext zY;ext AJ;have q:=?M5;ext j6
 . ext zV;ext sN;exact ?O6
 . ext j7
   ext T9
theorem D7{lo:Int}{n:Nat}[?mB]
 (hs:∀i σ H,i<n->?bY->g (?lT) σ H ?n6) (hd:?PD) :
 ∃W:?eJ,?g3/\∀i m σ H,?f2 →
   ?ZI ?iO (?UT ?iO ?iO):=by
 ext SG;ext AJ;by_cases hlt:i<n
 . refine ?WW hlt ?BS;obtain⟨e,y⟩:=y;subst e y;exact hs i σ _ hlt p
 . have e:i=n:=O9m
   subst e;exact ?WT ?dI ?F3
noncomputable abbrev R2:=V->?m7
def OpR(X:Cx)(f:?F4)(r:R2):Prop :=
 ∀[?J] (x y:V) (v u:Value) (Q:VK),?A->?dK->?kG->?GN →
   ?UU ?v0 ?bE
def UnR(X:Cx)(f:?xT)(r:?m7):Prop :=
 ∀[?J] (x:V) (v:Value) (Q:VK),?A->?dK->r x H Q →
   ?UU (f v) ?bE
def Fd(X:Cx)(f:Value)(r:?cZ):Prop :=
 ∀[?J] [?a6] [?d7] (Q:VK),?A->?bA->?C8 →
   ?UU (call f us) ?bE
def tOp(r:R2)(ta tb:TE):TE:=fun σ H Q=>ta σ H fun x H1=>tb σ H1 fun y H2=>r x y H2 Q
def tUn(r:?m7)(ta:TE):TE:=fun σ H Q=>ta σ H fun x H1=>r x H1 Q
inductive IrI(C:?uF)[?t5][?d4]:Prop
 | mk:∀i j,?rR->(y=?gL)->(C i j)->?ES->?GY
def rI(C:?uF)[?t5]:R2:=?VQ ?GY
inductive Aq1[?t5][?d4]:Prop
 | mk:∀i j,?rR->(y=?gL)->?ES->?GL
def XH[?t5]:R2:=?VQ ?GL
inductive IrU(g:?xV)(x:V)[?d9]:Prop
 | mk:∀i,?rR->(Q (g i) H)->?BE
def rU(g:?xV):?m7:=fun x H Q=>?BE
section
variable[?UN][?T]
theorem zG[?fA][?mJ]{R:V->?eQ}[?d]
 [?U0] [?fB][?sR]
 [?S3] :
 ?P8:=by
 ext TN;ext bK;ext RY
theorem Bd{op:Operator}{r:R2}(ho:?WH (?dV op) r)[?fA]:?WG (.BinOp a op b pos) ?qR:=by
 ext R;exact wpAny_BinOp (?VG u)
theorem N1{op:UnaryOp}{r:?m7}(ho:UnR X (unaryOp op) r)[?t8]:?WG (?wG op a pos) (tUn r ta):=by
 ext R;exact ?O3 (Dh ?k1 fun v s1 ?kW=>ho Ac s1 σ H1 x v Q I1 r1 q1)
theorem opI[?sR]{C:?uF}{g:?K3}
 (rule:∀[?B5] [?mC],C i j->?CZ) :
 ?WH f (rI C ?RF):=by
 ext f5;obtain⟨i,j,rfl,rfl,hc,q⟩:=h;ext h4;ext z;exact rule i j t t' s _ _ hc ?CG
theorem Ah5[?sR]{g:?K3}
 (rule:∀[?B5] [?mC],?CZ) :
 ?WH f (XH ?RF):=by
 ext f5;obtain⟨i,j,rfl,rfl,q⟩:=h;ext h4;ext z;exact rule i j t t' s _ _ ?CG
theorem XR[?sR]{g:Int->?OT}
 (rule:∀[?B5] [?mC],Q (?cO ?gD) s->?NM) :
 ?VV f ?gD:=by
 ext f5;obtain⟨i,j,rfl,rfl,q⟩:=h;ext h4;ext z;exact rule i j t t' s _ _ ⟨.bl ?gD,H,I,rfl,q⟩
def Bf6(i j:Int):Prop:=0<j/\?HS
def zP(i j:Int):Prop:=(-(?iA)<i/\i<?iA)\/(-(?iA)<j/\j<?iA)
theorem zP.ok{i j:Int}(h:zP i j):?w2:=by
 rcases h with⟨h1,h2⟩|⟨h1,h2⟩
 . exact .of_left (intBits_le_64 h1 h2)
 . exact .of_right (intBits_le_64 h1 h2)
theorem By:?WH (?dV .Add) (XH (?ZH (i+j))):=?VF Ah5 add_int
theorem Nf:?WH (?dV .Sub) (XH (?ZH (i-j))):=?VF Ah5 sub_int
theorem bR:?WH (?dV .FloorDiv) (rI Bf6 (?ZH (i / j))):=opI fun i j _ _ _ _ _ hc q=>by
 have h1:?kY<j:=hc.1;have h2:?HS:=hc.2;exact floordiv_int O9m (by rw[qg9 i ?b5];exact q) (?j (PyProof.noPylong_small O9m))
theorem Gb:?WH (?dV .Mod) (rI (fun _ j=>0<j) (?ZH (i%j))):=opI fun i j _ _ _ _ _ hc q=>by
 have h1:?kY<j:=hc;exact mod_int' O9m (by rw[Int.fmod_eq_emod_of_nonneg i ?b5];exact q)
theorem unI{f:?xT}{g:?EX}
 (rule:∀(i:Int) (t:Tok) [?mC],Q (?h (g i) ?jJ) ?h9->?YS (f ?oJ)) :
 UnR X f (rU fun i=>?h (g i)):=by
 intro Ac s σ H x v Q I rx h;obtain⟨i,rfl,q⟩:=h;ext h4;exact rule i t s _ _ (?Y3 (g i) ?g8)
theorem Iy:UnR X (unaryOp .USub) (rU fun i=>?h (-i)):=unI fun _ _ _ _ _ q=>neg_int q
universe e9
def scal:V->V->?cF
 | ?x,?x=>true | ?x,?dP=>true | ?dP,?x=>true | ?x,?eP=>true | ?eP,?x=>true | ?x,?c2=>true | ?c2,?x=>true
 | ?dP,?dP=>true | ?eP,?eP=>true | ?c2,?c2=>true | .byt _,.byt _=>true
 | ?dP,?c2=>true | ?c2,?dP=>true | ?eP,?c2=>true | ?c2,?eP=>true
 | _,_=>false
structure Bf1[?d4]:Prop where
 mk::(left:?IB) (right:?VH (?MU))
def rEq:R2:=fun x y H Q=>Bf1 x y H Q
structure Bf0[?d4]:Prop where
 mk::(left:?IB) (right:?VH (! ?MU))
def rNe:R2:=fun x y H Q=>Bf0 x y H Q
theorem JV{i j:Int}:?q (?a8 i=?a8 j)=?xP:=by
 rw[qn3];simp
theorem qB{i j:Bool}:?q (V.bl i=V.bl j)=?xP:=by
 rw[qn3];simp
theorem jV{i j:Str}:?q (V.str i=V.str j)=?xP:=by
 rw[qn3];simp
theorem jW{i j:?PT}:?q (V.byt i=V.byt j)=(i.toList==j.toList):=by
 rw[qn3];cases i;cases j;simp
section
variable[?UN][?T]
theorem Ck[?y]{Q:VK}{k k':Bool}[?d](q:Q (?qZ) H)(e:k=k'):?W3 (?cO k') s:=by
 subst e;exact⟨?qZ,H,I,rfl,q⟩
theorem Ed:?WH (?b4 .Eq) rEq:=by
 intro Ac s σ H x y v u Q I rx ry h;obtain⟨hs,q⟩:=h;cases x with
 | non =>
   cases rx;cases y with
   | non=>cases ry;exact PySem.EqNone.eq_none_none ?I
   | bl j=>cases ry;exact PySem.EqNone.eq_none_bool ?I
   | int j=>ext z;exact PySem.EqNone.eq_none_int ?I
   | str j=>ext z;exact PySem.EqNone.eq_none_str ?I
   | _=>ext d3
 | bl i =>
   cases rx;cases y with
   | non=>cases ry;exact PySem.EqNone.eq_bool_none ?I
   | bl j=>cases ry;exact eq_bool (Ck I q qB)
   | str j=>ext z;exact PySem.EqMixed.eq_bool_str ?I
   | _=>ext d3
 | int i =>
   obtain⟨t,rfl⟩:=rx;cases y with
   | non=>cases ry;exact PySem.EqNone.eq_int_none ?I
   | int j=>ext z;exact eq_int (Ck I q JV)
   | str j=>ext z;exact PySem.EqMixed.eq_int_str ?I
   | _=>ext d3
 | str i =>
   obtain⟨t,rfl⟩:=rx;cases y with
   | non=>cases ry;exact PySem.EqNone.eq_str_none ?I
   | bl j=>cases ry;exact PySem.EqMixed.eq_str_bool ?I
   | int j=>ext z;exact PySem.EqMixed.eq_str_int ?I
   | str j=>ext z;exact eq_str (Ck I q jV)
   | _=>ext d3
 | byt i =>
   obtain⟨t,rfl⟩:=rx;cases y with
   | byt j=>ext z;exact PySem.W.eq_bytes (Ck I q jW)
   | _=>ext d3
 | _=>ext T4
theorem Mp:?WH (?b4 .NotEq) rNe:=by
 intro Ac s σ H x y v u Q I rx ry h;obtain⟨hs,q⟩:=h;cases x with
 | non =>
   cases rx;cases y with
   | non=>cases ry;exact PySem.EqNone.ne_none_none ?I
   | bl j=>cases ry;exact PySem.EqNone.ne_none_bool ?I
   | int j=>ext z;exact PySem.EqNone.ne_none_int ?I
   | str j=>ext z;exact PySem.EqNone.ne_none_str ?I
   | _=>ext d3
 | bl i =>
   cases rx;cases y with
   | non=>cases ry;exact PySem.EqNone.ne_bool_none ?I
   | bl j=>cases ry;exact ?WJ ne_bool qB
   | str j=>ext z;exact PySem.EqMixed.ne_bool_str ?I
   | _=>ext d3
 | int i =>
   obtain⟨t,rfl⟩:=rx;cases y with
   | non=>cases ry;exact PySem.EqNone.ne_int_none ?I
   | int j=>ext z;exact ?WJ ne_int JV
   | str j=>ext z;exact PySem.EqMixed.ne_int_str ?I
   | _=>ext d3
 | str i =>
   obtain⟨t,rfl⟩:=rx;cases y with
   | non=>cases ry;exact PySem.EqNone.ne_str_none ?I
   | bl j=>cases ry;exact PySem.EqMixed.ne_str_bool ?I
   | int j=>ext z;exact PySem.EqMixed.ne_str_int ?I
   | str j=>ext z;exact ?WJ ne_str jV
   | _=>ext d3
 | byt i =>
   obtain⟨t,rfl⟩:=rx;cases y with
   | byt j=>ext z;exact ?WJ PySem.W.ne_bytes jW
   | _=>ext d3
 | _=>ext T4
theorem X3:?VV (?b4 .Lt) (?q (i<j)):=?VF XR lt_int
theorem JJ:?VV (?b4 .LtE) (?q (i<=j)):=?VF XR le_int
theorem OH:?VV (?b4 .Gt) (?q (j<i)):=?VF XR gt_int
theorem XQ:OpR X (?b4 .Is) (fun x y H Q=>y=?x/\?VH (?q (x=?x))):=by
 ext f5;obtain⟨rfl,q⟩:=h;cases ry;refine is_none_gen (Ck I q ?_)
 cases x<;>first
  | (cases rx;rfl)
  | (ext h4;rfl)
theorem Bo(b:Expr){op:CmpOp}(h:?LJ:=by decide)(h2:?DE:=by decide):?nU:=by
 ext SE
 ext SC
 cases b<;>simp[behindInMarks,e1,e2]
theorem La{op:CmpOp}{r:R2}[?AR][?fA][?UR]:?WG (?nR a [op] [b] pos) ?qR:=by
 ext R;exact wpAny_Compare1 (?VG u) hm
inductive qR[?j9](x:V)(H':Hp):Prop
 | mk:∀k,(x=?qZ)->(Q k H')->?MB
def Ad9(t:TE):TT:=fun σ H Q=>t σ H fun x H'=>?MB
theorem Bk{op:CmpOp}{r:R2}[?AR][?fA][?UR]:?Z2 Ad9 ?qR:=by
 ext R
 refine ?BK (Dh ?k1 fun v s1 ?kW=>Dh (?V2 hb _) fun u s2 ?JR =>
  Dh (?XP _) fun c s3 ?EO=>?_) hm
 subst e;cases r3;exact qk4 ⟨H3,I3,q3⟩
inductive kF(r':R2)(tc:TE)(σ:St)(Q:VK)(y:V)(z:V)(H3:Hp):Prop
 | mk:∀k,(z=?qZ)->((if ?ZQ k then tc σ H3 fun w' H4=>r' y w' H4 Q else Q (?qT) H3))->?OH
def XA(r r':R2)(ta tb tc:TE):TE:=fun σ H Q=>ta σ H fun x H1=>tb σ H1 fun y H2=>r x y H2 fun z H3=>?OH
theorem OF{op op':CmpOp}{r r':R2}[?AR](ho':?WH (?b4 op') r')[?fA](hc:?WG c tc)
 (hm:lastMarks ?DO [b,c]=false:=by with_unfolding_all rfl):?WG (?nR a ?DO [b,c] pos) (XA r r' ta tb tc):=by
 ext R
 refine Compare_chain (Dh ?k1 fun v s1 ?kW=>chain_link (Dh (?V2 hb _) fun u s2 ?JR =>
  Dh (?XP _) fun d s3 ?EO=>?_)) hm
 subst e;cases r3;refine qk4 ?_;cases k with
 | false=>exact ite_ff ⟨?qT,H3,I3,rfl,q3⟩
 | true=>exact ite_tt (chain_last (Dh (hc Ac s3 σ H3 _ I3 q3) fun w' s4 ⟨z',H4,I4,r4,q4⟩=>ho' Ac s4 σ H4 y z' u w' Q I4 r2 r4 q4))
theorem bX:?DH<?iS:=by rw[sizeLine_eq];decide
theorem U5{x:V}[?S](r:?PB):?M6:=by
 cases r with
 | cons r1 r2=>cases r2;exact(?YB rfl r1)
theorem dD{x y:V}[?S](r:?O [x,y] us):∃u w',us=[u,w']/\?bU/\?c0 y w':=by
 cases r with
 | cons r1 r2 =>
   cases r2 with
   | cons r3 r4=>cases r4;exact⟨_,_,rfl,r1,r3⟩
theorem fM:?WF "abs" (fun xs H Q=>∃i,xs=[?t]/\Q (?h (if i<0 then -i else i)) H):=by
 ext f8;obtain⟨i,rfl,q⟩:=h;obtain⟨u,rfl,t,rfl⟩:=U5 r;exact call_abs_int fun u tk=>(?Y3 (if i<0 then -i else i) ?g8)
theorem aT[?d6]:?WF "max" (?ZB (if j > i then j else i)):=by
 ext f8;ext SF;refine max_two_ints ?dE ?FZ
 by_cases hj:j > i
 . rw[?pP,?pP];ext mS
 . rw[?n2,?n2];ext mS
theorem MR[?d6]:?WF "min" (?ZB (if j<i then j else i)):=by
 ext f8;ext SF;refine min_two_ints ?dE ?FZ
 by_cases hj:j<i
 . rw[?pP,?pP];ext mS
 . rw[?n2,?n2];ext mS
universe e9
structure iQ[?bN](x dx C:Addr)(mA:?bZ):Prop where
 obj:?cU x=?c (?q3 C dx)
 ns:?vI
 ne:?yA
theorem LQ[?aN]{dx:Addr}[?B0](n:?vI):∃od,?cU dx=?c od/\?JV:=by
 obtain⟨o,es,ep,ho,hd,hk,_,hm⟩:=n;refine⟨o,ho,fun name=>?_⟩;have e:=hm ?V;unfold nsFind findBy at e;rw[←Array.find?_toList]at e;unfold PySem.W.lookIn;rw[hd];dsimp only;split
 . rename_i y q
   rw[q]at e;exact ?H2
 . rename_i q
   rw[q]at e
   have a:?EE (·.refKey)=false:=by
    rw[List.any_eq_false];intro y hy;obtain⟨z,t,hkey⟩:=hk y (Array.mem_toList_iff.mp hy);simp[DictEntry.refKey,hkey]
   have a':¬?EE (·.refKey)=true:=by rw[a];exact qe1
   rw[?G a'];exact ?H2
theorem iQ.look[?aN]{x dx C:Addr}[?B0](I:iQ h x dx C mA):∃od,PySem.W.InstAt h x (?q3 C dx) C (?c od)/\?JV :=
 let ⟨od,ho,hl⟩:=LQ I.ns
 ⟨od,⟨I.obj,rfl,rfl,ho⟩,hl⟩
section
variable[?j8][?D][?a0][?aT][?P]{x dx C f:Addr}[?B0]{name:Str}{v:Value}
theorem uC{expr:Bool}[?fB][?SQ][?UM]
 (ha:?HY=?jN) (hv:?uW=?C) (hv':?JZ v=true) (h:Q v ?h9) :
 ?VE ?eK (?xH ?iQ ?V expr):=by
 ext AO;exact PySem.W.get_value X J (qw0 hg).1 (PySem.W.findObj_own hh ha rfl (by rw[hl,hv])) hv' h
theorem PU[?TV][?SQ]
 (hf:?HY=?s3) (ht:?uZ) (hv:?uW=none) (h:Q (?k f,[?hD]) s) :
 ?VE ?eK (?yD ?iQ ?V pl):=by
 ext AO;exact PySem.W.method_fn X J (qw0 hg).1 (qw0 hg).2 hf (qx2.mp ht) (by show(?MA).map (·.isSome)=?c ?cL;rw[hl,hv];rfl) h
theorem rZ{ns:?E}[?mO](X:?l3)(I:?R3)
 (hs:?W6 K) (hp:?P9) (ht:?EG K C ?V=?jN) [?UM]
 (hw:?vZ mA ns) (hsz:?IY)
 (h:∀h',iQ h' x dx C (fun y=>if y=name then ?C else mA y)->?lV dx ?B h'->Q () { s with heap:=h',toks:=s.toks+2 }) :
 ?VE ?eK (setAttr ?iQ ?V v):=by
 ext AO;refine PySem.W.set_plain X J hs (PySem.W.osa_open (s:=?h9) (r:=none) X J hp ht ?JH);obtain⟨cd,hc,hd'⟩:=PySem.W.any_some hh;have hx:?aP x=?c ⟨?o4,?c dx,.plain,#[]⟩:=I.obj;refine ?XT qe2 (qa7 (wpAny_loadPart hx (qa7 (PySem.W.Looks.here (s:=?h9) (PySem.W.looks_clsIn X hc) ?_))));rw[hd'];refine qe2 (a:=?c dx) (?XT qe2 ?_);refine wpAny_nsSet1 (s:=?h9) I.ns fun h' hn2 hs2=>?_;obtain⟨oD,esD,epD,hoD,hdD,hcD⟩:=hn2.count (PySem.Within.cons ?V v hw);refine qa7 (wpAny_lookBehind hoD (by rw[hdD];exact pastItsLine_dict (qa5 hcD (by rw[qc9];omega))) ?_);exact qe2 (h _ ⟨(hs2.2 _ (?lH I.ne)).trans I.obj,hn2,I.ne⟩ hs2)
theorem oY{R:?w5}[?mU][?sU](X:?l3)(hm:?OM)
 (hi:?WM "__init__"=?s3) (hf:PySem.W.typeIn K ?c5=?c (?aG "function"))
 (h:?e9 ?eK (?Y7 vs) (?jU ?c5 ⟨?k ?aZ::vs,kw⟩) (PySem.W.InitBack ?aZ R)
   ?F7) :
 ?e9 ?eK A (?jU ?bI ⟨vs,kw⟩) R s:=by
 obtain⟨hh,g,d,t,os⟩:=s;exact PySem.W.make_core (PySem.W.makes_of X hm) (PySem.W.looks_findIn X hi) (fun self=>PySem.W.bind_fn X self hf) ?dC h
universe e9
def putF(f:Str)(v:V):?cD->?cD
 | []=>[(f,v)]
 | (g,x)::r=>if g=f then(g,v)::r else(g,x)::?HD
theorem Aq(f g:Str)(v:V):∀fs:?cD,(?xJ).lookup g=if g=f then ?C else ?hF g
 | []=>by
   show List.lookup g [(f,v)]=_;by_cases h:g=f
   . have hb:?ZQ (g==f):=qx2.mpr h;simp only[List.lookup,hb,?Q h]
   . have hb:?XC g f:=ql2.mpr h;simp only[List.lookup,hb,?hH]
 | ?n1=>by
   have ih:=Aq f g v r;ext zZ
   . rw[?i8];by_cases h:g=k
     . have hb:?JY:=qx2.mpr h;simp only[List.lookup,hb,?Q (h.trans hk)]
     . have hb:?C7:=ql2.mpr h;simp only[List.lookup,hb,?G (fun e:g=f=>h (e.trans hk.symm))]
   . rw[?fW];by_cases h:g=k
     . have hb:?JY:=qx2.mpr h;simp only[List.lookup,hb,?G (fun e:g=f=>hk (h.symm.trans e))]
     . have hb:?C7:=ql2.mpr h;simp only[List.lookup,hb];exact ih
theorem Uf(f:Str)(v:V):∀fs:?cD,f∈?MX (·.1)/\∀g,g∈?pH (·.1)->g∈?MX (·.1)
 | []=>⟨?F0,fun g h=>?fQ⟩
 | ?n1=>by
   obtain⟨i1,i2⟩:=Uf f v r;ext zZ
   . rw[?i8];subst hk;exact⟨?aE,fun g h=>?zQ⟩
   . rw[?fW];refine⟨?_,fun g h=>?_⟩
     . rw[qc8];exact qb0 _ i1
     . rw[qc8]at h ⊢;ext AQ
       . exact qc5.mpr (?j e)
       . exact qb0 _ (i2 g e)
theorem B7(f:Str)(v:V):∀fs:?cD,?J4<=fs.length+1
 | []=>?F0
 | ?n1=>by
   have ih:=B7 f v r;ext zZ
   . rw[?i8,qc9,qc9];omega
   . rw[?fW,qc9,qc9];omega
theorem N6.some_of{v:V}{o:?l8}(r:N6 (?C) o):∃u,o=?M/\?cT:=by
 cases o with
 | none=>exact ?FL
 | some u=>exact⟨u,rfl,r⟩
theorem N6.none_of{o:?l8}(r:N6 ?a3 o):o=none:=by
 cases o with
 | none=>rfl
 | some u=>exact ?FL
theorem MD{v:V}[?aL][?fK]:?JZ u=true:=by
 cases v with
 | non=>cases (?WB ?wV);rfl
 | bl b=>cases (show u=?iE b from r);rfl
 | int i=>obtain⟨t,e⟩:=(?WB ?H3);cases e;rfl
 | str x=>obtain⟨t,e⟩:=(?WB ?QT);cases e;rfl
 | byt b=>obtain⟨t,e⟩:=(?WB ?OJ);cases e;rfl
 | flt b=>obtain⟨t,e⟩:=(?WB ?IZ);cases e;rfl
 | ref a=>cases (?WB ?kI);rfl
 | ty n=>cases (show u=Value.type n from r);rfl
section
variable[?t0][?dB]{h h':Heap}{a C dx:Addr}{fs fs':?cD}
theorem BZ(hok:?x0)(e:H a=?nG):∃mA,iQ h a dx C mA/\(?tK)/\?vZ mA (?pH (·.1))/\?G6/\?QB:=by
 obtain⟨d,z,ne,ob,mA,n,r,q⟩:=(show ?bO P w H h a (?uH) from hok a _ e)
 exact⟨mA,⟨ob,n,ne⟩,r,q,z,d⟩
universe e9
structure Cls[?e][?cC]:Prop where
 pg:?uB K C Str.empty=true
 hd:?MV
 po:?P9
 sa:?W6 K
theorem Cls.get[?P]{C:Addr}(c:Cls K C)(f:Str):?uB K C f=true:=c.pg
def Df[?e][?cC](f:Str):Prop:=?WM f=?jN
theorem Df.taker[?P]{C:Addr}{f:Str}(n:?zE):?EG K C f=?jN:=by
 unfold PySem.W.takerIn;rw[show ?WM f=?jN from n];rfl
structure QO[?e][?cC](m:Str)(f:Addr):Prop where
 at_:?WM m=?s3
 fn:?uZ
 kp:?s2
section
variable{X:Cx}[?y]{a C dx:Addr}{fs:?cD}{f:Str}{v:V}[?D][?a0]
theorem HJ{b:Bool}[?fB][?d][?AC](n:?O9)(l:?hF f=?C)
 (h:∀u s',?V1 H s'->?cT->Q u s'):?VE ?i (?xH ?bV f b):=by
 obtain⟨mA,O,r,_,_,_⟩:=?yI;obtain⟨u,hu,ru⟩:=N6.some_of (v:=v) (o:=mA f) (by rw[←l];exact r f);exact uC ?aW O (c.get f) c.hd n hu (MD ru) (h u _ (?fU) ru)
theorem Ro{m:Str}{g:Addr}[?TV][?d][?AC](k:?PR)(l:?zL)
 (h:Q (?k g,?bR) s):?VE ?i (?yD ?bV m pl):=by
 obtain⟨mA,O,r,_,_,_⟩:=?yI;have hn:mA m=none:=N6.none_of (by rw[←l];exact r m);exact PU ?aW O (c.get m) k.at_ k.fn hn h
theorem GI{y:V}[?aL][?mO][?d][?AC](n:?O9)(hl:?LT)(ry:?kG)
 (h:∀s',?V1 (upd H a (.ins C dx (?xG))) s'->?u1):?VE ?i (setAttr ?bV f u):=by
 obtain⟨mA,O,r,wi,_,ho⟩:=?yI;have hz:(?pH (·.1)).length<=sizeLine:=by rw[qa3,sizeLine_eq];omega
 refine rZ ?aW O c.sa c.po n.taker c.hd wi hz fun h' O' sb=>h _ ?_;have hd:∃o,?gK dx=?l:=let ⟨o,_,_,e',_⟩:=O'.ns;⟨o,e'⟩
 refine ?v4 (x:=a) (e:=dx) (by rw[e];exact True.intro) (?n ho) (fun b q hb z=>?JQ z) hd ?_;refine⟨by rw[An O.ne];exact ho,?_,O.ne,O'.obj,_,O'.ns,fun g=>?_,fun g hg=>?_⟩
 . have:=B7 f y fs;omega
 . show N6 ((?xG).lookup g) (if g=f then ?M else mA g);rw[Aq];by_cases q:g=f
   . rw[?Q q,?Q q];exact ry
   . rw[?G q,?G q];exact r g
 . by_cases q:g=f
   . rw[q];exact(?LG).1
   . refine(?LG).2 g (wi g fun z=>hg ?_);show(if g=f then ?M else mA g)=none;rw[?G q];exact z
theorem Bj.made[?d]:Bj X Ac σ (upd (?VJ ?u (.own ?aZ)) ?aZ (?IW))
 ?F7:=by
 have e1:(?l4).get? ?u=?c ?x1:=qc3 ?B rfl
 have e2:(?LC).get? ?aZ=?c (?wA):=by
  have:=qc3 (?l4) (o:=?wA) rfl
  rwa [qj0]at this
 have e3:(?l4).Ns ?u (?gM):=⟨?x1,#[],_,e1,rfl,(fun e he=>?v he ?N),?NI⟩
 have I1:=?nC (a:=s.heap.objs.size) (o:=.own ?aZ) (h':=?l4) (t':=s.toks) (fun b u q=>?l9) ?aY ⟨_,e1⟩;refine ?tX (a:=?eU) (o:=?IW) (t':=s.toks) (fun b u q=>?l9) (qm4 (qj0 _ _)) ?_;have ne:s.heap.objs.size≠?eU:=qd8 (Nat.lt_succ_self _);refine⟨by rw[An ne,Ab],?mA,ne,e2,?gM,(Heap.Ns1.of_empty e3).at fun o q=>?l9,fun _=>True.intro,fun y hy=>?v rfl hy⟩
theorem UP[?j8]{env:Env}{e:Expr}{f:Str}[?T][?aT][?fB](hb:?qV e f env (?zR)=?zR)
 (h:?f ?eK A (?zR) (fun o s₁=>?f ?eK A (?xH o f ?cP) Q E ?dN) E s):?VE ?eK (?aS (?b0 e f pos) env) :=
 Attribute_any_ h (by rw[arm_eval_Attribute,hb])
universe e9
inductive ItFld[?e](f:Str)[?jA]:Prop
 | mk:∀a C dx fs v,?hV->(?z4)->(Cls K C)->(?zE)->(?hF f=?C)->(Q v H1)->?QL
def Ae4[?e](ta:TE)(f:Str):TE:=?UW ta ?QL
inductive WE[?e](f:Str)(D:Ends)(σ:St)(y:V)(x:V)(H2:Hp):Prop
 | mk:∀a C dx fs,?hV->(H2 a=?nG)->(Cls K C)->(?zE)->(?LT)->(?hQ σ (upd H2 a (.ins C dx (?xG))))->?E8
def Af4[?e](ta tv:TE)(f:Str):TS:=fun D σ H=>tv σ H fun y H1=>ta σ H1 fun x H2=>?E8
section
variable{X:Cx}{o e value:Expr}{f:Str}{pos pos' tpos:Pos}{ta tv:TE}
theorem XO(he:?EI)(hb:?qV e f ?g (?eH)=?eH):?WG (?b0 e f pos) (Ae4 X.K ta f):=by
 ext R;refine UP hb (Dh ?fR ?rP);obtain⟨x,H1,I1,rx,a,C,dx,fs,v,ex,ea,c,n,l,q⟩:=_z;subst ex;obtain rfl:?kI:=rx;exact HJ I1 ea c n l fun u' s2 I2 ru=>⟨v,H1,I2,ru,q⟩
theorem xK[?UL](hs:?X8 ?hB ?oI):?X3 X.K:=by
 ext h3;refine plainObj_wpAny_Assign_Attribute (Dh (?V3 hv h) fun u s1 ⟨y,H1,I1,ry,q⟩=>Dh (ha Ac s1 σ H1 _ I1 q) fun ov s2 _z=>?_) hs;obtain⟨x,H2,I2,rx,a,C,dx,fs,ex,ea,c,n,l,q2⟩:=_z;subst ex;obtain rfl:ov=?gP a:=rx;exact GI I2 ea c n l ry fun s3 I3=>⟨σ,_,I3,q2⟩
theorem VL{pl:?xA}{m:Str}{apos:Pos}{args:?eL}[?mJ][?fB]{te:TE}[?h5][?d]
 (h:te σ H fun x H1=>∃a C dx fs g,x=?aM/\?z4/\?z3/\?PR/\?zL ∧
   ∀s1,?V1 H1 s1->?f ?i X.A (?rJ pos (?k g) ?bR (?gV pos (?eC ?cM ?g)) ?pW) Q ?m s1)
 (ht:?MP=(do
   let ov ←?eH
   ?kE
   let ?kO ←?jH
   ?W5 (?eC ?cM ?g))) :
 ?UU (?MP) Q:=by
 refine ?Q6;obtain⟨x,H1,I1,rx,a,C,dx,fs,g,ex,ea,c,k,l,q⟩:=_z;subst ex;obtain rfl:?kI:=rx;exact Ro I1 ea c k l (q s1 I1)
universe e9
section
variable{X:Cx}[?y][?D][?a0][?fB]{c:Value}{b:Bool}
universe e9
structure F2(k:Nat)[?jF]:Prop where
 hd:?QD
 dp:A.depth+3*k+5<recursionLimit
 un:A.units+16*k+200<cLine
 gd:A.guards=?c []
theorem F2.mono{j k:Nat}[?D](r:?jW)(h:j<=k):F2 j A:=⟨r.hd,?LK,?RD,r.gd⟩
theorem F2.deeper{k:Nat}[?D](r:?HM)(env:Env):F2 k (?nM env) :=
 ⟨r.hd,by have:=r.dp;show ?NN+3*k+5<_;omega,by have:=r.un;show A.units+3+16*k+200<_;omega,r.gd⟩
theorem gZ[?D]{C:Addr}[?S][?sU]:(?jX).depth=?NN:=by
 ext RV
theorem ER[?D]{C:Addr}[?S][?sU]:(?jX).guards=A.guards:=by
 ext RV
theorem GY[?D]{C:Addr}[?S][?sU]:(?jX).units=?MR:=by
 first | rfl | simp[Around.under,Code.cUnits,Code.frames,Code.isFrame]
theorem F2.make{k:Nat}[?D](r:?HM)[?cC][?d7](kw:?iT):F2 k (?jX) :=
 ⟨r.hd,by have:=r.dp;rw[gZ];omega,by have:=r.un;rw[GY];omega,by rw[ER];exact r.gd⟩
theorem F2.depth{k:Nat}[?D](r:?jW):A.depth<recursionLimit:=?LK
theorem F2.units{k:Nat}[?D](r:?jW):?XX 64:=?RD
theorem F2.u8{k:Nat}[?D](h:?jW):?XX 8:=by
 have:=h.units;omega
def RT:TA:=?XB []
def vB(ta:TE)(tr:TA):TA:=fun σ H Q=>ta σ H fun x H1=>tr σ H1 fun xs H2=>Q (x::xs) H2
section
variable{X:Cx}{e:Expr}[?a5]{te:TE}{t:TA}[?T]
theorem Ae:PA X [] RT:=fun _ _ _ _ H Q I h=>Calls.spliced_nil ⟨[],H,I,?s,h⟩
theorem Aa(ha:?yJ)(hr:?vS)[?A1]:PA X ?bQ (vB te t):=by
 intro pos Ac s σ H Q I h;rw[hs];show ?f _ _ (spliced (?QK::?u9)) _ _ s;refine qq2 (Dh ?k1 ?rP);ext bK;exact Dh (hr pos Ac s1 σ H1 _ I1 q1) fun us s2 ⟨xs,H2,I2,r2,q2⟩=>⟨x::xs,H2,I2,?H r1 r2,q2⟩
structure Ap8(Q:VK)[?a6](H1:Hp):Prop where
 mk::(left:?eI) (right:?YX ?qG)
def wY(t:TA):TE:=?X6 Ap8
structure Ap9(Q:VK)[?a6](H1:Hp):Prop where
 mk::(left:?eI) (right:?YX ?lZ)
def Ay1(t:TA):TE:=?X6 Ap9
theorem B5{x1}(h:?vS):?WG (?q6 es x1 pos) (wY t):=by
 intro Ac s σ H Q I hq;refine ?V9 wpAny_Tuple_spliced;ext T0;refine(?XM ?qG);exact⟨z,us,r,?EZ⟩
theorem Cw(h:?vS):?WG (.List es pos) (Ay1 t):=by
 intro Ac s σ H Q I hq;refine ?V9 wpAny_List_spliced;ext T0;refine(?XM ?lZ);exact⟨z,us,0,r,?fZ⟩
universe e9
noncomputable abbrev Sp:=?o->Hp->?V5 VK XK
noncomputable abbrev rA:=?cJ->Hp->Shared->XK->?gI
structure iR[?d5][?e][?h1][?jF][?mT][?bM](H:Hp):Prop where
 frames:A.frames=?c ?a4
 mod:Mod K mg ?aH
 bs:∀b o,base.get? b=?l->?HC
 bsz:base.objs.size<=s.heap.objs.size
 funs:?pG ?aH ?a4
 frf:∀b∈nC ?a4,?Y
 hok:Qo P w H ?B
 bare:?J0
def CE[?mT][?d5](H:Hp)[?bM](Q:VK)[?dA][?cB]:Prop :=
 ∃v H',?xM/\?lD/\Un (nC ?a4) [] H H' ?B ?dH/\Qo P w H' ?dH/\?cT/\?m6
def CR(CX:rA)[?mT][?d5](H:Hp)[?bM](Q:VK)(E:XK)(r:Result)[?cB]:Prop :=
 match r with
 | .ok (.ret u)=>?P0
 | .ok _=>False
 | .error e=>CX ?a4 H s E e s'
structure Bv[?d5][?e][?h1](CX:rA)(k:Nat)(f:Addr)(fd:FuncData)(ps:?E)(sp:Sp):Prop where
 len:?wJ
 run:∀[?jF] [?mT] [?bM] (H:Hp) (args:Args) [?d7] [?e4] (Q:VK) (E:XK),?jW->?zF->?zI s fd ?cM ?kC->?g6->?kM →
  ?e9 ?gS A (?jU ?c5 ?cM) (CR CX ?a4 P w H s Q E) s
theorem iR.make[?c9][?mG][?D]{outer:?cJ}[?aT]{H:Hp}(e:?zF)[?cC][?d7](kw:?iT) :
 iR P w K mg ?aH (?jX) ?a4 s H:=⟨by first | exact e.frames | (simpa[Around.under,Code.envs,Code.isFrame,pushEnvs]using e.frames),e.mod,e.bs,e.bsz,e.funs,e.frf,e.hok,e.bare⟩
section
variable[?tC][?mY]{s s':Shared}
theorem Bj.env0[?d]:iR ?aB X.w X.K ?d1 ?c3 X.A ?g2 s H :=
 ⟨I.ok.frames,I.ok.mod,I.bs,?GW,I.stack,I.stkFree,?b6,?bX⟩
theorem Bj.after{Q:VK}[?aL][?d](h:CE ?g2 ?aB X.w H s Q u s'):?RH:=by
 obtain⟨v,H',os,bare,un,hok,r,q⟩:=h;obtain⟨hh,g,d,t,os'⟩:=s';obtain rfl:os'=s.os:=os;exact⟨v,H',I.call (h':=hh) (g':=g) (d':=d) (t':=t) (ch:=[]) un hok bare (fun b z=>?v z ?N),r,q⟩
universe e9
def tCall[?sT](t:TA):TE:=fun σ H Q=>t σ H fun vs H1=>sp ?fX H1 Q E
inductive qT[?cC](m:Str)[?sT](t:TA)(σ:St)[?jA]:Prop
 | mk:∀a dx fs,?hV->(?z4)->(?zL)->(t σ H1 fun vs H2=>sp (x::?fX) H2 Q E)->?F6
def IX[?cC](m:Str)[?sT](ta:TE)(t:TA):TE:=?UW ta ?F6
def vA[?cC][?sT](t:TA):TE:=fun σ H Q=>t σ H fun vs H1=>∀x dx,H1 x=none->H1 dx=none->?yA →
 ?VC H1
def M4[?e](fd:FuncData)(ps:?E)(ds:?w):Prop :=
 ∀[?bM] [?d7],?l3->?GI->?zI s fd ?tN (ps.zip (us++ds))
theorem M4.all[?P][?AT](h:∀us:?w,?E6->?KV fd ?tN=?a9 ?kC):?xO:=fun s us _ hl=>by
 rw[qn2]at hl ⊢;exact .of_eq (h us hl)
def Rv(CX:rA)(X:Cx)(E:XK):Prop:=∀(Ac:Bg) (σ:St) (H:Hp) [?bM] (e:Value) [?cB],?A->CX ?g2 H s E e s'->?m e s'
section
variable[?UP][?AT]{sp:Sp}{dvs:?o}{ds:?w}{E:XK}{x m:Str}{p pos apos:Pos}{e o:Expr}[?a5]{ta:TE}{t:TA}
theorem BL[?y]{Q:VK}[?S][?fL][?j0][?fH][?mE]
 [?d] [?tA] (h:sp ?fX H Q E):?UU (call ?c5 us) ?bE:=by
 have r2:?O ?fX (us++ds):=?z8 hd;have hl:?GI:=by rw[←r2.length];exact F.len _ _ _ _ h
 refine wpAny_call (codeAny_mono (F.run X.A X.stack s H ⟨us,[]⟩ (us++ds) (vs++dvs) Q E hr I.env0 (hb s us I.kIn hl) r2 h) fun r s' hq=>?_);cases r with
 | error e=>exact hx Ac σ H s e s' I hq
 | ok fl =>
   cases fl with
   | ret u=>exact I.after hq
   | next=>exact ?yR
   | brk=>exact ?yR
   | cont=>exact ?yR
theorem SV[?j0][?fH](hg:?gT)(hm:?p9=?yC)(hk:?wB X.K ?c5=true)[?mE]
 [?fE] [?j1] [?iY] (hpl:?eN (·.1)=false:=by rfl) :
 PE X ?kJ (tCall sp dvs E t):=by
 ext R;refine qu0 (Wj I hg hm ?_ hdb);refine ?V4 hk;exact BL F hr hb hd hx I1 r q
theorem sS[?sD](hm:?IC)[?j0][?fH][?mE][?fE]
 [?SN] (hpl:?eN (·.1)=false:=by rfl)
 (ht:?RC=(do
   let ov ←?gF
   ?kE
   let ?kO ←?jH
   ?C6):=by rfl) :
 ?ZG dvs E:=by
 ext R;ext RM;refine qr8 (first:=?bR) (h₀:=X.base) ?zB hm.kp (Dh (ha pos Ac s1 σ H1 _ I1 q) fun us s2 ⟨vs,H2,I2,r,q2⟩=>⟨I2.kIn,?_⟩) hst hpl;exact BL (us:=?aM::us) (vs:=?aM::vs) F hr hb hd hx I2 (?H rfl r) q2
theorem oE[?sD](hm:?IC)[?j0][?fH][?mE]
 (ht:?K7=(do
   let ov ←?gF
   ?kE
   let ?kO ←?jH
   ?CE):=by rfl) :
 ?ZF dvs E:=by
 ext R;ext RM;exact PySem.W.callWith_K0 (first:=?bR) I1.kIn hm.kp (BL (us:=?bR) (vs:=?bR) F hr hb hd hx I1 (?H rfl ?s) q)
structure Mk[?e](C f:Addr):Prop where
 makes:?OM
 init:?WM "__init__"=?s3
 fn:?uZ
 kp:?wB K ?bI=true
theorem nX[?y]{Q:VK}[?S][?fL](M:?MN)[?j0](hr:?PN)(hb:?JD)(hd:?GF)
 (hx:?LZ) [?d] [?tA]
 (h:∀x dx,?XW x->?XW dx->?yA->?VC H) :
 ?UU (call ?bI us) ?bE:=by
 have hq:=h ?aZ ?u (?iW (?oT)) (?gE) (qd8 (Nat.lt_succ_self _));have I2:=Bj.made (C:=C) I;have r2:?O (?hP ?aZ::?fX) (?gP ?aZ::(us++ds)):=?H rfl (?z8 hd)
 have hl:(?wR++ds).length=ps.length:=by
  have e:=r2.length;rw[F.len _ _ _ _ hq]at e;exact e.symm
 refine wpAny_call (oY (f:=f) ?aW M.makes M.init (qx2.mp M.fn) (?I7 (F.run _ ?g2 _ _ ⟨?wR,[]⟩ (?gP ?aZ::(us++ds)) _ _ E (hr.make C us [])
  (I2.env0.make C us []) (hb _ (?wR) I2.kIn hl) r2 hq) fun r s' hq'=>?_))
 cases r with
 | error e=>exact hx Ac σ _ _ e s' I2 hq'
 | ok fl =>
   cases fl with
   | ret u =>
     obtain⟨v,H',I3,rv,ev,q3⟩:=I2.after hq';subst ev;exact⟨rv,⟨?hP ?aZ,H',I3,rfl,q3⟩⟩
   | next=>exact ?x5
   | brk=>exact ?x5
   | cont=>exact ?x5
theorem SS(M:?MN)[?j0](hr:?PN)[?UF][?mE]
 [?fE] [?j1] [?iY] (hpl:?eN (·.1)=false:=by rfl) :
 ?WG ?kJ (vA C sp dvs E t):=by
 ext R;refine qu0 (Wj I hg hm ?_ hdb);refine ?V4 M.kp;exact nX M F hr hb hd hx I1 r q
universe e9
section
variable[?UP]{fd:FuncData}{ps ks:?E}{sp:Sp}{E:XK}{x m:Str}{p pos apos kpos:Pos}{e o:Expr}[?a5]{kws:?k3}{te ta:TE}{t tk:TA}{nm:?bH Str}
variable{g:?w->?w->?w}{gV:?o->?o->?o}
universe e9
structure FnScope(N P:?E)(sc:Scope):Prop where
 kind:?rE
 co:?C2
 gen:?QH
 nd:N.Nodup
 pre:N.take P.length=P
 par:?IJ
 nofree:?GV
theorem AV[?sH]:?VS ?jL
 | [],_,_=>rfl
 | ?G1,m,h=>by
   unfold bindL;rw[AV ?FT];split
   . have:x≠n:=?JM
     simp[this]
   . rfl
theorem Bf{N P:?E}{sc:Scope}(h1:?rE:=by exact rfl)(h2:?C2:=by exact rfl)(h3:?QH:=by exact rfl)(h4:N.Nodup:=by ext aK)(h5:N.take P.length=P:=by exact rfl)
 (h6:?IJ:=by ext aK) (h7:?GV:=by ext aK):?xX N P sc:=⟨h1,h2,h3,h4,h5,h6,h7⟩
theorem AW[?sH]:?VS ?jO
 | [],_,_=>rfl
 | ?G1,m,h=>by
   unfold bindC;rw[AW ?FT];split
   . rfl
   . have:x≠n:=?JM
     simp[this]
theorem aW[?sH]{v:Value}:∀{P:?E}[?mU]{i:Nat}[?mP],P.Nodup->?N3->?kS->?cH x=?dM →
 ?jL ?cH (?y2) m x=?C
 | [],_,_,_,_,h,_,_=>?fQ
 | ?fN,[],_,_,_,_,h,_=>?fQ
 | p::P,?pQ,0,m,nd,h1,h2,hk=>by
   simp at h1 h2;subst h1;subst h2;show ?Z3 ?jL p;unfold bindL;rw[AV ?NH,?i8];simp
 | p::P,?pQ,i+1,m,nd,h1,h2,hk=>by
   show ?Z3 ?jL x;unfold bindL;exact ?XL aW
theorem aX[?sH]{v:Value}:∀{P:?E}[?mU]{i:Nat}[?mP],P.Nodup->?N3->?kS->?cH x≠?dM →
 ?jO ?cH (?y2) m x=?C
 | [],_,_,_,_,h,_,_=>?fQ
 | ?fN,[],_,_,_,_,h,_=>?fQ
 | p::P,?pQ,0,m,nd,h1,h2,hk=>by
   simp at h1 h2;subst h1;subst h2;show ?Z3 ?jO p;unfold bindC;rw[AW ?NH,?fW];simp
 | p::P,?pQ,i+1,m,nd,h1,h2,hk=>by
   show ?Z3 ?jO x;unfold bindC;exact ?XL aX
def start(N:?E)[?e4]:St:=vs.map ?c++?aV (N.length-vs.length) ?a3
def iF(CX:rA)[?d5][?e][?h1](N:?E)(qual:Str)(scope:Scope)(f:Addr)(cd:Value)[?jF][?mT][?bM](H:Hp)(E:XK):Cx where
 prog:=P
 w:=w
 K:=K
 mg:=mg
 base:=base
 A:=?LM
 N:=N
 s₀:=s
 H₀:=H
 env:=?m1
 outer:=outer
 stack:=?m1::outer
 ex:=[]
 calm:=true
 fn:=fun _=>true
 pn:=[]
 xe:=fun e s'=>?f ?gS (?LM) (leaving (?m1) e) (fun _ s''=>CX ?a4 H s E e s'') (fun e' s''=>CX ?a4 H s E e' s'') s'
theorem FJ{sc:Scope}{n:Nat}{x:Str}(h:?yM):∃c,(?FU n ?i2 []).lookup x=?bD:=by
 have q:=?L3 ?i2 n [] (?j h);exact Option.isSome_iff_exists.mp q
theorem LW{CX:rA}[?c9][?mG]{N ps:?E}[?UB][?D]{outer:?cJ}{s s1:Shared}{H:Hp}{E:XK}[?S][?fL]
 (S:?G8) (hd:?QD) (e0:?zF) (hl:?ML) [?tA]
 (x:InCallC s ?u (?jL ?HJ ?kC ?gM) (?ND) (?jO ?HJ ?kC ?gM) s1) :
 Bj (?BC) [] ?o2 H s1:=by
 have hpl:ps.length<=N.length:=by have:=?cG ?GM S.pre;rw[qd3]at this;omega
 obtain⟨h1,tk,rfl,hk⟩:=x.done;have noA:∀b:Addr,b ∉ (?BC).ex:=fun b z=>?QX
 refine⟨⟨e0.mod,S.kind,rfl,rfl,?dI,fun y z c h1 h2=>?_,fun y hy=>?_,fun y c _ h=>?_,fun _=>hd,Around.frames_deeper e0.frames,?n ?NF,?KI,e0.bs,e0.bsz,fun b _ _=>noA b,?KI,e0.funs,e0.frf⟩,
  rfl,e0.bare,?xS hk,⟨_,x.toInCall.ns,fun i y v h1 h2 h3=>?_⟩,fun y c h=>⟨_,x.cell y c h⟩,?H7 ?aY,fun y c h=>?_,fun p hp=>?v (show p∈([]:Bg) from hp) ?N,e0.hok.kept hk,?_⟩
 . exact name_of_addr x.apart (qo4 h1) (qo4 h2)
 . have hy:?kA y=?aR\/?kA y=?cK:=hy;rcases hy with hy | hy
   . exact FJ hy
   . exact ?v rfl (S.nofree _ (qo4 hy))
 . exact qd9 (x.above y c (qo4 h))
 . have hi:?xD:=by
    unfold start at h2;by_cases hi:?xD
    . exact hi
    . rw[qb9 (by simpa using hi)]at h2;rw[qk8]at h2;split at h2<;>cases h2
   have ha:?kS:=by
    unfold start at h2;rw[qb5 (by simpa using hi),qb2]at h2;cases e:vs[i]? with
    | none=>rw[e]at h2;cases h2
    | some a=>rw[e]at h2;cases h2;rfl
   obtain⟨u,hu,rv⟩:=?jQ ha
   have hp:ps[i]?=?jZ:=by
    rw[←S.pre,List.getElem?_take_of_lt ?b5];exact h1
   have ndP:ps.Nodup:=by rw[←S.pre];exact S.nd.sublist (List.take_sublist _ _)
   refine⟨u,rv,?_⟩;rcases S.par y (qb7 hp) with k | k
   . exact ?j ⟨k,aW ndP hp hu k⟩
   . obtain⟨c,e⟩:=FJ (n:=?eU) k;refine ?n ⟨?j k,c,e,?_⟩;have q:=x.cell y c e;rw[aX ndP hp hu (by show ?kA y≠_;rw[k];decide)]at q;exact q
 . exact ?H7 (qd9 (x.above y c (qo4 h)))
 . unfold start;show _=N.length;rw[qa9,qa3,qe0];omega
theorem An2{CX:rA}[?c9][?mG]{k:Nat}{f:Addr}{name qual:Str}{params:Arguments}{body:?e7}{scope:Scope}{dV kV doc pm Dp ct oc:Value}{an od:OAddr}
 {osl:Qr}{N ps:?E}{sp:Sp} (lk:?W9 (?Z8 ct)) (hcd:?x8) (S:?G8)
 [?TT]
 (hbody:∀[?A2],?YK ?e0->?kM →
   ∃t,FZ (?UZ Dp) ?gR t/\?KU) :
 Bv P w K mg ?aH CX ?m0 f (?Z8 ct) ps sp:=by
 refine⟨len,fun A outer s H args us vs Q E hr e0 hb r jR=>?_⟩;have hl:=len _ _ _ _ jR;have KX:?l3:=e0.mod.kin.keeps ?BO;have lim:s.heap.NoLimit:=e0.mod.nolimit.keeps ?BO
 have hkind:∀y∈ps.zip us,?kA y.1=?dM\/(?kA y.1=?aR/\((?ND).lookup y.1).isSome=true):=fun⟨n,v⟩ hy=>by
  rcases S.par n (qq9 hy).1 with q | q
  . exact ?j q
  . exact ?n ⟨q,?L3 _ _ _ (?j q)⟩
 refine codeAny_call_function hr.depth (KX _ _ lk) rfl S.co S.gen rfl (PySem.W.codeRec_of KX hcd) (hb _ _ _ _ ?_);refine wpAny_newFunctionEnv_cells S.kind hkind fun env he s1 x=>?_;subst he;refine⟨lim.keeps x.toInCall.keep,codeAny_func ?_⟩;obtain⟨t,ht,hq⟩:=hbody A ?a4 s H vs Q E (hr.deeper _) jR;have I:Bj (?UZ Dp) [] ?o2 H s1:=LW S hr.hd e0 hl r x;refine qp4 (ht [] s1 ?o2 H _ I hq) (fun fl s' hs=>?_) fun e s' hs=>hs
 have fin:∀{σ':St}{H':Hp}{v:V}[?aL],Bj (?UZ Dp) [] σ' H' s'->?cT->?m6->?P0 :=
  fun {σ' H' v u} J rv q=>⟨v,H',J.os,J.bare,J.base,J.hok,rv,q⟩
 cases fl with
 | ret u =>
   obtain⟨v,σ',H',J,rv,q⟩:=hs;exact fin J rv q
 | next =>
   obtain⟨σ',H',J,q⟩:=hs;exact fin (v:=V.non) (u:=Value.none) J rfl q
 | brk =>
   obtain⟨_,_,_,q⟩:=hs;exact ?dY q
 | cont =>
   obtain⟨_,_,_,q⟩:=hs;exact ?dY q
section
variable{X:Cx}{x:Str}{p pos:Pos}{e:Expr}[?a5]{t:TA}{id T:String}{r:?cZ}
def tCB(r:?cZ)(t:TA):TE:=fun σ H Q=>t σ H fun vs H1=>r vs H1 Q
theorem Az(hc:Fd X ?lG r)(hm:?z6)(hv:?n9=?c ?lG)[?fE](hg:?gT:=by rfl)[?sM][?j1]
 [?iY] (hpl:?eN (·.1)=false:=by rfl):?FB:=by
 ext R;refine ?YO I;exact ?V7 PyProof.Rows.callWith_builtin1
theorem Ey(hc:Fd X ?z7 r)(hg:?gT)(hm:?z6)(hv:?n9=?c ?z7)[?fE][?sM][?j1]
 [?iY] (hpl:?eN (·.1)=false:=by rfl):?FB:=by
 ext R;refine ?YO I;exact ?V7 qg2
universe e9
universe L2
namespace HT
open PySem PyProof.Rows
section
open PySem.SeqAt
open PySem.AutoSeq1 (wpAny_loadPart')
open PySem.MeetsSeq PySem.MeetsSeq2 PySem.MeetsSeq3
universe e9
section
variable[?j8][?D][?a0][?aT]
def sIx(n d:Nat):?gA->Nat
 | none=>d
 | ?C=>if v<0 then(v+?eA).toNat else min v.toNat n
theorem sIx_none(n d:Nat):sIx n d ?a3=d:=rfl
theorem sIx_nat(n d k:Nat):sIx n d (?c ?hS)=min k n:=by
 show(if ?hS<0 then(?hS+?eA).toNat else min (k:Int).toNat n)=min k n;rw[?G ?b5,qd6]
universe e9
universe HT
namespace L2
open PySem PySem.Spec PyProof.Rows
noncomputable abbrev TO:=?Z5 ?v2
def PO(X:Cx)(e:?KQ)(t:TO):Prop :=
 ∀[?J] (Q:?v2),?A->?gC →
   ?UU (evalPart e ?g) (fun u s'=>∃o H',?pV/\?v7 u o/\Q o H')
def RS:TO:=?XB ?a3
inductive qS(Q:?v2)(x:V)(H1:Hp):Prop
 | mk:∀i,?rR->(Q (?c i) H1)->?DV
def Ae0(t:TE):TO:=?UW t ?DV
section
variable{X:Cx}[?t6]{lo hi:?KQ}{tl th:TO}{pos p2:Pos}
theorem Nb:PO X ?a3 RS:=by
 ext R;rw[evalPart_none];exact qe2 ⟨?a3,H,I,?aI,h⟩
theorem Gw(h:?yJ):PO X (?c e) (Ae0 te):=by
 intro Ac s σ H Q I hw;rw[evalPart_some];refine Dh (?V3 h hw) ?rP;ext bK;obtain⟨i,rfl,q⟩:=q1;obtain⟨t,rfl⟩:=r1;exact⟨?c i,H1,I1,?h i t,q⟩
def SlR(X:Cx)[?U9]:Prop :=
 ∀[?J] (x:V) (v vl vu:Value) [?mQ] (sl:Addr) (Q:VK),?A->?dK->s.heap.IsSliceOf sl vl vu ?aI->?v7 vl lo->?v7 vu hi->r x lo hi H Q →
   ∃T id,typeLookup ?z7 "__getitem__"=?a9 (?c ?lG)/\s.TypeIs v T/\?UU (?zM v (?k sl)) ?bE
def tSl[?U9](te:TE)(tl th:TO):TE:=fun σ H Q=>te σ H fun x H1=>tl σ H1 fun l H2=>th σ H2 fun u H3=>r x l u H3 Q
theorem Gz{r:?v6}(hr:SlR X r)[?h5](hl:PO X lo tl)(hu:PO X hi th):?WG (?r0 e (.Slice lo hi ?a3 p2) pos) (tSl r te tl th):=by
 ext R;refine ?N6 (Dh ?fR ?gG);ext bK;refine wpAny_Slice (Dh (?V2 hl _) fun vl s2 ⟨l,H2,I2,pl,q2⟩=>Dh (hu Ac s2 σ H2 _ I2 q2) fun vu s3 _z=>?_);obtain⟨u,H3,I3,pu,q3⟩:=_z;rw[evalPart_none];refine qe2 ?_;have I4:?V1 H3 ?uS:=I3.kept (t':=s3.toks) ?NL;obtain⟨T,id,hT,ht,hg⟩:=hr Ac ?uS σ H3 x v vl vu l u ?xN Q I4 r1 (Heap.IsSliceOf.new ..) pl pu q3;show ?f ?i X.A (?G7 e (.Slice lo hi ?a3 p2) v (?k ?xN)) ?bE ?m ?uS;exact tail_any (ops:=[?k ?xN,v]) ht hT hg (by with_unfolding_all rfl)
def C8[?a6][?mQ]:?o:=?Y2 ?tY
theorem fH[?a6][?mQ]:(?PZ).length<=xs.length:=by
 unfold C8;rw[qd3,qh9];exact qa5 (Nat.min_le_right _ _) (Nat.sub_le _ _)
universe e9
def tY(n:Nat)(i:Int):?bH Nat:=if ?iJ then(if i<n then ?c ?wC else none) else if ?yP then ?c ?K4 else none
def aY[?h7](xs:?hJ)(i:Int):?bH α:=(tY ?b7 i).bind fun j=>xs[j]?
theorem JP{n:Nat}{i:Int}{j:Nat}(h:tY n i=?dW):?P2 i n=?dW/\j<n/\?yP/\i<n:=by
 unfold tY at h;by_cases h0:?iJ
 . rw[?Q h0]at h;by_cases h1:i<n
   . rw[?Q h1]at h;have e:?KS:=qb6 h;exact⟨by rw[?yW h0 h1,e],O9m,O9m,h1⟩
   . rw[?G h1]at h;cases h
 . rw[?G h0]at h;by_cases h1:?yP
   . rw[?Q h1]at h;have e:?K4=j:=qb6 h;exact⟨by rw[?x4 ?b5 h1,e],O9m,h1,O9m⟩
   . rw[?G h1]at h;cases h
theorem kC[?h7]{xs:?hJ}{i:Int}{v:α}(h:aY xs i=?C):∃j,?BN=?dW/\xs[j]?=?C/\?vR/\-?q5<=i/\?CA:=by
 unfold aY at h;cases e:tY xs.length i with
 | none=>rw[e]at h;cases h
 | some j =>
   rw[e]at h;obtain⟨h1,h2,h3,h4⟩:=JP e;exact⟨j,h1,h,h2,h3,h4⟩
theorem Bn[?h7]{xs:?hJ}{j:Nat}{v:α}(h:xs[j]?=?C):aY xs (j:Int)=?C:=by
 have hj:?vR:=?EM
 have e:tY ?b7 (j:Int)=?dW:=by
  unfold tY;rw[?tV,?tV];simp
 unfold aY;rw[e];exact h
def KD(b:Expr):Prop:=∀o i,?I2 b ?cL o i=operate [o,i] (?zM o i)
def IxR(X:Cx)(r:R2):Prop :=
 ∀(value slice:Expr) [?J] (x y:V) (v u:Value) (Q:VK),?A->?dK->?kG->?GN →
   ?I2 slice ?cL v u=operate [v,u] (?zM v u)->?UU (?G7 ?hB slice v u) ?bE
def MtR(X:Cx)(id:String)[?sQ]:Prop :=
 ∀[?J] (x:V) [?a6] (v:Value) [?d7] (Q:VK),?A->?dK->?bA->?IP →
   ?FK
section
variable{X:Cx}[?B2][?T]
theorem Bc{r:R2}(hr:IxR X r)[?fA](hs:KD b):?WG (?r0 a b pos) ?qR:=by
 ext R;exact ?N6 (zG ha hb I h fun v u s2 x y H2 I2 rx ry q=>hr a b Ac s2 σ H2 x y v u Q I2 rx ry q (hs _ _))
inductive WH[?e][?d4]:Prop
 | mk:∀p xs i v,(x=?dT)->(y=?t)->(?KN)->(aY xs i=?C)->(Q v H)->?J3
def Ag4[?e]:R2:=?VQ ?J3
inductive wH[?e][?d4]:Prop
 | mk:∀p xs i v,(x=?dT)->(y=?t)->(SqT K H p xs)->(aY xs i=?C)->(Q v H)->?OE
def xH[?e]:R2:=?VQ ?OE
theorem TX:IxR X (Ag4 X.K):=by
 ext RW;obtain⟨its,r,pl,hz⟩:=?eV;ext RS
 by_cases h0:?iJ
 . have hj:?KS:=by
    rw[?yW h0 h5]at h1;exact ?rA
   exact item_listR ?iF h0 O9m (by rw[hj];simpa using ew) fin hs
 . have hj:(i+?KY).toNat=j:=by
    rw[?x4 ?b5 h4]at h1;ext h6;exact ?rA
   exact ?EP (x:=w) ?LX ?LV
    (wpAny_getItem_list_neg (Q:=?CR) ?iF O9m (by rw[qd0]<;>omega) O9m (by rw[hj];simpa using ew) ?BG) hs
theorem yK:IxR X (xH X.K):=by
 ext RW;obtain⟨its,r,pl,hz⟩:=?gX;ext RS
 exact ?EP (x:=w) pl.typeIs slot_tuple_getitem.lookup
  (getItem_tuple (j:=j) (Q:=?CR) pl O9m O9m (by ext h6;exact h1) (by simpa using ew) ?BG) hs
theorem gY[?t4](n j:Nat)[?dA]:?nD (·.setIfInBounds j u) ?y5={ cls:=?b3,data:=?aC (its.set j u).toArray n }:=by
 simp[Obj.mapSeq]
theorem Bj.lst[?y]{p:Addr}[?bL][?d](h:?uN) :
 ∃(its:?w) (n:Nat),?hU/\?ID/\?eI:=by
 obtain⟨z,its,n,r,e⟩:=?b6 p _ h;exact⟨its,n,r,e,z⟩
theorem Bj.lstUpd[?y]{p:Addr}[?mX]{its its':?w}{n n':Nat}{f:Obj->Obj}[?d](h:?uN)
 (ho:?ID) (hf:f ?y5=?EH) (r:?CI) [?AW] (t:Nat) :
 Bj X Ac σ (?VJ p ?f1) { s with heap:=?pI p f,toks:=t }:=by
 have e:(?pI p f).get? p=?c ?EH:=by
  rw[Heap.get?_update_self f ho (by rw[hf]<;>rfl),hf]
 refine ?v4 (x:=p) (e:=p) (by rw[h];trivial) ?dC (fun b u hb q=>(?BX _ _ ?EW).trans q) ⟨_,e⟩ ?_;exact⟨hz,its',n',r,e⟩
inductive qU(o:V)(i:V)(v:V)(H:Hp)(Q:(?a2)):Prop
 | mk:∀p xs k j,(o=?dT)->(i=?h k)->(?uN)->(tY ?b7 k=?dW)->(Q (?VJ p (?p (xs.set j v))))->?P1
def Ag2:V->V->V->?V5 Hp (?a2):=fun o i v H Q=>?P1
theorem Fa:Ap2 X Ag2:=by
 intro Ac s σ H o i v ov iv u Q I ro ri rv h;obtain⟨p,xs,k,j,rfl,rfl,hp,hj,q⟩:=h;cases ro;obtain⟨t,rfl⟩:=ri;obtain⟨its,n,r,ho,hz⟩:=I.lst hp;obtain⟨h1,h2,h3,h4⟩:=JP hj;have hl:=r.length;have hn:=bX
 have I':Bj X Ac σ (?VJ p (?p (xs.set j v))) { s with heap:=?pI p (?nD (·.setIfInBounds j u)) } :=
  I.lstUpd hp ho (gY its n j u) (r.set rv j) (by rw[qj3];exact hz) ?jJ
 by_cases h0:0<=k
 . have hk:k.toNat=j:=by
    rw[?yW h0 h4]at h1;exact ?rA
   exact PySem.W.ki_setAt ho h0 O9m (by ext h6;exact h4) (?ZP q)
 . have hk:(k+?KY).toNat=j:=by
    rw[?x4 ?b5 h3]at h1;ext h6;exact ?rA
   exact PySem.W.ki_setBack ho O9m (by ext h6;exact h3) O9m (?ZP q)
theorem bH[?mQ](n:Nat):(?y0).1=((?fO n 0 lo:Nat):Int)/\(?y0).2.1=((?fO n n hi:Nat):Int)/\(?y0).2.2=1:=by
 refine⟨?_,?_,rfl⟩
 . cases lo with
   | none=>simp[sliceBounds,HT.sIx]
   | some i =>
     ext S4
     . simp only[h,if_true]<;>omega
     . simp only[h,if_false]<;>omega
 . cases hi with
   | none=>simp[sliceBounds,HT.sIx]
   | some i =>
     ext S4
     . simp only[h,if_true]<;>omega
     . simp only[h,if_false]<;>omega
theorem Z4[?t4][?mQ]:slicePick ?L lo hi ?a3=((its.drop (?KZ)).take (?fO ?xR ?xR hi-?KZ)).toArray:=by
 obtain⟨h1,h2,h3⟩:=bH lo hi ?tT;unfold slicePick;rw[h1,h2,h3];simp only[sliceRange_one,pick_run,qd0]<;>rfl
inductive wG[?e](x:V)(lo:?gA)(hi:?gA)[?d9]:Prop
 | mk:∀a xs,?hV->(?dQ)->?Z6 (?DW) ?DM
def Ag1[?e]:?v6:=fun x lo hi H Q=>?DM
theorem RX:SlR X (Ag1 X.K):=by
 intro Ac s σ H x v vl vu lo hi sl Q I rx hs pl pu h;obtain⟨a,xs,rfl,hx,q⟩:=h;cases rx;obtain⟨its,r,ht,hz⟩:=?aX hx;have hlen:=r.length;refine⟨?dL,_,?LV,ht.isList.typeIs,?_⟩;refine wpAny_getItem_list_slice ht.isList hs pl pu ?aI ?N ?_ (by rw[qd0]<;>omega);rw[Z4,←hlen];refine⟨?hG,_,?nC (t':=s.toks) (o:=?DW) (?NL) ?aY ?_,rfl,q _ (?gE)⟩;exact⟨qa5 (fH xs lo hi) hz,_,0,?Y2 r.drop,?fZ⟩
theorem cQ:?WF "len" (fun xs H Q=>∃p ys,?lA/\(?yT\/?tO)/\Q (?h ?nV) H):=by
 ext f8;ext SP;have hn:=bX;rcases hq with hq | hq
 . ext A3;exact Calls.call_len_list ?iF ?k6 ?OV
 . ext AB;have hlen:=r'.length;exact len_tuple pl ?k6 ?OV
theorem CP:Fd X (?b3) (fun xs H Q=>∃p ys,?lA/\(?yT\/?tO)/\?MK):=by
 ext f8;ext SP
 have fin:∀[?t4],?ED->?Q1->∀(h':Heap) (c':Nat),(∀b o',?aP b=?c o'->?iM=?c o') →
  ?tI=?c { cls:=?b3,dict:=none,data:=?aC ?L c',slots:=#[] }->?W3 ?iD ?iI:=fun its r' hz h' c' kp e =>
  ⟨?hG,_,?nC (t':=s.toks) kp ?aY (show ?bO ?aB X.w _ h' _ ?f1 from⟨hz,its,c',r',e⟩),rfl,q _ (?gE)⟩
 rcases hq with hq | hq
 . ext A3;obtain⟨o,ho,hc,n,hd⟩:=pl.isList;exact ?VX ?dC
 . ext AB;have hlen:=r'.length;obtain⟨o,ho,hc,n,hd⟩:=pl;exact ?VX (?n rfl)
theorem i9:Fd X (?dU) (fun xs H Q=>∃p ys,?lA/\((?yT/\?PF)\/(?tO/\Q ?bJ H))):=by
 ext f8;obtain⟨p,ys,rfl,h⟩:=h;obtain⟨u,rfl,rx⟩:=U5 r;cases rx;rcases h with⟨hq,q⟩|⟨hq,q⟩
 . ext A3;refine call_tuple_list ?iF (fun h' kp=>?_) ?k6;have I1:?vJ:=?lX (t':=s.toks) kp
   have I2:Bj X Ac σ (?VJ ?M2 (?K ys)) { s with heap:=h'.push { cls:=?dU,data:=?aC ?L } } :=
    ?tX (t':=s.toks) (?nQ) ?aY (show ?bO ?aB X.w _ _ _ (?K ys) from⟨hz,its,r',Pl.new _ _⟩)
   exact⟨?k ?M2,_,I2,rfl,q _ (I1.hok.fresh ?aY)⟩
 . ext AB;exact call_tuple_same pl ⟨?dT,H,I,rfl,q⟩
def tyV[?e](T:String)(x:V)(H:Hp):Prop:=match x with
 | ?c2=>T=?kL
 | ?dP=>T=?cX
 | ?dT=>(T=?dL/\∃xs,?KN)\/(T=?g9/\∃o,?i6 p=?l/\?wL/\?wN) ∨
    (T=?nI/\((∃kvs,H p=?c (.dK kvs))\/∃kvs,H p=?c (.dT kvs)))\/(T="set"/\∃S n,H p=?c (?MD))
 | _=>False
theorem WV[?y]{T:String}{x:V}{v:Value}[?d](r:?dK)(ty:tyV X.K T x H) :
 s.TypeIs v T/\∀a,?eS->∃ob,?aP a=?c ob/\ob.dict=none:=by
 cases x with
 | str z =>
   ext fD;cases (show T=?kL from ty);exact⟨typeIs_str s z t,?MI⟩
 | int i =>
   ext fD;cases (show T=?cX from ty);exact⟨?xY s i t,?MI⟩
 | ref p =>
   cases r;rcases ty with⟨rfl,xs,hq⟩|⟨rfl,o,hk,hc,hd⟩|⟨rfl,hk⟩|⟨rfl,S,n,hk⟩
   . obtain⟨its,_,pl,_⟩:=?eV;refine⟨?LX,?C9⟩;cases e;obtain⟨o,n,e,c,hd,_⟩:=pl;exact⟨o,e,hd⟩
   . refine⟨⟨o,?aW p o hk,hc⟩,?C9⟩;cases e;exact⟨o,?aW _ o hk,hd⟩
   . have z:∃o,?aP p=?l/\o.ExactDict:=by
      rcases hk with⟨kvs,hk⟩|⟨kvs,hk⟩
      . ext SO
      . ext SO
     obtain⟨o,e,ex⟩:=z;ext SI
   . obtain⟨o,_,_,_,e,ex,_⟩:=?BI;ext SI
 | _=>exact ?dY ty
structure Be8[?e](T:String)[?sQ](t:TA)(σ:St)[?jA]:Prop where
 mk::(left:tyV K T x H1) (right:t σ H1 fun xs H2=>r x xs H2 Q)
def tBM[?e](T:String)[?sQ](to:TE)(t:TA):TE:=fun σ H Q=>to σ H fun x H1=>Be8 K T r t σ Q x H1
variable{o e:Expr}[?a5][?SM]
theorem Ah1[?RX]
 [?ST]
 (hfew:(?GA
   && ?VM 1)=true:=by rfl)
 [?U6] [?A1] (hplain:?vU (·.1)=false:=by rfl) :
 ?WG (?ZK o) (tBM X.K T r to t):=by
 ext R;refine wpAny_Call_method_late hbase hfew hline rfl (Dh (?V3 ho h) ?gG);obtain⟨x,H1,I1,r1,ty,q1⟩:=_z;obtain⟨h1,h2⟩:=WV I1 r1 ty;refine⟨T,id,pa,slot,hty,h1,h2,?_⟩;have hA:=ha cpos Ac s1 σ H1 _ I1 q1;rw[hs]at hA ⊢;refine qn6 (by show(false || ?vU (·.1))=false;rw[hplain]<;>rfl) (qs1 ?_);exact Dh hA fun us s2 ⟨vs,H2,I2,r2,q2⟩=>hm Ac s2 σ H2 x vs v us Q I2 r1 r2 q2
universe e9
def MtM(X:Cx)(id:String)[?sQ]:Prop :=
 ∀[?J] (x:V) [?a6] (v:Value) [?d7] (Q:VK),?A->?dK->?bA->?IP →
   ?FK
theorem Vals.one:∀{x:V}[?S],?PB->?M6
 | _,_,?H r ?s=>?OA
theorem Vals.eraseIdx:?YY (?LY i) (us.eraseIdx i)
 | _,_,_,?s=>?s
 | _,_,0,?nS=>t
 | _,_,i+1,?iU=>?H r (Vals.eraseIdx i t)
theorem Vals.rep[?bL][?S](h:?bA):∀k:Nat,?O (?HH).flatten (?aV k us).flatten
 | 0=>?s
 | k+1=>by
   rw[qh0,qh0,ql1,ql1];exact ?CN h (Vals.rep h k)
theorem AD[?h7]:∀(l:?hJ) (i:Nat),(l.eraseIdx i).length<=l.length
 | [],_=>?dI
 | ?fN,0=>?oT
 | _::r,i+1=>qj5 (AD r i)
theorem aN[?t4]:∀(k:Nat) (acc:?w),
 ?zH (fun x1 x2=>x1++x2) acc.toArray (?aV k ?L)=(acc++?FD).toArray
 | 0,acc=>?aE
 | k+1,acc=>by
   have e:acc.toArray++its.toArray=(?yE).toArray:=?aE
   have e2:(?yE)++?FD=acc++(?aV ?m0 its).flatten:=by
    rw[qh0,ql1,qj9]
   rw[←e2,←aN its k (?yE),←e,qh0,List.foldl_cons]
section
variable{X:Cx}[?y]{l b:Addr}{xs ys zs:?o}
theorem Bj.lset{its its':?w}{n:Nat}{f:?dS->?dS}[?e5][?d](hH:?hE)
 (e:?G2) (hf:f ?L=its'.toArray) (hv:?CI) [?AW] :
 Bj X Ac σ (?VJ l ?f1) { s with heap:=?pI l (?nD f),toks:=t' }:=by
 have q:=PySem.IsL.update e f;rw[hf]at q;refine ?v4 (x:=l) (e:=l) (by rw[hH];exact trivial) ?dC (fun b' u hb hu=>(?BX ?B (?nD f) ?EW).trans hu) ⟨_,q⟩ ?_;exact⟨hz,its',_,hv,q⟩
theorem Bj.lnew{its:?w}[?e5][?d](hv:?ED)[?AW] :
 Bj X Ac σ (?VJ ?u ?f1) { s with heap:=?lC { cls:=?b3,data:=?aC ?L },toks:=t' } :=
 ?nC (fun _ _ q=>?l9) ?aY ⟨hz,its,0,hv,?fZ⟩
theorem Bj.fresh[?d]:?kV:=?gE
theorem Bj.lstM[?d](hH:?hE):?eI/\∃(its:?w) (n:Nat),?hU/\xs.length=its.length/\?G2:=by
 obtain⟨z,its,n,r,e⟩:=?b6 l _ hH;exact⟨z,its,n,r,r.length,e⟩
theorem oQ{n:Nat}(h:?tF):?HR n=false:=by
 unfold Builtin.List.listTooLong;exact qk2 O9m
universe e9
section
variable{X:Cx}
inductive FW(x:V)[?e4][?d9]:Prop
 | mk:∀l xs y,?oZ->(vs=[y])->(?hE)->(xs.length<sizeLine)->(Q ?x (?VJ l (?p (xs++[y]))))->?J6
def sI:?pD:=fun x vs H Q=>?J6
theorem Kb:MtM X "list.append" sI:=by
 intro Ac s σ H x vs v us Q I rx rv h;obtain⟨l,xs,y,rfl,rfl,hH,hz,q⟩:=h;cases rx;obtain⟨u,rfl,ru⟩:=rv.one;ext AA;refine ?qO F.slot_list_append ?l5 F.entry_list_append (F.args_list_append_2 _ _) (PySem.list_append l ?L n u (by rw[qd0];omega)) ?v5;refine⟨?x,_,I.lset (its':=its++[u]) hH e ?N (?z8 (?H ru ?s)) ?_,rfl,q⟩;rw[qa9,qv1];omega
inductive KG(x:V)[?e4][?d9]:Prop
 | mk:∀l xs i k y,?oZ->(vs=[?t])->(?hE)->(-(?iS)<=i)->(i<?iS)->(?BN=?c k)->(xs[k]?=?jZ)->(Q y (?VJ l (?p (?LY k))))->?LQ
def XG:?pD:=fun x vs H Q=>?LQ
theorem EL:MtM X "list.pop" XG:=by
 intro Ac s σ H x vs v us Q I rx rv h;obtain⟨l,xs,i,k,y,rfl,rfl,hH,h1,h2,hk,hy,q⟩:=h;cases rx;obtain⟨u,rfl,ru⟩:=rv.one;obtain⟨t,rfl⟩:=ru;ext AA;obtain⟨w,hw,rw'⟩:=?jQ hy
 refine ?qO F.slot_list_pop ?l5 F.entry_list_pop (F.args_list_pop_2 _ _)
  (MeetsSeq.list_pop_at l ?L n i t k w (?HG) (by ext h6;exact hk) (by rw[←Array.getElem?_toList];exact hw) (by rw[qd0];omega)) ?v5
 refine⟨y,_,I.lset (its':=its.eraseIdx k) hH e ?_ (r.eraseIdx k) ?_,rw',q⟩
 . show its.toArray.eraseIdxIfInBounds k=(its.eraseIdx k).toArray;rw[List.eraseIdxIfInBounds_toArray]
 . have:=AD xs k;omega
inductive WG[?d4]:Prop
 | mk:∀l k xs,?oZ->(y=?h k)->(?hE)->(-(?iS)<=k)->(k<?iS)->(xs.length*k.toNat<=sizeLine)->?Z6 (?p (?aV ?rI xs).flatten) ?KB
def Az5:R2:=?VQ ?KB
theorem tS[?h7](xs:?hJ)(k:Nat):(?HH).flatten.length=k*xs.length:=by
 induction k with
 | zero=>simp
 | succ k ih=>rw[qh0,ql1,qa9,ih,Nat.succ_mul,qx9]
theorem X2:?WH (?dV .Mult) Az5:=by
 ext f5;obtain⟨l,k,xs,rfl,rfl,hH,h1,h2,hz,q⟩:=h;cases rx;ext mN;ext AA;have hlen:?WZ ?x3:=by ext h6;exact hz
 have hcap:¬?x3 > ?PI:=by
  have:?DH<=?PI:=?kH
  omega
 have hfit:¬?ZQ (!Builtin.List.listFitsIndex k):=by
  rw[?HG];exact qe1
 have Al1:¬?HR (?x3)=true:=by
  rw[oQ hlen];exact qe1
 have hnew:?VY (if ?ZQ its.toArray.isEmpty then 0 else k.toNat) ?rI:=by
  have f0:∀m:Nat,?VY m m:=fun m=>by
   have:=aN its m [];rw[qn1]at this;exact this
  rw[f0];cases its with
  | nil=>simp
  | cons a r'=>rw[?G ?N]
 refine wpAny_binaryOp_repeat_ref (T:=?dL) (U:=?cX) ?bF ?l5 (fun s'=>?xY s' k t) noFill_list_mul F.fills_int_mul ?BL repeat_list F.slot_int_index.lookup
  (?qO ?BL (?xY s k t) F.entry_int_rmul (F.args_int_rmul_2 _ _) (int___rmul___int_list k t l ?L n)
    ⟨e,rfl,?l5,?qO F.slot_list_mul ?l5 F.entry_list_mul (F.args_list_mul_2 _ _) (AutoListH.list___mul___list_int_3 l ?L n k t hfit hcap Al1) ?v5⟩)
 rw[hnew];exact⟨?k _,_,I.lnew (t':=s.toks) (r.rep ?rI) (by rw[tS,Nat.mul_comm];exact hz),rfl,?II⟩
universe e9
section
variable[?j8][?D][?a0][?aT]
universe e9
section
variable{X:Cx}
universe e9
universe L2
namespace Att
open PySem PySem.W PySem.Calls PyProof.Rows
theorem V3{P:Params}[?aN]:∀[?fI] (vs:?w),WellAll P h vs (?cY WData.int)->?m9:=by
 intro ns
 induction ns with
 | nil =>
   intro vs w;rw[qy0]at w;cases w;exact ?s
 | cons n ns ih =>
   intro vs w;rw[qc8]at w;cases w with
   | cons a b =>
     cases a;exact ?H _ _ (ih _ b)
theorem script_of{l:OpenLaw}{n:Nat}[?B8]{P:Params}[?aN]{args:?DT}{vals:?w}
 (hpre:l.row.toRowW.claim.pre ?cM=true) (hwl:WellAll P h vals ?cM) :
 ∃a vs ns,vals=[?gP a]/\args=[?VR WData.list]/\?bW=?c ?nK/\?m9/\?r7:=by
 have hsh:WShape.hasAll [] ?cM [.list ?h]=true:=(?KL).1;have hc:l.pre.holds [] { args:=args }=true:=(?KL).2;obtain⟨d,r,rfl,h1,h2⟩:=hasAllW_cons hsh;obtain rfl:=hasAllW_nil h2;obtain⟨xs,rfl,h3⟩:=hasW_list h1;obtain⟨ns,rfl⟩:=items_int h3
 have hlen:?r7:=by
  unfold OpenLaw.pre at hc
  have h4:(WTm.not (.lt (.lit (?h ?eA)) (.len (.arg 0)))).holds [] { args:=[.list (?cY ?h)] }=true:=by
   have h4:=(holds_andW hc).1;rw[hn]at h4;exact h4
  have h5:=condW_of h4 (w_not (w_lt w_lit (w_len_list (w_arg rfl))));rw[qa3]at h5;refine qh7 fun q=>?_;have q':?eA<((ns.length:Nat):Int):=O9m
  first
   | (rw[qf6 q']at h5;exact ?v h5 ?bF)
   | (simp at h5;omega)
 cases hwl with
 | cons w1 w2 =>
   cases w2;cases w1 with
   | list ho hall=>exact⟨_,_,ns,rfl,rfl,ho,V3 ns _ hall,hlen⟩
theorem post_true(l:OpenLaw)(args:?DT):l.row.toRowW.claim.post ?cM ?i3 ?cM=true :=
 postW_of (r:=l.row.toRowW) (X:=(true==true))
  (show WShape.has [] ?i3 ?cO=true by first | rfl | decide | simp[WShape.has,WShape.arms,WShape.armsAll])
  (show(WTm.eq .res (.lit ?i3)).value [] { args:=args,res:=?c ?i3,after:=args }=?c (?cO (true==true)) from w_eq_bool (w_res rfl) w_lit) rfl
section
variable[?j8][?D][?a0][?aT]{K:Frag}
universe e9
universe Att
namespace L2
open PySem PySem.Spec PyProof.Rows
theorem o8:∀[?mU][?fJ],?m9->?O ?jS vs
 | _,_,?s=>?s
 | _,_,?H n t h=>?H ⟨t,rfl⟩ (o8 h)
def ZJ(H:Hp):Prop:=∀b,?Y\/∃o xs,H b=?c (.frz o ?lZ)
theorem pI[?c9]{mg mb:?bZ}{CX:rA}{k:Nat}{fa a:Addr}{fd:FuncData}{x:Str}{sp:Sp}{s₁:Shared}[?mU][?fJ]
 (KX:K.In ?fY) (hns:?xK ?vG mg) (hb:?xK ?N5 mb) (hbb:?D3) (hlim:s₁.heap.NoLimit) (hg:?KT)
 (ha:?JF) (hi:?m9) (hl:?IY) (hr:?JJ)
 (F:∀base:Heap,?O7->?u5->Bv P w K mg ?aH CX k fa fd [x] sp) (hbind:?MM)
 (jR:∀H:Hp,ZJ H->?rC->sp ?bR H (fun v _=>v=?lY) ?hC)
 (hCX:∀H e s',CX [] H ?dN (?hC) e s'->False) :
 ?N7:=by
 have rv:=o8 hi;have A22:=hi.length
 have core:∀H:Hp,ZJ H->?rC->Qo P w H ?fY->(∀b,H b≠none->b=a)->(?J5->?i6 a=none) →
  ?N7:=by
  intro H hO hS hok hA hK;have KA:∀[?jD],?OF->?Y->(?kN).get? b=?l:=fun e n=>PM e n
  have noA:∀[?jD]{es:?hR DictEntry}{ep:Nat},?OF->?CP->?Y:=fun {b o es ep} e d=>by
   cases q:H b with
   | none=>rfl
   | some u =>
     have e':b=a:=?DF;subst e';rw[ha]at e;cases e;have d':?NS ?vF _=Data.dict es ep:=d;cases d'
  have nsK:∀{b:Addr}[?mP],?xK b m->(?kN).Ns b m:=fun {b m} ⟨o,es,ep,e,d,r⟩=>⟨o,es,ep,KA e (noA e d),d,r⟩
  have hKb:K.In (?kN):=fun b o e=>KA (KX b o e) (by
   cases q:H b with
   | none=>rfl
   | some u =>
     have e':b=a:=?DF;subst e';rw[hK (?tJ)]at e;cases e)
  have hM:Mod K mg (?kN):=⟨hKb,nsK hns,⟨mb,nsK hb,hbb⟩,let ⟨mc,h1,h2⟩:=hlim;⟨mc,nsK h1,h2⟩⟩
  have e0:iR P w K mg (?kN) ?r8 [] ?dN H:=⟨rfl,hM,fun b o e=>TF e,qm4 (MA _ _),trivial,fun b hb=>?v (show b∈([]:?X) from hb) ?N,hok,.of_eq hg⟩
  refine codeAny_mono ((F _ hKb (nsK hns)).run callerA [] s₁ H ⟨[.ref a],[]⟩ [.ref a] [.ref a] _ _ hr e0 (hbind s₁ (.ref a)) (.cons rfl .nil) (jR H hO hS)) fun r s' h=>?_;cases r with
  | error e=>exact(hCX H e s' h).elim
  | ok fl =>
    cases fl with
    | next=>exact ?dY h
    | brk=>exact ?dY h
    | cont=>exact ?dY h
    | ret u =>
      obtain⟨v,H',os,bare,un,A50,r',q⟩:=h;have q':v=.bl true:=q;subst q';obtain rfl:u=Value.bool true:=r';refine⟨rfl,OldK.of_keep fun b o e=>?_,os,bare⟩;cases q:H b with
      | none=>exact un.keep b o e q (by intro z;exact ?QX) ?N
      | some u =>
        rcases hO b with z|⟨ob,xs,z⟩
        . rw[q]at z;cases z
        . have z2:=un.frzs b ob _ z;obtain⟨e1,_⟩:=hok b _ z;obtain⟨e2,_⟩:=A50 b _ z2;rw[e]at e1;cases e1;exact e2
 cases hk:K.lookup a with
 | some o =>
   have e:=KX a o hk;rw[ha]at e;cases e;refine core (?gM) (fun _=>?pN) (?n ⟨_,?vF,_,hk,rfl,rfl,rfl,by rw[qd0,A22];exact hl,?DR⟩) (fun b u z=>by have z':(none:?zA)=?M:=z;cases z') (fun b z=>?H1) fun z=>?H1
 | none =>
   refine core (fun b=>if b=a then ?c (.frz ?nK (?p ?jS)) else none) (?JH) (?j (?n ⟨?nK,?Q rfl⟩)) (fun b u z=>?_) (fun b z=>?_) fun _=>hk
   . by_cases hb:b=a
     . exact ?n ⟨_,_,?Q hb⟩
     . exact ?j (?G hb)
   . by_cases hb:b=a
     . have z':=(?Q hb).symm.trans z;cases z';subst hb;exact⟨ha,?EB,vs,_,rv,ha⟩
     . have z':=(?G hb).symm.trans z;cases z'
   . by_cases hb:b=a
     . exact hb
     . exact ?v (?G hb) z
def Eh(s:Stmt)(j:Nat):Stmt:=match s with
 | .ClassDef _ _ _ ?gR _ _ _ _ _ _ _=>body.getD j (?R1)
 | _=>?R1
def Ik(s:Stmt):Arguments:=match s with
 | ?xB _ a _ _ _ _ _ _ _ _=>a
 | _=>{ posonlyargs:=[],args:=[],vararg:=none,kwonlyargs:=[],kw_defaults:=[],kwarg:=none,defaults:=[] }
def F7(s:Stmt):?e7:=match s with
 | ?xB _ _ b _ _ _ _ _ _ _=>b
 | _=>[]
def As(s:Stmt):Scope:=match s with
 | ?xB _ _ _ _ _ _ sc _ _ _=>sc
 | _=>{ kind:=?i1,names:=[],isGenerator:=false,isCoroutine:=false }
noncomputable abbrev Ei:rA:=fun _ _ _ _ _ _=>False
noncomputable abbrev E0:XK:=?hC
theorem DW{X:Cx}:Rv Ei X E0:=fun _ _ _ _ _ _ _ h=>h.elim
structure Eo[?e](x qual:Str)(st:Stmt)(f:Addr)(fd:FuncData):Prop where
 ex:∃(oc:Value) (od:OAddr) (kV doc pm:Value) (an:OAddr) (Dp ct:Value) (osl:Qr),
  fd=?oM/\?W9 fd/\?x8
 kp:?s2
section
variable[?c9][?mG]
theorem Eo.ok[?S2][?TT]
 (hbody:∀(Dp:Value) [?A2],?E2->?kM →
   ?FV):?L6:=by
 ext SW;refine An2 lk hcd S len fun A outer s H vs Q E hr jR=>?_;obtain⟨t,h,q⟩:=hbody Dp A ?a4 s H vs Q E hr jR;exact⟨t,h.nox,q⟩
theorem Eo.okZ[?S2]
 (hbody:∀(Dp:Value) [?A2],?E2->?kM →
   ?FV) (len:?wJ:=by intro vs H Q E h;(repeat (rcases h with⟨⟩;rename_i h));all_goals first | exact ?cG ?GM (by assumption) | (subst_vars;rfl)):?L6:=F.ok S len hbody
theorem Eo.binds[?US][?AT](F:?KG)
 (h:∀(kV doc pm:Value) (an:OAddr) (Dp ct:Value) [?d7],?E6->?KV (?oM) ?tN=?a9 ?kC):?xO:=by
 ext SW;exact .all (h kV doc pm an Dp ct)
theorem cF[?US]{oc:Value}{od an:OAddr}{osl:Qr}{kV doc pm Dp ct:Value}(l:?W9 (?oM))
 (c:?x8) (k:?s2):Eo K x ?aQ st f (?oM):=⟨⟨oc,od,kV,doc,pm,an,Dp,ct,osl,rfl,l,c⟩,k⟩
universe e9
section
variable{X:Cx}
theorem pv(i:Nat){x:Str}[?T](hN:?hX:=by rfl)(hv:?qD:=by first | exact ?CY | exact ?yN (?CY) | exact ?yN (?yN rfl))[?j2]
 [?U2]:?HP:=xO hN hv hd hcd
universe e9
theorem ite2[?AV](h1:c->A)(h2:¬c->B):?zK:=by
 by_cases h:c
 . rw[?Q h];exact h1 h
 . rw[?hH];exact h2 h
def Same(H H':Hp):Prop:=∀b o,?DB
theorem Same.refl(H:Hp):?c1 H H:=fun _ _ h=>h
theorem Same.trans{H H1 H2:Hp}(a:?rT)(b:?z1):?c1 H H2:=fun c o h=>b c o (a c o h)
theorem Same.free[?dB](e:?cQ){l:Addr}(h:H' l=Option.none):H l=Option.none:=by
 cases q:H l with
 | none=>rfl
 | some o =>
   rw[e l o q]at h;cases h
theorem Same.seq[?P][?dB][?U][?bL](e:?cQ)(h:?dQ):SqL K H' a xs:=by
 rcases h with(h|⟨o,h⟩) | h
 . exact ?j (?j (e _ _ h))
 . exact ?j (?n ⟨o,e _ _ h⟩)
 . exact ?n h
def i8(cells:?fS):?rG->?fS->?fS
 | [],acc=>acc
 | ?vO,acc=>i8 cells r (if ?vW then(n,(?nN n).getD 0)::acc else acc)
theorem Zh{sc:Scope}{env:Env}(h:∀n,?tW->?BZ):closureFor sc env=?ZN ?i2 []:=by
 have all:∀(l:?rG) (acc:?fS),(∀n,?wO∈l->?BZ) →
  (forIn l acc fun(x:?QN) (cs:?fS)=>match x with
    | (?V,kind)=>if ?ZQ (?XD kind) then(do let c ←cellOf env ?V;?a9 (?rW ((?V,c)::cs))) else ?a9 (?rW cs))=(?ZN l acc:Sem _):=by
  intro l
  induction l with
  | nil=>intro acc _;rfl
  | cons x r ih =>
    intro acc hl;obtain⟨n,k⟩:=x;rw[List.forIn_cons];ext AD
    . ext U4
      subst hk';obtain⟨c,hc⟩:=hl n qb1;have e1:cellOf env n=?a9 c:=by unfold cellOf;rw[hc]
      simp only[beq_self_eq_true,if_true,e1,pure_bind];rw[?LB];show _=(?ZN r (if (?XD NameKind.free)=true then ?BD else acc):Sem _)
      rw[?Q ?N,hc];rfl
    . have hk2:(?yL)=false:=?C4
      simp only[hk2,qs2,if_false,pure_bind];rw[?LB];show _=(?ZN r (if ?vW then ?BD else acc):Sem _)
      rw[?fW]
 have:=all ?i2 [] h;unfold closureFor;dsimp only;rw[this,pure_bind]
theorem Gi[?UJ]{c:Addr}:∀[?TU],(∀n,?wO∈l->∃c,?nN n=?bD) →
 (acc.lookup x=?bD->?EC)->?YT x->?EC
 | [],_,_,ha,h=>ha h
 | ?vO,acc,hl,ha,h=>by
   refine Gi (l:=r) (?O4) ?_ h;ext AD
   . rw[?i8];ext U4
     subst hk';obtain⟨d,hd⟩:=hl n qb1;intro e;rw[qq4]at e;cases hx:x==n with
     | true =>
       rw[hx]at e;have hxn:x=n:=?rN
       subst hxn;rw[hd]at e ⊢;exact e
     | false=>rw[hx]at e;exact ha e
   . rw[?fW];exact ha
theorem Zi[?UJ]:∀[?TU],(?yX∈l\/∃c,acc.lookup x=?bD)->∃c,?YT x
 | [],_,h=>by
   rcases h with h | h
   . exact ?pE
   . exact h
 | ?vO,acc,h=>by
   refine Zi (l:=r) ?_;ext AD
   . rw[?i8];by_cases hx:?ZQ (x==n)
     . exact ?n ⟨(?nN n).getD 0,by rw[qq4,hx]⟩
     . have hx2:?XC x n:=?rN
       rcases h with h|⟨c,h⟩
       . ext AQ
         . have e1:x=n:=?cG Prod.fst e;exact ?v (by simp[e1]) hx
         . exact ?j e
       . exact ?n ⟨c,by rw[qq4,hx2];exact h⟩
   . rw[?fW];rcases h with h | h
     . ext AQ
       . have e2:NameKind.free=k:=?cG Prod.snd e;exact ?v (by simp[←e2]) hk
       . exact ?j e
     . exact ?n h
def Fb(X:Cx)[?AZ][?cC](s₀:Shared)(H₀:Hp)[?t7]:Cx where
 prog:=X.prog
 w:=X.w
 K:=X.K
 mg:=X.mg
 base:=X.base
 A:=X.A
 N:=N'
 s₀:=s₀
 H₀:=H₀
 env:=compEnvC sc (?yB) C ?g
 outer:=X.stack
 stack:=X.stack
 ex:=fp
 fn:=fun _=>false
 calm:=X.calm
 pn:=[]
 xe:=?gW
def II[?sV](σ:St):St:=cap.map ?JG
structure Vs(X:Cx)[?AZ][?sV]:Prop where
 kind:?rE
 len:?C3
 nocell:?BF
 locals:∀x∈sc.names,?L7
 free:∀n,?tW->?kD n=?aR\/?kD n=?cK
 slots:∀(i j:Nat) (x:Str),N'[i]?=?c4->cap[i]?=?c (?dW)->X.N[j]?=?c4/\(?FJ)/\?qD
section
variable[?mD][?y]{C:Addr}[?d8]
theorem Vs.cells[?t1](ok:X.Ok):∀n,?tW->∃c,?qB n=?bD:=fun n hn=>ok.has n (c.free n hn)
theorem K8{env:Env}{x:Str}{k:NameKind}(hnc:?BF)(h:(relabel sc env).names.lookup x=?c k)(hk:k=?p7\/k=?jY):?IL:=by
 have all:∀(l:?rG),(∀x∈l,?w0)->(l.map fun ?fT=>if (?yL&&?BB&&?Q2) then ?uG else ?fT).lookup x=?c k->?yX∈l:=by
  intro l
  induction l with
  | nil=>intro _ h;exact ?pE
  | cons p r ih =>
    intro hn h;obtain⟨n,q⟩:=p;rw[qc8,qq4]at h;by_cases hc:?ZQ (?XD q&&?BB&&?Q2)
    . have hq:q=NameKind.free:=by
       have:=hc;simp only[qd2]at this;simpa using this.1.1
      simp only[hc,if_true]at h;cases hx:x==n with
      | true =>
        have e:x=n:=?rN
        rw[e,hq];exact qb1
      | false =>
        rw[hx]at h;ext TL
    . simp only[hc]at h;cases hx:x==n with
      | true =>
        have e:x=n:=?rN
        simp only[qs2,if_false,hx]at h;have e2:q=k:=?zQ
        rcases hk with z | z
        . exact ?v (e2.trans z) (hn (n,q) qb1)
        . rw[e,←z,←e2];exact qb1
      | false =>
        simp only[qs2,if_false,hx]at h;ext TL
 exact all ?i2 hnc h
theorem uL[?t1][?d](hC:?v9)[?h2][?UH]:(?OK).Ok where
 mod:=I.ok.mod
 kind:=c.kind
 glob:=I.ok.glob
 blt:=I.ok.blt
 above:=hC
 inj:=fun x y a hx hy=>?I5 x y a (?W8 hx) (?W8 hy)
 has:=fun x hx=>by
  refine Zi (?j ?_);rcases hx with hx | hx
  . exact K8 ?kK hx ?dC
  . exact K8 ?kK hx (?n rfl)
 cab:=fun _ _ h=>?pE
 hd:=I.ok.hd
 frames:=I.ok.frames
 stk:=?pN
 exf:=fun b hb'=>⟨?X5 (?K5) hC,fun x a e=>(?rV).2.2.2.2.1 x a (?uQ)⟩
 bs:=I.bs
 bsz:=?GW
 noex:=fun b o e hb'=>by
  rcases (?rV).2.2.2.1 with z | z
  . exact ?wF b o e z
  . exact ?W4 ?dF (qa5 ?vN z)
 exfs:=fun b hb' z=>by
  obtain⟨_,f1,f2,_⟩:=?rV;rcases ?zJ with e | e
  . exact f1 e
  . exact f2 e
 funs:=I.stack
 frf:=I.stkFree
theorem QH[?t1][?d]{D:Addr}{h1:Heap}{t:Nat}(hC:C=?eU)(hD:D=s.heap.objs.size)[?h2][?UH]
 (hn:h1.Ns C ?gM) (hl:?nE D=?YH 0) (k:∀b o,?cR->?nE b=?l) :
 Bj (?OK) [] ?oO (?VJ D ?eF) { s with heap:=h1,toks:=t }:=by
 have hCs:?v9:=?BM
 have hCD:C≠D:=by rw[hC,hD];exact qu1 _
 have ok:=uL (C:=C) (fp:=fp) c I hCs hf hb;have hDn:?hW:=by rw[hD];exact I.fresh
 have ltc:∀x a,(?yB).lookup x=?p5->?M9:=fun x a e=>?uQ;have cel:∀a v,?qK a v->h1.IsCell a v:=fun a v ?xZ=>⟨o,k a o ho,hd⟩
 have ltD:∀a v,?qK a v->a≠D:=fun a v ?xZ=>by rw[hD];exact qd8 (qc2 ho)
 refine⟨ok,rfl,?bX,Un.laid k (by rw[hD];exact ?dI) hDn,(?YB hn ?F5),?EU,?_,?EU,?BA,?_,?_⟩
 . have e2':cap[i]?.map (?JG)=?u6:=by
    have:=e2;unfold II at this;rw[qb2]at this;exact this
   cases hc:cap[i]? with
   | none=>rw[hc]at e2';cases e2'
   | some o =>
     rw[hc]at e2';cases o with
     | none=>cases e2'
     | some j =>
       have e4:?Q9=?C:=by simpa using e2'
       obtain⟨q1,q2',q3⟩:=c.slots i j x e1 hc;have q2:?IL:=q2'.elim (fun z=>K8 ?kK z ?dC) fun z=>K8 ?kK z (?n rfl);obtain⟨m,hm,hl'⟩:=I.loc
       have e5:σ[j]?=?u6:=by
        cases z:σ[j]? with
        | none=>rw[z]at e4;cases e4
        | some y=>rw[z]at e4;cases y with
          | none=>cases e4
          | some y'=>cases e4;rfl
       obtain⟨u,r,l⟩:=hl' j x v q1 e5 q3;refine ?P4;obtain⟨a,ha⟩:=Zi (cells:=X.env.cells) (l:=sc.names) (acc:=[]) (x:=x) (?j q2);have kd:?GP:=c.free x q2;rcases l with⟨hk,_⟩|⟨hk,a',ha',hcell⟩
       . rcases kd with z | z<;>rw[z]at hk<;>cases hk
       . have e6:a'=a:=by
          have:=ltc x a ha;rw[ha']at this;exact ?MO
         refine ?n ⟨q2',a,ha,?_⟩;rw[←e6];exact cel _ _ hcell
 . obtain⟨v,z⟩:=?Q7;exact⟨v,cel a v z⟩
 . show upd H D ?eF C=none;rw[An hCD];exact ?iW hCs
 . show upd H D ?eF a=none;obtain⟨v,z⟩:=?Q7;rw[An (ltD a v z)];exact ?d0 x a (ltc x a e)
 . exact ?OB k (by rw[hD];exact ?dI) ⟨?mA,[],0,?s,hl⟩
 . show(?GC).length=N'.length;unfold II;rw[qa3,c.len]
universe e9
def UM(sX:Scope)(N:?E)[?AZ][?sV]:Bool :=
 ?q (?rE)&&?q (?C3)&&?YR (?w0)&&?YR (?L7) &&
 ?YR (x.2=NameKind.free->(?lL x.1=?aR\/?lL x.1=?cK)) &&
 (?wT).all (fun p=>match p.2 with
   | none=>true
   | ?dW=>?q (N[j]?=?c p.1)&&?q ((?VA ?aR) ∨
      (?VA ?cK)) &&
     ?q (?wX=?dM\/?wX=?aR\/?wX=?cK))
theorem JX[?mD](h:?PH):?pU:=by
 unfold UM at h;rw[qd2,qd2,qd2,qd2,qd2,qf2,qf2,qf2,qf2]at h;obtain⟨⟨⟨⟨⟨h1,h2⟩,h3⟩,h4⟩,h5⟩,h6⟩:=h;refine⟨qe3 h1,qe3 h2,fun x hx=>qe3 (h3 x hx),fun x hx=>qe3 (h4 x hx),fun n hn=>qe3 (h5 _ hn) rfl,fun i j x e1 e2=>?_⟩
 have hm:(x,?dW)∈?wT:=by
  have e:(?wT)[i]?=?c (x,?dW):=by
   rw[List.getElem?_zip_eq_some];exact⟨e1,e2⟩
  exact qb7 e
 have h7:=h6 _ hm;dsimp only at h7;rw[qd2,qd2]at h7;obtain⟨⟨h8,h9⟩,h10⟩:=h7;exact⟨qe3 h8,qe3 (p:=?FJ) h9,qe3 (p:=?VL ?dM\/?VL ?aR\/?VL ?cK) h10⟩
def PTs(X:Cx)(ifs:?eL)(t:TT):Prop :=
 ∀[?J] [?j9],?A->?gC →
   ?f ?i X.A (forIn ifs ?cP fun c r=>if ?ZQ r then do let ok ←?vC c ?g (?ZA c);?a9 (?rW ok) else ?a9 (?rW r)) (TP X Ac σ Q) ?m s
def KU:TT:=?XB ?cP
theorem Ch{X:Cx}:PTs X [] KU:=?VT wpAny_tests_nil ⟨H,I,h⟩
theorem Pp{X:Cx}{c:Expr}{t:TT}(h:PT X c t):PTs X [c] t:=?WQ wpAny_tests_one
def Pk(J:It)(g:TG)(tc:TT)(te:TE)(D:Addr)(Q:?a2)(τ:St)(H:Hp):Prop :=
 ∃W:Nat->?J2,(∃m,W 0 m [] τ H)/\∀i m ys τ H,W i m ys τ H →
   (?yK/\Q H) ∨
   (?vL/\∃N:?NC,(∀ys' τ' H',N ys' τ' H'->∃m',m'<m/\W ?b1 m' ys' τ' H') ∧
     ∀x H',?KP->g x τ H' fun τ2 H2=>tc τ2 H2 fun b H3=>if ?lW then te τ2 H3 (?WS τ2) else N ys τ2 H3)
section
variable[?mD][?UK][?T][?jE]{te:TE}
theorem MP{Y:Cx}{J:It}[?d8]{it D:Addr}{tn:?pR}{R:?w5}{Q:?a2}{τ:St}{H:Hp}[?aT]
 (hx:Y.xe=?gW) (hc:?ZQ Y.calm) (hg:PG Y tg g) (ht:PTs Y ifs tc) (he:PE Y elt te) (T:U1 Y.prog Y.w Y.K tg J fp it tn) (st:?I1) (hf:∀b∈fp,Ma Y [] H b) (I:Bj Y [] τ H s)
 (h:?UV J tc) (hR:∀τ' H' s',?PG->Q H'->R (.ok .next) s') :
 ?e9 (?l0 Y.prog Y.w) Y.A (?BW ?f3 0 ?cI ?eE Y.env) R s:=by
 obtain⟨W,⟨m0,w0⟩,turn⟩:=h;have GG:∀{H':Hp},?hY->∀b∈fp,Ma Y [] H' b:=fun hn b hb=>⟨hn b hb,(?qY).2⟩
 have no:∀{P:Prop}{e:Value}{s':Shared},Y.xe e s'->P:=fun z=>by rw[hx]at z;exact z.elim
 refine codeAny_loop rfl (fun n s'=>∃i ys τ' H',?PG/\?Q8/\?hY/\W i n ys τ' H') ?_ m0 ⟨0,[],τ,H,I,st,?rX,w0⟩;rintro n s3 ⟨i,ys,τ3,H3,I3,st3,RG,w3⟩;show ?f _ Y.A ((compTurn ?f3 0 ?cI ?eE Y.env).onRaise (fun x=>do noteFrame x Y.env;theTreesLotGoes x)) _ _ s3;refine wpAny_noted ?_;rw[compTurn_list];refine ?XT ?vH ?_;rcases turn i n ys τ3 H3 w3 with⟨stop,qn⟩|⟨go,N,hN,step⟩
 . refine qp4 (T.done Y rfl rfl rfl hc i [] s3 τ3 H3 (?gW) I3 ?pO st3 stop) (?s7) ?uK;obtain⟨hr,I4⟩:=_z;subst hr;exact qe2 (hR _ _ _ I4 qn)
 . refine qp4 (T.item Y rfl rfl rfl hc i [] s3 τ3 H3 (?gW) I3 ?pO st3 go) (?s7) ?uK;obtain⟨u,hr,h4⟩:=_z;subst hr;refine qa7 (qp4 h4 (?N4) ?uK);ext SD
   have again:∀{τ7:St}{H7:Hp}{ys7:?o}{s7:Shared},Bj Y ([]++?GH) τ7 H7 s7->N ys7 τ7 H7->∃m,m<n/\∃i ys τ' H',Bj Y [] τ' H' s7/\?FM/\?hY/\W i m ys τ' H':=fun {τ7 H7 ys7 s7} I7 n7=>by
    obtain⟨m',hm,w7⟩:=hN ys7 τ7 H7 n7;refine⟨m',hm,i+1,ys7,τ7,H7,?oD,?Q3,?g4,w7⟩;ext S7
   refine qa7 (qp4 (hg _ s5 τ3 H5 x u _ I5' r5 (step x H5 y5)) (fun _ s6 _z=>?_) fun _ _ z=>no z);obtain⟨τ6,H6,I6,q6⟩:=_z;refine qa7 (qp4 (ht _ s6 τ6 H6 _ I6 q6) (fun ok s7 _z=>?_) fun _ _ z=>no z);obtain⟨H7,I7,q7⟩:=_z;cases ok with
   | false =>
     have q8:N ys τ6 H7:=?PW
     exact qe2 ⟨rfl,again I7 q8⟩
   | true =>
     have q8:te τ6 H7 (?WS τ6):=?PW
     refine qa7 (qa7 (qp4 (he _ s7 τ6 H7 _ I7 q8) (fun y s8 _z=>?_) ?F9));obtain⟨v8,H8,I8,r8,hD,hl,n8⟩:=_z;refine qa7 (qp4 (Kb _ s8 τ6 H8 ?eE [v8] ?eE [y] (fun _ H9=>N (ys++[v8]) τ6 H9) I8 rfl (?H r8 ?s) ⟨D,ys,v8,rfl,rfl,hD,hl,n8⟩) (fun _ s9 _z=>?_) ?F9);obtain⟨_,H9,I9,_,n9⟩:=_z;exact qe2 (qe2 ⟨rfl,again I9 n9⟩)
theorem Zg[?y]{J:It}[?d8]{it:Addr}{tn:?pR}{RR:?aJ->?gN->?w5}{Q:?gN->?a2}[?a0]
 [?t1] [?d6] [?RP]
 [?d] (T:?EV) (st:?I1) [?h2]
 (h:∀D,?hW->Pk J g tc te D (Q D) ?oO (?VJ D ?eF))
 (hR:∀D C s' H' m',?hW->?v9->?xM->?lD->?YQ fp ?dH->?B9->s'.heap.Ns C m'->H' C=none->C ∉ fp->Q D H'->RR ?eE C (.ok .next) s') :
 ?f ?i X.A (newList []) (fun acc s₃=>?f ?i X.A (newFunctionEnv sc X.env.globals (?yB) [] X.env.qual ?a3 ?aI (?c ?g)) (fun cenv s₄ =>
  ?e9 ?i X.A (.compStart ?f3 0 ?cI acc { cenv with scope:=?tQ }) (RR acc cenv.locals) s₄) E s₃) E s:=by
 have hb:?JL:=fun b hb=>by
  obtain⟨o,e,_⟩:=T.obj _ _ st b hb;ext b9
 refine wpAny_newObj_type (wpAny_newFunctionEnv ?kK (by intro y hy;simp at hy) (fun h₁ yP TY=>?_) ?yZ);dsimp only at yP TY ⊢;generalize zY:?lC { cls:=?b3,dict:=none,data:=?aC ([]:?w).toArray }=H2 at yP TY ⊢;have hC:H2.objs.size=?eU:=by rw[←zY,qj0]
 have hCl:?VZ H2.objs.size:=?BM
 have hCn:s.heap.objs.size≠H2.objs.size:=by rw[hC];exact(qu1 _).symm
 have old:∀b o,?cR->?KD b=?l:=fun b o e=>by
  have l1:=qc2 e;exact ?IM b o (?X5 l1 hCl) (qa6 _ (zY▸ ?jV))
 have hl:?KD ?u=?YH 0:=?IM _ _ hCn (qa6 _ (zY▸ ?fZ));have A52:h₁.Ns ?xC ?gM:=by simpa using yP
 have I4:Bj (?p3) [] ?oO (?VJ ?u ?eF) ?JK:=QH c I hC rfl hf hb A52 hl old;have hfr:?kV:=I.fresh
 have f4:∀b∈fp,Ma (?p3) [] (?VJ ?u ?eF) b:=fun b hb'=>by
  obtain⟨f0,f1,f2,f3,f4,f5⟩:=?rV;have lb:=?K5;refine⟨by rw[An (qd8 lb)];exact f0,(?X5 lb hCl:b≠H2.objs.size),fun z=>?_,?j hb',fun x a e=>f4 x a (?uQ),?BA⟩;rcases ?zJ with e | e
  . exact f1 e
  . exact f2 e
 have st4:tn 0 h₁:=T.keep _ _ _ st fun b _ o e=>old b o e
 have loop:∀s₅:Shared,s₅=?JK →
  ?e9 ?i X.A (?BW ?f3 0 ?cI ?iD (?p3).env) (RR ?iD ?xC) s₅:=by
  rintro s₅ rfl;refine MP (Y:=?p3) (J:=J) (fp:=fp) (tn:=tn) (Q:=Q ?u) rfl hc (hg _ _ _ _) (ht _ _ _ _) (he _ _ _ _) T st4 f4 I4 (h _ hfr) fun τ' H' s' I' q'=>?_;obtain⟨m',hn',_⟩:=I'.loc;exact hR _ _ s' H' m' hfr hCl I'.os I'.bare I'.base I'.hok hn' I'.free (fun z=>?W4 (hb _ z) hCl) q'
 exact codeAny_compStart_list (loop _ rfl) (T.self _ 0 _ _ _ st4 (loop _ rfl))
def VB(wi:TI)[?sV](g:TG)(tc:TT)(te:TE):TE:=fun σ H Q=>wi σ H fun J H1=>∀D,H1 D=none->Pk J g tc te D (fun H'=>?nB) ?oO (upd H1 D ?eF)
theorem Bj.fpCh{Ac:Bg}{H:Hp}[?d8][?h2]:∀b∈fp,?LS :=
 fun b hb=>let ⟨_,f1,_,f3,f4,f5⟩:=?qY;⟨f3,f1,f4,f5⟩
theorem B9{wi:TI}[?d6][?T3](hg:?ON)(ht:?H9)
 (he:?OD) [?A5]:?WG ?f3 (VB wi cap g tc te):=by
 ext R;have c:?pU:=JX hcap;rw[eval_ListComp];refine ?K6 (use:=none) rfl hs ?D6 ?yZ ?EL (?V0 h);ext T1;refine Zg (RR:=?YJ ?a3 ?bE) (Q:=fun D H'=>?nB) c hc hg ht he I2 T st2 f2 hW ?_;intro D C s' H' m' hD hC hos hbare hun hok hn hHC hCf q;refine⟨m',hn,fun h' Qj=>?_⟩;ext RT;have I4:Bj X Ac σ H' { s' with heap:=h' }:=I3.turned (t':=s'.toks) (fun b o hb e=>(?cW b hb).trans e) hHC k1 k3 k4 k5;exact⟨?k D,H',I4,rfl,q⟩
theorem Wh{wi:TI}[?fG]{px spos:Pos}(hN:X.N.Nodup)(hi':?hX)(hx:?y7)[?d6][?T3]
 [?RP]
 (hsw:?l1 ?f3 (?c (?hL)) spos.line ?g=?a9 ?cP:=by rfl)
 [?A5] [?gY] :
 PS X (?lJ [?hL] ?f3 spos) (nQ (VB wi cap g tc te) ?uU):=by
 ext h3;have c:?pU:=JX hcap;rw[exec_Assign_Name_used _ _ _ _ hsw];refine ?XT ?vH ?_;show ?f _ X.A (do let _ ←comprehension ?f3 sc ?g _ (newList []) ?cL (?ZA iter) (?ZS ?g)) _ _ s
 refine qa7 (Dh (?K6 (use:=?ZS ?g) (Q:=?IO) rfl hs ?D6 ?yZ ?EL
  (?V0 h)) fun _ s' hq=>qe2 (qe2 hq))
 ext T1;refine Zg (RR:=?YJ (?ZS ?g) (?IO)) (Q:=fun A H'=>Y4 i (?k A) σ H' ?hQ) c hc hg ht he I2 T st2 f2 hW ?_;intro A C s' H' m' hD hC hos hbare hun hok hn hHC hCf q;ext RT;show ?f _ X.A (?eO (?hL) ?g (?k A)) _ _ s';refine ?NO (v5 I3 hN hi' hx (v:=?k A) rfl (fun s'' I'' _z=>?_) hf);obtain⟨a,Qj,ha⟩:=_z
 have hCa:C≠a:=by
  rcases ha with z | z
  . rw[z];exact k1
  . exact fun z'=>k4 x a z z'.symm
 refine⟨m',?CF Qj hCa,fun h' A45=>?_⟩;have I4:Bj X Ac (σ.set i (?c (?k A))) H' { s'' with heap:=h' }:=I''.turned (t':=s''.toks) (fun b o hb e=>(A45.2 b hb).trans e) hHC k1 k3 k4 k5;exact⟨_,H',I4,q⟩
universe e9
section
variable[?jE][?f6]
theorem Pz[?f9][?c8][?A7]
 [?RL]
 [?j3]:?UV ?qA tc:=by
 ext zX;ext AF;have q:=?F1;ext j6
 . ext zU;ext sN;exact ?HU
 . ext j7
   ext T2
theorem qH[?f9][?c8][?TA]
 [?RL]
 [?j3]:?UV ?pM tc:=by
 ext zX;ext AF;have q:=?F1;ext j6
 . ext zU;ext sN;exact ?HU
 . ext j7
   ext T2
theorem IG{lo:Int}{n:Nat}[?c8]
 (hs:?XG ?xQ)
 [?UI]:?UV (?iO) tc:=by
 refine⟨fun i m ys τ H=>m=n-i/\?g1/\?cS,?wY,?_⟩;ext AF;by_cases hlt:i<n
 . refine ?WW hlt ?J8;obtain⟨e,y⟩:=y;subst e y;exact hs i ys τ _ hlt p
 . have e:i=n:=O9m
   subst e;exact ?WT ?dI ?HI
universe e9
universe L2
namespace L2
open PySem PySem.Spec PyProof.Rows PySem.SeqAt
inductive D where
 | non | bl (b:Bool) | int (i:Int) | str (x:Str) | tup [?n0] | lst [?n0]
mutual
def Rep[?e](H:Hp):?V5 V D
 | v,?x=>v=?x
 | v,?c6=>v=?c6
 | v,?t=>v=?t
 | v,?e6=>v=?e6
 | v,?g5=>∃a vs,?eS/\SqT K H a vs/\?dZ
 | v,?oU=>∃a vs,?eS/\?VU a vs/\?dZ
 def Reps[?e](H:Hp):?V5 ?o ?aD
 | vs,[]=>?nZ
 | vs,?e8=>∃v r,vs=v::r/\?eY/\?XR r ds
end
mutual
def YM:?tG
 | ?n3=>false
 | ?g5=>?wD
 | _=>true
def imms:?HK
 | []=>true
 | ?e8=>YM d&&?wD
 end
mutual
def dep:D->Nat
 | ?oU=>?e1+1
 | ?g5=>?e1+1
 | _=>0
def deps:?aD->Nat
 | []=>0
 | ?e8=>max (?oF) (?e1)
end
mutual
def eqD:D->?tG
 | ?x,?x=>true
 | .bl a,?c6=>a==b
 | .bl a,?i9=>(if a then 1 else 0)==b
 | ?h a,?c6=>a==(if b then 1 else 0)
 | ?h a,?i9=>a==b
 | ?bB a,?bB b=>a==b
 | ?K a,?K b=>?jG
 | ?p a,?p b=>?jG
 | _,_=>false
def eqDs:?aD->?HK
 | [],[]=>true
 | a::r,b::q=>eqD a b&&eqDs r q
 | _,_=>false
end
mutual
theorem Sz(d:D):eqD d d=true:=by
 cases d with
 | non=>rfl
 | bl b=>simp[eqD]
 | int b=>simp[eqD]
 | str b=>simp[eqD]
 | tup ds=>simp only[eqD];exact ?w8 ds
 | lst ds=>simp only[eqD];exact ?w8 ds
theorem eqDs_refl[?n0]:eqDs ds ds=true:=by
 cases ds with
 | nil=>rfl
 | cons d r=>simp only[eqDs,qd2];exact⟨Sz d,?w8 r⟩
end
theorem eqDs_len:∀{a b:?aD},?ZQ ?jG->?oQ
 | [],[],_=>rfl
 | [],?fN,h=>?QE
 | ?fN,[],h=>?QE
 | x::a,y::b,h=>by
   simp only[eqDs,qd2]at h;rw[qc9,qc9,?DD h.2]
theorem Y7:∀(a b:?aD),?oQ->?jG=(?fV a.length).all fun j=>match a[j]?,b[j]? with | ?c4,?jZ=>eqD x y | _,_=>true
 | [],[],_=>by simp[eqDs]
 | [],?fN,h=>?fQ
 | ?fN,[],h=>?fQ
 | x::a,y::b,h=>by
   have h':?oQ:=?zQ
   rw[qc9,List.range_succ_eq_map,List.all_cons,List.all_map];simp only[eqDs,Y7 a b h']
   congr 1
structure Zw(H H':Hp):Prop where
 tup:?p1
 frz:?tP
section
variable[?P]{H H' H1 H2:Hp}{a l p:Addr}[?bL]{o:HO}
theorem Same.t[?tB]:?s6:=⟨fun b xs h=>x b _ h,fun b o u h=>x b _ h⟩
theorem Zw.lst(h:?hE):Zw H (?VJ l o):=⟨fun b ys e=>?NA,fun b ob u e=>?NA⟩
theorem Same.new(h:?q8):?c1 H (?VJ l o):=fun b u e=>by rw[An (At e h)];exact e
theorem Same.turn(x:?rT)(h:?q8):?c1 H (upd H1 l o):=fun b u e=>by rw[An (At e h)];exact x b u e
theorem SqT.t(x:?s6)(h:?dG):?EQ:=by
 rcases h with(h|⟨o,h⟩) | h
 . exact ?j (?j (x.tup _ _ h))
 . exact ?j (?n ⟨o,x.frz _ _ _ h⟩)
 . exact ?n h
theorem Same.seqT[?tB](h:?dG):?EQ:=h.t x.t
mutual
theorem Rep.t(x:?s6){v:V}{d:D}(hi:YM d=true)(h:?eY):?DZ:=by
 cases d with
 | non=>exact h
 | bl b=>exact h
 | int i=>exact h
 | str x=>exact h
 | tup ds =>
   ext mK;exact⟨a,vs,e,q.t x,Reps.t x (by simpa[YM]using hi) r⟩
 | lst ds=>simp[YM]at hi
theorem Reps.t(x:?s6)[?fC](hi:?ZQ ?wD)[?B6]:?O2:=by
 cases ds with
 | nil=>exact h
 | cons d r =>
   obtain⟨v,q,e,h1,h2⟩:=h;simp only[imms,qd2]at hi;exact⟨v,q,e,Rep.t x hi.1 h1,Reps.t x hi.2 h2⟩
end
mutual
theorem Rep.same[?tB]{v:V}{d:D}(h:?eY):?DZ:=by
 cases d with
 | non=>exact h
 | bl b=>exact h
 | int i=>exact h
 | str x=>exact h
 | tup ds =>
   ext mK;exact⟨a,vs,e,x.seqT q,?y9 x r⟩
 | lst ds =>
   ext mK;exact⟨a,vs,e,x.seq q,?y9 x r⟩
theorem Reps.same[?tB][?fC][?B6]:?O2:=by
 cases ds with
 | nil=>exact h
 | cons d r =>
   obtain⟨v,q,e,h1,h2⟩:=h;exact⟨v,q,e,?H4 x h1,?y9 x h2⟩
end
theorem Reps.length:∀[?fC],?dZ->vs.length=ds.length
 | vs,[],h=>by ext sP;rfl
 | vs,?e8,h=>by
   obtain⟨v,r,rfl,_,h2⟩:=h;rw[qc9,qc9,Reps.length h2]
theorem Reps.get:∀[?fC]{i:Nat}{d:D},?dZ->?wP->∃v,?kS/\?eY
 | vs,[],i,d,h,e=>?wZ
 | vs,?vM,0,d,h,e=>by
   obtain⟨v,r,rfl,h1,_⟩:=h;simp only[List.getElem?_cons_zero,Option.some.injEq]at e;subst e;exact⟨v,?aE,h1⟩
 | vs,?vM,i+1,d,h,e=>by
   obtain⟨v,r,rfl,_,h2⟩:=h;obtain⟨u,e1,e2⟩:=Reps.get (i:=i) h2 (?hM);exact⟨u,by simpa using e1,e2⟩
theorem Reps.getV:∀[?fC]{i:Nat}{v:V},?dZ->?kS->∃d,?wP/\?eY:=fun {vs ds i v} h e=>by
 have hl:=h.length;have hi:?xD:=?HV;obtain⟨d,hd⟩:∃d,?wP:=⟨ds[i]' ?iC,?dO⟩
 obtain⟨u,e1,e2⟩:=h.get hd;rw[e]at e1;cases e1;exact⟨d,hd,e2⟩
theorem Reps.append:∀{vs ws:?o}{ds es:?aD},?dZ->?XR ws es->?XR (vs++ws) (ds++es)
 | vs,ws,[],es,h,h'=>by ext sP;exact h'
 | vs,ws,?e8,es,h,h'=>by
   ext AM;exact⟨v,r++ws,rfl,h1,Reps.append h2 h'⟩
theorem Reps.one{v:V}{d:D}(h:?eY):?XR [v] [d]:=⟨v,[],rfl,h,rfl⟩
theorem Reps.snoc[?fC]{v:V}{d:D}[?B6](h':?eY):?XR (vs++[v]) (ds++[d]):=h.append (.one h')
theorem Reps.take:?XN vs.take ds.take
 | vs,ds,0,h=>by simp[Reps]
 | vs,[],n+1,h=>?IE
 | vs,?e8,n+1,h=>by
   ext AM;exact⟨v,r.take n,rfl,h1,Reps.take n h2⟩
theorem Reps.drop:?XN vs.drop ds.drop
 | vs,ds,0,h=>h
 | vs,[],n+1,h=>?IE
 | vs,?e8,n+1,h=>by
   ext AM;exact Reps.drop n h2
def Fi[?fI]:?aD:=?cY D.int
noncomputable abbrev tI[?fI]:D:=?K ?lF
theorem aJ:∀ns:?bC,imms ?lF=true
 | []=>rfl
 | ?pS=>by show ?ZQ (YM (?eM)&&imms ?lF);rw[aJ ns];rfl
theorem yM[?fI]:YM (tI ns)=true:=aJ ns
theorem eV:∀xs:LLInt,imms ?m8=true
 | []=>rfl
 | x::xs=>by show ?ZQ (YM (tI x)&&imms ?m8);rw[eV xs,yM];rfl
theorem Ex:∀[?fL][?fJ],?XR vs ?lF↔vs=?y4
 | vs,[]=>Iff.rfl
 | vs,?pS=>by
   constructor
   . rintro ⟨v,r,rfl,h1,h2⟩;have cY:v=?eM:=h1;rw[cY,Ex.mp h2];rfl
   . rintro rfl;exact⟨?eM,?y4,rfl,rfl,?R8⟩
universe e9
section
variable{X:Cx}[?y]
theorem jL[?d][?U][?mX][?B7](h':?QJ):False:=by
 obtain⟨its,r,⟨o,e,c,n,d⟩,_⟩:=?eZ h;obtain⟨its',r',⟨o',n',e',c',_,d'⟩,_⟩:=?aX h';rw[e]at e';cases e';rw[c]at c';have z:(?g9:String)=?dL:=by injection c'
 exact ?v z ?bF
mutual
theorem Rep.inj[?d]{v:V}{d e:D}(h:Rep X.K H v d)(h':?uD):d=e:=by
 cases d with
 | non=>cases (show v=?x from h);cases e<;>first | rfl | (exfalso;first | (cases (show V.non=_ from h')) | ext sF)
 | bl b=>cases (show v=?c6 from h);cases e<;>first | (cases (?VO V.bl);rfl) | (exfalso;first | (cases (?VO V.bl)) | ext sF)
 | int b=>cases (show v=?i9 from h);cases e<;>first | (cases (?VO ?a8);rfl) | (exfalso;first | (cases (?VO ?a8)) | ext sF)
 | str b=>cases (show v=?bB b from h);cases e<;>first | (cases (?VO V.str);rfl) | (exfalso;first | (cases (?VO V.str)) | ext sF)
 | tup ds =>
   obtain⟨a,vs,rfl,q,r⟩:=h;cases e with
   | tup es =>
     ext sC;have e1:=?MS q q';subst e1;rw[?LL]
   | lst es =>
     ext sC;exact(jL I q q').elim
   | non=>ext f7
   | bl _=>ext f7
   | int _=>ext f7
   | str _=>ext f7
 | lst ds =>
   obtain⟨a,vs,rfl,q,r⟩:=h;cases e with
   | lst es =>
     ext sC;have e1:=?nO q q';subst e1;rw[?LL]
   | tup es =>
     ext sC;exact(jL I q' q).elim
   | non=>ext f7
   | bl _=>ext f7
   | int _=>ext f7
   | str _=>ext f7
 theorem Reps.inj[?d][?fL]{ds es:?aD}(h:?jP)(h':?W X.K H vs es):ds=es:=by
 cases ds with
 | nil =>
   cases (show vs=[] from h);cases es with
   | nil=>rfl
   | cons e es=>ext mF
 | cons d ds =>
   obtain⟨v,r,rfl,h1,h2⟩:=h;cases es with
   | nil=>cases (show v::r=[] from h')
   | cons e es =>
     obtain⟨v',r',z,cY,h2'⟩:=h';cases z;rw[?y6 I h1 cY,?JI I h2 h2']
end
def EqD(X:Cx)(H:Hp)[?bM](d:D):Prop:=∀[?jF] (x y:V) (u v:Value) (e:D),?XX ?oF->?wM->Rep X.K H y e->?bU->?wS->RcAt A s u v (eqD d e)/\EqAt A s u v (eqD d e)
theorem nU[?d]{ds es:?aD}{vs ws:?o}{us us':?w}[?D](hu:?OI)(r:?jP)(r':?W X.K H ws es)(rv:?g6)(VE:?O ws us')
 (ih:?R2) (hdm:∀d∈ds,?PJ):∀j (h1:j<us.toArray.size) (h2:j<us'.toArray.size),EqAt A s ?P3 ?RG (match ds[j]?,es[j]? with | ?c4,?jZ=>eqD x y | _,_=>true):=by
 intro j h1 h2;ext A0;have cY:j<us.length:=?qS
 have h2':j<us'.length:=?vE
 have e1:ds[j]?=?c (?CS):=?dO
 have e2:es[j]?=?c (es[j]' ?iC):=?dO
 obtain⟨v,ev,rd⟩:=?jQ e1;obtain⟨w,ew,re⟩:=r'.get e2;obtain⟨u,eu,ru⟩:=?jR ev;obtain⟨u',eu',ru'⟩:=VE.get ew
 have f1:?P3=u:=by
  have:us[j]?=?c us[j]:=?aE
  rw[eu]at this;have:=?HW;ext jC
 have f2:?RG=u':=by
  have:us'[j]?=?c us'[j]:=?aE
  rw[eu']at this;have:=?HW;ext jC
 rw[f1,f2,e1,e2];have hm:?CS∈ds:=qe5 _;exact(ih _ hm A v w u u' _ (by have:=hdm _ hm;omega) rd re ru ru').2
theorem Wn:∀{ds:?aD}{d:D},d∈ds->?PJ
 | ?vM,d,h=>by
   simp only[deps];rcases ?o3 with rfl | h
   . omega
   . have:=Wn h;omega
theorem z7{a b:?aD}(h:¬?oQ):?jG=false:=by
 cases q:eqDs a b with
 | false=>rfl
 | true=>exact ?v (?DD q) h
mutual
theorem HS[?d](d:D):?R0:=by
 intro A x y u v e hu hx hy rx ry;cases d with
 | non =>
   cases (show x=.non from hx);cases (show u=Value.none from rx);cases e with
   | non=>ext iZ;exact⟨.none_none,?u3⟩
   | bl b=>ext iX;exact⟨.none_bool b,.none_bool b⟩
   | int i=>ext j4;ext mN;exact⟨.none_int i t,.none_int i t⟩
   | str z=>ext j5;ext mN;exact⟨.none_str z t,.none_str z t⟩
   | tup es=>ext f4;ext sG;exact⟨?L1,?L1⟩
   | lst es=>ext f4;ext sI;exact⟨?F2,?F2⟩
 | bl c =>
   cases (show x=.bl c from hx);cases (show u=Value.bool c from rx);cases e with
   | non=>ext iZ;exact⟨.bool_none c,.bool_none c⟩
   | bl b=>ext iX;exact⟨.bool_bool c b,.bool_bool c b⟩
   | int i=>ext j4;ext mN;exact⟨?C1,?C1⟩
   | str z=>ext j5;ext mN;exact⟨?KW,?KW⟩
   | tup es=>ext f4;ext sG;exact⟨?G4,?G4⟩
   | lst es=>ext f4;ext sI;exact⟨?R6,?R6⟩
 | int c =>
   cases (show x=.int c from hx);obtain⟨t,rfl⟩:=rx;cases e with
   | non=>ext iZ;exact⟨.int_none c t,.int_none c t⟩
   | bl b=>ext iX;exact⟨?IA,?IA⟩
   | int i=>ext j4;ext z;exact⟨?QM,?QM⟩
   | str z=>ext j5;ext z;exact⟨?IV,?IV⟩
   | tup es=>ext f4;ext sG;exact⟨?CX,?CX⟩
   | lst es=>ext f4;ext sI;exact⟨?RB,?RB⟩
 | str c =>
   cases (show x=.str c from hx);obtain⟨t,rfl⟩:=rx;cases e with
   | non=>ext iZ;exact⟨.str_none c t,.str_none c t⟩
   | bl b=>ext iX;exact⟨?NG,?NG⟩
   | int i=>ext j4;ext z;exact⟨?P5,?P5⟩
   | str z=>ext j5;ext z;exact⟨?D2,?D2⟩
   | tup es=>ext f4;ext sG;exact⟨?DJ,?DJ⟩
   | lst es=>ext f4;ext sI;exact⟨?QY,?QY⟩
 | tup ds =>
   ext TC;obtain⟨its,rv,p,_⟩:=?eZ q;ext SR
   cases e with
   | non=>ext iZ;exact⟨?IT,?IT⟩
   | bl b=>ext iX;exact⟨?H0,?H0⟩
   | int i=>ext j4;ext z;exact⟨?FI,?FI⟩
   | str z=>ext j5;ext z;exact⟨?BP,?BP⟩
   | lst es=>ext sA;obtain⟨its',_,p',_⟩:=?aX q';exact⟨?E5,?E5⟩
   | tup es =>
     have hy':=hy;ext sA;obtain⟨its',VE,p',_⟩:=?eZ q'
     have main:?YE ?g5 ?K:=by
      have:=RcAt.tuples (A:=A) p p' O9m (?VK h);ext A0;ext T8
      ext T5
      rw[e1,e2]at this;ext TO
      . rw[?QQ];rw[←hl,qx8]at this;ext jC
      . rw[z7 hl];have z:?XC ds.length es.length:=by simpa using hl
        rw[z,Bool.and_false]at this;exact this
     refine ?HB;by_cases hab:a=b
     . subst hab;have e3:D.tup ds=D.tup es:=?J7;rw[e3,Sz];exact ?u3
     . exact ?DG
 | lst ds =>
   ext TC;obtain⟨its,rv,p,_⟩:=?aX q;ext SR
   cases e with
   | non=>ext iZ;exact⟨?D5,?D5⟩
   | bl b=>ext iX;exact⟨?FA,?FA⟩
   | int i=>ext j4;ext z;exact⟨?EN,?EN⟩
   | str z=>ext j5;ext z;exact⟨?BJ,?BJ⟩
   | tup es=>ext sA;obtain⟨its',_,p',_⟩:=?eZ q';exact⟨?CK,?CK⟩
   | lst es =>
     have hy':=hy;ext sA;obtain⟨its',VE,p',_⟩:=?aX q'
     have main:?YE ?oU ?p:=by
      ext A0;ext T8
      ext T5
      ext TO
      . have:=RcAt.lists (A:=A) ?a7 ?u7 O9m O9m (?VK h);rw[e1]at this;rw[?QQ];exact this
      . rw[z7 hl];exact RcAt.lists_lengths ?a7 ?u7 (by simpa[e1,e2]using hl) O9m
     refine ?HB;by_cases hab:a=b
     . subst hab;have e3:D.lst ds=D.lst es:=?J7;rw[e3,Sz];exact ?u3
     . exact ?DG
 theorem eqDs_ok[?d][?n0]:?R2:=by
 cases ds with
 | nil=>exact fun _ h=>?pE
 | cons d0 r =>
   intro d h;rcases ?o3 with e | h
   . exact e▸HS I d0
   . exact eqDs_ok I r d h
end
inductive IrEqD[?e](n:Nat)[?d4]:Prop
 | mk:∀d e,?hA->(?W1 y e)->(?oF<=n)->(?VH (eqD d e))->?QC
def Ag6[?e](n:Nat):R2:=?VQ ?QC
theorem xR{n:Nat}[?sW]:?WH (?b4 .Eq) (Ag6 X.K n):=by
 ext f5;obtain⟨d,e,hd,he,hn,q⟩:=h;exact(HS I d X.A x y v u e O9m hd he rx ry).1 ?aB X.w ?m _ ⟨.bl (eqD d e),H,I,rfl,q⟩
universe e9
universe L2
namespace L2
open PySem PySem.Spec PyProof.Rows PySem.SeqAt
section
variable{X:Cx}
def VW(X:Cx)(H:Hp)(d:D)[?dA]:Bool:=@decide (∃v e,?cT/\?uD/\?ZQ ?uV) ?r2
theorem HQ[?y][?d]{d e:D}{v:V}[?aL][?fK](h:?uD):VW X H d u=?uV:=by
 cases q:eqD e d with
 | true=>exact @qf6 _ ?r2 ⟨v,e,r,h,q⟩
 | false =>
   refine @qk2 _ ?r2 ?_;rintro ⟨v',e',r',h',q'⟩;have:=?qX;subst this;rw[?y6 I h h']at q;rw[q]at q';cases q'
theorem HR[?y][?d][?D]{x:V}{v:Value}{d:D}[?fL][?S]{ds:?aD}(hu:?OI)(hx:?wM)(rx:?dK)
 (r:?jP) (rv:?g6):∀y,y∈us.toArray->EqAt A s y v (VW X H d y):=by
 intro y hy;have hy':y∈us:=by simpa using hy
 obtain⟨i,hi⟩:=qg6 hy';have hlt:i<us.length:=?yH;have l1:=rv.length;obtain⟨w,hw⟩:∃w,vs[i]?=?c w:=⟨vs[i]' ?iC,?dO⟩
 obtain⟨u,YO,ru⟩:=?jR hw;rw[hi]at YO;cases YO;obtain⟨e,he,re⟩:=r.getV hw;rw[HQ I ru re];have hm:e∈ds:=qb7 he;exact(HS I e A w x y v d (by have:=Wn hm;omega) re hx ru rx).2
theorem KC[?y][?d]{d:D}:∀[?fL][?S]{ds:?aD},?jP->?g6->us.any ?q1=?n8
 | vs,us,[],r,rv=>by
   cases (?WB ?nZ);cases rv;rfl
 | vs,us,e::ds,r,rv=>by
   obtain⟨v,q,rfl,h1,h2⟩:=r;cases rv with
   | cons r1 r2=>rw[qp2,qp2,HQ I r1 h1,KC I h2 r2]
def Ao9[?e](H:Hp)(y:V)[?n0]:Prop:=?W1 y (?oU)\/?W1 y (?g5)
inductive wI[?e](n:Nat)(neg:Bool)[?d4]:Prop
 | mk:∀d ds,?hA->(Ao9 K H y ds)->(?e1+1<=n)->(?VH (if neg then !(?n8) else ?n8))->?PS
def Ag5[?e](n:Nat)(neg:Bool):R2:=?VQ ?PS
theorem LH{n:Nat}[?sW]:?WH (?b4 .NotIn) (Ag5 X.K n ?cP):=by
 ext f5;obtain⟨d,ds,hx,hs,hn,q⟩:=h
 have fin:∀[?S][?fL],?jP->?g6->?W3 (?cO (!us.toArray.any ?q1)) s:=fun r rv =>
  ⟨.bl (!(?n8)),H,I,by show ?iE _=?iE _;rw[List.any_toArray,KC I r rv],q⟩
 rcases hs with⟨a,vs,rfl,hq,r⟩|⟨a,vs,rfl,hq,r⟩
 . cases ry;obtain⟨its,rv,p,_⟩:=?eV;exact ?VD notIn_listAt ?a7
 . cases ry;obtain⟨its,rv,p,_⟩:=?gX;exact ?VD notIn_tupleAt p
def jQ(n:String):?tG
 | ?x=>false
 | ?eP=>n==?cX || n==?iP
 | ?dP=>n==?cX
 | ?c2=>n==?kL
 | ?K _=>n==?g9
 | ?n3=>n==?dL
def tyD:D->String
 | ?x=>"NoneType"
 | ?eP=>?iP
 | ?dP=>?cX
 | ?c2=>?kL
 | ?K _=>?g9
 | ?n3=>?dL
theorem YH[?P]{n:String}{d:D}(hn:?tH):PySem.W.kitOne K (?aG (tyD d)) (?aG n)=?c (jQ n d):=by
 rcases hn with rfl | rfl | rfl | rfl | rfl | rfl<;>cases d<;>(unfold PySem.W.kitOne PySem.W.kitCls PySem.W.subIn tyD jQ;first | rfl | ext aK)
theorem fK:Fd X (?Z ?nP) (fun xs H Q=>∃x n d,xs=[x,.ty n]/\(?tH)/\?wM/\?VH (jQ n d)):=by
 ext f8;obtain⟨x,n,d,rfl,hn,hx,q⟩:=h;obtain⟨u,v,rfl,rx,rt⟩:=dD r;cases rt;have k:=YH (K:=X.K) (d:=d) hn;have fin:∀tk,EP X Ac σ Q (?cO (jQ n d)) { s with toks:=tk }:=fun tk=>⟨.bl (jQ n d),H,I.tok tk,rfl,q⟩
 cases d with
 | non=>cases (?Z1 ?x);cases (show ?wV from rx);exact ?VN PySem.W.kitx_none ?qP
 | bl b=>cases (?Z1 ?c6);cases (show u=?iE b from rx);exact ?VN PySem.W.kitx_bool ?qP
 | int b=>cases (?Z1 ?i9);ext h4;exact ?VN PySem.W.kitx_int ?qP
 | str b=>cases (show x=?bB b from hx);ext h4;exact ?VN PySem.W.kitx_str ?qP
 | tup ds =>
   obtain⟨a,vs,rfl,hq,_⟩:=hx;cases rx;obtain⟨its,_,⟨o,e,c,_⟩,_⟩:=?gX;exact ?VN PySem.W.kitx_tuple ?GE
 | lst ds =>
   obtain⟨a,vs,rfl,hq,_⟩:=hx;cases rx;obtain⟨its,_,⟨o,_,e,c,_⟩,_⟩:=?eV;exact ?VN PySem.W.kitx_list ?GE
inductive KI[?e][?d4]:Prop
 | mk:∀l b xs zs,?oZ->(y=?c7)->(?VU l xs)->(?VU b zs)->(xs.length+zs.length<=sizeLine)->?Z6 (?p (xs++zs)) ?GT
def nY[?e]:R2:=?VQ ?GT
theorem OI:?WH (?dV .Add) (nY X.K):=by
 ext f5;obtain⟨l,b,xs,zs,rfl,rfl,hl,hb,hz,q⟩:=h;cases rx;cases ry;obtain⟨its,r1,p1,_⟩:=?aX hl;obtain⟨its2,r2,p2,_⟩:=?aX hb;obtain⟨⟨cls,dd,data,sl⟩,n,ho,hc,hdd,hd⟩:=id p1;obtain⟨⟨Ca5,dd2,data2,sl2⟩,n2,ho2,hc2,hdd2,hd2⟩:=id p2;simp only at hc hd hc2 hd2;subst hc hd hc2 hd2
 refine concat_meets (?YB ho rfl) (?YB ho2 rfl) noFill_list_add seq_list_add PySem.F.slot_list_add PySem.F.entry_list_add (PySem.F.args_list_add_2 _ _)
  (list_addW l b ?L its2.toArray n n2 dd dd2 sl sl2 (by rw[qd0,qd0,←r1.length,←r2.length];exact hz)) ⟨ho,ho2,?_⟩
 rw[show its.toArray++its2.toArray=(its++its2).toArray by simp];exact⟨?hG,_,I.lnew (t':=s.toks) (r1.append r2) (by rw[qa9];exact hz),rfl,?II⟩
theorem MS[?d6]:Fd X (?Z "all") (fun xs H Q=>∃(p:Addr) (bs:?r ?cF),?lA/\SqL X.K H p (bs.map V.bl)/\?VH (bs.all id)):=by
 ext f8;obtain⟨p,bs,rfl,hq,q⟩:=h;obtain⟨u,rfl,ru⟩:=U5 r;cases ru;obtain⟨its,rv,pl,hz⟩:=?eV;have hh:?DQ:=?I0
 have rel:∀(i:Nat) (v:Value),its.toArray[i]?=?C->∃b,?nJ=?c b/\v=?cO b:=fun i v e=>by
  have e':its[i]?=?C:=?hM
  have hlt:i<its.length:=(?fP e').1;have l1:=rv.length;rw[qa3]at l1;have hb:?nJ=?c (bs[i]' ?iC):=?dO
  obtain⟨u,hu,ru⟩:=?jR (i:=i) (x:=V.bl (bs[i]' ?iC)) (by rw[qb2,hb];rfl);rw[e']at hu;cases hu;exact(?YB hb ru)
 refine call_all_walk (qu5 ?iF ?_);refine⟨?u,[s.heap.objs.size,p],[s.heap.objs.size],?tT,_,_,?OC,rfl,Walks.list (show X.A.in1.handled=none from hh) ?u p ?_ ?L,⟨?uR,?_⟩,?_,fun h' tk k=>?_⟩
 . obtain⟨o,_,ho,_⟩:=pl;exact qd8 (qc2 ho)
 . exact pl.isList.at fun o e=>?jV
 . intro i v s' Q' E' hv hQ;obtain⟨b,hb,rfl⟩:=rel i v hv;dsimp only at hQ;rw[hb]at hQ;exact qk4 hQ
 . have e:(?fV ?tT).all (?OC)=bs.all id:=by
    have l1:=rv.length;rw[qa3]at l1;rw[qd0,←l1];rw[qn3,qf2,qf2];constructor
    . intro hx b hb;obtain⟨i,hi⟩:=qg6 hb;have:=hx i (qd5.mpr ?yH);rw[hi]at this;exact this
    . intro hx i hi;have hlt:=?QU;have hb:?nJ=?c bs[i]:=?aE
      rw[hb];exact hx _ (qe5 _)
   rw[e];have I1:?NW:=?lX (fun b o e=>k b o (by simp;exact qd8 ?dF) (?jV));exact⟨.bl (bs.all id),H,I1,rfl,q⟩
universe e9
structure Has[?d5][?e][?h1](x:Str)[?AS]:Prop where
 ex:∃(f:Addr) (fd:FuncData),mg x=?yC/\?s2/\?uE
section
variable{X:Cx}[?TG][?a5]{t:TA}
theorem Ao(h:?Z4 Has x)[?fH][?fE](hg:?gT:=by rfl)[?B1][?j1]
 [?iY] (hpl:?eN (·.1)=false:=by rfl):?WG ?kJ (tCall sp [] E0 t):=by
 obtain⟨f,fd,h1,h2,h3,h4⟩:=h.ex;exact SV h4 ?s5 hg h1 h2 h3 ?s DW ha hdb he hpl
universe e9
theorem boot_intT:?XA ?cX ?cX:=?bG
theorem Zq:?XA ?iP ?iP:=?bG
theorem Le:?b2 ?g9=?c (?dU):=?bG
theorem Fc:?b2 ?dL=?c (?b3):=?bG
theorem Nt:?XA ?nI ?nI:=?bG
theorem aU:?Y1 "max" "max":=?bG
theorem mU:?Y1 "min" "min":=?bG
theorem aV:?Y1 "abs" "abs":=?bG
theorem P0:?Y1 "all" "all":=?bG
theorem B6:?Y1 ?nP ?nP:=?bG
universe L2
namespace L2
open PySem PySem.Spec PyProof.Rows
section
variable{X:Cx}[?P]{tg l:Expr}{tl:TE}{n:Nat}
theorem Fd.imp{X:Cx}{f:Value}{r r':?cZ}(h:Fd X f r)(i:∀xs H Q,r' xs H Q->?C8):Fd X f r':=fun Ac s σ H xs us Q I v q=>h Ac s σ H xs us Q I v (i xs H Q q)
inductive QU[?e][?a6][?d9]:Prop
 | mk:?ZR (Q (?h ?nV) H) ?L2
def Ag3[?e]:?cZ:=?XH ?L2
inductive fU[?e][?a6][?d9]:Prop
 | mk:?ZR (?MK) ?OR
def SE[?e]:?cZ:=?XH ?OR
inductive kG[?e][?a6][?d9]:Prop
 | mk:∀p ys,?n4->(((?vB/\?PF)\/(?w1/\Q ?bJ H)))->?IH
def xG[?e]:?cZ:=?XH ?IH
inductive FU[?e][?a6][?d9]:Prop
 | mk:∀x n d,(xs=[x,.ty n])->((?tH))->?hA->(?VH (jQ n d))->?CB
def SG[?e]:?cZ:=?XH ?CB
inductive qV[?e][?a6][?d9]:Prop
 | mk:∀(p:Addr) (bs:?r ?cF),?n4->(?VU p (bs.map V.bl))->(?VH (bs.all id))->?MJ
def Ag7[?e]:?cZ:=?XH ?MJ
theorem Fj[?a1]:?WH (?dV .Add) (nY K):=by subst hK;exact OI
theorem G8[?a1]:SlR X (Ag1 K):=by subst hK;exact RX
theorem Ba[?a1]:IxR X (Ag4 K):=by subst hK;exact TX
theorem Bm[?a1]:IxR X (xH K):=by subst hK;exact yK
theorem Aw[?a1]:?WF "len" (Ag3 K):=?YZ cQ
theorem Ii[?a1]:Fd X (?b3) (SE K):=?YZ CP
theorem Kt[?a1]:Fd X (?dU) (xG K):=by subst hK;exact(i9).imp fun _ _ _ z=>by obtain⟨p,ys,a,b⟩:=z;exact⟨p,ys,a,b⟩
theorem Dl[?a1]:?WF ?nP (SG K):=by subst hK;exact(fK).imp fun _ _ _ z=>by obtain⟨x,n,d,a,b,c,e⟩:=z;exact⟨x,n,d,a,b,c,e⟩
theorem Nk[?d6][?a1]:?WF "all" (Ag7 K):=by subst hK;exact(MS hc).imp fun _ _ _ z=>by obtain⟨p,bs,a,b,c⟩:=z;exact⟨p,bs,a,b,c⟩
theorem Yn[?sW][?a1]:?WH (?b4 .NotIn) (Ag5 K n ?cP):=?WN LH hu
theorem TV[?sW][?a1]:?WH (?b4 .Eq) (Ag6 K n):=?WN xR hu
theorem Cm[?t9][?a1]:?XQ VS K:=?WN sP hl
theorem Wk[?t9][?a1]:?XQ Aj9 K:=?WN XM hl
variable{o e:Expr}[?a5][?SM]
theorem Ly[?RX][?a1]
 [?ST]
 (hfew:(?GA
   && ?VM 1)=true:=by rfl)
 [?U6] [?A1] (hplain:?vU (·.1)=false:=by rfl) :
 ?WG (?ZK o) (tBM K T r to t):=by subst hK;exact Ah1 pa slot hty hm ho ha hbase hfew hline hs hplain
theorem Db[?a5]{k:Nat}{t:rJ}{n:Nat}[?T][?d6](h:?Q5)[?a1]
 [?U8] (hst:?R7 (·.1)=none:=by rfl):?YF K:=by subst hK;exact XN hc h hn hst
universe e9
universe L2
namespace Hb
section
variable{fam:Int}
theorem Ad7{i j:Nat}(h:i<j)(hj:j<3):?FF :=
 ?Y9 3 ?FF
theorem Av7{i j:Nat}(h:i<j)(hj:j<4):?EF :=
 ?Y9 4 ?EF
universe e9
def lev[?mZ]:Nat:=p.length-1
structure fY[?fM][?mZ]:Prop where
 cnt:p.length=0\/p.length=2\/p.length=3\/p.length=4
 low:∀f∈p,0<=f
 bel:∀f∈p,∃q,?OU/\lev q+1=lev p
 agr:3<=p.length->∀(i j:Nat) (f g:Int) (q r:?bC),i<j->p[j]?=?c f->p[i]?=?c g->?OU->xs[g.toNat]?=?c r->q[i]?=r[j-1]?
def Ci[?fM]:Prop:=∀(k:Nat) [?mZ],xs[k]?=?c p->fY (xs.take k) p
section
variable{xs:LLInt}
universe e9
universe Hb
namespace L2
inductive Ef{A0:Type}(p:A0->Prop):Prop
 | mk (x0:A0) (x:p x0):Ef p
inductive Hm{A0 A1:Type}(p:?V5 A0 A1):Prop
 | mk (x0:A0) (x1:A1) (x:p x0 x1):Hm p
inductive N8{A0 A1 A2:Type}(p:A0->?V5 A1 A2):Prop
 | mk (x0:A0) (x1:A1) (x2:A2) (x:p x0 x1 x2):N8 p
inductive l9{A0 A1 A2 A3:Type}(p:A0->A1->?V5 A2 A3):Prop
 | mk [?sL] (x:p x0 x1 x2 x3):l9 p
inductive cW{A0 A1 A2 A3 A4:Type}(p:A0->A1->A2->?V5 A3 A4):Prop
 | mk [?sL] (x4:A4) (x:p x0 x1 x2 x3 x4):cW p
inductive Ex6{A0 A1 A2 A3 A4 A5:Type}(p:A0->A1->A2->A3->?V5 A4 A5):Prop
 | mk [?sL] (x4:A4) (x5:A5) (x:p x0 x1 x2 x3 x4 x5):Ex6 p
inductive qZ{A0 A1 A2 A3 A4 A5 A6:Type}(p:A0->A1->A2->A3->A4->?V5 A5 A6):Prop
 | mk [?sL] (x4:A4) (x5:A5) (x6:A6) (x:p x0 x1 x2 x3 x4 x5 x6):qZ p
inductive uV{A0 A1 A2 A3 A4 A5 A6 A7:Type}(p:A0->A1->A2->A3->A4->A5->?V5 A6 A7):Prop
 | mk [?e3] (x:p x0 x1 x2 x3 x4 x5 x6 x7):uV p
inductive Ex9{A0 A1 A2 A3 A4 A5 A6 A7 A8:Type}(p:A0->A1->A2->A3->A4->A5->A6->?V5 A7 A8):Prop
 | mk [?e3] (x8:A8) (x:p x0 x1 x2 x3 x4 x5 x6 x7 x8):Ex9 p
inductive mZ{A0 A1 A2 A3 A4 A5 A6 A7 A8 A9:Type}(p:A0->A1->A2->A3->A4->A5->A6->A7->?V5 A8 A9):Prop
 | mk [?e3] (x8:A8) (x9:A9) (x:p x0 x1 x2 x3 x4 x5 x6 x7 x8 x9):mZ p
inductive QZ{A0 A1 A2 A3 A4 A5 A6 A7 A8 A9 bB:Type}(p:A0->A1->A2->A3->A4->A5->A6->A7->A8->?V5 A9 bB):Prop
 | mk [?e3] (x8:A8) (x9:A9) (N4:bB) (x:p x0 x1 x2 x3 x4 x5 x6 x7 x8 x9 N4):QZ p
inductive uW{A0 A1 A2 A3 A4 A5 A6 A7 A8 A9 bB fZ:Type}(p:A0->A1->A2->A3->A4->A5->A6->A7->A8->A9->?V5 bB fZ):Prop
 | mk [?e3] [?mH] (x:p x0 x1 x2 x3 x4 x5 x6 x7 x8 x9 N4 Ob):uW p
inductive ZN{A0 A1 A2 A3 A4 A5 A6 A7 A8 A9 bB fZ KL:Type}(p:A0->A1->A2->A3->A4->A5->A6->A7->A8->A9->bB->?V5 fZ KL):Prop
 | mk [?e3] [?mH] (P4:KL) (x:p x0 x1 x2 x3 x4 x5 x6 x7 x8 x9 N4 Ob P4):ZN p
inductive Aq6{A0 A1 A2 A3 A4 A5 A6 A7 A8 A9 bB fZ KL rB RA:Type}(p:A0->A1->A2->A3->A4->A5->A6->A7->A8->A9->bB->fZ->KL->?V5 rB RA):Prop
 | mk [?e3] [?mH] [?AX] (x:p x0 x1 x2 x3 x4 x5 x6 x7 x8 x9 N4 Ob P4 Qt Qs):Aq6 p
inductive zN{A0 A1 A2 A3 A4 A5 A6 A7 A8 A9 bB fZ KL rB RA WM:Type}(p:A0->A1->A2->A3->A4->A5->A6->A7->A8->A9->bB->fZ->KL->rB->?V5 RA WM):Prop
 | mk [?e3] [?mH] [?AX] (Ry:WM) (x:p x0 x1 x2 x3 x4 x5 x6 x7 x8 x9 N4 Ob P4 Qt Qs Ry):zN p
inductive Aq5{A0 A1 A2 A3 A4 A5 A6 A7 A8 A9 bB fZ KL rB RA WM A16 A17 A18:Type}(p:A0->A1->A2->A3->A4->A5->A6->A7->A8->A9->bB->fZ->KL->rB->RA->WM->A16->?V5 A17 A18):Prop
 | mk [?e3] [?mH] [?AX] (Ry:WM) (x16:A16) (x17:A17) (x18:A18) (x:p x0 x1 x2 x3 x4 x5 x6 x7 x8 x9 N4 Ob P4 Qt Qs Ry x16 x17 x18):Aq5 p
inductive Aq9(p0 p1:Prop):Prop
 | mk (x:p0) (x:p1):Aq9 p0 p1
inductive Dg(p0 p1 p2:Prop):Prop
 | mk [?sZ]:Dg p0 p1 p2
inductive B4(p0 p1 p2 p3:Prop):Prop
 | mk [?sZ] (x:p3):B4 p0 p1 p2 p3
inductive En(p0 p1 p2 p3 p4:Prop):Prop
 | mk [?sZ] (x:p3) (x:p4):En p0 p1 p2 p3 p4
inductive Hn(p0 p1 p2 p3 p4 p5:Prop):Prop
 | mk [?sZ] (x:p3) (x:p4) (x:p5):Hn p0 p1 p2 p3 p4 p5
inductive Pm(p0 p1 p2 p3 p4 p5 p6:Prop):Prop
 | mk [?h0]:Pm p0 p1 p2 p3 p4 p5 p6
inductive m9(p0 p1 p2 p3 p4 p5 p6 p7:Prop):Prop
 | mk [?h0] (x:p7):m9 p0 p1 p2 p3 p4 p5 p6 p7
inductive FY(p0 p1 p2 p3 p4 p5 p6 p7 p8:Prop):Prop
 | mk [?h0] (x:p7) (x:p8):FY p0 p1 p2 p3 p4 p5 p6 p7 p8
inductive wM(p0 p1 p2 p3 p4 p5 p6 p7 p8 p9:Prop):Prop
 | mk [?h0] (x:p7) (x:p8) (x:p9):wM p0 p1 p2 p3 p4 p5 p6 p7 p8 p9
inductive kL(p0 p1 p2 p3 p4 p5 p6 p7 p8 p9 VG:Prop):Prop
 | mk [?h0] (x:p7) (x:p8) (x:p9) (x:VG):kL p0 p1 p2 p3 p4 p5 p6 p7 p8 p9 VG
inductive WL(p0 p1 p2 p3 p4 p5 p6 p7 p8 p9 VG p11 p12 p13:Prop):Prop
 | mk [?h0] [?TQ]:WL p0 p1 p2 p3 p4 p5 p6 p7 p8 p9 VG p11 p12 p13
inductive wL(p0 p1 p2 p3 p4 p5 p6 p7 p8 p9 VG p11 p12 p13 p14 p15:Prop):Prop
 | mk [?h0] [?TQ] (x:p14) (x:p15):wL p0 p1 p2 p3 p4 p5 p6 p7 p8 p9 VG p11 p12 p13 p14 p15
universe L2
namespace Hb
open PySem L2
def Zj[?fI](k:Int):Int:=ns.getD ?rI 0
noncomputable abbrev LT[?e](H:Hp)(v:V)[?fM]:Prop:=?W1 v (?p ?m8)
noncomputable abbrev TI[?e](H:Hp)(v:V)[?fI]:Prop:=?W1 v (tI ns)
section
variable[?P][?dB]
theorem TI.sq{v:V}[?fJ](h:?GS):∃a,?eS/\?R4:=by
 ext mK;rw[Ex.mp r]at q;exact ?DL
theorem TI.mk[?U][?fJ](h:?R4):TI K H ?bV ns:=?OY
theorem qj4{v:V}[?fJ](s:?cQ)(h:?GS):TI K H' v ns:=?H4 s h
theorem Zd[?a6](k:Nat):C8 xs ?a3 (?c ?hS)=xs.take k:=by
 unfold C8;rw[HT.sIx_none,HT.sIx_nat,qr9,qv9,List.take_eq_take_iff];omega
theorem Ta[?a6](k:Nat):C8 xs (?c ?hS) ?a3=?tY k:=by
 unfold C8;rw[HT.sIx_none,HT.sIx_nat];by_cases h:k<=xs.length
 . rw[Nat.min_eq_left h,qm8 (by rw[qh9];omega)]
 . rw[Nat.min_eq_right ?b5,List.drop_length,List.drop_of_length_le ?b5];simp
theorem LD{D:Addr}{ys:?o}{v:V}{d:L2.D}{ds:?p2}(hD:H D=?c ?f1)(r:?XR ys ds)(rv:?eY)(hi:imms (ds++[d])=true):?W K (?VJ D (?p (ys++[v]))) (ys++[v]) (ds++[d]) :=
 (r.snoc rv).t (Zw.lst hD) hi
theorem bN{D:Addr}{ys:?o}{v:V}{xs:LLInt}{x:?bC}(hD:H D=?c ?f1)(r:?XR ys ?m8)(rv:TI K H v x):?W K (?VJ D (?p (ys++[v]))) (ys++[v]) ((xs++[x]).map tI):=by
 have e:(xs++[x]).map tI=?oC tI++[tI x]:=?aE
 have h:=eV (xs++[x]);rw[e]at h ⊢;exact LD hD r rv h
def SameX(B:Addr)(H H':Hp):Prop:=∀b o,b≠B->?DB
theorem SameX.refl(B:Addr)(H:Hp):?m2 B H H:=fun _ _ _ h=>h
theorem SameX.trans{B:Addr}{H H1 H2:Hp}(a:?r4)(b:?m2 B H1 H2):?m2 B H H2:=fun c o n h=>b c o n (a c o n h)
theorem SameX.of{B:Addr}{H H1:Hp}(a:?rT):?r4:=fun c o _ h=>a c o h
theorem SameX.upd{B:Addr}{H H1:Hp}{o:HO}(a:?r4):?m2 B H (upd H1 B o):=fun c u n h=>by rw[An n];exact a c u n h
theorem SameX.same{B:Addr}{H0 H H1:Hp}(a:?r4)(s:?L8)(h:H0 B=none):?c1 H0 H1:=fun b o e=>a b o (At e h) (s b o e)
theorem Mx:∀ns:?bC,?K0=0
 | []=>rfl
 | ?pS=>by show max (dep (?eM)) (?K0)=0;rw[Mx ns];rfl
theorem AJ[?AV](hc:c)(h:A):?zK:=by rw[?Q hc];exact h
theorem G9[?AV](hc:¬c)(h:B):?zK:=by rw[?G hc];exact h
theorem neI{a b:Int}(h:¬a=b):?MZ:=?zO
theorem eqI{a b:Int}(h:a=b):¬?MZ:=?zO
theorem isI{a b:Int}(h:a=b):?q (?a8 a=?a8 b)=true:=?zO
theorem De{g:TG}[?f6][?f9][?c8][?A7]
 [?RQ]
 [?j3]:?UV ?qA KU:=?WA Pz
theorem Uw{g:TG}[?f6][?f9][?c8][?TA]
 [?RQ]
 [?j3]:?UV ?pM KU:=?WA qH
theorem Ld{g:TG}[?f6]{lo:Int}{n:Nat}[?c8]
 (hs:?XG ?BY)
 [?UI]:?UV (?iO) KU:=IG Pv h0 (fun i ys τ H e p=>hs i ys τ H e p) hd
theorem Al[?A9][?AG][?SK]:?q4:=h hu
theorem qy2[?A9][?SK][?AG]:?q4:=h hu
theorem Ge[?A9][?AG](h:(?DU)->?q4):?q4:=h hu
theorem small{n:Nat}(h:?G5):n<sizeLine:=qc1 h ?bF
theorem Be{n:Nat}(h:?G5):?tF:=qd9 (small h)
universe e9
section
variable[?e]
def GH:Sp:=fun vs H Q _=>N8 fun ?hN ?PA ?hS=>En (vs=[?aM,?h k]) (?rC) (0<=k) (ns.length<=63) (Q (?h (Zj ns k)) H)
universe e9
def Ke(d:L2.D):Bool:=jQ ?cX d&&!jQ ?iP d
def belowD(d:L2.D)(b:Int):Bool:=match d with
 | ?t=>?HO&&?q (i<b)
 | _=>false
def Bi(n:Nat):Int:=if ?kY > ?eA-1 then 0 else ?eA-1
def Di[?fM](d:L2.D)(l:Int):Bool:=match d with
 | ?t=>?HO&&?q (i<?q5)&&?q (Bi (?I9).length=l)
 | _=>false
def Te[?fM][?mZ](j i:Nat):Bool:=?q (?YV j i=?YV i (j-1))
def L7[?fM][?mZ]:Bool:=(?fV p.length).all fun j=>(?fV j).all fun i=>Te xs p j i
def UZ:L2.D->Int
 | ?t=>i
 | _=>0
def cO(n:Nat):Bool:=n==0 || n==2 || n==3 || n==4
def Y6[?fM](d:L2.D):Bool:=match d with
 | ?g5=>?BQ
 | _=>false
theorem Py[?fM](ds:?p2):Y6 xs (?g5)=(?BQ):=rfl
theorem UL{n:Nat}(h:cO n=true):n<=4/\n≠1:=by
 unfold cO at h;simp only[qr5,qx2]at h;omega
section
variable[?e]
def Iq:Sp:=fun vs H Q _=>Hm fun ?n5 ?qM=>Dg ?JU ?hA (?VH (Ke d))
noncomputable abbrev W8:Sp:=Iq K
def Gm:Sp:=fun vs H Q _=>N8 fun ?n5 ?qM (b:Int)=>Dg (vs=[x,?i9]) ?hA (?VH (belowD d b))
def K6:Sp:=fun vs H Q _=>Hm fun ?n5 (ds:?p2)=>Dg ?JU (Ao9 K H x ds) (Q (?h (?zT)) H)
def E9:Sp:=fun vs H Q _=>cW fun ?hN ?n5 ?qM (l:Int) ?uM=>B4 (vs=[?aM,x,?h l]) (?lB) ?hA (?VH (Di xs d l))
def Of:Sp:=fun vs H Q _=>l9 fun ?hN ?lR ?uM (p:?bC)=>Hn (vs=[?aM,v]) (?lB) (?LH) (p.length<=4) ((∀f∈p,0<=f/\f<?q5/\(?o1 f.toNat []).length+1=p.length)) (?VH (L7 xs p))
def jD:Sp:=fun vs H Q _=>l9 fun ?hN (th:V) ?qM ?uM=>B4 (vs=[?aM,th]) (?lB) (?W1 th d) (∀H',?cQ->Q (.bl (Y6 xs d)) H')
noncomputable abbrev Sa:Sp:=GH K
universe e9
section
variable[?P]{H:Hp}
theorem gB{d:L2.D}(h:Ke d=true):∃i,d=?t:=by
 cases d<;>simp[Ke,jQ]at h;ext mS
theorem LT.get[?U]{xs:LLInt}{i:Int}(h:?lB)(h0:?iJ)(h1:i<?q5):∃us v,?nT/\aY us i=?C/\TI K H v (?I9):=by
 obtain⟨a',us,e,hq,r⟩:=h;cases e;obtain⟨j,rfl⟩:=qi1 h0;have hj:?vR:=O9m
 have e:?m8[j]?=?c (tI xs[j]):=by rw[qb2,?wQ];rfl
 obtain⟨v,hv,tv⟩:=?jQ e;refine⟨us,v,hq,Bn hv,?_⟩;rw[qd6,qa1,?wQ];exact tv
theorem LT.len[?U]{xs:LLInt}(h:?lB):∃us,?nT/\us.length=xs.length:=by
 obtain⟨a',us,e,hq,r⟩:=h;cases e;exact⟨us,hq,?P6⟩
theorem TI.get{v:V}{p:?bC}{i:Int}(h:?LH)(h0:?iJ)(h1:i<(p.length:Int)):∃a,?eS/\SqT K H a (p.map ?a8)/\aY (p.map ?a8) i=?c (?h (?vY ?wC 0)):=by
 obtain⟨a,e,hq⟩:=h.sq;refine⟨a,e,hq,?_⟩;obtain⟨j,rfl⟩:=qi1 h0;have hj:j<p.length:=O9m
 refine Bn ?_;rw[qb2,?wQ];simp[hj]
theorem BX(n:Nat):Bi n=((n-1:Nat):Int):=by unfold Bi;split<;>omega
theorem fS{xs:LLInt}{l:Int}:∀{ds:?p2},ds.all (fun e=>Di xs e l)=true->ds=Fi (ds.map UZ)
 | [],_=>rfl
 | ?e8,h=>by
   simp only[List.all_cons,qd2]at h;cases d with
   | int i =>
     show L2.D.int i::ds=L2.D.int i::Fi (ds.map UZ);rw[←fS h.2]
   | _=>simp[Di]at h
universe e9
universe Hb
namespace L2
open PySem PySem.Spec PyProof.Rows
section
variable[?mD]{xc:Str}[?y]{C c:Addr}[?d8]
universe e9
section
variable[?mD]{xc:Str}[?UK][?T][?jE]{te:TE}
universe e9
section
variable{fs:?X}[?dB]{h B h' h2:Heap}
universe e9
noncomputable abbrev XJ:=?aJ->OAddr->?F
section
variable[?tC]{σ:St}[?dB]{s s':Shared}{e:Addr}{cls a0:Value}{dx:OAddr}
universe e9
section
variable[?c9][?mG]{N:?E}[?UB][?D]{outer:?cJ}[?aT]{H:Hp}{E:XK}
universe e9
section
variable{X:Cx}{J:XJ}[?TG][?a5]{t:TA}
universe e9
universe L2
namespace L2
open PySem PySem.Spec PyProof.Rows PySem.W
section
variable{X:Cx}{Ac pn:Bg}[?mY][?aT]{J:XJ}
universe e9
section
variable{X:Cx}{th:Ends->XJ}
universe e9
section
variable[?j8][?D][?a0][?aN]{g:?hR GenState}{d:Drawn}{t:Nat}{os:OsState}{a C:Addr}{o:Obj}{K:Frag}
universe e9
section
variable{X:Cx}{K:Frag}
universe e9
universe L2
namespace L2
open PySem PySem.Spec PyProof.Rows
theorem Bj.tupN{X:Cx}[?y]{h':Heap}[?e5][?d8]{x y:V}{u v:Value}[?d](kk:∀c o,?NB->?MC)[?h2](hl:?NX)
 (ht:?tI=?c { cls:=?dU,data:=?aC #[u,v] }) (ru:?bU) (rv:?wS):?V1 (?x9) ?jI/\∀b∈fp,upd H ?u ?rM b=none:=by
 have hfresh:?kV:=?gE;ext S9
 have OP:∀c o,H c=?l->upd H ?u ?rM c=?l:=fun c o e=>(An (At e hfresh)).trans e
 refine⟨Bj.step (s:=s) (h':=h') (t':=t') (H':=?x9) I (g':=s.gens) (d':=s.drawn) (ch:=fp) (?PU) (fun c o _ _ hc e _=>?w6) (fun c o _ _ hc e _=>⟨?x7,?w6⟩) (fun c o hc e n=>?_) (fun c o hc e=>⟨o,?w6⟩)
  (fun c zs e=>?xE) (fun c o w' e=>?xE) (fun c ps e=>⟨#[],by rw[?xE];simp⟩) (fun m hm=>?_) (fun c w' e=>?_) ?bX,?PU⟩
 . have f:=hf c hc;ext TB
 . rw[An (qd8 ?dF)];exact n
 . obtain⟨o,es',ep,ho,r⟩:=hm;exact⟨o,es',ep,kk _ o (fun q=>(hf _ q).2.1 rfl) ho,r⟩
 . by_cases hcs:c=s.heap.objs.size
   . subst hcs;rw[Ab]at e;cases e;exact⟨(by show(2:Nat)<=sizeLine;decide),[u,v],?H ru (?H rv ?s),⟨_,ht,rfl,rfl,_,rfl⟩⟩
   . rw[An hcs]at e;refine(?b6 c w' e).stay (fun c' y' hc' q=>?_) (fun c' q=>?F8) fun c' zs q=>?F8;rcases hc' with rfl | hc'
     . exact ?XS kk e
     . exact ?XS kk hc'
 . obtain⟨o,e,_⟩:=hl c hc;rw[An (qd8 ?dF)];exact(hf c hc).1
theorem Kd[?aN]{j t:Addr}{n:Nat}(g:?gB j t n):∃o,?XK j:=by
 obtain⟨o,q,_,d⟩:=g;exact⟨o,q,?N0⟩
theorem Y8[?aN]{e it:Addr}{i:Int}{old:Value}(h1:?YL h i)(h2:∃o,?XK it):∀b∈?jT,?C5:=fun b hb=>by
 rcases ?lU hb with rfl | hb
 . exact⟨_,h1,fun v z=>by cases (show ?tU from z)⟩
 . rw[?LI];exact h2
theorem Bj.fp2{X:Cx}[?y][?d]:∀b∈[?eU,s.heap.objs.size],?m5:=fun b hb=>by
 have lb:?CU:=by
  rcases ?lU hb with rfl | hb
  . exact ?oT
  . rw[?LI];exact ?dI
 exact I.fpOk lb (?iW lb)
def IteG(S:?rD)[?aU]:It :=
 ⟨?WX ?dD,fun i H x H'=>∃p v,?cN/\x=?dT/\H'=?VJ p (?K [?t,v])/\∀xs,?dD->xs[i]?=?C,?XI ?dD⟩
theorem AO{X:Cx}[?y][?a0][?a5][?jB]{e it:Addr}{i:Nat}{old:Value}{x:V}[?aL][?UD]
 (hne:e≠it) [?d] (hf:∀b∈?jT,?m5) (h1:?YL ?B ?qJ) (h2:∃o,?IG/\?cV) (ru:?bU)
 (hout:IsEnumOut h' e it (?qJ+1) u ?u) (htup:?tI=?X9 u) (hk:∀b o,?qE->?GU)
 (hT:∀h3,?FN->(∃old,?YL h3 (?qJ+1))->T h3) (hY:?kV->Y ?iD (?VJ ?u (?K [?t,x]))) :
 ∃r,?N2/\?f ?i X.A (?oE ?iG (?k e) r) (?XJ ?jT) E { s with heap:=h',toks:=?o5 }:=by
 refine⟨_,rfl,wpAny_letOwnedTupleGo_enum hout fun h3 hen Qj=>?_⟩
 replace Qj:?FN:=Qj
 have lte:?YI e:=qc2 h1;have ht3:h3.get? ?u=?X9 u:=(?cW _ (qn0 lte)).trans htup;obtain⟨I3,hn3⟩:=I.tupN (t':=?o5) (fp:=?jT) (x:=?t) (y:=x) (fun b o hb z=>(?cW b (?YP ?iH)).trans (hk b o (?YP ?iH) (?YP ?GQ) z)) hf (Y8 h1 h2) ht3 ?g8 ru;exact⟨?hG,_,I3,rfl,hY (?gE),hT h3 Qj ?BU,hn3⟩
section
variable[?jE][?f6]{S:?rD}
theorem iH[?U][?bL][?c8](hl:?WR ?dD)
 [?RK]
 [?j3]:?UV (?rU) tc:=by
 ext zX;rintro i m ys τ H ⟨rfl,hi,pp⟩;have q:=hl i ys τ H hi pp;ext j6
 . ext zU;obtain⟨p,v,hp,rfl,rfl,y⟩:=y;exact hs i v ys τ _ p ?pY pp hp
 . ext j7
   subst e;exact ?j ⟨?nF,hd ys τ H pp⟩
theorem AM[?U][?bL][?mB](hl:?WE ?eW ?dD)
 [?RO] :
 ∃W:?eJ,?g3/\∀i m σ H,?f2 →
   ?ZI ?rU (?UT ?rU ?rU):=by
 ext zY;rintro i m σ H ⟨rfl,hi,pp⟩;have q:=?O0;ext j6
 . ext zV;obtain⟨p,v,hp,rfl,rfl,y⟩:=y;exact hs i v σ _ p ?pY pp hp
 . ext j7
   subst e;exact ?WT ?nF ?Q0
universe e9
def Ite[?e][?aU]:It:=IteG (SqL K) a
theorem KP[?c9][?a5][?jB](a e it:Addr)(hne:e≠it):U1 P w K ?iG (?iB) ?jT e (fun i h=>(∃old,?YL h ?qJ)/\?IF) where
 mem:=?iH
 obj:=fun i h ?EY=>Y8 h1 ?nY
 keep:=fun i h h' ?EY k=>⟨⟨old,k e (?iH) _ h1⟩,h2.at fun o z=>k it (?GQ) o z⟩
 item:=by
  ext d2;ext AI;ext S6;exact wpAny_pyNext_enum_item h1 h2 ?a7 (x:=u) ?r1 hne fun h' hout yR htup hsz hk=>AO (i:=i) (Y:=(Ite X.K a).yld i H) (T:=fun h=>(∃old,?m4 h e it ((i+1:Nat):Int) old)/\?gB it a ?b1) hne I hf h1 ?nY ru hout htup hk (fun h3 Qj he=>⟨he,yR.at fun o z=>(?cW it hne.symm).trans z⟩) fun hn=>⟨_,x,hn,rfl,rfl,?EJ⟩
 done:=by
  ext d2;ext AI;ext SU;ext gZ;have hl:=rv.length;exact wpAny_pyNext_enum_end ?dE h1 h2 ?a7 ?kU fun h' eb=>⟨rfl,?W0 (fun b o hb z=>eb b o hb z)⟩
 self:=fun _ _ _ _ _ st h=>by
  ext AI;exact qu6 h1 h
inductive QX[?e][?sJ]:Prop
 | mk:∀a,?M1->?YA (?iB) ?OO
def Ak2[?e](ta:TA):TI:=?VB ?OO
theorem V9:?XA ?gU ?gU:=?bG
theorem Pr{X:Cx}[?P][?a5][?jB]{a:Expr}{ta:TA}{p pos:Pos}(hg:Gl X ?gU)(hm:?d1 ?gU=none)(ha:?FW)[?a1][?TI]:PI X ?iG (?VW ?gU [a]) (Ak2 K ta):=by
 subst hK;intro Ac s σ H R I h;refine Call_ (Kq I hg hm V9 (qg2 (Dh (ha pos Ac s σ H _ I h) fun us s1 _z=>?_) hs rfl));obtain⟨vs,H1,I1,r1,q1⟩:=_z;obtain⟨l,e,⟨xs,hq⟩,q⟩:=q1;subst e;cases r1 with
 | cons r rr =>
   cases rr;cases r;obtain⟨its,rv,pl,hz⟩:=?rH hq;refine call_enumerate_list ?iF fun h' hen hit hsz hk=>?_;refine qu6 hen ⟨?uI,[?uI,s1.heap.objs.size],_,_,H1,rfl,?I8,KP l _ _ (qu1 _),⟨?BU,hit⟩,I1.fp2,q⟩
section
variable[?jE][?f6]
theorem Ux[?f9][?c8][?A7]
 [?RK]
 [?j3]:?UV (?iB) tc:=iH Pv h0 hl hs hd
theorem Y5[?f9][?mB][?TP]
 [?RO] :
 ∃W:?eJ,?g3/\∀i m σ H,?f2 →
   ?ZI ?iB (?UT ?iB ?iB):=AM Pv h0 hl hs hd
universe e9
theorem Bj.turnedN{X:Cx}[?y]{h':Heap}[?e5][?d8][?d](k:∀b o,b ∉ fp->?PY)[?h2] :
 ?uT:=by
 ext S9
 refine ?nW (g':=s.gens) (d':=s.drawn) (ch:=fp) (?g4) (?WC ?wK) (?WC ⟨?x7,?wK⟩) (fun _ _ _ _ n=>n)
  (fun b o hc e=>⟨o,?wK⟩) (fun _ _ e=>e) (fun _ _ _ e=>e) (fun b ps e=>⟨#[],by rw[e];simp⟩) (fun m hm=>?_) (fun b u e=>?_) ?bX
 . have f:=?qY;ext TB
 . obtain⟨o,es',ep,ho,r⟩:=hm;exact⟨o,es',ep,k _ o (fun z=>(hf _ z).2.1 rfl) ho,r⟩
 . refine ?LU (fun c y hc' q=>?_) (fun c q=>q) fun c ys q=>q;rcases hc' with rfl | hc'
   . exact ?XS k e
   . exact ?XS k hc'
theorem xU{c z TI TO i1 i2:Addr}(h:c ∉ ?eG):c≠z/\c≠TI/\c≠TO/\c≠i1/\c≠i2:=by
 simpa only[qc5,List.not_mem_nil,or_false,not_or]using h
theorem Ao6{p:?lO}[?B3](h1:p z)(h2:p TI)(h3:p TO)(h4:p i1)(h5:p i2):?LO:=fun c hc=>by
 simp only[qc5,List.not_mem_nil,or_false]at hc;rcases hc with rfl | rfl | rfl | rfl | rfl<;>assumption
theorem of5{p:?lO}[?B3](h:?LO):p z/\p TI/\p TO/\p i1/\p i2:=⟨?lN,?lN,?lN,?lN,?lN⟩
theorem bC[?aN][?B3]{a b c d e:Value}(h1:?XY h e)(h2:?dR h TI a b)(h3:?w7)(h4:∃o,?XK i1)(h5:∃o,?XK i2):∀c∈?eG,∃o,?XK c :=
 Ao6 ⟨_,h1,fun v q=>by cases (show ?tU from q)⟩ (?YB h2 ?PL) (?YB h3 ?PL) h4 h5
theorem cZ{X:Cx}[?y][?a0][?a5][?jB]{a b z TI TO i1 i2:Addr}{x y:V}{u v u0 v0:Value}[?UD]
 [?UO] [?d] (hf:∀b∈?eG,?m5) (hz:?XY ?B ?aI) (hTI:?WU ?B) (hTO:?dR ?B TO u0 v0)
 (h4:∃o,?aP i1=?l/\?cV) (h5:∃o,?aP i2=?l/\?cV) (ru:?bU) (rv:?wS)
 (hz':?XY h' (rawInt ?u)) (pU:?dR h' TO u v) (htup:?dR h' ?u u v) (hk:∀c o,c≠z->c≠TO->c≠i1->c≠i2->?MC)
 (hT:∀h3,?NJ->?XY h3 ?aI->?WU h3->(∃c d,?dR h3 TO c d)->T h3) (hY:?kV->Y ?iD (?x9)) :
 ∃r,?N2/\?f ?i X.A (?oE ?iG (?k z) r) (?XJ ?eG) E ?iI:=by
 refine⟨_,rfl,wpAny_letOwnedTupleGo_zip hz' fun h3 hz3 Qj=>?_⟩
 replace Qj:?NJ:=Qj
 have ltz:=qc2 hz;obtain⟨I3,hn3⟩:=I.tupN (t':=s.toks) (fp:=?eG) (x:=x) (y:=y) (h':=h3) (fun c o hc e=>let ⟨n1,_,n3,n4,n5⟩:=xU hc;(?cW c n1).trans (?IU)) hf (bC hz hTI hTO h4 h5) ((?cW _ (qn0 ltz)).trans htup) ru rv;exact⟨?hG,_,I3,rfl,hY (?gE),hT h3 Qj hz3 ((?cW TI D.TIz).trans (hk _ _ D.TIz D.TITO D.TIi1 D.TIi2 hTI)) ⟨_,_,(?cW TO D.TOz).trans pU⟩,hn3⟩
theorem Bj.fp5{X:Cx}[?y][?d]:∀b∈[?WP 4,?WP 2,?WP 3,s.heap.objs.size,?eU],?m5:=fun c hc=>by
 have lc:=Ao6 (p:=fun c=>?VZ c) ?nX ?nX ?nX ?aY ?nX c hc;exact I.fpOk lc (?iW lc)
def MY(S:?rD)(N:?M7)(a b:Addr):It :=
 ⟨fun i H=>∃xs ys x y,?dD/\?oV/\?aF/\?l2,
  fun i H v H'=>∃p x y,?cN/\v=?dT/\H'=?o0/\(∀xs,?dD->?aF)/\∀ys,?oV->?l2,
  fun i H=>∃xs ys,?dD/\?oV/\N xs ys i⟩
def WC[?e](a b:Addr):It:=MY (SqL K) (?v3) a b
theorem NL[?c9][?a5][?jB](a b z TI TO i1 i2:Addr)[?UO] :
 U1 P w K ?iG ?p0 ?eG z (fun i h=>?EA/\?D8/\?Y8 i i) where
 mem:=?iH
 obj:=fun i h ?QV=>bC hz hTI hTO (Kd h1) ?nY
 keep:=fun i h h' ?QV k=>by
  obtain⟨k1,k2,k3,k4,k5⟩:=of5 k;exact⟨k1 _ hz,k2 _ hTI,⟨u,v,k3 _ hTO⟩,h1.at fun o q=>k4 o q,h2.at fun o q=>k5 o q⟩
 item:=by
  ext d2;ext TX;obtain⟨xs,ys,x,y,EV,lZ,hx,hy⟩:=hg;ext SL;obtain⟨u,hu,ru⟩:=ra.get hx;obtain⟨v,hv,rv⟩:=rb.get hy
  exact wpAny_pyNext_zip_item D hz hTI hTO h1 h2 ?yS ?zS (x:=u) (y:=v) ?r1 (by simpa using hv) fun h' hz' pU cY h2' htup hsz hk =>
   cZ (Y:=(WC X.K a b).yld i H) (T:=fun h=>?EA/\?D8/\?Y8 ?b1 ?b1) D I hf hz hTI hTO (Kd h1) ?nY ru rv hz' pU htup hk (fun h3 Qj q1 q2 q3=>⟨q1,q2,q3,cY.at fun o e=>(?cW i1 D.i1z).trans e,h2'.at fun o e=>(?cW i2 D.i2z).trans e⟩) fun hn=>⟨_,x,y,hn,rfl,rfl,fun zs q=>by rw[?nO q EV];exact hx,fun zs q=>by rw[?nO q lZ];exact hy⟩
 done:=by
  ext d2;ext TX;obtain⟨xs,ys,EV,lZ,hx⟩:=hg;ext SL;have la:=ra.length;have lb:=rb.length;refine wpAny_pyNext_zip_end ?dE D hz hTI hTO h1 h2 ?yS ?zS ?_ fun h' hk=>⟨rfl,I.turnedN (t':=s.toks) (fp:=?eG) (fun c o hc e=>?_) hf⟩
  . rcases hx with q | q
    . exact ?j ?kU
    . exact ?n ?kU
  . obtain⟨n1,n2,n3,n4,n5⟩:=xU hc;exact ?IU
 self:=fun _ _ _ _ _ st h=>qv8 st.1 h
inductive WI[?e][?sJ]:Prop
 | mk:∀a b,(vs=[?aM,?c7])->((∃xs,SqL K H1 a xs))->((∃ys,SqL K H1 b ys))->(R ?p0 H1)->?RE
def A33[?e](ta:TA):TI:=?VB ?RE
theorem MT:?XA ?gJ ?gJ:=?bG
theorem bQ{X:Cx}[?P][?a5][?jB]{a b:Expr}{ta:TA}{p pos:Pos}(hg:Gl X ?gJ)(hm:?d1 ?gJ=none)(ha:?E9)[?a1][?RZ] :
 PI X ?iG (?VW ?gJ ?pL) (A33 K ta):=by
 subst hK;intro Ac s σ H R I h;refine Call_ (Kq I hg hm MT (qg2 (Dh (ha pos Ac s σ H _ I h) fun us s1 ⟨vs,H1,I1,r1,q1⟩=>?_) (by rw[hs,hs2]) (by rw[hs2];rfl)));obtain⟨la,lb,e,⟨xs,EV⟩,⟨ys,lZ⟩,q⟩:=q1;subst e;cases r1 with
 | cons ra rr =>
   cases rr with
   | cons rb rr =>
     cases rr;cases ra;cases rb;obtain⟨ia,_,pa,_⟩:=?rH EV;obtain⟨ib,_,pb,_⟩:=?rH lZ;have a1:la<s1.heap.objs.size:=by obtain⟨_,e,_⟩:=pa.isList;ext b9
     have a2:lb<s1.heap.objs.size:=by obtain⟨_,e,_⟩:=pb.isList;ext b9
     refine call_zip_2 ?yS ?zS fun h' hz hTI hTO hi1 hi2 hsz hk=>?_;refine qv8 hz ⟨?L5,[?L5,?WK 2,?WK 3,s1.heap.objs.size,?uI],_,_,H1,rfl,?I8,NL la lb _ _ _ _ _ (zipApart_new a1 a2),⟨hz,hTI,(?YB _ hTO),hi1,hi2⟩,I1.fp5,q⟩
section
variable[?jE][?f6]
theorem aS[?TF][?mI][?U1][?c8](hl:∀i zs τ H,?g1->?kT->?DA)
 [?RJ]
 [?AK]:?UV (?oL) tc:=by
 refine⟨fun i m zs τ H=>m=n-i/\?g1/\?kT,?wY,?_⟩;rintro i m zs τ H ⟨rfl,hi,pp⟩;obtain⟨qa,qb⟩:=hl i zs τ H hi pp;by_cases hlt:i<n
 . refine ?WW ?N9 ?J8;obtain⟨p,u,v,hp,rfl,rfl,y1,y2⟩:=y;exact hs i u v zs τ _ p (y1 xs qa) (y2 ys qb) pp hp
 . have e:i=n:=O9m
   subst e;exact ?j ⟨?OS,hd zs τ H pp⟩
theorem pW[?TF][?mI]{g:TG}{tb:TS}{D:Ends}[?mY][?U1][?UE](hl:?WE ?g1 ?DA)
 [?RN] :
 ∃W:?eJ,?g3/\∀i m σ H,?f2 →
   ?ZI ?oL (?UT ?oL ?oL):=by
 ext SG;rintro i m σ H ⟨rfl,hi,pp⟩;obtain⟨qa,qb⟩:=?O0;by_cases hlt:i<n
 . refine ?WW ?N9 ?BS;obtain⟨p,u,v,hp,rfl,rfl,y1,y2⟩:=y;exact hs i u v σ _ p (y1 xs qa) (y2 ys qb) pp hp
 . have e:i=n:=O9m
   subst e;exact ?WT ?OS ?Q0
theorem FI[?P][?mI][?AN][?c8][?SZ]
 [?RJ]
 [?AK]:?UV ?p0 tc:=?XF aS
theorem uD[?P][?mI]{g:TG}{tb:TS}{D:Ends}[?mY][?AN][?UE](hl:?WE ?g1 ?NP)
 [?RN] :
 ∃W:?eJ,?g3/\∀i m σ H,?f2 →
   ?ZI ?r5 (?UT ?r5 ?r5):=?XF pW
universe e9
theorem op_mulX{X:Cx}:?WH (?dV .Mult) (rI ?iR (?ZH (i*j))):=opI fun _ _ _ _ _ _ _ hc q=>mul_int q hc
theorem jZ{i:Int}{m:Nat}(h:?PV):?u8 i<=m:=by
 unfold Builtin.Int.intBits;split
 . exact ?mA
 . rename_i h0
   have hne:i.natAbs≠0:=by
    intro z
    exact h0 (by have:i=0:=O9m
                 simp[this])
   exact(?QA hne).mpr h
theorem Qf{i j:Int}{m n:Nat}[?B4](hj:j.natAbs<2 ^ n)(h:m+n<=134217728):?w2:=by
 have h1:=jZ hi;have h2:=jZ hj
 have h3:¬((?u8 i:Nat):Int)+((?u8 j:Nat):Int) > ((bitsLine:Nat):Int):=by
  have:bitsLine=134217728:=?kH
  omega
 unfold IntMulOk;intro hz;simp only[qd2]at hz;have h4:=hz.2;unfold Builtin.Int.intTooBig at h4;exact h3 (by simpa using h4)
theorem bV{i j:Int}(h1:-(?iA)<i)(h2:i<?iA):?w2:=zP.ok (?WT h1 h2)
universe L2
namespace L2
open PySem PySem.W PySem.Calls PyProof.Rows
def Ph:Nat:=1048576
theorem Wr:∀[?fJ]{x:Int},x∈ns->?NV<=?VR WData.weightAll
 | ?pS,x,h=>by
   rw[qc8];simp only[WData.weightAll];rcases ?o3 with rfl | h
   . omega
   . have:=Wr h;omega
theorem MQ[?fJ](h:WData.layableAll [?VR WData.list]=true):?r6:=by
 intro x hx
 have h1:?q (?P7 (?VR WData.list)<=2 ^ 20)=true:=by
  have:WData.layable (?VR WData.list)=true:=by simpa[WData.layableAll]using h
  unfold WData.layable at this;exact(Bool.and_eq_true_iff.mp this).2
 have h2:?VR WData.weightAll<=1048576:=by
  have:=qe3 h1;simpa only[WData.weight]using this
 have h3:=Wr hx;by_cases h0:x.natAbs=0
 . rw[h0];exact Nat.pow_pos ?bF
 . have h4:?NV=x.natAbs.log2+1:=by
    simp only[WData.weight];rw[?G fun z=>h0 (by rw[show x=0 by simpa using z];rfl)]
   have h5:x.natAbs.log2<Ph:=by show _<1048576;omega
   exact(?QA h0).mp h5
theorem cT{l:OpenLaw}{n:Nat}[?SB]
 [?B8] (hdf:?IQ)
 (call:∀(w:World) (s₀ s₁:Shared) (mg mb:?bZ) (fa:Addr) (o:Obj) (pm cd doc:Value) [?aU] (vs:?w) [?fI],(?r6) →
   Ground q loose [] XP w s₀ mg mb ?fY->YP w ?fY →
   ?vD fa=?l->o.data=?oR (docDef ?y1 d.params d.body d.scope pm cd doc)->s₁.heap.CodeRec cd ?y1->?GZ →
   ?JF->?m9->?r7->?KT →
   ?V6 (?l0 l.prog w)) :
 ?WD WalkO:=by
 intro w s₀ s₁ mg mb G Y fa o pm cd doc dV kV ho hd hcd hD hmg hg args vals as hpre hlay hrd hwl hlo;obtain rfl:dV=?aI:=Dflts.none hD hdf;obtain rfl:kV=?aI:=Dflts.noKw hD;obtain⟨a,vs,ns,rfl,rfl,hobj,hints,hlen⟩:=Att.script_of hn hpre hwl;refine enter_call (?I7 (call w s₀ ?dN mg mb fa o pm cd doc a vs ns (MQ hlay) G Y ho (fd_plain hd) hcd hmg hobj hints hlen hg) fun r s' hq=>?_);obtain⟨rfl,h2,h3,h4⟩:=hq;exact⟨?j ⟨?qF,?qF,[],rfl,?NI,?qF,Att.post_true l _,fun _=>⟨List.Pairwise.nil,fun _ hm=>(nomatch hm)⟩⟩,h2,h3,h4⟩
theorem walk_ofB{l:PySem.W.OpenLaw}{n k:Nat}[?SB]{K:Params->PySem.W.Frag}{CX:World->rA}{sp:World->Sp}{x:Str}
 [?B8] (hn2:?tF) (hdf:?IQ) (hr:?JJ)
 (hY:∀(w:World) [?bN],YP w h->?xW h)
 (F:∀(w:World) (mg:?bZ) (fa:Addr) [?bN],?xW h->h.Ns ?vG mg->?GZ →
   ∃fd:FuncData,(?MM) ∧
     ∀base:Heap,?xW ?aH->?u5->Bv l.prog w (K w.params) mg ?aH (CX w) k fa fd [x] (sp w))
 (jR:∀(w:World) (H:Hp) [?aU] [?fI],?r7->(?r6)->ZJ H->SqL (K w.params) H a ?jS->sp w ?bR H (fun v _=>v=?lY) ?hC)
 (hCX:∀(w:World) (H:Hp) [?bM] (e:Value) [?cB],CX w [] H s (?hC) e s'->False) :
 ?WD PySem.W.WalkO:=by
 refine cT hn hdf fun w s₀ s₁ mg mb fa o pm cd doc a vs ns yS G Y ho hd hcd hmg hobj hints hlen hg=>?_;have KX:=hY w _ Y;obtain⟨fd,hb,hF⟩:=F w mg fa _ KX G.T.g hmg;exact pI KX G.T.g G.T.b G.T.builtins G.T.nolimit hg hobj hints (qa5 hlen hn2) hr hF hb (fun H hO hS=>jR w H a ns hlen yS hO hS) fun H e s'=>hCX w H ?dN e s'
universe L2
namespace Hb
def Aj(f:?aA):?aA
 | 0=>0
 | n+1=>?k4
theorem Ai{f g:?aA}:∀{n:Nat},(∀k,k<n->f k=g k)->?hK=?s1
 | 0,_=>rfl
 | n+1,h=>by
   show ?k4=?s1+g n;rw[Ai fun k hk=>h k ?b5,h n ?b5]
theorem Md:∀n:Nat,Aj (?zD) n=0
 | 0=>rfl
 | n+1=>by show ?lM+0=0;rw[Md n];rfl
theorem Ce(f g:?aA):∀n:Nat,Aj (fun k=>f k+g k) n=?hK+?s1
 | 0=>rfl
 | n+1=>by
   show ?lM+(f n+g n)=(?k4)+(?s1+g n)
   rw[Ce f g n];omega
theorem Ax(c:Int)(f:?aA):∀n:Nat,Aj (fun k=>c*f k) n=c*?hK
 | 0=>by show ?kY=c*0;rw[qc7]
 | n+1=>by
   show ?lM+c*f n=c*(?k4);rw[Ax c f n,qt8]
theorem D5(c:Int)(f:?aA)(n:Nat):Aj (fun k=>f k*c) n=?hK*c:=by
 rw[qe8,←Ax];exact Ai fun k _=>qe8 ..
theorem Cr[?t2](m:Nat):∀n:Nat,Aj (fun i=>Aj ?g0 m) n=Aj (fun j=>?PO) m
 | 0=>(Md m).symm
 | n+1=>by
   show ?lM+Aj (f n) m=Aj (fun j=>?PO+f n j) m;rw[Cr f m n,Ce]
theorem Cn(f:?aA)(i:Nat):∀n:Nat,Aj (fun k=>(if k=i then 1 else 0)*f k) n=if i<n then f i else 0
 | 0=>by simp[Aj]
 | n+1=>by
   show ?lM+(if n=i then 1 else 0)*f n=_;rw[Cn f i n];by_cases h:n=i
   . subst h;simp
   . by_cases h2:i<n
     . rw[?Q h2,?hH,?tV];omega
     . rw[?G h2,?hH,?G ?b5];omega
def Hy[?fF]:?bC:=(?fV n).map f
theorem Jt[?fF]:(?gO).length=n:=by unfold Hy;rw[qa3,qe7]
theorem tR[?sY](h:i<n):(?gO)[i]?=?c ?g0:=by
 unfold Hy;rw[qb2,qi8 h];rfl
theorem Yl[?fF]:?J1=?gO++[f n]:=by
 unfold Hy;rw[ql9,qb8];rfl
theorem aD[?UA]:?gO=Hy n g:=by
 unfold Hy;refine qw3 fun i hi=>h i (?QU)
theorem TQ(n:Nat):(?aV n [?kY]).flatten=?PP:=by
 induction n with
 | zero=>rfl
 | succ n ih =>
   rw[Yl,←ih];clear ih
   induction n with
   | zero=>rfl
   | succ n ih =>
     rw[qh0,ql1,ih];have ih':=ih;rw[qh0,ql1]at ih';rw[←qj9,ih']
theorem zH{i j:Int}{m:Nat}[?B4](hj:j.natAbs<?oG):(i+j).natAbs<2 ^ (m+1):=by
 have h:=qf0 i j;rw[qh3];generalize ?oG=q at *;omega
theorem uP{i:Int}{m n:Nat}[?B4](h:m<=n):i.natAbs<2 ^ n:=qb4 hi (qf1 ?bF h)
theorem QL{f:?aA}{m:Nat}:∀{n:Nat},(∀k,k<n->(f k).natAbs<?oG)->(?hK).natAbs<2 ^ (m+n)
 | 0,_=>by show(0:Int).natAbs<_;exact Nat.pow_pos ?bF
 | n+1,h=>by
   have h1:=QL (n:=n) (f:=f) fun k hk=>h k O9m;show(?k4).natAbs<2 ^ (m+n+1);exact zH h1 (uP (h n O9m) (qg7 m n))
universe Hb
namespace Hb
open PySem L2
noncomputable abbrev VI[?fF]:?o:=(?gO).map ?a8
def dL[?fF]:L2.D:=?p (Fi (?gO))
def dT(h w:Nat)[?t2]:L2.D:=?p ((?fV h).map ?v1)
section
variable[?P]{H H' H1 H2:Hp}
theorem Br[?fF]:?MF=n:=by rw[qa3,Jt]
theorem Cg[?sY](h:i<n):?lK[i]?=?c (?h ?g0):=by rw[qb2,tR h];rfl
theorem Ao8[?sY](h:i<n):aY ?lK (?wU:Int)=?c (?h ?g0):=Bn (Cg h)
theorem U0[?sY]{u:V}(h:?lK[i]?=?M):i<n/\u=?h ?g0:=by
 have h1:i<?MF:=?EM;rw[Br]at h1;rw[Cg h1]at h;exact⟨h1,(qb6 h).symm⟩
theorem Tg[?fF]:VI ?qC f=?o8++[?h (f n)]:=by
 show(?J1).map ?a8=_;rw[Yl,qb8];rfl
theorem Pj[?UA]:?o8=VI n g:=by
 show(?gO).map ?a8=(Hy n g).map ?a8;rw[aD h]
theorem ZH(n:Nat):(?aV n [?a8 0]).flatten=VI n ?zD:=by
 show _=(?PP).map ?a8;rw[←TQ,List.map_flatten,List.map_replicate];rfl
theorem Ao2{v:V}{n:Nat}{f:?aA}(h:?W1 v ?KM):∃a,?eS/\?wE:=by
 ext mK;rw[Ex.mp r]at q;exact ?DL
theorem qG[?U]{n:Nat}{f:?aA}(h:?wE):?W1 ?bV ?KM:=?OY
theorem Hf{v:V}{h w:Nat}[?mR](r:?G9):∃a us,?eS/\?nT/\?tM/\∀i u,us[i]?=?M->i<h/\∃b,u=?c7/\?OQ:=by
 obtain⟨a,us,e,q,r⟩:=r;have hl:?tM:=?P6
 refine⟨a,us,e,q,hl,fun i u hu=>?_⟩;have hi:i<h:=by have:=(?fP hu).1;omega
 obtain⟨d,hd,rd⟩:=r.getV hu;rw[qb2,qi8 hi]at hd;have e2:d=?JB:=(qb6 hd).symm;subst e2;exact⟨hi,Ao2 rd⟩
structure Rows(H H1:Hp)(D:Addr)(as:?X)(w:Nat)[?t2]:Prop where
 same:?rT
 free:?hW
 «at»:H1 D=?c (?p (?vX))
 row:∀j a,as[j]?=?p5->?kQ/\a≠D/\H1 a=?Y0 j
theorem Rows.nil{D:Addr}{w:Nat}[?mR](h:?hW):?i4 H (?VJ D ?eF) D [] w f:=⟨Same.new h,h,Ab,fun j a e=>?wZ⟩
theorem Rows.push{D b:Addr}{as:?X}{w:Nat}[?sE](hb:H1 b=none)(s:?z1)(h2:H2 b=?Y0 as.length):?XZ (upd H2 D (?p (?vX++[?c7]))) (as++[b]):=by
 have hne:b≠D:=fun z=>by rw[z,R.at]at hb;cases hb
 refine⟨(R.same.trans s).turn ?l7,?l7,by rw[Ab,qb8];rfl,?CQ⟩;by_cases hj:j<as.length
 . rw[qb5 hj]at e;obtain⟨h1,h2',h3⟩:=?kR;exact⟨h1,h2',by rw[An h2'];exact s _ _ h3⟩
 . have hl:j<(as++[b]).length:=?HV;have ej:j=as.length:=by simp at hl;omega
   subst ej;have eb:b=a:=?hM
   subst eb;exact⟨R.same.free hb,hne,by rw[An hne];exact h2⟩
theorem Rows.rep[?sX]{h w:Nat}[?sE](hl:?u4):Rep K H1 ?eE ?pB:=by
 refine⟨D,_,rfl,.of R.at,?_⟩;subst hl
 have go:∀(bs:?X) (n:Nat),(∀j a,bs[j]?=?p5->H1 a=?Y0 (n+j))->?W K H1 (bs.map ?hP) ((?CJ n bs.length).map ?v1):=by
  intro bs
  induction bs with
  | nil=>intro n _;rfl
  | cons b bs ih =>
    intro n hr;refine⟨?c7,bs.map ?hP,rfl,qG (.of ?_),?_⟩
    . have:=hr 0 b rfl;ext jC
    . refine ih ?qC ?CQ;have:=hr (j+1) a (?hM);rw[?FH];exact this
 have:=go as 0 fun j a e=>by rw[qu9];exact ?tD
 rw[List.range_eq_range'];exact this
theorem Rows.later[?sX]{w:Nat}[?sE](s:?z1):?XZ H2 as :=
 ⟨R.same.trans s,?l7,s _ _ R.at,fun j a e=>⟨(?kR).1,?DX,s _ _ ?tD⟩⟩
theorem Rows.earlier{H0:Hp}[?sX]{w:Nat}[?mR](s:?L8)(R:?GD):?i4 H0 H1 D as w f :=
 ⟨s.trans R.same,s.free ?l7,R.at,fun j a e=>⟨s.free (?kR).1,?DX,?tD⟩⟩
theorem AS{g:TG}[?f6][?P][?mI][?AN][?c8][?SZ]
 (hs:∀i x y zs τ H p,?aF->?l2->?kT->?cN->g ?bJ τ (?o0) fun τ2 H2=>te τ2 H2 ?IR)
 [?AK]:?UV ?p0 KU:=FI hn Pv h0 hl (fun i x y zs τ H p e1 e2 pp hp=>hs i x y zs τ H p e1 e2 pp hp) hd
universe e9
def newL(H:Hp)[?fF](Q:?eQ):Prop:=∀(D:Addr) (H':Hp),?hW->?cQ->H' D=?c (?p ?lK)->?nB
def tK(H:Hp)(h w:Nat)[?t2](Q:?eQ):Prop:=∀(D:Addr) (as:?X) (H':Hp),?u4->?XZ H' as->?nB
section
variable[?e]
def v9:Sp:=fun vs H Q _=>cW fun ?lR (h w j:Nat) ?o6=>En (vs=[v,?gL]) ?rF ?oW (j<w) (newL H h (fun i=>f i j) Q)
def Hr:Sp:=fun vs H Q _=>l9 fun ?lR ?vQ ?o6=>En (vs=[v,?h w]) ?rF ?oW ?rQ (tK H w h (fun i j=>f j i) Q)
universe e9
section
variable[?e]
def We:Sp:=fun vs H Q _=>Hm fun ?hN ?PA=>En ?M1 (?rC) (ns.length<=63) ((?r6)) (∀H',?xL)
def R7:Sp:=fun vs H Q _=>qZ fun(a b:Int) (x y:Addr) (n:Nat) (p q:?aA)=>Hn (vs=[?h a,?hD,?i9,?k y]) (?VU x (VI n p)) (?VU y (VI n q)) (?p4) ((∀j,j<n->?iR a (p j)/\?iR b (q j))) (newL H n (fun j=>a*p j+b*q j) Q)
def Qd:Sp:=fun vs H Q _=>Ex6 fun(x:Addr) ?lR ?vQ (a:?aA) ?o6=>Pm (vs=[?hD,v,?h w]) (?VU x (VI h a)) ?rF ?oW ?rQ ((∀k j,k<h->j<w->?iR (a k) (f k j))) (newL H w (fun j=>Aj (fun k=>a k*f k j) h) Q)
def Qu:Sp:=fun vs H Q _=>qZ fun(u v:V) (h d w:Nat) (f g:?g7)=>m9 (vs=[u,v,?h w]) (?W1 u (dT h d f)) (?W1 v (dT d w g)) ?oW (d<=1000) ?rQ ((∀i k j,i<h->k<d->j<w->?iR (f i k) (g k j))) (tK H h w (fun i j=>Aj (fun k=>f i k*g k j) d) Q)
def W5(_K:W.Frag):Sp:=fun vs H Q _=>∃n i:Nat,vs=[?eM,?t]/\?p4/\newL H n (fun j=>?NU) Q
def BG(_K:W.Frag):Sp:=fun vs H Q _=>∃n:Nat,vs=[?eM]/\?p4/\tK H n n (fun i j=>?NU) Q
universe e9
universe Hb
namespace L2
open PySem PySem.Spec PyProof.Rows
structure Jy[?d5][?e][?h1][?cC](m:Str)[?AS]:Prop where
 ex:∃(f:Addr) (fd:FuncData),QO K C m f/\?uE
structure fX[?d5][?e][?h1][?cC][?AS]:Prop where
 ex:∃(f:Addr) (fd:FuncData),Mk K C f/\?uE
section
variable{X:Cx}[?P]{j k:Nat}{C:Addr}{ps:?E}{sp:Sp}{x m f:Str}{p pos apos pos':Pos}{e o value:Expr}[?a5]{ta tv:TE}{t:TA}
theorem Dj[?sD][?U7][?fH][?fE][?B1]
 [?SN] (hpl:?eN (·.1)=false:=by rfl)
 (ht:?RC=(do
   let ov ←?gF
   ?kE
   let ?kO ←?jH
   ?C6):=by rfl) :
 ?ZG [] E0:=by
 ext AH;exact sS he c h1 h3 ?s5 h2 ?s DW ha hst hpl ht
theorem Mn[?sD][?U7][?fH][?B1]
 (ht:?K7=(do
   let ov ←?gF
   ?kE
   let ?kO ←?jH
   ?CE):=by rfl) :
 ?ZF [] E0:=by
 ext AH;exact oE he c h1 h3 ?s5 h2 ?s DW ht
theorem Mo(h:?Z4 fX C)[?fH][?UF][?fE](hk:j+1<=k:=by decide)[?j1]
 [?iY] (hpl:?eN (·.1)=false:=by rfl):?WG ?kJ (vA C sp [] E0 t):=by
 ext AH;exact SS h1 h3 ?s5 hg hm h2 ?s DW ha hdb he hpl
theorem Ay(he:?EI)[?a1](hb:?qV e f ?g (?eH)=?eH:=by rfl):?WG (?b0 e f pos) (Ae4 K ta f):=by subst hK;exact XO he hb
theorem Eg[?UL][?a1](hs:?X8 ?hB ?oI:=by rfl):?X3 K:=by subst hK;exact xK ha hv hs
universe e9
noncomputable abbrev TJ:=?Z5 ?a2
section
variable{X:Cx}{e v₁ v₂:Expr}{es rest:?eL}{te:TE}{tj:TJ}[?T]
universe e9
universe L2
namespace Hb
open PySem L2
inductive Tn where
 | mi (i:Nat) | sw (i j:Nat) | ad (i j:Nat) (n:Int)
def RH:Tn->L2.D
 | .mi i=>?K [?bB "minus",?t]
 | .sw i j=>?K [?bB "swap",?t,?gL]
 | ?rS=>?K [?bB "add",?t,?gL,?eM]
def rQ:Tn->(?g7)->?g7
 | .mi i,f=>fun r c=>if r=i then -(f i c) else f r c
 | .sw i j,f=>fun r c=>if r=j then f i c else if r=i then f j c else f r c
 | ?rS,f=>fun r c=>if r=i then 1*f i c+n*f j c else f r c
def tnB:Tn->Tn
 | ?rS=>.ad i j (-n)
 | t=>t
def tnA:Tn->Tn
 | ?rS=>.ad j i (-n)
 | t=>t
def tB(B:Nat):Tn->Prop
 | .ad _ _ n=>n.natAbs<2 ^ B
 | _=>True
theorem Ml{f:Str}{v:V}:∀{fs:?cD}{x:V},?hF f=?c4->?J4=fs.length
 | [],x,h=>by cases h
 | (g,y)::r,x,h=>by
   unfold putF;by_cases e:g=f
   . rw[?Q e];rfl
   . rw[?G e,qc9,qc9];rw[qq4]at h;have e2:?XC f g:=by simpa using fun z=>e z.symm
     rw[e2]at h;rw[Ml h]
def Su(H:Hp)(Z:?lO):Hp:=fun a=>@ite _ (Z a) ?r2 ?a3 (H a)
section
variable[?P]{H H' H1:Hp}{Z:?lO}
theorem Ss[?U](h:¬Z a):?QF=H a:=by unfold Su;rw[?hH]
theorem Yw[?U](h:Z a):?QF=none:=by unfold Su;rw[?Q h]
theorem Mr:?c1 ?NZ H:=fun a o e=>by
 by_cases h:Z a
 . rw[Yw h]at e;cases e
 . rw[Ss h]at e;exact e
theorem AK(h:∀a o,¬Z a->?m3->H' a=?l):?PQ:=fun a o e=>by
 by_cases hz:Z a
 . rw[Yw hz]at e;cases e
 . rw[Ss hz]at e ⊢;exact h a o hz e
theorem nW(s:?cQ):?PQ:=AK fun a o _ e=>s a o e
theorem fG[?U]{us:?o}{h w:Nat}[?mR](hq:?nT)(hl:?tM)(hr:∀i,i<h->∃b,us[i]?=?c (?c7)/\?OQ):?W1 ?bV ?pB:=by
 refine⟨a,us,rfl,hq,?_⟩;subst hl
 have go:∀[?e4] (n:Nat),(∀j,j<vs.length->∃b,vs[j]?=?c (?c7)/\?VU b (VI w (f (n+j))))->?XR vs ((?CJ n vs.length).map ?v1):=by
  intro vs
  induction vs with
  | nil=>intro n _;rfl
  | cons v vs ih =>
    intro n hv;obtain⟨b,e,hb⟩:=hv 0 ?N;have ev:v=?c7:=?hM
    subst ev;refine⟨?c7,vs,rfl,qG (?k7),?_⟩;refine ih ?qC fun j hj=>?_;obtain⟨b',e',hb'⟩:=hv (j+1) (by simpa using hj);refine⟨b',by simpa using e',?_⟩;rw[?FH];exact hb'
 have:=go us 0 fun j hj=>by rw[qu9];exact hr j hj
 rw[List.range_eq_range'];exact this
theorem Rows.hid[?sX]{h w:Nat}[?sE](hl:?u4)(hz:∀a,Z a->?J5):Rep K (Su H1 Z) ?eE ?pB:=by
 have nz:∀a,?kQ->¬Z a:=fun a e z=>hz a z e;refine fG (us:=?vX) (.of ?_) (?EB) fun i hi=>?_
 . rw[Ss (nz D ?l7)];exact R.at
 . have hi':i<as.length:=O9m
   obtain⟨h1,_,h3⟩:=R.row i as[i] (qa0 hi');refine⟨as[i],by rw[qb2,qa0 hi'];rfl,.of ?_⟩;rw[Ss (nz _ h1)];exact h3
universe e9
section
variable[?e]
def Ir:Sp:=fun vs H Q _=>N8 fun ?hN (n:Nat) (f:?aA)=>B4 (vs=[?aM,?eM]) (?wE) (?p4) (∀H',?cQ->?xL)
def U9:Sp:=fun vs H Q _=>l9 fun ?lR ?vQ ?o6=>En (vs=[v,?h w]) ?rF (h<=40) ?rQ (∀H',?cQ->?xL)
def y4:Sp:=fun vs H Q _=>Hm fun(u:V) (t:Tn)=>Dg (vs=[u]) (?W1 u (RH t)) (∀(v:V) (H':Hp),?cQ->Rep K H' v (RH (tnA t))->?m6)
variable(CL CT:Addr)
universe e9
section
variable[?P]{CL CT:Addr}[?dB]{Z:?lO}{p L R dn:Addr}{h w B:Nat}[?mR]{ds:?r (Bool × Tn)}
end
mutual
#check(4,[?a,?b,(?xG),spot,some,if_neg,(i+1),.ref,(?hE),∀{t:?v},a,Nat->Int,prodN,if_pos,?f ?c,addR,?m rfl,(?vK),.int,∀(t:?v),a,wpAny,(t l),Nat->Nat,.(by intro z;cases z),.inl,List,2 ^ c,2 ^ b,beside,blendR,.(by grind),(-1),.inr,(t j),Lat.Mat × Lat.Mat,.lst,In.row,this,?m ?c,X.env,2 ^ π,∀{f:?k},a,moveR,?e o,shrS,(n+1),sumN_all0,∀(R B:Mat),a,∀(n w:Nat),a,(by decide),s.heap.objs.size,(w+n),h.pos,sumN_one,.type,(j+1),(t k),∀{n W w i:Nat}{G:?aH},a,.(by split<;>omega),∀(f:?k),a,funext,R j ?G,T k k,(i-d),?a1R ?_,(by ext w),s.heap,A.fdiv B,none,(?b1),Nat->Prop,kv.1,(R,B),r<=j,Mat × Mat,∀{K:W.Frag},a,.(by exact this),(c+1),(?gJ t ?d st),?f e1,Good,IsPair,?h p,Cc ne,RelV,(i-?q),z.symm,h.zero,.none,unit,qa8 _,∀(hp:p<n)(hq:q<n)(ne:?gD),a,∀(I:?P0),a,(s l),r<=n,(d+1),.nil,(w+a),?h a,2 ^ (2*π+1),(A p),D i j hi hj,∀(s:?H),a,.(by by_cases e:j=k),R r c,(p+1),.ins,V.int,.tup,(by ext a5),Q .non H',p.1=k,j<=i,(k+1),(?gJ t i ?e8),∀{G:?aH}{M B0 R B:Mat},a,∀(ms:?iJ),a,∀{kvs:?bW},a,∀{P:Program}{w:World},a,h.old,H.hi,?y (?pV),(?f2),Bits,A p c,r<=i,?l f m,Same H H',decide,(?sL),?m e,T k c,I.hok,∀(K:W.Frag)(CL CS CW:Addr),a,∀(x:?QC),a,.(by rw[this];simp),.(by rw[Br];omega),.(by rw[?e2]),.(by unfold moveR),∀{n w:Nat},a,ih O9m,T' k k,spot<=i,downS,2 ^ β,(1:Int),?a4I A,(i-(e+1)),h.inc,(t i),R p c,(?dD),IsZip,?f e,.cons,?y V,(?B w T P),∀{kt t:?v}{hd:?k},a,.(by rw[?n]),∀{C:?aH}{δ:Nat},a,∀(n W:Nat),a,∀{H H':Hp},a,∀{R B:Mat},a,∀(hi:i<n),a,(?A0),fs.lookup,t ?d,i≠j,?lD V,F9 ne,?m z,false,(H0:Hp),(A q),.(by simp),?a3M p,s.heap.IsTuple,kvs.map,w1.extBut,fun c hc=>?_,(tr T),r1.fdiv r2,(?eD),(f+d),∀{X:Cx}{Ac:Bg}{σ:St}{H:Hp}{s:Shared}{a:Addr},a,∀{A:Around}{E:?RX},a,∀{Q:?RX},a,∀{n p q:Nat},a,.(by exact ?hE),∀(hp:p<n),a,(?f7),?h ?X,Aj f n,Option.none,N5 kvs k,(-q),h.low,Part,hst.lt,?f z,fun r c hr hc=>?_,spot<l,hx c hc,fun z=>?_,(model prog w),(kt i),x.ne,(?iF+i*?hG),(?gG).natAbs,put2,i-d+1,eval,(?a8).natAbs,Addr->Prop,Dy π b r,.builtin,R j c,?a49 t d,Value.ref,keep,fun _ _=>rfl,(?aT),?h b,∀(H:?AS)(h:?BM),a,∀{R0 B0 R B:Mat},a,∀(a b c d:Int),a,.(by rw[?d9]),∀(hs:?mI),a,∀(i j:Nat),a,A / g,R i c,.Call,ObjOk,(?a0K T ?G),(fun r c=>R r ?fC),C5 O9m,?f h1,?l f k,"dict",?f h2,kt j,absurd,dd.typeIs,(?BE),fun j c hj hc=>?_,(s c),v ?G,(?k0),(tr R),cM π i,Bt e,f<=j,cS π i,starEach,qc3 _ rfl,?y Addr,U k c,(?kC-1),.(by ext gY),(model ?sM X.w),cpos,addR_row_ne,zL d o,T i c,(pb R t k ?hQ).natAbs,(?rM),(Q c),(?KI),(?IH),(0:Int),apos,h.st.lt,?y Expr,R' p ?G / ?a8,addS,(qh7 ?e6),x.sm,insAt,hst.zero,w3.extBut,R k ?a3,?l f n,p≠q,Rb f ne,r≠p,R l ?u,.fields,?e x,insT,R' p ?u,r<=w,?y Key,fun _=>0,T j c,?f e2,(n+w),∀{kvs:?j4}{vs:?a1L κ Value}(r:?iY),a,∀(h:?EH),a,.(by refine qt1.mp ?NX),∀(bb:?TN),a,∀(hi:i<n)(hs:s<=i),a,∀(R:Mat)(p q:Nat),a,∀(s:?aL),a,.(by simpa using hb),∀(K:W.Frag),a,(?bF).natAbs,Sum.inl k,hd j,?m e2,fun l h1 h2=>?_,S.same,.seq,?y Int,?l ?f0 i,T r ?fC,Lat.shrS,x.2.2,h.red,(mixKind P w),qa2 _,spot<r,(π+1),j=spot,fun _ _ _=>rfl,.(by ext jM),(r-1),s2.1,m<=n,k+m<i,.(by simpa using e),R j ?u,(n-k),H.part.inc,V r c,2 ^ η,R k c,?eX=0,(n w:Nat),(by ext cB),?m h1,?l (?a0K T' ?G) r,(?b9),(n W:Nat),(?mQ),A r c,d<=i+1,?e v,Pv i zs τ H,R ?d c,Array ?sD,fun j hj=>O9m,x.nu,2 ^ δ,(R j),(i:Nat),c<=?d5,b+i+3+2*π,(j-1),R ?fE (t ?fE),Vv s r c,?y (?nN),Bt ?c,?m e1,call,h.gc,(?sO).1,(L+2),x.2.1,{ s with heap:=h' },(?qQ),"zip",(?a40 h O9m),insS i ?d st s',(s:?H),insS i ?d st ?aJ,KV kvs vs,.dK [],[it],(?h z),(Gc R p),(a==sysModules)=false,?a1L κ V,call_meetsIn,.(by intro X hP hw hK hc i Ac s σ H E I hf st hg;subst hP hw hK),∀(_K:W.Frag)(CL CS CW:Addr),a,∀(n W w i:Nat)(G:?aH),a,.(by rw[move_row];unfold mvI),.(by rw[←Ax,←Ax,←Ce]),∀(e:?nK),a,.(by refine qk6 ?e6),∀(h:?l3),a,.(by by_cases e:?bM),.(by exact True.intro),.(by clear hz2;omega),∀(ok:?PU),a,∀{n W w r i:Nat},a,∀{s:?aL},a,.(by by_cases e:j=p),.(by by_cases e:r=p),.(by decide +kernel),.(by exact qi9 _ g0),(?o P i j 1),(?pE),h.st.inc,?aI=k,(n-1-k),?UU<0,M1 k k,Rd H a ?c4,(?p4 ry),?m h2,qa7 ?_,?gJ t ?d st j,k+1+m,h'.IsTupleIter,?l ?jP i,s.heap.get?,2 ^ ?hG,?a4R ?Z,?y Str,(?d5),.frz o ?c4,(Bu A p u),?a1P e,.(by simpa using e1),(n:Int),(?h it),Dc w r T' t,a m*U m c,(t ?dM),(f i),Z r c,?a2O kvs.length,(?h D),fun k hk=>?_,?ZY e,its.toArray,?h t,?a1L TE TE,"range",Aj (fun i=>Rw i*A i 0*?LI) ?S,h.IsTupleIter,?f ne,kvs[i]?=?e (k,v),S1.same,x k*?gB,f i / g,Nat->?k,Hp->Prop,s.1 i ?k7,b*f x,j<spot,E5 n w r E e T,as.map V.ref,.Attribute,?a1L ?gM V,(?A8),?e _,?rM<=i,∀i c,?c0->?Q8,h.st.pos,w2.extBut,Option,(f+m),ChainAt,R' p c,H d=?rK,pb R t k m,?l ?f0 ?g,(?F5),hst.ge,(fun c=>c<w),(i+d),Shared->Prop,?l ?jP j,0<?a8,T j j,(?A9).get?,(β-(η+1)),Pv i σ H,fun x a=>S x (n+a),?lD ?sD,Lat.addS,R i x,β+?y0,h.ker,β+(π+2),H' a=?rK,(fun j=>?a8),G7 [] kvs,2 ^ ?AO,M3 n w k T,blend_row_p ne,h'.get?,ih ?c,fun x a=>R x ?b8,h x y hx hy,Cu ms k,r1-?dK*r2,R r x,(?sE),u ?aO,Pv ?g,spot<i,(f j),U3 r b H H',(β+?fG),x1*y2-x2*y1,SameX,aQ ?c7 e,(upd H' a ?c4),?P R i s,(?M1),?J hj,(?mS).congr,?H->Prop,?UG n w T,I.hok.fresh,∀(K:?uZ)(h:?WK)(hi:?c0),a,∀{A B r1 x1 y1 r2 x2 y2:Int},a,∀(kvs:?j4)(k:κ),a,∀{n w r:Nat}{E:Nat}{e:Int},a,∀(l r:?H),a,∀{R B:Mat}(h:?HM),a,∀{R:Mat}(h:?a38 b R),a,.(by rw[?L]),.(by by_cases e:?hH),∀{w r:Nat}{R:Mat},a,∀{π b spot:Nat},a,∀(h:?JC),a,∀(u v:?k),a,∀{i:Nat}{R:Mat},a,∀{G:?aH},a,∀(h:?FT),a,∀{CL CW:Addr},a,∀{u:?k},a,?f (?FF),M a ?G,?R t p ?q ?aJ d,fun d hd=>?_,(?xO),H a=?e ?c4,Cg ?c,?e0 R t f m,Int × Int,h _ O9m,?iF+spot*?hG,w5.extBut,(tr M1),(?kX*f j),?a9=0,?l f' m,(W<=1000),(?l0),?cL=0,w4.extBut,I.laid,(n<=1000),t k=k,Vm kvs k,bs[i]?,?y (?WT),.(by simp;omega),Ks R t i r,(vs=[?aT]),qf9 ?hX,bb.2.1,(i<n),Id n w r e T,if i=j then 1 else 0,(?zN),fun p=>?F2,(M:Lat.Mat),h c hc,qk3 O9m O9m,D.nx σ H,?M8*h,?a1 ?iT,(?k),(?F (?x z)),?f a1,?y α,Shares,?e y,(by unfold cM;omega),?fY+1,?KR n w M,ms.map,upd H a (?k8),(?MQ),(fun a=>a=nm\/a=r2\/a=b2),s.heap.push ?LY,?m hi,K.pos,up c _ q ?aC,(?T9),prs.drop,kV_is,fun b hb=>?_,h.st.red,h.good.rest,i+1-d,?iH*?lI,fun k=>B k a*?uU,(?lP).natAbs,(tr S),?R t p f s m,fun l=>?gG,(t:?v),?aV y u,Aj f j,Good.refl ..,(?zR).2.2,(-(?a0Q m (t ?fE))),(?S3),(z▸hN),?mI->st<?d5,t j<t k,h1.2.2.2.1,Kp H H',fun j h1 h2=>?_,[e,f],2 ^ 61,fun i hi=>?_,Key × V,Vv s j c,h.good.trans,(l r:?H),lx.nr,(p L R nm:Addr),.(by ext tH),?F h,?m a1,(m+d),qf1 ?W O9m,?ZU i j,fun x hx=>?_,(i+1+m),(?BT),(-(?y9)),hst.pos,(?y8),[a,b],(?sJ),base l h1 h2,(w+c),Itd hi n,(?dA,?eE b ?M),Gj ?K,St->?kZ,?gC*f n,M i i,Aj _ ?S,?a49 ?bP d,(qQ K a b),?a3O h,∀j,j<r->?lR∣e,(m+1),f i∣f j,2 ^ Y,spot*?fG,?h l,?a4A r c,?k3 b=?Q,s2.bwd,ts[i]?=?e t,Nat->?oL->?PP,?a4B ?qB,(?e (w:Int)),Aj (?pA) i,A-?aE*B,{ s with heap:=h',toks:=tk },Ne.symm,?a0M 1,(?xB),Lat.Shares,lx.nb,fun l hl=>?_,?e ob,(-(b*q)),h1.symm.trans e,Ks R t i ?cM,(v:V),s1.heap.push,H b=?e u,?e (?k8),?r i,?vK+d,(K:Int),qr2.mp,?a1 "tuple",2 ^ (j-f)*μ*?eB,lo<=n,r≠i,In.zero,(kvs.any ?zL),(∀c o,c≠z->c≠b->c≠i1->c≠i2->?R8),pT n B R a b,fun a c=>?VO,(?kX),(Lat.one,Lat.one),?cU->Hp->VK->Prop,(by rw[e];ext jF),(u l),.ellipsis,?l f ?q4,(?FL t ?d st),?ZQ ?fN m,fun r l=>R r (y9 t k c l),?y2 hc,BB.bo,(p q:Addr),2 ^ e,h.st.zero,Value,fun j=>?lR,hst.inc,field,e.symm,this.table,qe2 ?_,(tr A),.dK kvs,X.prog,h.tab,?R t p f ?aJ d,2 ^ (c+b),(by kernel_rfl),(M:?eG),(?F (?F z)),?N*?eB,?l (?J3) m,?a4B ?Z,fun j c hj=>O9m,?lD Lat.Mat,i<=kvs.length,∀(D:?Q1 z a b i1 i2 t1 t2)(gz:?a1F ?aD ?aZ)(ga:?aS ?aD a (?h i1) (?h i2))(gb:?aS ?aD b u v),a,∀(g1:?BS i1 t1 n) (g2:?BS i2 t2 m) (e1:?dF t1 xs) (e2:?dF t2 ys),a,∀{kvs:?l6}{xs:?v6}(r:?Q4),a,.(by repeat (first | rw[?p] | rw[?kT] | rw[?f ne'])),∀{C p r b:Addr}{sv:?d7}{n W:Nat}{s:?H},a,∀{ns:?h7}(x:?SQ),a,∀{z a b i1 i2 t1 t2:Addr}{n m:Nat}{xs ys:?i8},a,∀(hp:?a0G C fs)(sx:?BQ),a,.(by obtain⟨z,hd,vs,rel,dd⟩:=fD ?c7 e),.(by refine⟨?aB,?aB⟩),.(by rw[?n,?p]),∀{s:?aL}(h:?JA),a,.(by rw[?f y,?n]),.(by rw[?m y,?L]),∀{p C dx:Addr}{fs:?a1L Str V},a,.(by exact(show False from r).elim),.(by intro Ac s σ H xs us Q I r h),.(by refine ?T ?rC),.(by rw[←rel.length];exact z),∀(hz:∀c,c<?d5->?hV),a,∀(x:?uB),a,∀{a b c d:Int}(h:a*d-b*c=1),a,∀{n w r:Nat}{e:Int}{T:Mat},a,∀(he:0<e)(h:?oB),a,.(by refine Ai ?pU),∀{prog:Program}{w:World},a,∀{D:Nat}(hD:Oa m G M D),a,∀(h:Heap)(a b:Addr),a,∀(vV:∀c,G c->c<W),a,∀{R:Mat}{p q r:Nat},a,∀{n p:Nat}{A:Mat},a,∀{R B R' B':Mat},a,∀{X:Cx}{pos:Pos},a,∀{n W w i m:Nat},a,∀{M B0 R B:Mat},a,∀{N:?eG},a,∀{es:?g3},a,∀{n W w lo:Nat},a,∀{kt:?v},a,h.prod,HT.sIx,po x x1 x2,?a0M 4,"keys",(?iX).1,h.back x hx,b2 a ha,qa4.mp,?a2K H N,?vH hx k kr v0,?a02 R' B',x.keep,CV n w i j f l r,(?mS).mix,I ?d s',fun k hk=>O9m,Aj (fun k=>x k*?a01 (U k) q) m,?r 0 0,stored,e9.zero,h n O9m,.(by rw[eA];ext jN),up b _ q ?aC,K.zero,U m M l r,h.s0.inc,R i ?a3,R k ?G,Lat.downS,Aj (fun k=>a k*?ZW (U k)) m,[a,b,c],Eb n w T T',?a0L W M,r2≠0,x.same.trans,List.range,a∈as,a*u c+b*v c,.(by ext CC;ext a5),?y (?gM × Addr × Value),?y ?sD,?a30 R v,w+n<=W,?f e4,∀l,?e4->l<i->?d5<t l,?f hne,x.natAbs<=?N,h.col0,h.partOf,?a0P p,hst.lead,qh4 ?W O9m,Aj (fun j=>a j*U j c) m,spot+1,Cu ns j,∀j,j<i->t j<W,?f a2,?rA ?kH ?mJ g a b,T' k c,congrArg,Hj W (s'.1 i) st,y.natAbs<=?N,x m*U m c,Str.ofString "__next__",R i ?qG,blend_row_ne,C3 e c,B.fdiv r2,I2.thaw e2 hb,?a4L y2,DP T s k,?a0W p (?bJ [kV k,v]),⟨_,?fL,rfl,rfl⟩,x.same _ _ e,"list",h.st.s0,wpAny_rule,"StopIteration",?f ?GB,?r (w:Int),Lr kvs k v,?l ?f0 ?bO,q.natAbs<=?N,one j c,x2*r1+-x1*r2,r=spot,s.1 j ?G,⟨h1,h2⟩,Dv (?ZT l spot) (?ZT l i),(zt4 ?aD a b).objs.size,?aV (kV k) u,tupleKind,?C R ?d i x y z u,?m hr,.(by rw[h,qd1]),2 ^ (j-?q)*μ*?A,?eE e ?M,?a4B st.lt,?a0M 2,?a50 (?eK) m,2 ^ i*μ,qe8 ..,U m M' l' r',((0:Nat):Int),?a4X H' f,id hin,?l (fun l=>f (k+1+l)) ?jS,R1 r c,(i-1-j),?cI ?aP i (?iV) ?g,fun y=>hne y.symm,∀j,j<i->G ?G,0<=?uU/\?uU<?a8,s _ _ e,h k c hk hc,∀j,j<r->t j<w,blendS ?d i x y z u ?aJ,?f x1,Aj (fun k=>a k*?fN) m,?a4L y1,D j j hi hi,.(by omega),M k ?dT,?a0P i,∀k,k<n->0<f k,sq.flip,spot≠i,mvI i s r,?a3N ?g R0,I.ok.hd hc,fun k _=>?_,Aj (fun j=>(?fD*?lP)*?NI) i,(κ*D),?P B i ?d,?a3M a,?y (?lD Expr),?a3M D,valueAt,D i i hi hi,(?a0Q ?hQ c).natAbs,"dict.update.loop",Fs π b i,2 ^ 9000,beside_lo,?ZQ ?c6 m,H a≠none,?m a2,fun k hk hne=>?_,wpAny_callSpecial?_slot,s.1 ?d ?k7,b*f j / g,run d hd,rawInt,(?h j),?a49 t 0,{ cls:=?a1 "dict_items",data:=?gH #[?h d] },?m hj,K.head,?m e3,.(show b+c+1=(c+b)+1 by omega),fun j h1 h2=>O9m,?R t p f s d,?b0 (?lJ) i d,P.zero,T i d*X d j,?p8<=r/\r<i,M1 k l,?Z k hk,Pf hA hB,kk b ob hb z,?g8 k y xs,⟨y,H2,I2,ry,q2⟩,?a4K ?d ?r9,(?mD).natAbs<r2.natAbs,I.bare,r1≠0,fun c xs q=>?p1,Same H0 H,Rd H a (.dT kvs),values,2 ^ b0,xs=[?aT],Ai ?xP,qe6 _ O9m,?f x2,fun r x hr hx=>?_,H b=?e (?bJ (k.map kV)),?f e3,(?nH).1,(?e M),I1.kept,qo1 m0 m1,?a4I (Fz A ?bG),(i:Int),(?k2).natAbs,Builtin.SmallTypes.nextOf,2 ^ (zz-2),?l ?mF k,fun kv=>?c3 (?jR),?a43 k,?g5 i ?d ?dY ?aJ,#[key,p.2],(Zz▸hi),(i-1-k),a2 a ha,Lat.Mat->?PP,pT n B0 M a ?G,S j (u j),?xW vs k,X.calm=true,.(by have:=h.pos;omega),c<t j->?eJ=0,fun r x=>?_,mixKind ?sM X.w,fun _ _ _ _=>rfl,moveS i ?d x,A a b*q b,NB i M,?a3O ?iN,?a1 ?w5,I ?d s,fun r l=>R r ?u,wN ?aD a b,.bool ?dA,?l ?f0 r,ia.toArray,?l f ?S,In.sum,?a4I (Fz A p),kvs.length,?b0 e j j,fun j hj hne=>?_,Heap.SameBut,Ai ?kL,.bl true,R0 r c,Kp H H1,(β+c),?r (hi-i),(sv:?d7),tPairs,Jo n W w i G R0 B0 t π b,?a2P h.pv,BO n W s,k5.objs.size,Lat.blendS,?eC f i j x ?mJ,?a0M 3,2 ^ (z-2),(?iX).2,.(fun M' e=>by cases e),?a0Q m ?u,?a1E p,backTo,C5 (by ext jG),h.detsD,Same H H1,IntMulOk,s.TypeIs,A.handled=none,?a4W ?ER,?l _ m,?a12 zO r2,?ZY ne,G7 kvs more,Lat.beside,β+i*?fG,∀j,j<r->t j=j,sumN_pair,?vW e2 e3,⟨fun j k _=>?jQ j k,fun j c _=>?sC j c,fun j _=>?lB j,fun k j _=>?p6 k j⟩,Dk n W w i G R0 B0 t π b ?d R B,ib.toArray,.(by rw[←qe4];congr 1;omega),fun h' HW hs=>h _ ?_,?mN p H H',fun y a=>R y ?b8,s.heap.IsTupleIter,(?a1Q R),.(by simp[hlt]),(N:?eG),.(by obtain⟨dx,fs,h1,h2⟩:=x.ob;obtain⟨as,a1,a2⟩:=x.rw;obtain⟨bs,b1,b2⟩:=x.bk),.(by have t2:?gJ t i ?e8 i=kt i:=?OR),.(by have D:∀i j,i<n->j<n->?S5=?oC:=h),.(by have he:?EW:=?R9),.(by obtain⟨σ',H',I2,e2,q⟩:=hq;exact⟨σ',_,?vZ,q⟩),.(by rw[?n,?n,?n]),∀{p L R nm:Addr}{n w:Nat}{M:?sX}{l r:?H},a,∀(h:∀l,?e4->l<i->?ED),a,∀{x y z u:Int}(e:kK π (?FX) (R i ?k7) x y z u),a,.(by exact ?a39 x0),.(by obtain⟨tv,dx,fs,hp,l1,l2,l3,l4,l5,l6,l7,_⟩:=x.ob),∀{i:Nat}{T:Mat}(h:∀r c,r<i->r<c->T r c=0)(s:?v),a,∀(hG:∀r c,?hF->r<i->G c->?MF),a,∀(hq:∀k,k<i->(Ks R t i k).natAbs<?z)(hi:i<n),a,.(by have e':¬q.1=k:=?UF),∀{te:TE}{D:Addr}{Q:?kZ}{τ:St}{H:Hp},a,.(by unfold mvI;split;omega;split;omega),∀{C:?aH}{R:Mat}(h:Qq n C δ b R),a,.(by rw[?gP,?n]),∀(hq:q<n){k:Int}(hk:?GT),a,∀{x:?aL}(h:?ZO β x),a,.(by rw[?WN]),∀(x:?LN),a,∀{Q:?lW->?lO},a,∀(A B r1 x1 y1 r2 x2 y2:Int),a,∀(h:?a2L n G),a,∀(spot i:Nat)(A B g a b:Int),a,∀{y:V}{u:Value}(ry:?pG),a,.(by obtain⟨ok,ov,hit⟩:=st),∀(hn:i<n)(hp:p<=spot\/p=i),a,∀(k:Nat)(y:α)(xs:?oO),a,∀{T M1:Mat}(s:?KB),a,∀{T T':Mat}(s:?uY),a,∀{vs:?o4},a,∀(P:?e0 R t ?q i),a,∀(xs:?cU)(H:Hp)(Q:VK),a,∀(ns:?iJ),a,∀(e:?jV),a,∀(hn:?BA),a,∀(p:Nat)(u:?k),a,∀(hA:0<A)(hB:B≠0),a,∀(ry:?wL),a,∀{x1:Nat}{tpos:Pos},a,∀(hij:i<j)(hj:j<m),a,∀{b p spot μ:Nat},a,Paired.length,JZ n w A,B.natAbs<L9,?o R i ?d ?dY,k<m->x k=0,h _ _ ?bK O9m,QV K R vs H1,D.TOz.symm,fun k=>?OA,?hC k j h1 h2 h3,?a1R ?mS,k3 c hcw,k5.IsTupleIter,b1.same e,y.natAbs*?iB,fun l h1 h2=>?a2P h,?C R j q a b c d,a≠r/\a≠b/\¬N a,(?h2).natAbs,Dy π b i,⟨kvs.length-?g,O9m,rfl,hlt,p'⟩,(?lG).natAbs,.(by rw[qd1]),fun τ2 H2=>tc τ2 H2 fun b H3=>if b=true then te τ2 H3 ?NF else Pv ?g zs τ2 H3,?bU l _ ?c h2,.(by rw[qf5];omega),(?ZY hj),?a2B (?B w R ?mA) RB,?a4G V r,items[i]?,∀a∈?OM,?v3,insAt_get,(min n w),hst.mono,fun σ2 H2=>tb { D with nx:=?mH,ct:=?mH,bk:=D.nx } σ2 H2,run d O9m,?a12 EuR r2,zJ n W i t s I,?R t i ?q (?yV) ?aW,?a1F h' (?yB ?X),wpAny_Call_method,?a1A w,IsItemIter,N9 n W w i R1 B1 t1 0 R2 B2,(R p ?u).natAbs<=μ*?eB,i<its.length,?a0E i s,Int.dvd_add,?a2L i G,((?BR) c),∀j,j<r->0<?lR,D q j hq hj,?a0Q m ?fC,qY R vs H1,fun r c hr=>?_,its.toArray.size,∀i c,?c0->?OD,upd H a ?c4 b,?a1Q T,(keyPart u).isSome=true,Aj (fun k=>T c k*X k i) r,DecidableEq,?kJ/\?j3/\∃vs,?iY/\h.DictOf ?hD a vs,∃q,?m8 a=?e q,Aj (fun c=>y c*?y3) w,(?yB ?AV),∀m,?hM->∃r,r<=m/\?a3X m,.(by rw[HT.sIx_nat];omega),?cJ<=?m5,?c3 (?bM),(qe2 ?qE),(z▸x.mq),?C R p q a b c d,.(by ext YE),?l ?mF i,aB mD hs,?a33 T,(zt2 ?aD a b).objs.size,wpAny_updateSeq_pair,its.toArray[i]?,tl _ ?i,o.data=.dict es ep,?ZY e2,Dv O9m O9m _ _ _ _ c,(?u9).2.2,.Subscript o i pos',Nat.min_eq_left,(QG ?i),Lat.insT,?l ?f0 ?b6,?a0J (upd H a (.dK (?o2))) s',?a4A ?d c,h.st.st.red,if k=a then 1 else 0,(?kR).natAbs,Int.ediv_nonneg,Ic i R t,kvs++more,Nat->?aL,Aj (fun k=>f k+-1*g k) n,R ?d ?k7,E7 w n (?B n S ?lV) SB,(zt3 ?aD a b).objs.size,Obj.data_mapFields,Bu A p ?dC,(β+?aO),if ?jT then Gc (?xS) ?d else ?xS,fun r c hr=>Bt O9m c,(?wB).length,SqT K H a xs,B p x*R p y,?a07 q,fun _=>?g0,X.A.units+1<cLine,?ZY hne,P5 c η r e,?fO+?wY*?E,hp k O9m,fun r c hr hc=>qb4 ?iS (qf1 ?W hb),?aS h TI (?h i1) (?h i2),F9 ne a b c d k,a*R p k+b*R q k,h.st.good.rest,.(fun b u q n z=>by rw[z,e]at q;exact n (qb6 q).symm),?a03 ?e7 (?zI ?yC),(Sum.inl p.1:Key),∀c,c<w->u c=v c,hnew.typeIs,?a3O bd,fun b o e=>?kA,zK i t R,?a0 hr ?y6,k.natAbs<?z,?c3 (p.1≠k)=true,B j a*?a8,qj1 ?g6 (e9.ge k ZT),fun a ha=>?_,zero j c hj hc,mY n w r L m T,X.A.handled=none,h1.trans,D.TOi1.symm,⟨t,rfl⟩,?xW (q::qs) k,hx k hkn,∀ob u,X.H₀ a≠?e (.frz ob u),fun a=>f ?b8,⟨?b1,?b1,?i9,?sW,fun i j _ hj=>O9m⟩,PySem.F.slot_dict_items,Heap.IsTuple,(?a1X ?TZ),p*f x-q*f i,(?pX g).trans,ql0 O9m m0,?sN j h1 O9m,c<w->T' i c=0,?l (?AX) m,fun c=>?bZ+k*A q c,R' j c=?eJ,if x=y then f x else 0,(f k).natAbs,?a2B R B,U2 n w T ?pC,?kV l _ ?c,Bu A p ?bB,Builtin.Range.rangeSize,⟨O9m,O9m,?x rfl,fun d h1 h2=>?wI⟩,?a0F cnt s',j.natAbs<L9,?cR h z TI TO ?aZ,fdiv_small,R ?d ?u,?K i O9m,?a1K H' ?dW,hk1 _ _ hoD,(b4 a ha).2.2,?a1P (?SP),?a14 1,h3 r t HD hst hz,x.natAbs*?iB,.(by simp[atKey,qm2,e']),?a4G (?rX) i,?a4W (?w1),fun k=>?GI,?a03 ?e7 (pyNext ?j1),(Zz▸hj),e' j _ ?c (?wS),?bY n n β B,(?WB).isSome,B q x*R q y,?a4K i ?oD,.(by rw[h.a.e1,h.a.e2];grind),?o R p q k,y1.natAbs<=A.natAbs,[?b9,u,r],fun c=>- ?bZ,Nat.two_pow_pos,i<=a/\a<n,ItDGet2 ty tx σ Q x H1,qb4 (h r x hr hx) (?q5),s _ _ hp,⟨q,hq⟩,(?VV).natAbs,?iO ?dM ?kG,?bU ?d _ ?i hs,?a2B ?cV B,moveS i ?d ?aJ,M1 (u k) k,IsDPut D σ v x y H3,A.units+1<cLine,fun k j h1 h2 h3=>?_,Fin k f l r,hz c ?c,Pv 0 [] τ H,?eC f i j x y,c<w->?hV,(a*x+k*y).natAbs,q*(x2*x2),if i=j then e else 0,g.typeIs,⟨kvs,kvs[i].1,kvs[i].2,q,?BU⟩,?ZO β s,(Ho ms k),Dc w r R t,xs[n]?=none,(?F rfl),entryFor,Nat->?zS,Lat.Bits,?a0W ?X (?bJ [kV k,v]),?y Keyword,fun xs _ i=>xs.length<=i,?GJ i c ?i,(?dX).isSome,.(by unfold Gc;rw[Bl];omega),(?eL t==Value.none)=true,e9.pos k ZT,I.turned,Dc w r T t,h.good.eqv n ?i,Y k d f l r,show ?ZU i p from ?aQ,∀j,j<i->?lQ,?a4P ?g,IsRangeIter,Ks R ?bP i k,[z,TI,TO,i1,i2],Eb n w T R,(?mE).natAbs,?eM j c ?c,?aS h' b x y,In w r R v,key r t HD hst hz,(?a0H t).objs.size,hx k ?c,{ s with heap:=?oY },i<=a/\a<i+d,wpAny_setField,U2 n w T M1,?c7 b _ e,∀j,j<r->u j=j,P5 c η r d,Int.mul_le_mul,?a4R ht,h'.DictOf,if p<i then p else p-1,qf0 (a*x) (k*y),N5 (p::r) k,(?l4).set,Lat.ChainTo,k<=xs.length,(zs++[y]),(mixKind P w).is,(?fD).natAbs,Lat.Straight,Aj (fun j=>(Aj (fun d=>?yN) r-(?J7))*?gO) r,?a1L V V->?kZ,?fK es ?M,Int.natAbs,(y kvs q),?a2H e,.(by rw[An (OP b _ z)];exact z),.(by simp<;>omega),fun r c hr=>?RP,a1.same e,⟨1,by rw[z];omega⟩,r.repl k ry,qc0 _ ?bX,fun kv=>(kV ?aI,kv.2),(?J hq),atKey (q::qs) k,?l ?f0 m,∀l,l<k->T k ?u=0,i*D<=?A,⟨x,fun _=>hx⟩,R ?fE ?fC,.(by rw[Gn,Gn]),ND.start,fun b u q=>?_,∀i c,?c0->i<n->?J4,∀j c,j<i->?zY,?a4I (Fz A i),kD n w k M1,pT n B R a ?G,s2.keep h1.flip,s _ _ ?iA,?a04 cnt s,hk1 _ _ ho1,∃t,u=Value.int i t,e.natAbs.log2<=L,PySem.F.args_dict_pop_3 _ _ _,Rep.same,i*(?fJ+1),i=kvs.length,q*(y2*y2),(?g4).natAbs,ly.keep s,{ cls:=?a1 ?f5,data:=.dict #[] },?m (?rF),⟨_,rfl⟩,fun a=>a=nm,?a4K p ?aJ,D.s0.pos,Q (?h L) H',fun j c h1 h2 h3=>?_,Nat->?mU,?dZ (j:=?k0) (l:=l) ?c ?c,2 ^ (2*π),?h5 j _ e,⟨?AG,?dD,?b1,h0⟩,Dv e1 e2,.(show n+1-1-k=n-k by omega),i<kvs.length,?aS h' ?X x y,?h0<=?A,?ZQ ?hU r,k r c hr,?C R p j a b c d,i.natAbs<L9,?a4B ?lB,r1.fmod r2,(?QS h2),∀i c,i<n->r<=c->?T5,?a4B ?RK,?iN c hc,?a1X ?v4,R0 j ?G,fun d _=>?_,?lL k hlt,?k3 b=?rD,c3 r t HD hst hz,hM a _ ha (?a4B ?g2),kvs.length<sizeLine,D j j hj hj,(?wM ?hD).is,Dz n w m E A P PB Q QB f,h.s0.zero,LX H CS p r b (?e (?h q)) n W s M,?o R j q k,qi5 O9m O9m,N9 n W w i R B t (?p8) (?eK).1 (?eK).2,Int.lt_or_gt_of_ne,(x,y)::ps,if ?jT then LO ?d (?IV) else ?IV,?a49 ?bP ?g,?k3 c=?Q,fun x H' y=>?_,?K n ?i,?B4 ?fR (?fK ?pS ?M),Unit->?lO,fun y H4=>H4 D=?a07 zs/\zs.length<sizeLine/\Pv ?g ?KO τ2 (upd H4 D (?I ?KO)),qk1 pk d2,(?h ?AV),Ql R t j ?x3 c,h.2.2 r c hr hc,H' a≠none,(hs c hc),Shared.heap,Nat->?cU->?qK,Nat->?P8,Int.mul_neg_of_pos_of_neg,?a4D ?b6 ?wU,wpAny_attempt,?a1S G,?a1K H ?aF,{ cls:=?a1 "tuple_iterator",data:=?gH #[?b9,?uK] },fun c=>1*P i c+1*P j c,h.good.restB,fun y=>?_,h.step h2,?aY j c hj hc,wpAny_newObj_type ?_ (by size_fits),hx j ?c,?k2*v c+?E*?xQ,Heap.DictOf.new,Paired.snoc,qm7 _ gn,{ s with heap:=h1 },(?dA,?eE c ?M),⟨kvs,q,?hE⟩,.(by simp at hl),c*R p k+d*R q k,?ZO (?BH) (?iX),?a4B st.pos,i<n->?T5,0<=?fU/\?fU<=e,wpAny_letGo,w8.extBut,∀j,j<i->t j<w+n,ts.length=kvs.length,Int.mul_neg_of_neg_of_pos,hf it ?cQ,ChainTo m i f,?g8 s ci (as.eraseIdx i),Nat->(?v)->?mU,.(by rw[Int.neg_fmod_neg];omega),ys[i]?=?oQ,?dF b ys,.(by unfold insT;ext t9),?a4G (?rX) m,fW x vs H Q,?a1D d s,?KR n w M',?a0M 5,IsD H1 a,Q (?h tp) H',fun i j hi hj hne=>?_,?a0J H s,Ag8 j hj e,kD n w k T,.(by show ?g0<1;decide),(?a1Y ?mQ).congr,?y (?SW),Aj (fun k=>X l k*U k i) ?q8,?a0J H' s',Nat->?qK,b≠s.heap.objs.size,(?eI ?T1),Bu ?k9 q v,?a1F k1 ?s3,(x2*r1)*(-x1*r2),.(by ext YN),ob.slots,.(by rw[←hz2];exact qg7 _ _),fun j _ h=>O9m,?l f' l,?cT ?_ ih,y2*r1+-y1*r2,.(by rw[An (OP c _ q)];exact q),.(by simp at e),?dF a xs,.(by simp[N5,qm2,e]),?H->?mU,∃xs,?Q4/\h.DictOfH (?wM ?hD) a xs,R' r c=?bF,show(-0:Int)=0 from rfl,(?HW).natAbs,Qo P w H h,?a3M b',.(fun b u q n=>by rw[An (ne b u q n)];exact q),A.natAbs<L9,.(by rw[Es];exact d),Int.lt_trichotomy,h.objs.size,ZipApart,?a14 4,?k1 i1 t1 ?S,KT H kvs xs,Str->?lW,R1 l ?u,(?a3Z O9m),i<n->?HG,t1 j ?c,kvs++[p],?J (R:=Gc R j) hj,?a4X H f,?a2S h h,F.entry_zip_next,wpAny_typeOf,∀j,j<i->(B j a).natAbs<=2 ^ j*m,?a0J H s',fun c hcw hne=>?_,?eE o ?M,(f i).natAbs,e0.step (?aE),D.i1z.symm,Good.add,bootBuiltins,fun c=>?xD,∀m,m<d->?a50 s m=s,0<=?gK/\?gK<?gG,tup_cell,zt3 h a b,(apos.endLine==cpos.line)=true,?l ?m3 r,?d6->T i j=0,qx9 c β,Hj W u st,backToKw,(?rI ?yE).objs.size,.(fun c _=>by ext cD;rw[?iL]),h.2 b hb O9m,w7.extBut,?N1 j c hj hc,?b9::u::more,.(by simp[e]),(x / h).natAbs,?NA->?m8 c=?Q,let ⟨q,_,_,hq,_⟩:=HW;?IQ,fun b ob z=>?a1P z,Aj (?pA) ?lN,?a49 t ?b6,2 ^ (π+b),call_meets,putF "backs" b (putF "rows" r []),.(by rw[eB];ext jN),(f j).natAbs,fun hr=>?_,k*R q ?b4,h.s0.pos,R1 ?aA ?u,⟨dx,fs,e _ _ h1,h2⟩,qg9 _ ?c,g3 q u hqw e9 pL,C3 O9m c,?a30 R u,I.tuple_inj,[?b9,?eP],(∃o,?m8 e=?Q/\o.cls=?a1 ?w8)->E (?h e) ?iR,zt2 h a b,?S*cG n,Dk n W w i G R0 B0 t π b ?d s.1 s.2,?sD->?lO,PySem.F.entry_dict_pop,kJ R x H1,g x σ H' fun σ2 H2=>tb { D with nx:=N,ct:=N,bk:=D.nx } σ2 H2,x2.natAbs<=B.natAbs/\y2.natAbs<=A.natAbs,Lx kvs [],?P R i ?d,fun l=>?hP,?a42 (R i) (B j),⟨rfl,rfl⟩,(?cL).natAbs,Nat.mul_comm,?KP k u=true,?fK (e::es) ?M,?a0Q m ?a3,?a1X ?LC,h1.DictOf,cG n*B ^ n,.(fun x=>by rw[h.rows,?n]),∃r,?b5/\?a3X n,PySem.F.entry_dict_get,PySem.F.slot_dict_delitem,HA ?c7 eb,?k1 i2 t2 ?qS,?lF m i j f,hx c ?c,?a4R hp,(zt1 ?aD a).objs.size,?a1P (?fL),?ZX H M,h'.objs.size=?r8,(?GM,?bI p.2),?b0 e l k,attributeBase,?a1E r,KT × Value,(?cP).natAbs,∀spot,?cH->Dk n W w i G R B t π b ?d R B,c1.2.2.2.1,?l (fun l=>f (k+1+l)) ?hQ,"dict.pop",I.turnedN,Dv e e2 a b c d k,Ic ?g R t,c<w->?fU=0,{ s1 with heap:=?rI ?yE },(qn0 lz),?yG i hi hn,Lr kvs p.1 p.2,∀k,k<j->v ?a3=0,skip_prod,"starts",Aj (fun k=>B k a*R k b) n,?a0J H ?r6,hst.only,PZ ?c7 e,(?uA hi).1,kH xs H Q,Dv h1 h2,?a4O T (P x),?m0 j h1 h2,?a4B h.hd,?ZO β ?aJ,?o B ?d i q,?DN<=?hT,"dict_itemiterator",∀i,i<r->?a4J e,?dX=none,ih ?c ?c,D.TOi2.symm,h.s.same,prs[i]?=?e p,?a4D d ?eK,MX n w A Q R,1*?cP+k*R q c,qe6 _ r1p,∀j,j<r->?a30 T ?UT,(r-k)*?iP,Int.le_refl,.(by ext YQ),⟨h1,fun j k a b=>?jQ j k a O9m,fun j c a b=>?sC j c O9m b,fun j a=>?a4R ?lB,fun k j a b=>?p6 k j a O9m⟩,?c7 a _ e,?a3M r',⟨i-1,O9m⟩,fun r c hr=>?FG,c<w->i<c->?fU=0,?l (fun k=>f ?bO) n,pD n w R B i j,fun i c a b d=>?sC i c b (by have:=h2 i a b;omega),∀a∈as,∀o,H a=?Q->H' a=?Q,fun z=>e (?H1 z),Straight,∀r c,?gF->?PR,KH xs H Q,(as.set i D1).set j D2,(B i x).natAbs,bb.1 r x hr hx,(?m4).length<=sizeLine,?a41 m3,?oL->?oL->Int,?a01 p q,?a1E b,vs.any ?zL,(h a z).elim,(?b0 e j),?a4A ?d st,?a0O ?i7 ?A,LX H CL R r2 b2 ?aF w w r ?mR,?a1P (?I1),?hB i _ (qa0 hi),Oa r ?lM T E,⟨o,ho,r⟩,items[i],(?JY).natAbs,x.natAbs<?z,?aY j c h1 h2 h3,I.base.frzs,fV xs H Q,x1.natAbs<=B.natAbs,x a u n1 n2 e,?a2K H' N,W i m σ H,fun c _=>?_,?bU j c O9m hji,(?i3).natAbs,I1.tuple,b1.mono ?oR,?c3 (q.1≠k)=true,Su H ?mR a,?oP A B g a b,Int.neg_dvd.mpr,fun i=>(?o3).getD ?dA,tr R x c,hst.s0.low,?b0 e j c,if c<w then T a c else 0,c j h1 O9m,Jr f z hne,?y Bool,Ql R t j ?x3 (t m),D j i hj hi,if ?jT then Gc ?pL ?d else ?S3,?l ?jP k,(?dA,?wR),fun j c hj hcw hne=>?_,∀l,l<i->G ?b4,PE X o td,(?uA e').1,(y2*r1)*(-y1*r2),(?QS h1),Int.mul_fdiv_add_fmod,2 ^ (c+η),(?dA,?eE a ?M),fun c=>?EL,fun c _=>?JN,?d4 m=none,∃t,u=Value.str x t,⟨hz,hTI,⟨u,v,hTO⟩,h1,h2⟩,atKey xs k,s1.heap.IsTuple,(?J O9m),.(by simp[valueAt,qm2,e']),h i j hi hj,(2*a).log2,D i p hi hp,∀j,j<n->?a8<=D,?uV t i s d,?a0T G M,Int.natAbs_mul_self,?a0E ?p8 ?eD,?GJ i _ ?i,h _ _ (I.tok _) ?_,(?xH).natAbs,r≠spot,.(fun c _=>by rw[Bt ne,Bl,Bl]),as[i]?=?e c,Key × Value,h.move hi hs,MX n w A Q M,(qm4 ?_),(p dx:Addr),Jr f e1 e2,M3 n w k M1,.(by obtain⟨o,q1,q2,q3⟩:=id g;obtain⟨p,p1,_,m,p2⟩:=gt;unfold Builtin.SmallTypes.nextOf;refine qa7 (?y7 (name:=?vU) ?J8 qo7 (qm9 qo7 ?J8 F.entry_tuple_iterator_next ?_ (F.args_tuple_iterator_next_1 _)));show ?ZP (?sG ?yC 0>>=_) s;refine qa7 (qi4 q1 q3 (x:=?kO) rfl ?_);show ?ZP (if ?JO then _ else _) s;rw[?f (show ¬(?JO) from qe1)];show ?ZP (?sG ?yC 1>>=_) s;refine qa7 (qi4 q1 q3 (x:=?r n 0) rfl ?_);show ?ZP (seqItems? (?kO)>>=_) s;refine qa7 (qn4 p1 p2 ?_)),.(by refine ?a09 ?AA ?_;show ?ZP (?sG ?j1 3>>=_) _;refine ?a09 ?b9 ?_;refine ?a1G ga;show ?ZP (Builtin.SmallTypes.ownedTupleIsFree ?j1>>=_) _;refine ?jY;unfold Builtin.SmallTypes.ownedTupleIsFree;refine ?a09 ?aZ ?qE;simp only[if_true];refine ?a1W ?w7;refine ?a09 ?eP ?_;refine qa7 (qi6 gz ?cQ fun k1 YV w1=>?_)),.(by refine ?jY;simp only[List.zipIdx_cons,List.zipIdx_nil,List.forIn_cons,List.forIn_nil];refine qa7 (?a1W wpAny_onRaise);show ?ZP (?zI (?h i1)>>=_) _),.(by intro i s acc hn hi hz hd hit hb k;refine codeAny_builtin Vl ?_;rw[Around.under_plainId K9];have hLs:s.heap.IsList l items:=let ?V0:=hL;⟨o,hb _ _ nld nli ho,r⟩),.(by obtain⟨r0,r1⟩:=H.part.red ?d l ?aG h1 h2;rw[←?IT,←?DT]at r1;rw[←?IT]at r0;have p:=?Z l h2),∀{K:W.Frag}{a b:Addr}{xs ys:?cU}{n:Nat}(hn:xs.length=n/\ys.length=n)(Pv:?NN)(h0:?J2)(hl:∀i zs τ H,i<=n->?i6->?G6/\SqT K H b ys),a,.(by obtain⟨x,H1,I1,rx,a,ex,d,q1⟩:=_z;subst ex;obtain rfl:u=?eL a:=rx;obtain⟨t1,t2,_⟩:=pK I1 d;refine⟨t1,t2,?_⟩;rw[m.trees]),.(by exact(?c7 b u q).stay (fun _ _ _ q=>q) (fun c q=>?p1) ?yZ),.(by refine⟨?f9,fun b q=>?_,hd⟩;cases q;obtain⟨ob,_,_,h1,h2,_⟩:=dd;exact⟨ob,h1,h2.2.1⟩),.(by have z:?a2F q:=fun w=>Ez hp hq ne ?WR),.(by show(?N8).1=_),.(by show(?N8).2=_),∀(hs:?cH)(h0:∀c,c<st->?hV)(h1:R i st≠0)(hW:st<W)(hG:G st)(ZU:?x6)(hex:?pN),a,.(by obtain⟨tv,dx,fs,hp,l1,l2,l3,l4,l5,l6,l7,hrep⟩:=x.ob;obtain⟨r1,b1,r2,b2,lx,ly,f⟩:=x.li),.(by obtain⟨g,hg⟩:=ihm O9m;exact⟨g*T m (t m),by show ?BC*T m (t m)=_;rw[hg,qd4]⟩),.(by show ?iH*?B2+?pK*R ?fE ?u=0),.(by have e:=IP (w:=w) (n:=n) (f:=f) (g:=?H7) (h:=f) (?eN) (?eN)),.(by exact S6 I ?s1 hs he (Ur (qa5 (fC kvs k) z) hd (rel.drop k) HW)),.(by have zb:?iF+?q*?hG=(?nP)+π+1:=?DU),.(by obtain⟨ho,hsys,hl,vs,es',YZ,rel,hd',hsz,ex,hm⟩:=HM I hz;rw[hd]at hd';cases hd'),.(by rw[show ?yP=0 from ?uM l k hl (qb4 z (e9.mono k l ?c hl))];simp),∀(hr:?b5)(hst:?kE)(hz:?lA)(s2:Eb w n (tr T') ?nR),a,∀{x y z u:Int}(hx:x.natAbs<?sB)(hy:y.natAbs<?sB)(hz:z.natAbs<?sB)(hu:u.natAbs<?sB),a,.(by have e0:zO A B A 1 0 B 0 1:=?HR),.(by obtain⟨ia,ra,pa,_⟩:=I.tuple EV;obtain⟨ib,rb,pb,_⟩:=I.tuple lZ),.(by rcases h with h|⟨hB,e1,e2,e3,e4,e5,e6⟩|⟨hB,e1,e2,e3,e4,e5,e6⟩),.(by rw[Ez (p:=j) (q:=k) ?c hk hne ?VB,qc7];rw[Bl,Bt hne]),.(by exact ?x (?F ⟨o,?QD⟩)),.(by have e1:=a2 hlt;rw[htk]at e1;have pk:=?qB k hlt;rw[htk]at pk),.(by have he:0<?hZ:=B8 (?a1R ?r2)),.(by have hl:?a2O ?G5:=by have:=O7 kvs k v;omega),.(by obtain⟨t,q⟩:=(show ?LP from ry);subst q;rfl),.(by obtain⟨t,q⟩:=(show ?W9 from ry);subst q;rfl),∀{i:Nat}{T V Z:Mat}(h:∀r c,r<i->c<i->?hS=Aj (fun j=>T r j*Z j c) (r+1)),a,.(by rw[?g9 l k hl (qb4 z (?E2 k l ?c hl))];simp),∀(hM:∀r c,r<n->c<W->(M r c).natAbs<=?z3)(hD:Oa n (fun c=>c<W) M D),a,∀{g:TG}{tb:TS}{D:Ends}{σ:St}{H:Hp}(Pv:?P8)(h0:Pv 0 σ H),a,∀{n w:Nat}{A Q T P:Mat}(h:∀k c,k<n->c<w->?c6=?a01 (P k) ?fX),a,.(by have t1:∀j,j<i->?gJ t i ?e8 j=t j:=?a1R ?yF),∀(hc:?MN)(Pa:?U1),a,.(by exact ?x (?x (?QD))),.(by have d:=H.hd l h2;rw[←?DT]at d;omega),.(by rw[e0,Wm _ hk,?a0 (j:=k) ?c ?AI]),.(by rw[←?aU,←?aU,←?aU,←?aU,z u,z v]at e0;omega),.(by rw[?p,?m (by rw[x.1];exact hi)]at ec;cases ec),.(by intro _;exact⟨0,?hE,?i9,fun j _ hj=>O9m⟩),∀(h:∀l,f<=l->l<m->?ED),a,.(by intro hm;obtain⟨r,a,b,c⟩:=?cF;by_cases z:t m<w),.(by rw[?d8,Il];have:R j k=(a*d-b*c)*R j k:=?wP),∀(h:?FT)(ht:?vM){v:?k}(hv:In W i R v),a,.(by rw[?bU ?d c ?i hs];exact H.rw ?d c hs hc),.(by have hn:es.size=vs.length:=by rw[hsz,rel.length]),.(by refine qj1 a (qh7 ?NX);have:=c r ?i y),.(by have d1:?cG∣ ?a9:=⟨x k,by rw[e1,qe8]⟩),.(by have ht:?B9 ?j1 ?iT:=(?a1B gz)),.(by rw[?o8,?o8]),.(by rw[←qe4,←qe4];exact ?B5),.(by unfold insS;by_cases z:?jT),.(by obtain⟨f0,f1,f2,f3,f4,f5⟩:=?OK),.(by rw[An (fun z=>by rw[z,e]at n;cases n)];exact n),∀(g:?BS j t n)(gt:?dF t vs),a,∀(hst:?JR)(hz:?EP),a,.(by rw[An (E3 h hn ?aC)];exact h),.(by show _=?zK*?a9*_;rw[qd4]),∀(h1:D<=?N)(h2:?LA)(h3:b0<=π)(h4:b0<=b),a,.(by exact I2.fpOk ?i (I2.hok.fresh ?i)),.(by have:=?hR j ?d ?aG O9m hs;omega),.(by obtain⟨hz,hTI,⟨u0,v0,hTO⟩,h1,h2⟩:=st),∀(G:?aH)(M B0:Mat)(kt:?v)(hd:?k),a,.(by rw[?cS,?f (?UF)]),.(by show ?ZP (?sG ?j1 2>>=_) _),.(by show ?ZP (pyNext ?kD>>=_) s),∀(h:Rt n w r E L m e A T P PB Q QB kl kr hl hr),a,∀{w n:Nat}{R:Mat}{u v:?k}(hu:?RQ),a,∀(f3:?a1N H0 r2)(f4:?a1N H0 b2),a,∀(hp:p<lo)(hm:m<=lo)(hn:?rR)(hpf:p<f\/m<=p),a,∀(ho:?VZ)(he:PE X e ty)(hf:PE X f tx),a,∀{i j:Int}(hi:?MJ)(hj:?HT),a,∀{g a b:Int}(S:?oP ?kH ?mJ g a b),a,∀(h:?a2L i (fun c=>c<W)),a,∀(hp:p<lo)(hq:q<lo)(hn:?rR)(ne:?gD),a,∀(gx:xs[n]?=?gI) (gy:ys[m]?=?oQ),a,∀(ts:?fM) (kvs:?bW),a,∀(h:?WK),a,∀(he:R i ?k7=q*?FX),a,∀{a:Addr}{xs:?cU}(h:?G6),a,∀{p:κ × V}{r:?j4}{k:κ},a,∀(R:It->?kZ)(vs:?cU)(H1:Hp),a,∀(hd:?a3Q n),a,∀{j t:Addr}{n:Nat}{vs:?i8},a,∀(e:H a=?rK),a,∀(hE:?l ?mF r<=E),a,∀{n w m E:Nat}{A P PB Q QB:Mat},a,∀(H:?AS),a,∀(h:?a12 EuI r2),a,∀(h:?E5),a,@(BB n W C δ ?a ?b),@(?t _ _ ?a _ _ ?b),@(Aj (fun k=>x k*?a) ?b),@(?a fun i c h1 h2 h3=>?b i c h1 h2 h3),@(Fd X (?eI "any") (fun xs H Q=>∃(p:Addr) (bs:?VR),?z4/\SqL ?a H p (bs.map V.bl)/\Q (.bl (bs.any id)) H)),@(show ?a≠?b by omega),@((if ?a=?b then ?cK else 0)=0),@(fr _ _ (fun z=>?a ?oM) (fun z=>?b ?sS) e),@(det n (Bu A p ?a)),@(WX K CL CW H0 ?a p L R nm n w ?b l r ns),@(fun z=>?a ?aX),@(?a (if l<k then l else l+1)),@(∀l,?e4->l<i->(?C R ?d i x y z u ?a ?u).natAbs<=?bA*(?C R ?d i x y z u l ?u).natAbs),@(bil n w A ?a ?b),@(?aR n W w lo R B ?a ?b),@(?t ?a A ?b Q E s),@(SX CS H0 H p q M n W t ?a ?b),@((∀σ' H',N σ' H'->∃m',m'<m/\W ?g m' σ' H')/\∀x H',(?a).yld i H x H'->?S0),@(qa7 (?NR (?y7 (name:=?vU) ht qx1 (qm9 qx1 ht ?QE ?a (F.args_zip_next_1 _))))),@(?e (?I ?a)),@(∀(i:Nat) t,?r0->∃kv:?pV,kvs[i]?=?e kv/\H ?a=?e (?bJ [kV ?aI,kv.2])),@(qa7 (qi4 gz rfl (x:=?a) rfl ?b)),@(?E9 m.base m.few m.line qt3 ?a ?b (Dh (ho Ac s σ H _ I h) fun u s1 _z=>?_)),@(fun kv=>if ?jR then ?a else kv),@(Rep K ?a v (dT n w ?b)),@(qq2 (Dh (hf Ac s2 σ H2 _ I2 q2) fun fv s3 ?a=>Calls.spliced_nil ?_)),@(show ?a=?b by omega),@(SX CS H0 H' p q M n W t ?a ?b),@(H p=?e (?bH ?a dx ?b)),@(?rI { cls:=?a1 ?kQ,data:=?gH #[?r ?fO ?a,?r ?E t',?r ?E t''] }),@(fun m hm=>?a R O9m O9m ne ?b),@(Bj X Ac σ ?a ?b),@(fun j=>?a j ?b),@(Qa n ?a w r kt hd ?b),@(s.heap.objs.size+?a),@(?d4 (?a:Str)=?e ?b),@((?a).natAbs<=?b),@(A (if r<?a then r else r+1) ?aO),@(Ql R t k ?a ?b),@(Dk n W w i G R0 B0 t π b ?q ?a ?b),@(?a Ac s1 σ H1 _ I1 q1),@(Ca n W w r i ?a ?b B0 kt hd t R B),@((det i ?a).natAbs<=?b),@(Aj (fun l=>(T l ?cO*?h8)*(if d=l then 1 else 0)) ?a),@(upd H ?a ?b),@(rv.get (i:=i) (x:=?a (?b[i]'(O9m))) (by rw[qb2,hb];rfl)),@(fun d hd=>(?a d hd).mono ?oR),@(Bu (Bu R j (?a ?a2)) ?a2 ?iC),@(?a A B r2 x2 y2 (?mD) (x1-?dK*x2) (y1-?dK*y2)/\?yW),@(?a*(?g*(i+1+?b+2))),@(?a A B r1 x1 y1 ?b x2 y2),@(show ?a<i+1 by omega),@(s1.heap.objs.size+?a),@(fun σ' H'=>?m2/\?a σ' ?mP),@(Qa w ?gQ n r kr hr (?B n ?a ?b)),@(LX ?a CL R r2 b2 ?dW w w ?b ?mR),@((if r<?a then r else r+1)=p),@(by rw[show ?a=(?b-2)+2 by ext jG,qe4];simp;try omega),@(Aj (fun k=>(if k<r then X k i else 0)*T c k) ?a),@(⟨_,?a,rfl⟩),@(WX K CL CW H0 H p L R nm n w ?aF ?a r (Hy m f)),@(Nu n i β c t R B ?a ?b),@(H0 ?a=none),@(?cR ?a z a b ?b),@(qa7 (qn4 ?a rfl ?_)),@(fun k c hk hc=>?a k c hk (by rw[?b k hk];exact hc)),@(PE X (?eY (?l5 o ?a ?g1) ?pS [] ?fR) (?b td ty tx)),@(?a<s.heap.objs.size),@(LX ?a CL L r1 b1 ?b n n l ?oX),@(?y (?a × ?b)),@(?eY (?l5 (.Name x np) m ?g1) (?a::es) [] pos),@(?a ?b=Option.none),@(∀x c,x<w->c<n->?VL=bil w n ?sK (?a x) ?EI),@(qa6 _ ?a),@(fun r l=>?a r ?b4),@(fun j hj=>?a),@(Jo n W w i ?a R B t π b),@(?hR ?a (k-1) ?aG O9m O9m),@(?KF (show A+1<=-(?aE) by omega) ?a O9m O9m),@((∃c d,?aS h TO c d)/\?kS i1 a ?a/\?kS i2 b ?b),@(qa7 (?a ?_)),@(fun c=>?a),@(?J (R:=?a) hj),@(fun j hj=>?a j O9m),@(?uM c k ?a (by have:=e9.inc k c O9m ?b;omega)),@(fun a u n1 n2 e=>by rw[An ?a];exact ?V8),@(Et ?a u v 1 1 ?b),@(?g9 i ?a e3 (by have:=?sF ?b i O9m e3;omega)),@(.Tuple ?a x1 tpos),@(∀k c,k<n->c<w->?a=?b k c),@(ql2.mpr (?r7 (qd8 ?a))),@(fun a o e=>fr _ _ (At e ?a) (At e ?b) (?w4)),@(by rw[qe4];exact qq3 ?a ?b),@(show ?a<=?b by omega),@(l8 n W w i G R B t b p ?d μ ?a R' B'),@(E7 n w ?a ?b),@(Dk n W w i G R0 B0 t π b ?q (?a).1 (?b).2),@((?a O9m).cols (fun k c _ hc=>?s8) ?A1),@(?a (fun p=>if ?bM then(p.1,v) else p)),@(∀w:?k,det n (Bu (Bu A p w) ?a w)=0),@(∀j k,j<k->k<?a->?pO),@(qd8 (qc2 ?a)),@(nF W n R ?a),@(fun r c hr=>(?a r c hr).trans (?b r c hr)),@(LX ?a C p r b sv n W s ?b),@(Dq n W w ?a ?b M B0 t R B),@(?eZ P w H h a ?a),@(?C R p q a b c d ?a k),@(?a<=sizeLine),@(?a l O9m h2),@(Ca n W w r ?g G M B0 kt hd ?a R2 B2),@(∀c,c<n->?bZ=A ?a c),@(sx _ _ (E3 ?a hp ?aC) ?b),@(show 0<=-?a by omega),@(fun m hm=>?a ?b O9m),@(fun c hc=>?a i c hi hc),@(by rw[An ?a];exact e),@(by have:=?W3 ?a ?b;rw[qe8]at this;omega),@(Rep K H' (?h ?a) ?b),@(Lat.insS ?a ?d st s'),@(In w n ?a ?b),@(?a R p q a b c d ?b),@(fun σ H R=>ta σ H fun vs H1=>?a),@(fun i j=>?a j i),@(⟨rfl,?T2 (t':=s.toks) (fp:=?a) ?b hf⟩),@(qe2 ⟨plainId_quiet K9 ?a,?_⟩),@(by rw[m,qc4,←qc4 ?a];exact ?zE),@(LX H' CS p ?a ?b (?e (?h q)) n W s' M),@(?bY n W ?a ?b),@(?T fun l hl=>by rw[?a l ?c];simp),@(?T fun k hk=>by rw[x0 k ?a];simp),@(show X.A.in1.handled=?a from hh),@(pT n ?a ?b a b=?rW),@(by have:=?sF k ?a hl1 hl2;omega),@(_*(if m<w then T m m else 0)=?a),@(T i d*(if c=d then e else 0)=?a),@(show ?a ?b ?BN from pb),@(show ?a ?b ?AC from pa),@(fun m hm=>(?a m hm).trans (?b m hm)),@(fun a ha=>⟨(?a).1,(?b).2.1,?e6⟩),@(PySem.F.args_dict_get_3 _ _ ?a),@(Pk ?a g ?b te D Q τ H),@(H ?a=none),@(?aR n W w ?a ?b B0 R B),@(?a r c hr hc),@(?a j c O9m hcw hne),@(∀zs τ H,Pv ?a zs τ H->Q H),@(qa5 (Nat.log2_self_le O9m) ?a),@(fun c _=>by ext cD;rw[?aQ,?gP,?a]),@(fun a=>p a*Aj (fun b=>?A3) ?a),@(T k ?cO*?a*(if d=k then ?b else 0)),@(Et (Bu A q ?a) ?bB ?dC a b hp),@((if r<?a then ?iI else ?h9)=_),@((?xA)/\∀j,?aK->j<?a->w<=t j),@(?a ?b c O9m hc),@(⟨?a,?_⟩),@(fun k hk=>?a k ?b),@(fun d hd=>?s9 (?a d O9m) O9m),@(dot n w ?a ?b),@(det i (eL V Z ?a)),@(by rw[←l];exact rel.val ?a),@(SqT K H' L [?r g,?r a,?r ?a]),@(RY i j g a b f ?a),@(Ca n ?a w r n G ?b B0 kt hd t R B),@(?o ?jO j i ?rE ?a),@(?cI ?a i ?aJ ?b),@(?P R i ?d ?a ?b),@(?a j hj),@(∀d,?l9->?ZO ?mL (?R t ?a ?q ?b d)),@(BB n W C δ (β+?a11 ?a Y) (?b)),@(Builtin.«zip.__next__» ⟨[?h ?a],[]⟩),@(∀j,j<i->?a0O ?a ?b),@(?l (?a0K ?a j) ?b),@(?C B p q d (-c) (-b) ?a),@(det n ?a),@(In n w ?dJ (?b0 ?a i)),@(?R t ?a ?q ?b ?aW),@(?f (?ZY ?a)),@(?a (t':=s1.toks) ?b),@((?a0K T' ?a3) ?a=0),@(∀x c,x<n->c<w->?a x c=?a01 ?b ?fX),@(?cI ?aP i (?iX) ?a),@(?a7 (?a1X ?a)),@(?a j O9m),@(?a Ac s σ H _ I h),@(H' ?a=?a07 ?b),@(∀p,?dE->Q ?eO (?a0W p ?a)),@(fun M' e=>?LS ?a (hrep M' e)),@(det i ?a),@(TA ?a r as n W ?b),@(H ?a=?a07 ?b),@(?a4I ?a=- ?a4I (Bu (Bu A p v) ?b u)),@(?R t ?aA ?dL ?a ?b)])
def Ls(H H':Hp):Prop:=∀c q,H c=?G8->H' c=?G8
def Kp(H H':Hp):Prop:=∀a,?y4->?NK
theorem Kp.trans{H H1 H2:Hp}(x:?AN)(y:Kp H1 H2):Kp H H2:=fun a e=>y a (x a e)
theorem Kp.of{H H1:Hp}(s:?B7):?AN:=fun a e z=>e (s.free z)
theorem Kp.upd{H:Hp}{p:Addr}{o:HO}:Kp H (?a0W p o):=fun a e z=>by
 by_cases hap:a=p
 . rw[hap,Ab]at z;cases z
 . rw[An hap]at z;exact e z
theorem Kp.x{H H1:Hp}{p:Addr}{o:HO}(s:?mN p H H1)(hp:H1 p=?Q):?AN:=fun a e z=>by
 by_cases hap:a=p
 . rw[hap,hp]at z;cases z
 . cases q:H a with
   | none=>exact e q
   | some o'=>rw[s a o' hap q]at z;cases z
universe e9
section
variable[?gZ]
universe e9
section
variable[?aM]{CL CT:Addr}[?d0]{Z:?eG}{p L R dn:Addr}{h w B:Nat}{f:?kY}{ds:?a1L Bool Tn}
universe e9
universe Hb
namespace L2
open PySem PySem.Spec PyProof.Rows PySem.W
section
variable{X:Cx}
def U4(_i j:Int):Prop:=j≠0/\j.natAbs.log2<9000
theorem U4.of{i j:Int}(h0:j≠0)(h:j.natAbs<?y1):U4 i j:=⟨h0,(Nat.log2_lt O9m).mpr h⟩
theorem Ko:OpR X (binaryOp .FloorDiv) (rI U4 fun i j=>?r (i.fdiv j)):=opI fun _ _ _ _ _ _ _ hc q=>floordiv_int hc.1 q (?x (PyProof.noPylong_of_log2 hc.2))
def insAt[?CQ]:?oO:=xs.take k++y::xs.drop k
inductive fW(x:V)(vs:?cU)(H:Hp)(Q:VK):Prop
 | mk:∀(l:Addr) (xs:?cU) (k:Nat) (y:V),(x=?qW)->(vs=[?r k,y])->(?a4Y l xs)->(?KN)->(xs.length<sizeLine)->(Q .non (?a0W l (?I (?yT))))->?OT
def SH:V->?s0:=fun x vs H Q=>?OT
theorem T9:MtM X "list.insert" SH:=by
 intro Ac s σ H x vs v us Q I rx rv h;obtain⟨l,xs,k,y,rfl,rfl,hH,hk,hz,q⟩:=h;cases rx;obtain⟨u1,u2,rfl,r1,r2⟩:=dD rv;obtain⟨t,rfl⟩:=r1;obtain⟨z,its,n,r,hl,e⟩:=I.lstM hH
 have hsl:((k:Nat):Int)<2 ^ 63:=by
  have h1:?a2O k:=O9m
  have h2:sizeLine<=2 ^ 62:=?hJ
  have h3:=qa5 h1 h2;omega
 have hfit:¬(!Builtin.List.listFitsIndex (k:Int))=true:=by
  rw[fitsIndex_both ?c hsl];exact qe1
 have hsz:?a2O its.toArray.size:=by rw[qd0];omega
 obtain⟨ki,hki⟩:∃ki:Int,ki=(k:Int):=?M0
 rw[←hki]at hfit ⊢;have hm:=AutoSeq1.list_insert_list_int_val_1 l ?kN n ki t u2 hfit hsz;refine ?RE F.slot_list_insert (?a1B e) F.entry_list_insert (F.args_list_insert_3 _ _ _) hm (?a3Z e);refine⟨.non,_,I.lset (its':=?g8 k u2 its) hH e ?_ ?_ ?_,rfl,q⟩
 . have hkl:k<=its.length:=O9m
   have hkn:ki.toNat=k:=O9m
   simp only[qd0,hkn];rw[?n,?FJ hkl];apply Array.ext';simp only[insAt,Array.toList_append,Array.toList_push,Array.toList_extract,List.extract_eq_drop_take,qv9,qr9];rw[qj9,qm8 (i:=its.length-k) (by rw[qh9];omega)];rfl
 . exact(r.take k).append (?cT r2 (r.drop k))
 . unfold insAt;rw[qa9,qc9,qd3,qh9];omega
structure Aq7(K:Frag)(D:Addr)(m:Str)(f:Addr):Prop where
 rd:readsIn K D (?a1 "type")=true
 fc:findCls K ?kK (?a1 "type") m=?e (.val (?h f))
 ga:specialIn K ?kK "__getattribute__"=?e (?e (?eI "type.__getattribute__"))
 kp:W.keepIn K (?h f)=true
structure zM(P:Program)(w:World)(K:Frag)(mg:?Q5)(base:Heap)(C:Addr)(m:Str)(ps:?k6)(k:Nat)(sp:Sp):Prop where
 ex:∃(f:Addr) (fd:FuncData),Aq7 K C m f/\M4 K fd ps []/\Bv P w K mg base Ei k f fd ps sp
theorem sV{j k:Nat}{C:Addr}{ps:?k6}{sp:Sp}{x m:Str}{np apos pos:Pos}{e:Expr}[?tZ]{t:TA}{pl:Sem Bool}(h:zM ?sM X.w X.K X.mg X.base C m ps j sp)(hr:F2 k X.A)(hg:Gl X x)(hm:X.mg x=?e (?h C))(ha:PA X (e::es) t)(hk:j<=k:=by decide)
 (hdb:(x==("__debug__":Str))=false:=by decide) (hst:?SA=?VW::?KU:=by rfl) (hpl:(?B4 pos (?KU)).any (·.1)=false:=by rfl)
 (ht:?eE (?a1M e) ?M=(do
   let ov ←?eE (.Name x np) ?M
   standAt apos.atName
   let (f,first) ←holding [ov] (getMethod ov m pl)
   callWith pos f first (?B4 pos (?SA)) (?QZ pos (keywordEach [] ?M))):=by rfl) :
 PE X (?a1M e) (tCall sp [] E0 t):=by
 obtain⟨f,fd,B,hb,F⟩:=h.ex;intro Ac s σ H Q I h;refine qq1 (pl:=pl) (Wj I hg hm ?_ hdb) ht;refine method_cls I.kIn B.ga (cls_value I.kIn B.rd B.fc rfl ?_);refine qr8 (h₀:=X.base) I.ok.mod.kin B.kp (Dh (ha pos Ac _ σ H _ (I.tok _) h) fun us s1 ⟨vs,H1,I1,r,q⟩=>(?a3Z I1.kIn)) hst hpl;exact BL F (hr.mono hk) hb ?b7 DW I1 r q
universe e9
universe L2
namespace L2
open PySem PySem.Spec PyProof.Rows
section
variable[?tO][?dO]{s:Shared}
theorem Jf[?ZH]{x:Value}[?dP][?YO](gx:vs[n]?=?gI)
 (k:∀h',?k1 j t ?S->?AJ j ?aD h'->Q x ?iR):?GL:=by
 ext X0;simp only[qd6,gx];refine qa7 (?KA q1 q3 ?cQ (qe2 ⟨x,rfl,qe2 (k _ ?_ (Heap.SameBut.update ..))⟩));exact⟨_,Heap.get?_update_self _ q1 (Obj.isFreed_of_fields (?G0 q3 _)),(Obj.cls_mapFields ..).trans q2,by rw[?G0 q3];simp[rawInt]⟩
theorem O5[?ZH][?dP][?CY][?YO](gx:vs[n]?=none)
 (k:∀h' e,Heap.ExtBut j ?aD h'->?RT):?GL:=by
 ext X0;simp only[qd6,gx];refine qa7 (?w7 (qa7 (?KA q1 q3 ?cQ ?_)));show ?ZP (newExc (?a1 ?w8) []>>=_) _;refine ?jY;simp only[newExc,newTuple];refine qa7 (?O0);refine qa7 (m:=firstArgMember _ _) (wpAny_of_eq (a:=Value.none) (by first | rfl | (simp only[firstArgMember];rfl)) ?_);refine ?O0;simp only[raiseNew];refine ?a1W wpAny_handled
 first | rw[show A.in1.handled=none from hn] | rw[hn]
 refine qa7 (qe2 (wpAny_throw ?_));exact k _ _ (((Heap.SameBut.update ..).extBut.push _).push _) (?a1B ?fL)
theorem kM[?t5]{x y u v:Value}[?dP][?sZ]
 [?t0] [?Z9]
 (k:∀h',?E8->?K3->?Q3->?SK->?ME->?SR →
   ?rV->Q (?dU) ?iR) :
 ?t ?e7 A (?a4E z) (fun fin s'=>∃r,fin=.done (.ret r)/\Q r s') E s:=by
 ext YY;ext X1
 replace YV:?PC:=YV
 ext X2;refine qa7 (Jf (g1.extBut ?dH D.i1z) (e1.extBut ?dH D.l1z) gx fun k2 f1 w2=>?sJ);have gb2:?aS k2 b u v:=?lC _ _ D.TOi1 (?dH _ _ D.TOz gb);refine ?a1G gb2;refine qa7 (?FB gb2 fun k3 gb3 w3=>?_)
 replace gb3:?aS k3 b x v:=gb3
 refine qa7 (?OF ?qE);refine qa7 (?a1W wpAny_onRaise);show ?ZP (?zI (?h i2)>>=_) _;refine qa7 (Jf (((g2.extBut ?dH D.i2z).extBut ?lC D.i12.symm).extBut ?gA ?TU) (((e2.extBut ?dH D.l2z).extBut ?lC D.l2i1).extBut ?gA D.l2TO) gy fun k4 f2 w4=>?sJ);have gb4:?aS k4 b x v:=?nY _ _ D.TOi2 gb3;refine ?a1G gb4;refine qa7 (?FB gb4 fun k5 gb5 w5=>?_)
 replace gb5:?aS k5 b x y:=gb5
 refine qa7 (?OF ?F3);refine ?a1G gb5;refine ?a1W wpAny_newTuple;have sz:k5.objs.size=s.heap.objs.size:=by rw[w5.1,w4.1,w3.1,w2.1,w1.1]
 have gz5:?a1F k5 ?s3:=?nQ _ _ ?DC (?nY _ _ D.i2z.symm (?gA _ _ ?DC (?lC _ _ ?QM YV)));have kp:∀c o,c≠z->c≠b->c≠i1->c≠i2->?NA->k5.get? c=?Q:=fun c o c1 c2 c3 c4 e=>?nQ _ _ c2 (?nY _ _ c4 (?gA _ _ c2 (?lC _ _ c3 (?dH _ _ c1 e))));have f15:?DH i1 t1 ?S:=((f1.extBut ?gA ?H2).extBut ?nY D.i12).extBut ?nQ ?H2;have f25:?DH i2 t2 ?qS:=f2.extBut ?nQ ?TU;have lz:z<k5.objs.size:=qc2 gz5;show ?ZP (Builtin.SmallTypes.ownedTupleHandOut ?j1 ?NH>>=_) _;refine ?jY;unfold Builtin.SmallTypes.ownedTupleHandOut;have gz6:?a1F (k5.push { cls:=?rP,data:=?h6 #[x,y] }) ?s3:=?a1P gz5;refine qa7 (qi6 gz6 ?cQ fun k7 gz7 w7=>?_)
 replace gz7:?a1F k7 ?EY:=gz7
 refine qi6 gz7 ?cQ fun k8 gz8 w8=>?_
 replace gz8:?a1F k8 ?EY:=gz8
 have up:∀c o,c≠z->k5.get? c=?Q->k8.get? c=?Q:=fun c o c1 e=>?OG _ _ c1 (?R3 _ _ c1 (?kA));have gt:?aS k8 ?AV x y:=?OG _ _ ?T7 (?R3 _ _ ?T7 (?fL));have s8:k8.objs.size=k5.objs.size+1:=by rw[w8.1,w7.1,qj0]
 rw[sz]at gz8 gt s8;refine qe2 ⟨_,rfl,?_⟩;show Q ?NH _;rw[sz];exact k k8 gz8 (up _ _ D.TOz gb5) (f15.at fun o e=>up _ o D.i1z e) (f25.at fun o e=>up _ o D.i2z e) gt s8 fun c o c1 c2 c3 c4 e=>up c o c1 (kp c o c1 c2 c3 c4 e)
theorem nH[?t5]{u v:Value}{Q:PySem.Fin->?lO}[?CY][?sZ]
 [?t0] (gx:?JD)
 (k:∀h' e,?rV->?RT) :
 ?a03 ?e7 (?a4E z):=by
 ext YY;ext X1
 replace YV:?PC:=YV
 ext X2;refine qa7 (O5 hn (g1.extBut ?dH D.i1z) (e1.extBut ?dH D.l1z) gx fun k2 e w2 he=>?_);obtain⟨oe,ge,ce⟩:=he;have gz2:?a1F k2 ?s3:=w2 _ _ ?QM YV;have ne:e≠z:=fun q=>by subst q;rw[gz2]at ge;cases ge;simp at ce
 refine qi6 gz2 ?cQ fun k3 _ w3=>k k3 e (fun c o c1 _ c3 _ q=>?gA _ _ c1 (w2 _ _ c3 (?dH _ _ c1 q))) ⟨oe,?gA _ _ ne ge,ce⟩
theorem Yg[?t5]{x y u v:Value}[?CJ][?sZ]
 [?t0] [?Z9]
 (k:∀h',?E8->?K3->?Q3->?SK->?ME->?SR →
   ?rV->Q (?e (?dU)) ?iR):?I9:=by
 ext YI
 unfold pyNext;exact ?a06 (kM D gz ga gb g1 g2 e1 e2 gx gy fun h' a1 a2 a3 a4 a5 a6 a7=>qe2 (k h' a1 a2 a3 a4 a5 a6 a7))
theorem c9[?t5]{u v:Value}[?CJ][?CY][?sZ]
 [?t0] (gx:?JD)
 (k:∀h',?rV->Q ?aF ?iR):?I9:=by
 ext YI
 unfold pyNext;refine ?a06 (nH hn D gz ga gb g1 g2 e1 e2 gx fun h' e kp he=>?_);obtain⟨o,q1,q2⟩:=he;exact qa7 (wpAny_isInstance (T:=?w8) (b:=true) ⟨o,q1,q2⟩ isSubtype_stop (qe2 (k _ kp)))
universe e9
noncomputable abbrev zt1(h:Heap)(a:Addr):Heap:=h.push ?NU
noncomputable abbrev zt2[?tQ]:Heap:=(zt1 h a).push { cls:=?a1 "tuple_iterator",data:=?gH #[?eP,?uK] }
noncomputable abbrev zt3[?tQ]:Heap:=(?RU).push { cls:=?rP,data:=?h6 #[?h ?Q0,?h (zt1 h a).objs.size] }
noncomputable abbrev zt4[?tQ]:Heap:=(?QT).push { cls:=?rP,data:=?h6 #[?aZ,?aZ] }
noncomputable abbrev wN[?tQ]:Heap:=(zt4 h a b).push { cls:=?oK,data:=?gH #[?aZ,?AA,?AA,?h (?RU).objs.size,?h (?QT).objs.size] }
theorem NG(a b:Addr)(xs ys:?i8):Meets (Builtin.«zip.__new__» ⟨[?oK,?b9,?eP],[]⟩) (fun _ R s=>?PN/\?OQ/\R (.ok (.ret (?h ?wK))) { s with heap:=?A9 }) :=
 .of_wp fun prog w A R s h=>by
  obtain⟨hp,g,d,tk,os⟩:=s;obtain⟨h1,h2,h⟩:=h;have hsub:=sub_zip;have g1:?HA (?NM ⟨hp,g,d,tk,os⟩) a xs:=h1;have g2:?HA (?NM ⟨hp.push ?NU,g,d,tk,os⟩) b ys:=Heap.IsTuple.push h2 _
  wp_walk using qn7 g1,qn7 g2
  exact⟨_,rfl,h⟩
section
variable[?tO][?dO]{s:Shared}
theorem mR{a b:Addr}{xs ys:?i8}[?dP](h1:?PN)(h2:?OQ)
 (k:∀h',?cR h' (?u5) (?wT) (?AY) ?aZ->?aS h' (?wT) (?dU) (?h (?r8)) →
   ?aS h' (?AY) ?aZ ?aZ->?k1 ?X a 0->?k1 (?r8) b 0->h'.objs.size=?OW →
   (∀c o,?R8)->Q (?h (?u5)) ?iR):?a03 ?e7 (?iM (?oK) ?RS):=by
 refine callType_new F.called_zip ?W (F.typeCall_zip_2 _ _) (F.newCall_zip_2 _ _) (fun obj=>F.args_object_init_3 obj _ _) F.entry_zip_new (NG a b xs ys) ⟨h1,h2,?_⟩;have z1:?SO=?r8:=qj0 ..;have z2:?FA=?wT:=by rw[qj0,z1]
 have z3:?FZ=?AY:=by rw[qj0,z2]
 have z4:?wK=?u5:=by rw[qj0,z3]
 have z5:(?A9).objs.size=?OW:=by rw[qj0,z4]
 have q5:?lS ?wK=?l8:=?fL;have q4:?lS ?FZ=?l8:=?SP;have q3:?lS ?FA=?l8:=?I1;have q2:?lS ?SO=?l8:=?UX;have q1:?lS ?X=?l8:=?a1P (?UX);show _/\_;rw[z2,z3,z4]at q5;rw[z1,z2]at q3;rw[z3]at q4;rw[z1]at q2;rw[z4];exact⟨(?a1B q5),k _ q5 q3 q4 ⟨_,q1,rfl,rfl⟩ ⟨_,q2,rfl,rfl⟩ z5 fun c o x=>?a1P (qa6 _ (qa6 _ (qa6 _ (qa6 _ x))))⟩
universe e9
theorem tup_cell{h:Heap}{j t:Addr}{n:Nat}(g:?kS j t n):∃o,h.get? j=?Q/\∀v,o.data≠.cell v:=by
 obtain⟨o,q,_,d⟩:=g;exact⟨o,q,fun v z=>by rw[d]at z;cases z⟩
def qQ[?gZ](a b:Addr):It:=MY (SqT K) (?JK) a b
theorem kN[?bT][?aM][?tZ][?D2](a b z TI TO i1 i2:Addr)(D:?Q1 z TI TO i1 i2 a b) :
 U1 P w K (?a24 es) ?qP ?JZ z (fun i h=>?HU/\?GG/\?a1V i i) where
 mem:=qb1 ..
 obj:=fun i h ?WA=>bC hz hTI hTO ?W2 ?MM
 keep:=fun i h h' ?WA k=>by
  obtain⟨k1,k2,k3,k4,k5⟩:=of5 k;exact⟨k1 _ hz,k2 _ hTI,⟨u,v,k3 _ hTO⟩,h1.at fun o q=>k4 o q,h2.at fun o q=>k5 o q⟩
 item:=by
  ext j6;ext YV;obtain⟨xs,ys,x,y,EV,lZ,hx,hy⟩:=hg;ext XO;obtain⟨u,hu,ru⟩:=ra.get hx;obtain⟨v,hv,rv⟩:=rb.get hy
  exact Yg D hz hTI hTO h1 h2 (?a3H ?dF a) (?a3G ?dF b) (x:=u) (y:=v) (by simpa using hu) (by simpa using hv) fun h' hz' pU cY h2' htup hsz hk =>
   cZ (Y:=(qQ X.K a b).yld i H) (T:=fun h=>?HU/\?GG/\?a1V ?g ?g) D I hf hz hTI hTO ?W2 ?MM ru rv hz' pU htup hk (fun h3 Qj q1 q2 q3=>⟨q1,q2,q3,cY.at fun o e=>(Qj.2 i1 D.i1z).trans e,h2'.at fun o e=>(Qj.2 i2 D.i2z).trans e⟩) fun hn=>⟨_,x,y,hn,rfl,rfl,fun zs q=>by rw[?RR q EV];exact hx,fun zs q=>by rw[?RR q lZ];exact hy⟩
 done:=by
  ext j6;ext YV;obtain⟨xs,ys,EV,lZ,hx⟩:=hg;ext XO;have la:=ra.length;have lb:=rb.length;refine c9 ?nJ D hz hTI hTO h1 h2 (?a3H ?dF a) (?a3G ?dF b) ?_ fun h' hk=>(?a34 ?JZ (fun c o hc e=>?_))
  . simp;omega
  . obtain⟨n1,n2,n3,n4,n5⟩:=xU hc;exact hk c o n1 n3 n4 n5 e
 self:=fun _ _ _ _ _ st h=>qv8 st.1 h
inductive QV[?gZ][?ZF]:Prop
 | mk:∀a b,(vs=?RS)->((∃xs,SqT K H1 a xs))->((∃ys,SqT K H1 b ys))->(R ?qP H1)->?DB
def Aj8[?gZ](ta:TA):TI:=?a32 ?DB
theorem IL:?QO ?iT=?e (?oK):=?hJ
theorem SO{X:Cx}[?aM][?tZ][?D2]{a b:Expr}{ta:TA}{p pos:Pos}(hg:Gl X ?iT)(hm:X.mg ?iT=none)(ha:PA X ?qD ta)(hK:X.K=K:=by rfl)(hs:?fK ?qD ?M=[?W5,?qI]:=by rfl)(hs2:?fK [b] ?M=[?qI]:=by rfl) :
 PI X (?a24 es) (?eY (.Name ?iT p) ?qD [] pos) (Aj8 K ta):=by
 subst hK;intro Ac s σ H R I h;refine Call_ (Kq I hg hm IL (qg2 (Dh (ha pos Ac s σ H _ I h) fun us s1 ⟨vs,H1,I1,r1,q1⟩=>?_) (by rw[hs,hs2]) (by rw[hs2];rfl)));obtain⟨la,lb,e,⟨xs,EV⟩,⟨ys,lZ⟩,q⟩:=q1;subst e;cases r1 with
 | cons ra rr =>
   cases rr with
   | cons rb rr =>
     cases rr;cases ra;cases rb;obtain⟨ia,_,pa,_⟩:=?VE EV;obtain⟨ib,_,pb,_⟩:=?VE lZ;have a1:la<s1.heap.objs.size:=by obtain⟨_,e,_⟩:=pa;exact qc2 e
     have a2:lb<s1.heap.objs.size:=by obtain⟨_,e,_⟩:=pb;exact qc2 e
     refine mR (?a3H ?WC la) (?a3G ?WC lb) fun h' hz hTI hTO hi1 hi2 hsz hk=>?_;refine qv8 hz ⟨?Q2,[?Q2,?a14 2,?a14 3,s1.heap.objs.size,?I2],_,_,H1,rfl,?a4M ?zD hk,kN la lb _ _ _ _ _ (zipApart_new a1 a2),⟨hz,hTI,⟨_,_,hTO⟩,hi1,hi2⟩,I1.fp5,q⟩
section
variable{g:TG}{tc:TT}[?CB]
theorem mP[?X5]
 (hs:∀i x y zs τ H p,xs[i]?=?gI->?OP->?i6->?dE->g ?eO τ (?a0W p (?bJ [x,y])) ?DS)
 [?ZG]:?a3L ?qP tc:=aS (NE:=?JK) O9m O9m O9m Pv h0 hl hs hd
universe e9
section
variable{κ:Type}[?EU κ]
def N5[?mZ]:?d7:=(kvs.find? ?zL).map (·.2)
def Lr[?mZ](v:V):?j4 :=
 if ?rU=true then ?dG (?a0B (?aI,v)) else kvs++[(k,v)]
def Vm[?mZ]:?j4:=kvs.filter fun kv=>?c3 (?aI≠k)
theorem Ws[?ZE](e:?bM):?KK=?e p.2:=?PO
theorem Wt[?ZE](e:¬?bM):?KK=N5 r k:=?PO
theorem DE(k:κ):∀kvs:?j4,?rU=?JM
 | []=>rfl
 | p::r=>by
   rw[qp2];ext jE
   . simp only[Ws e,qf6 e,Bool.true_or,Option.isSome_some]
   . rw[Wt e,qk2 e,Bool.false_or];exact DE k r
theorem O7[?mZ](v:V):?G5<=kvs.length+1:=by
 unfold Lr;split
 . rw[qa3];omega
 . rw[qa9,qc9,qm1];omega
theorem N6.isSome_eq{o:?d7}{u:?lW}(r:N6 o u):o.isSome=u.isSome:=by
 cases o with
 | none=>cases u with
   | none=>rfl
   | some _=>ext tE
 | some _=>cases u with
   | none=>ext tE
   | some _=>rfl
theorem N6.getD{o:?d7}{u:?lW}{d:V}{d':Value}(r:N6 o u)(rd:?aV d d'):?aV (o.getD d) (u.getD d'):=by
 cases o with
 | none=>cases u with
   | none=>exact rd
   | some _=>ext tE
 | some _=>cases u with
   | none=>ext tE
   | some _=>exact r
theorem KV.val[?gR](k:κ):N6 (?dX) (?zV):=by
 unfold KV at r
 induction r with
 | nil=>ext jF
 | @cons p q ps qs h t ih =>
   obtain⟨h1,h2⟩:=h;ext jE
   . have e':q.1=k:=?rF;have b:?H4=?e q.2:=?WE
     rw[Ws e,b];exact h2
   . ext CA;have b:?H4=?xW qs k:=?WE
     rw[Wt e,b];exact ih
theorem KV.any[?gR](k:κ):?rU=?UR:=by
 unfold KV at r
 induction r with
 | nil=>rfl
 | cons h t ih=>rw[qp2,qp2,ih,h.1]
theorem KV.repl[?gR](k:κ)[?CN] :
 KV (?dG (?a0B (?aI,y))) (vs.map (?a0B (?aI,u))):=by
 unfold KV at r ⊢
 induction r with
 | nil=>exact ?b7
 | @cons p q ps qs h t ih =>
   rw[qc8,qc8];refine ?PJ;obtain⟨h1,h2⟩:=h;ext jE
   . rw[?c5,?LZ];exact⟨h1,ry⟩
   . ext YX;exact ?wI
theorem KV.put[?gR](k:κ)[?CN]:KV (Lr kvs k y) (?uL vs k u):=by
 unfold Lr stored;rw[r.any k];by_cases e:(?UR)=true
 . rw[?c5,?c5];exact ?L3
 . rw[?cS,?cS];exact ?O4 r ⟨rfl,ry⟩
theorem KV.drop[?gR](k:κ):KV (?o2) (without vs k):=by
 unfold KV at r ⊢;unfold Vm without
 induction r with
 | nil=>exact ?b7
 | @cons p q ps qs h t ih =>
   obtain⟨h1,h2⟩:=h;rw[qk7,qk7];ext jE
   . have a:¬?GU:=?R6
     have b:¬?VG:=by simp[?rF]
     rw[?f a,?f b];exact ih
   . ext CA;have a:?GU:=?R6
     have b:?VG:=by simp[e']
     rw[?m a,?m b];exact ?cT ?wI ih
theorem KV.keys[?gR]:?dG (·.1)=vs.map (·.1):=by
 unfold KV at r
 induction r with
 | nil=>rfl
 | cons h t ih=>rw[qc8,qc8,ih,h.1]
theorem KV.length[?gR]:kvs.length=vs.length:=?D5 r
theorem fC[?mZ]:(?o2).length<=kvs.length:=qf8 _ _
universe e9
theorem kV_is[?bT]{k:Key}{u:Value}(r:?wL):?S9:=by
 cases k with
 | inl i=>obtain⟨t,e⟩:=(show ?LP from r);subst e;exact EN P w i t
 | inr x=>obtain⟨t,e⟩:=(show ?W9 from r);subst e;exact eN P w x t
theorem aI[?bT]:∀{ks:?gM}{us:?v7},Vals (ks.map kV) us->ItemsAre ?hD ks us
 | [],_,r=>by rw[qy0]at r;cases r;exact ?b7
 | k::ks,_,r=>by
   rw[qc8]at r;cases r with
   | cons h t=>exact ?cT (?p4 h) (aI t)
noncomputable abbrev KT(H:Hp):?l6->?v6->Prop:=Paired fun p q=>p.1=q.1/\H q.2.1=?e (?bJ (p.1.map kV))/\?aV p.2 q.2.2
theorem KT.val{H:Hp}[?t1](k:?gM):N6 (?dX) ((?WB).map (·.2)):=by
 induction r with
 | nil=>ext jF
 | @cons p q ps qs h t ih =>
   obtain⟨h1,_,h2⟩:=h;ext jE
   . have e':q.1=k:=?rF;have b:?L7=?e q.2:=?I5
     rw[Ws e,b];exact h2
   . ext CA;have b:?L7=atKey qs k:=?I5
     rw[Wt e,b];exact ih
theorem KT.repl{H:Hp}[?t1](k:?gM)[?CN] :
 KT H (?dG (?a0B (?aI,y))) (xs.map (putAt k u)):=by
 induction r with
 | nil=>exact ?b7
 | @cons p q ps qs h t ih =>
   rw[qc8,qc8];refine ?PJ;obtain⟨h1,h2,h3⟩:=h;unfold putAt;ext jE
   . rw[?c5,?LZ];exact⟨h1,h2,ry⟩
   . ext YX;exact⟨h1,h2,h3⟩
theorem KT.put{H:Hp}[?t1](k:?gM){b:Addr}{y:V}{u:Value}(hb:?z9)(ry:?pG) :
 KT H (Lr kvs k y) (storedH xs k b u):=by
 have e:?rU=?ID:=by
  rw[DE,(r.val k).isSome_eq,Option.isSome_map]
 unfold Lr storedH;rw[e];by_cases q:?ID=true
 . rw[?m q,?m q];exact ?L3
 . rw[?f q,?f q];exact ?O4 r ⟨rfl,hb,ry⟩
theorem KT.keeps[?d0][?t1](ht:∀b ys,H b=?e (?bJ ys)->H' b=?e (?bJ ys)):KT H' kvs xs :=
 Paired.mapP r fun _ _ z=>⟨z.1,ht _ _ z.2.1,z.2.2⟩
section
variable[?bT]{H:Hp}{h:Heap}{a:Addr}
theorem vF{u:HO}[?jH](e:Rd H a u):?a2M u:=e.ok ok
theorem aQ[?bS][?jH][?CX]:?EV :=
 show ?a2M ?c4 from vF ok e
theorem fD[?bS][?jH][?jB]:?EV:=aQ ok (?x e)
theorem HA{ks:?gM}[?jH](e:H a=?e (?bJ (ks.map kV))):?MZ h ks a:=by
 obtain⟨_,its,r,o,h1,h2,_,n,h3⟩:=(show ?a2M (?bJ (ks.map kV)) from ok a _ e)
 exact⟨o,?kN,n,h1,h2,h3,by simpa using aI r⟩
theorem PZ{kvs:?l6}[?jH](e:?z1):?kJ/\?j3 ∧
 ?PQ:=by
 obtain⟨z,y,xs,r,o,es,ep,h1,h2,h3,h4,h5⟩:=(show ?a2M (.dT kvs) from vF ok e)
 refine⟨z,y,xs,r,o,es,ep,h1,h2,h3,h4,?q7,h5⟩
 have all:∀{l:?l6}{m:?v6},KT H l m->∀x∈m,?MZ h x.1 ?iQ:=by
  intro l m q
  induction q with
  | nil=>intro x hx;exact nomatch hx
  | @cons p q ps qs hq t ih =>
    intro x hx;rcases qc5.mp hx with e | hx
    . subst e;exact HA ok (by rw[←hq.1];exact hq.2.1)
    . exact ih x hx
 exact all r x hx
theorem An9{kvs:?l6}[?jH](e:H a=?e (.dT kvs)):?kJ/\?j3 ∧
 ?PQ:=PZ ok (?x e)
universe e9
def DGet(H:Hp)(a:Addr)(y:V)(r:?d7):Prop :=
 (∃kvs k,?jV/\y=kV k/\r=?dX)\/∃kvs k b,?z1/\y=?eP/\?z9/\r=?dX
def ZO(H:Hp)(a:Addr)(y v:V)(H':Hp):Prop :=
 (∃kvs k,?nK/\y=kV k/\?MX/\H'=?a0W a (.dK (?wB))) ∨
 ∃kvs k b,H a=?e (.dT kvs)/\y=?eP/\?z9/\?MX/\H'=?a0W a (.dT (?wB))
section
variable[?dN]{y v:V}{u r:Value}{o:?d7}[?dO]
theorem Bj.big[?b3]:?a1J sysModules:=by
 have h:?a1J mainGlobals:=(I.mod.glob.keeps I.bk).lt;exact qv0 ?W h
theorem S6{h':Heap}{t':Nat}{ob:HO}[?b3](mu:Mut (H a))(hs:?AJ a ?aD h')(he:?EW)(new:?eZ ?sM X.w (?a0W a ob) h' a ob) :
 Bj X Ac σ (?a0W a ob) { s with heap:=h',toks:=t' } :=
 I.write (x:=a) (e:=a) mu (?x rfl) (fun b q hb z=>(hs.2 b hb).trans z) he new
theorem Ur[?bT]{H':Hp}{h':Heap}[?bS][?CT](z:?kJ)(hd:?j3)(rel:?iY)(dd:?KH ?hD a vs) :
 ?eZ P w H' h' a ?c4:=⟨z,hd,vs,rel,dd⟩
theorem MK{H':Hp}{Q:?NE}(hu:?IY)[?b3](g:ZO H a y v H')(ry:?pG)(rv:?aV v r)(h:∀s',?P7->Q () s') :
 ?a03 ?fQ (setItem ?i0 u r):=by
 rcases g with⟨kvs,k,e,ey,l,eH⟩|⟨kvs,k,b,e,ey,eb,l,eH⟩
 . subst ey eH;ext t7;have hz:?a2O vs.length:=?q1
   ext XU
   refine wpAny_setItem_pairs (hsz:=hz) ?jW dd ?BP;ext BZ
   exact S6 I ?s1 hs he (Ur hl hd (rel.put k rv) HW)
 . subst ey eH;cases (show u=?eL b from ry);obtain⟨z,hd,xs,rel,dd⟩:=An9 ?c7 e;have hz:?a2O xs.length:=by rw[←?D5 rel];exact z
   ext XU
   refine wpAny_setItem_heap (hsz:=hz) (tupleKind_room_in1 hu) (?SJ) dd ?BP;obtain⟨q,es,ep,hq,h2,h3,h4,_,h5⟩:=HW;refine S6 I ?s1 hs ?IQ ⟨hl,hd,_,(rel.put k eb rv).keeps fun c ys ec=>?_,q,es,ep,hq,h2,h3,h4,h5⟩;rw[An (E3 ec e (fun z=>nomatch z))];exact ec
universe e9
section
variable[?dN][?bS]{k:Key}{u:Value}[?dO]
theorem Aa0{Q:?NE}[?b3][?jB][?D1](l:?JM=true)(h:∀s',?FN->Q () s') :
 ?a03 ?fQ (delItem ?i0 u):=by
 ext t7
 refine wpAny_delItem_slot ?f9 ?W ?SI
  (?j5 ?SI ?f9 PySem.F.entry_dict_delitem (PySem.F.args_dict_delitem_2 _ _) (meets_dict_delitem_pairs ?d3 a ?jW) ⟨vs,dd,?q1,by rw[←(rel.val k).isSome_eq];exact l,?BP⟩)
 ext BZ
 ext XH
theorem Ao1{v:V}{more:?v7}[?dP][?b3][?jB][?D1](l:?dX=?i5)(hm:more=[]\/∃x,more=[x])
 (h:∀w' s',?FN->?aV v w'->Q w' s'):?a03 ?fQ (?iM ?PA (?R5)):=by
 ext t7;obtain⟨w',hw,rw'⟩:=N6.some_of (v:=v) (o:=?zV) (?a44 k)
 have hp:?ES:=by
  cases k with
  | inl i=>ext XV
  | inr x=>ext XW
 have ha:argsOk ?T1 ⟨?R5,[]⟩:=by
  rcases hm with q|⟨x,q⟩
  . subst q;exact PySem.F.args_dict_pop_2 _ _
  . subst q;exact ?LR
 refine ?j5 qu7 ?f9 ?RY ha (meets_dict_pop_there ?d3 a ?jW more hm hp)
  ⟨vs,w',dd,?q1,hw,fun h' HW hs=>h w' _ ?_ rw'⟩
 ext BZ
 ext XH
theorem zB{r:Value}[?dP][?b3][?jB][?D1](l:?TS)(h:∀s',?QH->Q r s') :
 ?a03 ?fQ (?iM ?PA ?IJ):=by
 ext t7;have hn:?zV=none:=N6.none_of (?a44 k)
 have hp:?ES:=by
  cases k with
  | inl i=>ext XV
  | inr x=>ext XW
 exact ?j5 qu7 ?f9 ?RY (?LR) (meets_dict_pop_default ?d3 a ?jW hd hp r) ⟨vs,dd,hn,h _ (I.tok _)⟩
universe e9
inductive IsDPut(D:Ends)(σ:St)(v:V)(x:V)(y:V)(H3:Hp):Prop
 | mk:∀a H4,(x=?b9)->(ZO H3 a y v H4)->(D.nx σ H4)->?IX
def Af5(td ty tv:TE):TS:=fun D σ H=>tv σ H fun v H1=>td σ H1 fun x H2=>ty σ H2 fun y H3=>?IX
section
variable{X:Cx}{o i e value:Expr}{pos pos' tpos:Pos}{td ty tv:TE}
theorem sJ(hu:?GA)(ho:?VZ)(hi:PE X i ty)(hv:PE X value tv)(hs:swapsWith value (?e (?FI)) pos.line ?M=pure ?dA) :
 PS X (.Assign [?FI] value pos) (Af5 td ty tv):=by
 intro Ac s σ H D I h;refine wpAny_Assign_Subscript (Dh (?a4S hv) fun r s1 ⟨v,H1,I1,rv,q1⟩=>Dh (?a0S ho) fun u s2 ⟨x,H2,I2,rx,q2⟩=>Dh (hi Ac s2 σ H2 _ I2 q2) fun iv s3 _z=>?_) hs;obtain⟨y,H3,I3,ry,a,H4,ex,g,q3⟩:=_z;subst ex;obtain rfl:u=?eL a:=rx;exact MK hu I3 g ry rv fun s4 I4=>⟨σ,H4,I4,q3⟩
universe e9
theorem dk_empty[?bT]{H:Hp}(h:Heap)(hb:sysModules<h.objs.size):?eZ P w H (h.push ?LY) ?Q0 (?iZ) :=
 ⟨?b1,?a26 hb,[],?b7,?O3 h⟩
def WZ:TE:=fun _ H Q=>?a4U (?iZ)
section
variable[?tV]
theorem Si:PE X (.Dict [] [] pos) WZ:=fun Ac s σ H Q I h =>
 wpAny_Dict_empty ⟨?dU,_,?nZ (a:=s.heap.objs.size) (o:=?iZ) (t':=s.toks) (fun _ _ q=>?a1P q) ?i (dk_empty ?aD I.big),rfl,h _ (?mW ?i)⟩
universe e9
def tPairs:?kP->St->Hp->(?KT)->Prop
 | [],_,H,Q=>Q [] H
 | (tk,tv)::r,σ,H,Q=>tk σ H fun x H1=>tv σ H1 fun y H2=>?AR r σ H2 fun ps H3=>Q (?N7) H3
noncomputable abbrev VV:?a1L V V->?a1L Value Value->Prop:=Paired fun p q=>?aV p.1 q.1/\?aV p.2 q.2
def PPs(X:Cx)(pos:Pos)(keys:?xU)(values:?g3)(rO:?kP):Prop :=
 ∀(Ac:Bg) (s:Shared) (σ:St) (H:Hp) (Q:?KT),?P0->?AR rO σ H Q →
   ?t ?fQ X.A (evalPairs (pairTrees keys ?z2 ?M pos)) (fun vs s'=>∃ps H',?P7/\VV ps vs/\Q ps H') X.xe s
theorem jH[?tV]:PPs X pos [] [] []:=fun Ac s σ H Q I h=>pairTrees_nil_walk ⟨[],H,I,?b7,h⟩
theorem Xv[?tV]{k v:Expr}{ks:?xU}{vs:?g3}{tk tv:TE}{rO:?kP}(hk:PE X k tk)(hv:PE X v tv)(hr:PPs X pos ks vs rO) :
 PPs X pos (?e k::ks) (v::vs) ((tk,tv)::rO):=fun Ac s σ H Q I h =>
 pairTrees_cons_walk (Dh (?a4S hk) fun u s1 ⟨x,H1,I1,rx,q1⟩=>Dh (?a0S hv) fun w2 s2 ?yU =>
  Dh (hr Ac s2 σ H2 _ I2 q2) fun ws s3 ⟨ps,H3,I3,rel,q3⟩=>⟨?N7,H3,I3,?cT ⟨rx,ry⟩ rel,q3⟩)
def G7(kvs more:?bW):?bW:=more.foldl (fun acc kv=>Lr acc ?aI kv.2) kvs
theorem KV.merge:∀{more:?bW}{rs:?o4}[?bS][?CT],KV more rs->?iY->KV (?BF) (merged vs rs):=by
 intro more rs kvs vs r;unfold KV at r
 induction r generalizing kvs vs with
 | nil=>intro q;exact q
 | @cons p q ps qs h t ih =>
   intro r0
   have e:KV ?p2 (?uL vs q.1 q.2):=by
    have:=r0.put p.1 h.2;rw[←h.1];ext aN
   exact ih e
theorem Lx:∀(more kvs:?bW),(?BF).length<=kvs.length+more.length
 | [],kvs=>by show kvs.length<=kvs.length+0;omega
 | p::r,kvs=>by
   have h1:=Lx r ?p2;have h2:=O7 kvs p.1 p.2;show(G7 ?p2 r).length<=_;rw[qc9];omega
theorem Zk[?bT]:∀[?bS]{ws:?a1L Value Value},VV (?dG ?L5) ws->∃rs,Carries ?hD ws rs/\KV kvs rs
 | [],_,r=>by rw[qy0]at r;cases r;exact⟨[],True.intro,?b7⟩
 | p::kvs,_,r=>by
   rw[qc8]at r;cases r with
   | @cons a b as bs h t =>
     obtain⟨rs,c,q⟩:=Zk (P:=P) (w:=w) t;obtain⟨b1,b2⟩:=b;exact⟨(p.1,b2)::rs,⟨?p4 h.1,rfl,c⟩,?cT ⟨rfl,h.2⟩ q⟩
def Ae6(rO:?kP):TE:=fun σ H Q=>∀p,?dE->?AR rO σ (?a0W p (?iZ)) fun ps H2=>H2 p=?e (?iZ)/\∃kvs:?bW,ps=?dG (?L5)/\kvs.length<=15/\Q ?eO (upd H2 p (.dK (?m4)))
theorem JI[?tV]{keys:?xU}{values:?g3}{rO:?kP}(h:PPs X pos keys ?z2 rO)(hall:keys.all (·.isSome)=true)(hl:keys.length=values.length)(h0:keys≠[])
 (h15:keys.length<=15):PE X (.Dict keys ?z2 pos) (Ae6 rO):=by
 intro Ac s σ H Q I q;have hn:=?mW (qa2 ?X);have I1:=?nZ (a:=s.heap.objs.size) (o:=?iZ) (h':=?oY) (t':=s.toks) (fun _ _ q=>?a1P q) ?i (dk_empty ?aD I.big);refine wpAny_Dict_walk (knd:=?A0) hall hl h0 h15 (Dh (h Ac _ σ _ _ I1 (q _ hn)) fun ws s2 _z=>?_);obtain⟨ps,H2,I2,rel,e,kvs,ep,lk,q2⟩:=_z;subst ep;obtain⟨rs,c,rk⟩:=Zk (P:=X.prog) (w:=X.w) rel;obtain⟨z,hd,vs0,r0,dd⟩:=fD I2.hok e;cases r0;refine⟨rs,c,dd,fun h' HW hs=>⟨?dU,_,?_,rfl,q2⟩⟩
 have hz:?UM:=by
  have h1:=?S2;rw[qm1]at h1;rw[sizeLine_eq];omega
 have he:∃q,?m8 ?X=?e q:=?R9
 exact S6 I2 ?s1 hs he (Ur hz hd (rk.merge ?b7) HW)
structure M2(X:Cx)(o:Expr)(m:Str)(apos:Pos)(e f:Expr)(cpos:Pos):Prop where
 base:?SU o m ?M (?QJ)=?QJ
 few:((?ND).all (fun x=>!x.1)&&(?QZ ?fR (keywordEach [] ?M)).all (fun x=>x.1.isSome)
  && ?c3 ((?pS:?g3).length+([]:?JJ).length+(if ([]:?JJ).isEmpty then 0 else 1)<30))=true
 line:?QU
 trees:?ND=[?VW,(?dA,?eE f ?M)]
def IsD(H:Hp)(a:Addr):Prop:=(∃kvs,?jV)\/∃kvs,?z1
theorem pK[?dN][?b3](d:IsD H a) :
 ?B9 ?i0 ?f5/\(∀b,?eL a=?eP->∃ob,?MU/\ob.dict=none)/\?j3:=by
 rcases d with⟨kvs,e⟩|⟨kvs,e⟩
 . obtain⟨_,hd,vs,_,dd⟩:=?mO;ext X8
 . obtain⟨_,hd,xs,_,dd⟩:=?TG;ext X8
section
variable[?dN]{y d:V}{u r:Value}{o:?d7}[?dO]
theorem zD[?dP](hu:?IY)[?b3](g:DGet H a y o)(ry:?pG)(rd:?aV d r)(h:∀w' s',?QH->?aV (o.getD d) w'->Q w' s') :
 ?a03 ?fQ (?iM (?eI "dict.get") ?IJ):=by
 rcases g with⟨kvs,k,e,ey,l⟩|⟨kvs,k,b,e,ey,eb,l⟩
 . subst ey;obtain⟨z,hd,vs,rel,dd⟩:=?mO;refine ?j5 qu8 ?f9 ?SH (?a3K _) (meets_dict_get_default ?d3 a ?jW hd r) ⟨_,dd.mapOf,?WO⟩;rw[l];exact(rel.val k).getD rd
 . subst ey;cases (show u=?eL b from ry);obtain⟨z,hd,xs,rel,dd⟩:=?TG;refine ?j5 qu8 ?f9 ?SH (?a3K _) (meetsH_dict_get_default (?wM ?d3) a b hd r) ⟨tupleKind_room_in1 hu,k,xs,?SJ,dd,?WO⟩;rw[l];exact(rel.val k).getD rd
universe e9
inductive ItDGet2(ty:TE)(tx:TE)(σ:St)(Q:VK)(x:V)(H1:Hp):Prop
 | mk:∀a,(x=?b9)->(?OX)->(ty σ H1 fun y H2=>tx σ H2 fun z H3=>∃o,DGet H3 a y o/\Q (o.getD z) H3)->?IN
def xA(td ty tx:TE):TE:=fun σ H Q=>td σ H fun x H1=>?IN
def wZ(td ty tx:TE):TE:=fun σ H Q=>td σ H fun x H1=>∃a,x=?b9/\?OX/\ty σ H1 fun y H2=>tx σ H2 fun z H3=>∃kvs k,H3 a=?e ?c4/\y=kV k ∧
 (∀v,?dX=?i5->Q v (upd H3 a (.dK (?o2))))/\(?TS->Q z H3)
section
variable{X:Cx}{o e f:Expr}{apos cpos:Pos}{td ty tx:TE}
theorem X0(hu:?GA)[?Z4](m:M2 X o "get" ?g1 e f ?fR):?a1I "get" xA:=by
 intro Ac s σ H Q I h;refine ?a0A qu8 PySem.F.type_dict_get;ext X6
 refine qn6 rfl (qs1 (qq2 (Dh (?a0S he) fun iv s2 ?yU =>
  ?a0D ⟨z,H3,I3,rz,ov,g,q3⟩)))
 exact zD hu I3 g ry rz fun w' s4 I4 rw'=>⟨_,H3,I4,rw',q3⟩
theorem oF[?Z4](m:M2 X o "pop" ?g1 e f ?fR):?a1I "pop" wZ:=by
 intro Ac s σ H Q I h;refine ?a0A qu7 PySem.F.type_dict_pop;ext X6
 refine qn6 rfl (qs1 (qq2 (Dh (?a0S he) fun iv s2 ?yU =>
  ?a0D ⟨z,H3,I3,rz,kvs,k,ea,ey,q3,q4⟩)))
 subst ey;cases l:N5 kvs k with
 | some v=>exact Ao1 I3 ea ry l (?F ⟨fv,rfl⟩) fun w' s4 I4 rw'=>⟨v,_,I4,rw',q3 v l⟩
 | none=>exact zB I3 ea ry l fun s4 I4=>⟨z,H3,I4,rz,q4 l⟩
universe e9
section
variable[?dN][?bS][?dO]
theorem QC[?dP][?b3][?CX](h:∀p s',?dE->?a0J (upd H p ?c4) s'->Q ?eO s'):?a03 ?fQ (?iM (?a1 ?f5) [?b9]):=by
 obtain⟨z,hd,vs,rel,dd⟩:=?mO;refine kt_call_dict hd dd (?q1) fun h' HW hs=>?_;refine h _ _ (?mW ?i) (?nZ (a:=s.heap.objs.size) (o:=?sL) (t':=s.toks) (fun b q hq=>?_) ?i (Ur z (?a26 I.big) rel HW));exact(hs.2 b (?a2H hq)).trans (?a1P hq)
universe e9
section
variable[?dN]{y:V}{u:Value}[?dO]
universe e9
section
variable{X:Cx}
universe e9
universe L2
namespace L2
open PySem PySem.Spec PyProof.Rows PySem.SeqAt
def cK[?bR]:?bW:=?oU fun p=>(Sum.inl p.1,?bI p.2)
def Cu[?bR](k:Int):?lD Int:=(ms.find? ?oE).map (·.2)
universe L2
namespace L2
open PySem PySem.Spec PyProof.Rows
section
variable[?tO][?dO]
theorem BW:typeLookup (?A6) ?u6=pure ?aF:=am_miss_of_fast ?sQ
theorem Yo{s:Shared}{a:Addr}{xs:?i8}{k:Nat}[?CJ]
 (hx:?k3 a=?e { cls:=?A6,data:=?h6 xs k }) (hA:?BA)
 (h:∀h' tk,(∀b o,?qY->?m8 b=?Q)->Q ?aF ?r6) :
 ?a03 ?e7 (getAttr? ?i0 ?u6):=by
 obtain⟨hp,g,d,tk,os⟩:=s;have hT:∀tk',(⟨hp,g,d,tk',os⟩:Shared).TypeIs ?i0 ?w5:=fun _=>(?a1B hx)
 have f1:=sub_AttributeError;have f3:=F.slot_list_getattribute.lookup;have f4:=F.slot_list_getattribute.bind ?i0;have f5:=am_list_getattr_none;unfold getAttr? getAttrBy? getAttrBy
 repeat (any_goals (first | assumption | exact hT _ | ((with_reducible show ?ZP (?iM (Value.builtin "list.__getattribute__") _ _) _);refine ?RE F.slot_list_getattribute (hT _) am_entry_list_getattribute (F.args_list_getattribute_2 _ _) (meets_getattribute_miss_list a xs k #[] ?u6 _ BW (?hJ)) ⟨hx,hA,fun h' tk' e hx'=>?_⟩) | wp_step))
 obtain⟨t',u',he⟩:=hx'.there;show ?t _ _ (getattributeRaised _ _ _ _ _ _ _) _ _ _;unfold getattributeRaised
 repeat (any_goals (first | assumption | wp_step))
 exact h _ _ hx'.keeps
theorem K9:plainId ?xZ=true:=?hJ
theorem Vl:?JF table ?xZ=?e Builtin.«dict.update.loop»:=entryFor_of_fast ?sQ
variable{KT:Type}[?EU KT]{knd:KeyKind prog w KT}
def Aq8(d it:Addr)(h0 h:Heap):Prop:=∀b o,b≠d->b≠it->h0.get? b=?Q->h.get? b=?Q
theorem mJ(hh:?BA){d it l:Addr}{items:?i8}{prs:?P5}(hl:prs.length=items.size)(ndi:d≠it)(nld:l≠d)(nli:l≠it){h0:Heap}(hL:h0.IsList l items)
 (hP:∀(i:Nat) (x:Value),?DY=?gI->∃(p:?SW) (t:Addr) (key:Value),?TW/\x=?kO/\t≠d/\t≠it/\h0.IsTuple t ?zO/\knd.is p.1 key=true) {R:Result->?lO} :
 ∀(n i:Nat) (s:Shared) (acc:?P5),prs.length-i=n->i<=prs.length->acc.length+n<=sizeLine->s.heap.DictOf knd d acc->s.heap.IsListIter it l i->Aq8 d it h0 ?aD →
   (∀h' tk,?KH knd d (merged acc (?p3 i))->Aq8 d it h0 h'->R (.ok (.ret ?aZ)) ?r6) →
   codeAny ?e7 A (?eI ?xZ ⟨[?h d,?h it,?yB i,?aZ],[]⟩) R s:=by
 intro n
 induction n with
 | zero =>
   ext X3
   have hx:?DY=none:=?o5
   ext YZ;refine qa7 (wpAny_pyNext_list_end hh hit hLs hx fun h' he=>?_);show ?ZP (Builtin.Dict.addKeywords d []>>=_) _;refine qa7 ?F3;have e:?p3 i=[]:=?o5
   have k':=k h' s.toks (by rw[e];exact hd.extBut he ndi) fun b o n1 n2 q=>he b o n2 (hb b o n1 n2 q);exact k'
 | succ n ih =>
   ext X3
   have hlt:i<items.size:=O9m
   obtain⟨p,t,key,hp,ex,ntd,nti,hT,hkey⟩:=hP i ?V1 (?BU);ext YZ;refine qa7 (wpAny_pyNext_list_item hit hLs (x:=?V1) (?BU) fun h1 A58 hs1=>?_);rw[ex];have hT1:h1.IsTuple t ?zO:=let ?V0:=hT;⟨o,(hs1.2 t nti).trans (hb _ _ ntd nti ho),r⟩
   have hd1:?SD knd d acc:=hd.sameBut hs1 ndi;obtain⟨o,ho,hc,m,hdat⟩:=hT1;refine ?a1W qv5;refine ?a1W wpAny_tryCatch;unfold Builtin.Dict.pairItems;refine qa7 (?QF (show((?O6:Shared).TypeIs (?kO) "tuple") from⟨o,ho,hc⟩) ?_);rw[?m ?W];refine qa7 (qn4 ho hdat ?qE);show ?ZP (holding [key,p.2] (dictSet d key p.2)) _;refine qv5 (wpAny_dictSet_pairs (s:=?O6) hkey hd1 (fun h2 hd2 hs2=>?_) O9m);refine ?a35 _
   have e2:?p3 i=p::?p3 ?g:=by
    rw[qo0 ?c]
    congr 1
    rw[qa0 ?c]at hp;exact qb6 hp
   have hl2:=stored_length_le acc p.1 p.2;refine ih ?g { s with heap:=h2,toks:=s.toks+1 } (?uL acc p.1 p.2) O9m O9m O9m hd2 ?_ (fun b o' n1 n2 q=>?_) (fun h' tk hd' hb'=>k h' tk (by rw[e2];exact hd') hb')
   . obtain⟨oi,hoi,ri⟩:=A58;exact⟨oi,(hs2.2 it (?r7 ndi)).trans hoi,ri⟩
   . exact(hs2.2 b n1).trans ((hs1.2 b n2).trans (hb b o' n1 n2 q))
universe e9
theorem vals_pair{x y:V}{us:?v7}(r:Vals [x,y] us):∃a b,us=?qD/\?aV x a/\?aV y b:=by
 cases r with
 | cons h1 r =>
   cases r with
   | cons h2 r =>
     cases r;exact⟨_,_,rfl,h1,h2⟩
theorem dX[?bT]{H:Hp}{h:Heap}(hok:?PU):∀[?ZA],?OI->(?a08 t) →
 ∃prs:?o4,KV kvs prs/\prs.length=ts.length/\∀(i:Nat) t,?r0->∃(p:?WT) (key:Value),?TW/\h.IsTuple t ?zO/\?KP p.1 key=true
 | [],[],_,_=>⟨[],?b7,rfl,fun i t e=>?PM⟩
 | [],_::_,hl,_=>?O9
 | _::_,[],hl,_=>?O9
 | t::ts,kv::kvs,hl,hk=>by
   obtain⟨prs,h1,h2,h3⟩:=dX hok ts kvs (by simpa using hl) fun i t e=>by
    obtain⟨kv',e1,e2⟩:=hk ?g t (?hO);exact⟨kv',?kB,e2⟩
   obtain⟨kv',e1,e2⟩:=hk 0 t rfl;have e1':kv=kv':=?kB
   subst e1';obtain⟨_,its,rv,o,ho,hc,hdn,n,hd⟩:=hok t _ e2;obtain⟨a,b,rfl,ra,rb⟩:=vals_pair rv;refine⟨(kv.1,b)::prs,.cons ⟨rfl,rb⟩ h1,by simp[h2],fun i t' e=>?_⟩;cases i with
   | zero =>
     have:t=t':=?hO
     subst this;exact⟨(?aI,b),a,rfl,⟨o,ho,hc,n,hd⟩,?p4 ra⟩
   | succ i =>
     obtain⟨p,key,q1,q2,q3⟩:=h3 i t' (?hO);exact⟨p,key,by simpa using q1,q2,q3⟩
inductive kH[?CV]:Prop
 | mk:∀(p:Addr) [?ZA],(?z4)->(?a4Y p (ts.map V.ref))->(?OI)->((?a08 t))->(∀D,?xV->Q ?kK (?a0W D (.dK (?m4))))->?TI
def XI:?s0:=fun xs H Q=>?TI
theorem Zl{X:Cx}(hc:?zW):Fd X (?a1 ?f5) XI:=by
 ext tF;obtain⟨l,ts,kvs,rfl,hl,hlen,hk,q⟩:=h;obtain⟨u,rfl,ru⟩:=U5 r;cases ru;have hh:?H0:=?xO;obtain⟨hz,its,n,rv,ho⟩:=?c7 l _ hl;rw[qa3]at hz;have hil:its.length=ts.length:=by rw[←rv.length,qa3]
 obtain⟨prs,hkv,hpl,hP⟩:=dX ?c7 ts kvs hlen hk
 have at_:∀(i:Nat) (x:Value),?FC=?gI->∃t,?r0/\x=?kO:=fun i x e=>by
  have e':its[i]?=?gI:=?hO
  have hlt:?EE:=?W0;have hb:ts[i]?=?e (ts[i]'(O9m)):=?KZ
  obtain⟨u,hu,ru⟩:=?a0X V.ref ts;rw[e']at hu;cases hu;cases ru;exact(?a1B hb)
 refine callType_codes (Q₁:=fun obj s₁=>obj=?dU/\s₁=?K8) PySem.F.kt_called_dict (PySem.F.kt_typeCall_dict_1 _) PySem.F.entry_dict_init (kt_code_dict_new _ ?S6) ?_;rintro obj s₁ ⟨rfl,rfl⟩;have hnew:(?oY).DictOf ?d3 ?X []:=?O3 ?aD;refine⟨?GO,PySem.F.args_dict_init_2 _ _,?_⟩;unfold Builtin.«dict.__init__»;refine ?jY;unfold Builtin.Dict.selfAndRest;refine qa7 (wpAny_notOrdered_dict ?GO ?_);show ?ZP (pure (?X,[?eL l])) _;refine ?sJ;show ?ZP (Builtin.Dict.updateFrom "dict.__init__" ?X (?qW) [] ?aZ) _;unfold Builtin.Dict.updateFrom;have ho1:(?oY).get? l=?e { cls:=?A6,data:=?h6 ?kN n }:=?a1P ho;refine qa7 (?QF (show((?K8:Shared).TypeIs (?qW) ?w5) from(?a1B ho1)) ?_);rw[?m ?W];refine qa7 (Yo ho1 hh fun h1 tk hk1=>?_);rw[?m (show(none:?lW).isNone=true from rfl)];refine ?a1W ?w7;have hl1:h1.IsList l ?kN:=⟨_,?LO,rfl,n,rfl⟩
 refine qa7 (qu5 hl1 ?_);refine ?a35 _;have lt0:?a1J l:=qc2 ho;have nD:∀b o,?qY->?P9:=fun b o e=>?KX;have up:∀b o,?qY->h1.get? b=?Q:=fun b o e=>hk1 _ _ (?kA);have nI:∀b o,?qY->b≠h1.objs.size:=fun b o e=>?a2H (up b o e);obtain⟨oD,esD,epD,hoD,rD⟩:=id hnew;have Fq:?SD ?d3 ?X []:=⟨oD,esD,epD,?HZ,rD⟩
 have ndi:s.heap.objs.size≠h1.objs.size:=?a2H (?HZ)
 refine mJ (knd:=?A0) (?a3B none) (prs:=prs) (items:=its.toArray) (l:=l) (d:=s.heap.objs.size) (it:=h1.objs.size) (h0:=h1.push { cls:=?a1 "list_iterator",data:=?gH #[?qW,?uK] }) (?o5) ndi (nD _ _ ho) (nI _ _ ho)
  ⟨_,?a1P (?LO),rfl,n,rfl⟩ (fun i x e=>?_) prs.length 0 _ [] O9m O9m ?_ (Fq.push _) ?w3 (fun b o _ _ e=>e) (fun h' tk' hd' hb'=>?_)
 . obtain⟨t,e1,rfl⟩:=at_ i x e;obtain⟨p,key,e2,⟨o,ho',r'⟩,e4⟩:=hP i t e1;exact⟨p,t,key,e2,rfl,nD _ _ ho',nI _ _ ho',⟨o,?a1P (up _ _ ho'),r'⟩,e4⟩
 . have e0:([]:?o4).length=0:=rfl;omega
 . refine⟨rfl,?dU,?a0W ?X (.dK (?m4)),?_,rfl,q _ (?mW ?i)⟩
   have hzz:?UM:=by
    have h1:=?S2;rw[qm1]at h1;omega
   refine ?nZ (a:=s.heap.objs.size) (o:=.dK (?m4)) (t':=tk') (fun b o e=>hb' b o (nD _ _ e) (nI _ _ e) (?a1P (up _ _ e))) ?i (Ur hzz (?a26 I.big) (hkv.merge ?b7) ?_);simpa using hd'
theorem Ng:∀(more kvs:?bW),((?FU).map (·.1)).Nodup->?BF=?FU
 | [],kvs,_=>by simp[G7]
 | p::more,kvs,h=>by
   have hnot:(kvs.any fun kv=>?c3 (?aI=p.1))=false:=by
    rw[List.any_eq_false];intro kv hkv hd;have e:?aI=p.1:=by simpa using hd
    rw[qb8,qx4]at h;exact h.2.2 ?aI (qm6 hkv) p.1 ?cQ e
   have e:?T9=?QA:=by
    unfold Lr;rw[?f (by rw[hnot];decide)]
   show G7 ?p2 more=_;rw[e,Ng more (?QA) (by simpa using h)];simp
universe L2
namespace L2
open PySem PySem.Spec PyProof.Rows PySem.SeqAt
universe L2
namespace L2
open PySem PySem.Spec PyProof.Rows
section
variable[?dN][?bS]
theorem Bj.freeze[?b3][?jB]:∃o,?a0J (?oV) s:=by
 obtain⟨z,y,vs,r,o,es,ep,ho,c⟩:=id (?U6);refine(?a3Z o);have ne:∀b u,?rJ->u≠?sL->b≠a:=?GK
 have up:∀b u,?rJ->u≠?sL->upd H a (?k8) b=?e u:=?PW
 refine I.step (g':=s.gens) (t':=s.toks) (d':=s.drawn) (h':=s.heap) (H':=?oV) (ch:=[]) (fun _ q=>nomatch q) (fun b ob _ _ _ q _=>q) (fun b ob _ _ _ q _=>⟨?PF,q⟩) (fun b ob _ q n=>?PE) (fun b ob _ q=>⟨ob,q⟩)
  (fun b xs q=>?uP) (fun b ob u q=>?uP) (fun b ps q=>⟨#[],by rw[?uP];simp⟩) (fun m q=>q) (?LF) ?yX
 by_cases hb:b=a
 . subst hb;rw[Ab]at q;cases q;exact⟨ho,(?KC).stay (fun _ _ _ q=>q) (fun c q=>?p1) ?yZ⟩
 . rw[An hb]at q;ext X7
theorem Bj.thaw{o:Obj}[?b3][?ZI](hb:?H6):?a0J (upd H a ?c4) s:=by
 have ne:∀b u,?rJ->u≠?k8->b≠a:=?GK
 have up:∀b u,?rJ->u≠?k8->?EQ=?e u:=?PW
 have no:∀b,?a3M b->?EQ=none:=fun b n=>?PE
 refine⟨I.ok,I.os,?yX,⟨I.base.keep,I.base.slot,fun b ob q n x=>no b (I.base.free b ob q n x),I.base.there,fun b xs q=>up b _ (I.base.tups b xs q) ?aC,fun b ob u q=>?_,fun b ps q=>?_⟩,I.loc,I.cell,no _ I.free,fun x c q=>no _ (I.freeC x c q),fun p hp=>?_,?LF,I.len⟩
 . have hne:b≠a:=fun z=>hb ob u (z▸q);rw[An hne];exact ?V5 b ob u q
 . obtain⟨m,q'⟩:=I.base.tbls b ps q;exact⟨m,up b _ q' ?aC⟩
 . obtain⟨p1,p2,p3⟩:=I.pin p hp;exact⟨p1,no _ p2,p3⟩
 . by_cases hba:b=a
   . subst hba;rw[Ab]at q;cases q;obtain⟨_,q'⟩:=?KC;exact q'.stay (fun _ _ _ q=>q) (fun c q=>?p1) ?yZ
   . rw[An hba]at q;ext X7
theorem Bj.notfrz[?b3][?jB]:?H6:=fun ob u q=>by
 have:=?V5 a ob u q;rw[e]at this;cases this
theorem Bj.nodupK[?b3][?CX]:(?dG (·.1)).Nodup:=by
 obtain⟨z,hd,vs,rel,o,es,ep,_,_,_,_,_,hn⟩:=?mO;rw[rel.keys];exact hn
universe e9
def tFrz(t:TE):TE:=fun σ H Q=>t σ H Q\/∃(a:Addr) (kvs:?bW),?nK/\((?dG (·.1)).Nodup->∀o:Obj,t σ (?oV) fun v H'=>?m2/\Q v ?mP)
def Ay9(t:TS):TS:=fun D σ H=>t D σ H\/∃(a:Addr) (kvs:?bW),?nK/\((?dG (·.1)).Nodup->∀o:Obj,t ⟨?a15 D.nx,fun v H'=>?m2/\D.rt v ?mP,
 ?a15 D.bk,?a15 D.ct⟩ σ (?oV))
theorem OE{X:Cx}{e:Expr}{t:TE}(h:PE X e t):PE X e (tFrz t):=by
 intro Ac s σ H Q I hw;rcases hw with hw|⟨a,kvs,ea,hw⟩
 . exact h Ac s σ H Q I hw
 . obtain⟨o,I'⟩:=I.freeze ea;have hb:=I.notfrz ea;refine Dh (h Ac s σ _ _ I' (hw (I.nodupK (?x ea)) o)) fun u s' ⟨v,H',I2,r,e2,q⟩=>⟨v,_,?vZ,r,q⟩
theorem gP{X:Cx}{st:Stmt}{t:TS}(h:PS X st t):PS X st (Ay9 t):=by
 intro Ac s σ H D I hw;rcases hw with hw|⟨a,kvs,ea,hw⟩
 . exact h Ac s σ H D I hw
 . obtain⟨o,I'⟩:=I.freeze ea;have hb:=I.notfrz ea;refine Dh (h Ac s σ _ _ I' (hw (I.nodupK (.inl ea)) o)) fun f s' hq=>?_;cases f with
   | next=>ext C0
   | brk=>ext C0
   | cont=>ext C0
   | ret u=>obtain⟨v,σ',H',I2,r,e2,q⟩:=hq;exact⟨v,σ',_,?vZ,r,q⟩
theorem HM[?dN][?bS]{o:Obj}[?b3][?ZI] :
 ?k3 a=?Q/\?j3/\?kJ/\∃vs es ep,?iY/\?FE/\es.size=kvs.length/\o.ExactDict/\s.heap.DictAt ?d3 a vs ep:=by
 obtain⟨ho,z,y,vs,r,o',es,ep,ho',ex,hd,hk,hp,hn⟩:=?U6;rw[ho]at ho';cases ho';refine⟨ho,y,z,vs,es,ep,r,hd,?_,ex,⟨o,es,ho,ex,hd,hk,hp,hn⟩⟩;rw[r.length,←hp.length];simp
theorem KV.getV:∀[?bS][?CT]{i:Nat}{k:Key}{v:V},?iY->?kU->∃u,vs[i]?=?e (k,u)/\?aV v u
 | _,_,i,k,v,?b7,e=>?PM
 | _,_,0,k,v,?cT (b:=q) r t,e=>by
   simp only[List.getElem?_cons_zero,Option.some.injEq]at e;subst e;obtain⟨k',u⟩:=q;have e1:k=k':=r.1;subst e1;exact⟨u,?dD,r.2⟩
 | _,_,i+1,k,v,?cT r t,e=>by
   obtain⟨u,e1,e2⟩:=KV.getV (i:=i) t (?hO);exact⟨u,?kB,e2⟩
theorem Aj7[?bT]{k:Key}{u:Value}(h:?S9):?wL:=by
 rcases Do h with⟨i,t,rfl,rfl⟩|⟨x,t,rfl,rfl⟩
 . exact ?H3
 . exact ?H3
def zL(d:Addr)(o:Obj):It :=
 ⟨fun i H=>∃kvs k v,?lH/\?kU,
  fun i H x H'=>∃p k v,?dE/\x=?aT/\H'=?w2/\∀kvs,?lH->?kU,
  fun i H=>∃kvs,?lH/\kvs.length<=i⟩
theorem Vx[?tO][?dO]{s:Shared}{it d:Addr}{i n ep:Nat}{ok ov:Value}[?dP](hit:?EB ?aD it d i n ep ok ov)(h:Q ?kD s):?a03 ?e7 (pyIter ?kD):=by
 have hT:?B9 ?kD ?TQ:=(?a1B hit)
 refine wpAny_pyIter_slot hT qw1 (qm9 qw1 hT (entryFor_alias (id':="dict_keyiterator.__iter__") ?sQ rfl (?hJ) ?sQ:?JF table "dict_itemiterator.__iter__"=?e Builtin.«dict_keyiterator.__iter__») ?_ (PySem.F.args_dict_itemiterator_iter_1 _));show ?ZP (ret ?kD) s;exact qe2 ⟨_,rfl,?TQ,_,hT,PySem.F.slot_dict_itemiterator_next.lookup,h⟩
theorem GD[?bT][?aM]{tes:?g3}[?D2](d it:Addr)(o:Obj){es:Array DictEntry}{ep:Nat}(hd:?FE) :
 U1 P w K (?a24 tes) (?fT) ?j0 it (fun i h=>∃ok ov,?EB h it d i es.size ep ok ov) where
 mem:=?dD
 obj:=fun i h st b hb=>by
  obtain⟨ok,ov,h1⟩:=st;have z:b=it:=?fP
  subst z;exact⟨_,h1,fun v q=>by cases (show Data.fields _=Data.cell v from q)⟩
 keep:=fun i h h' st k=>by
  obtain⟨ok,ov,h1⟩:=st;exact⟨ok,ov,k it ?cQ _ h1⟩
 item:=by
  ext j6;ext CO;obtain⟨kvs,k,v,hz,hx⟩:=hg;ext XJ;obtain⟨u,hu,ru⟩:=rel.getV hx;ext YF
  have fi:=?OK;have lti:?a1J it:=qc2 hit;have hfresh:?a3M ?X:=?mW ?i;rw[hn]at hit;refine wpAny_pyNext_items_item hit hm hu fun key h' hkey hout htup hsz' hk=>?_;refine⟨_,rfl,wpAny_letOwnedTupleGo_items hout fun h3 hen Qj=>?_⟩
  replace Qj:?AJ it h' h3:=Qj
  have kk:∀b ob,b ∉ ?j0->?MU->h3.get? b=?rD:=fun b ob n z=>by
   have n1:b≠it:=by simpa using n
   exact(Qj.2 b n1).trans (hk b ob n1 z)
  have ht3:h3.get? ?X=?e { cls:=?rP,data:=?h6 #[key,u] }:=(Qj.2 _ (qn0 lti)).trans htup;have vH:∀c ob,H c=?rD->c ∉ ?j0:=fun c ob e hm=>by rw[(hf c hm).1]at e;cases e
  have OP:∀b ob,H b=?rD->?P9:=fun b ob z=>At z hfresh;refine⟨?dU,?JI,?_,rfl,⟨?X,k,v,hfresh,rfl,rfl,fun kvs' q=>by rw[hz]at q;cases q;exact hx⟩,⟨_,_,by rw[hn];exact hen⟩,?p5⟩
  . refine Bj.step (s:=s) (h':=h3) (t':=s.toks) (H':=?JI) I (g':=s.gens) (d':=s.drawn) (ch:=?j0) (?p5) (fun b ob _ _ hb z _=>?yS) (fun b ob _ _ hb z _=>⟨?PF,?yS⟩) (fun b ob hb z n=>?_) (fun b ob hb z=>⟨ob,?yS⟩)
     (fun b ys z=>?KY) (fun b ob w' z=>?KY) (fun b ps z=>⟨#[],by rw[An (OP b _ z),z];simp⟩) (fun m hm=>?_) (fun b w' z=>?_) ?yX
    . have f:=hf b hb;exact⟨f.2.2.2.1,f.2.1,f.2.2.2.2.1,f.2.2.2.2.2⟩
    . rw[An (?a2H z)];exact n
    . obtain⟨ob,es',YZ,hob,r⟩:=hm;exact⟨ob,es',YZ,kk _ ob (fun q=>(hf _ q).2.1 rfl) hob,r⟩
    . by_cases hb:b=s.heap.objs.size
      . subst hb;rw[Ab]at z;cases z;exact⟨(by show(2:Nat)<=sizeLine;decide),[key,u],?cT (Aj7 hkey) (?cT ru ?b7),⟨_,ht3,rfl,rfl,_,rfl⟩⟩
      . rw[An hb]at z;refine(?c7 b w' z).stay (fun c y hc' q=>?_) (fun c q=>?PL) fun c ys q=>?PL
        rcases hc' with rfl | hc'
        . exact kk _ _ (vH _ _ z) q
        . exact kk _ _ (vH _ _ hc') q
  . have z:b=it:=?fP
    subst z;rw[An (qd8 lti)];exact(hf b hb).1
 done:=by
  ext j6;ext CO;obtain⟨kvs,hz,hx⟩:=hg;ext XJ;ext YF
  have hl2:=rel.length;rw[hn]at hit;exact wpAny_pyNext_items_end ?nJ hit hm (?o5) fun h' eb=>(?a34 ?j0 (fun b ob hb z=>eb b ob (?fP) z))
 self:=fun _ _ _ _ _ st h=>by
  ext CO;exact Vx hit h
inductive kJ(R:It->?kZ)(x:V)(H1:Hp):Prop
 | mk:∀d o kvs,(x=?h d)->(H1 d=?rK)->(R (?fT) H1)->?RZ
def yN(td:TE):TI:=fun σ H R=>td σ H fun x H1=>?RZ
theorem Ot{X:Cx}{tes:?g3}{x1:Nat}{tpos apos cpos:Pos}{e:Expr}{td:TE}(he:PE X e td)
 (hbase:?SU e "items" ?M (?wR)=?wR:=by rfl) (hline:?QU:=by rfl):PI X (?a24 tes) (?eY (?l5 e "items" ?g1) [] [] ?fR) (yN td):=by
 intro Ac s σ H R I h;refine wpAny_Call_method0_late hbase hline (Dh (?a4S he) fun v s1 _z=>?_);obtain⟨x,H1,I1,r1,d,o,kvs,ex,hz,q⟩:=_z;subst ex;obtain rfl:v=?eL d:=r1;obtain⟨ho,hsys,hl,vs,es,ep,rel,hd,hsz,exd,hm⟩:=HM I1 hz;refine⟨?f5,"dict.items",qt3,?H9,PySem.F.type_dict_items,⟨o,ho,exd.1⟩,fun b e=>by cases e;exact⟨o,ho,exd.2.1⟩,qn6 rfl (PySem.evalArgs_none ?_)⟩;refine ?j5 ?H9 hm.dictOf.typeIs PySem.F.entry_dict_items (PySem.F.args_dict_items_1 _) (meets_dict_items ?d3 d hsys) (?a3Z ⟨vs,hm.dictOf⟩);have I2:?a0J H1 ?T6:=?a4M ?zD ?RA;have hm2:=hm.push ?yE;refine wpAny_pyIter_items (s:=?T6) (v:=s1.heap.objs.size) (d:=d) ?w3 hm2 ?_;have hsz2:?R0=?I2:=qj0 ..;refine⟨_,[_],_,?fT,H1,rfl,?a4M I2.kept ?RA,GD d _ o hd,⟨?aZ,?aZ,?_⟩,?p5,q⟩
 . rw[hsz,rel.length];exact ?fL
 . have z:b=?R0:=?fP
   subst z;ext YT
section
variable{g:TG}{tc:TT}[?CB]
theorem Zf{d:Addr}{o:Obj}[?bS](Pv:?NN)(h0:?J2)(hl:∀i zs τ H,?sY->?i6->?lH)
 (hs:∀i k v zs τ H p,?kU->?i6->?dE->g ?eO τ (?w2) ?DS)
 (hd:?a3Q ?AG):?a3L (?fT) tc:=by
 refine⟨fun i m zs τ H=>m=kvs.length-i/\?sY/\?i6,?MA,?_⟩;rintro i m zs τ H ⟨rfl,hi,pp⟩;have q:=hl i zs τ H hi pp;by_cases hlt:?MD
 . refine ?F ⟨?J9,?mH,fun ys' τ' H' p'=>?DP,?NB⟩;obtain⟨p,k,v,hp,rfl,rfl,y⟩:=y;exact hs i k v zs τ _ p ?KW pp hp
 . have e:?LU:=O9m
   subst e;exact ?x ⟨?O8,hd zs τ H pp⟩
theorem Uq{d:Addr}{o:Obj}[?bS][?Y0](hl:∀i σ H,?sY->?lU->?lH)
 (hs:∀i k v σ H p,?kU->?lU->?dE->g ?eO σ (?w2) ?E3) (hd:∀σ H,Pv ?AG σ H->?oI) :
 ∃W:?NO,(∃m,W 0 m σ H)/\∀i m σ H,?VA →
   ((?fT).stop i H/\?oI)\/((?fT).go i H/\∃N:?qK,?a05 ?fT):=by
 refine⟨fun i m σ H=>m=kvs.length-i/\?sY/\?lU,?MA,?_⟩;rintro i m σ H ⟨rfl,hi,pp⟩;have q:=hl i σ H hi pp;by_cases hlt:?MD
 . refine ?F ⟨?J9,?mH,fun σ' H' p'=>?DP,?NB⟩;obtain⟨p,k,v,hp,rfl,rfl,y⟩:=y;exact hs i k v σ _ p ?KW pp hp
 . have e:?LU:=O9m
   subst e;exact ?x ⟨?O8,hd σ H pp⟩
universe e9
universe L2
namespace L2
open PySem PySem.Spec PyProof.Rows PySem.SeqAt
theorem Yf{ms:?iJ}:((cK ms).map (·.1)).Nodup↔(?oU (·.1)).Nodup:=by
 unfold cK List.Nodup;rw[ql5,qs8,qs8];constructor
 . intro h;exact h.imp fun {a b} n z=>n (by simp[z])
 . intro h;exact h.imp fun {a b} n z=>n (by simpa using z)
section
variable[?dN]{ms:?iJ}
universe e9
section
variable{X:Cx}{n:Nat}[?aM]
inductive fV[?CV]:Prop
 | mk:∀a kvs,(xs=[?b9,.ty ?f5])->(?jV)->(Q (?AL) H)->?V6
def sH:?s0:=fun xs H Q=>?V6
theorem FL:Fd X (?eI "isinstance") sH:=by
 ext tF;obtain⟨a,kvs,rfl,e,q⟩:=h;obtain⟨u,v,rfl,rx,rt⟩:=dD r;cases rt;cases rx;obtain⟨z,hd,vs,rel,o,es,ep,ho,ex,_⟩:=?mO;exact PySem.IsiPair.dict_dict ho ex.1 ⟨?AL,H,I,rfl,q⟩
universe e9
universe L2
namespace L2
open PySem PySem.Spec PyProof.Rows
inductive KH[?CV]:Prop
 | mk:∀a kvs,(xs=[?b9])->(?jV)->(?a4U ?c4)->?UI
def xJ:?s0:=fun xs H Q=>?UI
theorem IJ{X:Cx}:Fd X (?a1 ?f5) xJ:=by
 ext tF;obtain⟨a,kvs,rfl,e,q⟩:=h;obtain⟨u,rfl,rx⟩:=U5 r;cases rx;exact QC I e fun p s' hp I'=>⟨?aT,_,I',rfl,q p hp⟩
theorem u1{n c:Nat}(h:n+8<c):n+1<c:=O9m
def C0[?bR](k:Int):Int:=(?mC).getD 0
def putI[?bR](k v:Int):?iJ:=if (ms.any ?oE)=true then ?a2E ?oU else ms++[(k,v)]
def Ho[?bR](k:Int):?iJ:=ms.filter fun p=>?c3 (p.1≠k)
theorem IK[?bR](k v:Int):Lr (cK ms) (?h1) (?bI v)=cK (putI ms k v):=by
 unfold Lr putI cK
 have e:((?oU fun p=>?SS).any fun kv=>?c3 (?aI=?h1))=(ms.any ?oE):=by
  rw[List.any_map]
  congr 1
  funext p
  simp
 rw[e];split
 . rw[ql5,ql5]
   congr 1
   funext p
   simp only[Function.comp];by_cases q:?bM
   . simp[q]
   . have q':¬?GM=?h1:=fun z=>q (by simpa using z);simp[q]
 . simp
theorem uN[?bR](k:Int):Vm (cK ms) (?h1)=cK ?JB:=by
 unfold Vm Ho cK;rw[qv2]
 congr 1
 congr 1
 funext p
 simp
theorem iK[?bR](k:Int):N5 (cK ms) (?h1)=(?mC).map ?bI:=by
 unfold Cu cK N5;rw[List.find?_map,Option.map_map,Option.map_map]
 have e:((fun p:?pV=>?c3 (p.1=?h1)) ∘ fun p:?nN=>?SS)=fun p:?nN=>?F2:=by
  funext p
  simp
 rw[e];rfl
theorem jY[?bR](k:Int):((?mC).map ?bI).getD (?bI 0)=?bI (C0 ms k):=by
 unfold C0;cases ?mC<;>rfl
theorem Dd(p:?nN)[?bR](k:Int):Cu (p::ms) k=if ?bM then ?e p.2 else ?mC:=by
 unfold Cu;by_cases q:?bM
 . rw[List.find?_cons_of_pos (by simpa using q),?m q];rfl
 . rw[List.find?_cons_of_neg (by simpa using q),?f q]
theorem lR[?bR](k v j:Int):Cu (putI ms k v) j=if j=k then ?i5 else Cu ms j:=by
 have hs:∀[?CW],Cu (?a2E ns.map) j=if j=k then(?vL).map (fun _=>v) else ?vL:=by
  intro ns
  induction ns with
  | nil=>simp[Cu]
  | cons p ns ih =>
    rw[qc8,Dd,Dd,ih];by_cases e1:?bM
    . by_cases e2:j=k
      . simp[e1,e2]
      . have e3:¬k=j:=?FF;simp[e1,e2,e3]
    . by_cases e2:j=k
      . simp[e1,e2]
      . simp[e1,e2]
 have hn:∀[?CW],(ns.any ?oE)=(Cu ns k).isSome:=by
  intro ns
  induction ns with
  | nil=>rfl
  | cons p ns ih =>
    rw[qp2,Dd,ih];by_cases e1:?bM<;>simp[e1]
 have ha:∀[?CW],Cu (ns++[(k,v)]) j=(?vL).or (if k=j then ?i5 else none):=by
  intro ns
  induction ns with
  | nil=>simp[Dd,Cu]
  | cons p ns ih =>
    rw[List.cons_append,Dd,Dd,ih];by_cases e1:p.1=j<;>simp[e1]
 unfold putI;rw[hn];cases q:Cu ms k with
 | some z =>
   simp only[Option.isSome_some,if_true];rw[hs];ext bE
   . subst e;simp[q]
   . simp[e]
 | none =>
   simp only[Option.isSome_none,qs2,if_false];rw[ha];ext bE
   . subst e;simp[q]
   . have e':¬k=j:=?kM;simp[e,e']
theorem GZ[?bR](k j:Int):Cu ?JB j=if j=k then none else Cu ms j:=by
 unfold Ho
 induction ms with
 | nil=>simp[Cu]
 | cons p ms ih =>
   rw[qk7,Dd];by_cases e1:?bM
   . rw[?f (?kB),ih];by_cases e2:j=k
     . simp[e2]
     . have e3:¬p.1=j:=fun z=>e2 (by rw[←z,e1]);simp[e2,e3]
   . rw[?m (?kB),Dd,ih];by_cases e2:j=k
     . subst e2;simp[e1]
     . simp[e2]
section
variable[?bT][?aM]{mg:?Q5}{base:Heap}
universe e9
section
variable{X:Cx}{x:Str}{ps:?k6}{j k:Nat}{sp:Sp}{p pos:Pos}{e:Expr}[?tZ]{t:TA}
universe e9
def WU(n:Nat):?h7:=(?v2 n).map fun ?iD=>?zG
theorem bD(n:Nat):(WU n).length=n:=by simp[WU]
def Itd(hi:Int)(n:Nat):It:=⟨fun i _=>i<n,fun i H x H'=>H'=H/\x=?AP,fun i _=>n<=i⟩
theorem Oq(a b:Int):?HQ a b ?E=if b<a then a-b else 0:=by
 unfold Builtin.Range.rangeSize;rw[?f ?W];split
 . show(a-b-1) / 1+1=a-b;rw[Int.ediv_one];omega
 . rfl
theorem gI{a b:Int}(ha:-(?pT)<=a)(ha':a<?pT)(hb:-(?pT)<=b)(hb':b<?pT):Builtin.Range.small a b ?E=true:=by
 unfold Builtin.Range.small;rw[Oq];simp only[Builtin.Range.rangeFitsLong,qd2,qr5,qp7,qx2];split<;>simp<;>omega
theorem kQ[?bT][?aM]{tg:Expr}(it:Addr)(hi:Int)(n:Nat):U1 P w K tg (?qH) ?j0 it (fun i h=>?JX h it (hi+?iD*?E) (?kC-?iD) ?E) where
 mem:=?dD
 obj:=fun i h st b hb=>by
  have e:b=it:=?fP
  subst e
  exact⟨_,st,fun v z=>by
   have z':Data.fields _=Data.cell v:=z;cases z'⟩
 keep:=fun i h h' st k=>k it ?cQ _ st
 item:=by
  ext j6;ext YM;have W:=Walks.range (prog:=X.prog) (w:=X.w) ?nJ it hi ?E n;refine W.item i s _ _ hg st fun v h' tk hv st' kk=>?_;obtain⟨t,rfl⟩:=hv;have I1:?TE:=?JQ (fun b o hb e=>kk b o (?fP) e) f0 f1 f3 f4 f5;refine⟨_,rfl,eY (s:=?r6) (n:="range_iterator") st' rfl rfl ?W ⟨?AP,H,I1,(?a3Z t),?S6,st',fun b hb=>(hf b hb).1⟩⟩;rw[show hi+?zG*?E=hi-i by omega]
 done:=by
  ext j6;ext YM;exact wpAny_pyNext_range_end ?nJ st (by have:n<=i:=hg;omega) fun h' eb=>⟨rfl,?JQ (t':=s.toks) (fun b o hb e=>eb b o hb e) f0 f1 f3 f4 f5⟩
 self:=fun _ _ _ _ _ st h=>wpAny_pyIter_rangeiter st h
inductive qY[?ZF]:Prop
 | mk:∀(n:Nat),(vs=[?r ?fO,?r ?E,?r ?E])->(n<=1000000)->(R (Itd ?fO n) H1)->?EM
def Ak3(ta:TA):TI:=?a32 ?EM
theorem sQ{X:Cx}{tg:Expr}{a b c:Expr}{ta:TA}{p pos:Pos}(hg:Gl X ?kQ)(hm:X.mg ?kQ=none)(ha:PA X ?uX ta)(hs:?fK ?uX ?M=[?W5,?qI,?O7]:=by rfl)(hs2:?fK [b,c] ?M=[?qI,?O7]:=by rfl) :
 PI X tg (?eY (.Name ?kQ p) ?uX [] pos) (Ak3 ta):=by
 intro Ac s σ H R I h;refine Call_ (Kq I hg hm boot_range (qg2 (Dh (ha pos Ac s σ H _ I h) fun us s1 ⟨vs,H1,I1,r1,q1⟩=>?_) (by rw[hs,hs2]) (by rw[hs2];rfl)));obtain⟨n,e,hn,q⟩:=q1;subst e;cases r1 with
 | cons r rr =>
   cases rr with
   | cons r' rr =>
     cases rr with
     | cons r'' rr =>
     cases rr;obtain⟨t,rfl⟩:=r;obtain⟨t',rfl⟩:=r';obtain⟨t'',rfl⟩:=r'';refine call_range_3 ?W ?_ (Or.inl (PyProof.noPylong_small O9m));refine wpAny_pyIter_range (IsRange.new ..) (gI O9m O9m O9m O9m) ?_;have I2:Bj X Ac σ H1 { s1 with heap:=?a0H t,toks:=s1.toks }:=?zD ?GQ
     refine⟨?K6,[_],_,_,H1,rfl,
      ?a4M I2.kept ?GQ,kQ _ ?fO n,?_,?p5,q⟩
     . have e1:?GD=?kC-1:=?dD
       have e2:?kC-?wY=?HQ ?fO ?E ?E:=by rw[Oq];ext a5
       show ?JX _ _ (?GD) (?kC-?wY) ?E;rw[e1,e2];exact ?fL
     . have e:b=?K6:=?fP
       subst e;ext YT
theorem pX{hi:Int}{n:Nat}[?Y0]
 (hs:∀i σ H,i<n->?lU->g (?AP) σ H ?E3) (hd:∀σ H,Pv n σ H->?oI) :
 ∃W:?NO,(∃m,W 0 m σ H)/\∀i m σ H,?VA →
   ((?qH).stop i H/\?oI)\/((?qH).go i H/\∃N:?qK,?a05 ?qH):=by
 refine⟨fun i m σ H=>m=n-i/\i<=n/\?lU,⟨n,?dD,?b1,h0⟩,?_⟩;rintro i m σ H ⟨hm,hi',hp⟩;by_cases hlt:i<n
 . refine ?F ⟨hlt,?mH,fun σ' H' h=>⟨n-?g,O9m,rfl,O9m,h⟩,?_⟩;rintro x H' ⟨rfl,rfl⟩;exact hs i σ _ hlt hp
 . refine .inl ⟨by show n<=i;omega,hd σ H (by have:i=n:=O9m
                                              subst this;exact hp)⟩
universe L2
namespace Lat
open Hb
noncomputable abbrev Mat:=?kY
theorem sumN_all0[?O]{n:Nat}(h:∀k,k<n->f k=0):?dV=0:=by rw[Ai h,Md]
theorem sumN_one[?O]:∀{n j:Nat},j<n->(∀k,k<n->k≠j->f k=0)->?dV=f j
 | n+1,j,hj,h=>by
   show ?dV+f n=f j;by_cases e:j=n
   . subst e;rw[?T fun k hk=>h k ?c ?c];omega
   . rw[?a0 (n:=n) (j:=j) ?c (?a40 h ?c),h n ?c (?kM)];omega
def In(w n:Nat)(R:Mat)(v:?k):Prop:=∃x:?k,∀c,c<w->v c=?ZQ ?hU n
theorem In.row{w n:Nat}{R:Mat}{j:Nat}(hj:j<n):?a30 R ?iC:=⟨fun k=>if k=j then 1 else 0,fun c _=>by
 rw[Cn (fun k=>?hU) j n,?yF]⟩
theorem In.zero(w n:Nat)(R:Mat):?a30 R (?gN):=⟨?gN,fun c _=>by rw[sumN_all0];intro k _;simp⟩
theorem In.mix[?Z1](hv:?v8)(a b:Int):In w n R ?oW:=by
 obtain⟨x,hx⟩:=hu;obtain⟨y,hy⟩:=hv;refine⟨fun k=>a*x k+b*y k,?dI⟩;show ?v4=_;rw[?e5,hy c hc,←Ax,←Ax,←Ce];refine ?z5;rw[qr3,qd4,qd4]
theorem In.congr[?Z1](h:?GN):?v8:=by
 obtain⟨x,hx⟩:=hu;exact⟨x,fun c hc=>by rw[←?oG];exact ?e5⟩
structure Dc(w r:Nat)(R:Mat)[?s]:Prop where
 lt:?xA
 inc:?a2G r
 zero:∀j c,j<r->?zY
 pos:∀j,j<r->?lQ
 red:∀k j,k<j->j<r->?x7
theorem Dc.mono[?n6][?j][?n8]:∀j k,j<=k->k<r->t j<=t k:=fun j k h1 h2=>by
 rcases qf7 j k with z | z
 . exact qd9 (?cN j k z h2)
 . rw[?a0E j k];ext dR
theorem Dc.ge[?n6][?j][?n8]:∀j,j<r->j<=t j
 | 0,_=>?b1
 | j+1,hj=>by
   have:=?a4R h.ge;have:=?cN j ?a2 O9m hj;omega
theorem Dc.lead[?n6][?j][?n8]{v x:?k}(hx:∀c,c<w->v c=?MG) :
 ∀j,j<=r->(?TA)->(∀k,k<j->x k=0)/\(j<r->?fD=x j*?a8):=by
 intro j
 induction j with
 | zero =>
   intro _ _;refine⟨?uI,?RI⟩;rw[hx _ (h.lt 0 hr),?GS];rw[?aY k _ hk (?cN 0 k ?c hk)];simp
 | succ j ih =>
   intro hj hv;obtain⟨h1,h2⟩:=ih O9m (?a40 hv O9m)
   have hxj:x j=0:=by
    have e:=h2 O9m;rw[hv j ?c]at e;rcases ?rO ?sH with z | z
    . exact z
    . have:=?k5;omega
   have hall:∀k,k<j+1->x k=0:=fun k hk=>by
    by_cases e:k=j
    . rw[e];exact hxj
    . exact h1 k O9m
   refine⟨hall,?RI⟩;rw[hx _ (h.lt _ hr),?GS];by_cases e:k<j+1
   . rw[hall k e];simp
   . rw[?aY k _ hk (?cN ?a2 k ?c hk)];simp
theorem Dc.only[?n6][?j][?n8]{v:?k}(hv:?K4){j:Nat}(hj:j<r)(h0:?TA)(h1:?fD=?a8)(h2:∀k,j<k->k<r->v ?a3=0):∀c,c<w->v c=?eJ:=by
 obtain⟨x,hx⟩:=hv;obtain⟨a1,a2⟩:=h.lead hx j O9m h0
 have xj:x j=1:=by
  have e:=a2 hj;rw[h1]at e;have p:=?sV;have:(x j-1)*?a8=0:=by rw[Int.sub_mul];omega
  rcases ?rO ?K with z | z<;>omega
 have rest:∀m,m<=r->∀k,j<k->?D9:=by
  intro m
  induction m with
  | zero=>intro _ k _ hk;omega
  | succ m ih =>
    intro hm k hjk hk;by_cases e:k<m
    . exact ih O9m k hjk e
    have ek:k=m:=O9m
    subst ek;have hv2:=h2 k hjk O9m
    have e2:v ?a3=R j ?a3+?kW:=by
     rw[hx _ (h.lt k ?c)]
     have:Aj (fun i=>x i*?uT) r=Aj (fun i=>((?oC)*?uT)+((if i=k then 1 else 0)*(?kW))) r:=by
      ext tN;by_cases e1:i=j
      . subst e1;rw[xj,?p,?n];simp
      . rw[?aQ];by_cases e3:i=k
        . subst e3;rw[?p];simp
        . rw[?zA];by_cases e4:i<j
          . rw[a1 i e4];simp
          . by_cases e5:i<k
            . rw[ih ?c i ?c e5];simp
            . rw[?aY i _ hi (?cN k i ?c hi)];simp
     rw[this,Ce,Cn (fun i=>?uT) j r,?yF,Cn (fun _=>?kW) k r,?L]
    rw[hv2]at e2;obtain⟨r0,r1⟩:=?hC j k hjk O9m;have p:=?Z k O9m;rcases ?PZ (x k) 0 with z | z | z
    . have:?kW<=-1*?gB:=?oH;omega
    . exact z
    . have:1*?gB<=?kW:=?oH;omega
 intro c hc;rw[?e5,?a0 hj ?y6,xj,qd1];by_cases e:k<j
 . rw[a1 k e];simp
 . rw[rest r ?i k ?c hk];simp
structure Eb[?V](T T':Mat):Prop where
 fwd:∀i,i<n->?a30 T (T' i)
 bwd:∀i,i<n->?a30 T' (T i)
 st:∃r t,?b5/\?kE/\?lA
theorem In.sub{w n r:Nat}{R:Mat}{v:?k}(h:?v8)(hr:?b5)(hz:?LG):?K4:=by
 obtain⟨x,hx⟩:=h;refine⟨x,?dI⟩;rw[?e5]
 have:∀m,r<=m->?hM->?ZQ ?hU m=?MG:=by
  intro m
  induction m with
  | zero=>intro h1 _;rw[?a0E r 0]
  | succ m ih =>
    intro h1 h2;by_cases e:r=m+1
    . rw[e]
    . show Aj _ m+x m*R m c=_;rw[?TT,hz m c ?c ?c hc];simp
 exact ?K n hr ?i
def M3(n w k:Nat)(T:Mat):Prop:=k<=n/\k<=w/\(∀j,j<k->0<?lR)/\(∀j c,j<k->c<w->c≠j->?gO=0)/\(∀i j,i<n->j<k->?QW)
theorem M3.flip{n w k:Nat}{T:Mat}(h:?m6):M3 w n k (?F9):=⟨h.2.1,h.1,h.2.2.1,fun j c hj hc hne=>h.2.2.2.2 c j hc hj hne,fun i j hi hj hne=>h.2.2.2.1 j i hj hi hne⟩
def kD(n w k:Nat)(T:Mat):Prop:=?m6/\k<n/\k<w/\0<?a9/\∀c,c<w->c≠k->?c6=0
theorem Eb.keep[?cE][?CS]:∀{k:Nat},?m6->M3 n w k T'/\(∀j c,j<k->c<w->T' j c=?gO)/\∀r t,?b5->?kE->(?lA)->k<=r/\∀j,j<k->t j=j:=by
 intro k
 induction k with
 | zero =>
   intro h;exact⟨?H8,?sW,fun r t _ _ _=>⟨?b1,?i9⟩⟩
 | succ k ih =>
   intro h;obtain⟨hn,hw,hp,hr,hc⟩:=h;obtain⟨c1,c2,c3⟩:=ih ⟨O9m,O9m,?a1R ?SN,fun j c hj=>hr j c O9m,fun i j hi hj=>hc i j hi O9m⟩
   have key:∀r t,?b5->?kE->(?lA)->k<r/\?o1/\(∀c,c<w->?vP=?c6):=by
    intro r t HD hst hz;obtain⟨kr,ht⟩:=?MV;have hin:=(s.bwd k O9m).sub HD hz;obtain⟨x,hx⟩:=?x0;have v0:?L9:=fun l hl=>by rw[ht l hl];exact hc k l O9m O9m O9m
    obtain⟨x0,_⟩:=?uC;have hpk:=?GE
    have hlt:k<r:=by
     ext jC
     have:?nT:=by
      rw[?K7];ext C5
     omega
    have htk:?o1:=by
     have g:=?MT;refine qj1 ?g6 g
     have:?nT:=by
      rw[?K7];ext tG;by_cases e:l<k
      . rw[x0 l e];simp
      . ext XY
     omega
    obtain⟨_,a2⟩:=?uC;ext XS;obtain⟨y,hy⟩:=s.fwd k O9m
    have e2:?cG=y k*?a9:=by
     rw[hy k ?c];exact ?a0 O9m fun l hl hne=>by rw[hc l k hl ?c hne];simp
    have same:?a9=?cG:=by
     ext YH
     have d2:?a9∣ ?cG:=⟨y k,by rw[e2,qe8]⟩
     exact Int.le_antisymm (?NG) (qk1 hpk d1)
    refine⟨hlt,htk,fun c hcw=>?_⟩;exact(?TF hin hlt v0 (by rw[htk];exact same) (fun l hl1 hl2=>hr k ?u O9m (?e1 l hl2) (?a3D l)) c hcw).symm
   obtain⟨r,t,HD,hst,hz⟩:=s.st;obtain⟨k1,k2,k3⟩:=?K5;refine⟨⟨hn,hw,?aB,?VX,?OZ⟩,fun j c hj hcw=>?_,fun r t HD hst hz=>?_⟩
   . ext bE
     . subst e;rw[k3 j ?c];exact ?SN
     . exact c1.2.2.1 j O9m
   . ext bE
     . subst e;rw[?DG];exact ?a3P hr
     . exact ?a3P ?SZ
   . ext bE
     . subst e;by_cases e2:i<j
       . exact ?SZ i j e2 O9m O9m
       . by_cases e3:i<r
         . exact ?a23 j j
         . exact hz i j O9m hi O9m
     . exact c1.2.2.2.2 i j hi O9m hne
   . ext bE
     . subst e;exact ?DG
     . exact c2 j c O9m hcw
   . obtain⟨a,b,_⟩:=?K5;obtain⟨_,ht⟩:=?MV;refine⟨a,?aB⟩;ext bE
     . rw[e];exact b
     . exact ?KG
def U2[?V](T M1:Mat):Prop:=∃T',?uY/\Eb w n (?a33 T') (?a33 M1)
def Straight[?V](T:Mat):Prop:=∀i j,i<n->j<w->?QW
theorem U2.next{n w k:Nat}[?CR](h:?m6):?WZ/\(?UG n w M1\/?LJ):=by
 obtain⟨T',s1,s2⟩:=s;obtain⟨h1,_,h3⟩:=s1.keep h;obtain⟨g1,_,g3⟩:=?LL;have hc:?WZ:=g1.flip;refine(?a3Z hc);obtain⟨r,t,HD,hst,hz⟩:=s1.st;obtain⟨q,u,hqw,e9,pL⟩:=s2.st;obtain⟨kr,ht⟩:=?I3;obtain⟨kq,hu⟩:=?RO;by_cases e:k<r
 . right;have p:=?qB k e;have tw:=?e1 k e;have tk:k<=t k:=?lL k e;have hin:=(?qZ ?a3 tw).sub hqw pL;obtain⟨x,hx⟩:=?x0
   have v0:∀l,l<k->?a4N ?s2:=fun l hl=>by
    show T' ?s2 ?a3=0;rw[hu l hl];exact ?pP l ?a3 hl tw O9m
   obtain⟨x0,_⟩:=e9.lead hx k kq v0;have hkn:k<n:=O9m
   have ZT:k<q:=by
    ext jC
    have:T' k ?a3=0:=by
     show ?a4N k;rw[?H5];ext C5
    omega
   have huk:u k=k:=by
    refine ?GW
    have:T' k ?a3=0:=by
     show ?a4N k;rw[?H5];ext tG;by_cases e2:l<k
     . rw[x0 l e2];simp
     . show x l*?yP=0;ext XK
    omega
   have p2:=?JP;rw[huk]at p2;refine⟨hc,hkn,O9m,p2,?QI⟩;rcases qf7 c k with z | z
   . exact hc.2.2.2.2 k c hkn z O9m
   . by_cases e3:c<q
     . exact ?a20 e3 e3
     . exact pL c k O9m hcw hkn
 . left;have T'0:∀i c,k<=i->?Q8:=fun i c hi hin hcw=>hz i c O9m hin hcw;intro i j hi hj hne;rcases qf7 i k with z | z
   . exact hc.2.2.2.1 i j z hj (fun w=>hne w.symm)
   . obtain⟨y,hy⟩:=?a4B s2.fwd;have:M1 i j=Aj (fun l=>y l*T' i l) w:=hy i hi;rw[this];exact ?T fun l hl=>by rw[T'0 i l z hi hl];simp
theorem U2.less{n w k:Nat}[?CR](h:?P2):M3 n w ?bO M1\/(?LJ/\?jU∣ ?a9/\?jU<?a9):=by
 obtain⟨hcl,hn,hw,hp,hr⟩:=h;have s0:=s;obtain⟨T',s1,s2⟩:=s;obtain⟨h1,_,h3⟩:=s1.keep hcl;obtain⟨r,t,HD,hst,hz⟩:=s1.st;obtain⟨kr,ht⟩:=?I3;have hin:=(s1.bwd k hn).sub HD hz;obtain⟨x,hx⟩:=?x0;have v0:?L9:=fun l hl=>by rw[ht l hl];exact hr l O9m O9m
 obtain⟨x0,a2⟩:=?uC
 have hlt:k<r:=by
  ext jC
  have:?nT:=by
   rw[hx k hw];ext C5
  omega
 have htk:?o1:=by
  refine qj1 ?g6 (?MT)
  have:?nT:=by
   rw[hx k hw];ext tG;by_cases e:l<k
   . rw[x0 l e];simp
   . ext XY
  omega
 ext XS;ext YH
 have le1:=qk1 hp d1
 have below:∀i,i<n->i≠k->T' i k=0:=fun i hi hne=>by
  rcases qf7 i k with z | z
  . exact ?pP i k z hw O9m
  . by_cases e3:i<r
    . exact ?a23 k k
    . exact hz i k O9m hi hw
 by_cases same:?cG=?a9
 . left;have row:∀c,c<w->?c6=?vP:=?TF hin hlt v0 (by rw[htk];exact same.symm) (fun l hl1 hl2=>hr ?u (?e1 l hl2) (?a3D l))
   have cl':M3 n w ?bO T':=by
    refine⟨O9m,O9m,?aB,?VX,?OZ⟩
    . ext bE
      . subst e;exact pk
      . exact h1.2.2.1 j O9m
    . ext bE
      . subst e;rw[←row c hcw];exact hr c hcw hne
      . exact ?a3P ?pP
    . ext bE
      . subst e;exact below i hi hne
      . exact h1.2.2.2.2 i j hi O9m hne
   exact(s2.keep cl'.flip).1.flip
 . right;have lt1:?cG<?a9:=O9m
   obtain⟨hc2,q2⟩:=s0.next hcl;obtain⟨g1,_,g3⟩:=?LL;obtain⟨q,u,hqw,e9,pL⟩:=s2.st;obtain⟨kq,hu⟩:=?RO;have A59:=(?qZ k hw).sub hqw pL;obtain⟨y,hy⟩:=id A59
   have w0:∀l,l<k->(?a0K T' k) ?s2=0:=fun l hl=>by
    show T' ?s2 k=0;rw[hu l hl];exact ?pP l k hl hw O9m
   obtain⟨y0,b2⟩:=e9.lead hy k kq w0;have hyk:?cG=Aj (fun l=>y l*?yP) q:=hy k hn
   have ZT:k<q:=by
    ext jC
    have:?cG=0:=by
     rw[hyk];exact ?a39 y0
    omega
   have huk:u k=k:=by
    refine ?GW
    have:?cG=0:=by
     rw[hyk];ext tG;by_cases e2:l<k
     . rw[y0 l e2];simp
     . ext XK
    omega
   have e3:T' (u k) k=y k*?IW:=b2 ZT;rw[huk]at e3;have p2:0<?IW:=?JP;rw[huk]at p2;have d2:?jU∣ ?cG:=⟨y k,by rw[e3,qe8]⟩
   have le2:=?NG;refine⟨⟨hc2,hn,hw,p2,?QI⟩,qq7 d2 d1,O9m⟩;rcases qf7 c k with z | z
   . exact hc2.2.2.2.2 k c hn z O9m
   . by_cases e4:c<q
     . exact ?a20 e4 e4
     . exact pL c k O9m hcw hn
def Rw(i:Nat):Int:=if i%2=0 then 1 else -1
theorem Xf(i:Nat):Rw ?g=- Rw i:=by
 unfold Rw;by_cases h:i%2=0
 . rw[?n,?m h]
 . rw[?L,?f h];rfl
theorem Wf(i:Nat):(Rw i).natAbs=1:=by unfold Rw;split<;>rfl
def Fz(A:Mat)(i:Nat):Mat:=fun r c=>?xI
def det:Nat->Mat->Int
 | 0,_=>1
 | n+1,A=>?kR
theorem Cs:∀{n:Nat}{A B:Mat},(∀r c,r<n->c<n->?i3=B r c)->?cL=?a4I B
 | 0,_,_,_=>rfl
 | n+1,A,B,h=>by
   ext tN;rw[h i 0 hi ?c,Cs (n:=n) (A:=Fz A i) (B:=Fz B i)];intro r c hr hc;exact ?DA
def Bu(A:Mat)[?CZ]:Mat:=fun r c=>if r=p then u c else ?i3
theorem Bl(A:Mat)[?CZ](c:Nat):Bu A p u p c=u c:=?p
theorem Bt{A:Mat}{p r:Nat}[?nE](h:?gF)(c:Nat):Bu A p u r c=?i3:=?f h
theorem So{A:Mat}{p i:Nat}[?nE](h:i≠p):Fz ?k9 i=Bu (Fz A i) ?fY (?a1X ?mG):=by
 funext r c
 show(if ?a18 i then ?mG else ?xI)=if r=?fY then ?mG else ?xI
 have e:(?a18 i)↔(r=?fY):=by
  split<;>split<;>omega
 by_cases z:r=?fY
 . rw[?d9,?m (e.mpr z)]
 . rw[?e2,?f fun w=>z (e.mp w)]
theorem Ih{A:Mat}{p:Nat}[?nE]:Fz ?k9 p=Fz A p:=by
 funext r c
 show(if ?a18 p then ?mG else ?vG)=?vG;rw[?f ?bK]
theorem Et:∀{n p:Nat} (A:Mat) [?n9] (a b:Int),p<n->?ZW ?MQ=a*?a4I ?k9+b*?ZW v
 | n+1,p,A,u,v,a,b,hp=>by
   show ?qN=a*?qN+b*?qN;ext jA;ext tN;by_cases e:i=p
   . subst e;rw[Bl,Bl,Bl,Ih,Ih,Ih]
     grind
   . rw[?fH,?fH,?fH,So e,So e,So e];rw[Et (Fz A i) (?a1X ?mG) (fun c=>v ?aO) a b ?bK]
     grind
theorem Gn(A:Mat)(p:Nat):?HP=A:=by
 funext r c
 unfold Bu;split
 . rename_i h;rw[h]
 . rfl
theorem Cc{A:Mat}{p q:Nat}(h:?gD)[?n9]:?PB=Bu (Bu A q v) p u:=by
 funext r c
 unfold Bu;by_cases e:r=q
 . rw[?c5,?n,?c5]
 . rw[?cS,?cS]
theorem cI:∀[?tT],p+1<n->(?a2R ?bG)->?nX
 | n+1,p,A,hp,h=>by
   show ?kR=0
   have same:?AF=?zF:=Cs fun r c hr hc=>by
    show ?vG=A (if r<p+1 then r else r+1) ?aO;ext jL
    . subst e;rw[?n,?L];exact(?nO).symm
    . by_cases e2:r<p
      . rw[?h3,?L]
      . ext CE
   have two:?kR=Aj (fun i=>((if i=p then 1 else 0)*(Rw p*A p 0*?AF))+((if i=p+1 then 1 else 0)*(Rw ?bG*A ?bG 0*?zF))) ?S:=by
    ext tN;by_cases e1:i=p
    . subst e1;rw[?p,?n];simp
    . by_cases e2:i=p+1
      . subst e2;ext t9;simp
      . rw[?aQ,?gP]
        have z:?LI=0:=by
         refine cI (p:=?KI) ?bK ?dI;show A (if ?fY<i then ?fY else ?oS) ?aO=A (if ?oS<i then ?oS else ?oS+1) ?aO;by_cases e3:p<i
         . rw[?yH,?yH,?L];exact ?nO
         . rw[?zA,?n,?n,show p-1+1=p by omega];exact ?nO
        rw[z];simp
   rw[two,Ce,Cn (fun _=>Rw p*A p 0*?AF) p ?S,?L,Cn (fun _=>Rw ?bG*A ?bG 0*?zF) ?bG ?S,?L];rw[Xf,←same,←h 0 ?c]
   grind
theorem aR[?tT](hp:p+1<n)[?n9]:?a4Z (Bu ?k9 ?bG v) ?bG:=by
 have ne:p≠p+1:=O9m
 have z:?a2F ?bG:=fun w=>cI hp ?WR
 have e0:=z fun c=>1*u c+1*v c;rw[?a22 (Bu A p _) hp,?aU,?aU,?a22 (Bu A ?bG u) ?c,?a22 (Bu A ?bG v) ?c]at e0;ext Y7
theorem cH:∀(d:Nat) [?tT],p+d+1<n->(?a2R (p+d+1))->?nX
 | 0,n,p,A,hp,h=>cI hp h
 | d+1,n,p,A,hp,h=>by
   have e:A=Bu (Bu A (p+d+1) (A (p+d+1))) (p+d+1+1) (A (p+d+1+1)):=?LD
   rw[e,aR ?c];rw[cH d (p:=p) ?c ?dI]
   . rfl
   . rw[?iK,?iK,?iK,Bl];exact ?oG
theorem Ez[?dQ]{A:Mat}[?dS](hq:q<n)(hne:?gD)(h:?a2R q):?nX:=by
 rcases qf7 p q with z | z
 . exact cH (q-p-1) (p:=p) O9m (by rw[show p+(q-p-1)+1=q by omega];exact h)
 . exact cH (p-q-1) (p:=q) O9m (by rw[show q+(p-q-1)+1=p by omega];exact fun c hc=>(?oG).symm)
theorem UH[?dQ](A:Mat)[?dS](hq:q<n)(hne:?gD)(k:Int):?ZW ?HI=?cL:=by
 have:=Et A ?bB ?dC 1 k hp;rw[Gn,Ez (A:=?G1) hp hq hne fun c _=>by rw[Bl,Bt (?GB)]]at this;rw[←show(fun c=>1*?bZ+k*A q c)=?HI from ?a4Q ?DR,this];omega
theorem FD[?dQ]{A:Mat}[?b2][?n9]:?a4Z (?PB) q:=by
 ext X9
 have e0:=z fun c=>1*u c+1*v c;rw[?a22 (Bu A p _) hq,?aU,?aU,?a22 (Bu A q u) hp,?a22 (Bu A q v) hp]at e0;ext Y7
theorem uH{n p:Nat}(A:Mat)[?dS]:?ZW ?IK=- ?cL:=by
 have:=Et A ?bB ?bB ?E 0 hp;rw[Gn]at this;rw[show(?IK)=fun c=>-1*?bZ+0*?bZ from ?a4Q ?xG,this];omega
theorem MJ[?dQ](A:Mat)[?b2][?eS](h:a*d-b*c=1) :
 ?a4I (Bu (Bu A p fun k=>a*A p k+b*A q k) q fun k=>c*A p k+d*A q k)=?cL:=by
 ext X9
 have e:?a4I (Bu (?HP) q ?dC)=?cL:=?LD
 have e2:=FD (A:=A) hp hq ne ?bB ?dC;rw[Et _ ?bB ?dC c d hq,?aU,?aU,?a3V ?bB,?a3V ?dC];rw[←?aU,←?aU,←?aU,←?aU,z ?bB,z ?dC];rw[e]at e2 ⊢;have e3:?a4I (Bu (?G1) q ?bB)=- ?cL:=O9m
 rw[e3]
 grind
def prodN[?a6]:?k
 | 0=>1
 | n+1=>?qL
theorem Ve[?a6]:∀n,?AD=f 0*?UB
 | 0=>by simp[prodN]
 | n+1=>by
   show ?AD*f ?S=f 0*(?UB*f ?S);rw[Ve f n,qd4]
theorem S4:∀{n:Nat}{A:Mat},(∀r c,r<n->c<r->?i3=0)->?cL=?a4G A n
 | 0,_,_=>rfl
 | n+1,A,h=>by
   show ?kR=_;rw[?a0 (j:=0) ?c fun k hk hne=>by rw[h k 0 hk ?c];simp,Ve]
   rw[S4 (n:=n) (A:=Fz A 0) fun r c hr hc=>by
    show ?a0P 0=0;ext cX;exact h _ _ ?c ?c]
   show 1*A 0 0*?l (fun j=>A (if j<0 then j else j+1) ?a2) n=_;rw[qd1];rfl
def cG:?v
 | 0=>1
 | n+1=>?RV
theorem Oe[?O]{M:Nat}:∀{n:Nat},(∀k,k<n->?HL<=M)->(?dV).natAbs<=n*M
 | 0,_=>by simp[Aj]
 | n+1,h=>by
   have a:=Oe (n:=n) ?iU;have b:=?uN;have c:=qf0 (?dV) (f n);show(?dV+f n).natAbs<=?S*M;rw[qf5,qf4];omega
theorem qA:∀{n:Nat}{A:Mat}{B:Nat},(∀r c,r<n->c<n->?VD<=B)->?S7<=?SE
 | 0,_,_,_=>by simp[det,cG]
 | n+1,A,B,h=>by
   show(?qN).natAbs<=?RV*B ^ ?S
   have:?FR<=?S*(B*(?SE)):=by
    refine Oe ?pU;rw[qb3,qb3,Wf,qf4];exact qf3 (h i 0 hi O9m) (qA fun r c hr hc=>?DA)
   refine qa5 ?K ?WW;rw[qh3]
   grind
structure Ic(i:Nat)(R:Mat)[?s]:Prop where
 inc:?a2G i
 zero:?LH
 pos:?JV
theorem Dc.s0[?n6][?j][?n8]:Ic r R t:=⟨?cN,?aY,?Z⟩
theorem Ic.low[?nA][?j][?nC]{j l:Nat}(hj:j<i)(hl:l<j):?hP=0:=?aY j _ hj (?cN l j hl hj)
theorem S3:∀[?tT],p<n->(∀c,c<n->?bZ=0)->?nX:=fun {n p A} hp h=>by
 have:=Et A ?bB ?bB 0 0 hp;rw[show(fun c=>0*?bZ+0*?bZ)=?G9 from ?a4Q ?xG]at this
 rw[show ?cL=?ZW ?gN from Cs fun r c hr hc=>by
  unfold Bu;split
  . rename_i e;rw[e];exact ?oG
  . rfl,this]
 omega
theorem B8[?O]:∀{n:Nat},(?xJ)->0<?gC
 | 0,_=>?P3
 | n+1,h=>qt7 (B8 ?iU) (?uN)
def pb(R:Mat)[?s](k:Nat):?k
 | 0=>1
 | m+1=>?p9
def Ql(R:Mat)[?s](k:Nat):Nat->?oL
 | 0=>R k
 | m+1=>fun c=>?iH*?a0Q m c+?pK*R ?fE c
section
variable[?nA][?j][?nC]
include h
theorem oG{k:Nat}:∀{m:Nat},?hN->0<?lI
 | 0,_=>?P3
 | m+1,hm=>qt7 (?Z _ O9m) (oG O9m)
theorem cP{k l:Nat}(hl:l<k):∀{m:Nat},?hN->?B2=0
 | 0,hm=>?dZ hm hl
 | m+1,hm=>by
   ext XF;rw[cP hl ?c,?M7];simp
theorem fJ{k:Nat}:∀{m:Nat},?hN->?SB=?lI*?gB
 | 0,_=>by show ?gB=1*?gB;omega
 | m+1,hm=>by
   show ?iH*?SB+?pK*R ?fE ?a3=?p9*?gB;rw[fJ ?c,?dZ (j:=?k0) (l:=k) ?c ?c,qd4];simp
theorem CO{k:Nat}:∀{m l:Nat},?hN->k<l->l<=k+m->?B2=0
 | 0,l,_,h1,h2=>O9m
 | m+1,l,hm,h1,h2=>by
   ext XF;by_cases e:l=?k0
   . subst e;rw[qe8,qo6];omega
   . rw[CO ?c h1 ?c,?M7];simp
theorem QI{W:Nat}{k:Nat}:∀{m:Nat},?hN->In W i R (Ql R t k m)
 | 0,hm=>?J hm
 | m+1,hm=>(QI O9m).mix ?WD _ _
theorem jX{k:Nat}(s:?v):∀{m:Nat},?hN->?a4W (Bu ?f1 k ?W6)=?lI*?a4W ?f1
 | 0,hm=>by
   show ?a4W (Bu ?f1 k (?f1 k))=1*_;rw[Gn];omega
 | m+1,hm=>by
   show ?a4W (Bu ?f1 k fun c=>?iH*?EL+?pK*?LC)=_;rw[Et ?f1 (?W6) (?SC) _ _ ?c,jX s ?c];rw[Ez (p:=k) (q:=?k0) (A:=Bu ?f1 k ?SC) ?c ?c ?c fun c _=>by rw[Bl,?iK]];show _=?p9*_;rw[qd4];omega
universe e9
theorem skip_prod[?O]{k:Nat}:∀(n:Nat),k<=n->?l (fun l=>?ZZ f) n=?f4*?T0
 | 0,h=>by
   have:k=0:=O9m
   subst this;simp[prodN]
 | n+1,h=>by
   by_cases e:k=n+1
   . subst e;rw[show n+1-?S=0 by omega];show ?l _ ?S=?AD*1
     have:∀m,m<=n+1->?l (fun l=>f (if l<n+1 then l else l+1)) m=?c1:=by
      intro m
      induction m with
      | zero=>intro _;rfl
      | succ m ih =>
        intro hm;show ?BC*f (if m<n+1 then m else m+1)=?c1*f m;rw[?m9,?L]
     rw[?K _ ?i];omega
   . show ?l _ n*f (if n<k then n else n+1)=_;rw[?TB n ?c,?n,show n+1-k=?hQ+1 by omega];show _=?f4*(?T0*f (k+1+?hQ));rw[show k+1+?hQ=n+1 by omega,qd4]
theorem BQ(R:Mat)[?s](k:Nat):∀m,?lI=?l (fun l=>R (k+1+l) (t (k+1+l))) m
 | 0=>rfl
 | m+1=>by
   show ?p9=?BC*?iH;rw[BQ R t k m,qe8]
def y9[?s](k c:Nat):?v
 | 0=>c
 | l+1=>?ZZ t
theorem zE[?nA][?j][?nC]{k c:Nat}(hk:k<i){D:Nat}(hD:?a0U ?s7 D):(?a0Q ?zQ c).natAbs<=D:=by
 have hm:k+?zQ<i:=O9m
 have e1:=jX h (k:=k) (y9 t k c) hm
 have hu0:∀l,l<i->l≠k->?a0Q ?zQ ?u=0:=fun l hl hne=>by
  rcases qf7 l k with z | z
  . exact cP h z hm
  . exact CO h hm O9m O9m
 obtain⟨n,rfl⟩:∃n,i=n+1:=?U8
 have e2:det ?S (Bu (?s7) k fun l=>?a0Q (n+1-1-k) (y9 t k c l))=Rw k*?a0Q (n+1-1-k) c*?l (fun l=>R (if l<k then l else l+1) (?ZZ t)) n:=by
  show Aj (fun j=>Rw j*Bu _ k _ j 0*?a4I (Fz (Bu _ k _) j)) ?S=_;rw[?a0 (j:=k) hk ?AI]
  . rw[Bl,Ih]
    congr 1
    refine S4 fun r l hr hl=>?_;show R (if r<k then r else r+1) (?ZZ t)=0;refine ?dZ ?bK ?_;split<;>split<;>omega
  . rw[So hne,S3 (p:=if k<j then k else k-1) ?bK ?rC]
    . simp
    . rw[Bl];show Ql R t k (n+1-1-k) (?ZZ t)=0;exact hu0 _ ?bK ?bK
 rw[e1]at e2;rw[?TB (f:=?pE) n ?c,←BQ,?MC]at e2;rw[?MC];have pp:=oG h (k:=k) (m:=n-k) O9m;have qp:0<?VV:=B8 (?a1R ?k5);have e3:=?vQ ?KV e2;rw[qb3,qb3,qb3,qb3,Wf,qf4]at e3;have p1:0<?fV:=O9m
 have q1:1<=?IR:=O9m
 have:?fV*?xY<=?fV*D:=by
  calc ?fV*?xY<=?xY*(?IR*?fV):=by
        rw[?S8 ?fV];exact qe6 _ (qm7 _ q1)
   _=?fV*(det ?S ?s7).natAbs:=e3.symm
   _<=_:=qe6 _ hD
 exact qs3 ?K p1
theorem aM[?nA][?j][?nC]:?a4W ?l7=?k2:=S4 fun r c hr hc=>?dZ hr hc
theorem Xt[?O]:∀{n j:Nat},(?xJ)->j<n->f j<=?gC
 | n+1,j,h,hj=>by
   have p:=B8 (n:=n) ?iU;have q:=?uN;show f j<=?qL;by_cases e:j=n
   . subst e;have:1*f j<=?l f j*f j:=?oH;omega
   . have ih:=Xt (n:=n) (j:=j) (?iU) O9m;have:?gC*1<=?qL:=?N4;omega
theorem TZ[?nA][?j][?nC]{D:Nat}(hD:?a0U ?A8 D){j:Nat}(hj:j<i):?a8<=D:=by
 rw[aM h]at hD;have a:=Xt (f:=?pE) (fun k hk=>?yQ) hj;have b:=B8 (f:=?pE) (n:=i) (fun k hk=>?yQ);omega
theorem Ic.none{W i:Nat}{R:Mat}[?j][?YD](h0:∀j,j<i->?fD=0):∀c,c<W->v c=0:=by
 obtain⟨x,hx⟩:=hv
 have x0:∀m,m<=i->∀j,j<m->x j=0:=by
  intro m
  induction m with
  | zero=>intro _ j hj;omega
  | succ m ih =>
    intro hm j hj;by_cases e:j<m
    . exact ih O9m j e
    have ej:j=m:=O9m
    subst ej;have e1:=hx ?G (?KG);rw[h0 j ?c,?a0 (j:=j) ?c ?y6]at e1
    . rcases ?rO e1.symm with z | z
      . exact z
      . have:=?k5;omega
    . by_cases e2:k<j
      . rw[ih ?c k e2];simp
      . rw[?dZ hk ?c];simp
 intro c hc;rw[?e5];exact ?T fun k hk=>by rw[x0 i ?i k hk];simp
theorem In.sum{W i:Nat}{R:Mat}{a:?k}{U:Mat}:∀{m:Nat},(∀j,j<m->In W i R (U j))->In W i R (?a1X ?vJ)
 | 0,_=>?rT W i R
 | m+1,h=>by
   have:=(?AE (a:=a) (U:=U) (m:=m) (?a1Z h)).mix (h m O9m) 1 (a m)
   exact this.congr fun c _=>by
    show 1*?vJ+?kF=?vJ+?kF;omega
theorem Rf[?a6]:∀(n k:Nat),k<n->?gC=?f4*(?x1*f k)
 | n+1,k,h=>by
   by_cases e:k=n
   . subst e;rw[show k+1-1-k=0 by omega];show ?f4*f k=?f4*(1*f k);rw[qd1]
   . show ?qL=_;rw[Rf f n k ?c,show n+1-1-k=?jS+1 by omega];show _=?f4*(?l _ ?jS*f (k+1+?jS)*f k);rw[show k+1+?jS=n by omega]
     grind
theorem Aj1[?O]:∀{n k:Nat},(∀l,l<n->0<f l)->k<n->?f4*f k<=?gC:=fun {n k} h hk=>by
 rw[Rf f n k hk];have a:=B8 (n:=k) fun l hl=>h l O9m;have b:0<?x1:=B8 fun l hl=>?nO;have c:=h k hk;have d:1*f k<=?x1*f k:=?oH;rw[qd1]at d;exact qi5 d O9m
theorem rX{W i:Nat}{R:Mat}[?j][?YD]{κ D c:Nat}(hc:c<W)(hκ:∀j,j<i->?KQ<=κ*?eF)
 (hD:∀k,k<i->?a0U ?s7 D):(v c).natAbs<=i*?xR:=by
 have hp:∀l,l<i->0<?jP l:=fun l hl=>?Z l hl;have EP:=B8 (n:=i) hp
 have key:?k2*v c=?xQ:=by
  have hin:In W i R (?a1X ?O2) :=
   hv.mix (?AE (a:=fun j=>?fD*?lP) (U:=fun j=>Ql R t j ?x3) fun j hj=>QI h O9m) _ _
  have:=h.none ht hin (fun m hm=>?_) c hc
  . show _=_;have t:?O2=0:=this;omega
  . show ?k2*v (t m)+?E*Aj (fun j=>(?fD*?lP)*?VS) i=0;rw[?a0 (j:=m) hm ?AI]
    . rw[fJ h ?c,BQ,Rf ?jP i m hm]
      grind
    . have:?VS=0:=by
       rcases qf7 m j with z | z
       . exact cP h z O9m
       . exact CO h O9m O9m O9m
      ext cA
 have e:=?vQ ?KV key;rw[qb3]at e
 have le:(?xQ).natAbs<=i*(?zH*?xR):=by
  refine Oe ?aB;rw[qb3,qb3];have a1:=?a4B hκ;have a2:=zE h hj (?a4B hD);have a3:=Aj1 hp hj;have a4:=B8 (n:=j) fun l hl=>hp l O9m;have a5:=?a4B hp
  have a6:?pB*?eF<=?zH:=by
   rw[←qb3];have:0<?lP*?a8:=qt7 a4 a5;omega
  calc ?KQ*?pB*(?NI).natAbs
   ≤ κ*?eF*?pB*D:=qf3 (qc0 _ a1) a2
   _=?pB*?eF*?xR:=?D
   _<=_:=qc0 _ a6
 rw[←e]at le;have E1:0<?zH:=O9m
 refine qs3 (qa5 le ?WW) E1
 grind
theorem In.trans{W n m:Nat}{R R':Mat}{v:?k}(hv:In W n R v)(h:∀j,j<n->In W m R' ?iC):In W m R' v:=by
 obtain⟨x,hx⟩:=hv;exact(?AE (a:=x) (U:=R) h).congr fun c hc=>(?e5).symm
def nF(W n:Nat)(R R':Mat):Prop:=(∀j,j<n->In W n R (R' j))/\(∀j,j<n->In W n R' ?iC)
theorem nF.refl(W n:Nat)(R:Mat):?a2I R:=⟨?DF,?DF⟩
theorem nF.trans{W n:Nat}{R S T:Mat}(h1:?a2I S)(h2:nF W n S T):?a2I T:=⟨fun j hj=>(h2.1 j hj).trans h1.1,fun j hj=>(h1.2 j hj).trans h2.2⟩
def E4(n:Nat)(R R':Mat):Prop:=∀s:?v,(det n (?a1Q R')).natAbs=(?a4I ?BT).natAbs
theorem E4.refl(n:Nat)(R:Mat):E4 n R R:=fun _=>rfl
theorem E4.trans{n:Nat}{R S T:Mat}(h1:E4 n R S)(h2:E4 n S T):E4 n R T:=fun s=>(h2 s).trans (h1 s)
theorem Mh(R:Mat)[?CZ](s:?v):(fun r l=>Bu R p u r ?b4)=Bu ?q9 p (fun l=>u ?b4):=by
 funext r l
 unfold Bu;split<;>rfl
def addR[?gW](k:Int):Mat:=Bu R p ?HB
theorem Cd[?gW](k:Int)(c:Nat):?o R p q k p c=?TZ:=Bl ..
theorem C3[?tS]{k:Int}(h:?gF)(c:Nat):?o R p q k r c=?bF:=Bt h c
theorem UQ[?dQ](R:Mat)[?b2](k:Int):E4 n R ?fZ:=fun s=>by
 unfold addR;rw[Mh];have:=UH ?q9 hp hq ne k;rw[show(fun l=>1*R p ?b4+?RJ)=fun l=>R p ?b4+?RJ from ?a7 fun l=>?DR,this]
theorem uQ{W n p q:Nat}(R:Mat)[?b2](k:Int):?a2I ?fZ:=by
 ext t8
 . ext jK
   . subst e;exact(?uG ?L6 1 k).congr fun c _=>(Cd R j q k c).symm
   . exact ?mT fun c _=>(?vX).symm
 . ext jK
   . subst e;refine((?a1Y ?N3).mix (?J (R:=?N3) hq) 1 (-k)).congr ?VB;rw[Cd,C3 ?fA];show 1*(1*?eJ+k*R q c)+-k*R q c=?eJ;rw[qo6];omega
   . exact(?a1Y ?IH).congr fun c _=>?vX
def Gc(R:Mat)(p:Nat):Mat:=Bu R p fun c=>- ?cP
theorem TL{n p:Nat}(R:Mat)[?dS]:E4 n R ?j2:=fun s=>by
 unfold Gc;rw[Mh,uH ?q9 hp,qc4]
theorem tL{W n p:Nat}(R:Mat)[?dS]:?a2I ?j2:=by
 ext t8
 . ext jK
   . subst e;exact(?uG (?mS) ?E 0).congr ?W7
   . exact ?mT fun c _=>(Bt e c).symm
 . ext jK
   . subst e;exact((?QB).mix (?QB) ?E 0).congr ?W7
   . exact(?J (R:=Gc R p) hj).congr fun c _=>Bt e c
def blendR[?gW][?eS]:Mat:=Bu (Bu R p ?I8) q ?DD
theorem F9{R:Mat}{p q:Nat}(ne:?gD)[?eS](k:Nat):?a2N p=?GI:=by unfold blendR;rw[Bt ne,Bl]
theorem Il[?gW][?eS](k:Nat):?a2N q=?OA:=by unfold blendR;rw[Bl]
theorem Dv[?tS](h1:?gF)(h2:r≠q)[?eS](k:Nat):?a2N r=R r k:=by unfold blendR;rw[Bt h2,Bt h1]
theorem mW[?dQ](R:Mat)[?b2][?tK]:E4 n R ?lK:=fun s=>by
 unfold blendR;rw[Mh,Mh];rw[MJ ?q9 hp hq ne a b c d h]
theorem MV{W n p q:Nat}(R:Mat)[?b2][?tK]:?a2I ?lK:=by
 ext t8
 . ext jK
   . subst e;exact(?uG ?L6 a b).congr fun k _=>(?GH).symm
   . by_cases e2:j=q
     . subst e2;exact((?J hp).mix (?mS) c d).congr fun k _=>(Il R p j a b c d k).symm
     . exact ?mT fun k _=>(?T3).symm
 . ext jK
   . subst e;refine((?a1Y ?DL).mix (?J (R:=?DL) hq) d (-b)).congr ?xP;ext YC
     grind
   . by_cases e2:j=q
     . subst e2;refine((?J (R:=?MI) hp).mix (?a1Y ?MI) (-c) a).congr ?xP;ext YC
       grind
     . exact(?a1Y ?F5).congr fun k _=>?T3
def moveR(R:Mat)(i s:Nat):Mat:=fun r c=>if r<s then ?bF else if r=s then ?eX else if ?c0 then R ?hK c else ?bF
theorem EM{n:Nat}:∀(d:Nat) (R:Mat) {i s:Nat},i<n->i=s+d->E4 n R ?i2
 | 0,R,i,s,hi,e=>by
   have:?mQ=R:=by
    funext r c
    ext cD;by_cases e1:r<s
    . rw[?iL]
    . rw[?aQ];by_cases e2:r=s
      . rw[?h3,e2,?EF]
      . ext CE
   rw[this];exact E4.refl n R
 | d+1,R,i,s,hi,e=>by
   obtain⟨j,rfl⟩:∃j,i=j+1:=?U8
   have h1:E4 n R (?a0Z R):=fun t=>by
    rw[Mh,Mh,aR ?c,qc4]
    rw[show Bu (Bu ?l7 j ?S4) ?a2 (fun l=>R ?a2 ?u)=?A8 from by
     have:=Gn ?l7 j;rw[show(?S4)=?l7 j from rfl,this];exact Gn ?l7 ?a2]
   have h2:=EM (n:=n) d (?a0Z R) (i:=j) (s:=s) O9m O9m
   have e3:?P (?a0Z R) j s=?P R ?a2 s:=by
    funext r c
    ext cD;by_cases e1:r<s
    . rw[?iL,?iL,?iK,?iK]
    . rw[?aQ,?aQ];by_cases e2:r=s
      . rw[?h3,?h3,Bt (show j≠j+1 by omega),Bl]
      . rw[?gP,?gP];by_cases e4:?aK
        . rw[?m e4,?m (show r<=j+1 by omega),Bt (show r-1≠j+1 by omega),Bt (show r-1≠j by omega)]
        . rw[?vA];by_cases e5:r=j+1
          . subst e5;rw[Bl,?L];rfl
          . rw[?f (show ¬r<=j+1 by omega),Bt e5,Bt (?ZT r j)]
   rw[e3]at h2;exact ?H1 h2
theorem oW{W n:Nat}(R:Mat){i s:Nat}[?gV]:?a2I ?i2:=by
 ext t8
 . by_cases e1:j<s
   . exact ?mT ?R1
   . by_cases e2:j=s
     . exact(?J hi).congr fun c _=>by ext cD;rw[?aQ,?h3]
     . by_cases e3:?bN
       . exact(?J (R:=R) (j:=j-1) O9m).congr (?a3S ?yH)
       . exact ?mT (?a3S ?zA)
 . by_cases e1:j<s
   . exact ?P4 ?R1
   . by_cases e2:j=i
     . exact(?J (R:=?mQ) (j:=s) O9m).congr fun c _=>by ext cD;rw[?n,?p,e2]
     . by_cases e3:j<i
       . exact(?J (R:=?mQ) (j:=j+1) O9m).congr fun c _=>by ext cD;rw[?n,?n,?L];rfl
       . exact ?P4 fun c _=>by ext cD;ext C1
theorem sumN_pair{f g:?k}[?dQ][?b2](h:∀k,k<n->k≠p->k≠q->f k=g k)(e:f p+f q=g p+g q):?dV=Aj g n:=by
 have z:?FW=(f p-g p)+(f q-g q):=by
  have e1:?FW=Aj (fun k=>(if k=p then 1 else 0)*(f p-g p)+(if k=q then 1 else 0)*(f q-g q)) n:=by
   refine ?AK;by_cases e1:k=p
   . subst e1;rw[?p,?kT];omega
   . rw[?aQ];by_cases e2:k=q
     . subst e2;rw[?p];omega
     . rw[?gP,h k hk e1 e2];omega
  rw[e1,Ce,Cn (fun _=>f p-g p) p n,?m hp,Cn (fun _=>f q-g q) q n,?m hq]
 rw[Ce,Ax]at z;omega
def pT(n:Nat)(B R:Mat)(a b:Nat):Int:=?TD
theorem GQ[?dQ](B R:Mat)[?b2](k:Int)(a b:Nat):?a3C (?o B q p (-k)) ?fZ:=by
 refine ?BJ hp hq ne (fun j _ h1 h2=>by rw[C3 h2,C3 h1]) ?_;rw[C3 (r:=p) (p:=q) ne,Cd R p q k,Cd B q p (-k),C3 ?fA]
 grind
theorem xQ{n p:Nat}(B R:Mat)(a b:Nat):?a3C (Gc B p) ?j2:=by
 refine ?z5;by_cases e:k=p
 . subst e;unfold Gc;rw[Bl,Bl,Int.neg_mul_neg]
 . unfold Gc;rw[?fH,?fH]
theorem DX[?dQ](B R:Mat)[?b2][?tK](x y:Nat):pT n (?a4H a) ?lK x y=pT n B R x y:=by
 refine ?BJ hp hq ne (fun j _ h1 h2=>by rw[?TJ,?TJ]) ?_;rw[?d8,?d8,Il,Il];have e1:?G7=(a*d-b*c)*(?G7):=?wP
 have e2:?IE=(a*d-b*c)*(?IE):=?wP
 grind
theorem v4[?a6]:∀(d:Nat) {n i s:Nat},i<n->i=s+d->Aj (fun r=>if r<s then f r else if r=s then f i else if ?c0 then f ?hK else f r) n=?dV
 | 0,n,i,s,hi,e=>Ai fun r _=>by
   by_cases e1:r<s
   . rw[?iL]
   . rw[?aQ];by_cases e2:r=s
     . rw[?h3,e2,?EF]
     . ext CE
 | d+1,n,i,s,hi,e=>by
   rw[←v4 f d (n:=n) (i:=i) (s:=s+1) hi ?c];refine ?BJ (p:=s) (q:=s+1) O9m O9m O9m (fun r _ h1 h2=>?_) ?_
   . by_cases e1:r<s
     . rw[?iL,?L]
     . rw[?aQ,?f3,?f (show ¬r<s+1 by omega),?f6]
   . rw[?n,?p,?n,?n,?L,?L,?n,?p];show f i+f (s+1-1)=f s+f i;rw[show s+1-1=s by omega];omega
theorem SW{n:Nat}(B R:Mat){i s:Nat}[?gV](a b:Nat):?a3C (?P B i s) ?i2:=by
 show Aj (fun k=>?P B i s k a*?P R i s k b) n=?TD;rw[←v4 (fun k=>B k a*R k b) (i-s) (n:=n) (i:=i) (s:=s) hi ?c];refine Ai fun r _=>?_;ext cD;split
 . rfl
 . split
   . rfl
   . split<;>rfl
def pD[?V][?U][?eV]:Int:=Aj (fun c=>?vV*B j c) n
def E7[?V][?U]:Prop:=∀i j,i<n->j<n->?UC=?oC
def dot[?V][?n9]:Int:=Aj (fun c=>u ?qG*v c) n
theorem Du[?V](u v x:?k)(a b:Int):?a42 ?oW x=a*?a42 u x+b*?a42 v x:=by
 unfold dot;ext jA;exact Ai fun c _=>by rw[qr3,qd4,qd4]
theorem F1[?V](u x y:?k)(a b:Int):?a42 u (fun c=>a*x c+b*y c)=a*?a42 u x+b*?a42 u y:=by
 unfold dot;ext jA;exact Ai fun c _=>?D
theorem X1[?V][?U][?eV]:?UC=?S5:=rfl
theorem M0[?gW](k:Int):?o R p q k p=?HB:=?a7 fun c=>Cd ..
theorem addR_row_ne[?tS]{k:Int}(h:?gF):?o R p q k r=R r:=?a7 fun c=>C3 h c
theorem blend_row_p{R:Mat}{p q:Nat}(ne:?gD)[?eS]:?a31 ?C p=?I8:=?a7 fun k=>?GH
theorem blend_row_q[?gW][?eS]:?a31 ?C q=?DD:=?a7 fun k=>?a31 Il k
theorem blend_row_ne[?tS](h1:?gF)(h2:r≠q)[?eS]:?a31 ?C r=R r:=?a7 fun k=>Dv h1 h2 a b c d k
theorem E7.add{n w p q:Nat}[?n2][?b2](k:Int):?a2B ?fZ (?o B q p (-k)):=fun i j hi hj=>by
 ext BY
 rw[X1];by_cases e1:i=p
 . subst e1;rw[M0];by_cases e2:j=q
   . subst e2;rw[M0,F1,Du,Du,?bC,?MY,?xX,?VT];rw[?kT,?p,?p,?f ?fA];omega
   . rw[?fS e2,Du,?bC,?EK,show ?ZU q j from ?nF];omega
 . rw[?fS e1];by_cases e2:j=q
   . subst e2;rw[M0,F1,?bC,?WH,?JU];omega
   . rw[?fS e2];exact ?bC
theorem E7.neg{n w p:Nat}[?n2][?dS]:?a2B ?j2 (Gc B p):=fun i j hi hj=>by
 ext BY
 have s1:∀(R:Mat),Gc R p p=fun c=>-1*?cP+0*?cP:=fun R=>?a4Q ?JN
 have s2:∀(R:Mat) {r:Nat},?gF->Gc R p r=R r:=fun R r hr=>?a7 fun c=>Bt hr c;rw[X1];by_cases e1:i=p
 . subst e1;by_cases e2:j=i
   . subst e2;rw[s1,s1,F1,Du,?xF];rw[?p];omega
   . rw[s1,s2 B e2,Du,?bC,?nF];omega
 . by_cases e2:j=p
   . subst e2;rw[s1,s2 R e1,F1,?bC,?aQ];omega
   . rw[s2 R e1,s2 B e2];exact ?bC
theorem E7.blend{n w p q:Nat}[?n2][?b2]{a b c d:Int}(h1:a*d-b*c=1):?a2B ?lK (?a4H a):=fun i j hi hj=>by
 ext BY
 have ne':q≠p:=?BE;rw[X1];by_cases e1:i=p
 . subst e1;rw[?m7];by_cases e2:j=i
   . subst e2;rw[?m7,F1,Du,Du,?xF,D q j hq hi,D j q hi hq,D q q hq hq]
     ext t2
     grind
   . by_cases e3:j=q
     . subst e3;rw[blend_row_q,F1,Du,Du,?xX,D j i hq hi,D i j hi hq,D j j hq hq]
       ext t2
       grind
     . rw[?BK,Du,?bC,?EK,show ?q6 from ?nF,show ?ZU q j from ?a4L e3];omega
 . by_cases e4:i=q
   . subst e4;rw[blend_row_q];by_cases e2:j=p
     . subst e2;rw[?m7,F1,Du,Du,?MY,?bC,?VT,?xX]
       ext t2
       grind
     . by_cases e3:j=i
       . subst e3;rw[blend_row_q,F1,Du,Du,D p p hp hp,D j p hi hp,D p j hp hi,?xF]
         ext t2
         grind
       . rw[?BK,Du,D p j hp hj,?bC,show ?ZU p j from ?nF,show ?q6 from ?a4L e3];omega
   . rw[?vW e1 e4];by_cases e2:j=p
     . subst e2;rw[?m7,F1,?bC,D i q hi hq,show ?q6 from ?aQ,show ?ZU i q from ?vA];omega
     . by_cases e3:j=q
       . subst e3;rw[blend_row_q,F1,?WH,?bC,?JU,show ?q6 from ?vA];omega
       . rw[?BK];exact ?bC
def mvI(i s r:Nat):Nat:=if r<s then r else if r=s then i else if ?c0 then r-1 else r
theorem move_row(R:Mat)(i s r:Nat):?P R i s r=R (?xM):=by
 funext c
 unfold moveR mvI;split
 . rfl
 . split
   . rfl
   . split<;>rfl
theorem E7.move{n w i s:Nat}[?n2][?gV]:?a2B ?i2 (?P B i s):=fun x y hx hy=>by
 rw[X1,move_row,move_row];have l:∀r,r<n->?xM<n:=fun r hr=>?v5
 have:=h _ _ (l x hx) (l y hy);rw[X1]at this;rw[this]
 have inj:(mvI i s x=mvI i s y)↔x=y:=by
  constructor
  . intro e;unfold mvI at e;by_cases a1:x<s<;>by_cases a2:x=s<;>by_cases a3:x<=i<;>by_cases b1:y<s<;>by_cases b2:y=s<;>by_cases b3:y<=i<;>simp only[a1,a2,a3,b1,b2,b3,if_true,if_false]at e<;>first | omega | (subst_vars;simp_all;try omega)
  . intro e;rw[e]
 by_cases e:x=y
 . rw[?c5,?m (inj.mpr e)]
 . rw[?cS,?f fun z=>e (inj.mp z)]
structure Good(n W w lo:Nat)(R B R' B':Mat):Prop where
 eqv:∀m,lo<=m->nF W m R R'
 det:∀m,lo<=m->E4 m R R'
 pt:∀a b,?a3C B' R'
 dual:?HM->?a2B R' B'
 rest:∀r c,lo<=r->?PR
 restB:∀r c,lo<=r->B' r c=B r c
theorem Good.refl(n W w lo:Nat)[?U]:?a02 R B:=⟨fun m _=>nF.refl W m R,fun m _=>E4.refl m R,?eN,id,?hI,?hI⟩
theorem Good.trans[?u0]{R B R' B' S C:Mat}(h1:?uD)(h2:?aR n W w lo R' B' S C):?a02 S C :=
 ⟨?a3I h1.eqv h2.eqv,?a3I h1.det h2.det,fun a b=>(h2.pt a b).trans (h1.pt a b),fun d=>h2.dual (h1.dual d),?a2J h2.rest h1.rest,?a2J h2.restB h1.restB⟩
theorem Good.mono{n W w lo lo':Nat}[?tU](h:?uD)(hl:lo<=lo'):?aR n W w lo' R B R' B':=⟨?a2U h.eqv m,?a2U h.det m,h.pt,h.dual,fun r c hr=>h.rest r c O9m,fun r c hr=>h.restB r c O9m⟩
theorem Good.add{n W w lo p q:Nat}[?U][?Z8](k:Int):?a02 ?fZ (?o B q p (-k)) :=
 ⟨?a0I uQ k,?a0I UQ k,fun a b=>GQ B R O9m O9m ne k a b,fun d=>d.add O9m O9m ne k,?L0,?L0⟩
theorem Good.neg{n W w lo p:Nat}[?U](hp:p<lo)(hn:?rR):?a02 ?j2 (Gc B p) :=
 ⟨?a2U tL R,?a2U TL R,fun a b=>xQ B R a b,fun d=>d.neg O9m,?G4,?G4⟩
theorem Good.blend{n W w lo p q:Nat}[?U][?Z8][?tK]:?a02 ?lK (?a4H a) :=
 ⟨?a0I MV h,?a0I mW h,fun x y=>DX B R O9m O9m ne h x y,fun e=>e.blend O9m O9m ne h,?U9,?U9⟩
theorem Good.move{n W w lo i s:Nat}[?U](hi:i<lo)(hs:s<=i)(hn:?rR):?a02 ?i2 (?P B i s) :=
 ⟨fun m hm=>oW R O9m hs,fun m hm=>EM (i-s) R O9m O9m,fun a b=>SW B R O9m hs a b,fun d=>d.move O9m hs,fun r c hr=>by
  ext j9;ext C1,fun r c hr=>by
  ext j9;ext C1⟩
theorem E7.row{n w i:Nat}[?n2][?d2]:∃c,c<n/\?vV≠0:=by
 refine qg5 ?e6;have e:=h i i hi hi;rw[?p]at e;unfold pD at e;rw[?T ?dI]at e
 . cases e
 . have:?vV=0:=qg5 fun y=>z ⟨c,hc,y⟩;ext cA
theorem jT{x h:Int}{K:Nat}(hh:0<h)(hx:x.natAbs<=K*h.natAbs):?R7<=K:=by
 have e:(h.natAbs:Int)=h:=O9m
 have hx':(x.natAbs:Int)<=?rN*h:=by rw[←e];exact_mod_cast hx
 have u1:x / h<=?rN:=by
  have:x<=?rN*h:=O9m
  exact Int.ediv_le_of_le_mul hh ?K
 have u2:-?rN<=x / h:=by
  refine(Int.le_ediv_iff_mul_le hh).mpr ?_;rw[qo6];omega
 omega
structure Part(R:Mat)[?s](f m:Nat):Prop where
 inc:∀j k,?fI->j<k->k<m->?pO
 zero:∀j c,?fI->j<m->?zY
 pos:∀j,?fI->j<m->?lQ
 red:∀k j,f<=k->k<j->j<m->?x7
structure ND(n W w lo:Nat)[?U][?s](p f m j μ:Nat)(R' B':Mat):Prop where
 good:?uD
 same:?UH
 left:∀c,(∀l,f<=l->l<m->c<t l)->?lG=?cP
 red:∀l,f<=l->l<j->?QR
 rel:∀l,j<=l->l<m->?a0O ?gK ?rQ
 ins:∀W',∃v:?k,In W' lo R v/\∀c,?lG=?cP+v c
theorem ND.start[?u0][?d1][?j]{p f m μ:Nat}[?YA]:ND n W w lo R B t p f m f μ R B :=
 ⟨?pI,?hI,?eN,fun l h1 h2=>O9m,fun l h1 h2=>by rw[qh6,qx7,qf4];exact h l h1 h2,fun W'=>⟨?gN,?rT W' lo R,fun c=>by show ?cP=?cP+0;omega⟩⟩
theorem AY[?gW]:?o R p q 0=R:=by
 funext r c
 ext jL
 . subst e;rw[Cd];omega
 . exact ?vX
theorem ND.step[?u0][?tU][?j]{p f m j μ:Nat}(h:ND n W w lo R B t p f m j μ R' B')(P:?nM)(hf:?fI)(hj:j<m)[?Z3] :
 ?LW<=2 ^ (j-f)*μ/\ND n W w lo R B t p f m ?a2 μ (?o R' p j (-(?g4))) (?o B' j p (?g4)):=by
 have hh:=P.pos j hf hj;have ne:p≠j:=O9m
 have q1:=jT hh (h.rel j ?i hj);refine(?a3Z q1);generalize hq:?g4=q at q1;have rj:∀c,?HJ:=fun c=>h.same j c ?fA;refine⟨?pX ?_,?EN,?dI,?h4,?h4,fun W'=>?_⟩
 . have:=?QN (n:=n) (W:=W) (w:=w) (lo:=lo) R' B' hp (show j<lo by omega) hn ne ?dY;rw[qo5]at this;ext aN
 . rw[C3 hr];exact h.same r c hr
 . rw[Cd,h.left c hc,rj,?yM j c hf hj (hc j hf hj)];simp
 . rw[Cd,rj];by_cases e:l=j
   . subst e;have d1:=qm3 (?gK) (?ZT ?gG 0);have d2:=qk5 (?gK) hh;have d3:=Int.mul_ediv_add_emod (?gK) (?gG);rw[hq]at d3;have d4:?gG*q=q*?gG:=?wW;rw[qo6];omega
   . have z:?hP=0:=?yM j _ hf hj (P.inc l j h1 O9m hj);rw[z,qc7,qm5,qd1];exact ?hC l h1 O9m
 . rw[Cd,rj];have a:=?a2P h.rel;obtain⟨b1,b2⟩:=P.red j l hf O9m h2;have b:?a0O ?hP ?eB:=O9m
   have c:=qf0 (1*?gK) (-q*?hP);rw[qd1]at c;rw[qd1]
   have d:(-q*?hP).natAbs<=?rQ:=by
    rw[qb3,qc4];exact qf3 q1 b
   rw[show j+1-f=(j-f)+1 by omega,qh3];have e:2 ^ (j-f)*2*μ*?eB=?rQ+?rQ:=?D
   omega
 . obtain⟨v,hv,hc⟩:=h.ins W';refine⟨fun c=>1*v c+?dY*?eJ,hv.mix ?WD 1 ?dY,?a1X ?_⟩;rw[Cd,hc c,rj]
   grind
def Bits(n W b:Nat)(R:Mat):Prop:=∀r c,r<n->c<W->?h0<?A
theorem fP{x y a k:Int}{b c:Nat}(hx:x.natAbs<?A)(hy:y.natAbs<?A)(ha:a.natAbs<?z)(hk:?GT):?J5<2 ^ (b+c+1):=by
 have e:=?KJ;rw[qb3,qb3]at e;have u:a.natAbs*x.natAbs<?sP:=?a28 ha hx
 have v:k.natAbs*y.natAbs<?sP:=?a28 hk hy
 rw[?yI,qh3];omega
theorem Bits.mono{n W b b':Nat}[?n3](hb:b<=b'):?a38 b' R:=?GF
theorem Bits.add{n W b c p q:Nat}[?n3][?dS][?CF]:?a38 (b+c+1) ?fZ:=fun r x hr hx=>by
 ext jL
 . subst e;rw[Cd]
   have h1:(1:Int).natAbs<2 ^ ?aO:=by
    have:1<=?z:=ql4;rw[qh3];show 1<_;omega
   have e1:=qf0 (1*?mE) (k*R q x);rw[qd1,qb3]at e1;rw[qd1];have u:k.natAbs*(R q x).natAbs<?sP:=?a28 hk (h q x hq hx)
   have v:?K1<?sP:=?IO;rw[?yI,qh3];omega
 . rw[C3 e];exact ?IO
theorem Bits.blend{n W b e p q:Nat}[?n3][?b2][?XM]:?a38 (b+e+1) (?C R p q x y z u):=fun r c hr hc=>by
 by_cases e1:r=p
 . subst e1;rw[?d8];exact fP ?iS (h q c hq hc) hx hy
 . by_cases e2:r=q
   . subst e2;rw[Il];exact fP (h p c hp hc) ?iS hz hu
   . rw[?MB];exact qb4 ?iS (?q5)
theorem Bits.neg{n W b p:Nat}[?n3]:?a38 b ?j2:=fun r c hr hc=>by
 unfold Gc;ext jL
 . subst e;rw[Bl,qc4];exact ?qQ
 . rw[?fH];exact ?qQ
theorem Bits.move{n W b i s:Nat}[?n3][?gV]:?a38 b ?i2:=fun r c hr hc=>by
 rw[move_row];exact h _ c (?v5) hc
structure Dk[?j8](R0 B0:Mat)[?s](π b:Nat)(spot:Nat)[?U]:Prop where
 good:?xN
 zero:?LH
 pos:?JV
 old:∀j c,spot<=j->j<i->?eJ=R0 j c
 pass:∀j c,?l2->c<=t j->?hV
 pv:∀l,spot<=l->l<i->(R i ?u).natAbs<=?N
 gc:∀r c,?c0->G c->?h0<=2 ^ (?nP)
structure Jo[?j8](R0 B0:Mat)[?s](π b:Nat):Prop where
 hi:i<n
 part:?e0 R0 t 0 i
 lt:?vM
 hd:?a4F ?MR ?N
 rw:∀r c,r<i->G c->?a0O ?AM ?A
 ri:∀c,G c->(R0 i c).natAbs<=?A
 rp:∀l,l<i->(R0 i ?u).natAbs<=?N
theorem Part.sub{R:Mat}[?j]{f f' m:Nat}(h:?nM)(hf:f<=f'):?e0 R t f' m:=⟨fun j k h1=>?cN j k O9m,fun j c h1=>?aY j c O9m,fun j h1=>?k5,fun k j h1=>?hC k j O9m⟩
theorem Part.congr{R R':Mat}[?j]{f m:Nat}(h:?nM)(e:∀j c,?fI->j<m->?HJ):?e0 R' t f m :=
 ⟨?cN,fun j c h1 h2 h3=>by rw[e j c h1 h2];exact ?V4,fun j h1 h2=>by rw[e j _ h1 h2];exact ?Z j h1 h2,fun k j h1 h2 h3=>by rw[e k _ h1 ?c,e j _ ?c h3];exact ?DE⟩
theorem Dk.start[?a4]{R0 B0:Mat}[?j]{π b:Nat}(h:?AS):Dk n W w i G R0 B0 t π b 0 R0 B0:=by
 refine⟨?pI,fun j c hj hc=>h.part.zero j c ?aG hj hc,fun j hj=>h.part.pos j ?aG hj,?A1,?sW,fun l _ hl=>h.rp l hl,?e3⟩;have e:?A<=2 ^ (?iF+0*?hG):=?q5;by_cases z:r=i
 . subst z;exact qa5 (h.ri c hc) e
 . exact qa5 (?a3Y h.rw r) e
theorem Dk.skip[?a4][?eR][?j][?n7](h:?BM)(hz:∀c,?iE->?hV):?a0R R B:=by
 refine⟨h.good,?aY,?Z,fun j c hj=>?bU j c O9m,?fB,fun l hl=>h.pv l O9m,fun r c hr hc=>qa5 (?A5) (qf1 ?W ?_)⟩
 . ext n5
   . subst e;exact hz c hc
   . exact ?a3Y h.pass j
 . rw[qf5];omega
structure Zx[?j8][?U][?s](b p spot μ:Nat)(R' B':Mat):Prop where
 good:?aR n W w ?g R B R' B'
 same:?UH
 left:∀c,?iE->?lG=?cP
 red:∀l,?e4->l<i->?QR
 gc:∀c,G c->?DQ<=?SX+2 ^ ?aW*μ*?A
structure l8[?j8][?U][?s](b p spot μ j:Nat)(R' B':Mat):Prop where
 s:ND n W w ?g R B t p ?q i j μ R' B'
 gc:∀c,G c->?DQ+μ*?A<=?SX+?wQ
theorem l8.start[?a4][?d1][?j][?D4][?C3]:l8 n W w i G R B t b p ?d μ ?q R B :=
 ⟨?LE ?DK,fun c _=>by rw[qh6,qx7,qf4];ext dR⟩
theorem l8.step[?a4][?tU][?j]{b p spot μ j:Nat}(h:?a2A j)[?CU][?C8](hf:spot<j)(hj:j<i)[?CP] :
 ?LW<=?wV/\l8 n W w i G R B t b p ?d μ ?a2 (?o R' p j (-(?g4))) (?o B' j p (?g4)):=by
 obtain⟨q,s⟩:=h.s.step P O9m hj O9m O9m O9m O9m;refine⟨qa5 q (qc0 _ (?q5)),s,?dI⟩;have ne:p≠j:=O9m
 rw[Cd,?TV j c ?fA];have a:=?MP;have e:=qf0 (1*?lG) (-(?g4)*?eJ);rw[qd1,qb3,qc4]at e;rw[qd1];have m:=qf3 q (hG j c hf hj hc);rw[show j+1-?q=(j-?q)+1 by omega,qh3];have z:2 ^ (j-?q)*2*μ*?A=?wQ+?wQ:=?D
 omega
theorem l8.done[?a4][?tU][?j][?D4](h:?a2A i)(P:?vB):Zx n W w i G R B t b p ?d μ R' B' :=
 ⟨h.s.good,?TV,fun c hc=>h.s.left c fun l h1 h2=>by have:=?a2P P;omega,fun l h1 h2=>?a2P h.s.red,fun c hc=>by have:=?MP;omega⟩
theorem C5{a b:Nat}(h:a<=b):2 ^ a<=?A:=qf1 ?W h
theorem TN{x y a b:Nat}(hx:x<=2 ^ a)(hy:y<=?A):x*y<=2 ^ (a+b):=by rw[qe4];exact qf3 hx hy
theorem Dk.addPre[?a4][?eR][?j][?n7][?eQ][?eU]{q:Int}(hq:?wD) :
 ∀l,?e4->l<i->(?o R i ?d ?dY i ?u).natAbs<=?k4*(?o R i ?d ?dY l ?u).natAbs:=fun l h1 h2=>by
 rw[Cd,C3 (?ZT l i)];ext X4;have a:=?AT;have e:=qf0 (1*R i ?u) (-q*?HW);rw[qd1,qb3,qc4]at e;rw[qd1];have m:q.natAbs*?PT<=?sT:=qf3 hq O9m;have m2:?N*1<=?sT:=?z6;rw[qh3];have z:?N*2*?eB=?sT+?sT:=?D
 omega
theorem Dk.metAdd[?a4]{R0 B0 R B R2 B2:Mat}[?j][?n7][?eQ][?eU]{q:Int}(hq:?wD)[?tI][?ZC]
 (S:Zx n W w i G (?D8) (?TO) t b i ?d (?k4) R2 B2):?a0R R2 B2:=by
 have ne:i≠spot:=O9m
 have keep:∀r c,?rS->R2 r c=?bF:=fun r c hr=>by rw[?h5 r c hr,C3 hr]
 refine⟨?_,fun j c hj hc=>by rw[?K2];exact ?NZ,fun j hj=>by rw[?eM j _ ?c];exact ?sV,fun j c hj hji=>by rw[?K2];exact ?VC,?fB,?h4,?e3⟩
 . have g:=?QN (n:=n) (W:=W) (w:=w) (lo:=i+1) R B (?a13 i) (?a13 spot) ?bV ne ?dY;rw[qo5]at g;exact ?HD S.good
 . have ts:?iE:=by
    ext n5
    . rw[←e];exact hc
    . ext YU
   rw[S.left c ts,Cd];by_cases e:c=?d5
   . rw[e,he,qd1,qo6];omega
   . rw[?J1,?aY ?d c hs ?c];simp
 . obtain⟨a,c⟩:=?a2P S.red;rw[C3 (?ZT l i)]at c;ext Y5
 . ext XI
   rw[zb];generalize hz2:?nP=z;have hzb:?iF<=z:=?PG
   by_cases e:r=i
   . subst e;have a:=S.gc c hc;have g:=?iN r c ?i hc;rw[hz2]at g;have rs:?UV:=?F6
     have e1:=qf0 (1*?bF) (-q*?i7);rw[qd1,qb3,qc4]at e1;rw[Cd,qd1]at a;have m1:=TN hq rs
     have m2:2 ^ (r-?q)*?k4*?A<=?AZ:=by
      ext YK
     have m3:?RD<=?AZ:=?B5;have m4:4*?AZ=2 ^ z:=?a19 z z
     have m5:2*2 ^ z<=2 ^ (z+π+1):=by rw[show z+π+1=1+(z+π) by omega,qe4];exact qf3 ?W ?bX
     omega
   . rw[?eM r c e];have g:=?A5;rw[hz2]at g;exact qa5 g ?bX
structure kK(π:Nat)(h0 o0 x y z u:Int):Prop where
 one:x*u-y*z=1
 hd:0<x*h0+y*o0
 ot:z*h0+u*o0=0
 lx:?vD
 ly:?vS
 lz:z.natAbs<=?N
 lu:u.natAbs<=?N
theorem JM{x y a c:Int}{π h:Nat}(hx:?vD)(hy:?vS)(ha:a.natAbs<=h)(hc:c.natAbs<=?N)(h1:1<=h):(x*a+y*c).natAbs<=?bA*h:=by
 have e:=qf0 (x*a) (y*c);rw[qb3,qb3]at e;have m1:x.natAbs*a.natAbs<=?oJ:=qf3 (qa5 hx ?bX) ha;have m2:y.natAbs*c.natAbs<=?oJ:=qa5 (TN hy hc) (by rw[show π+π=2*π by omega];exact qi0 _ h1);rw[qh3];have z:?M8*2*h=?oJ+?oJ:=?D
 omega
theorem Dk.blendPre[?a4][?eR][?j][?n7][?eQ][?eU][?C4] :
 (?a00 ?d)/\(?a00 i):=by
 have ne:?xL:=O9m
 have base:∀l,?e4->l<i->?PT<=?eB/\1<=?eB:=fun l h1 h2=>by
  ext X4;omega
 refine⟨?h4,?h4⟩
 . rw[?d8,?wJ];exact JM e.lx e.ly (?qF).1 (?AT) (?qF).2
 . rw[Il,?wJ];exact JM e.lz e.lu (?qF).1 (?AT) (?qF).2
theorem Dk.metBlend[?a4]{R0 B0 R B R2 B2 R3 B3:Mat}[?j][?n7][?eQ][?eU][?C4][?tI]
 (S1:Zx n W w i G (?wN) (?C B ?d i u (-z) (-y) x) t b ?d ?d (?bA) R2 B2) (S2:Zx n W w i G R2 B2 t b i ?d (?bA) R3 B3):?a0R R3 B3:=by
 have ne:?xL:=O9m
 have keep:∀r c,?rS->?WQ->R3 r c=?bF:=fun r c h1 h2=>by rw[S2.same r c h1,?kV r c h2,Dv h2 h1]
 have rs:∀c,R3 ?d c=R2 ?d c:=fun c=>S2.same ?d c ne;have r2i:∀c,R2 i c=z*?i7+u*?eX:=fun c=>by rw[?kV i c (fun w=>ne w.symm),Il]
 have gz:∀c,c<?d5->?i7=0:=fun c hc=>?aY ?d c hs hc;refine⟨?_,?fB,?aB,fun j c hj hji=>by rw[?eM j c ?c ?c];exact ?VC,?fB,?h4,?e3⟩
 . have g:=Good.blend (n:=n) (W:=W) (w:=w) (lo:=i+1) R B (?a13 spot) (?a13 i) ?bV ne e.one;exact(?HD S1.good).trans S2.good
 . by_cases e1:?hH
   . subst e1;rw[rs,S1.left c ?c,?d8,gz c hc,hz c hc];simp
   . rw[?eM j c ?c e1];exact ?NZ
 . by_cases e1:?hH
   . subst e1;rw[rs,S1.left _ ?i,?d8];exact e.hd
   . rw[?eM j _ ?c e1];exact ?sV
 . have ts:?iE:=by
    by_cases e1:?hH
    . rw[←e1];exact hc
    . ext YU
   rw[S2.left c ts,r2i];by_cases e1:c=?d5
   . rw[e1];exact e.ot
   . rw[?J1,gz c ?c];simp
 . obtain⟨a,c⟩:=?a2P S2.red;rw[?HO,?wJ]at c;ext Y5
 . ext XI
   rw[zb];have g0:=?a3Y ?iN ?d;have gi:=?iN i c ?i hc;have gr:=?A5;generalize hz2:?nP=zz at g0 gi gr;have hzb:?iF<=zz:=?PG
   have rsb:?UV:=?F6
   have bnd:∀{x y:Int},?vD->?vS->(x*?i7+y*?eX).natAbs+2 ^ ?aW*?bA*?A<=2 ^ (zz+π+1):=fun {x y} hx hy=>by
    have e1:=qf0 (x*?i7) (y*?eX);rw[qb3,qb3]at e1;have m1:=TN hx rsb;have m2:=TN hy gi
    have m3:2 ^ ?aW*?bA*?A<=?zJ:=by
     ext YK
    have m4:?RD<=?zJ:=?B5;have m5:4*?zJ=2 ^ zz:=?a19 zz zz
    have m6:2 ^ zz<=2 ^ (π+zz):=?f2;have m7:2 ^ (zz+π+1)=2*2 ^ (π+zz):=by rw[show zz+π+1=1+(π+zz) by omega,qe4,Nat.pow_one]
    omega
   by_cases e1:r=i
   . subst e1;have a:=S2.gc c hc;rw[r2i]at a;exact qa5 a (bnd e.lz e.lu)
   . by_cases e2:?wG
     . subst e2;have a:=S1.gc c hc;rw[?d8]at a;rw[rs];exact qa5 a (bnd e.lx e.ly)
     . rw[?eM r c e1 e2];exact qa5 gr ?bX
def insT[?s](s st:Nat):?v:=fun r=>if r<s then t r else if r=s then st else t ?hK
structure UU[?j8](R0 B0:Mat)(t1:?v)(Y:Nat)[?U]:Prop where
 good:?xN
 s0:Ic ?g R t1
 lt:∀j,?bN->t1 j<W
 pg:∀j,?bN->G (t1 j)
 gc:∀r c,?c0->G c->?h0<=?qU
theorem Dk.ins[?a4][?eR][?j]{π b spot st:Nat}[?eQ][?XC] :
 UU n W w i G R0 B0 ?aP ?eA (?VU) (?G3):=by
 have row:∀c,?FO=?eX:=fun c=>by ext j9;ext t9
 have lo:∀r c,r<spot->?qX=?bF:=fun r c hr=>by ext j9;rw[?wO]
 have up:∀r c,?hF->?c0->?qX=R ?hK c:=fun r c hr hi=>by ext j9;rw[?n,?n,?oZ]
 have gm:?aR n W w ?g R0 B0 ?pL (?xS):=?pX (Good.move R B O9m hs ?bV)
 have tl:∀j,?l2->t j<st:=fun j hj=>by
  refine qk6 fun z=>h1 (h.pass j st hj z)
 have inc:∀j k,j<k->k<i+1->?jZ<?gJ t ?d st k:=fun j k hjk hk=>by
  unfold insT;by_cases a1:?l2
  . rw[?q3];by_cases b1:k<spot
    . rw[?m b1];exact ?hR j k ?aG hjk O9m
    . rw[?f b1];by_cases b2:k=spot
      . rw[?m b2];exact tl j a1
      . rw[?f b2];exact ?a1T j
  . rw[?oN,?f (show ¬k<spot by omega),?f (show ¬k=spot by omega)];by_cases a2:?hH
    . rw[?y5];have e:=hex O9m;by_cases e2:k-1=spot
      . rw[e2];exact e
      . exact qv0 e (?a1T ?d)
    . rw[?vN];exact ?a1T ?iG
 have zero:∀j c,j<i+1->c<?jZ->?a4A j c=0:=fun j c hj hc=>by
  unfold insT at hc;by_cases a1:?l2
  . rw[?q3]at hc;rw[lo j c a1];exact ?a3Y ?aY j
  . rw[?oN]at hc;by_cases a2:?hH
    . rw[?y5]at hc;rw[a2,row];exact h0 c hc
    . rw[?vN]at hc;rw[up j c ?c ?c];exact ?a3Y ?aY ?iG
 have Ag8:∀j,j<i+1->j≠spot->0<?a4A j (?jZ):=fun j hj hne=>by
  unfold insT;by_cases a1:?l2
  . rw[?q3,lo j _ a1];exact ?k5
  . rw[?oN,?vC,up j _ ?c ?c];exact ?Z ?iG O9m
 have ts:?gJ t ?d st ?d=st:=?OR
 have bd:∀r c,?c0->G c->(?qX).natAbs<=2 ^ ?eA:=fun r c hr hc=>by
  rw[move_row]
  have lm:mvI i ?d r<=i:=by
   unfold mvI;by_cases a1:r<spot
   . rw[?q3];omega
   . rw[?oN];by_cases a2:?wG
     . rw[?y5];omega
     . rw[?vN,?wO];omega
  refine qa5 (?iN _ c lm hc) (C5 ?_);have:=qc0 ?hG hs;omega
 have lt:∀j,?bN->?jZ<W:=fun j hj=>by
  unfold insT;split
  . exact ?a4R H.lt
  . split
    . exact hW
    . exact H.lt ?iG O9m
 have pg:∀j,?bN->G (?jZ):=fun j hj=>by
  unfold insT;split
  . exact ?a4R ZU
  . split
    . exact hG
    . exact ZU ?iG O9m
 by_cases neg:?jT
 . rw[?m neg,?m neg];have nr:∀c,Gc ?pL ?d ?d c=- ?FO:=fun c=>Bl ..;have nn:∀r c,?WQ->Gc ?pL ?d r c=?qX:=fun r c hr=>Bt hr c;refine⟨gm.trans (Good.neg _ _ O9m ?bV),⟨inc,?fB,?aB⟩,lt,pg,?e3⟩
   . ext n5
     . have z:=?GY;rw[e]at z ⊢;rw[nr,z];rfl
     . rw[nn j c e];exact ?GY
   . ext n5
     . rw[e,nr,ts];omega
     . rw[nn j _ e];exact ?P1
   . by_cases e:?wG
     . have z:=?GP;rw[e]at z ⊢;rw[nr,qc4];exact z
     . rw[nn r c e];exact ?GP
 . rw[?f neg,?f neg];refine⟨gm,⟨inc,zero,?aB⟩,lt,pg,bd⟩;ext n5
   . rw[e,ts];have:?UU≠0:=by rw[row];exact h1
     omega
   . exact ?P1
structure N9(n W w i:Nat)(R0 B0:Mat)[?s](k:Nat)[?U]:Prop where
 good:?xN
 s0:?T4
 old:∀r c,r<k->?bF=?AM
 red:∀r j,k<=r->r<j->?bN->0<=R r ?G/\R r ?G<?a8
 hd:∀j,?bN->?a8=?MR
theorem N9.start{n W w i:Nat}[?d1][?j](h:?T4):N9 n W w i R B t ?g R B:=⟨?pI,h,?hI,fun r j h1 h2 h3=>O9m,?eN⟩
theorem N9.part{n W w i:Nat}[?eR][?j]{k:Nat}(h:N9 n W w i R0 B0 t k R B):?e0 R t k ?g:=⟨fun j l _ h1 h2=>?uS j l h1 h2,fun j c _ h1 h2=>?N1 j c h1 h2,fun j _ h1=>?RK j h1,fun r j h1 h2 h3=>?hC r j h1 h2 O9m⟩
theorem N9.next{n W w i:Nat}{R0 B0 R B R' B':Mat}[?j]{k μ:Nat}(h:N9 n W w i R0 B0 t ?bO R B)(hk:k<=i)(S:ND n W w ?g R B t k ?bO ?g ?g μ R' B'):N9 n W w i R0 B0 t k R' B':=by
 have tl:∀c,c<=t k->R' k c=?hU:=fun c hc=>S.left c fun l h1 h2=>by have:=?uS k l O9m h2;omega
 refine⟨?pX S.good,⟨?uS,?fB,?aB⟩,?EN,fun r j h1 h2 h3=>?_,?aB⟩
 . ext bE
   . subst e;rw[tl c ?c];exact ?R4
   . rw[?h5 j c e];exact ?R4
 . ext bE
   . subst e;rw[?FD];exact ?MO
   . rw[?M9];exact ?MO
 . rw[?h5 r c ?c];exact ?bU r c O9m
 . rw[?h5 j _ (?ZT j k)];by_cases e:r=k
   . subst e;exact S.red j O9m O9m
   . rw[?h5 r _ e];exact ?hC r j O9m h2 h3
 . ext bE
   . subst e;rw[?FD];exact ?TM
   . rw[?M9];exact ?TM
structure Dq[?j8](M B0:Mat)[?s][?U]:Prop where
 good:?a3N i M
 st:Dc W i R t
 pg:?x6
theorem Dq.start(n W w:Nat)(G:?aH)(M B0:Mat)[?s]:Dq n W w 0 G M B0 t M B0:=⟨?pI,⟨?i9,fun j k _ hk=>O9m,?sW,?i9,fun k j _ hj=>O9m⟩,?i9⟩
theorem Dq.next[?a4]{M B0 R B R1 B1 R2 B2:Mat}{t t1:?v}{Y:Nat}[?gS](I:UU n W w i G R B t1 Y R1 B1)(D:?EC):Dq n W w ?g G M B0 t1 R2 B2 :=
 ⟨((h.good.mono O9m).trans I.good).trans D.good,⟨?a1Z I.lt,D.s0.inc,D.s0.zero,?M3,fun k j h1 h2=>D.red k j ?aG h1 O9m⟩,?a1Z I.pg⟩
theorem Dq.rows{n W w:Nat}[?bQ][?j][?CL](hw:w<=W):Eb n w M R:=by
 have e:=?JS;have cut:∀{S:Mat}{v:?k},In W n S v->?a30 S v:=fun⟨x,hx⟩=>⟨x,fun c hc=>hx c O9m⟩
 refine⟨fun i hi=>cut (e.1 i hi),fun i hi=>cut (e.2 i hi),?_⟩
 obtain⟨r,hr,h1,h2⟩:?SG:=by
  have:?EZ:=by
   intro m
   induction m with
   | zero=>ext Y9
   | succ m ih =>
     ext YB
     . have hrm:r=m:=by
        ext YG;have:=?jQ r m y O9m;omega
       exact⟨m+1,?hE,fun j hj=>by
        by_cases q:j=m
        . rw[q];exact z
        . exact ?a4R b,?yJ⟩
     . exact⟨r,O9m,b,fun j h1 h2=>by
        by_cases q:j=m
        . rw[q];omega
        . exact ?VP⟩
  exact ?NC
 exact⟨r,t,hr,?U5,?UD⟩
def unit(e:Int)(j:Nat):?k:=fun c=>if c=j then e else 0
noncomputable abbrev tr(T:Mat):Mat:=?F9
structure Id(n w r:Nat)(e:Int)(T:Mat):Prop where
 rn:?b5
 rw:?gL
 row0:?EP
 col0:?MN
 rows:?U1
 cols:?TR
theorem Id.flip[?tL](h:?oB):Id w n r e ?dJ:=⟨h.rw,h.rn,fun i c h1 h2 h3=>?vE c i h3 h1 h2,fun i c h1 h2 h3=>h.row0 c i h2 h3 h1,h.cols,h.rows⟩
theorem R6{n w r r':Nat}{e:Int}{T:Mat}[?j](he:0<e)(hr:?gL)(hr':r'<=n)(hst:Dc w r' T t)(hz:∀i c,r'<=i->?OD)[?Y3] :
 r'=r/\(?BI)/\?qR:=by
 have tl:∀j,j<r'->t j<r:=fun j hj=>by
  ext jC;have p:=?r2;rw[hc j ?G ?c z (?a4B ?e1)]at p;omega
 have main:∀j,j<=r->j<=r'/\(∀k,k<j->?o1)/\∀k,k<j->?a9∣e:=by
  intro j
  induction j with
  | zero=>intro _;exact⟨?b1,?uI,?uI⟩
  | succ j ih =>
    intro hj;obtain⟨a,b,c⟩:=?cF;obtain⟨x,hx⟩:=(?a4R Pa).sub hr' hz;have v0:∀k,k<j->?b0 e j ?a3=0:=fun k hk=>by rw[b k hk];exact ?f O9m
    obtain⟨x0,x1⟩:=?vH hx j a v0;have ej:?AH=e:=?p
    have lt:j<r':=by
     ext jC
     have:?AH=0:=by
      rw[?O1];exact ?a3A ?c
     omega
    have tj:t j=j:=by
     refine qj1 ?g6 (?lL j lt)
     have:?AH=0:=by
      rw[?O1];refine ?T ?kL;by_cases e1:k<j
      . rw[x0 k e1];simp
      . rw[?g9 k j hk (qb4 z (?E2 j k ?c hk))];simp
     omega
    have d:=x1 lt;rw[tj,ej]at d;refine⟨lt,?kL,?kL⟩
    . by_cases e1:k=j
      . rw[e1];exact tj
      . exact b k O9m
    . by_cases e1:k=j
      . rw[e1];exact⟨x j,by rw[d,qe8]⟩
      . exact c k O9m
 obtain⟨a,b,c⟩:=main r ?i;refine⟨qj1 ?g6 a,b,c⟩;have:=tl r z;have:=?lL r z;omega
theorem W2[?tL][?j](HD:?b5)(hrw:?gL)[?YP][?Y3]:?TR:=by
 have ch:∀j,∃x:?k,j<r->∀c,c<w->?VN=?ZQ ?c6 r:=fun j=>by
  by_cases hj:j<r
  . obtain⟨x,hx⟩:=(?a4B Pa).sub HD hz;exact ?LB
  . exact⟨?gN,fun z=>?f8 z hj⟩
 obtain⟨X,hX⟩:∃X:?kY,∀j,j<r->∀c,c<w->?VN=Aj (fun k=>X j k*?c6) r:=Classical.axiomOfChoice ch
 have key:∀i,i<r->∀j,j<r->Aj (fun c=>?fU*X c j) r=?J7:=by
  intro i hi
  have hz0:∀c,c<w->(?G9) c=?KS:=by
   intro c hcw
   have e1:?KS=Aj (fun j=>Aj (fun d=>?yN*?gO) r+?E*((if j=i then 1 else 0)*(e*?gO))) r:=by
    refine Ai fun j _=>?_;rw[Int.sub_mul,←D5];by_cases z:i=j
    . subst z;rw[?p,?p];omega
    . rw[?e2,?f fun y=>z y.symm];omega
   rw[e1,Ce,Ax,Cn (fun j=>e*?gO) i r,?oZ,Cr]
   have e2:Aj (fun d=>Aj (fun j=>?yN*?gO) r) r=Aj (fun d=>T i d*?b0 e d c) r:=by
    refine Ai ?nI;rw[hX d hd c hcw,←Ax];exact Ai fun j _=>qd4 ..
   rw[e2];show ?g0=_;by_cases hcr:c<r
   . rw[?a0 (j:=c) hcr fun d hd hne=>by show ?a3F 0;rw[?f ?x5];simp];show ?g0=?fU*(if c=c then e else 0)+-1*(e*?fU);rw[?p,qe8];omega
   . rw[?T fun d hd=>by show ?a3F 0;ext cX;simp,hc i c ?c ?c hcw];simp
  obtain⟨a,_⟩:=?vH hz0 r ?i ?eN;intro j hj;have:=?a4B a;omega
 intro i hi;refine⟨fun c=>if c<r then X c i else 0,fun c hcn=>?_⟩;show ?b0 e i c=?EA
 have e1:?EA=?ET:=by
  have:∀m,r<=m->m<=w->?a1A m=?ET:=by
   intro m
   induction m with
   | zero =>
     intro h1 _;have:r=0:=O9m
     subst this;rfl
   | succ m ih =>
     intro h1 h2;by_cases q:r=m+1
     . subst q;refine ?AK;rw[?m hk,qe8]
     . show Aj _ m+(if m<r then X m i else 0)*T c m=_;rw[?TT,?n];simp
  exact ?K w hrw ?i
 rw[e1];by_cases hcr:c<r
 . rw[key c hcr i hi];rfl
 . rw[?T fun k hk=>by rw[hz c k ?c hcn ?c];simp];exact ?f O9m
theorem Eb.square{n w r:Nat}{e:Int}[?CS][?tM]:Id n w r e T'/\∃t,?kE/\(?BI)/\∀j,j<r->T' j j∣e:=by
 obtain⟨r',t,hr',hst,hz⟩:=s.st
 have hc:∀i c,i<n->r<=c->?HG:=fun i c hi h1 h2=>by
  obtain⟨x,hx⟩:=s.fwd i hi;rw[hx c h2];exact ?T fun k hk=>by rw[?vE k c hk h1 h2];simp
 have Pa:∀j,j<r->?a30 T' ?UT:=fun j hj=>(?a4B h.rows).trans s.bwd;obtain⟨e1,e2,e3⟩:=R6 he h.rw hr' hst hz hc Pa;subst e1;exact⟨⟨h.rn,h.rw,hz,hc,Pa,W2 h.rn h.rw hst hz hc Pa⟩,t,hst,e2,e3⟩
theorem kY[?tL][?j][?tM](hst:?JR)(ht:?BI)(hd:?qR){i c:Nat}[?d2](hc:c<w):?OE:=by
 by_cases a:i<r
 . by_cases b:c<r
   . have l:=qk1 he (hd c b);rcases qn5 i c with z | z | z
     . have:=hst.red i c z b;rw[ht c b]at this;omega
     . subst z;have:=?qB i a;rw[ht i a]at this;omega
     . rw[?g9 i c a (by rw[ht i a];exact z)];omega
   . rw[?vE i c hi ?c hc];omega
 . rw[h.row0 i c ?c hi hc];omega
theorem HN{n w r:Nat}{T:Mat}[?j](HD:?b5)[?YP]:∀i,i<r->?a4J (?AB):=by
 have main:∀m i,i<m->m<=r->?a4J (?lJ):=by
  intro m
  induction m with
  | zero=>intro i hi;omega
  | succ m ih =>
    intro i hi hm;by_cases q:i<m
    . exact ih i q O9m
    have qi:i=m:=O9m
    subst qi
    have up:∀k,k<=i->In n w ?dJ (fun d=>?a0V k):=by
     intro k
     induction k with
     | zero=>intro _;exact ?rT ..
     | succ k ihk =>
       intro hk;have hk2:=ih k O9m O9m
       obtain⟨g,hg⟩:∃g,?h8=?wC*g:=by
        have:∀m,k+1<=m->∃g,?L8=?wC*g:=by
         intro m
         induction m with
         | zero=>intro h;omega
         | succ m ihm =>
           intro h;by_cases z:k+1=m+1
           . exact ?L2
           . ext XE
        exact ?HX
       refine((ihk O9m).mix hk2 1 (T k ?cO*g)).congr ?MS;show 1*Aj _ k+?a3U g ?wC=Aj _ k+?a3U ?h8 1;rw[hg];by_cases z:d=k
       . rw[?d9,?d9];grind
       . rw[?e2,?e2];omega
    have col:In n w ?dJ (tr T ?cO):=?J (?e1 i O9m);refine(col.mix (up i ?i) (?h8) ?E).congr ?nI;show ?h8*T d ?cO+-1*?a0V i=?yL;by_cases z:d<i
    . rw[?a0 (j:=d) z fun l hl hne=>by rw[?f ?x5];simp,?p];rw[show ?yL=0 from ?n]
      grind
    . rw[?T fun l hl=>by ext cX;simp];by_cases z2:d=i
      . subst z2;rw[show ?b0 (?FM) d d=?FM from ?p];show _=?l ?f0 d*T d (t d);omega
      . rw[show ?yL=0 from ?f z2]
        have:T d ?cO=0:=by
         by_cases z3:d<r
         . exact ?VM z3 O9m
         . exact hz d _ O9m hd (?e1 i O9m)
        ext cA
 intro i hi
 obtain⟨g,hg⟩:∃g,?AB=?lJ*g:=by
  have:∀m,i+1<=m->∃g,?L8=?lJ*g:=by
   intro m
   induction m with
   | zero=>intro h;omega
   | succ m ihm =>
     intro h;by_cases z:i+1=m+1
     . exact ?L2
     . ext XE
  exact ?K r hi
 refine((main r i hi ?i).mix (?rT ..) g 0).congr ?MS;show g*(if d=i then ?lJ else 0)+0*0=if d=i then ?AB else 0
 by_cases z:d=i
 . rw[?d9,?d9,hg];grind
 . rw[?e2,?e2];omega
theorem U2.square[?cE]{T T' M1:Mat}{r:Nat}[?j][?XL]:?gL/\Id n w r (?hZ) M1/\∃u,Dc n r ?nR u/\(?KD)/\∀j,j<r->M1 j j∣ ?hZ:=by
 ext XT;obtain⟨q,u,hq,e9,pL⟩:=s2.st
 have hrw:?gL:=by
  by_cases z:r=0
  . omega
  . have:=?lL ?hK O9m;have:=?e1 ?hK O9m;omega
 have hc:∀i c,i<w->r<=c->c<n->tr M1 i c=0:=fun i c hi h1 h2=>by
  obtain⟨x,hx⟩:=s2.fwd i hi;rw[hx c h2];exact ?T fun k hk=>by rw[show tr T' k c=0 from hz c k h1 h2 hk];simp
 have Pa:∀j,j<r->In n w ?nR (?b0 (?hZ) j):=fun j hj=>(HN hr hst hz j hj).trans ?qZ;obtain⟨e1,e2,e3⟩:=R6 he hr hq e9 pL hc Pa;subst e1;have sq:Id w n q (?l (?a0K T' ?G) q) ?nR:=⟨hrw,hr,pL,hc,Pa,W2 hrw hr e9 pL hc Pa⟩
 exact⟨hrw,?xK,u,e9,e2,e3⟩
theorem NU:∀{n:Nat}{A:Mat},(∀r c,r<n->c<n->?VD<=1)->(∀c r r',c<n->r<n->r'<n->?i3≠0->A r' c≠0->r=r')->?S7<=1
 | 0,_,_,_=>by simp[det]
 | n+1,A,h1,h2=>by
   show ?FR<=1;by_cases e:∃r,r<n+1/\A r 0≠0
   . obtain⟨r,hr,hne⟩:=e
     rw[?a0 (j:=r) hr fun k hk hkr=>by
      have:A k 0=0:=qg5 fun z=>hkr (h2 0 k r ?c hk hr z hne);ext cA]
     rw[qb3,qb3,Wf,qf4]
     have ih:=NU (n:=n) (A:=Fz A r) (fun x c hx hc=>h1 _ _ ?bK O9m) fun c x x' hc hx hx' a b=>by
      have:=h2 ?aO (if x<r then x else x+1) (if x'<r then x' else x'+1) O9m ?bK ?bK a b;split at this<;>split at this<;>omega
     exact qa5 (qf3 (h1 r 0 hr O9m) ih) ?W
   . rw[?T fun k hk=>by
      have:A k 0=0:=qg5 fun z=>e ⟨k,hk,z⟩;ext cA]
     decide
theorem Wm{n p:Nat}(A:Mat)[?dS](a:?k)(U:Mat):∀m,?ZW ?QP=?uW
 | 0=>by
   show ?a4I (Bu A p (?a1X ?g0))=0;exact S3 hp fun c _=>Bl ..
 | m+1=>by
   have e:(fun c=>Aj (fun k=>a k*?fN) ?qS)=fun c=>1*(?QP) c+?kF:=?a7 fun c=>by
    show ?xD+?kF=1*?xD+?kF;omega
   rw[e,Et A _ _ 1 (a m) hp,Wm A hp a U m];show 1*?uW+a m*?ZW (U m)=?uW+a m*?ZW (U m);rw[qd1]
def Vv(s:?v):Mat:=fun r l=>if s l=r then 1 else 0
def DP(T:Mat)(s:?v)(k:Nat):Mat:=fun r l=>if r<k then Vv s r l else T r ?b4
theorem KZ[?C7]{k:Nat}(hk:k<i):?I7=?a9*?a4W (DP T s ?bO):=by
 have e0:?w1=Bu (?w1) k fun c=>Aj (fun j=>T k j*?pW) ?bO:=by
  funext r c
  by_cases z:r=k
  . subst z;rw[Bl];show ?a3W r;ext cX;by_cases y:s c<r+1
    . rw[?a0 (j:=s c) y fun j _ hne=>by
       have:?pW=0:=?w9;ext cA]
      have:Vv s ?fC c=1:=?p;ext cA
    . rw[?T fun j hj=>by
       have:?pW=0:=?n;ext cA]
      exact h r ?fC hk O9m
  . rw[Bt z]
 ext Y6
 . congr 1
   refine Cs ?e3;by_cases z:r=k
   . subst z;rw[Bl];show _=if r<r+1 then ?iI else ?h9
     ext n4
   . rw[Bt z];show(if r<k then ?iI else ?h9)=if r<k+1 then ?iI else ?h9
     by_cases y:r<k
     . ext tC
     . ext tB
 . ext XQ;show(if j<k then ?pW else T j ?fC)=_;ext n4
theorem iX[?C7]:∀k,k<=i->?a4W (?ER)=?zK*?I7
 | 0,_=>by
   show _=1*?a4W (DP T s 0);rw[qd1]
   exact Cs fun r c hr hc=>by
    show _=if r<0 then ?iI else ?h9
    ext cX
 | k+1,hk=>by
   rw[iX h s k ?c,KZ h s ?c];ext YR
theorem wW[?C7]:(?BB).natAbs<=(?F7).natAbs:=by
 rw[iX h s i ?i,qb3]
 have e:?a0U (DP T s i) 1:=by
  have k:∀r c,r<i->DP T s i r c=if s c=r then 1 else 0:=fun r c hr=>by
   show ?a3W i;rw[?wO];rfl
  refine NU (?e3) fun c r r' hc hr hr' a b=>?_
  . rw[?MH];split<;>decide
  . rw[?MH]at a;rw[k r' c hr']at b;split at a
    . split at b
      . omega
      . exact ?f8 rfl b
    . exact ?f8 rfl a
 exact qa5 (qe6 _ e) O9m
def Oa(n:Nat)(G:?aH)(M:Mat)(D:Nat):Prop:=∀i,i<=n->∀s:?v,(?VY)->(det i (?a1Q M)).natAbs<=D
theorem Dq.detsD[?tW][?bQ][?j][?tP][?gS](hi:i<=m){s:?v}(hs:?VY):?a0U ?BT D:=by
 rw[h.good.det i ?i s];exact hD i hi s hs
theorem Dq.headD[?tW][?bQ][?j][?tP][?gS](hi:i<=m){j:Nat}(hj:j<i):?eF<=D:=by
 have:=TZ ?w6 (?B6 hD hi (s:=t) h.pg) hj;have p:=?MK;omega
theorem Dq.rowD[?tW][?bQ][?j][?tP][?gS](hi:i<=m)[?tR]{r c:Nat}(hr:r<i)(hc:G c):?h0<=i*D:=by
 have:=rX ?w6 ?g2 (?J hr) (κ:=1) (D:=D) (vV c hc) (?aB) fun k hk=>?B6 hD hi ?rC
 . rw[qf4]at this;ext aN
 . rw[qf4];rcases qn5 r j with z | z | z
   . obtain⟨a,b⟩:=?p6 r j z hj;omega
   . rw[z];ext dR
   . rw[h.st.s0.low hr z];exact ?b1
 . cases l with
   | zero=>exact hc
   | succ l=>exact h.pg _ ?bK
theorem Dq.putD[?tW][?bQ][?j][?tP][?gS](hm:i<=m)[?d2][?tR]{b0 π b:Nat}(hM:∀c,G c->(M i c).natAbs<=?z3)[?YS]:?NS:=by
 refine⟨hi,?BL,?g2,fun j hj=>qa5 (h.headD hD hm hj) h1,fun r c hr hc=>qa5 (h.rowD hD hm vV hr hc) h2,?dI,?rC⟩
 . rw[?p7 i c ?i];exact qa5 (hM c hc) (C5 h4)
 . rw[?p7 i _ ?i];exact qa5 (hM _ (h.pg l hl)) (C5 h3)
theorem Id.free[?tL][?tM]{m:Nat}(hm:m<=r){x:?k}(hx:∀c,c<w->?y3=0):∀k,?D9:=by
 intro l hl;obtain⟨y,hy⟩:=h.cols l O9m;have e1:?EX=0:=?T fun c hc=>by rw[?e5];simp
 have e2:?EX=?ZQ ?ST m:=by
  rw[show(fun c=>y c*?y3)=fun c=>?ZQ (y c*?c6) m from ?a7 fun c=>by
   rw[←Ax];exact Ai fun k _=>?D]
  rw[Cr];refine ?AK;rw[hy k (by have:=h.rn;omega),←Ax]
 rw[e2,?a0 (j:=l) hl fun k _ hne=>by
  have:?ST=0:=?vC;ext cA]at e1
 have:?b0 e l l=e:=?p;rw[this]at e1;rcases ?rO e1 with z | z
 . exact z
 . omega
theorem rR[?jI]{e:Int}{T M B0 R B:Mat}[?tM](hM:∀k c,k<n->c<w->M k c=?c6)(hi:i<r)(g:?a3N ?g M)(hW:?v9)(d:?a2B M B0):∃c,c<w/\?eX≠0:=by
 have rn:=h.rn;refine qg5 ?e6;have z0:∀c,?J4:=fun c hc=>qg5 fun y=>z ⟨c,hc,y⟩;obtain⟨x,hx⟩:=(g.eqv ?g ?i).1 i O9m
 have x0:=h.free he (m:=i+1) O9m (x:=x) fun c hc=>by
  rw[←z0 c hc,?SM];exact Ai fun k hk=>by rw[hM k c ?c hc]
 obtain⟨c,hc,hne⟩:=(g.dual d).row (i:=i) O9m;refine hne ?_;rw[hx ?qG ?c];exact ?a3A hk
structure Qa(n W w r:Nat)(kt:?v)(hd:?k)(M:Mat):Prop where
 zero:∀j c,?aK->j<n->c<?f7->M j c=0
 inc:∀j k,?aK->j<k->k<n->?f7<kt k
 ge:∀j,?aK->j<n->w<=?f7
 lt:∀j,?aK->j<n->?f7<W
 head:∀j,?aK->j<n->M j ?dT=?h2
 pos:∀j,?aK->j<n->0<?h2
 red:∀k j,?aK->k<j->j<n->0<=?xH/\?xH<?h2
structure Ca(n W w r i:Nat)[?YW][?s][?U]:Prop where
 st:?EH
 tab:∀j,j<r->j<i->t j<w
 ker:∀j,?aK->j<i->t j=?f7/\?a8=?h2
theorem Ca.start(n W w r:Nat)[?YW][?s]:Ca n W w r 0 G M B0 kt hd t M B0:=⟨Dq.start ..,?PH,?PH⟩
theorem Ca.next[?jI][?nB]{M B0 R B R1 B1 R2 B2:Mat}[?cW]{Y spot st:Nat}[?ZB](hi:i<r)(hst:st<w)(hs:?cH)(I:UU n W w i G R B ?aP Y R1 B1)(D:N9 n W w i R1 B1 ?aP 0 R2 B2):?a2Q ?aP:=by
 refine⟨h.st.next I D,?pR,?yJ⟩;unfold insT;split
 . exact ?HF
 . split
   . exact hst
   . exact ?sN ?iG O9m O9m
theorem Ca.skip[?jI][?bQ][?cW][?mX](hn:i<n){spot c:Nat}[?eU](hc:?iE):?hV:=by
 rw[?JL];refine ?uQ i c hi hn ?_;have g:=K.ge i hi hn;by_cases z:?hF
 . have:=?sN ?d z hs;omega
 . have:=(?m0 ?d O9m hs).1;have:=K.inc ?d i O9m hs hn;omega
theorem Ps(R:Mat)(i:Nat):?P R i i=R:=by
 funext r
 ext j9;by_cases a:r<i
 . rw[?m a]
 . rw[?f a];by_cases b:r=i
   . rw[?m b,b]
   . rw[?f b,?n]
theorem Ca.ins[?jI][?bQ][?cW]{π b:Nat}[?mX](H:?NS)(hG:G ?e8):UU n W w i G R B ?bP ?eA R B/\?SY:=by
 have all:?SY:=by
  intro spot
  induction spot with
  | zero=>intro _;exact Dk.start H
  | succ s ih=>intro hs;exact(?cF).skip fun c hc=>h.skip K hi ?bV O9m hc
 refine⟨?_,all⟩;have e:R i ?e8=hd i:=by ext CH;exact ?yG i hi ?bV
 have p:=?p0 i hi ?bV;have:=(all i ?i).ins H ?i (st:=kt i) (fun c hc=>by rw[?JL];exact ?uQ i c hi ?bV hc) O9m (K.lt i hi ?bV) hG h.st.pg (fun z=>O9m);rw[Ps,Ps,?n,?n]at this;ext aN
theorem Ca.nextK[?jI][?nB]{M B0 R B R2 B2:Mat}[?cW]{Y:Nat}[?mX](hn:i<n)(I:UU n W w i G R B ?bP Y R B)(D:N9 n W w i R B ?bP 0 R2 B2):?a2Q ?bP:=by
 ext Y2;ext BX
 refine⟨h.st.next I D,fun j h1 h2=>by rw[?Q9];exact ?HF,?pR⟩;rw[D.hd j ?c];by_cases z:j=i
 . rw[z,t2];exact⟨rfl,by ext CH;exact ?T8⟩
 . rw[?Q9];exact ?m0 j h1 O9m
theorem Ca.done{n W w r:Nat}[?bQ][?cW](K:?uZ)(h:?a47 W M):?a0L W R:=by
 refine⟨?M5,K.inc,K.ge,K.lt,?pR,?p0,?IZ⟩
 . rw[←(?TL).1]at h3;exact h.st.st.zero j c h2 h3
 . obtain⟨a,b⟩:=?TL;rw[←a];exact b
 . obtain⟨a,b⟩:=?m0 j h1 h3;rw[←a,←b];exact ?FP k j h2 h3
def eL(V Z:Mat)(k:Nat):Mat:=fun r l=>if r<k then Z r l else V r l
theorem LP[?XX]{k:Nat}(hk:k<i):?zM=?a9*?a43 ?bO:=by
 have e0:?zM=?a4W (Bu (eL V Z k) k fun c=>Aj (fun j=>T k j*Z j c) ?bO):=Cs fun r c hr hc=>by
  by_cases z:r=k
  . subst z;rw[Bl];show(if r<r then ?kI else ?hS)=_;ext cX;exact ?qQ
  . rw[Bt z]
 ext Y6
 . congr 1
   refine Cs ?e3;by_cases z:r=k
   . subst z;rw[Bl];show _=if r<r+1 then ?kI else ?hS
     ext n4
   . rw[Bt z];show(if r<k then ?kI else ?hS)=if r<k+1 then ?kI else ?hS
     by_cases y:r<k
     . ext tC
     . ext tB
 . ext XQ;show(if j<k then Z j c else V j c)=_;ext n4
theorem BD[?XX]:∀k,k<=i->?a4W V=?zK*?zM
 | 0,_=>by
   show _=1*?a43 0;rw[qd1]
   exact Cs fun r c hr hc=>by
    show _=if r<0 then ?kI else ?hS
    ext cX
 | k+1,hk=>by
   rw[BD h k ?c,LP h ?c];ext YR
theorem AL{w r:Nat}{U V:Mat}(hw:?gL)(hU:∀k c,k<r->c<k->?fN=0)(hV:∀l,l<r->In w r U (V l))(h0:∀l i,l<r->i<r->l<i->V l i=0):?a4G U r∣ ?DX:=by
 have ch:∀l,∃x:?k,l<r->∀c,c<w->V l c=?ZQ ?fN r:=fun l=>by
  by_cases hl:l<r
  . obtain⟨x,hx⟩:=hV l hl;exact ?LB
  . exact⟨?gN,fun z=>?f8 z hl⟩
 obtain⟨X,hX⟩:∃X:?kY,∀l,l<r->∀c,c<w->V l c=Aj (fun k=>X l k*?fN) r:=Classical.axiomOfChoice ch;have e1:det r (tr V)=?DX:=S4 (A:=tr V) fun i l hi hl=>h0 l i O9m hi hl;have e2:=BD (i:=r) (T:=tr U) (V:=tr V) (Z:=tr X) (fun i l hi hl=>?_) r ?i
 . rw[e1]at e2;exact⟨_,e2⟩
 . show V l i=_;rw[hX l hl i ?c]
   have:∀m,m<=r-?g->?P6=Aj (fun j=>tr U i j*tr X j l) ?g:=by
    intro m
    induction m with
    | zero=>intro _;exact Ai fun k _=>?wW
    | succ m ih =>
      intro hm;show ?P6+X l ?q8*U ?q8 i=_;rw[?m9,hU ?q8 i ?c ?c];omega
   have:=?K (r-?g) ?i;rw[show i+1+(r-?g)=r by omega]at this;ext aN
theorem Xs[?O]{n:Nat}(h:?xJ):∀m,?hM->?c1<=?gC:=fun m hm=>by
 have:∀d,m+d<=n->?c1<=?s4:=by
  intro d
  induction d with
  | zero=>intro _;exact ?U3 _
  | succ d ih =>
    intro hd;refine qv4 (?cF) ?_;show ?s4<=?s4*f ?q4;have p:=B8 (n:=m+d) ?iU;have q:=h ?q4 O9m;have:=qi5 (show 1<=f ?q4 by omega) (?a29 0 ?s4);rw[qk0]at this;ext aN
 have:=?K (n-m) O9m;rw[show m+(n-m)=n by omega]at this;ext aN
theorem pA{w r:Nat}{T:Mat}{E:Nat}(hp:?EJ)(h:∀i c,i<r->?UA)[?ZJ]:?UZ:=fun i hi s hs=>by
 have t:=wW (i:=i) (T:=?rX) (fun a c ha hac=>by
  show(?VO)=0;by_cases z:c<w
  . ext eT;exact h a c O9m z hac
  . ext cC) s
 have e:(?BB)=det i (?a1Q (?rX)):=Cs fun a c ha hc=>(?m ?NL).symm;rw[e];refine qa5 t ?_;by_cases z:i<=w
 . have e2:?I6=?F7:=by
    have:∀m,m<=w->?OS=?l ?mF m:=by
     intro m
     induction m with
     | zero=>intro _;rfl
     | succ m ih =>
       intro hm;show _*_=_*_;rw[?m9];show ?a3E _;ext n4
    exact ?K i z
   rw[e2];have a:=Xs (n:=r) (f:=?sE) hp i hi;have b:=B8 (n:=i) (f:=?sE) fun k hk=>?GE;omega
 . have e2:?I6=0:=by
    have:∀m,w<m->?OS=0:=by
     intro m
     induction m with
     | zero=>intro _;omega
     | succ m ih =>
       intro hm;show ?a3E 0;by_cases y:w<m
       . rw[ih y];simp
       . ext cX;simp
    exact ?HX
   rw[e2];exact ?b1
structure E5(n w r:Nat)(E:Nat)(e:Int)(T:Mat):Prop where
 sq:?oB
 low:∀i c,i<n->?UA
 pos:?EJ
 dvd:?qR
 prod:?l ?mF r<=E
 le:∀i c,i<n->c<w->?OE
 red:∀k j,k<j->j<r->0<=T j k/\T j k<?lR
theorem EX[?n0]{T:Mat}{u:?v}(he:0<e)(sq:?oB)(hst:Dc n r ?dJ u)(hu:?KD)(hd:?qR)[?ZJ]:?l3:=by
 refine⟨sq,fun i c hi hc hic=>?_,?aB,hd,hE,fun i c hi hc=>kY he ?xK hst hu hd hc hi,fun k j hk hj=>by
  have:=hst.red k j hk hj;rw[?a4B hu]at this;ext aN⟩
 . by_cases z:c<r
   . exact ?g9 c i z (by rw[hu c z];exact hic)
   . exact sq.col0 i c hi O9m hc
 . have:=?r2;rw[?a4B hu]at this;ext aN
theorem Eb.going[?n0][?CS](he:0<e)[?jD]:E5 w n r E e (tr T'):=by
 obtain⟨sq,t,hst,ht,hd⟩:=s.square he h.sq;have pos:∀j,j<r->0<T' j j:=fun j hj=>by have:=?r2;rw[?a4B ht]at this;ext aN
 refine EX he ?xK hst ht hd ?_;have rn:=h.sq.rn;have rw':=h.sq.rw;have d:=AL (w:=w) (r:=r) (U:=T') (V:=T) rw' (?a1H ?g9 ht) (fun l hl=>(s.bwd l O9m).sub rn sq.row0) (fun l i hl hi hli=>?dZ l i O9m O9m hli);have p:=B8 (n:=r) (f:=?sE) ?Z;exact qv4 (qk1 p d) ?u2
theorem U2.going[?n0][?CR](he:0<e)[?jD]:E5 n w r E e M1:=by
 obtain⟨T',s1,s2⟩:=s;exact s2.going he (s1.going he h)
theorem U2.first{n w r:Nat}{E:Nat}{T T' M1:Mat}[?j][?XL](hE:?hZ<=E):E5 n w r E (?hZ) M1:=by
 obtain⟨hw,sq,u,hu,YO,hd⟩:=U2.square (T:=T) hr hst hz s2;ext XT;refine EX he sq hu YO hd ?_;have d:=AL (w:=n) (r:=r) (U:=tr M1) (V:=fun l i=>T' i ?u) hr (?a1H hu.zero YO) (fun l hl=>(?qZ ?u (?e1 l hl)).sub hw sq.flip.row0) (fun l i hl hi hli=>?VM hi hli);exact qv4 (qk1 he d) hE
theorem E5.dets[?n0]{T:Mat}[?jD]:?UZ:=pA ?Z (fun i c hi=>?dZ i c (by have:=h.sq.rn;omega)) ?u2
def mY(n w r L m:Nat)(T:Mat):Prop:=?mV\/(∃k,k<=r/\?m6/\?U2<=m)\/(∃k,k<r/\?P2/\(r-k-1)*?iP+(?a9).natAbs.log2+1<=m)
theorem E5.straight[?n0]{T:Mat}[?jD](c:M3 n w r T):?mV:=fun i j hi hj hne=>by
 by_cases z:i<r
 . exact c.2.2.2.1 i j z hj (?x5)
 . exact h.sq.row0 i j O9m hi hj
theorem log2_lt{a b:Nat}(ha:0<a)(h:a∣b)(hlt:a<b):a.log2<b.log2:=by
 obtain⟨k,hk⟩:=h
 have k2:2<=k:=by
  rcases k with _ | _ | k
  . omega
  . omega
  . omega
 have b2:2*a<=b:=by
  rw[hk,?S8 2 a];exact qe6 _ k2
 have e:?WG=a.log2+1:=Nat.log2_two_mul O9m
 have m:?WG<=b.log2:=by
  rw[Nat.le_log2 ?c];exact ?a3R b2
 omega
theorem mY.start{n w r L:Nat}{E:Nat}{e:Int}{T:Mat}[?jD]:mY n w r L (r*?iP) T:=?F (?x ⟨0,?b1,?H8,by rw[qr9];ext dR⟩)
theorem E5.next{n w r L m:Nat}{E:Nat}{e:Int}{T M1:Mat}(he:0<e)(hL:?LQ)[?jD](s:?KB)(f:?GZ)(ns:¬?mV):0<m/\mY n w r L (m-1) M1:=by
 have g:=s.going he h;rcases f with f|⟨k,hk,c,hm⟩|⟨k,hk,c,hm⟩
 . exact ?f8 f ns
 . have kr:k<r:=by
    refine Nat.lt_of_le_of_ne hk fun z=>ns ?_;subst z;exact h.straight c
   have e1:?U2=(r-k-1)*?iP+?iP:=by rw[show r-k=(r-k-1)+1 by omega,qf5,qf4,qw7]
   refine ?Q7;obtain⟨c2,q⟩:=s.next c;rcases q with q | q
   . exact ?x q
   . refine ?F (?F ⟨k,kr,q,?_⟩);have d:=h.dvd k kr;have d2:=g.dvd k kr;have p:=g.pos k kr
     have l:(?jU).natAbs.log2<=L:=by
      refine qa5 ?_ hL;rw[Nat.le_log2 ?c];refine ?a3R ?_;have:=qk1 he d2;omega
     omega
 . refine ?Q7;rcases s.less c with q|⟨q1,q2,q3⟩
   . refine ?F (?x ⟨k+1,O9m,q,?_⟩);rw[show r-?bO=r-k-1 by omega];omega
   . refine ?F (?F ⟨k,hk,q1,?_⟩);have p:=g.pos k hk;have p0:=?yQ;have:=log2_lt (a:=(?jU).natAbs) (b:=(?a9).natAbs) O9m (qv3.mpr q2) O9m;omega
universe Lat
namespace Lat
structure zO[?CK]:Prop where
 e1:r1=x1*A+y1*B
 e2:r2=x2*A+y2*B
 dt:?mM=1\/?mM=-1
 dv:∀d:Int,d∣r1->d∣r2->d∣A/\d∣B
structure EuR[?CK]:Prop where
 a:?BD
 rr:0<=r1*r2
 r0:?yY
 xx:x1*x2<=0
 yy:y1*y2<=0
 lx:?V7
 ly:?II
theorem IY{u v:Int}(h:0<=u*v):(u+v).natAbs=u.natAbs+v.natAbs:=by
 rcases ?PZ u 0 with z | z | z
 . have:v<=0:=by
    ext gT;have:=?OJ z y;omega
   omega
 . subst z;omega
 . have:0<=v:=by
    ext gT;have:=?NP z y;omega
   omega
theorem EuR.next_le[?mY][?ZN]:?S1:=by
 have r1p:1<=r1.natAbs:=by have:=h.r0;omega
 have hA:A.natAbs=(?PK).natAbs:=by
  have e:(?mM)*A=?PK:=?IG
  rcases h.a.dt with d | d
  . rw[d,qd1]at e;rw[e]
  . rw[d]at e;have:A.natAbs=(-1*A).natAbs:=O9m
    rw[this,e]
 have hB:B.natAbs=(?wF).natAbs:=by
  have e:(?mM)*B=-(?wF):=?IG
  rcases h.a.dt with d | d
  . rw[d,qd1]at e;rw[e,qc4]
  . rw[d]at e;have:B=?wF:=O9m
    rw[this]
 have k1:0<=?W1:=by
  have:?W1=(-(y1*y2))*(r1*r2):=?D
  rw[this];exact ql0 (by have:=h.yy;omega) h.rr
 have k2:0<=?PD:=by
  have:?PD=(-(x1*x2))*(r1*r2):=?D
  rw[this];exact ql0 (by have:=h.xx;omega) h.rr
 rw[IY k1,qb3]at hA;rw[IY k2,qb3]at hB;have a1:x2.natAbs*1<=x2.natAbs*r1.natAbs:=?U0;have a2:y2.natAbs*1<=y2.natAbs*r1.natAbs:=?U0;omega
theorem zO.step[?mY](h:?BD)(q:Int):zO A B r2 x2 y2 (r1-q*r2) (x1-q*x2) (y1-q*y2):=by
 refine⟨h.e2,?_,?_,fun d h1 h2=>h.dv d ?_ h1⟩
 . rw[h.e1,h.e2];grind
 . have:x2*(y1-q*y2)-(x1-q*x2)*y2=-(?mM):=?D
   rw[this];rcases h.dt with z | z<;>rw[z]<;>omega
 . have:=?EG h2 (qt2 (a:=d) (b:=q) h1);have e:r1-q*r2+q*r2=r1:=O9m
   rw[e]at this;ext aN
theorem aO{r1 r2:Int}(h:0<=r1*r2)(h2:?v0):0<=?dK/\?yW/\0<=r2*(?mD):=by
 have e:?mD=?ML:=?a2X r1 r2
 rw[e];rcases ?N6 h2 with z | z
 . have r1n:r1<=0:=by
    ext gT;have:=?NP y z;omega
   have q:?dK=(-r1).fdiv (-r2):=by rw[Int.neg_fdiv_neg]
   have m:?ML=-((-r1).fmod (-r2)):=?OO
   have m0:=qu4 (a:=-r1) (b:=-r2) O9m;have m1:=qx0 (-r1) (b:=-r2) O9m;refine⟨?_,?a36 r2,?_⟩
   . rw[q,?RN];exact ?FS O9m O9m
   . rw[m];have:r2*-((-r1).fmod (-r2))=(-r2)*(-r1).fmod (-r2):=by rw[Int.mul_neg,qo6]
     rw[this];exact ?HE
 . have r1p:0<=r1:=by
    ext gT;have:=?OJ y z;omega
   have m0:=qu4 (a:=r1) (b:=r2) z;have m1:=qx0 r1 z;refine⟨?_,?zE,?HE⟩;rw[?RN];exact ?FS r1p O9m
theorem EuR.step[?mY][?ZN](h2:?v0):?a10 EuR:=by
 obtain⟨q0,q1,q2⟩:=aO h.rr h2;obtain⟨l1,l2⟩:=h.next_le;generalize ?dK=q at *;refine⟨⟨h.a.step q,q2,h2,?_,?_,l1,l2⟩,q1⟩
 . have:x2*(x1-q*x2)=x1*x2-?J6:=?D
   rw[this];have a:=h.xx;have b:0<=?J6:=ql0 q0 (by rw[←?WL (a:=x2)];omega);omega
 . have:y2*(y1-q*y2)=y1*y2-?LV:=?D
   rw[this];have a:=h.yy;have b:0<=?LV:=ql0 q0 (by rw[←?WL (a:=y2)];omega);omega
def EuI[?CK]:Prop :=
 ?E5\/(B<0/\r1=A/\x1=1/\y1=0/\r2=B/\x2=0/\y2=1) ∨
 (B<0/\r1=B/\x1=0/\y1=1/\r2=?r5/\x2=1/\y2=-(?aE))
theorem EuI.start{A B:Int}[?D0]:EuI A B A 1 0 B 0 1:=by
 rcases ?N6 hB with z | z
 . exact ?F (?x ⟨z,rfl,rfl,rfl,rfl,rfl,rfl⟩)
 . refine ?x ⟨?HR,ql0 O9m O9m,O9m,O9m,O9m,O9m,O9m⟩
theorem Pf{A B:Int}(hA:0<A)(hB:B<0):?aE<=-1/\-A<=?aE/\?r5<=0/\(?r5).natAbs<B.natAbs:=by
 have e:?r5=A.fmod B:=?a2X A B
 have m:A.fmod B=-((-A).fmod (-B)):=?OO
 have m0:=qu4 (a:=-A) (b:=-B) O9m;have m1:=qx0 (-A) (b:=-B) O9m;have k:?aE*B=A-A.fmod B:=O9m
 rw[e]
 have q1:?aE<=-1:=by
  ext gT;have:=ql0 (?a29 0 ?aE) (?a2T B);rw[Int.mul_neg]at this;omega
 refine⟨q1,?_,O9m,?a36 B⟩;ext gT;have h:=?a1U (show 1<=-B by omega);have h2:-(?aE)*-B=?aE*B:=by rw[Int.neg_mul_neg]
 rw[h2]at h;have h3:=?a1U (?U3 (-B));rw[h2,qr3]at h3;have h4:A*1<=A*-B:=?N4;omega
theorem EuI.step[?mY](hA:0<A)[?ZM](h2:?v0) :
 ?a10 EuI:=by
 ext XP
 . exact⟨?x (?NY).1,(?NY).2⟩
 . subst e1 e2 e3 e4 e5 e6;obtain⟨_,_,_,q⟩:=?yR;exact⟨?F (?F ⟨hB,rfl,rfl,rfl,rfl,O9m,O9m⟩),q⟩
 . obtain⟨q1,q2,q3,q4⟩:=?yR;ext XN
   have e7:=?QL;rw[←e4]at e7 q3 q4
   have rr:0<=B*r2:=by
    have:=ql0 (?a2T B) (?a2T r2);rw[Int.neg_mul_neg]at this;ext aN
   obtain⟨p0,p1,p2⟩:=aO rr h2
   have p3:1<=?vY:=by
    ext gT;have:?vY=0:=O9m
    rw[this]at p1;omega
   have f1:?cK-?aE*0=x2:=O9m
   have f2:?g0-?aE*1=y2:=O9m
   rw[f1,f2]at e7;have e8:=e7.step (?vY);subst e1 e2 e3;refine⟨?x ⟨e8,p2,h2,?_,?_,O9m,O9m⟩,p1⟩
   . subst e5;omega
   . generalize ?dK=p at *;have g1:y2*(1-p*y2)=-((p*y2-1)*y2):=?D
     rw[g1];have g2:1*y2<=p*y2:=qk3 p3 O9m;have:=ql0 (show 0<=p*y2-1 by omega) (?a29 0 y2);omega
theorem EuI.all[?mY][?D0][?ZM] :
 ?BD/\?yY/\?V7/\?II/\?S1:=by
 ext XN
 ext XP
 . exact⟨h.a,h.r0,h.lx,h.ly,h.next_le.1,h.next_le.2⟩
 . subst e1 e2 e3 e4 e5 e6;exact⟨e0,O9m,O9m,O9m,O9m,O9m⟩
 . obtain⟨q1,q2,q3,q4⟩:=?yR;have e7:=?QL;have f1:?cK-?aE*0=x2:=O9m
   have f2:?g0-?aE*1=y2:=O9m
   rw[f1,f2,←e4]at e7;subst e1 e2 e3;exact⟨e7,O9m,O9m,O9m,O9m,O9m⟩
structure Shares(A B g a b:Int):Prop where
 pos:0<g
 e:g=a*A+b*B
 dA:g∣A
 dB:g∣B
 la:a.natAbs<=B.natAbs
 lb:b.natAbs<=A.natAbs
theorem EuI.last{A B r1 x1 y1 x2 y2:Int}[?D0](h:?a12 EuI 0) :
 (0<r1->?oP A B r1 x1 y1)/\(r1<0->?oP A B (-r1) (-x1) (-y1))/\?yY:=by
 obtain⟨k,r0,a1,a2,_,_⟩:=h.all hA hB;obtain⟨d1,d2⟩:=k.dv r1 (qy1 _) (Int.dvd_zero _);refine⟨fun p=>⟨p,k.e1,d1,d2,a1,a2⟩,fun p=>⟨O9m,?_,?VJ d1,?VJ d2,O9m,O9m⟩,r0⟩;rw[k.e1,qo6,qo6];omega
theorem Shares.blend{A B g a b:Int}{π:Nat}(hA:0<A)(h:?VI)(lA:A.natAbs<=?N)(lB:B.natAbs<=?N):kK π A B a b (-(B / g)) (?eW):=by
 obtain⟨p,eA⟩:=h.dA;obtain⟨q,eB⟩:=h.dB;have g0:g≠0:=?zX
 have k1:?eW=p:=?uO
 have k2:B / g=q:=?RG
 have gn:1<=g.natAbs:=?zX
 have n1:p.natAbs<=A.natAbs:=by rw[eA,qb3];exact ?O5
 have n2:q.natAbs<=B.natAbs:=by rw[eB,qb3];exact ?O5
 rw[k1,k2];refine⟨?_,by have:=h.pos;have:=h.e;omega,?_,qa5 h.la lB,qa5 h.lb lA,O9m,O9m⟩
 . have e:=h.e
   have:g*(a*p-b*-q)=g*1:=by
    rw[qk0];refine Eq.trans ?_ ?sH;rw[eA,eB]
    grind
   exact qs4 g0 ?K
 . rw[eA,eB]
   grind
universe Lat
namespace Lat
open Hb
def Qq(n:Nat)(C:?aH)(δ b:Nat)(R:Mat):Prop:=∀r c,r<n->C c->?h0*?iB<?A
theorem P1{x y a k:Int}{δ b c:Nat}(hx:?I4<?A)(hy:?DJ<?A)(ha:a.natAbs<=?z)(hk:k.natAbs<=?z):?J5*?iB<2 ^ (b+c+1):=by
 have e:=?KJ;rw[qb3,qb3]at e;have e2:=qc0 (?iB) e;rw[qf5,Nat.mul_assoc,Nat.mul_assoc]at e2;have p:0<?z:=?IL c;have u:a.natAbs*(?I4)<?z*?A:=qc1 (qc0 _ ha) (qr6 hx p);have v:k.natAbs*(?DJ)<?z*?A:=qc1 (qc0 _ hk) (qr6 hy p);rw[?yI,qh3,qe4];omega
theorem Qq.mono{n δ b b':Nat}[?CD](hb:b<=b'):Qq n C δ b' R:=?GF
theorem Qq.add{n δ b c p q:Nat}[?CD][?CF]:Qq n C δ (b+c+1) ?fZ:=fun r x hr hx=>by
 ext jL
 . subst e;rw[Cd];exact P1 (h r x hr hx) (h q x hq hx) (show 1<=?z from ql4) (qd9 hk)
 . rw[C3 e];exact(h.mono O9m) r x hr hx
theorem Qq.blend{n δ b e p q:Nat}[?CD][?b2][?XM]:Qq n C δ (b+e+1) (?C R p q x y z u):=fun r c hr hc=>by
 by_cases e1:r=p
 . subst e1;rw[?d8];exact P1 ?iS (h q c hq hc) (qd9 hx) (qd9 hy)
 . by_cases e2:r=q
   . subst e2;rw[Il];exact P1 (h p c hp hc) ?iS (qd9 hz) (qd9 hu)
   . rw[?MB];exact ?a3O (h.mono O9m)
variable[?cY]
def BB[?cZ](C:?aH)(δ β:Nat)[?gX]:Prop:=?bY n W β s.1/\?bY n n β s.2/\Qq n C δ β s.1
theorem BB.mono{n W β β':Nat}[?tA](hb:β<=β'):?ZO β' s:=⟨h.1.mono hb,h.2.1.mono hb,h.2.2.mono hb⟩
def addS(p q:Nat)(k:Int)[?gX]:?aL:=(?o s.1 p q k,?o s.2 q p (-k))
def blendS(p q:Nat)(x y z u:Int)[?gX]:?aL:=(?C s.1 p q x y z u,?C s.2 p q u (-z) (-y) x)
theorem BB.add{n W β c p q:Nat}[?tA][?dS][?CF]:?ZO ?G2 (?g5 p q k s) :=
 ⟨(h.1.add hp hq hk).mono O9m,(h.2.1.add hq hp (k:=-k) (by rw[qc4];exact hk)).mono O9m,(h.2.2.add hq hk).mono O9m⟩
theorem BB.blend{n W β c p q:Nat}[?tA][?b2]{x y z u:Int}(hx:?V3)(hy:y.natAbs<?z)(hz:z.natAbs<?z)(hu:u.natAbs<?z):?ZO ?G2 (blendS p q x y z u s) :=
 ⟨(h.1.blend hp hq ne hx hy hz hu).mono O9m,(h.2.1.blend hp hq ne (x:=u) (y:=-z) (z:=-y) (u:=x) hu (by rw[qc4];exact hz) (by rw[qc4];exact hy) hx).mono O9m,(h.2.2.blend hp hq ne hx hy hz hu).mono O9m⟩
def shrS[?s](p f:Nat)[?gX]:?FV
 | 0=>s
 | d+1=>?g5 p ?dM (-((?yK).1 p ?kG / (?yK).1 ?dM ?kG)) (?yK)
theorem jE[?u0][?d1][?j]{p f m μ β c:Nat}(P:?nM)[?YA][?Z3](hc:2 ^ (m-f)*μ<?z)(b:?TN) :
 ∀d,f+d<=m->ND n W w lo R B t p f m ?dM μ ?iO (?sO).2/\?ZO (β+d*?aO) (?sO)/\∀l c,l≠p->?iO l c=R l c:=by
 intro d
 induction d with
 | zero=>intro _;exact⟨?LE h,b.mono O9m,?hI⟩
 | succ d ih =>
   intro hd;obtain⟨i1,i2,i3⟩:=?cF;obtain⟨q1,q2⟩:=i1.step P O9m (show f+d<m by omega) hp hm hn hpf;have e:?IS=R ?dM ?kG:=i3 _ _ O9m
   have qb:(-(?iO p ?kG / ?IS)).natAbs<?z:=by
    rw[qc4,e];refine qc1 q1 (qc1 ?_ hc);exact ?L4
   refine⟨?_,(i2.add O9m O9m qb).mono (?DU),fun l c hl=>?_⟩
   . show ND n W w lo R B t p f m (f+d+1) μ (?o ?iO p ?dM _) (?o (?sO).2 ?dM p _);rw[e,qo5];exact q2
   . show ?o ?iO p ?dM _ l c=_;rw[C3 hl];exact i3 l c hl
theorem NS[?a4][?d1][?j][?D4][?CU][?C3][?C8][?CP] :
 ∀d,?l9->l8 n W w i G R B t b p ?d μ ?fW ?zB (?nH).2:=by
 intro d
 induction d with
 | zero=>intro _;exact l8.start h
 | succ d ih =>
   intro hd;have i1:=?cF;obtain⟨q1,q2⟩:=i1.step P hG O9m (show ?rM<i by omega) hn hp;have e:?zB ?fW (t ?fW)=R ?fW (t ?fW):=i1.s.same _ _ O9m;show l8 n W w i G R B t b p ?d μ (?rM+1) (?o ?zB p ?fW _) (?o (?nH).2 ?fW p _);rw[e,qo5];exact q2
theorem Qv[?a4][?d1][?j]{b p spot μ β c:Nat}[?CU](inc:?vB)[?C3][?C8][?eU][?CP](hc:?wV<?z)[?gU] :
 Zx n W w i G R B t b p ?d μ (?M2).1 (?M2).2/\∀d,?l9->?ZO (β+i*?aO) (?nH):=by
 have r:=NS (W:=W) (w:=w) (B:=B) (b:=b) P h hG hn hp ?aW O9m;rw[show ?vK+?aW=i by omega]at r;refine⟨r.done inc,?nI⟩;have:=(jE (W:=W) (w:=w) (lo:=i+1) (B:=B) P (?DK) O9m O9m O9m O9m (c:=c) (qc1 (?L4) hc) bb d hd).2.1;refine this.mono ?_;have:=qc0 ?aO (?a29 d i);omega
universe Lat
namespace Lat
open Hb
variable[?cY]
noncomputable abbrev cS(π i:Nat):Nat:=i+2*π+2
noncomputable abbrev cM(π i:Nat):Nat:=π+2+2*(?LT)
theorem aC{x π:Nat}(h:x<=?N):x<?k4:=by
 have:1<=?N:=ql4;rw[qh3];omega
theorem QG{π i μ:Nat}(h:μ<=?bA):?wV<2 ^ ?fJ:=by
 have e:2 ^ ?fJ=2*(2 ^ i*?bA):=by
  rw[show ?fJ=1+(i+(2*π+1)) by unfold cS;omega,qe4,qe4,Nat.pow_one]
 rw[e];have a:=qe6 (2 ^ i) h;have b:1<=2 ^ i*?bA:=by rw[←qe4];exact ql4
 omega
variable[?a4][?eR][?j]{π b spot β:Nat}
theorem Dk.partOf[?eQ]{R1:Mat}(e:∀r c,?hF->r<i->?x2=?bF) :
 ?e0 R1 t ?q i/\(?vB)/\∀r c,?hF->r<i->G c->?a0O ?x2 ?A:=by
 have k:∀r c,?hF->r<i->?x2=?AM:=fun r c h1 h2=>(e r c h1 h2).trans (?bU r c O9m h2);refine⟨(H.part.sub ?aG).congr fun j c h1 h2=>k j c O9m h2,fun l h1 h2=>?hR ?d l ?aG h1 h2,fun r c h1 h2 hc=>?_⟩;rw[k r c h1 h2];exact H.rw r c h2 hc
theorem Dk.meetAdd[?eQ][?eU][?tI]{q:Int}[?ZC][?gU] :
 ?a2C ?IF ?IF ∧
 ?ZO ?mL ?oD/\?a4C i ?oD:=by
 have hn:=H.hi
 have hq:?wD:=by
  have a:=h.pv ?d ?i hs;have p:=?Z ?d hs;rw[he,qb3]at a;exact qa5 (qi0 _ O9m) a
 have b1:?ZO (?m1) ?oD:=bb.add hn O9m (c:=π+1) (by rw[qc4];exact aC hq);obtain⟨P,inc,hG⟩:=?vF H (R1:=?D8) fun r c h1 h2=>?RP;obtain⟨S,bs⟩:=Qv (n:=n) (W:=W) (w:=w) (G:=G) (B:=(?zN).2) (p:=i) (μ:=?k4) (β:=?m1) (c:=?fJ) P inc (h.addPre H hs hq) hG hs hn ?JE (QG ?bX) b1;refine⟨h.metAdd H hs hq hz he ?_,?VF,?a0Y bs⟩;have e:(?zN).2=?TO:=by show ?o B ?d i (- -q)=_;rw[qo5]
 rw[←e];exact S
theorem Dk.meetBlend[?eQ][?eU][?tI][?C4][?gU] :
 ?a2C ?E7 ?E7 ∧
 ?ZO ?mL ?r9/\(?a4C ?d ?r9) ∧
 ?a4C i (?yV):=by
 have hn:=H.hi;have ne:?xL:=O9m
 have b1:?ZO (?m1) ?r9:=bb.blend O9m hn ne (c:=π+1) (aC e.lx) (aC e.ly) (aC e.lz) (aC e.lu);obtain⟨p1,p2⟩:=h.blendPre H hs e;obtain⟨P,inc,hG⟩:=?vF H (R1:=?wN) fun r c h1 h2=>?FG;obtain⟨S1,bs1⟩:=Qv (n:=n) (W:=W) (w:=w) (G:=G) (B:=(?xB).2) (p:=spot) (μ:=?bA) (β:=?m1) (c:=?fJ) P inc p1 hG hs hn (?x ?i) ?FK b1;have b2:=bs1 ?aW O9m;generalize hs2:?yV=s2 at *;have A46:?a4K ?d (?wN,(?xB).2)=s2:=hs2;rw[A46]at S1 b2;obtain⟨P2,A31,hG2⟩:=?vF H (R1:=?hL) fun r c h1 h2=>by rw[?kV r c ?c,Dv ?c ?c]
 have p3:∀l,?e4->l<i->(?hL i ?u).natAbs<=?bA*(?hL l ?u).natAbs:=fun l h1 h2=>by
  rw[?kV i _ ?fA,?HO];exact p2 l h1 h2
 obtain⟨S2,bs2⟩:=Qv (n:=n) (W:=W) (w:=w) (G:=G) (R:=?hL) (B:=s2.2) (p:=i) (μ:=?bA) (β:=?m1+?LT) (c:=?fJ) P2 A31 p3 hG2 hs hn ?JE ?FK b2;exact⟨h.metBlend H hs e hz S1 S2,?VF,?a0Y bs1,?a0Y bs2⟩
universe Lat
namespace Lat
open Hb
variable[?cY]
def downS[?s](i:Nat)[?gX]:?FV
 | 0=>s
 | d+1=>?a50 (?cI t i s d) d
theorem Y9[?a4][?eR][?j]{Y β:Nat}(I:UU n W w i G R0 B0 t Y R B)[?d2][?gU] :
 ∀d,?i4->?N5/\?TX ∧
   (d<=i->∀m,m<=d->?NQ):=by
 intro d
 have nxt:∀d,d<=i->?N5->?TX →
  ∀m,m<=d->ND n W w ?g (?eK).1 (?eK).2 t ?aA ?dL ?g (?eD+m) (?qU) (?wU).1 (?wU).2/\?NQ:=by
  intro d hd D b m hm;generalize hs:?eK=s at *;obtain⟨R1,B1⟩:=s;have P:=D.part;rw[?WM]at P D
  have rel:∀l,?eD<=l->l<i+1->(?RL).natAbs<=?qU*(?Q6).natAbs:=fun l h1 h2=>by
   have o:?RL=R ?aA ?u:=D.old ?aA ?u O9m;have p:0<?Q6:=?M3 l h2;rw[o];refine qa5 (I.gc ?aA ?u O9m (I.pg l O9m)) (qi0 _ O9m)
  have run:=jE (n:=n) (W:=W) (w:=w) (lo:=i+1) (R:=R1) (B:=B1) (p:=i-d) (f:=?eD) (m:=i+1) (μ:=?qU) (c:=i+1+Y+1) (β:=β+?a11 d Y) P rel O9m ?i hi (?x O9m) (by
   rw[←qe4];exact ?vI) b m O9m
  refine⟨run.1,run.2.1.mono ?_⟩;rw[qf5 d 1,qf4];have:=qc0 (i+1+Y+2) (show m<=i+1 by omega);have e:m*(i+1+Y+1+1)=m*(i+1+Y+2):=rfl;omega
 induction d with
 | zero =>
   intro _;have D0:N9 n W w i R B t (i+1-0) (?yD).1 (?yD).2:=N9.start I.s0;have b0:?a4D 0 ?yD:=bb.mono O9m;exact⟨D0,b0,fun hd m hm=>(nxt 0 hd D0 b0 m hm).2⟩
 | succ d ih =>
   intro hd;obtain⟨D,b,_⟩:=?cF;obtain⟨S,b2⟩:=nxt d O9m D b d ?i
   have D2:N9 n W w i R B t (i+1-?b6) (?RC).1 (?RC).2:=by
    rw[show i+1-?b6=i-d by omega];rw[?WM]at D;rw[show ?eD+d=i+1 by omega]at S;exact D.next O9m S
   exact⟨D2,b2,fun h m hm=>(nxt ?b6 h D2 b2 m hm).2⟩
universe Lat
namespace Lat
open Hb
theorem Me[?O]{j:Nat}:∀{i:Nat},?bN->(∀k,j<=k->k<i->f k=0)->Aj f i=?pH
 | 0,h,_=>by rw[?a0E j 0]
 | i+1,h,hz=>by
   by_cases e:j=i+1
   . rw[e]
   . show Aj f i+f i=_;rw[Me ?c fun k h1 h2=>hz k h1 ?c,hz i ?c ?c];omega
theorem BN[?O]{m h:Nat}:∀{j:Nat},(∀k,k<j->?HL<=2 ^ k*m*h)->(?pH).natAbs+m*h<=2 ^ j*m*h
 | 0,_=>by show(0:Int).natAbs+m*h<=2 ^ 0*m*h;simp
 | j+1,hf=>by
   have a:=BN (f:=f) (m:=m) (h:=h) (j:=j) (?a40 hf O9m);have b:=?a4R hf;have c:=qf0 (?pH) ?mJ;show(?pH+f j).natAbs+m*h<=_;rw[qh3];have e:2 ^ j*2*m*h=2 ^ j*m*h+2 ^ j*m*h:=?D
   omega
theorem Wb{a b:Int}{m:Nat}(h:(a+b).natAbs<=m):b.natAbs<=m+a.natAbs:=by have h5:=Int.natAbs_sub_le (b+a) a;rw[Int.add_sub_cancel,Int.add_comm]at h5;exact qa5 h5 (qq5 h _)
theorem tN{x s m M K:Nat}(h1:x<=m+s)(h2:s+M<=K)(h3:m*1<=M):x<=K:=O9m
theorem qM{i:Nat}[?d1][?j](P:?e0 R t 0 i){a m:Nat}(h:?a4F ?r4 m):?QG:=by
 intro j
 induction j using Nat.strongRecOn with
 | _ j ih =>
   intro hj;have pj:=P.pos j ?aG hj;have hs:=?a4B h;rw[Me (j:=j+1) ?c fun k h1 h2=>by rw[?yM k _ ?aG h2 (P.inc j k ?aG ?c h2)];simp]at hs;have hs':(Aj (?pA) j+?GV).natAbs<=m:=hs
   have b:=BN (f:=?pA) (m:=m) (h:=?eF) (j:=j) fun k hk=>by
    rw[qb3];obtain⟨r1,r2⟩:=P.red k j ?aG hk hj;exact qf3 (ih k hk O9m) O9m
   have c:(?GV).natAbs<=2 ^ j*m*?eF:=by
    exact tN (Wb hs') b (?z6)
   rw[qb3]at c;exact qr7 c O9m
theorem Dq.backs[?a4][?tX][?j][?gS](hi:i<=n){a m:Nat}(hb:∀k,i<=k->B k a=?FQ)(hM:?a4F ?zT m)(hM2:?a4F ?nG m)(ha:i<=a->a<n->∀j,j<i->?zT=?nG):?QG:=by
 refine qM ?BL ?aB;have e:?LK=?zT:=h.good.pt a ?G
 have s:?LK=?r4+(if ?IM then ?nG else 0):=by
  have:∀d,i+d<=n->?RB=?r4+(if ?K9 then ?nG else 0):=by
   intro d
   induction d with
   | zero=>intro _;ext cX;show Aj _ i=_;omega
   | succ d ih =>
     intro hd;show ?RB+B ?lN a*R ?lN ?G=_;rw[?m9,hb ?lN ?c,?p7 ?lN _ ?c];by_cases z:i+d=a
     . subst z;rw[?p,?n,?L];omega
     . ext cC;by_cases y:?K9
       . ext tC;omega
       . ext tB;omega
  have:=?K (n-i) O9m;rw[show i+(n-i)=n by omega]at this;ext aN
 by_cases z:?IM
 . rw[?d9,e,ha z.1 z.2 j hj]at s;have:?r4=0:=O9m
   rw[this];exact ?b1
 . rw[?e2,qm5]at s;rw[←s,e];exact ?a4B hM
theorem NQ[?j][?cE](inc:?a2G n):?SG:=by
 have:?EZ:=by
  intro m
  induction m with
  | zero=>ext Y9
  | succ m ih =>
    ext YB
    . have hrm:r=m:=by
       ext YG;have:=inc r m y O9m;omega
      exact⟨m+1,?hE,fun j hj=>by
       by_cases q:j=m
       . rw[q];exact z
       . exact ?a4R b,?yJ⟩
    . exact⟨r,O9m,b,fun j h1 h2=>by
       by_cases q:j=m
       . rw[q];omega
       . exact ?VP⟩
 exact ?NC
theorem Dq.first{n W w D:Nat}[?bQ][?j](hD:Oa n G M D)[?CL] :
 ∃r,?b5/\?JC/\(?LG)/\Qa n W w r t ?m3 R/\?QV<=D/\?WI:=by
 obtain⟨r,hr,h1,h2⟩:=NQ (w:=w) ?jQ;have pos:∀k,k<n->0<?m3 k:=?a40 ?lB hk;refine⟨r,hr,?U5,?UD,⟨fun j c _ a b=>?sC j c a b,fun j k _ a b=>?jQ j k a b,h2,fun j _ a=>?g2 j a,fun j _ _=>rfl,fun j _ a=>?lB j a,fun k j _ a b=>?p6 k j a b⟩,?_,?aB⟩
 . have a:=Xs (n:=n) pos r hr;have b:=?B6 hD ?i (s:=t) h.pg;rw[aM ?w6]at b;have c:=B8 (n:=n) pos;omega
 . have:=h.headD hD ?i hj;have:=?MK;omega
variable[?cY]
theorem addS_zero(p q:Nat)[?gX]:?g5 p q (-0) s=s:=by
 unfold addS;rw[?PS,?PS,AY,AY]
theorem dP[?j]{p f:Nat}[?jJ]:∀m,(∀j,?fI->j<f+m->s.1 p ?G / ?wH=0)->?pD=s
 | 0,_=>rfl
 | m+1,h=>by
   have ih:=dP (t:=t) (p:=p) (f:=f) (s:=s) m fun j h1 h2=>h j h1 O9m;show ?g5 p ?lE (-((?pD).1 p (t ?lE) / (?pD).1 ?lE (t ?lE))) (?pD)=s;rw[ih,h ?lE ?c ?c,addS_zero]
structure zK(i:Nat)[?s](R:Mat):Prop where
 inc:∀j,j<i->t j<t i
 zero:∀x,x<t i->?lY=0
 pos:∀j,?bN->?lQ
 red:∀k j,k<j->j<i->?x7
def Ks(R:Mat)[?s](i k:Nat):Int:=R k ?cO / R i ?cO
structure Nu(n i β c:Nat)[?s][?U](d:Nat)[?gX]:Prop where
 rows:∀r x,s.1 r x=if ?yO then ?mE+-(?o6)*?lY else ?mE
 old:∀r x,?rS->s.2 r x=B r x
 back:∀x,x<n->(s.2 i x).natAbs<=?m5*?b6
theorem Nu.step{n i β c:Nat}[?j][?d1]{d:Nat}[?jJ](L:?GR)(bb:?IC)[?C9](hd:d<i+1)(h:?OU) :
 ?a1D ?b6 (?a50 s d)/\?QQ:=by
 have own:∀x,s.1 ?aA x=R ?aA x:=?SF
 have ri:∀x,s.1 i x=?lY:=?SF
 have hdj:∀j,?bN->?wH=?a8:=fun j hj=>by
  rw[h.rows];by_cases z:?p8<=j/\j<i
  . rw[?d9,L.zero ?G (L.inc j z.2)];simp
  . ext cC
 have zq:∀m,m<d->∀j,?eD<=j->j<?eD+m->s.1 ?aA ?G / ?wH=0:=fun m hm j h1 h2=>by
  rw[own,hdj j ?c];obtain⟨a,b⟩:=L.red ?aA j O9m O9m;exact Int.ediv_eq_zero_of_lt a b
 have zs:?QQ:=fun m hm=>dP m (zq m hm);refine⟨?_,zs⟩;by_cases d0:d=0
 . subst d0;show ?a1D 1 s;refine⟨?zZ,?bU,fun x hx=>qa5 (?u8) (?z6)⟩;rw[h.rows,?n,?n]
 . obtain⟨e,rfl⟩:∃e,d=e+1:=⟨d-1,O9m⟩
   have last:?R t ?cM (i-(e+1)+1) s (e+1)=?g5 ?cM i (-(?rG)) s:=by
    show ?g5 _ (i-(e+1)+1+e) _ (?R t ?cM (i-(e+1)+1) s e)=_;rw[zs e ?c,show i-(e+1)+1+e=i by omega,own,hdj i ?i];rfl
   rw[last];refine⟨?zZ,fun r x hr=>?_,?q7⟩
   . show ?o s.1 ?cM i _ r x=_;by_cases z:r=i-(e+1)
     . subst z;rw[Cd,own,ri,?L,qd1]
     . rw[C3 z,h.rows];by_cases y:i+1-(e+1)<=r/\r<i
       . ext tC
       . ext tB
   . show ?o s.2 i ?cM _ r x=_;rw[C3 hr];exact ?bU r x hr
   . show(?o s.2 i ?cM (- -(?rG)) i x).natAbs<=_;rw[Cd,qd1,qo5,?bU ?cM x ?c];have a:=?u8;have b:=qf0 (s.2 i x) (?rG*B ?cM x);rw[qb3]at b;have m:(?rG).natAbs*(B ?cM x).natAbs<=?z*?cJ:=qf3 (qd9 (hq _ O9m)) (qd9 (bb _ _ O9m hx));rw[←qe4,?QX]at m;rw[Nat.mul_add _ (e+1+1) 1,Nat.mul_one];omega
theorem pJ{n W i β c:Nat}[?j][?d1](L:?GR)[?gU][?C9] :
 ∀d,?i4->?a1D d (?eK):=by
 intro d
 induction d with
 | zero =>
   intro _;refine⟨?zZ,?hI,?q7⟩
   . ext cX;rfl
   . show ?UK<=_;have a:?UK<?cJ:=?o9 i x hi hx;have p:?F1:=?f2;omega
 | succ d ih =>
   intro hd;exact((?cF).step L ?o9 hq hi O9m).1
theorem Nu.bits{n W i β c:Nat}[?j][?d1]{d:Nat}[?jJ][?gU][?C9](hd:?i4)(h:?OU):?ZO (β+(c+i+3)) s:=by
 refine⟨?z8,?z8,?z8⟩
 . rw[h.rows];by_cases z:?yO
   . ext eT;have e:=qf0 (?mE) (-(?o6)*?lY);rw[qb3,qc4]at e;have a:=?UL;have b:=bb.1 i x hi hx;have m:(?o6).natAbs*(?lY).natAbs<=?z*?cJ:=qf3 (qd9 (hq r z.2)) (qd9 b);rw[←qe4,?QX]at m;have p:?F1:=?f2
     have q:4*?m5<=2 ^ (β+(c+i+3)):=by
      have e4:4*?m5=2 ^ (2+?AO):=by rw[qe4 2 2 ?AO]
      rw[e4];exact ?f2
     have a':?K1<?cJ:=a;omega
   . ext cC;exact qb4 (?UL) ?bX
 . by_cases z:r=i
   . subst z;have a:=?u8
     have l:d+1<2 ^ (r+2):=by
      have:=qq8 (n:=r+2);omega
     refine qc1 a ?_;have e4:2 ^ (β+(c+r+3))=?m5*2 ^ (r+3):=?BO
     rw[e4];refine qr6 ?_ ql4;exact qb4 l ?bX
   . rw[?bU r x z];exact qb4 (?o9 r x hr hx) ?bX
 . rw[h.rows];by_cases z:?yO
   . ext eT;have:=P1 (a:=1) (k:=-(?o6)) (c:=c) (bb.2.2 r x hr hx) (bb.2.2 i x hi hx) (show 1<=?z from ql4) (by rw[qc4];exact qd9 (hq r z.2));rw[qd1]at this;exact qb4 ?K ?bX
   . ext cC;exact qb4 (bb.2.2 r x hr hx) ?bX
universe Lat
namespace Lat
open Hb
variable[?cY]
theorem fdiv_small{x h:Int}{c:Nat}(hh:0<h)(hx:?V3):?R7<?z:=by
 have:=jT (x:=x) (h:=h) (K:=x.natAbs) hh (qi0 _ O9m);omega
theorem Dq.putB{n W w i β:Nat}[?bQ][?j][?gS][?d2][?tR](bb:?a38 β R):Jo n W w i G R B t β β :=
 ⟨hi,?BL,?g2,fun j hj=>qd9 (bb j _ O9m (?a4B ?g2)),fun r c hr hc=>qd9 (bb r c O9m (vV c hc)),fun c hc=>qd9 (bb i c hi (vV c hc)),fun l hl=>qd9 (bb i _ hi (?g2 l hl))⟩
theorem Ca.last{n W w r i β c:Nat}[?bQ][?cW][?mX](hn:i<n)[?tR](hG:G ?e8)[?gU](hc:∀k,k<i->(R k ?e8).natAbs<?z) :
 Ca n W w r ?g G M B0 kt hd ?bP (?N9).1 (?N9).2 ∧
 (∀d,?i4->Nu n i β c ?bP R B d (?qO)/\?ZO (β+(c+i+3)) (?qO)) ∧
 (∀d,d<i+1->∀m,m<d->?R ?bP ?aA ?dL (?qO) m=?qO):=by
 have H:=h.st.putB hn vV bb.1;obtain⟨I,_⟩:=h.ins K hi H hG;have D:=(Y9 I hn bb ?g ?i).1;rw[qh6]at D;ext Y2;ext BX
 have L:zK i ?bP R:=⟨fun j hj=>I.s0.inc j i hj O9m,fun x hx=>I.s0.zero i x O9m hx,?a1Z I.s0.pos,fun k j h1 h2=>by rw[t1 j h2];exact ?FP k j h1 h2⟩
 have hq:∀k,k<i->?V2<?z:=fun k hk=>?HV (L.pos i ?i) (by rw[t2];exact hc k hk);have run:=pJ L bb hq hn;exact⟨h.nextK K hi hn I D,fun d hd=>⟨?yA,(?yA).bits bb hq hn hd⟩,fun d hd=>((?E4).step L ?o9 hq hn hd).2⟩
def bA(n r i:Nat)(kt:?v)(c:Nat)(R:Mat):Prop:=∀k j,k<i->i<=j->j<n->(R k ?dT).natAbs<?z
theorem Ca.above{n W w r i β c η:Nat}[?bQ][?cW][?jJ][?mX](hn:i<n)(hη:∀j,?aK->j<n->?TP)(a:bA n r i kt c R)(l:Nu n i β c ?bP R B ?g s):bA n r ?g kt (c+η+1) s.1:=fun k j h1 h2 h3=>by
 ext BX
 have mi:(R i ?dT).natAbs<?hT:=by
  ext CH;obtain⟨m1,m2⟩:=K.red i j O9m O9m h3;have:=hη j O9m h3;omega
 have p1:?hT<=?W4:=?f2;have p2:?z<=?W4:=?f2;rw[l.rows,qh3];by_cases z:i+1-?g<=k/\k<i
 . ext eT;have e:=qf0 (R k ?dT) (-(?JY)*R i ?dT);rw[qb3,qc4]at e
   have q:?V2<=?z:=by
    unfold Ks;rw[t2];have p:0<R i ?e8:=by rw[?WN,?T8];exact ?p0 i hi hn
    exact qd9 (?HV p (a k i z.2 ?i hn))
   have m:=qf3 q (qd9 mi);rw[←qe4]at m;have b:=a k j z.2 O9m h3;omega
 . ext cC;have:k=i:=O9m
   subst this;omega
universe Lat
namespace Lat
open Hb
def put2[?a6][?eV](x y:Int):?k:=fun k=>if k=i then x else if k=j then y else f k
theorem Rc[?a6][?eV](x y:Int):?eC f i j x y i=x:=?p
theorem Rb{i j:Nat}[?a6](h:?d6)(x y:Int):?eC f i j x y j=y:=by unfold put2;rw[?a4L h,?p]
theorem Jr{i j k:Nat}[?a6](h1:k≠i)(h2:k≠j)(x y:Int):?eC f i j x y k=f k:=by unfold put2;rw[?f3,?f6]
structure Ap0(o t g r:Int):Prop where
 go:g∣o
 gt:g∣t
 tr:t∣r
 pr:g*r=o*t
 all:∀d:Int,d∣o->d∣t->d∣g
theorem Shares.pair{A B g a b:Int}(h:?VI):Ap0 A B g (?eW*B):=by
 obtain⟨p,eA⟩:=h.dA;have g0:g≠0:=?zX
 have k1:?eW=p:=?uO
 refine⟨h.dA,h.dB,⟨?eW,?wW⟩,?_,fun d h1 h2=>?_⟩
 . rw[k1,←qd4,←eA]
 . rw[h.e];exact ?EG (qt2 h1) (qt2 h2)
def ChainTo(m i:Nat)[?a6]:Prop:=∀a b,a<i->a<b->b<m->f a∣f b
def ChainAt(m i j:Nat)[?a6]:Prop:=?OL/\∀b,i<b->b<j->f i∣f b
theorem ChainAt.step{m i j:Nat}[?O]{g r:Int}(h:?SL)[?D3](p:Ap0 ?kH ?mJ g r):?lF m i ?a2 (?eC f i j g r):=by
 have ne:?d6:=O9m
 refine⟨fun a b ha hab hb=>?_,fun b hb hbj=>?_⟩
 . rw[Jr f (?ZT a i) (?ZT a j)];have d1:=h.1 a i ha ha O9m;have d2:=h.1 a j ha O9m hj;by_cases e1:b=i
   . rw[e1,Rc];exact p.all _ d1 d2
   . by_cases e2:b=j
     . rw[e2,?gE];exact qq7 d2 p.tr
     . rw[?WY];exact h.1 a b ha hab hb
 . rw[Rc];by_cases e2:b=j
   . rw[e2,?gE];exact qq7 p.gt p.tr
   . rw[Jr f ?c e2];exact qq7 p.go (?R2)
theorem ChainAt.skip{m i j:Nat}[?O](h:?SL)(d:?qT):?lF m i ?a2 f:=⟨h.1,fun b hb hbj=>by
 by_cases e:b=j
 . rw[e];exact d
 . exact ?R2⟩
theorem ChainTo.at{m i:Nat}[?O](h:?OL):?lF m i ?g f:=⟨h,fun b h1 h2=>O9m⟩
theorem ChainAt.next{m i:Nat}[?O](h:?lF m i m f):ChainTo m ?g f:=fun a b ha hab hb=>by
 by_cases e:a=i
 . rw[e]at hab ⊢;exact h.2 b hab hb
 . exact h.1 a b O9m hab hb
theorem Pq{f f':?k}{i:Nat}:∀{m:Nat},i<m->(∀k,k<m->k≠i->f' k=f k)->?nU*f i=?c1*f' i
 | m+1,hi,h=>by
   show ?nU*f' m*f i=?c1*f m*f' i;by_cases e:i=m
   . subst e
     have:?l f' i=?l f i:=by
      have:∀l,l<=i->?PI=?l f l:=by
       intro l
       induction l with
       | zero=>intro _;rfl
       | succ l ih=>intro hl;show ?PI*f' l=?l f l*f l;rw[?m9,h l ?c ?c]
      exact ?K i ?i
     rw[this]
     grind
   . have ih:=Pq (f:=f) (f':=f') (i:=i) (m:=m) O9m ?iU;rw[h m ?c (?kM)];have:?nU*f m*f i=?nU*f i*f m:=?D
     rw[this,ih]
     grind
theorem lF[?O]{i j m:Nat}{x y:Int}[?D3](h0:f i≠0)(hj0:f j≠0)(e:x*y=f i*f j):?sU=?c1:=by
 have ne:?d6:=O9m
 have a:=Pq (f:=f) (f':=?AX) (i:=i) (m:=m) O9m fun k hk hne=>by
  by_cases z:k=j
  . rw[z,?gE]
  . exact Jr f hne z ..
 have b:=Pq (f:=?AX) (f':=?J3) (i:=j) (m:=m) hj fun k hk hne=>by
  by_cases z:k=i
  . rw[z,Rc,Rc]
  . rw[?VQ,?VQ]
 rw[Rc]at a;rw[?gE,?gE]at b
 have c:?sU*(f j*f i)=?c1*(f j*f i):=by
  have:?sU*(f j*f i)=(?sU*f j)*f i:=?D
  rw[this,b];have:?HH*y*f i=(?HH*f i)*y:=?D
  rw[this,a];have:?c1*x*y=?c1*(x*y):=?D
  rw[this,e]
  grind
 exact Int.eq_of_mul_eq_mul_right (Int.mul_ne_zero hj0 h0) c
structure Bil(β:?UO):Prop where
 l:∀u v y a b,β ?oW y=a*β u y+b*β v y
 r:∀x u v a b,β x ?oW=a*β x u+b*β x v
theorem bI{β:?UO}(hb:Bil β){P Q:Mat}[?O]{i j n w:Nat}(ne:?d6)(hin:i<n)(hjn:j<n)(hiw:i<w)(ZV:j<w)(h:∀x y,x<n->y<w->β (P x) (Q y)=?HK)[?Z6] :
 ∀x y,x<n->y<w->β (?o ?jO j i ?qA x) (?C Q i j a b (-(f j / g)) ?rY y)=if x=y then ?eC f i j g ?nS x else 0:=by
 obtain⟨p,eA⟩:=S.dA;obtain⟨q,eB⟩:=S.dB;have g0:g≠0:=by have:=S.pos;omega
 have k1:?kX=p:=?uO
 have k2:f j / g=q:=?RG
 have k3:?y9=b*q:=by rw[eB,show b*(g*q)=g*(b*q) by grind];ext jN
 have e0:=S.e;have ne':j≠i:=?BE;rw[k1,k2,k3];have pi:?a48 i=?NV:=by rw[?fS ne,M0]
 have pj:?a48 j=fun c=>1*P j c+?rE*(?NV) c:=by
  rw[M0,?fS ne',M0]
 have po:∀x,x≠i->x≠j->?a48 x=P x:=fun x h1 h2=>by rw[?fS h2,?fS h1]
 have ii:=h i i hin hiw;have ij:=h i j hin ZV;have ji:=h j i hjn hiw;have jj:=h j j hjn ZV;rw[?p]at ii jj;rw[?kT]at ij;rw[?f ne']at ji;intro x y hx hy;by_cases y1:y=i
 . subst y1;rw[?m7];by_cases x1:x=y
   . subst x1;rw[?p,Rc,pi,hb.l,hb.r,hb.r,ii,ij,ji,jj]
     grind
   . rw[?xC];by_cases x2:x=j
     . subst x2;rw[pj,hb.l,hb.l,hb.r,hb.r,ii,ij,ji,jj];have:1*(a*0+?l1)+-(b*q)*(1*(a*f y+b*0)+1*(a*0+?l1))=?l1-b*q*(a*f y+?l1):=?D
       rw[this,←e0];have:?l1=b*(g*q):=by rw[←eB]
       rw[this]
       grind
     . rw[?u4,hb.r,?mB,h x j hx ZV,?xC,?z7];simp
 . by_cases y2:y=j
   . subst y2;rw[blend_row_q];by_cases x1:x=i
     . subst x1;rw[?kT,pi,hb.l,hb.r,hb.r,ii,ij,ji,jj];have:1*(-q*f x+p*0)+1*(-q*0+p*f y)=p*f y-q*f x:=?D
       rw[this,eA,eB]
       grind
     . by_cases x2:x=y
       . subst x2;rw[?p,?gE,pj,hb.l,hb.l,hb.r,hb.r,ii,ij,ji,jj];have:1*(-q*0+p*f x)+-(b*q)*(1*(-q*f i+p*0)+1*(-q*0+p*f x))=p*f x-b*q*(?HC):=?D
         rw[this];have:?HC=0:=by rw[eA,eB];grind
         rw[this];omega
       . rw[?z7,?u4,hb.r,h x i hx hiw,?mB,?xC,?z7];simp
   . rw[?vW y1 y2];by_cases x1:x=i
     . subst x1;rw[?xE,pi,hb.l,?mB,h j y hjn hy,?xE,?w0];simp
     . by_cases x2:x=j
       . subst x2;rw[?w0,pj,hb.l,hb.l,?mB,h i y hin hy,?w0,?xE];simp
       . rw[?u4,?mB];by_cases e:x=y
         . rw[?c5,?c5,Jr f x1 x2]
         . rw[?cS,?cS]
def bil[?V](A:Mat)(p q:?k):Int:=Aj (?a3T w) n
theorem JZ[?V](A:Mat):Bil (bil n w A):=by
 refine⟨fun u v y a b=>?_,fun x u v a b=>?_⟩
 . unfold bil;ext jA;exact Ai fun k _=>?D
 . unfold bil;ext jA;refine ?z5
   have:Aj (fun c=>A k c*(?v4)) w=a*Aj (fun c=>A k c*u c) w+b*Aj (fun c=>A k c*v c) w:=by
    ext jA;exact Ai fun c _=>?D
   rw[this]
   grind
theorem P3[?cE]{A:Mat}{p p' q q':?k}(hp:∀a,a<n->p a=p' a)(hq:∀b,b<w->q b=q' b):?UP=?a01 p' q':=by
 unfold bil;refine Ai ?GX;rw[hp a ha,Ai fun b hb=>by rw[hq b hb]]
theorem bil_flip[?V](A:Mat)(p q:?k):?UP=bil w n ?sK q p:=by
 unfold bil;rw[show(?a3T w)=fun a=>Aj (fun b=>p a*(?A3)) w from ?a7 fun a=>(Ax ..).symm];rw[Cr];refine Ai fun b _=>?_;rw[←Ax];exact Ai fun a _=>?D
theorem Td[?cE]{A:Mat}{x:?k}{U:Mat}{q:?k}:∀m,bil n w A (fun c=>?s6) q=?uJ
 | 0=>by
   show ?a01 (?gN) q=0;unfold bil;exact ?T fun a _=>?dD
 | m+1=>by
   have e:(fun c=>?ZQ ?fN ?qS)=fun c=>1*(?a1X ?s6) c+?vT:=?a7 fun c=>by
    show ?s6+?vT=1*?s6+?vT;omega
   rw[e,(?D6).l,Td m];show 1*?uJ+x m*?a01 (U m) q=?uJ+x m*?a01 (U m) q;omega
def MX[?V](A Q M:Mat):Prop:=∀k c,k<n->c<w->M k c=?a01 (fun a=>M k ?b8) ?fX
theorem MX.rows{n w W:Nat}{A Q M R:Mat}(h:?WV)(hW:?v9)(e:∀i,i<n->In W n M (R i)):?TY:=fun i c hi hc=>by
 obtain⟨x,hx⟩:=e i hi;rw[?SM];have:?a01 (fun a=>R i ?b8) ?fX=bil n w A (fun a=>Aj (fun k=>x k*(fun k a=>M k ?b8) k a) n) ?fX:=P3 (fun a ha=>hx ?b8 O9m) ?eN;rw[this,Td];exact Ai fun k hk=>by rw[?x9]
theorem Dq.told{n W w:Nat}[?nB]{A Q M B0 R B:Mat}[?j][?CL](hW:?v9)(k:?WV):?TY:=k.rows hW (?JS).1
def beside(w:Nat)(T P:Mat):Mat:=fun r c=>if c<w then T r c else P r (c-w)
theorem beside_lo{w:Nat}{T P:Mat}{r c:Nat}(h:c<w):?B w T P r c=T r c:=?m h
theorem beside_hi(w:Nat)(T P:Mat)(r a:Nat):?B w T P r ?b8=P r a:=by unfold beside;rw[?n,qp0]
theorem Oc[?Y1]:MX n w A Q ?cV:=fun k c hk hc=>by
 rw[?s8,?x9];exact P3 (fun a _=>(beside_hi w T P k a).symm) ?eN
theorem Tj[?Y1]:∀c k,c<w->k<n->tr T c k=bil w n ?sK ?fX (P k):=fun c k hc hk=>by
 show ?c6=_;rw[?x9,bil_flip]
variable[?cY]
def Fs(π b i:Nat):Nat:=i*?fG+?a11 ?g ?eA
def Dy(π b:Nat):?v
 | 0=>0
 | i+1=>?DO+?y0
def P5(c η r:Nat):?v
 | 0=>0
 | d+1=>?KE+(c+d*(η+1)+(r+d)+3)
universe Lat
namespace Lat
open Hb
variable[?cY]
theorem Ca.wide[?jI]{G G':?aH}[?tX][?cW][?ZB](hG:∀c,G c->G' c):?a0T G' M:=⟨⟨h.st.good,h.st.st,fun j hj=>hG _ (?a4B h.st.pg)⟩,?sN,?m0⟩
theorem QN{n W r β:Nat}[?u1][?jJ](b:?JA)(hr:?b5)(hC:∀j,?aK->j<n->C ?dT)(hδ:δ<=β):bA n r r kt (β-δ) s.1:=fun k j h1 h2 h3=>by
 have:=b.2.2 k ?dT O9m (hC j h2 h3);have e:?cJ=2 ^ (β-δ)*?iB:=?BO
 rw[e]at this;exact Nat.lt_of_mul_lt_mul_right ?K
def moveS(i s:Nat)(x:?aL):?aL:=(?P x.1 i s,?P x.2 i s)
def LO(p:Nat)(x:?aL):?aL:=(Gc x.1 p,Gc x.2 p)
theorem YD{n i s r:Nat}[?gV](hr:r<n):?xM<n:=?v5
theorem BB.move{n W β i s:Nat}[?CG][?gV]:?ZO β (moveS i s x) :=
 ⟨h.1.move hi hs,h.2.1.move hi hs,fun r c hr hc=>by show(?P x.1 i s r c).natAbs*_<_;rw[move_row];exact h.2.2 _ c (YD hi hs hr) hc⟩
theorem BB.neg{n W β p:Nat}[?CG]:?ZO β (LO p x) :=
 ⟨h.1.neg,h.2.1.neg,fun r c hr hc=>by
  show(Gc x.1 p r c).natAbs*_<_;unfold Gc;ext jL
  . subst e;rw[Bl,qc4];exact ?NJ
  . rw[?fH];exact ?NJ⟩
def insS(i spot st:Nat)(x:?aL):?aL:=if (?A2).1 ?d st<0 then LO ?d (?A2) else ?A2
theorem yL(i spot st:Nat)[?U]:?u7=?VU:=by
 ext YL
 . ext eT;ext XA;ext eT;rfl
 . ext cC;ext XA;ext cC;rfl
theorem YK(i spot st:Nat)[?U]:?B0=?G3:=by
 ext YL
 . ext eT;ext XB;ext eT;rfl
 . ext cC;ext XB;ext cC;rfl
theorem BB.ins{n W β i spot st:Nat}[?CG][?d2](hs:?cH):?ZO β (insS i ?d st x):=by
 unfold insS;split
 . exact(?WU).neg
 . exact ?WU
theorem SI{n W w i β:Nat}[?nB][?eR][?j]{π b spot st:Nat}[?ZL](p:?BM)[?XC](bb:?ZO (β+?qV) ?aJ) :
 UU n W w i G R0 B0 ?aP ?eA ?u7 ?B0 ∧
 N9 n W w i ?u7 ?B0 ?aP 0 (?JW).1 (?JW).2 ∧
 ?OB ∧
 (∀d,?i4->?ZO (?lZ) (?a4P d)) ∧
 (∀d,d<=i->∀m,m<=d->?ZO (?lZ) (?R ?aP ?aA ?dL (?a4P d) m)):=by
 have I:=p.ins H hs h0 h1 hW hG ZU hex;rw[←yL,←YK]at I;have b1:?OB:=(bb.mono (by have:=qc0 (?fG) hs;omega)).ins ?bV hs;have run:=Y9 (β:=?BH) I ?bV b1
 have up:∀d,?i4->?BH+?a11 d ?eA<=?lZ:=fun d hd=>by
  unfold Fs;have:=qc0 (?g*(i+1+?eA+2)) hd;omega
 refine⟨I,?_,b1,fun d hd=>(?yA).2.1.mono (up d hd),fun d hd m hm=>((?E4).2.2 hd m hm).mono (up ?b6 O9m)⟩;have D:=(run ?g ?i).1;rw[qh6]at D;exact D
universe Lat
namespace Lat
open Hb
variable[?cY]
theorem Vr{w m D:Nat}{T P:Mat}(h:Oa m ?lM T D):Oa m ?lM ?cV D:=fun i hi s hs=>by
 have e:(det i fun r l=>?B w T P r ?b4)=?BB:=Cs fun r c _ hc=>?y2 ?NL;rw[e];exact h i hi s hs
theorem In.cols{w n:Nat}{R R':Mat}{u v:?k}(h:?RQ)(hR:?a25 ?hU R')(hu:?GN):?a30 R' v:=by
 obtain⟨x,hx⟩:=h;exact⟨x,fun c hc=>by rw[←hu c hc,?e5];exact Ai fun k hk=>by rw[hR k c hk hc]⟩
theorem Eb.cols[?cE]{T T' S S':Mat}(h:?uY)(e:?a25 ?c6 S)(e':?a25 ?vP S'):Eb n w S S':=by
 obtain⟨r,t,hr,st,hz⟩:=h.st;refine⟨fun i hi=>(h.fwd i hi).cols e (?a2V e'),fun i hi=>(h.bwd i hi).cols e' (?a2V e),r,t,hr,⟨st.lt,st.inc,?fB,?aB,fun k j hk hj=>?_⟩,fun i c h1 h2 h3=>by rw[←e' i c h2 h3];exact hz i c h1 h2 h3⟩
 . rw[←e' j c ?c (by have:=?wS;omega)];exact st.zero j c hj hc
 . rw[←?IB];exact ?OC
 . rw[←e' k _ ?c (?wS),←?IB];exact st.red k j hk hj
theorem lT{n W w r i E π b:Nat}{e:Int}{T P B0 R B:Mat}[?cW](g:?l3)(hW:w<=W)(h:?a0T ?lM ?cV)(hi:i<r)(hE:E<=?N)(he:e.natAbs<=?N)(hb:i*E<=?A)(hπ:π<=b):?a1S ?lM:=by
 have rn:=g.sq.rn;refine h.st.putD (Vr g.dets) O9m O9m (fun c hc=>O9m) (b0:=π) (?dI) hE hb ?i hπ;rw[?s8];obtain⟨a1,a2⟩:=?a3Y g.le i;omega
theorem Nj{n w r E:Nat}{e:Int}[?nB]{A Q T P B0 R B:Mat}[?cW](he:0<e)(g:?l3)(K:?a0L ?Y ?cV)(h:?a47 ?Y ?cV)(k:?TK) :
 ?K0/\E5 w n r E e ?fF/\?a0L ?Y R/\?a4O R (fun a=>R x ?b8):=by
 have s:?K0:=?a2D h.st.rows;exact⟨s,s.going he g,h.done K,h.st.told ?i (Oc k)⟩
universe Lat
namespace Lat
open Hb
variable[?cY]
theorem MG{n W w i D π b b0:Nat}[?tX][?j][?XZ][?Z7][?d2][?YS]:?a1S (fun c=>c<W) :=
 h.putD hD O9m hi (fun _ hc=>hc) (?a2V hM) h1 h2 h3 h4
theorem Rp{n W w i D b b0 β:Nat}[?tX][?j][?XZ](hB:∀k a,B0 k a=?FQ)[?Z7](hi:i<=n)(h2:?LA)(h4:b0<=b)(hβ:b<β)(hβ2:n+b0<β):BB n W (fun _=>False) 0 β ?aJ:=by
 refine⟨?e3,fun r a hr ha=>?_,fun _ _ _ z=>z.elim⟩
 . have le:?MF:=by
    by_cases z:r<i
    . exact qa5 (h.rowD hD hi (fun _ hc=>hc) z hc) h2
    . rw[?p7 r c ?c];exact qa5 (?a3O hM) (C5 h4)
   exact qc1 le (qh4 ?W hβ)
 . have pM:∀x,x<n->∀c,pT n B0 M x c=M x c:=fun x hx c=>by
    show Aj (fun k=>B0 k x*M k c) n=M x c;rw[?a0 (j:=x) hx fun k _ hne=>by rw[hB,?vC];simp,hB,?p,qd1]
   by_cases z:r<i
   . have:=h.backs hi (a:=a) (m:=?z3) (fun k hk=>by rw[?NW k a hk,hB]) (fun j hj=>by rw[pM a ha];exact ?MW) (?a1R ?MW) (fun _ _ j _=>pM a ha _) r z;rw[←qe4]at this;exact qc1 ?K (?vI)
   . show(B r a).natAbs<?cJ;rw[?NW r a ?c,hB];have:1<?cJ:=Nat.one_lt_two_pow O9m;split
     . ext aN
     . exact qv0 ?W ?K
universe Lat
namespace Lat
open Hb
theorem Es(w:Nat)(R:Mat):?B w R (fun r a=>R r ?b8)=R:=by
 funext r c
 unfold beside;by_cases h:c<w
 . rw[?m h]
 . rw[?f h];show R r (w+(c-w))=?bF;rw[show w+(c-w)=c by omega]
theorem Qa.table{n W w r:Nat}[?u1]{hd:?k}{T T' P:Mat}(h:?a0L W ?cV)(hz:?lA):?a0L W (?B w T' P):=by
 have same:∀k c,w<=c->?B w T' P k c=?B w T P k c:=fun k c hc=>by unfold beside;rw[?n,?n]
 refine⟨?M5,?cN,h.ge,h.lt,?pR,?Z,?IZ⟩
 . by_cases z:c<w
   . rw[?y2 z];exact hz j c h1 h2 z
   . rw[same j c ?c];exact ?V4
 . rw[same j _ (h.ge j h1 h2)];exact h.head j h1 h2
 . rw[same k _ (h.ge j h1 h3)];exact ?DE
theorem Gj{n w w':Nat}{T T' P B:Mat}(h:?IU):E7 n w' (?B w' T' P) B:=fun i j hi hj=>by
 have:=?WF;unfold pD at this ⊢;rw[←this];exact Ai fun c _=>by rw[beside_hi,beside_hi]
structure Rt(n w r E L m:Nat)(e:Int)(A T P PB Q QB:Mat)(kl kr:?v)(hl hr:?k):Prop where
 e0:0<e
 going:?l3
 kl:Qa n ?Y w r kl hl ?cV
 kr:?a16 ?dJ Q
 told:?TK
 dl:?a2B ?cV PB
 dr:E7 w n (?B n ?dJ Q) QB
 left:?GZ
theorem Rt.next{n w r E L m:Nat}{e:Int}{A T P PB Q QB R RB S SB:Mat}{kl kr tl ur:?v}{hl hr:?k}{G G':?aH}(hL:?LQ)[?Z0]
 (s1:Ca n ?Y w r n G ?cV PB kl hl tl R RB)
 (s2:Ca w ?gQ n r w G' (?B n ?fF Q) QB kr hr ur S SB) :
 ?HN/\(¬?mV->0<m/\Rt n w r E L (m-1) e A ?pC (?mA) RB (?lV) SB kl kr hl hr):=by
 obtain⟨a1,a2,a3,a4⟩:=Nj h.e0 h.going h.kl s1 h.told;have kr':?a16 ?fF Q:=?ZR h.kr.table a2.sq.row0;have t2:?a1O Q:=fun x c hx hc=>Tj (T:=R) (P:=?BR) a4 x c hx hc;obtain⟨b1,b2,b3,b4⟩:=Nj h.e0 a2 kr' s2 t2;have st:?HN:=⟨R,a1,b1⟩
 refine⟨st,fun ns=>?_⟩;obtain⟨m0,lf⟩:=h.going.next h.e0 hL st h.left ns;refine⟨m0,h.e0,b2,?_,?_,?_,?_,?_,lf⟩
 . have:Qa n ?Y w r kl hl (?B w R ?mA):=by rw[Es];exact a3
   exact ?ZR ?sI b2.sq.row0
 . have:?a16 S ?lV:=by rw[Es];exact b3
   exact ?ZR ?sI b2.sq.flip.row0
 . intro x c hx hc;show S c x=_;rw[b4 c x hc hx,bil_flip]
 . have d:=s1.st.good.dual h.dl;have:?DW:=?PY
   exact ?qJ
 . have d:=s2.st.good.dual (Gj h.dr);have:?FY:=?PY
   exact ?qJ
def one:Mat:=fun i j=>?oC
theorem S0[?V](T:Mat):?a2B (?B w T one) one:=fun i j hi hj=>by
 unfold pD
 rw[show(fun c=>?B w T one i ?qG*?wE)=fun c=>(if c=i then 1 else 0)*?wE from ?a7 fun c=>by
  rw[beside_hi];show(if i=c then ?cK else 0)*_=_;by_cases e:i=c
  . rw[?c5,?m ?sH]
  . rw[?cS,?f ?kM]]
 rw[Cn (?a1X ?wE) i n,?oZ];show(if j=i then ?cK else 0)=_;by_cases e:i=j
 . rw[?c5,?m ?sH]
 . rw[?cS,?f ?kM]
theorem nO[?cE](A:Mat):∀x c,x<n->c<w->A x c=?a01 (one x) (one c):=fun x c hx hc=>by
 unfold bil
 rw[?a0 (j:=x) hx fun k _ hne=>by
  have:one x k=0:=?w9;ext cA]
 rw[?a0 (j:=c) hc fun k _ hne=>by
  have:one c k=0:=?w9;ext cA]
 have e1:one x x=1:=?p;have e2:one c c=1:=?p;rw[e1,e2];simp
theorem GA{n w D D' L:Nat}{A R RB S SB:Mat}{t u:?v}{G G':?aH}(hD:Oa n G (?B w A one) D)(hD':Oa w G' (?B n ?fF one) D')
 (s1:Dq n ?Y w n G (?B w A one) one t R RB) (s2:Dq w ?gQ n w G' (?B n ?fF one) one u S SB) :
 ∃(r:Nat) (e:Int),?b5/\?gL/\e<=D/\Rt n w r D L (r*?iP) e A ?pC (?mA) RB (?lV) SB t u ?m3 (fun j=>?zU) ∧
   (?WI)/\∀j,j<w->?zU<=D':=by
 obtain⟨r,hr,st,hz,K,pr,hd⟩:=s1.first hD;obtain⟨r',hr',st',hz',K',_,hd'⟩:=s2.first hD';have e0:0<?QV:=B8 (?a1R ?OC);have rs2:Eb w n ?fF (tr ?pC):=?a2D s2.rows;have g:=U2.first (T:=A) hr st hz rs2 pr;have rw':=g.sq.rw
 have er:r'=r:=by
  refine qj1 ?g6 ?g6
  . have p:=st'.pos r z;have:S r (u r)=0:=g.sq.col0 (u r) r (st'.lt r z) ?i O9m;omega
  . have p:0<S r' r':=g.pos r' z;have:S r' r'=0:=hz' r' r' ?i O9m O9m;omega
 subst er;have d1:=s1.good.dual (S0 n w A);have d2:=s2.good.dual (S0 w n ?fF);have tl:=s1.told ?i (Oc (nO (n:=n) (w:=w) A));have t2:?a1O one:=fun x c hx hc=>Tj (T:=R) (P:=?BR) (Q:=one) tl x c hx hc;have tl2:=s2.told ?i (Oc t2);refine⟨r',_,hr,rw',pr,⟨e0,g,?_,?_,fun x c hx hc=>?_,?_,?_,mY.start g⟩,hd,hd'⟩
 . have:Qa n ?Y w r' t ?m3 (?B w R ?mA):=by rw[Es];exact K
   exact ?ZR ?sI g.sq.row0
 . have:Qa w ?gQ n r' u (fun j=>?zU) (?B n S ?lV):=by rw[Es];exact K'
   exact ?ZR ?sI g.sq.flip.row0
 . show S c x=_;rw[tl2 c x hc hx,bil_flip]
 . have:?DW:=by rw[Es];exact d1
   exact ?qJ
 . have:?FY:=by rw[Es];exact d2
   exact ?qJ
structure Dz(n w m:Nat)(E:Nat)(A P PB Q QB:Mat)[?a6]:Prop where
 mn:?hM
 mw:m<=w
 diag:∀x y,x<n->y<w->?a01 (P x) (Q y)=?HK
 pos:∀x,x<m->0<f x
 zero:∀x,m<=x->x<n->x<w->f x=0
 prod:?c1<=E
 dl:E7 n 0 P PB
 dr:E7 w 0 Q QB
theorem aP[?cE]{T P B:Mat}(h:?IU):E7 n 0 P B:=fun i j hi hj=>by
 rw[←?WF];unfold pD;exact Ai fun c _=>by rw[beside_hi,qu9]
theorem Rt.diag{n w r E L m:Nat}{e:Int}{A T P PB Q QB:Mat}{kl kr:?v}{hl hr:?k}[?Z0](s:?mV):Dz n w r E A P PB Q QB (fun x=>T x x):=by
 refine⟨h.going.sq.rn,h.going.sq.rw,fun x y hx hy=>?_,h.going.pos,fun x h1 h2 h3=>h.going.sq.row0 x x h1 h2 h3,h.going.prod,aP h.dl,aP h.dr⟩;rw[←h.told x y hx hy];by_cases z:x=y
 . rw[?d9,z]
 . ext cC;exact s x y hx hy z
theorem Dz.share[?ZK][?O](h:?N0){i j:Nat}[?D3][?Z6] :
 Dz n w m E A (?o ?jO j i ?qA) (?o (?o PB j i ?E) i j (?y9)) (?C Q i j a b (-(f j / g)) ?rY) (?C QB i j ?rY (f j / g) (-b) a) (?eC f i j g ?nS):=by
 have ne:?d6:=O9m
 have mn:=h.mn;have mw:=h.mw;have pi:=?Z i O9m;have pj:=?sV;have pg:=S.pos;have pr:=S.pair;have gz:?kX*g=f i:=Int.ediv_mul_cancel S.dA
 have po:0<?kX*f j:=by
  have:0<g*?nS:=by rw[pr.pr];exact qt7 pi pj
  exact Int.pos_of_mul_pos_right ?K O9m
 refine⟨mn,mw,bI (?D6) ne O9m O9m O9m O9m h.diag S,?q7,fun x h1 h2 h3=>?_,?_,?_,?_⟩
 . by_cases e1:x=i
   . rw[e1,Rc];exact pg
   . by_cases e2:x=j
     . rw[e2,?gE];exact po
     . rw[?WY];exact ?Z x hx
 . rw[Jr f ?c ?c];exact ?aY x h1 h2 h3
 . rw[lF hij hj ?c ?c pr.pr];exact h.prod
 . have d1:=h.dl.add (p:=i) (q:=j) O9m O9m ne 1;have d2:=d1.add (p:=j) (q:=i) O9m O9m ?fA ?qA;rw[qo5]at d2;exact d2
 . have B:=S.blend (π:=?QK+?RH) pi (qa5 O9m (qd9 qq8)) (qa5 O9m (qd9 qq8));have d:=h.dr.blend (p:=i) (q:=j) O9m O9m ne B.one;rw[qo5]at d;exact d
theorem Dz.le[?ZK][?O](h:?N0){x:Nat}(hx:x<m):f x<=E:=qv4 (Xt ?Z hx) ?u2
def Vj(n r:Nat)(kt:?v):?aH:=fun c=>∃j,?aK/\j<n/\c=?f7
theorem Qa.bits{n W w r β η:Nat}[?u1]{hd:?k}{M B:Mat}(K:?uZ)(hη:∀j,?aK->j<n->?h2<=?hT)(b1:?a38 β M)(b2:?IC)(hβ:η+1<=β):BB n W (Vj n r kt) ?lT β (M,B):=by
 refine⟨b1,b2,fun k c hk hc=>?_⟩;obtain⟨j,h1,h2,rfl⟩:=hc
 have le:?WP<=?hT:=by
  have p:=?p0 j h1 h2;have q:=hη j h1 h2
  have q':?TP:=by
   have:(?DN:Int)<=((?hT:Nat):Int):=by rw[Int.natAbs_of_nonneg ?c];exact_mod_cast q
   exact_mod_cast this
  rcases qn5 k j with z | z | z
  . obtain⟨a,b⟩:=K.red k j h1 z h2;omega
  . subst z;rw[?yG k h1 h2];exact q'
  . rw[?uQ k _ ?c hk (K.inc j k h1 z hk)];exact ?b1
 show ?WP*2 ^ ?lT<?cJ;have e:?cJ=2 ^ (η+1)*2 ^ ?lT:=?BO
 rw[e];refine Nat.mul_lt_mul_of_pos_right ?_ (?IL _);exact aC le
def Mb(π b η r n:Nat):Nat:=?eH+P5 (η+1+?eH) η r (n-r)
theorem US{n W r β η π b:Nat}[?u1][?jJ](bb:BB n W (Vj n r kt) ?lT (β+?eH) s)(hr:?b5)(hβ:η+1<=β):bA n r r kt (η+1+?eH) s.1:=by
 have:=QN bb hr (kt:=kt) (fun j h1 h2=>⟨j,h1,h2,rfl⟩) O9m;rw[show β+?eH-?lT=η+1+?eH by omega]at this;ext aN
theorem kU(π b:Nat){i r:Nat}(h:i<=r):?DO<=?eH:=by
 induction r with
 | zero=>rw[?a0E i 0];ext dR
 | succ r ih =>
   by_cases e:i=r+1
   . rw[e];ext dR
   . have:=?cF;show _<=?eH+Fs π b r;omega
theorem MI(c η r:Nat){d e:Nat}(h:d<=e):?KE<=?GC:=by
 induction e with
 | zero=>rw[?a0E d 0];ext dR
 | succ e ih =>
   by_cases z:d=e+1
   . rw[z];ext dR
   . have:=?cF;show _<=?GC+_;omega
universe Lat
namespace Hb
open PySem L2
theorem iG{g:TG}[?CB][?X5]
 (hs:∀i x y zs τ H p,xs[i]?=?gI->?OP->?i6->?dE->g ?eO τ (?a0W p (?bJ [x,y])) fun τ2 H2=>te τ2 H2 ?NF)
 [?ZG]:?a3L ?qP KU:=mP hn Pv h0 hl (fun i x y zs τ H p e1 e2 q hp=>hs i x y zs τ H p e1 e2 q hp) hd
noncomputable abbrev big:Nat:=67108864
theorem wC:∃n:Nat,n=?y1:=?M0
def L9:Nat:=Classical.choose wC
theorem Zz:L9=?y1:=Classical.choose_spec wC
theorem gX{i j:Int}{n:Nat}(hi:?MJ)(hj:j.natAbs<2 ^ n)(h:9000+n<=134217728:=by decide):?B8 i j:=Qf ?zP hj h
theorem BV[?Z5]:?B8 i j:=Qf ?zP ?IA ?W
theorem U4.of9{i j:Int}(h0:j≠0)(h:?HT):U4 i j:=U4.of h0 (Zz▸h)
theorem A08[?Z5]:(i*j).natAbs<2 ^ 18000:=by
 rw[qb3,show 18000=9000+9000 from rfl,qe4];exact qq3 ?zP ?IA
theorem vM{x π:Nat}(h:x<=?N)(hπ:π<=8999):x<L9:=by
 rw[Zz];exact qc1 h (?vI)
def BO[?cZ][?bD]:Prop:=?JH n W big s.1/\?JH n n big s.2
def TA(H:Hp)(r:Addr)(as:?fM)[?cZ](f:Lat.Mat):Prop:=as.length=n/\?a4Y r (?l4)/\∀i c,?WS->?a4Y c (VI W ?kH)
section
variable[?aM][?d0]{r:Addr}{as:?fM}{n W:Nat}{f g:Lat.Mat}
theorem TA.keep[?c9](h1:∀o,H r=?Q->H' r=?Q)(h2:?UE):?wZ:=⟨x.1,h1 _ ?iQ,fun i c e=>h2 c (qb7 e) _ (?hB i c e)⟩
theorem TA.same[?c9](s:?c2):?wZ:=?uE (fun _ e=>?x8) fun _ _ _ e=>?x8
theorem TA.put{y:Addr}{o:HO}[?c9](h1:r≠y)(h2:∀a∈as,a≠y):?a4X (?a0W y o) f:=?uE (fun _ e=>?a2W h1) fun a ha _ e=>?a2W (h2 a ha)
theorem TA.row[?c9]{i:Nat}[?d2]:∃c,?WS/\(?l4)[i]?=?e (?h c)/\c∈as/\SqL K H c (VI W ?kH):=by
 obtain⟨h1,_,h3⟩:=x;have e:=qa0 (l:=as) (i:=i) O9m;refine⟨as[i],e,by rw[qb2,e];rfl,qe5 _,.of (h3 i _ e)⟩
theorem TA.rep[?c9]:Rep K H (?h r) (dT n W f):=by
 refine fG (us:=?l4) (.of ?iQ) (by rw[qa3,x.1]) ?pU;obtain⟨c,_,e,_,h⟩:=x.row (K:=K) hi;exact⟨c,e,h⟩
theorem TA.there[?c9]:H r≠none/\∀a∈as,?y4:=by
 refine⟨by rw[?iQ];exact(fun z=>nomatch z),?GX⟩;obtain⟨i,hi,rfl⟩:=qj8 ha;rw[?UY];exact fun z=>by cases z
theorem TA.of{D:Addr}{H1:Hp}{w h:Nat}(R:Rows H H1 D as w f)(hl:as.length=h):TA H1 D as h w f:=⟨hl,R.at,fun i c e=>(R.row i c e).2.2⟩
theorem TA.congr[?c9](e:∀i c,i<n->c<W->f i c=g i c):?a4X H g:=by
 refine⟨x.1,?iQ,fun i c ec=>?_⟩;have hi:i<n:=by rw[←x.1];exact(?uA ec).1
 rw[?hB i c ec,Pj fun k hk=>e i k hi hk]
theorem TA.x[?tD][?c9][?t6]:?wZ:=by
 refine ?uE (fun o e=>?a2S ?iQ e) fun a ha o e=>sx _ _ ?_ e;obtain⟨i,hi,rfl⟩:=qj8 ha;exact E3 (?UY) hp ?aC
theorem TA.made{H2:Hp}{L D:Addr}{i:Nat}[?c9](s2:Same H H2)[?d2](hL:H2 L=?a07 (?KL i ?kK))(hD:H2 D=?a07 (VI W (g i)))(e:∀r,?rS->g r=f r):TA H2 L (as.set i D) n W g:=by
 refine⟨by rw[qj3,x.1],by rw[hL,List.map_set],fun j c ec=>?_⟩;rw[qs9]at ec;by_cases hj:i=j
 . subst hj;ext Y8;exact hD
 . rw[?f hj]at ec;rw[e j ?DV];exact s2 _ _ (?hB j c ec)
theorem TA.two{i j:Nat}{D1 D2:Addr}[?c9][?d2](hj:j<n)(hij:?d6)(h':?a4T r ((?KL i (?h D1)).set j (?h D2)))(keep:?UE)(h1:?a4T D1 (VI W (g i)))(h2:?a4T D2 (VI W (g j)))(e:∀k,k≠i->k≠j->g k=f k):TA H' r (?UJ) n W g:=by
 refine⟨by rw[qj3,qj3,x.1],by rw[h',List.map_set,List.map_set],fun k c ec=>?_⟩;rw[qs9,qj3]at ec;by_cases hkj:j=k
 . subst hkj;rw[?p,?m (by rw[x.1];exact hj)]at ec;cases ec;exact h2
 rw[?f hkj,qs9]at ec;by_cases hki:i=k
 . subst hki;ext Y8;exact h1
 rw[?f hki]at ec;rw[e k (?ZY hki) (?ZY hkj)];exact ?eM c (qb7 ec) _ (?hB k c ec)
theorem jN{i j:Nat}{D1 D2 a:Addr}(h:a∈?UJ):?v3\/a=D1\/a=D2:=by
 rcases qn9 h with h | h
 . rcases qn9 h with h | h
   . exact ?x h
   . exact ?F (?x h)
 . exact ?F (?q2)
theorem Ju{l i:Nat}(h:i<l):tY l (?iD:Int)=?e i:=by
 unfold tY;rw[?L,?L,qd6]
universe e9
def mNames:?k6:=["turn","blend","put_in","meet","shrink","shrink_row"]
structure LX(H:Hp)(C p r b:Addr)(sv:?d7)[?cZ][?bD](N:?eG):Prop where
 ob:Hm fun dx fs=>?a0G C fs/\En (?a0N "rows" (?h r)) (?a0N "backs" (?eP)) (?d4 (?TC:Str)=sv) ((∀m∈mNames,?W8)) (fs.length<=10)
 rw:∃as,TA H r as n W s.1/\∀a∈as,?DM
 bk:∃bs,TA H b bs n n s.2/\∀a∈bs,?DM
 ne:r≠b
 nr:¬N r
 nb:¬N b
 nn:∀a,N a->?y4
theorem LX.keep[?d0][?t3][?tY][?tJ](e:?c2):?V9:=by
 ext BW;exact⟨?RM,⟨as,?L1,a2⟩,⟨bs,?DI,b2⟩,?e9,x.nr,x.nb,fun a ha z=>x.nn a ha (e.free z)⟩
theorem LX.refs{H:Hp}[?t3][?tY][?tJ]:p≠r/\p≠b:=by
 obtain⟨dx,fs,h1,_⟩:=x.ob;obtain⟨as,a1,_⟩:=x.rw;obtain⟨bs,b1,_⟩:=x.bk;exact⟨E3 h1 a1.2.1 ?aC,E3 h1 b1.2.1 ?aC⟩
def tnS(t:Tn)[?bD]:?H:=(rQ t s.1,rQ (tnA t) s.2)
def yE[?cZ](f:Lat.Mat):Tn->Prop
 | .ad i j k=>i<n/\j<n/\?d6/\∀c,c<W->?B8 k (f j c)
 | .mi i=>i<n
 | .sw _ _=>False
def U3(r b:Addr)(H H':Hp):Prop:=∀x o,x≠r->x≠b->H x=?Q->H' x=?Q
theorem U3.of{r b:Addr}[?d0](s:?c2):?mK:=fun _ _ _ _ e=>?x8
theorem U3.trans{r b:Addr}{H H1 H2:Hp}(x:U3 r b H H1)(y:U3 r b H1 H2):U3 r b H H2:=fun a o n1 n2 e=>y a o n1 n2 (x a o n1 n2 e)
theorem U3.l{r b:Addr}[?d0]{o:HO}(x:?mK):U3 r b H (upd H' r o):=?a21 n1
theorem U3.r{r b:Addr}[?d0]{o:HO}(x:?mK):U3 r b H (upd H' b o):=?a21 n2
section
variable[?c8]
def Xb:Sp:=fun vs H Q _=>qZ fun(r:Addr) (u:V) (as:?fM) ?i1 (f:Lat.Mat) (t:Tn)=>Pm (vs=[?h r,u]) (?QC) (Rep K H u (RH t)) (yE n W f t) ?o0 ?nV (∀(D:Addr) (as':?fM) (H':Hp),?xV->?c2->TA H' D as' n W (rQ t f)->(∀a∈as',(?v3\/?xT)/\a≠D)->Q ?kK H')
def Mf[?j7]:Sp:=fun vs H Q _=>cW fun(p dx C:Addr) (r b:V)=>B4 (vs=[?aT,r,b]) ((C=CL\/C=CS)) (?a0G C []) (∀H',(∀fs,fs=?RF->H'=upd (?a0W p (?bH C dx (putF "rows" r []))) p (?bH C dx fs)->?bL))
def Kh[?c8]:Sp:=fun vs H Q _=>QZ fun(p:Addr) (u:V) (C r b:Addr) ?AQ ?i1 ?iW ?BV (t:Tn)=>FY (vs=[?aT,u]) ((C=CL\/C=CS)) (?uB) (Rep K H u (RH t)) (yE n W s.1 t) (yE n n s.2 (tnA t)) ?o0 ?nV (∀(r' b':Addr) (H':Hp),?BQ->?U7->?PV->LX H' C p r' b' sv n W (tnS t s) N->?bL)
def Vd:Sp:=fun vs H Q _=>∃A B:Int,vs=[?r A,?r B]/\0<A/\B≠0/\?PX/\?D7/\∀(L:Addr) (g a b:Int) (H':Hp),?c2->?a45 b->?rA A B g a b->?M4
def Mg[?c8]:Sp:=fun vs H Q _=>ZN fun(p C r b:Addr) ?AQ (n W i j:Nat) (A B:Int) ?iW ?BV=>WL (vs=[?aT,?rL,?r j,?r A,?r B]) ((C=CL\/C=CS)) (?uB) ?oA (j<n) (?d6) ?o0 ?nV (0<A) (B≠0) (?PX) (?D7) (?AU) (∀(L:Addr) (g a c:Int) (H':Hp),?mK->?pQ->?a45 c->?rA A B g a c->LX H' C p r b sv n W (?AW i j a c (-(B / g)) (?eW) s) N->?M4)
universe e9
def Hds(W:Nat)[?s](f m:Nat)(R:Lat.Mat):Prop:=∀j,?fI->j<m->t j<W/\?lQ/\?eF<L9
structure SX(CS:Addr)(H0 H:Hp)(p q:Addr)(M:?eG)[?cZ][?s](cnt:Nat)[?bD]:Prop where
 ex:∃r b,?N2/\?SV/\?UQ
 st:?a4Y q (VI cnt fun i=>((t i:Nat):Int))
 same:?z0
 fp:?B3
 fq:?a1E q
 mq:M q
 sm:n<=100/\W<=200/\cnt<=n
section
variable{CS:Addr}{H0 H H':Hp}{p q:Addr}{M:?eG}{n W cnt:Nat}[?j]{s s':?H}
theorem SX.redo{H1:Hp}{r' b':Addr}[?CI](e:?B7)(sx:?mN p H1 H')(h1:H1 r'=none)(h2:H1 b'=none)(y:?a37 r' b'):?HS:=by
 have s1:=?v1 e;obtain⟨r,b,z,_⟩:=x.ex;obtain⟨dx,fs,hp,_⟩:=z.ob;exact⟨⟨r',b',y,s1.free h1,s1.free h2⟩,?a2S x.st (e _ _ x.st),sx.same s1 x.fp,x.fp,x.fq,x.mq,?g7⟩
theorem SX.redo2{r b:Addr}[?CI](lx:?N2)(f1:?SV)(f2:?UQ)(fr:?mK)(_kp:?pQ)(y:?a37 r b):?HS :=
 ⟨⟨r,b,y,f1,f2⟩,fr _ _ (fun z=>?pZ ?F4) (fun z=>?rB ?F4) x.st,?a27 f1 f2,x.fp,x.fq,x.mq,?g7⟩
theorem SX.re[?CI](h:s=s'):?a04 cnt s':=h▸x
universe e9
theorem insAt_get{α:Type}[?CQ](h:?KN)(j:Nat):(?yT)[j]?=if j<k then xs[j]? else if j=k then ?oQ else xs[j-1]?:=by
 unfold insAt;by_cases h1:j<k
 . rw[?hY,qb5 (by rw[qd3];omega),qi3,?hY]
 . rw[?f3,qb9 (by rw[qd3];omega),qd3,?FJ h];by_cases h2:j=k
   . rw[?jX,h2,qh6];rfl
   . rw[?f6];obtain⟨e,rfl⟩:∃e,j=k+1+e:=⟨j-?bO,O9m⟩
     rw[show k+1+e-k=e+1 by omega,qt4,qs0]
     congr 1
     omega
theorem aB{α:Type}{xs:?oO}{i s:Nat}{y:α}(hi:xs[i]?=?oQ)(hs:s<=i)(j:Nat):(?g8 s y (xs.eraseIdx i))[j]?=xs[Lat.mvI i s j]?:=by
 have hl:i<xs.length:=?TH;rw[?E0 _ _ _ (by rw[qj6 hl];omega)];unfold Lat.mvI;by_cases h1:j<s
 . rw[?hY,?hY,List.getElem?_eraseIdx,?L]
 . rw[?f3,?f3];by_cases h2:j=s
   . rw[?jX,?jX,hi]
   . rw[?f6,?f6,List.getElem?_eraseIdx];by_cases h3:?bN
     . rw[?L,?m h3]
     . rw[?n,?f h3]
       congr 1
       omega
theorem AI{α β:Type}(g:α->β)[?CQ]:(?yT).map g=?g8 k (g y) (xs.map g):=by
 unfold insAt;rw[qb8,qc8,qw8,qw9]
theorem Ub{α β:Type}(g:α->β):∀(xs:?oO) (i:Nat),(xs.eraseIdx i).map g=(xs.map g).eraseIdx i
 | [],_=>rfl
 | _::_,0=>rfl
 | x::xs,i+1=>?vQ (g x::·) (Ub g xs i)
theorem TA.move{H H1:Hp}{r:Addr}{as:?fM}{n W i s:Nat}{f:Lat.Mat}{ci:Addr}[?c9][?gV](mD:as[i]?=?e ci)(h1:H1 r=?a07 (?g8 s (?h ci) ((?l4).eraseIdx i)))(h2:∀a∈as,H1 a=H a) :
 TA H1 r (?OM) n W (Lat.moveR f i s)/\?DZ:=by
 have mem:?DZ:=fun a ha=>by
  obtain⟨j,hj⟩:=qg6 ha;rw[?F8]at hj;exact qb7 hj
 refine⟨⟨?_,?_,fun j c e=>?_⟩,mem⟩
 . unfold insAt;rw[qa9,qc9,qd3,qh9,qj6 (by rw[x.1];exact hi),x.1];omega
 . rw[h1,AI,Ub]
 . rw[?F8]at e;rw[h2 c (qb7 e),Lat.move_row];exact ?hB _ _ e
theorem gH{i s st:Nat}[?j](hs:s<=i):?g8 s (?bI ((st:Nat):Int)) (VI i fun k=>((t k:Nat):Int))=VI ?g fun k=>((?FL t s st k:Nat):Int):=by
 apply qp9;intro j;rw[?E0 _ _ _ (by rw[Br];exact hs)];by_cases hj:j<i+1
 . rw[Cg hj];unfold Lat.insT;by_cases h1:j<s
   . rw[?hY,?hY,?nL]
   . rw[?f3,?f3];by_cases h2:j=s
     . rw[?jX,?jX]
     . rw[?f6,?f6,?nL]
 . rw[?n,?n,?o8,?o8]
theorem Xe[?s](p f:Nat)[?bD]:∀d l,l≠p->(?hA t p f s d).1 l=s.1 l
 | 0,_,_=>rfl
 | d+1,l,h=>by
   rw[Lat.shrS];show Lat.addR _ _ _ _ l=_;rw[Lat.addR_row_ne h];exact Xe t p f s d l h
def aZ[?cZ][?s](i f m:Nat)[?bD]:Prop:=∀d,d<=m-f->BO n W (?hA t i f s d)
def IS[?cZ][?s](i:Nat)[?bD]:Prop:=∀d,d<=i->Hds W t ?dL ?g (?WJ).1/\aZ n W t ?aA ?dL ?g (?WJ)
def Ai9[?s](spot i:Nat)(k:Int)[?bD]:?H:=?hA t i ?q (?lX i ?d (-k) s) ?aW
def Yk[?CM][?bD]:?H:=?AW ?d i a b (-(B / g)) (?eW) s
def oX[?s][?CM][?bD]:?H:=?hA t ?d ?q (Yk ?d i A B g a b s) ?aW
def Ai8[?s][?CM][?bD]:?H:=?hA t i ?q (oX t ?d i A B g a b s) ?aW
structure qP[?cZ][?s](spot i:Nat)[?bD](Nx:?mU):Prop where
 bo:?AU
 hd:Hds W t ?d i s.1
 oth:?l0≠0/\(?l0).natAbs<L9
 add:∀k,?l0=k*?y8->aZ n W t i ?q i (?lX i ?d (-k) s)/\Nx (Ai9 t ?d i k s)
 ble:∀g a b,?rA ?qC ?nW g a b->aZ n W t ?d ?q i (Yk ?d i ?qC ?nW g a b s)/\aZ n W t i ?q i (oX t ?d i ?qC ?nW g a b s)/\Nx (Ai8 t ?d i ?qC ?nW g a b s)
structure zJ(n W i:Nat)[?s](s0:?H)(I:?M6):Prop where
 start:I 0 s0
 ok:∀spot s,?cH->?A7->∃c,c<W/\s.1 i c≠0
 skip:∀spot s,?mI->?A7->(∀c,?iE->s.1 i c=0)->I ?q s
 meet:∀spot s,?mI->?A7->(∀c,c<?d5->s.1 i c=0)->?l0≠0->qP n W t ?d i s (I ?q)
def Hj(W:Nat)(u:?k)(st:Nat):Prop:=(∀c,c<st->u c=0)/\u st≠0/\st<W
theorem Hj.one{W W':Nat}[?nE]{a b:Nat}(h:Hj W u a)(k:Hj W' u b):a=b:=by
 rcases qn5 a b with e | e | e
 . exact ?f8 (k.1 a e) h.2.1
 . exact e
 . exact ?f8 (h.1 b e) k.2.1
theorem Hj.ex{W:Nat}[?nE](h:∃c,c<W/\u c≠0):∃st,?QY:=by
 obtain⟨c,hc,h0⟩:=h
 induction c using Nat.strongRecOn with
 | _ c ih =>
   by_cases z:∃d,d<c/\u d≠0
   . obtain⟨d,hd,hd0⟩:=z;exact ih d hd O9m hd0
   . refine⟨c,?nI,h0,hc⟩;exact qg5 fun k=>z ⟨d,hd,k⟩
structure FT[?cZ](J:?ON):Prop where
 step:∀i t s,i<n->J i t s->∃I,?E6/\∀spot st s',?cH->?uH->?vR->(?pN) →
  IS n W ?s5 i (?a2Z i)/\J ?g ?s5 (?uV ?s5 i (?a2Z i) ?g)
theorem IP{w n:Nat}{f g:?k}{h:?k}(h1:∀c,c<w->h c=f c)(h2:∀a,a<n->h ?b8=g a):VI w f++VI n g=VI ?Y h:=by
 apply qp9;intro j;by_cases e1:j<w
 . rw[qb5 (by rw[Br];exact e1),Cg e1,?nL,h1 j e1]
 . rw[qb9 ?hX,Br];by_cases e2:j<w+n
   . rw[?nL,Cg e2,←h2 (j-w) ?c,show w+(j-w)=j by omega]
   . ext YJ
theorem uT{w n:Nat}[?O]:C8 (VI ?Y f) ?r3 ?aF=VI n ?H7:=by
 ext XG;have s1:?u3 ?Y 0 ?r3=w:=?F0
 unfold C8;rw[Br,s1,←e,List.drop_append_of_le_length ?hX,List.drop_of_length_le ?hX,qn1];apply qm8;rw[Br];simp only[HT.sIx];omega
theorem Ao7{w n:Nat}[?O]:C8 (VI ?Y f) ?aF ?r3=VI w f:=by
 ext XG;have s1:?u3 ?Y ?Y ?r3=w:=?F0
 have s2:?u3 ?Y 0 ?aF=0:=rfl;unfold C8;rw[Br,s1,s2,qv9,qr9,←e,List.take_append_of_le_length ?hX,qm8 ?hX]
section
variable[?c8]
def Vc[?c8]:Sp:=fun vs H Q _=>uW fun ?rH (L r b:Addr) ?AQ ?BV ?hW (T P PB:Lat.Mat) (J:?ON)=>FY (vs=[v,?r w,?h L]) (?a0C H T) (LX H CL L r b sv n n (P,PB) N) (n<=60) (w<=60) (FT n ?Y J) ((∀t,J 0 t (?BG w T P,PB))) ((∀i t s,J i t s->?OH)) (∀(tp D L' r' b':Addr) (as:?fM) [?s] [?bD] (H':Hp),?c2->J n t s->SqT K H' tp [?h D,?h L']->TA H' D as n w s.1->LX H' CL L' r' b' ?aF n n (fun x a=>s.1 x ?b8,s.2) N->?xV->?a3M L'->?U7->?PV->?OY)
def Sb:Sp:=fun vs H Q _=>l9 fun(c:Addr) (W st:Nat) (u:?k)=>En (vs=[?h c]) (SqL K H c (VI W u)) (?QY) ?nV (Q (?r (st:Int)) H)
def Kg[?j7]:Sp:=fun vs H Q _=>QZ fun ?dB ?sA ?sR ?i1 ?pF (cnt:Nat) ?iW (i f:Nat)=>m9 (vs=[?aT,?rL,?r f]) (?LN) ?oA (f<=cnt) ((i<f\/cnt<=i)) (Hds W t f cnt s.1) (aZ n W t i f cnt s) (∀H',?a0F cnt (?hA t i f s (cnt-f))->?bL)
def W9[?j7]:Sp:=fun vs H Q _=>Ex9 fun ?dB ?sA ?sR ?i1 ?pF ?iD ?iW=>B4 ?o7 (?a04 ?g s) (IS n W t i s) (∀H',?a0F ?g (?uV t i s ?g)->?bL)
def DM[?j7]:Sp:=fun vs H Q _=>QZ fun ?dB ?sA ?sR ?i1 ?pF (?d i:Nat) ?iW (Nx:?mU)=>Hn (vs=[?aT,?r ?d,?rL]) (?a04 i s) (?mI) ?oA (qP n W t ?d i s Nx) (∀H' s',?a0F i s'->Nx s'->?bL)
def Xa[?j7]:Sp:=fun vs H Q _=>mZ fun ?dB ?sA ?sR ?i1 ?pF ?iD ?iW (I:?M6)=>Hn (vs=[?aT,?rL]) (?a04 i s) ?oA (?E6) ((?vM)) (∀H' spot st s',?cH->?uH->?vR->(?pN)->SX CS H0 H' p q M n W ?s5 ?g (?a2Z i)->?bL)
def dN[?j7]:Sp:=fun vs H Q _=>l9 fun ?WX (r b:V)=>Dg (vs=[?aT,r,b]) (?a0G CS []) (∀q H' fs,?a3M q->fs=putF ?TC (?h q) (?RF)->?BQ->?a4T q []->H' p=?e (?bH CS dx fs)->?bL)
universe e9
universe Hb
namespace L2
open PySem PySem.Spec PyProof.Rows PySem.SeqAt
section
variable{X:Cx}{n:Nat}[?aM]
theorem mS(hc:?zW):?ZS X.K:=by
 ext tF;obtain⟨p,bs,rfl,hq,q⟩:=h;obtain⟨u,rfl,ru⟩:=U5 r;cases ru;obtain⟨its,rv,pl,hz⟩:=I.list hq;have hh:?H0:=?xO
 have rel:∀(i:Nat) (v:Value),?FC=?i5->∃b,?o3=?e b/\v=.bool b:=fun i v e=>by
  have e':its[i]?=?i5:=?hO
  have hlt:?EE:=?W0;have l1:=rv.length;rw[qa3]at l1;have hb:?o3=?e (bs[i]'(O9m)):=?KZ
  obtain⟨u,hu,ru⟩:=?a0X V.bl bs;rw[e']at hu;cases hu;exact⟨_,hb,ru⟩
 refine call_any_walk (qu5 pl.isList ?_);refine⟨?X,[s.heap.objs.size,p],[s.heap.objs.size],?EO,_,_,?VK,rfl,Walks.list (?a3B none) ?X p ?_ ?kN,(?a3Z ?w3),?_,fun h' tk k=>?_⟩
 . obtain⟨o,_,ho,_⟩:=pl;exact ?a2H ho
 . exact pl.isList.at fun o e=>?kA
 . intro i v s' Q' E' hv hQ;obtain⟨b,hb,rfl⟩:=rel i v hv;dsimp only at hQ;rw[hb]at hQ;exact qk4 hQ
 . have e:(?v2 ?EO).any (?VK)=bs.any id:=by
    have l1:=rv.length;rw[qa3]at l1;rw[qd0,←l1];rw[qn3,qo3,qo3];constructor
    . rintro ⟨i,hi,hx⟩;have hlt:=qd5.mp hi;have hb:?o3=?e bs[i]:=?dD
      rw[hb]at hx;exact⟨_,qe5 hlt,hx⟩
    . rintro ⟨b,hb,hx⟩;obtain⟨i,hi⟩:=qg6 hb;refine⟨i,qd5.mpr ?TH,?_⟩;rw[hi];exact hx
   rw[e];have I1:?TE:=I.kept (fun b o e=>k b o (by simp;exact ?KX) (?kA));exact⟨.bl (bs.any id),H,I1,rfl,q⟩
theorem AU:?QO "any"=?e (?eI "any"):=?hJ
theorem Yq(hc:?zW)(hK:X.K=K:=by rfl):?ZS K:=by subst hK;exact mS hc
universe e9
universe L2
namespace Hb
open PySem L2
def WR:?k6:=["straighten","step","put_in_order","share"]
section
variable[?aM][?d0]
theorem Yx{nm a:Addr}(h:a≠nm):?VH=H a:=Ss h
theorem LZ{nm a:Addr}(h:a=nm):?VH=none:=Yw h
theorem vD[?tD]{a:Addr}{xs:?cU}(h:SqL K H a xs)[?t6]:SqL K H' a xs:=by
 rcases h with(h|⟨o,h⟩) | h
 . ext Y4
 . ext XR
 . exact ?q2
theorem JA[?tD][?ZD][?t6]:SqT K H' a xs:=by
 rcases h with(h|⟨o,h⟩) | h
 . ext Y4
 . ext XR
 . exact ?q2
theorem Af2{nm:Addr}{ys:?cU}{o:HO}[?ZD](hn:?a4Y nm ys):SqT K (?a0W nm o) a xs:=by
 rcases h with(h|⟨u,h⟩) | h
 . exact ?x (?x (?U4))
 . exact ?x (?F ⟨u,?U4⟩)
 . exact ?q2
theorem NT{m i:Nat}[?O]{x:Int}(hi:i<m):(VI m f).set i (?r x)=(Hy m fun k=>if k=i then x else f k).map ?bI:=by
 show _=VI m _;apply qp9;intro j;rw[qs9,Br];by_cases hj:i=j
 . subst hj;rw[?p,?oZ,Cg hi,?p]
 . rw[?f hj];by_cases h2:j<m
   . rw[Cg h2,Cg h2,?f ?DV]
   . ext YJ
theorem A99[?tD]{v:V}[?cE]{f:?kY}(h:?a0C H f)[?t6]:?a0C H' f:=by
 obtain⟨a,us,rfl,hq,hl,hr⟩:=Hf h;refine fG (vD hq hp sx) hl ?pU;have e:=qa0 (l:=us) (i:=i) O9m;obtain⟨_,b,eb,hb⟩:=hr i _ e;exact⟨b,by rw[e,eb],vD hb hp sx⟩
universe e9
theorem LX.x[?d0][?t3][?tY]{q D dx:Addr}{fs:?a1L Str V}[?tJ](hq:H q=?e (?bH D dx fs))(hqp:q≠p)(sx:?mN q H H')(kp:?pQ):?V9:=by
 ext BW;exact⟨⟨dx,fs,sx _ _ hqp.symm h1,h2⟩,⟨as,a1.x hq sx,a2⟩,⟨bs,b1.x hq sx,b2⟩,?e9,x.nr,x.nb,fun a ha=>kp a (x.nn a ha)⟩
theorem LX.more[?d0][?t3]{N N':?eG}[?tJ](e:?c2)(h:∀a,N' a->N a\/?xT)(hn:∀a,N' a->?NK):?a2K H' N':=by
 ext BW;refine⟨?RM,⟨as,?L1,?a3J ?zR ?zR⟩,⟨bs,?DI,?a3J ?u9 ?u9⟩,?e9,?e6,?e6,hn⟩
 . exact ?US ?pJ (a1.there.2 a ha)
 . exact ?US ?FH (b1.there.2 a ha)
 . exact(h r z).elim x.nr a1.there.1
 . exact(h b z).elim x.nb b1.there.1
structure WX[?gZ](CL CW:Addr)(H0 H:Hp)(p L R nm:Addr)[?V](M:?sX)[?n1](ns:?h7):Prop where
 ob:N8 fun tv dx fs=>?a0G CW fs/\m9 (?a0N "table" tv) (?a0N "width" (?wA)) (?a0N "left" (?h L)) (?a0N "right" (?h R)) (?a0N "numbers" (?h nm)) ((∀m∈WR,?W8)) (fs.length<=10) (∀M',M=?e M'->Rep K (Su H ?M1) tv (dT n w M'))
 li:l9 fun r1 b1 r2 b2=>?NT/\?UW/\B4 (?a1E r1) (?a1E b1) (?a1E r2) (?a1E b2)
 nu:?a4Y nm (ns.map ?bI)
 same:?z0
 fr:?B3/\?a1E L/\?a1E R/\?a1E nm
 ne:p≠L/\p≠R/\L≠R
 sm:n<=60/\w<=60
def NB(m:Nat)(M:Lat.Mat):?h7:=((?v2 m).map fun i=>?qM).filter fun x=>?c3 (x≠0)
theorem WX.keep[?aM][?nD]{H0 H H':Hp}[?C2][?t4](s:?c2):?ZX H' M:=by
 ext XD;exact⟨⟨tv,dx,fs,?IP,l1,l2,l3,l4,l5,l6,l7,?a4V (nW s)⟩,⟨r1,b1,r2,b2,lx.keep s,?LX,f⟩,?LM,?v1 s,x.fr,?e9,?g7⟩
theorem WX.num[?aM][?nD]{H0 H:Hp}[?C2]{ns ns':?h7}(x:?SQ):WX K CL CW H0 (?a0W nm (?I (ns'.map ?bI))) p L R nm n w M l r ns':=by
 ext XD;have hpn:p≠nm:=E3 hp ?iA ?aC
 have go:∀{q r b:Addr}{m:Nat}{s:?H}[?tY],LX H CL q r b ?aF m m s N->N nm->LX (?a0W nm (?I (ns'.map ?bI))) CL q r b ?aF m m s N:=fun {q r b m s N} y hN=>by
  obtain⟨d2,f2,e1,e2⟩:=y.ob;obtain⟨as,a1,a2⟩:=y.rw;obtain⟨bs,b1,b2⟩:=y.bk;refine⟨⟨d2,f2,by rw[An (E3 e1 ?iA ?aC)];exact e1,e2⟩,⟨as,a1.put (fun z=>y.nr ?pM) fun a ha z=>?pJ ?pM,a2⟩,⟨bs,b1.put (fun z=>y.nb ?pM) fun a ha z=>?FH ?pM,b2⟩,y.ne,y.nr,y.nb,fun a ha z=>?_⟩;by_cases e:a=nm
  . rw[e,Ab]at z;cases z
  . rw[An e]at z;exact y.nn a ha z
 refine⟨⟨tv,dx,fs,by rw[An hpn];exact hp,l1,l2,l3,l4,l5,l6,l7,?a4V (AK fun a o n e=>?a2W n)⟩,⟨r1,b1,r2,b2,go lx (?x rfl),go ly rfl,f⟩,Ab,fun a o e=>by rw[An (At e x.fr.2.2.2)];exact ?w4,x.fr,?e9,?g7⟩
theorem WX.drop[?aM][?nD]{H0 H:Hp}[?C2][?t4]:?ZX H ?aF:=by
 ext C6;exact⟨⟨tv,dx,fs,hp,l1,l2,l3,l4,l5,l6,l7,?B1⟩,x.li,?iA,x.same,x.fr,?e9,?g7⟩
theorem WX.left[?aM][?nD]{H0 H H1 H':Hp}{p L R nm r1 b1 r2 b2 r' b':Addr}[?cE]{M:?sX}{l r l':?H}[?t4](lx:?NT)(ly:?UW)[?Z2]
 (s:?B7) (sx:?mN L H1 H') (h1:?a1N H1 r') (h2:?a1N H1 b') (y:LX H' CL L r' b' ?dW n n l' ?oX):WX K CL CW H0 H' p L R nm n w ?dW l' r ns/\?a17 H' r:=by
 ext C6;obtain⟨dl,fl,hL,_⟩:=lx.ob;obtain⟨dl',fl',hL',_⟩:=y.ob;obtain⟨n1,n2,n3⟩:=x.ne;have kp:Kp H1 H':=Kp.x sx hL';have lz:=(?LX).x (s _ _ hL) n3 sx kp;have s0:=?v1 s;exact⟨⟨⟨tv,dx,fs,sx _ _ n1 (?IP),l1,l2,l3,l4,l5,l6,l7,?B1⟩,⟨r',b',r2,b2,y,lz,s0.free h1,s0.free h2,f3,f4⟩,sx _ _ (E3 ?iA hL ?aC) (?LM),sx.same s0 x.fr.2.1,x.fr,?e9,?g7⟩,lz⟩
theorem WX.right[?aM][?nD]{H0 H H':Hp}{p L R nm r1 b1 r2 b2:Addr}[?cE]{M:?sX}{l r r':?H}[?t4](lx:?a1K H ?dW)(ly:?a17 H r)(f1:?a1N H0 r1)(f2:?a1N H0 b1)[?Z2]
 (fr:U3 r2 b2 H H') (kp:?pQ) (y:?a17 H' r'):WX K CL CW H0 H' p L R nm n w ?dW l r' ns/\?HY:=by
 ext C6;obtain⟨dl,fl,hL,hL2⟩:=lx.ob;obtain⟨as,a1,a2⟩:=lx.rw;obtain⟨bs,b3,b4⟩:=lx.bk;obtain⟨iN,c1,_⟩:=ly.rw;obtain⟨bs2,c2,_⟩:=ly.bk;have no:∀a C d f,H a=?e (?bH C d f)->H' a=?e (?bH C d f):=fun a C d f e=>fr _ _ (E3 e c1.2.1 ?aC) (E3 e c2.2.1 ?aC) e
 have lz:?HY:=⟨⟨dl,fl,no _ _ _ _ hL,hL2⟩,⟨as,a1.keep (fun o e=>?ZV ?pZ ?pZ) fun a ha o e=>?ZV ?pJ ?pJ,a2⟩,
  ⟨bs,b3.keep (fun o e=>?ZV ?rB ?rB) fun a ha o e=>?ZV ?I0 ?I0,b4⟩,lx.ne,?pZ,?rB,fun a ha=>kp a (lx.nn a ha)⟩
 exact⟨⟨⟨tv,dx,fs,no _ _ _ _ hp,l1,l2,l3,l4,l5,l6,l7,?B1⟩,⟨r1,b1,r2,b2,lz,y,f1,f2,f3,f4⟩,fr _ _ (?ZY ly.nr) (?ZY ly.nb) ?iA,?a27 f3 f4,x.fr,?e9,?g7⟩,lz⟩
theorem O0(i:Nat)(M:Lat.Mat):NB ?g M=if ?qM=0 then ?A4 else ?A4++[?qM]:=by
 unfold NB;rw[ql9,qb8,qg1];by_cases h:?qM=0<;>simp[h]
theorem tG(i:Nat)(M:Lat.Mat):(?A4).length<=i:=by
 unfold NB;refine qa5 (qf8 _ _) ?_;rw[qa3,qe7];ext dR
structure Ru[?V](M:Lat.Mat)[?n1](Nx:?zS):Prop where
 ex:∃J1,FT n ?Y J1/\(∀t,J1 0 t (?BG w M l.1,l.2))/\(∀i t s,J1 i t s->?OH)/\∀t1 s1,J1 n t1 s1 →
  ∃J2,FT w ?gQ J2/\(∀t,J2 0 t (?BG n (fun i j=>s1.1 j i) r.1,r.2))/\(∀i t s,J2 i t s->∀j,j<i->t j<n+w)/\∀t2 s2,J2 w t2 s2 →
    Nx (?a33 ?hL) (fun x a=>s1.1 x ?b8,s1.2) (fun x a=>?hL x (n+a),s2.2)
section
variable[?c8]
def Nz:Sp:=fun vs H Q _=>l9 fun ?rH ?hW ?oF=>Hn (vs=[v]) (?a0C H M) ?o0 (w<=1000) ((?oT->∀H',?c2->Q (?AL) H')) ((¬?oT->∀H',?c2->Q (.bl ?dA) H'))
def dO[?c8]:Sp:=fun vs H Q _=>qZ fun ?dB ?WX ?rH ?hW ?oF=>m9 (vs=[?aT,v,?wA]) (?z0) (?B3) (?a0G CW []) (?a0C H0 M) (n<=60) (w<=60) (∀L R nm H',WX K CL CW H0 H' p L R nm n w ?zC ?rZ ?rZ []->?bL)
def DN[?c8]:Sp:=fun vs H Q _=>uW fun ?dB ?q0 ?hW ?oF ?pY (ns:?h7) (Nx:?zS)=>B4 ?o7 (?ZX H ?zC) (Ru n w M l r Nx) (∀L' R' M' l' r' H',Nx M' l' r'->WX K CL CW H0 H' p L' R' nm n w (?e M') l' r' ns->?bL)
def Og[?c8]:Sp:=fun vs H Q _=>QZ fun ?dB ?q0 ?hW ?oF ?pY (U:?JG)=>En ?o7 (WX K CL CW H0 H p L R nm n w ?zC l r []) (Ru n w M l r (fun M' l' r'=>∃m,?wX)) ((∀m M' l' r',?wX->¬?OV->Ru n w M' l' r' (fun M2 l2 r2=>∃m',m'<m/\U m' M2 l2 r2))) (∀L' R' m M' l' r' H',?wX->?OV->WX K CL CW H0 H' p L' R' nm n w (?e M') l' r' (NB ?E1 M')->?bL)
structure CV[?V][?eV][?a6][?n1]:Prop where
 p1:0<f i/\?QK<L9
 p2:f j≠0/\?RH<L9
 bl:BO n n l/\BO n n (?lX i j 1 l)
 br:BO w w r
def XD[?eV](g:Int)[?a6]:?k:=Lat.put2 f i j g ?nS
def zR[?eV](g b:Int)[?a6](l:?H):?H:=?lX j i ?qA (?lX i j 1 l)
def RY[?eV](g a b:Int)[?a6](r:?H):?H:=?AW i j a b (-(f j / g)) ?rY r
def y6[?c8]:Sp:=fun vs H Q _=>ZN fun ?dB ?q0 (n w m i j:Nat) ?pY (f:?k)=>FY (vs=[?aT,?r ?zG,?r (j:Int)]) (?a1C l) (i<j) (j<m) (?hM) (m<=w) (?uF) ((?qT->Q .non H)) (∀g a b H',?vO->WX K CL CW H0 H' p L R nm n w ?aF (zR i j g b f l) (?a46 r) (Hy m (XD i j g f))->?bL)
def y7[?c8]:Sp:=fun vs H Q _=>uW fun ?dB ?q0 (n w m:Nat) ?pY (f:?k) (V:?r1)=>Pm ?o7 (?a1C l) (?hM) (m<=w) (V 0 f l r) ((∀d i j f l r,V d f l r->d<5*m+m*m->i<j->j<m->?uF/\(?qT->V ?b6 f l r)/\∀g a b,?vO->V ?b6 (XD i j g f) (zR i j g b f l) (?a46 r))) (∀d f' l' r' H',V d f' l' r'->?KM m m f'->WX K CL CW H0 H' p L R nm n w ?aF l' r' (Hy m f')->?bL)
universe e9
structure Z1[?V](A:Lat.Mat)(Fin:?r1):Prop where
 ex:∃(U:?JG) (Y:Nat->?r1),Ru n w A ?rZ ?rZ (fun M l r=>∃m,?uR) ∧
  (∀m M l r,?uR->¬?oT->Ru n w M l r (fun M' l' r'=>∃m',m'<m/\U m' M' l' r')) ∧
  (∀m M l r,?uR->?oT->∃k f,NB ?E1 M=Hy k f/\k<=n/\k<=w/\Y k 0 f l r) ∧
  (∀k d i j f l r,?JT->d<5*k+k*k->i<j->j<k->?uF/\(?qT->Y k ?b6 f l r)/\∀g a b,?vO->Y k ?b6 (XD i j g f) (zR i j g b f l) (?a46 r)) ∧
  ∀k d f l r,?JT->?J0
structure Z0[?gZ](H H':Hp)(tp nm r1 D1 D2 b2:Addr)(n w k:Nat)[?a6][?n1]:Prop where
 same:?c2
 tup:SqT K H' tp [?h nm,?h r1,?h D1,?h D2,?h b2]
 num:?a4T nm (VI k f)
 left:?a2Y r1 (dT n n l.1)
 lback:?a2Y D1 (dT n n fun i j=>l.2 j i)
 right:?a2Y D2 (dT w w fun i j=>r.1 j i)
 rback:?a2Y b2 (dT w w r.2)
 new:∀a,a=nm\/a=r1\/a=D1\/a=D2\/a=b2->?xT/\∃us,?a4T a us/\us.length<=60
section
variable[?gZ]
def Sc:Sp:=fun vs H Q _=>cW fun ?rH ?hW (A:Lat.Mat) (Fin:?r1)=>Hn (vs=[v,?wA]) (?a0C H A) (n<=40) (w<=60) (Z1 n w A Fin) (∀(tp nm r1 D1 D2 b2:Addr) (k:Nat) [?a6] [?n1] (H':Hp),?J0->?KM k k f->k<=n->k<=w->Z0 K H H' tp nm r1 D1 D2 b2 n w k f l r->?OY)
universe e9
universe Hb
namespace Hb
open Lat
section
variable[?cY]
theorem BB.bo{n W β:Nat}[?tA](hb:β<=big):?AU:=⟨(h.mono hb).1,(h.mono hb).2.1⟩
theorem DF[?a4]{R0 B0:Mat}[?j]{π b β:Nat}[?ZL](hW:W=w+n)(dl:?a2B R0 B0)(bb:?ZO β (R0,B0))(hb:?lZ<=big)(hπ:π<=8990)(ZU:?x6)
 (hG:∀spot (s:?aL) st,?cH->?RW->Hj W (s.1 i) st->G st)
 (hd:∀t1 Y R1 B1 R2 B2,UU n W w i G R0 B0 t1 Y R1 B1->?EC->∀j,?bN->(R2 j (t1 j)).natAbs<L9) :
 ∃I,zJ n W i t (R0,B0) I/\∀spot st s',?cH->?uH->?vR->(?pN) →
   IS n W ?aP i (?iV)/\G st/\UU n W w i G R0 B0 ?aP ?eA (?iV).1 (?iV).2 ∧
   N9 n W w i (?iV).1 (?iV).2 ?aP 0 (?x4).1 (?x4).2 ∧
   ?ZO (?lZ) (?x4):=by
 have hi:=H.hi
 have VY:∀spot,?cH->?qV<=?y0:=fun spot hs=>by
  unfold Fs;exact qa5 (qc0 _ hs) (qg7 _ _)
 refine⟨fun spot s=>?RW/\?ZO (β+?qV) s,⟨⟨Dk.start H,by rw[Nat.zero_mul];exact bb⟩,?_,?_,?_⟩,?_⟩
 . rintro spot s _ ⟨p,_⟩;obtain⟨c,hc,h0⟩:=(p.good.dual dl).row hi;exact⟨w+c,O9m,h0⟩
 . rintro spot s hs ⟨p,q⟩ hz;refine⟨p.skip hz,q.mono ?_⟩;rw[qf5];omega
 . rintro spot s hs ⟨p,q⟩ hz h0;have jR:=VY ?q hs;rw[qf5,qf4]at jR;have en:β+?q*?fG=β+?qV+?fG:=by rw[qf5,qf4];omega
   have lA:?a0O ?y8 ?N:=by rw[p.old ?d _ ?i hs];exact H.hd ?d hs
   have lB:=p.pv ?d ?i hs;refine⟨?s9 q O9m,fun j hj1 hj2=>⟨H.lt j hj2,p.pos j hj2,vM (π:=π) ?_ O9m⟩,⟨h0,vM lB O9m⟩,?kL,fun g a b' sh=>?_⟩
   . rw[p.old j _ hj1 hj2];exact H.hd j hj2
   . obtain⟨m1,m2,m3⟩:=p.meetAdd H hs hz hk q;refine⟨?UN,m1,?_⟩;rw[en];exact m3 _ O9m
   . obtain⟨m1,m2,m3,m4⟩:=p.meetBlend H hs hz (sh.blend (p.pos ?d hs) lA lB) q;refine⟨?UN,?a41 m4,m1,?_⟩;rw[en];exact m4 _ O9m
 . rintro spot st s' hs ⟨p,q⟩ hB hex;have hGs:=hG ?d s' st hs p hB;obtain⟨e1,e2,e3,e4,e5⟩:=SI H p hs hB.1 hB.2.1 hB.2.2 hGs ZU hex q;refine⟨fun d hd'=>⟨fun j hj1 hj2=>?_,fun m hm=>?s9 (e5 d hd' m O9m) hb⟩,hGs,e1,e2,e4 _ ?i⟩;obtain⟨dn,_,_⟩:=Y9 e1 hi (e3.mono (qw2 (VY i ?i) β)) d O9m;have hh:=hd _ _ _ _ _ _ e1 e2 j O9m;rw[e2.hd j ?c]at hh;have hx:=?a4R dn.hd;refine⟨?a4R e1.lt,(dn.s0).pos j O9m,?_⟩;rw[hx];exact hh
universe e9
noncomputable abbrev JF[?V](M:Mat):Nat->(?v)->?aL->Prop:=fun i t s=>Dq n ?Y w i (fun c=>c<w+n) M one t s.1 s.2
end
mutual
#check(5,[?a,?b,some,(?vQ),?X Int,.int,.inl,if_neg,.inr,∀{xs:LLInt},a,.ref,(xs.length:Int),?h ?d,if_pos,decide,Nat->Int,Nat->Nat,?n rfl,xs.length,G σ H,?X V,∀{G:?k8},a,∀(K:W.Frag),a,(n+1),(?a5),min n w,?X Str,xs.getD,(n:Int),.(by ext E),.(by decide +kernel),∀{K:W.Frag},a,.lst,(i+1),absurd,(?g rfl),Int->Int,Same,?WJ Hp,beside,∀(xs:LLInt),a,?k a,[a,a],(?lE),V.int,prodN,(j+1),spot,(k+1),List,∀(xs:LLInt)(k:Int),a,(?kW),(pv 0),?n z,Bits,?L H H',?n ?d,qa2 _,ms.map,(xs:LLInt),.tup,sumN_one,(fun D s=>?_),(w+n),?X Ev,(?bQ),?z*?e4,qd7.mp,∀(φ:?K),a,List.replicate,G σ,base,∀{G:?WJ St},a,∀(hn:0<n),a,high,(i:Int),Int × Int,(k+i),(pv 1),this,∀{row:?e},a,.(by unfold one),2 ^ b,a.fdiv b,(xs++ys),.(by simpa using hf),∀(hs:?hH),a,.(by simp;omega),_::_,qa4.mp,(1:Int),?WR ms,(k:Int),sumN_all0,(0:Int),?f n,?f k,(?jU),(pv 2),C0 ms k,z.symm,2 ^ π,G s H,.none,none,wpAny,(fun _ _=>rfl),.(by simpa using h1),∀(fs:?e),a,.(by exact this),mem y hy,Reps,Q (?k D) H',?h h,.(by decide),?h z,E8 xs k,H D=none,(LT K H (?P) xs),.(by ext bJ),∀(h:L82 xs a c0 c1 c2 c3 low ?aM),a,∀{A0 A1:Type}{S:A0->A1->St},a,∀(ps:?cG),a,Z3 ps,(m:Int),(?C+1),dets,Same.new,cK ms,?rY a 0,s.no,F.okZ,face,(pv 3),Nat->?p,bookF,fun Dp A outer s H vs Q E hr h=>?_,cs.map,?c o,(?g4),?X BPart,mulV,FnScope,(q:Int),Mat × Mat,IsEnum,fun _=>0,?X Ms,(j:Int),∀{A0 A1 A2:Type}{S:A0->A1->A2->St},a,∀(T:Fe K mg Ag Ad Ah Av),a,∀{f:Addr}{fd:FuncData},a,∀{A0:Type}{S:A0->St},a,∀{ms:Ms}(h:?dV),a,∀{es:?wK},a,∀{xs ys:LLInt},a,∀{vs:?u},a,.(by exact ?dA),y=?Q,[?l,xs.length,xs.length],X.env,(?k e),"number",?h e,?n e,?f i,(k+j),s.heap.objs.size,wk.e0,?rY m 0,qa8 _,∀{f:?p}{l r:?j6},a,∀{ls:?qG},a,∀(f:?p),a,(2*n+π+2),Ho ms k,?c q,(?g6 t c:Int),t::ts,?c ?C9,?XO q,(r+1),(v*b'),(t+1),(a:Addr),?h O9m,⟨_,rfl⟩,r<=j,"place",h.sh,H' D,nd ms,(m+1),.(by ext aX),?WK p0,(L:Int),?p4 (Cj b n tl),(Bm (K:=K)),"enumerate",?c ?jK,(π+2),.(by exact ?I z (by ext sN)),.(by rw[?m,?m]),.(by rcases ?bM with rfl | rfl | rfl),.(by rcases ?bM with rfl | rfl),.(by rw[qa1,?n0]),.(by rw[?m]),∀(ls:?qG),a,.(by split<;>omega),∀{ys:LLInt},a,f::fs,(hd j).natAbs,Lat.one,(?o4),fun n=>?o (1<n),?YY q,qe5 _,(η+1),c::cs,(?q5),(c0+0),(t j),(a b:Addr),.non,Lat.Bits,fun f hf=>?_,?h ne,((0:Nat):Int),(?mQ),(c3+0),(xs++ys).length,(qb6 hy).symm,?VY 0,Option,(Bo _),Ky b p,(p j),?k c,p.1=k,?k p,(ms:Ms),c<w+n,?n h,qd5.mp,B a c,?UQ 1,(?vC).2,sg i,qc5.mp,((?NB:Nat):Int),[b,b,b],Bi y.length=k,(?vC).1,fun c hc=>?_,V8 ps,k<=j,?fB hi,(?N w T P),∀{ys:LLInt}{t:Nat}(h:?qP),a,.(by show Bi 2≠3;decide),∀(s:?a3),a,∀{f:?p},a,∀{H H':Hp},a,(kt j),b+?c0,?b6+?cO,f=?q2,g*a'*b',A0->?M,cs.getD,"reversed",st.lt,?VY k,?WK p1,Int.gcd,(c2+0),?WG i,fs.getD i 0,?k t,(Em xs ms),["thing"],qa0 h,qa0 O9m,JE n i,fun D hD=>?_,?VY ?W,Co.nd,fun p hp=>?_,qb9 ?y,(p r),s l-w,(c1+0),η+1+?l5,(?pO),G i a,b+?aN,(?g9),beside_lo,π+1,qb9 ?d,TieAt,(?nZ),β2+(?aE-m)*?h7,sp.length,(r x),R l c,Bi (?eJ).length=k,σ=?pF,(fun j y hy=>?_),(n:Nat),(O9m),(2*w+π+2),(p0 x0 H),if x=j then u else s x,?h q,(u*a'),.nil,.(by grind),⟨rfl,rfl⟩,(?j5),?bB+n,Ci xs,H0=H,?pM ?jX,Er row n,fs.length,?c x,(?FD),Heap.SameBut,Ai e,(Nw t p),(t:Int),p0 x0 x1,h.put,Bw H vs ps,ys.getD,"shape",h.pos,(?h3),Iz F cs,p.dπ,(by kernel_rfl),(?nD),p::ms,?k b,(fun _ _ _ _=>Ch),2*(?mE),.(by have e:?k6:=?dX),.(by exact ?UA 3 1),.(by refine s.none ?J fun y hy z=>?_),.(by rcases ?fG hf with rfl | hf),∀(h4:?vZ),a,∀{vs:?u}{ps:?cG},a,.(by show Bi 3≠3;decide),∀{P:Program}{w:World},a,.(by have al:=z8 h.pt),∀(D:Addr) (H':Hp),a,.(by exact ?i O9m),∀{fs:?e},a,∀(F:?vH),a,∀(vs:?u),a,if ?rP then x k*T k c else 0,?WG j,r i a,(w-k),?g1 i My,ih O9m,IteT K a,(?dA),let s:=(?nX);?bE,?h h1,?T f k,small,(?eJ),A0->A1->A2->?M,p1  x0 H,?U1 S,G6 tl p,?X ?lJ,spot+1,?hV q [],σ=S x0,Lat.Mat × Lat.Mat,β+(?aE-m)*?dE,qd4 ..,?mX n,(0<n),(?kD),its.toArray,h.diag,Jm a ?s n,F c+?hZ,.(by simpa using e),?UX (fun k=>?OK),(?g6 t ?o6:Int),dC b ?s n tl ?H,(.dK (?c4)),(?xB),let s:=(S x0);?bE,(T i c).natAbs,p0  x0 H,φ p.1,st.inc,(n<=18),?VH p0,?i h,.(by simp),(?pS).length,(lf i O9m),"tuple",fun m hm=>?_,fun j hj=>?_,Gf ys t,vs[i]?=?c v,2 ^ π2,(?wL),p::ps,y=?cZ,f=?l,(Ne.symm ne),St->?M,qh5.mp,y.r p,LF (?uZ) n,(ZA d),e::es,?f b,fun y x=>M x (s y),Pv i σ H,VX b ?s n tl,?W4 S,let s:=(?pF);?bE,?UX (fun a=>?y7*PB u a),fun q hq=>?_,?c p,(Re h.pt _),.(nomatch hf),[?f a,?f x,?f y],s.heap,(p1 x0 H),(?eT),(?CW),s.heap.objs.size+1,?UD ?JQ=k,qb1 ..,(t k),?TY S,wB φ fs,Lat.sumN_one,x.r p,(?kF),[?l,a],(by rw[cl];simp),Dy π b r,A0->A1->?M,(lf j hj),h.zero,(n-1),(?cM),(?bS).length,v::vs,ql3.mp,.(by rfl),BB.bo,(Nw t),x c*T c c,?l+i,Value,?hV ?dN [],IntMulOk,Lw fs e i,wk.going,Vt t k,(ms.length<=1000),?WM p0,Hk H v p,(-1:Int),G6 (?tG) e,.(by have e:?cY:=?eZ;rw[e];exact ?oQ),∀{xs ys:LLInt}{os:?e}(h:?nM),a,.(by refine ite2 (fun h1=>?_) (fun h1=>?_)),.(by rcases ?fG hc with rfl | hc),.(by rcases ?fG hm with rfl | hm),.(by unfold nd at h;rw[qc8,qj2]at h),∀(n:Nat)(tl:?e)(i:Nat),a,∀{z k0:Nat}{L G:Lat.Mat},a,.(by rw[?r,qd1]),∀(row:?e),a,∀{q:?aO},a,∀{tl:?e},a,∀(lf:?cN),a,∀{k a a':Int},a,∀{v:?p},a,∀(_K:W.Frag),a,(fun c hc=>?CS),Vt t q,(?rB),F.bel f hf,?aN%2,.str x,p2  x0 H,wB (fun x=>Ky x (?c5)) fs,Q ?aP c,insT t ?V ?nQ j,qe9.mp,y.h q,?f p,(?YI p1),fun p hp=>?dP,K.zero,Hi ms fs n i,?hV t [],(?bS).getD,C0 ms j,(E8 xs j).getD,Ky _ p,?h h2,List.range,(fun k=>?pA),?YG A0 A1,qa0 ?d,(kB n),2 ^ i,qh4 ?aD O9m,p.getD j 0,ms[i],(?y8 ?S),fun t ht=>hp t (?WD ht),Vj n r kt,?c c,?X D,(qg7 _ _),(vs=[?P,?i4]),Jl ys t,(fun c=>?f9),"row",?c y,if a=b then 1 else 0,s.one,qp6.mpr,[?Q],Z2 K C B p xs ls,?xV xs ys os,Itv K a ?s,?TY p0,(?tG).length,(?yH),N7 n l,R j ?eP,xs.take,st.pos,s1.seq,s.seq,?WK S,dg.pos,∀t∈row,0<t,let s:=?nX;G s,(?tI),[?f (a-?aV*b),?f (x-?aV*u),?f (y-?aV*v)],hp.objs.size,xs.length<=40,((1:Nat):Int),(?yS).1,TI.get,?a8 ds,p.1=1,Wa xs k cs,Ua U f W m s j,A0->?YG A1 A2,y k i,fun k=>x k*T k c,Rep.same,"other",false,.(by cases h),wk.kl,?UW a xs,[?q2,?q4,xs.length],?TY p1,φ f-?kZ,?WK p2,?VH p1,Iv h.pt _,p.1.toNat,row.length-?H,v ?kX,V->?u->?YG Hp VK,?WM p1,q.symm,V0 ps,h.told,(k-1),["piece"],(p2 x0 H),Nat->?u->?k8,(k,v),(?j9).map,(?BE),(fun _=>False),Ky (?UH 1) p,.of Ab,?N w T P k c,(x k).natAbs,ms.getD i (0,0),PB k a,Dx Ls _ ?d,?YY ?oR,S x0 x1,S x0 x1 x2 x3,(n-r),op_mulX,Nat->?k8,?TY p3,(0<=k),.type,(ls:?qG),Mz xs ms i,x.h q,p.π9,Dx zs _ ?d,Mm xs k n,st.red,?c ps,.Tuple,let s:=?pF;G s,h t ?Z,?qX t,s.heap.IsTuple,s x=s y->x=y,st.zero,?l+1,?X3 n,?UQ 2,σ=?nX,(fun y hy z p=>?_),(vs=[?P]),?aF hp,(?YC p1),[(p,1)],fun _ z=>?QC,(kB n+6),p1 x0 x1,(?i3),(?nS).natAbs,?X (?cG),?pM ?e2,(w+a),{ s with heap:=h' },?n q,?lJ->?wS,if k=j then 1 else 0,?aF hy,G s H0,t+1<ys.length,p<?l,(?hH),(v:V),(i-r),G6 (?g8) p,j=i+1,Em xs ?qA,ys.take,?XZ η n,Lat.sumN_all0,(s x),(xs.length<=1000),zt1 ?kQ t,π<=8990,(?aE),.(fun y hy=>by simpa using hy),(row++?aH m 1),?TY p2,2 ^ ?x,(fun y hy z f hf=>?_),?T (?yE) j,putI ms k v,Lw fs k i,fun t ht=>h t (?WD ht),?M0 b 0,p.2.2.2,(E8 xs ?U).getD b 0,(?yS).2,⟨?_,rfl⟩,hh.self,(?gO),β-?eL,?L H H1,qd5.mpr,"chain",c+1<=k/\k<r,h.symm,(upd H D o),V r l,p.getD i 0,E6 f n,Dx Gs _ ?d,qm0.mp,(?f7),sp.getD,cL k ys,?U6 ds,?mK hc,(xs.map tI),.(by simpa using z),fun x=>M x (s 0),(?OR),∀(h:Dz n w m E A P PB Q QB f)(hl:?MB)(hr:?PW),a,.(by refine Dt (c0:=?Q) (e:=a) (?i (?i ?J)) ?kS ?J ?tU),.(by intro X hP hw hK hc i Ac s σ H E I hf st hg;subst hP hw hK),.(by rcases mem c hc with rfl|⟨i,i0,hi,rfl⟩),.(by exact ?UA 4 2),∀{D:Nat}(h:?XB k row),a,∀(s:Qn b H H1)(hb:H b=?c (.dK m)),a,.(by rw[?bR,?m]),.(by rw[?a1,?a4]),.(by obtain⟨m,h1,h2,h3,h4⟩:=h),∀{Ac:Bg}{σ:St}{H:Hp}{s:Shared},a,.(by rw[Tc,Jx,Jx,xx,yy,xy,yx]),∀(ht:∀f∈tl,?JW),a,∀{kt:?q}{hd:?p},a,∀(ha':a'=a\/?dZ<=a'),a,.(by refine Ai fun i _=>?_),.(by rw[?bR,?bR]),.(by show Bi 2≠2;decide),∀(k:Int)(g f:?K),a,∀(I:Bj X Ac σ H s),a,∀(hL:L<=xs.length),a,∀(a b:Int)(n:Nat),a,∀(h:Fo D H vs ls),a,∀{ms:Ms}(h:nz ms),a,∀{ms:Ms}{k v:Int},a,∀(H:Hp)(d:Addr),a,?UX (fun k=>?oD*?pC),?UY v y,wB ψ fs,?UX (fun c=>Aj (fun l=>(RB l a-?jH)*R l (w+c)) n*RB i c),Dy π b i,G6 y0 p,if ?g9=e then ?lM+1-?i6 else ?lM,.(by rw[qa1,qa0 hq];rfl),w5.extBut,if u<m then f u*?uI else 0,w6.extBut,Hy k0 f,hh i b,?cH w (gT m G B) v i,?c3 hD,q.1.toNat,i*n.natAbs,c<=k/\k<r,[?wN,"j"],i<=ms.length,?YY ?xY,G6 y p,?VY j,?dU=?dJ,Jm a b n,?rU+f n,s.heap.get?,?WZ ?iW,?YY ?NM,D.nx σ H,ns.length,n+b0<β,["size","i"],LF B n,.(fun x hx=>by simpa using hx),β+?l5,fun p Sr=>?dP,(?k9 hn).2,(?b1 hj).1,cG i*(?aU) ^ i,?T f' k,(zA e),A0->A1->A2->A3->?M,.(by rw[An ne];exact h),H a=?dJ/\?FU,2 ^ β,if ?wX=0 then [] else uM xs ?W (r.1 i),(fs j),E6 g n,x.lback,fun y hy=>?_,"list",(L r ?gL).natAbs,starEach,qc3 _ rfl,s c hc,Lw q f n,I.turned,?Y1 u,q.1<?l,G6 [x,y] e,Er low n,fun k hk=>?_,[?l,?q4,?fD],?n hi,wB _ fs,?b6+?aN,j<=spot,(?PX+1),?g1 x My,?mK hy,(L N:Addr),(a b:Int),T.n_range,fun b hb=>?_,fun r=>B ?dL,Be ?b9,?l+?cO,k D H1 hD s1 Fq,Aj (fun k=>x k*?N w T P k ?fV) j,fun k=>B k a*R k ?eP,Pg a ?s n,Lat.EuI,qe8 ..,Pc a b n,Ti k w Q p,?G ds,Ai ?vN,Bz n row,.(by rw[qa9];omega),2 ^ η,[?f (-a),?f (-x),?f (-y)],((?fM:Nat):Int),Ev->Int,∀j c,?fN->j<w->c<w->(r.1 j c).natAbs<=?xU,?n h1,(backTo cpos (?G4)).any,?YD p0,((?vZ)),fun i hi=>?_,?c [],Dc m z L p,.(by omega),e.natAbs<=?bD,?UD ?eJ=k+1,Aj (fun u=>?kK*P u c) n,{ cls:=?qH,data:=.fields #[?bF,.bool ?oH,?k ?d7,?wI 0,?bF,?bF] },Lat.turnL,sp.map,Q ?eR H',qi0 _ O9m,∀x∈xs,x.length<=4,Aj (fun a=>v a*?QT) w,if ?f6 then(p.1,v) else p,hasDict_toPDs ds,qf1 ?aD O9m,2 ^ 10,t.hand,?h ?P3,(qb6 h).symm,2 ^ bookF,fun x hx=>?_,?c (?P),(?k C),ys[m]?=?dG,.(nomatch hm),?UQ 0,ls[k]?=?pU,?VT ?wJ,T.n_isinstance,rawInt,K.head,?X Expr,?VY ?b4,Array ?lJ,"table",fun e h=>?_,(us:?u),ls[k.toNat]?=?pU,?YY f.toNat,?WJ Shared,E6 ?mY j,qg6 hy,qr0.mpr,let s:=(?pG);?bE,?IW f k0 i,(?nD).getD q [],fun f hf=>h f (?WD hf),s.eqv n ?y,xs[m]?,Hh O9m (by rw[hz];rfl),2 ^ d*?uS,fun c=>Aj (fun v=>?PJ*Q v c) w,Str->?f1 ?lJ,(?k9 hy).2,["a","one","b",?oG],det k (Ua U f W m (fun x=>?h9) ?U),Bv P w K mg ?aJ Ei k f fd ps sp,F.binds hb,Ix ms k n,w7.extBut,?UX (fun k=>?pC*?p9),IsEnumOut,List.Perm.cons,r.length,?fF*φ ?gS,?VT K.pos,?T f n,x.left,"width",tl.length+3,G6 (?WG ?H) p,(o4 o5:?f1 V),Bw.put,(R k ?kX).natAbs,p3  x0 H,i<=xs.length,[?q2,?fD,?fD,?fD],2 ^ b2,Turned,[?kE,?f u,?f v],?TU F8 k,p.toNat,[?Q,?Q,?Q,?oL,?uN],fun x a=>R x ?qI,hp j O9m,O c=none,?WM p2,0<=p.1,((i+1:Nat):Int),Cu ms k,P' x a,ns.map,⟨?tA,Ab,rfl,?bG,rfl⟩,((n / m:Nat):Int),Rd H a ?jK,⟨fun q hq hk p=>?_,?fL,?_⟩,Pv ?H,fun x=>f ?r0,?rN O9m,x.rback,kt ?V,"__init__","bool",N7 w r,s.1 j (?mJ),h1.perm,h.self,Bz n (?EL (?G2)),2 ^ ?pH,?VH p2,⟨O9m,by rw[qa9];ext aZ⟩,Bz n ts,.(show k+1-1=k by omega),(?mX ?l9).map,qq0 _ _,fun c hc=>(?CS),∃z L G,?XC xs 4,fun i=>?jJ,e.symm,Fr O H vs lf,cG n*2 ^ n,K2.st.good,?tM b=?cE->h'.get? b=?cE,x.right,f=?l+2,[?d2,?rO],?X3 d,Er ?aM n,(B:Hp),p.2.2.1,Pg a b n,qb5 ?d,?h ?aR,⟨_,rfl,q2⟩,fun x=>M x (s y0),D<=?bD,?T (?yE) k,⟨k1,g,d,tk,os⟩,Iz F ds,?V8 p0,Ix ?eW ?gS (?gF),E8 xs ?oZ,L j ?gL,fun x=>M x x,b0<=π,kP ?qC (?z),Ka _ _,.(by refine ?U4 0 1),∀(st:?vP)(hB:?QL)(b2:∀q c,q<m->c<w->(B q c).natAbs<=2),a,∀(ge:?WH ?kQ n)(gj:s.heap.IsTupleIter j t n)(gt:?KU),a,∀(hs:?N0=(?oH,eval e ?d0)::?G4:=by rfl),a,.(by have e:?pB=?n5:=?Q1),∀(hd:∀x y,x<k->y<k->?VD (P' x) (Q' y)=?IJ),a,∀{A0 A1 A2 A3 A4 A5 A6 A7:Type}{S:?UL St},a,∀{A0 A1 A2 A3 A4 A5 A6:Type}{S:?XM St},a,∀(z k0:Nat)(L G:Lat.Mat)(f:?p)(l r:?j6),a,.(by have Sr:∀t∈ts,0<t:=?n7),.(by have e:?fY:=?dX),.(by rcases ?bM with rfl | rfl|⟨i,_,rfl⟩),∀{A0 A1 A2 A3 A4:Type}{S:?W9 St},a,∀{a:Int}(h:?KW),a,.(by wp_walk using wpAny_loadPart' q1,qn7 gt),.(by exact(?YZ ?wE ?NO)),∀{L L':Nat}{ds:?e}(h:?s0),a,∀{A0 A1 A2 A3:Type}{S:A0->A1->A2->A3->St},a,∀{sp ns:?e}(hl:ns.length=sp.length),a,.(by obtain⟨its,rv,p,hz⟩:=?QU),∀(K:?LV),a,∀{A P PB Q QB P' Q':Mat}{f f':?p},a,∀{a c0 c1 c2 c3:Int}{low high:?e},a,∀{st:Stmt}{ps:?A}{k:Nat}{sp:Sp},a,∀{e j t:Addr}{n:Nat}{vs:?wM},a,.(by obtain⟨⟨old,h1⟩,h2⟩:=st),.(by rw[?YU ne,qg4]),.(by rcases ?fG ht with rfl | ht),∀{mg:?x5}{base:Heap},a,∀{prog:Program}{w:World}{A:Around},a,∀(ns:?e)(lo hi:?f1 Int),a,.(by unfold lev at la;simp at la),.(by unfold lev at lb;simp at lb),.(by rw[?fA,?n ?rQ]),.(by exact ?n3),.(by rw[?a4,qd1]),∀(b:?TU m8 j),a,∀(hD:H D=?dJ),a,∀(he:?vR),a,∀(D:Addr) (us:?u),a,∀{α:Type}(g:Nat->α),a,∀{a:Addr}{xs:?u},a,∀(g:?H9),a,∀(hK:X.K=K:=by rfl),a,∀{a b:Int}{n j:Nat},a,∀{f:?cA},a,(ps:?cG),Nat->Bool,(qf8 _ _),⟨c,e1,e0,e2⟩,List.pairwise_iff_getElem.mp,?X7 H,hs q _ e,let s:=(?j0);?bE,fun i=>r.2 (k0+i),?WE f ?aP,fun t=>Dq.start _ _ _ _ _ _ t,∀y∈ys,Bi y.length≠k,?YI p0,x m*T m c,["one",?oG],.(by rw[ex]),C0 ?eW ?gS,fun σ2 H2=>tb { D with nx:=?yD,ct:=?yD,bk:=D.nx } σ2 H2,(?Y4 ms.any (?f6))=true,.(by ext aT;ext AI),∀p,?tH=0,p2 x0 x1,⟨_,hL⟩,?XI (spot-r),?XI (i-r+1),qc0 _ O9m,Int.dvd_add,?c8 b ?b9,Rw ?U*A 0 ?U,let u4:TS:=?LM;let u3:TS:=?GY;?MT,?XO i,blend_row_ne O9m O9m _ _ _ _,?T f ?dW,"column",?U1 p1,q<ys.length,ms.length+1,if x=x0 then s k else s x,∀j,j<i->(s.1 j ?eP).natAbs<L9,ms[i].1.toNat,look m q hq hlt,.seq vs n,(?tO).length,(?G us),⟨_,rfl,rfl,_,rfl,?_⟩,fun _=>?OJ,(?bS).zip,"pieces",∀p∈ps,qO ?s p,?X Stmt,"add_at",?T (fun r=>f ?dL) m,fun x i=>?I9,Oa n ?nE (?N w A one) D,E8 xs ?W,ok _ O9m,?ZF true,?UX (fun j=>g ?U),SqT K H a xs,?XC xs n,h'.IsTupleIter,(mC H d),.(nomatch hc),⟨a'*b',?hD⟩,fun z=>?QC,K2.st.st,toPDs ds,SqT K H1 a xs,(one i j).natAbs,?y6=none,SqL K H1 a xs,readsAll_of,B j a*?nS,m<sp.length,if i=j then 1 else 0,?bN X.K H vs ds,[?rO,?dS,?d2],h x y O9m O9m e,fun a=>if a=d then none else H a,fun f' hf'=>?_,.(by rw[ey]),Nv H vs ls,fun i j=>?NQ,Eq.trans,Sn (m:=j) ?d,fun y hy=>?uU,l.getD i d,(?t7).filter,(?mV-?j1),"tuple.count",G6 (?B (?mS j 0).toNat []) ((?zM).getD i 0),?eS z ?cF ?cB G,?U1 p2,Ky x e-Ky y e,Aj (fun i=>?xH) ?hL,?c (?wX),QB ?aP c,.(fun x hx=>nomatch hx),⟨?dP,?dP⟩,s1.heap.objs.size+1,Ys es=?c ns,Vt t m<k,?C-1-?aN,∀x0,?I3,Ez hx hy ne ?Q6,(Tf _ n),{ s with heap:=h',toks:=s.toks+1 },(Li xs k i j).natAbs,?cD (swC t),p4  x0 H,?tV+?BP+(?X8 spot+3),N7 w (Q,QB),Dy π b ?H,?U1 p0,PEw X e te,.(by simp[Gg]),f=a\/?dZ<=f,xs[f.toNat]?,⟨v*x+u*y,?_⟩,(K5 ?uM),⟨⟨old,h1⟩,h2⟩,fun p=>if p=p0 then 1 else 0,(?aV).natAbs,Gg (Ix ms p.1 p.2) ns,⟨⟨_,h⟩,this.1,this.2.1⟩,?YP A a,Ky (Nw t x) p,row.drop,?gO+?qT*?eL,let s:=?kY;G s,?YY ?tB,?X Addr,q.2.natAbs,?VH p3,?TO p1,(qb7 ei),(σ'=?L0),?c8 f hf,Li xs ?U,?UX (fun a=>P x a*u a),Mm xs k ?x,bY ms p.1 p.2,Aj (fun j=>?zN*Z j l) ?dL,β2+Fs π2 b2 i<=big,LF (fun r=>?uC) i,ys[j]?=?nG,?UB g f,.(by rw[uv,qk0]),(kd:Int),x<cs.length,det n (V2 (Fz A ?H) j),(?rW h).1,∀m∈?fE,1<m,?UE H',.(by ext eA),Gg ms ns,?pY++(?mR::?lK::ys.drop (t+2)),N7 n (P,PB),List.map,?pS++[?C],ms.length,Nw t (Nw t x),?XP j ?cO,fun i j h1 h2 h3=>?_,let u4:TS:=?LM;?KI,ls[i]?=?pU,let s:=S;?bE,x j*hd j,as.drop k,Aj (fun a=>?gQ*?fC) m,?VY ?U,beside_hi,Bw H us ps,hP i (c-w) hi O9m,fun x hx=>O9m,Hh O9m (at_ _ O9m O9m),h.IsTupleIter,(?wR).length,(backTo cpos (?N0)).all (fun x=>!x.1)&&(backToKw cpos (keywordEach [] ?d0)).all (fun x=>x.1.isSome),Hy ?cF v,row.length-i,G6 (?iM) p,?uD es ?d0,Int.dvd_zero,?r8*e.natAbs,(?fX).toNat,mainGlobals,F.entry_enumerate_next,sx.mix sy ..,Dt (c0:=[]) (e:=0) ?J (fun f hf=>?kO) (?i rfl) ?DR,p.2.natAbs,fun c hc=>h c (?WD hc),fun j=>?o (Bi (?YY j).length=k),s _ _ h1,fun n=>?P9,?VX (fun c=>c<w),?W4 p2,?c8 a ?b9,?Z3 ?h1,?xJ*f n=?T g n*g n,?cH w B (Q ?aP) x,vs.length=ls.length,⟨c,q1,e0,e⟩,fun m hm=>?wD,⟨?tA,Ab,rfl,?bG,?bG,rfl⟩,s _ _ (fun z=>by rw[z,hb]at h;cases h) h,Nat.log2,Vals vs us,fun y x=>M x (?U0 0),fun x=>f (?C3),bA n r i kt (?EM) s.1/\BB n ?aB (?n8) (?rL) (?tV+?KB) s/\?C4,?VT h.ge,Ap t3 u4,h.2 i v ps e1 e2,["left","right","a","b"],⟨(F5 h).1,(F5 h).2.1⟩,.(by ext S6),fun j h1 h2=>?_,?D1 I ds hr rv,?Z4 ?N9,"faces_agree",if b<p/\p<b+n then p-b else 0,?VC p2,E5 n w r E e T,?hV j [],E6 ?mY r,E6 ?mY (r+d),PAw X es t,qa5 bl.zm (qa5 (Gx _ _ _) Qi),?eS z ?cF ?cB L,?f (n*p.2),(?VM _ ge),h.2 i v e,"_law_other",fun {x y} hx hy z=>?_,fun j c h1 h2 h3=>?_,fun _=>Lat.one,?V8 p1,wpAny_pyIter_revIter,E6 (a 0) m,((n%m:Nat):Int),KJ K R vs H1,s3.trans,{ cls:=?hJ,data:=.seq #[?QJ,x] },rv.get hx,sp _ _ Fq,(?k0).map,(?b1 e).1,(?eE).getD,?VF (pyNext ?d1) Q,Nat->?e,fun j c _=>?q1 j c,WJ K R vs H1,let s:=S x0;G s,det k (Fz (?NX) i),?VC p0,Fk hn hp,Wa ys k cs,gT m G B a c,?UX (fun a=>P x a*?iN),.(by rw[qh3];grind),det i (eL V Z i),b'*f j / g,fun x=>?o (Bi x.length=k),(p:Addr),?TO p2,.(by simp only[qd4]),(Li xs k),?U1 p3,if x=y then f' x else 0,Aj (fun b=>?t8*Q y b) w,?zH*f (s k),∀f∈y,f=a\/?l<=f,k2 (?j3) ?y,Nr xs ?b4 ms,?XI ?pH,UT n w A D,fun z=>?_,(f7 H d),spN xs k i,?UX (fun u=>?kK*?t5),w2.extBut,Lat.numAt,([]:?e),Fs π b i,fun x y=>M x (s y),∀x0 x1,?pW,prodN_congr',?WK p3,Nat->?pJ,(d i*?MD),hs9 j O9m,wpAny_attempt,0<=p/\?qQ,wpAny_callSpecial?_slot,Reps.x s hb r,?UX (fun q=>if ?h2 then F ?cJ else 0),if ?d9=k then c else 0,(Tk n ms),"one_row",List.map_id,?UX (?oE),Iz F (cs++ds),?nU j hj,S x0 x1 x2 x3 x4 x5 x6 x7 x8 x9 N4 Ob P4 Qt Qs Ry,?qY=?l5+?IP,n*D<=?aU,?UX (fun k=>(x k-?qM)*R k c),∀i,i<n->?R4,Good n ?aB w n ?fP PB R RB,∀j,j<i->t j<w+n,Ap t5 u6,?YY n,(?VO (s y)),?HB<=?PX,?TO p0,uM xs k v,F.low f hf,f<b\/b+n<=f,Aj f (a+b),let s:=S;?qO,fun p=>?NP,fun j hj=>O9m,["old","new",?MJ],cG i*?n2,?hR ∉ ?lK,fun j=>?NQ,Eo K n q st f fd,(xs++(ps++?e0)).length,(β+?dE),H p=none,?UX (fun k=>?iL),E6 (a 0) r,?XI ?qT,i=vs.length,.(show(?uQ).toNat=i by omega),?rC+1-?i6,fun r l=>?N w T one r (s l),(tab j z),Fk hn Sr,let u3:TS:=?GY;?L6,Nat.mod_lt,Dz n w k E A P PB Q QB f,det k (Ua (?LX) f (?N2) m ?lA 0),φ (t f),upd (?UU 0) N0 (?a8 [?mM,?f 0,?f 1]),t.lv j hj,Dx ks _ e,HT.sIx ?tQ 0 lo,?xE h' e j ?c1 x ?d7,dC b ?s n tl i,row.length+m=D/\UW row/\?QA,?pZ t vs,j<p.length,∃m:Nat,a=?c0/\?x1=?vO,Bool->?M,(A i c).natAbs,(xs++zs),[iS n,iS p,rS L,rS N,o4,o5],hT i c hi h,IQ D nm r1 D1 D2 b2,?L H G',Gk ?aW k ?eY a' row (D+0),?WM p3,let u2:TS:=?OM;?P7,.(show ?j3-r=(spot-r)+1 by omega),fun y i=>?IK,VI w (f i),fun spot st s' hs hI hB hex=>?_,s1.trans,hk k O9m O9m,"shared_divisor",w3.extBut,fun t ht=>?_,qe6 _ O9m,eval o ?d0,fun x hx=>h x ?d,⟨n-1,O9m⟩,bootBuiltins,[(t,t+1),(t+1,t)],Ap t4 u5,?X (?aO),(RO d).hasDict,F5 (GP hb),⟨?lE,?lE,?lE,?lE⟩,T.n_tuple,i<vs.length,Rw j*A 0 j,k3.push ?HT,Qa n ?aB w r kt hd ?fP,RM ht ?d ?d ?d,fun x u=>?kK,?l-1-?eV,?kH::?yU ?yY,(?CK).getD,Em xs ?gB,[a,b,c,d],wB φ tl,?VH p4,(qb7 ej),setField,?mE=0\/?mE=1,π2<=8990,(one,one),Ky x ?hQ,∀a b,a<n->b<n->pT n PB P a b=?nH,?UX (fun x=>PB x b*?EX),Aj (fun b=>?t8*q b) w,s1.heap.objs.size,Aj (?WE f (a+i)) b,cs.length,(L':Int),∀{n:Nat},(∀x,x<n->f x=g x)->?xJ=?T g n,"quotient",[?nF,"j"],s1.turn hD,?I h O9m,I.list hq,?YP A i,.Name x pos',?PS::?rH,?W4 p0,∃x y,x<k/\y<k/\x≠y/\r x=r y,let u2:TS:=?OM;?QE,ψ f-?sY,g x σ H' fun σ2 H2=>tb { D with nx:=N,ct:=N,bk:=D.nx } σ2 H2,[?dS,"old",?d2],(?FD).length<=ms.length+ns.length,Mm xs k ?s,mem y (qb7 hy),?uD ?jB ?d0,"level_of",fun u y=>?uI,∀f∈y,?EA,(tab k z),⟨fun i t s hi hJ=>?_⟩,fun k hk=>h k O9m,(?YY ?C5).length,g.1.toNat,((?UQ j0:Nat):Int),wB φ (fs.map t),?UQ j,Ca.start _ _ _ _ _ _ _ _ _ _,y.length=3,h'.objs.size=?kU,fun n=>?o (n≠1/\n≠0),(?g6 (?P2) (?yO).1:Int),fun r c _ z=>z.elim,ms.length<=1000000,if x=y then d x else 0,let u7:TS:=Ap t7 u8;?PL,((n-1-i:Nat):Int),(?pB).1.toNat,BB n ?aB (?n8) (?rL) (β+?t0) s,Hh O9m rfl,p.map ?lG,if j=i then 1 else 0,sumN_fst,.(by rw[←yO];exact ?p8),(Ka xs k),H c=?dG->H1 c=?dG,Lw fs f i,?WB D D2,(?VO (s' y)),List.pairwise_append.mpr,DGet H a (?b8) ((?y6).map ?S),K1.st.good,?aH ?x ?cZ,?CQ j t ?x,?VC p1,Fr O H' vs lf,Rw ?H*A ?H 0,UF n w D π β π2 β2 b2 A m M l r,fun i=>r.1 (k0+i),S x0 x1 x2 x3 x4 x5 x6 x7 x8,?aE-(m-1),fun q=>z ?oW,"is_whole",⟨Fq,sz,?ML,Ab,?_,_,rfl⟩,∀x,x<N->0<d x,Ib (hp t ?Z) h1,∃p,Ti k w r.1 p,fun y a=>u1.1 y ?qI,fun x y=>M x (?U0 0),Ho ?qE k,(?eG,Lat.one),y k l*?pC,(QJ ht k _ _).trans,Ap t2 u3,let u8:TS:=Ap t8 u9;?NK,qc0 _ (Nat.sub_le _ _),?W4 p1,∃x l,cs=x::l,?YC p0,?YB S x9,Dx rp _ e,"is_list_of_few",ChainTo m m f,?UA 4 1,hh d ?d j ?d,?TY p4,Aj g ?x,?N w T P i c,?nU r O9m,row.getD (row.length-1-i) 0,?VK h,hs x O9m,kI K n x vs H Q,[?Q,?cZ,?xT],Ap t1 u2 D' σ H,(ns:?e),?o (n=0),(?r2).objs.size,Gk xs k L a row D,c.r p*c.d,?V8 p2,(?rG).toNat,E6 (a (c+1)) n,∀t∈row,t∣M,IF ns lo hi,h.disc hn,?Y1 v,xs[n-1-i]?,let u6:TS:=Ap t6 u7;?QV,W i m σ H,?nY i O9m,(?oX).filter,List.Sublist.map,S x0 x1 x2 x3 x4 x5,?VT ?hX,t*?o6 / ?jI,out _ _ _ _ c hc,hall2 i' O9m,?YP A' a,∀a b,a<w->b<w->pT w QB Q a b=?nH,?X3 r,?aH ?l9 1,Reps.one,ls.length=4,.(by ext e9;rfl),?fK::?fE,Mq n row,(h n O9m),(?VM rfl rfl),.(fun z _=>by rw[e]),?bS++E8 xs l,?VY ?oZ,?WK p4,∀t∈row,1<t,?VD (P y) v,.(by cases z),wB g (?iM),g x σ H fun σ1 H1=>Ap t1 u2 D' σ1 H1,let s:=(?kI);?bE,∀j y,?F3->fY (xs++?qX j) y,(ps++[p]),(?iP).h (?rG),?f n tk,det n (Fz (V2 A ?U) i),∀q c,q<m->c<w->B q c=Aj (fun i=>L i q*T i c) z,f (s x0),"levels",Aj (fun y=>?sX*Q y c) (k+d),["j","i"],fun j _=>?nU j,g.sq.row0,Dz n w k D A l.1 l.2 r.1 r.2 f,QB ?aP a,I.tuple hq,let u5:TS:=?JP;?FM,?N w T one j (s l),[?hW,"faces"],.(by have:=dg.mn;have:=dg.mw;omega),let s:=(S x0);?qO,fun ds hd=>?_,C0 ?gB e,IW _ b n t0,∀[?iC],?hU->Bw H' vs ps,β+?IY<=big,?aW[m]?=?vO,ys[?lO]?,Eo K n n st f fd,Aj (fun j=>?LT*det n (V2 A j)) ?x,[?Q,?cZ,?cZ],[none,?c 1],(p4 x0 H),ds.Perm ds',.(by refine ?UC ?yR rfl),.(by have G:=F.agr ?b9;have e1:=G 0 1 b a _ _ ?aD rfl rfl gb ga;have e2:=G 0 2 c a _ _ ?aD rfl rfl gc ga;have e3:=G 1 2 c b _ _ ?aD rfl rfl gc gb),∀(g:?H9)(K:?LV)(s:?JN)(st:Dc ?aB n R t)(tab:∀j,j<r->t j<w)(ker:∀j,?dR->j<n->t j=kt j/\?nS=hd j),a,.(by refine Dt (c0:=?cZ) (e:=xs.length) (?i (?i (?i rfl))) ?kS ?J ?tU),.(by obtain⟨h1,_⟩:=Fk hn (row:=ts) ?n7;obtain⟨a',b',u,v,ea,eb,uv,hg,el,pa,pb⟩:=?OE;rw[el,←ea]),.(by rintro zs τ G1 ⟨s3,eX,hzs,_⟩;refine⟨D,_,rfl,?g ⟨.of eX,fun T1 hT1=>?_⟩⟩;have s4:?L G1 (upd G1 T1 (?a8 zs)):=?c3 hT1),.(by obtain⟨A,ha,ga,la,ca⟩:=?GJ;obtain⟨B,hb,gb,lb,cb⟩:=?BT;obtain⟨C,hc,gc,lc,cc⟩:=?c8 c ?b9),∀(pa:PlainAttrs ?jX)(slot:Slot ?jX name id)(hty:typeOf (.builtin id)=pure (?pM "method_descriptor"))(hm:MtR X id r)(ho:PE X o to)(ha:PA X ?jB t),a,∀(p:?NW)(hA:∀i c,i<n->c<w->?KY<=2 ^ b0)(dets:?CJ),a,.(by show(if ?v1=?lI then ?b2 else 0)*_=0;rw[?m,qg4]),.(by obtain⟨q1,_⟩:=?KH;obtain⟨a',b',u,v,ea,eb,uv,hg,el,pa,pb⟩:=Ib (hp t ?Z) q1),.(by refine Dt (c0:=[]) (e:=0) (?i ?J) ?kS ?J ?DR),.(by show ?V4 2 _;refine qa7 (qi4 ge rfl (x:=?k j) rfl ?_)),∀(hg:∀s:?q,?V6 g),a,∀{O H:Hp}{vs:?u}{lf:?cN}{c:Addr}{m:Ms}(h:?z0)(e0:?y2)(e:H c=?UI m),a,.(by have:?fY\/?z5\/?k6:=?dX),.(by have:?k6\/?z5\/?fY:=?dX),.(by rename_i e;exact fO fun y hy z=>e (by obtain⟨i,_,rfl⟩:=?qN;exact z.symm)),.(by rw[el];generalize ?jI=g at *;generalize ?o6=c at *),.(by rename_i e;rw[Zm fun y hy=>by obtain⟨i,_,rfl⟩:=?qN;rw[e];rfl,qa3,qe7]),∀{a:Addr}{xs:?u}{g:TG}{tb:TS}{D:Ends}{σ:St}{H:Hp}(Pv:?pJ)(h0:Pv 0 σ H),a,.(by have cm:∀C,?r4*C<=(?aE+1)*C:=fun C=>qc0 _ (qp8 _)),∀(ha:PA X [a] ta)(hK:X.K=K:=by rfl)(hs:?uD [a] ?d0=[(?oH,eval a ?d0)]:=by rfl),a,.(by rename_i e;exact ?VI ?x6),.(by have f1:=p.f1;have f2:=p.f2;have fb:=p.fb;have hbF:UO<=big:=?bQ),∀{j0:Nat}{y0:?e} (hj:ys[j0]?=?c y0) (hl:Bi y0.length=k) (h1:G6 y0 p0=1),a,.(by exact ?WT o ?GR),.(by obtain⟨i,hi,rfl⟩:=?aF hn;have:=b.fin.dg.pos i (?fO)),∀(h:Lev q m z D L G)(tw:∀c,c<w->?VN (fun a=>?fC)),a,.(by cases cs with | nil=>simp at e | cons x l=>exact(?VM x l)),.(by show(if f=b then ?C else if b<f/\f<b+n then f-b else 0)=0),∀(hbase:attributeBase o name ?d0 (?LH)=?LH:=by rfl),a,.(by exact ?g (?g (?GR))),.(by unfold bl;rw[←Ax,←Ax,←Ce];refine Ai fun q _=>?_;split),.(by unfold f7;rw[?h fun z=>by rw[z,hd]at h;cases h];exact h),.(by rename_i e;rw[?XY ?x6,qe0]),.(by have e:xs[q]?=?c ?iX:=?t3),.(by refine(?VU pr)),.(by have ht:s.TypeIs ?d1 ?e2:=?HH),.(by have m1:=?KJ 1 hn;have m2:=?KJ ?H hn),.(by revert τ;refine Kr ?_;intro s1 Fq hz1 o Hq;subst hz1),.(by obtain⟨a,vs,rfl,hq,hr⟩:=h;obtain rfl:u=?P:=r),.(by rintro ⟨p,hp,e⟩;exact⟨p,hp,?jG⟩),.(by exact List.Nodup.sublist (?PP _ qw4) h),.(by show ?WY ?EH _;rw[qc9];omega),∀(hA:∀a b,a<n->b<w->A a b=Aj (fun i=>?iN*d i*?t8) N),a,.(by refine List.perm_append_comm.trans ?_;rw[qj9,qx3]),.(by rw[?iU,?mW]at e;exact ?D7),∀(fc:∀y∈ys,?fJ->?N3),a,∀{k:Int}{ps:?cG}(h:AZ xs k ps)(Qi:?o4),a,.(by obtain⟨D0,D1,D2,t1,t2,t3,u0,u1,u2,u3⟩:=h.st),.(by unfold L7;rw[qf2];intro j hj;rw[qf2];intro i hi),.(by exact ?WT q ?u3),.(by have:?k6\/f=a:=?dX),.(by (ext fR);(ext iD)),.(by have e1:=cm ?dE;have e2:=cm ?h7),.(by have ne:b≠D:=fun z=>by rw[z,hD]at h;cases h),.(by have s1:=sC ?dE;have s2:=sC ?h7),.(by obtain⟨f0,f1,f2,f3,f4,f5⟩:=hf it ?Z),.(by have f0:=?JV;rw[qi3]at hp;split at hp),.(by rw[e1,←Ax];exact Ai fun i _=>(?j8).symm),∀(al:∀y∈ys,?fJ->∀p,?tH=?t1),a,∀{k:Nat}(hk:k<4){ps:?cG}(hp:?wF),a,.(by rcases FA hn hl f hf with⟨m,hm,rfl⟩ | z),∀(hline:(apos.endLine==cpos.line)=true:=by rfl),a,∀{H H':Hp}{tp nm r1 D1 D2 b2:Addr}{n w k:Nat},a,∀(x:Z0 K H H' tp nm r1 D1 D2 b2 n w k f l r),a,∀{X:Cx}{J:XJ}{j k:Nat}{C:Addr}{ps:?A},a,∀(hd:∀σ H,Pv ?s σ H->?tP),a,∀(x:?UE H),a,∀(n w D π β π2 β2 b2:Nat)(A:Mat),a,∀{z m w:Nat}{L T B:Mat}{p:?q},a,∀{n w D:Nat}{A:Mat}(h:?IQ),a,∀(ha':a'=a\/?l<=a'),a,∀{Q:?f1 ?lJ->?wS},a,∀{n w k E:Nat}{A P PB Q QB:Mat},a,∀(dl:E7 n w ?fP PB),a,∀{n:Nat}(hu:X.A.units+n<cLine),a,@(?a  x0 x1 x2 x3 x4 x5 x6 x7 x8 x9 N4 Ob P4 Qt Qs Ry H),@(?a x0 x1 x2 x3 x4 x5 x6 x7 x8 x9 N4 Ob P4 Qt Qs Ry H),@(∀σ H,?a->?t),@(Bv P w K mg ?aJ Ei 1 f fd ?a (?b K)),@(Ap t1 (Ap t2 (Ap t3 (Ap t4 ?a))) D σ H),@(?a  x0 x1 x2 x3 x4 x5 x6 x7 H),@(∀σ,?a->?aI),@(?b6+sg 0*G6 (?B a.toNat []) e+sg ?a*G6 (?B b.toNat []) e),@(fun _ _ _ _=>?a),@(?c6 (?i O9m) fun y hy=>by rw[?bM];show Bi 0≠?a;decide),@(g x σ H fun σ1 H1=>Ap t1 ?a D σ1 H1),@(?a xs ?b z k0 L G f l r),@(?J6 (?J8 (name:=Str.ofString "__next__") ht qr4 (qm9 qr4 ht ?G9 ?a (F.args_enumerate_next_1 _)))),@(show ?a<?b by omega),@(?a  x0 x1 x2 x3 x4 x5 x6 x7 x8 x9 H),@(?a x0 x1 x2 x3 x4 x5 x6),@(?o ((?kD).length+([]:?X Keyword).length+(if ([]:?X Keyword).isEmpty then 0 else ?a)<30)),@(s (if y=0 then y0 else if y=y0 then ?a else y)),@(?a x0 x1 x2 x3 x4 x5 x6 x7),@(?a  x0 x1 x2 x3 x4 x5 x6 H),@(?bH _ _ ?a _ _ ⟨?b,g,d,tk+1,os⟩),@(?hT ?a ?b 0 ?h4 ?kN ?aA ?aA ?aA rfl rfl rfl rfl),@((∀σ' H',N σ' H'->∃m',m'<m/\W ?H m' σ' H')/\∀x H',(?a).yld i H x H'->?MV),@(Dw xs k L a ?a),@(Aj (fun q=>if ?a then f ?cJ*wB g ?b else 0) ?s),@(Az (Dl (K:=K)) ?wH B6 (Aa ?a0 (Aa ?a Ae))),@(?c (?G ?a)),@(?I z (by show Bi ?a≠?b;decide)),@(bl xs k ?a ?b),@(?nI ?dT al (p0:=xs.length) ?a ?r9 (j0:=1) (y0:=?cZ) ?b rfl (by rw[bT,O9]) ?q6),@(Bi (?a).length),@(Qp K ?a tp nm r1 D1 D2 b2 n w k f l r),@(Az (Aw (K:=K)) T.n_len qh1 (Aa ?a Ae)),@(mg ?a=none),@(b+((?a%n:Nat):Int)),@(?c (.dK (cK ?a))),@(PE X (.Call (.Attribute o name apos) ?jB [] cpos) (Ae7 ?a r to t)),@(Ca n ?aB w r ?a ?b M B0 kt hd t s.1 s.2),@(A0->A1->A2->A3->A4->A5->A6->A7->?a),@(?uH (t':=s.toks) ?a f0 f1 f3 f4 f5),@(?nI ?dT al (p0:=xs.length) ?yR ?r9 (j0:=?a) (y0:=?b) rfl rfl ?_ ?q6),@((?B (?n4).toNat []).getD i 0=(?B (?rT).toNat []).getD (j-1) ?a),@((5*?z+?z*?z+1)*?a),@(xs.length+?a),@(show ?a<=?b by omega),@(?a  x0 x1 x2 x3 x4 x5 x6 x7 x8 H),@(?a  x0 x1 x2 x3 x4 x5 H),@(upd H L0 (?a8 [?b7,?f 1,?f ?a])),@(h'.get? ?d7=?c { cls:=?hJ,data:=.seq #[?f n s.toks,?a] }),@(SqL K H ?a ?b),@(Aj ?a n),@(Aj (fun a=>?a a*QB ?b a) w),@(?a xs ?cO (zs j) (ks j) (Ls j) (Gs j) ?u7 (lp j) (rp j)),@(show ?a=?b by omega),@(A3->A4->A5->A6->A7->A8->A9->bB->fZ->KL->rB->RA->WM->?a),@(⟨h.1,fun i v ps e1 e2=>let ⟨a,us,e,?a,h1,h2⟩:=?GZ;?b⟩),@(Rep K H ?a ?b),@(?bH _ _ (field ?d1 ?a>>=_) _ _ ?b),@(?N n (fun i j=>u1.1 j ?a) r.1),@((∀x y,x<k->y<k->?q0)->(∀x,x<k->s x<m)->?a∣ ?zH),@(?a<b+_/\b+_<b+n),@(?a  x0 x1 x2 x3 H),@(N8 fun ?uW ?h5=>B4 (vs=[?f a,?kE,?b7]) ?jA ?jR ?a),@(fun x y hx hy=>?a x y O9m O9m),@(?a (l:=C) (by unfold lev at lc;simp at lc;omega)),@(?a  x0 x1 x2 x3 x4 H),@(bil n w A ?a ?b),@(Aj (fun a=>g (?c5)*?a) ?gZ),@(?bH (model prog w) A ?a ?b E s),@((if ?a=?lI then ?b2 else if ?b=?l then -1 else 0)=0),@(?a  x0 x1 x2 H),@(fO fun y hy z=>e (by rw[?a]at z;exact z.symm)),@((if _ then(if _ then ?b2 else 0)*_ else 0)=?a),@(fun z=>?a ?bC),@(Au (i:=?a) ?gI ?b),@(⟨?a,?b,rfl⟩),@(∀x,x<q->?cH m D ?a x=0),@(fun x y=>?N w A one ?h0 ?a),@(fun r hr=>by rw[qe9]at hr;subst hr;exact ?a),@(Bc (Ba (K:=K)) ?a0 (Bc ?e1 ?aQ ?a ?bI) ?bI),@(A0->A1->A2->A3->A4->A5->A6->A7->A8->A9->?a),@(?c7 ?a ?cC),@(?a j h1 h2),@(⟨?a,_,rfl,?p8,rfl,_,_,rfl,_,_,rfl,rfl,?_⟩),@(?qZ fun q hq=>by rw[h ?a ?d,qg4,ite_self]),@(fun j hj hn=>?a j hj hn),@(Ca n ?aB w r i ?a ?fP PB kt hd t s.1 s.2),@(C7 xs ?a),@(?g ⟨?c4,?g k,rd,rfl,(iK ms ?a).symm⟩),@(?a6 fun p=>(p.1,?a*p.2)),@((?a I1 D1).headD ?c2 ?b (show j<i+1 by omega)),@(qK ys ?s k ?a ?b),@(det ?x (?a A ?b)),@(?a x0 x1 x2 x3 x4),@(show ?pZ ?a ?jC from p),@(fun i j hij hj=>?a ?aP ?d6 O9m O9m O9m),@(Ai fun b hb=>by rw[?a a b ha hb,←D5]),@(A0->A1->A2->A3->A4->A5->A6->A7->A8->?a),@(A0->A1->A2->A3->A4->?a),@(mg ?a=?wA/\∀H,SqT K H a ((?b:?e).map ?S)),@(kE n w b0 ?a π b β ?b π2 b2 β2 C1 C2 F),@(JL n w r M B0 kt hd π b η β ?a t s),@(qb0 _ ?a),@(fun i=>?a ?b),@(En (vs=[v]) (LT K H v xs) ?qR ?eH ?a),@(Cj b n tl ?a),@(?cL ?a e j ?b old),@((∀b o,b≠e->b≠j->?z3)->Q (?a ?b) ?E0),@(?a->Prop),@(?a x0 x1 x2),@(?a (by simpa using h)),@(?a  x0 x1 H),@(fun ys hy=>by rw[?a hy hq];exact hx),@(L82 (xs++?a) a ?eO ?b (c2+1) ?eX low ?aM),@(?a (K:=K) ?R T.n_zip (Aa ?b (Aa ?c9 Ae))),@(φ (?d9)*C0 ?a (?d9)),@(wF φ ?a),@(k x0 x1 x2 x3 x4 x5 ?a h0 h1 h2 h3),@(?g (?i ⟨?a,?b⟩)),@(?a9 ?a fun k _ ne=>by ext aT;rw[?b,qg4]),@((∃old,?cL h e it ?a old)/\?FY it a ?b),@((if ?l+?aN=?lI then ?b2 else 0)*?a),@((?a).length=?b),@((?a).length<=?b),@(?a (by rw[Br];omega)),@(g x σ H fun σ1 H1=>t1 ?a σ1 H1),@(fun σ H R=>ta σ H fun vs H1=>?a),@(?bN K ?a us ?s2),@(2 ^ ?a*e.natAbs),@(⟨h.1,fun i v e=>let ?B5:=?HI;?a⟩),@(L82 (xs++?a) a ?eO ?gN ?g7 ?eX low ?b),@(Hm fun o1 o2=>τ=?a),@(DueAt K ?a t c0 c1 c2 c3 low ?aM),@(?gO+(spot-r)*?eL+?a),@(?b5 fun x hx=>by rw[?a x hx,qc7]),@(?b5 fun a ha=>by rw[?a a ha,qc7]),@(Gk xs ?a ?s a ?b D),@(?gW ?a ?b ls z L G),@(⟨_,rfl,_,_,d,rfl,?a ?b,hx,_,rfl,?_⟩),@(∀q:Int,?a<=q->?b q=0),@(s.disc ?dT al hn (?uA) ?_ ?a ?b rfl),@(fun q=>?a (Nw t q)),@(fun p hp=>?a p O9m),@(P5 ?rK η r ?a),@(OX (fun r=>Mb ?n1 ?qC ?a r ?b) (?z)),@(An (ne ?a ?qB)),@(Ai fun a _=>?a),@(A0->A1->A2->A3->A4->A5->A6->?a),@(?o7 (i:=?a) ?b O9m O9m),@(?a<xs.length),@(show((?a+1:Nat):Int)=?b+1 by omega),@(fun x y hx hy e=>?a x y O9m O9m e),@(.Call (.Name ?a p) [a] [] pos),@(⟨?a,rfl,?bQ,rfl⟩),@(vM ?a (by have:=p.π9;omega)),@(show ?a=?b from h),@(s _ _ ?a (?i ?dQ)),@(go _ (?i (?i ?a))),@(cN ?a ?b id hD VT),@(Zm fun y hy=>by rw[?a,e];rfl),@(Mb π b ?a r ?b),@(Aj (fun u=>(U ?a u*f u)*W u ?b) m),@(Aj (fun b=>Q' y b*QB ?a b) w),@(?v6 n p ?a x y ?b u v),@((?a:?u)[i]?=?c ?b),@(?a fun p=>?o ?b),@(?a x0 x1 x2 x3 x4 x5 x6 x7 H),@(?a x0 x1 x2 x3 x4 x5 x6 x7 x8 x9 H),@(Db (K:=K) (n:=2) ?R (Bh (Ar (i:=0) ?a) (Bh ?b Da))),@(?a x0 x1 x2 x3 x4 H),@(?a x0 x1 x2 x3 x4 x5 x6 H),@(⟨_,(Ak (Bb ?a)),?_⟩),@(?a x0 x1 x2 x3 x4 x5 x6 x7 x8 ?b),@(?a x0 x1 x2 H),@(?a x0 x1 x2 x3 H),@(?a x0 x1 x2 x3 x4 x5 H),@(?bT->?a3->?dU=?U9 ?a->?bO),@(?a->?WJ ?b),@(Ap t5 (Ap t6 (Ap t7 ?a))),@(?a x0 x1 H),@(fun vs H Q _=>Hm fun ?qS ?a7=>?WF ?a),@(Bc ?e1 ?a ?b ?bI),@(GQ _ _ (?TW ?a n) (?TW ?b n) O9m _ x y),@(⟨(?a (?UR _ F)).1,(?b (?UR _ F)).2.1⟩),@(β+(?aE+1)*?dE+C1+?UP (2*π+4)<=?a),@(fun x=>a*φ x+b*ψ ?a),@(Aj (fun b=>?a ?b b*q b) w),@(?a D=?U9 ?b),@(fun vs H Q _=>?V9 (XU K H (?a) Q)),@(fun p=>?a*x.g p+?b*y.g p),@(fun p=>?a*x.f p+?b*y.f p),@(?h (?VK ?a)),@(?TQ 1+sg 2*G6 (?B c.toNat []) ?a),@(β2+(?aE+1)*?h7+C2+?UP ?e4<=?a),@(b+_=?a\/(?V7 ?gR)),@(?B ?a []),@(⟨?a,O9m,?b⟩),@((det k ?a).natAbs=(det k ?b).natAbs),@(fun p=>-?dM*x.g p+u*a'*y.g ?a),@(B5 (Aa ?a (Aa Am (Aa Am Ae)))),@(Aj (fun l=>(RB l a-?jH)*?a) n),@(fun q=>if q=?a then 1 else 0),@(bil N N ?kC ?a ?b),@(?WR ?a=?b3+?b*φ k),@(fun i zs τ G1=>B4 (?L G G1) (?YQ G1 zs) (zs=(?a:?u).take i) ?b),@(N8 fun x0 x1 x2=>?q5/\?a),@(Hm fun x0 x1=>?h3/\?a),@(Ey (Kt (K:=K)) ?R ?LR Le (Aa ?a Ae)),@(C9 ?R ?uX (Aa ?a Ae)),@(?UB ?a (fun p=>-b'*x.f p+a'*y.f p)=?b),@(A0->A1->A2->A3->A4->?YG A5 ?a),@(?UB ?a ?b=0),@(?a3->Q (.bl ?a) H'),@(Ar (i:=?a) ?b)])
theorem Vk{n w b0 D π b β:Nat}{M:Mat}(hM:∀r c,r<n->?f9->(M r c).natAbs<=2 ^ b0)(dets:Oa n ?nE M D)(h1:?zG)(h2:?JK)(h3:?zP)(h4:b0<=b)(hβ:b<β)(hβ2:?tR)(hbig:?JM)(hπ:?r3)(dl:E7 n w M one) :
 FT n ?aB (JF n w M):=by
 refine ?N5;have iD:i*D<=?aU:=qa5 (qc0 _ (qd9 hi)) h2;have H:=MG hM ?c2 hJ hi h1 iD h3 h4;have bb:BB n ?aB ?p6 0 β (s.1,s.2):=Rp hM ?c2 (fun k a=>rfl) hJ (qd9 hi) iD h4 hβ hβ2
 obtain⟨I,P,e⟩:=DF H rfl (hJ.good.dual dl) bb (hbig i hi) hπ hJ.pg (fun _ _ _ _ _ hB=>hB.2.2) fun t1 Y R1 B1 R2 B2 I1 D1 j hj=>by
  have:=?W1 hJ.next (show i+1<=n from hi);exact vM (qa5 ?aR h1) O9m
 refine⟨I,P,?LA⟩;obtain⟨e1,_,e3,e4,_⟩:=e ?V st s' hs hI hB hex;exact⟨e1,hJ.next e3 e4⟩
theorem JF.lt{n w:Nat}{M:Mat}:∀i t s,JF n w M i t s->?JO:=fun _ _ _ h j hj=>h.st.lt j hj
def JL(n w r:Nat)(M B0:Mat)(kt:?q)(hd:?p)(π b η β:Nat):Nat->?YG (?q) ?cK:=fun i t s =>
 (i<=r/\?UK i (fun c=>c<w)/\?NN) ∨
 (r<=i/\?UK i ?nE/\?GW)
theorem JL.lt{n w r:Nat}{M B0:Mat}[?sJ]{π b η β:Nat}:∀i t s,?WC i->?JO:=fun _ _ _ h j hj=>by
 rcases h with⟨_,h,_⟩|⟨_,h,_⟩<;>exact h.st.st.lt j hj
theorem Vh{n w r E π b η β:Nat}{e:Int}{T P PB:Mat}[?sJ][?AY](he0:0<e)[?AC][?TH](hη:∀j,?dR->j<n->hd j<=?vE)
 (hβ:η+1<=β) (hbig:β+?qY<=big) (hE:E<=?bD) [?AU] (hb:n*E<=?aU) (hπb:π<=b) (hπ:?r3) (hη9:η<=8990) :
 FT n ?aB (JL n w r ?fP PB kt hd π b η β):=by
 have rn:=g.sq.rn;have dets:=Vr (P:=P) g.dets;have YR:∀{i:Nat}{t:?q}{s:?cK},i<=r->?GH->?C4:=fun hi h j hj=>vM (qa5 (h.st.headD ?c2 hi hj) hE) O9m
 have hηN:∀j,?dR->j<n->?eF<=?vE:=fun j h1 h2=>by
  have p:=?xI;have q:=?VT hη;have:(?eF:Int)<=((?vE:Nat):Int):=by rw[Int.natAbs_of_nonneg ?d];exact_mod_cast q
  exact_mod_cast this
 refine ?N5;by_cases hir:i<r
 . obtain⟨_,h,bb⟩:i<=r/\?GH/\?NN:=by
    rcases hJ with hJ|⟨h,_⟩
    . exact hJ
    . omega
   have H:=lT g (qg7 w n) h hir hE he (qa5 (qc0 _ (qd9 hi)) hb) hπb;have tm:?E6<=?l5:=kU π b hir;have tm':?E6=?t0+?IY:=rfl;have tn:?l5<=?qY:=qg7 _ _
   have hG:∀spot (s':?cK) st,spot<=i->Dk n ?aB w i (fun c=>c<w) s.1 s.2 t π b ?V s'.1 s'.2->Hj ?aB (s'.1 i) st->st<w:=fun spot s' st hs p hB=>by
    obtain⟨c,hc,h0⟩:=rR he0 g.sq (fun k c _ hc=>?gT hc) hir ((h.st.good.mono (qp8 i)).trans p.good) ?y dl;rcases qf7 c st with z | z
    . exact ?I (hB.1 c z) h0
    . exact qc1 z hc
   obtain⟨I,Pu,ev⟩:=DF (C:=?n8) (δ:=?rL) (β:=β+?t0) H rfl (h.st.good.dual dl) bb O9m hπ h.st.pg hG fun t1 Y R1 B1 R2 B2 I1 D1 j hj=>by
    have:=?W1 h.st.next (show i+1<=r from hir);exact vM (qa5 ?aR hE) O9m
   refine⟨I,Pu,?LA⟩;obtain⟨e1,e2,e3,e4,e5⟩:=ev ?V st s' hs hI hB hex;exact⟨e1,?g ⟨hir,h.next hir e2 hs e3 e4,by rw[tm',←qq6];exact e5⟩⟩
 . have RE:r<=i:=O9m
   obtain⟨h,ab,bb,h9⟩:?VX ?nE/\?GW:=by
    rcases hJ with⟨h1,h,bb⟩|⟨_,h⟩
    . have e:i=r:=O9m
      subst e;refine⟨h.wide fun c hc=>O9m,?_,?_,YR ?y h⟩
      . rw[qh6,Nat.zero_mul];exact US bb rn hβ
      . rw[qh6];exact bb
    . exact h
   have hsd:r+?qT=i:=O9m
   have row:∀c,s.1 i c=?P0:=fun c=>h.st.good.rest i c ?y;have zero:∀c,c<kt i->s.1 i c=0:=fun c hc=>by rw[row];exact ?mP i c RE hi hc
   have hd0:0<s.1 i (kt i):=by rw[row,?wJ i RE hi];exact K.pos i RE hi
   have ktW:=K.lt i RE hi;have bg:Hj ?aB (s.1 i) (kt i):=(?YZ zero ktW)
   have em:?BQ=?KB+(?EM+(r+?qT)+3):=rfl;have emo:?BQ<=?IP:=MI _ _ _ O9m;have tn:?JJ:=rfl;rw[hsd]at em;refine⟨fun _ s'=>s'=s,⟨rfl,?_,fun _ _ _ hs _=>hs,?_⟩,?_⟩
   . rintro spot _ _ rfl;exact⟨kt i,ktW,O9m⟩
   . rintro spot _ hs rfl hz h0;exact ?I (h.skip K RE hi hs ?y) h0
   . rintro spot st s' hs e hB hex;have e:=e.symm;subst e;have est:=hB.one bg;subst est
     have esp:spot=i:=by
      rcases qf7 ?V i with z | z
      . exact ?I (h.skip K RE hi z (qd9 (hex z))) hB.2.1
      . omega
     subst esp
     have A97:insS ?V ?V ?nQ s=s:=by
      have m1:moveS ?V ?V s=s:=by
       show(moveR s.1 ?V ?V,moveR s.2 ?V ?V)=s;rw[Ps,Ps]
      rw[insS,m1,?m]
     rw[A97];obtain⟨k1,k2,k3⟩:=h.last K RE hi (fun c hc=>hc) ktW (C:=?n8) (δ:=?rL) bb (fun k hk=>ab k ?V hk ?y hi);have hbd:?E4<=big:=O9m
     have st':=k1.st.st
     have hh:∀d,d<=?j3->∀j,?uR->(downS (insT t ?V ?nQ) ?V s d).1 j (?mJ)=?yL:=fun d hd j hj=>by
      obtain⟨l1,_⟩:=k2 d hd;have:=l1.rows j (?mJ);rw[this];split
      . rename_i z
        have tl:?mJ<?yH:=by
         have:=st'.inc j ?V z.2 O9m;have e:insT t ?V ?nQ ?V=?yH:=by unfold insT;rw[?m,?r]
         omega
        rw[zero _ tl,qc7,qm5]
      . rfl
     have hs9:∀j,?uR->(?yL).natAbs<L9:=fun j hj=>by
      unfold insT;rcases qf7 j ?V with z | z
      . rw[?a1];exact h9 j z
      . have:j=spot:=O9m
        subst this;rw[?m,?r,row,?wJ j RE hi];exact vM (hηN j RE hi) O9m
     have hpos:∀j,?uR->0<?yL:=fun j hj=>by
      have:=st'.pos j O9m;rw[hh (?j3) ?y j hj]at this;ext bL
     refine⟨fun d hd=>⟨fun j hj1 hj2=>⟨st'.lt j hj2,by rw[?OX];exact hpos j O9m,by rw[?OX];exact ?J5⟩,?jY⟩,?i ⟨O9m,k1,?_,?_,fun j hj=>by rw[hh (?j3) ?y j ?d];exact ?J5⟩⟩
     . rcases qf7 m d with z | z
       . have:=k3 d O9m m z;rw[this];exact ?lF (k2 d O9m).2 hbd
       . have e:m=d:=O9m
         subst e;exact ?lF (k2 ?dW O9m).2 hbd
     . have:=h.above K RE hi hηN ab (?IN).1;rw[?L7,qf5,qf4];have e:?gO+((spot-r)*?eL+?eL)=?X8 η+1:=O9m
       rw[e];ext bL
     . rw[?L7,em];have:=(?IN).2;rw[show ?tV+(?BP+(?X8 spot+3))=?E4 by omega];ext bL
theorem oO{M:Mat}{k:Nat}(hp:∀x,x<k->0<M x x):∀m,k<=m->(∀x,k<=x->x<m->M x x=0)->NB m M=Hy k ?zO:=by
 have base:∀j,j<=k->NB j M=Hy j ?zO:=fun j=>by
  induction j with
  | zero=>intro _;rfl
  | succ j ih =>
    intro hj;have:=?y1;rw[O0,?m,ih ?d,Yl]
 intro m
 induction m with
 | zero=>intro h _;exact ?aJ 0 ?iS▸(by rw[?V0 k 0])
 | succ m ih =>
   intro h hz;by_cases e:k=m+1
   . subst e;exact ?aJ _ ?y
   . rw[O0,?n (hz m ?d ?d),ih ?d fun x h1 h2=>hz x h1 ?d]
noncomputable abbrev UO:Nat:=67000000
def N7(n:Nat)(s:?cK):Prop:=∀a b,a<n->b<n->pT n s.2 s.1 a b=?nH
theorem N7.one(n:Nat):N7 n ?OJ:=fun a b ha hb=>by
 show ?UX (fun k=>?eG k a*?eG k b)=_;rw[?a9 ha fun k _ hk=>by unfold Lat.one;rw[?h hk,qg4]];unfold Lat.one;ext m2
theorem N7.go{n w:Nat}{T:Mat}{l:?cK}{R B:Mat}(h:?nR)(e:∀a b,pT n B R a b=pT n l.2 (?N w T l.1) a b):N7 n (?y0,B):=fun a b ha hb=>by
 have:=e a (w+b);rw[←h a b ha hb];refine ?DD ?aR ?_;exact Ai fun k _=>by rw[beside_hi]
theorem xS(i j:Nat):?CY<=1:=by
 ext aT;split<;>decide
theorem AX{n w W b:Nat}{T P:Mat}(hT:∀i c,i<n->c<w->?jN<=?aU)(hP:∀i c,i<n->c<W->(P i c).natAbs<=?aU):∀i c,i<n->c<w+W->(?P0).natAbs<=?aU:=fun i c hi hc=>by
 unfold beside;split
 . rename_i h;exact ?L1
 . exact ?FV
theorem Vo{n w W b:Nat}{T P:Mat}(hT:∀i c,i<n->c<w->?jN<?aU)(hP:?a2 n W b P):?a2 n (w+W) b ?fP:=fun i c hi hc=>by
 unfold beside;split
 . rename_i h;exact ?L1
 . exact ?FV
theorem Vp{n w W b:Nat}{R:Mat}(h:?a2 n (w+W) b R):?a2 n W b ?y0:=fun i c hi hc=>h i (w+c) hi O9m
theorem Lg{n W b b':Nat}{R:Mat}(h:?a2 n W b R)(hb:b<=b'):?a2 n W b' R:=fun i c hi hc=>qb4 (h i c hi hc) (qf1 ?aD hb)
theorem yG{e:Int}{D π:Nat}(h:e<=D)(hD:?zG)(h0:0<e):e.natAbs.log2<=π/\?vR:=by
 have h1:?vR:=by
  have:e.natAbs<=D:=O9m
  exact qa5 ?aR hD
 refine⟨?_,h1⟩;have:e.natAbs.log2<?gU:=(Nat.log2_lt O9m).mpr (qc1 h1 (?n3));omega
theorem JL.done{n w r π b η β c:Nat}{M B0:Mat}[?sJ]{t:?q}{s:?cK}(rn:r<=n)(h:?WC n)(hc:?qY<=c):(∃G,?UK n G)/\?a2 n ?aB (β+c) s.1/\?a2 n n (β+c) s.2:=by
 have e:?JJ:=rfl;rcases h with⟨h0,h,bb⟩|⟨h0,h,_,bb,_⟩
 . have en:n=r:=O9m
   subst en;have:=bb.mono (show β+Dy π b n<=β+c by omega);exact ?EI
 . have:=bb.mono (show _<=β+c by omega);exact ?EI
universe Hb
namespace Lat
open Hb
def E6(f:?q):?q
 | 0=>0
 | n+1=>?tL
theorem K5{f g:?q}:∀{n:Nat},(∀k,k<n->f k<=g k)->?rU<=?u8
 | 0,_=>?a5
 | n+1,h=>Nat.add_le_add (K5 ?N6) ?Q4
theorem Tf[?dD]:∀n:Nat,(?UX f).natAbs<=E6 (fun k=>(f k).natAbs) n
 | 0=>?a5
 | n+1=>qa5 (qf0 (?UX f) (f n)) (qq5 (Tf f n) _)
theorem W1(f:?q)(c:Nat):∀n:Nat,E6 (fun k=>f k*c) n=?rU*c
 | 0=>by show 0=0*c;omega
 | n+1=>by show E6 _ n+f n*c=(?tL)*c;rw[W1 f c n,qf5]
theorem jA{f g:?q}{c:Nat}:∀{n:Nat},c<n->f c=f c->(∀k,k<n->k≠c->f k=g k)->g c=0->?rU=f c+?u8
 | 0,h,_,_,_=>O9m
 | n+1,h,e,hk,h0=>by
   show ?tL=f c+(?u8+g n)
   by_cases z:c=n
   . subst z;have:E6 f c=E6 g c:=qj1 (K5 fun k hk'=>qm4 (?LC)) (K5 fun k hk'=>qm4 (?LC).symm);omega
   . have:=jA (n:=n) O9m rfl (fun k hk'=>hk k O9m) h0;have:=hk n O9m O9m;omega
theorem v6{i:Nat}{R B:Mat}{t:?q}(P:Part R t 0 i){a m:Nat}(h:∀j,j<i->(Aj (?v4) i).natAbs<=m*?qF):∀j,j<i->(B j a).natAbs<=2 ^ j*m:=by
 intro j
 induction j using Nat.strongRecOn with
 | _ j ih =>
   intro hj;have pj:=P.pos j ?iS hj;have hs:=h j hj;rw[Me (j:=j+1) ?d fun k h1 h2=>by rw[P.zero k _ ?iS h2 (P.inc j k ?iS ?d h2)];simp]at hs;have hs':(Aj (?v4) j+?D2).natAbs<=m*?qF:=hs
   have b:=BN (f:=?v4) (m:=m) (h:=?qF) (j:=j) fun k hk=>by
    rw[qb3];obtain⟨r1,r2⟩:=P.red k j ?iS hk hj;exact qf3 (ih k hk O9m) O9m
   have c:(?D2).natAbs<=2 ^ j*m*?qF:=qa5 (Wb hs') (by rw[qx9];exact b);rw[qb3]at c;exact qr7 c O9m
section
variable{n w r E:Nat}{e:Int}{T P PB R RB:Mat}{kt t:?q}{hd:?p}
theorem OY[?AY]{x:?p}[?m8](hx:∀c,c<w->v c=?JF)(hv:∀c,c<w->(v c).natAbs<=e.natAbs):?JS:=by
 have rn:=g.sq.rn;have rw':=g.sq.rw
 let a:Nat->?q:=fun c k=>if ?tD then ?pA*(T k k).natAbs else 0
 have step:∀c,c<r->E6 (a c) n=a c c+?PF:=fun c hc=>jA O9m rfl (fun k hk ne=>by
  show(if ?tD then _ else 0)=if ?rP then _ else 0
  by_cases z:?tD
  . rw[?a1,?n ⟨?vQ,z.2⟩]
  . ext sD) (by show(if c+1<=c/\c<r then _ else 0)=0;ext eA)
 have top:∀c,c<r->a c c<=e.natAbs+?PF:=fun c hc=>by
  have h1:=hx c O9m;have h2:=sumN_pair (f:=?oE) (g:=fun k=>if k=c then ?lH else ?iL) (n:=n+2) (p:=c) (q:=n+1) O9m O9m O9m
  have e1:?JF=?lH+?K9:=by
   have:∀m,c<m->m<=n->Aj (?oE) m=?lH+Aj (fun k=>?iL) m:=fun m=>by
    induction m with
    | zero=>intro h;omega
    | succ m ih =>
      intro h hm;show Aj _ m+?BF=?lH+(Aj _ m+if c+1<=m/\m<r then ?BF else 0)
      by_cases z:c=m
      . subst z;have z1:Aj (?oE) c=0:=?b5 fun k hk=>by rw[g.low k c ?d ?d hk,qc7]
        have z2:Aj (fun k=>?iL) c=0:=?b5 fun k hk=>?FC
        rw[z1,z2,?m];omega
      . rw[ih ?d ?d];by_cases y:m<r
        . rw[?n ⟨?vQ,y⟩];omega
        . rw[?m,?QR m c ?d ?d ?d,qc7];omega
   exact ?aR n O9m ?y
  have e2:(?lH).natAbs<=e.natAbs+(?K9).natAbs:=by
   have:=hv c O9m;rw[h1,e1,Int.add_comm]at this;exact Wb ?aR
  refine qa5 (qm4 ?_) (qa5 e2 (qw2 (qa5 ?DZ ?ED) _))
  . show(if c<=c/\c<r then _ else 0)=_;rw[?n ⟨?a5,hc⟩,qb3]
  . show(?iL).natAbs<=if ?rP then ?pA*(T k k).natAbs else 0
    by_cases z:?rP
    . rw[?a1,?a1,qb3];obtain⟨r1,r2⟩:=g.red c k O9m z.2;exact ?LG
    . ext sM;exact ?a5
 have all:∀d,d<=r->E6 (a (r-d)) n+e.natAbs<=?z7:=fun d=>by
  induction d with
  | zero =>
    intro _
    have:E6 (a (r-0)) n<=E6 ?lA n:=K5 fun k _=>by
     show(if r-0<=k/\k<r then _ else 0)<=0;ext eA;exact ?a5
    have z:∀m,E6 (fun _=>0) m=0:=fun m=>by induction m with
     | zero=>rfl
     | succ m ih=>show E6 ?lA m+0=0;omega
    rw[z]at this;rw[qx7];omega
  | succ d ih =>
    intro hd;have i1:=?iQ;have s:=step (r-(d+1)) O9m;have t:=top (r-(d+1)) O9m;rw[show r-(d+1)+1=r-d by omega]at s t;have p2:?X3 (d+1)=?z7+?z7:=?IA
    omega
 have fin:=all r ?y;rw[qh6]at fin
 have le1:?HB<=?KA:=K5 fun k hk=>by
  show _<=if 0<=k/\k<r then _ else 0
  rw[?n ⟨?dA,hk⟩];have:=g.pos k hk;exact ?vY
 have le2:∀m,r<=m->?KA<=?HP:=fun m=>by
  induction m with
  | zero=>intro h;rw[?V0 r 0];exact ?a5
  | succ m ih =>
    intro h;by_cases z:r=m+1
    . rw[z];exact ?a5
    . have:=?iQ;show _<=?HP+a 0 m;omega
 have:=le2 n rn;omega
theorem oZ[?AC](he:1<=e.natAbs){x:?p}[?m8](rn:r<=n)(hx:∀c,?f9->v c=?UX (fun k=>x k*?p9))(hv:∀j,?dR->j<n->(v ?fV).natAbs<=?eF)(h0:?JS):E6 ?mY n<=?G6:=by
 have one:∀j,?dR->j<n->(x j).natAbs<=1+?wT:=fun j h1 h2=>by
  have p:=?xI;have e1:=hx ?fV (?VT K.lt);rw[Me (j:=j+1) ?d fun k h3 h4=>by rw[?mP k _ ?d h4 (K.inc j k h1 ?d h4),qc7]]at e1;have e2:v ?fV=?v3+?FP:=by rw[←?wG];exact e1
  have e3:(?v3).natAbs<=?wT*?eF:=by
   rw[←W1];refine qa5 (Tf _ j) ?ED;obtain⟨r1,r2⟩:=K.red k j h1 hk h2;show(x k*_).natAbs<=_;rw[qb3];exact ?LG
  have e4:=?VT hv
  have e5:(?FP).natAbs<=(1+?wT)*?eF:=by
   rw[qf5,qf4];refine qa5 (Wb (a:=?v3) (m:=?eF) ?_) (qw2 e3 _);exact qa5 (qm4 (congrArg Int.natAbs e2.symm)) e4
  rw[qb3]at e5;exact qr7 e5 O9m
 have all:∀d,r+d<=n->?HC+1<=?x3:=fun d=>by
  induction d with
  | zero=>intro _;rw[qx7];show E6 _ r+1<=_;omega
  | succ d ih =>
    intro hd';have i1:=?iQ;have o:=one (r+d) O9m O9m;show ?HC+(x (r+d)).natAbs+1<=_;rw[qh3];have:2 ^ d*2*?uS=?x3+?x3:=?hD
    omega
 have fin:=all ?pH O9m;rw[show r+?pH=n by omega]at fin
 have p1:?yP*?uS=?q3+?yP:=by
  rw[Nat.mul_add,Nat.mul_one,←Nat.mul_assoc,←qe4]
  congr 3
  omega
 have p2:?yP<=?q3:=qa5 (?w3) (qi0 _ he);have p3:?G6=?q3+?q3:=?IA
 omega
theorem Qa.le{M:Mat}{W:Nat}(K:Qa n W w r kt hd M){i j:Nat}(hi:i<n)(h1:?dR)(h2:j<n):(M i ?fV).natAbs<=?eF:=by
 have p:=?xI;rcases qn5 i j with z | z | z
 . obtain⟨a,b⟩:=K.red i j h1 z h2;omega
 . rw[z,?wG];exact ?a5
 . rw[?mP i _ ?d hi (K.inc j i h1 z hi)];ext cX
theorem o9{π β:Nat}{G:?WJ Nat}(he0:0<e)[?AU][?AY](g':E5 w n r E e (tr R))[?AC](K':Qa n ?aB w r kt hd R)(s:?JN)(b1:?a2 n n β P) :
 ?a2 n n ?K7 (?y0):=fun i a hi ha=>by
 obtain⟨x,hx⟩:=(?x0).1 i hi
 have h0:=OY g (x:=x) (v:=R i) (fun c hc=>by rw[hx c ?d];exact Ai fun k _=>by rw[?gT hc]) fun c hc=>by
  obtain⟨a,b⟩:=g'.le c i hc hi;show(tr R c i).natAbs<=_;omega
 have h1:=oZ K (e:=e) O9m g.sq.rn hx (fun j h1 h2=>K'.le hi h1 h2) h0;show(R i ?qI).natAbs<_;rw[hx ?qI ?d];refine qc1 (qa5 ?DZ (qa5 (K5 (g:=fun k=>?pA*?u5) ?uM) ?_)) (m:=?r8*?bD*?u5) ?_
 . show(x k*_).natAbs<=_;rw[qb3,beside_hi];exact qe6 _ (qd9 (b1 k a hk ha))
 . rw[W1];exact qc0 _ (qa5 h1 (qe6 _ he))
 . rw[←qe4,←qe4];ext AQ
theorem Wu{π β:Nat}(he0:0<e)[?AU][?RF][?TH](b2:?a2 n n β PB) :
 ?a2 n n ?K7 RB:=fun i a hi ha=>by
 have ex:∀k,∃y:?p,k<n->∀c,?f9->?p9=?UX (fun i=>y i*R i c):=fun k=>by
  by_cases hk:k<n
  . obtain⟨y,hy⟩:=(?x0).2 k hk;exact⟨y,fun _=>hy⟩
  . exact⟨?cM,fun z=>?I z hk⟩
 let y:?cA:=fun k=>Classical.choose (ex k)
 have hy:∀k,k<n->∀c,?f9->?p9=?UX (fun i=>?oD*R i c):=fun k=>Classical.choose_spec (ex k)
 have ybd:∀k,k<n->(?oD).natAbs<=?n2*e.natAbs:=fun k hk=>by
  refine v6 (R:=R) (B:=fun i _=>?oD) (t:=t) (a:=0) (i:=n) ⟨fun j l _=>?jQ j l,?I1,?QQ,fun l j _=>?pT l j⟩ (?jZ) i hi;rw[←hy k hk ?eP (?g3 j hj)];have p:=?JH;by_cases z:j<r
  . rw[?gT ?KG];obtain⟨q1,q2⟩:=g.le k ?eP hk ?KG;exact qa5 (show(T k ?eP).natAbs<=e.natAbs by omega) (?vY)
  . obtain⟨q1,q2⟩:=ker j O9m hj;rw[q2];rw[q1];exact qa5 (K.le hk O9m hj) (qm7 _ O9m)
 have rel:RB i a=?sW:=by
  have z:∀c,?f9->?GK=0:=fun c hc=>by
   have e1:?UX (fun l=>RB l a*?h1)=?xD:=s.pt a c
   have e2:?xD=?UX (fun l=>?jH*?h1):=by
    have:?xD=?UX (fun k=>Aj (fun l=>?OK*?h1) n):=Ai fun k hk=>by
     rw[hy k hk c hc,←Ax];exact Ai fun l _=>?hD
    rw[this,Cr];exact Ai fun l _=>by rw[D5]
   have e3:?GK=?UX (fun l=>RB l a*?h1+(-1)*(?jH*?h1)):=Ai fun l _=>?hD
   rw[e3,Ce,Ax,e1,e2];omega
  have d:=s.dual dl
  have q:?sZ=RB i a-?sW:=by
   have:?sZ=?UX (fun c=>?Z3 (R l (w+c)*RB i c)):=Ai fun c _=>by
    rw[←D5];exact Ai fun l _=>?j8
   rw[this,Cr]
   rw[?a9 hi fun l hl ne=>by
    rw[Ax];have:=d l i hl hi;unfold pD at this;rw[this,?eU,qc7]]
   rw[Ax];have:=d i i hi hi;unfold pD at this;rw[this,?r,qk0]
  have q0:?sZ=0:=?b5 fun c hc=>by rw[z (w+c) ?d,qg4]
  omega
 rw[rel]
 have m1:(?sW).natAbs<=n*(?n2*?bD*?u5):=Oe fun k hk=>by
  rw[qb3];exact qf3 (qa5 (ybd k hk) (qe6 _ he)) (qd9 (b2 k a hk ha))
 refine qc1 m1 (qc1 (qc0 _ (qd9 (qq8 (n:=n)))) ?_);rw[←qe4,←qe4,←qe4];ext AQ
theorem Dc.same{W n:Nat}{R:Mat}{t:?q}(st:Dc W n R t)[?m8](hv:In W n R v){j:Nat}(hj:j<n)(h0:∀k,k<j->?oT=0)(h1:v ?eP=?nS)(h2:∀k,j<k->k<n->0<=?oT/\?oT<R k ?kX):∀c,c<W->v c=R j c:=by
 obtain⟨x,hx⟩:=hv
 have hu:∀c,c<W->v c-R j c=?JL:=fun c hc=>by
  have e:?JL=?UX (fun k=>x k*R k c+(-1)*((?qM)*R k c)):=Ai fun k _=>?hD
  rw[e,Ce,Ax,Cn,?n hj,←hx c hc];omega
 have all:∀k,k<n->(x k-?qM)=0:=fun k=>by
  induction k using Nat.strongRecOn with
  | _ k ih =>
    intro hk;have p:=?nU k hk;have e:=hu ?kX (?g3 k hk)
    rw[?a9 hk fun i hi ne=>by
     rcases qf7 i k with z | z
     . rw[ih i z hi,qg4]
     . rw[?q1 i _ hi (?jQ k i ?d hi),qc7]]at e
    have small:(?oT-R j ?kX).natAbs<?xQ:=by
     rcases qn5 k j with z | z | z
     . rw[h0 k z,?q1 j _ hj (?jQ k j z hj)];omega
     . subst z;rw[h1];omega
     . have a:=h2 k z hk;have b:=?pT j k z hk;omega
    rw[e,qb3]at small;refine qg5 fun ne=>?_;have:1*?xQ<=(x k-?qM).natAbs*?xQ:=?BR;omega
 intro c hc;have:=hu c hc;rw[?b5 fun k hk=>by rw[all k hk,qg4]]at this;omega
theorem KO[?RF]{j:Nat}(h1:?dR)(h2:j<n):∀c,?f9->R j c=?N w T P j c:=fun c hc=>by
 refine(st.same ((?x0).2 j h2) h2 (?uM) ?_ (fun k hk hn=>?_) c hc).symm
 . by_cases z:k<r
   . rw[?gT ?N4];exact ?QR j _ h1 h2 ?N4
   . rw[(ker k ?d ?d).1];exact ?mP j _ h1 h2 (K.inc k j O9m hk h2)
 . obtain⟨a,b⟩:=?VT ker;rw[b,a];exact ?wG
 . obtain⟨a,b⟩:=ker k O9m hn;rw[b,a];exact K.red j k O9m hk hn
universe e9
universe Lat
namespace Hb
open Lat
section
variable{n w b0 D π b β D2 π2 b2 β2 C1 C2:Nat}{A:Mat}
universe e9
def Zt(n:Nat)(f:?B3):Bool:=(?j9).all f
theorem Kx{n:Nat}{f:?B3}(h:Zt n f=true):∀i,i<n->f i=true:=fun i hi=>qf2.mp h i (?rN hi)
universe Hb
namespace Lat
open Hb
theorem BP:∀(k:Nat) (s:?q),(∀x y,x<=k->y<=k->?q0)->∃x,x<=k/\k<=s x
 | 0,s,_=>⟨0,?a5,?dA⟩
 | k+1,s,h=>by
   apply qo2;intro no
   have lt:∀x,x<=k+1->s x<=k:=fun x hx=>by
    rcases qf7 k ?r0 with z | z
    . exact ?I ⟨x,hx,z⟩ no
    . exact z
   obtain⟨x,hx,hk⟩:=BP k (fun x=>if s x=k then s ?W else s x) fun x y hx hy e=>by
    by_cases h1:s x=k
    . by_cases h2:s y=k
      . exact h x y O9m O9m (h1.trans h2.symm)
      . rw[?vJ,?mW]at e;have:=h ?W y ?y O9m e;omega
    . by_cases h2:s y=k
      . rw[?iU,?n h2]at e;have:=h x ?W O9m ?y e;omega
      . ext SO
   have l1:=lt x O9m;have l2:=lt ?W ?y;by_cases h1:s x=k
   . rw[?vJ]at hk;have:=h x ?W O9m ?y O9m;omega
   . rw[?iU]at hk;omega
theorem EU[?fT]{m:Nat}(ch:∀a b,a<=b->b<m->f a∣f b):∀(k:Nat) (s:?q),?V6 ?iV
 | 0,_,_,_=>qy1 _
 | k+1,s,h,hm=>by
   obtain⟨x0,hx,hk⟩:=BP k s fun x y hx hy e=>?D7;have hd:f k∣ ?QM:=ch _ _ hk (hm x0 O9m)
   have ih:=EU ch k (fun x=>?C3) (fun x y hx hy e=>by
    by_cases h1:x=x0
    . by_cases h2:y=x0
      . omega
      . rw[?vJ,?mW]at e;have:=h k y O9m O9m e;omega
    . by_cases h2:y=x0
      . rw[?iU,?n h2]at e;have:=h x k O9m O9m e;omega
      . ext SO) (fun x hx=>by
    split
    . exact hm k O9m
    . exact hm x O9m)
   show ?iV*f k∣ ?IL
   have e:?IL=?T (?GV) k*?QM:=by
    by_cases z:x0=k
    . subst z
      congr 1
      exact ?J1 fun x hx=>?FC
    . have:=Pq (f:=?yE) (f':=?GV) (i:=x0) (m:=k) O9m fun x _ hne=>by rw[?h hne]
      simp only[if_pos]at this;exact this.symm
   rw[e];exact Int.mul_dvd_mul ih hd
where
 prodN_congr' {f g:?p}:?MI
  | 0,_=>rfl
  | n+1,h=>by
    show ?GL;rw[?J1 ?LI,h n ?d]
theorem Xu{f g:?p}:?MI
 | 0,_=>rfl
 | n+1,h=>by
   show ?GL;rw[Xu ?LI,h n ?d]
theorem DH{d:Int}{g:?p}:∀{n:Nat},(∀k,k<n->d∣g k)->d∣ ?UX g
 | 0,_=>?G5 d
 | n+1,h=>?BS (DH ?N6) ?Q4
def Ua(U:Mat)[?dD](W:Mat)(m:Nat)(s:?q)(j:Nat):Mat:=fun x y=>if x<j then W ?r0 y else ?Y0 x y
theorem jF{m k:Nat}[?fT]{U W:Mat}{g:Int}[?RQ] :
 ∀(d j:Nat),j+d=k->∀s:?q,(∀x,x<j->s x<m)->g∣ ?rA*det k (?oB)
 | 0,j,e,s,hs=>by
   have e':j=k:=e;subst e';by_cases h:∀x y,x<j->y<j->?q0
   . exact qp3 (hg s h hs)
   . have:∃x y,x<j/\y<j/\s x=s y/\x≠y:=by
      apply qo2;intro no;exact h fun x y hx hy e=>qo2 fun ne=>no ⟨x,y,hx,hy,e,ne⟩
     obtain⟨x,y,hx,hy,e,ne⟩:=this;rw[Ez hx hy ne fun c _=>by unfold Ua;rw[?n hx,?n hy,e],qc7];exact ?G5 _
 | d+1,j,e,s,hs=>by
   have hj:j<k:=O9m
   have e1:?oB=Bu (?oB) j fun c=>?Y0 j c:=by
    funext x y
    unfold Bu;by_cases z:x=j
    . rw[?a1];unfold Ua;rw[?m,z]
    . rw[?bR]
   rw[e1,Wm _ hj,←Ax];refine DH fun u hu=>?_
   have ih:=jF (U:=U) (W:=W) hg d ?U O9m (fun x=>?h9) fun x hx=>by
    split
    . exact hu
    . exact ?P4
   have e2:det k (Bu (?oB) j (W u))=?x8:=Cs fun x c hx hc=>by
    unfold Bu Ua;by_cases z:x=j
    . ext sE;show W u c=W (?h9) c;rw[?a1]
    . rw[?bR];by_cases z2:x<j
      . rw[?n z2,?a4];show W ?r0 c=W (?h9) c;rw[?bR]
      . rw[?h z2,?m]
   have e3:?T (fun x=>f (?h9)) ?U=?rA*f u:=by
    show ?T (fun x=>f (?h9)) j*f (if j=j then u else s j)=_;rw[?r,Xu fun x hx=>by rw[?h (show x≠j by omega)]]
   rw[e3]at ih;rw[e2];obtain⟨c,hc⟩:=ih;refine⟨U j u*c,?_⟩
   have:?rA*(U j u*f u*?x8)=U j u*(?rA*f u*?x8):=by
    simp only[qd4,qx6,qe8]
   rw[this,hc];simp only[qx6]
theorem bE{n:Nat}{P PB P':Mat}(h:?MB)(x:Nat):∀c,c<n->P' x c=?vT:=fun c hc=>by
 have e:?vT=?UX (fun a=>?y7*pT n PB P a c):=by
  rw[Ai fun u _=>(D5 _ _ _).symm,Cr];refine ?XL ?_;show _=?y7*?UX (fun k=>?pC*P k c);rw[←Ax];exact Ai fun k _=>by rw[qd4]
 rw[e,?a9 hc fun a ha ne=>by rw[h a c ha hc,?eU,qc7],h c c hc hc,?r,qk0]
theorem Dz.dvdP{n w m E:Nat}[?AD][?s6]{k:Nat}[?zX]
 {g:Int} [?RQ]:g∣ ?u0:=by
 have mn:=h.mn;have mw:=h.mw;have key:=jF (U:=?LX) (W:=?N2) hg k 0 O9m ?lA ?FW
 rw[show ?T (fun x=>f (?lA x)) 0=1 from rfl,qd1]at key
 have e:?KL=?u0:=by
  have e1:?KL=det k fun x y=>?IJ:=Cs fun x y hx hy=>by
   rw[←hd x y hx hy];unfold Ua;ext eA;rw[P3 (p':=fun c=>?vT) (q':=?x4) (fun a ha=>bE hl x a ha) (fun b hb=>bE hr y b hb),Td]
   have in1:∀u,u<n->?VD (P u) (?x4)=?t5:=fun u hu=>by
    rw[bil_flip,Td]
    have e2:∀v,v<w->?PJ*bil w n (tr A) (Q v) (P u)=if v=u then f u*?uI else 0:=fun v hv=>by
     rw[←bil_flip,?jD u v hu hv];by_cases z:v=u
     . subst z;rw[?r,?r,qe8]
     . rw[?h ?OA,?bR,qc7]
    rw[Ai e2];by_cases z:u<w
    . rw[?a9 z fun v _ ne=>?eU,?r];by_cases z2:u<m
      . rw[?n z2]
      . rw[?h z2,?l8 u ?d hu z,qg4]
    . rw[?b5 fun v hv=>?m,?m]
   have in2:?UX (fun u=>?kK*bil n w A (P u) ?x4)=?IU:=Ai fun u hu=>by rw[in1 u hu]
   rw[in2];have e3:?IU=Aj (fun u=>?kK*?t5) m:=Me mn fun u hu _=>by rw[?m,qc7]
   rw[e3];exact Ai fun u hu=>by rw[?n hu,qd4]
  rw[e1,S4 fun x y hx hy=>?m];exact Xu fun x _=>?r
 rw[e]at key;exact key
theorem Dz.few{n w m E k:Nat}[?AD][?s6][?zX](hp:∀x,x<k->0<f' x):k<=m:=by
 rcases qf7 m k with z | z
 . have:=h.dvdP hl hr (k:=m+1) (?VA hd) (g:=0) fun s hi hs=>by
    obtain⟨x,hx,hk⟩:=BP m s (?XQ hi);have:=?P4;omega
   have p:0<?T f' ?dW:=B8 fun j hj=>?y1;have:=Int.zero_dvd.mp ?aR;omega
 . exact z
theorem Dz.pdvd{n w m E k:Nat}[?AD][?s6](hc:?OV)[?zX]:?iV∣ ?u0 :=
 h.dvdP hl hr hd fun s hi hs=>EU (m:=m) (fun a b hab hb=>by
  rcases qf7 a b with z | z
  . exact hc a b O9m z hb
  . rw[?V0 a b];exact qy1 _) k s hi hs
theorem bil_via{n n' w:Nat}{A A' U:Mat}(hU:∀a b,a<n'->b<w->A' a b=?UX (fun i=>U a i*A i b))(p q:?p):bil n' w A' p q=?VD (fun i=>Aj (fun a=>p a*U a i) n') q:=by
 unfold bil
 have e:∀a,a<n'->p a*?PV=?UX (fun i=>p a*U a i*?MO):=fun a ha=>by
  have e1:?PV=?UX (fun i=>U a i*?MO):=by
   rw[?W7 hU,Cr];exact Ai fun i _=>by rw[←Ax];exact Ai fun b _=>?j8
  ext T1
 rw[?hP,Cr];exact Ai fun i _=>by rw[←D5]
universe Lat
namespace Hb
open PySem L2
def Drawn(h w b0:Nat):Prop:=(h<=7/\w<=8/\b0=4)\/(h<=4/\w<=5/\b0=22)\/(h<=2/\w<=3/\b0=69)
structure Qp[?w](H:Hp)(tp nm r1 D1 D2 b2:Addr)(n w k:Nat)[?dD](l r:?j6):Prop where
 tup:SqT K H tp [?k nm,?k r1,?k D1,?k D2,?k b2]
 num:?UW nm (VI k f)
 left:?V3 (?k r1) (dT n n l.1)
 lback:?V3 (?k D1) (dT n n fun i j=>l.2 j i)
 right:?V3 (?k D2) (dT w w fun i j=>r.1 j i)
 rback:?V3 (?k b2) (dT w w r.2)
theorem Z0.r[?F][?T6][?dB][?T7]:?FB:=⟨x.tup,.of x.num,?xK,?u9,?z4,?yG⟩
theorem Qp.same[?F][?T6][?dB][?TA][?fS]:?FB:=⟨s.seqT x.tup,?nW x.num,?oF s ?xK,?oF s ?u9,?oF s ?z4,?oF s ?yG⟩
section
variable[?w]
universe e9
structure Sta where
 T:?cA
 f:?cA
 l:?cA
 lb:?cA
 r:?cA
 rb:?cA
def dot(x y:?p)(n:Nat):Int:=?UX (fun k=>x k*y k)
def dl(a b:Nat):Int:=if b=a then 1 else 0
structure Good(h w:Nat)(S:Sta):Prop where
 l1:∀r s,r<h->s<h->dot (S.l r) (S.lb s) h=dl r s
 l2:∀a b,a<h->b<h->Aj (fun k=>S.lb k a*S.l k b) h=dl a b
 r1:∀r s,r<w->s<w->dot (S.r r) (S.rb s) w=dl r s
 r2:∀a b,a<w->b<w->Aj (fun k=>S.rb k a*S.r k b) w=dl a b
 now:∀i j,i<h->j<w->S.f i j=dot (fun b=>dot (S.l i) (fun a=>S.T a b) h) (S.r j) w
def unit:?cA:=?DC
universe Hb
namespace Lat
open Hb
theorem sumN_fst(g:?p):∀n,?OZ=g 0+?CN
 | 0=>by show Aj g 0+g 0=_;show 0+g 0=g 0+0;omega
 | n+1=>by
   show ?OZ+g ?x=g 0+(?CN+g ?x)
   rw[?NR g n,Int.add_assoc]
def V2(A:Mat)(j:Nat):Mat:=fun r c=>A ?dL (if c<j then c else c+1)
theorem CH:∀(n:Nat) (A:Mat),det ?x A=?R8
 | 0,A=>rfl
 | n+1,A=>by
   have e:∀i j,i<n+1->j<n+1->?F8=?QK:=fun i j _ _=>Cs fun r c _ _=>by
    show A (if r+1<i+1 then r+1 else r+1+1) ((if c<j then c else c+1)+1)=A ((if r<i then r else r+1)+1) (if c+1<j+1 then c+1 else c+1+1)
    congr 1
    . split<;>split<;>omega
    . split<;>split<;>omega
   show Aj (fun i=>Rw i*A i 0*?W3 Fz i) (n+1+1)=_;rw[sumN_fst,?NR (fun j=>?LT*?W3 V2 j)];have e0:?W3 Fz 0=?W3 V2 0:=rfl;rw[e0]
   congr 1
   have l:Aj (fun i=>?O5*?W3 Fz ?H) ?x=Aj (fun i=>Aj (fun j=>?O5*(Rw j*A 0 ?U*?F8)) ?x) ?x:=Ai fun i _=>by
    rw[CH n,Ax];rfl
   have r:Aj (fun j=>?BU*?W3 V2 ?U) ?x=Aj (fun j=>Aj (fun i=>?BU*(Rw i*A ?H 0*?QK)) ?x) ?x:=Ai fun j _=>by
    rw[Ax];rfl
   rw[l,r,Cr];refine Ai fun j hj=>?vB;rw[e i j hi hj,Xf,Xf]
   grind
theorem S5:∀(n:Nat) (A:Mat),det n (fun r c=>A c r)=det n A
 | 0,_=>rfl
 | n+1,A=>by
   rw[CH n A];refine ?vB;rw[←S5 n (V2 A i)];rfl
def UT(n w:Nat)(A:Mat)(D:Nat):Prop:=∀(k:Nat) (r c:?q),(∀x,x<k->r x<n)->(∀y,y<k->c y<w)->(det k fun x y=>A ?h0 (c y)).natAbs<=D
theorem HC(k:Nat)(r:?q):(?MS)\/∀x y,x<k->y<k->r x=r y->x=y:=by
 by_cases h:?MS
 . exact ?g h
 . exact ?i fun x y hx hy e=>qo2 fun z=>h ⟨x,y,hx,hy,z,e⟩
theorem QA{k:Nat}(M:Mat)(s:?q){y0:Nat}(h0:y0<k):?Z0 ?OH ?IZ:=by
 by_cases z:y0=0
 . subst z
   congr 1
   exact Cs fun x y _ _=>by
    by_cases q:y=0
    . rw[?qK,q]
    . rw[?hA,?hA]
 rw[←S5 k ?IZ,←S5 k ?OH];have e:=FD (A:=?kF) (?TW 0 k) h0 (?OA) (?s4) (?zF)
 have e1:Bu (Bu ?l2 0 ?s4) y0 (?zF)=?kF:=by
  rw[show Bu ?l2 0 (?s4)=?kF from Gn ?l2 0];exact Gn ?l2 y0
 have e2:Bu (Bu ?l2 0 ?zF) y0 (?s4)=?GU:=by
  funext y x
  unfold Bu;by_cases q:y=y0
  . rw[?qK,?m,?qK]
  . rw[?hA];by_cases q2:y=0
    . rw[?n q2,?n q2]
    . rw[?h q2,?h q2,?hA]
 rw[e1,e2]at e;show ?Z0 ?GU ?kF;rw[e,qc4]
theorem Vq[?TD]:∀(k:Nat) (r s:?q),(∀x,x<k->r x<n)->(∀y,y<k->s y<w+n)->(det k ?JR).natAbs<=D
 | 0,r,s,hr,hs=>h 0 r s hr fun y hy=>O9m
 | k+1,r,s,hr,hs=>by
   rcases HC ?W r with⟨x,y,hx,hy,ne,e⟩ | inj
   . rw[?DY];ext cX
   by_cases z:∃y,y<k+1/\w<=s y
   . obtain⟨y0,hy,q⟩:=z;rw[←QA (?VO y) s hy]
     have first:∀s':?q,w<=s' 0->(∀y,y<k+1->s' y<w+n)->(det ?W ?NX).natAbs<=D:=fun s' h0 hs'=>by
      show(Aj (fun i=>Rw i*?N w A one (r i) (s' 0)*?I4) ?W).natAbs<=D;have ih:∀i,i<k+1->(?I4).natAbs<=D:=fun i hi=>Vq h k (fun x=>r (if x<i then x else x+1)) (fun y=>s' (y+1)) (fun x hx=>hr _ (by ext eC)) fun y hy=>hs' _ O9m
      have cell:∀x,?N w A one ?h0 (s' 0)=if r x=s' 0-w then 1 else 0:=fun x=>by
       unfold beside one;ext eA
      by_cases z:∃i,i<k+1/\r i=s' 0-w
      . obtain⟨i,hi,e⟩:=z
        rw[?a9 hi fun x hx ne=>by
         rw[cell,?h fun q=>ne (inj x i hx hi (q.trans ?yZ))];simp]
        rw[qb3,qb3,Wf,qf4,cell,?d4];show 1*_<=D;rw[qf4];exact ih i hi
      . rw[?b5 fun x hx=>by
         rw[cell,?h fun q=>z ⟨x,hx,q⟩];simp]
        ext cX
     exact first (fun y=>?U0 0) q fun y hy'=>hs _ (by split;omega;ext eC)
   . have e:det ?W (?JR)=det ?W fun x y=>A ?h0 (s y):=Cs fun x y _ hy=>?gT (qk6 fun q=>z ⟨y,hy,q⟩);rw[e];exact h ?W r s hr fun y hy=>qk6 fun q=>z ⟨y,hy,q⟩
theorem UT.dets[?TD]:?CJ:=fun i hi s hs=>Vq h i (fun x=>x) s (?FW) hs
theorem few{n k:Nat}{f:?q}(h:∀x,x<k->f x<n)(inj:∀x y,x<k->y<k->f x=f y->x=y):k<=n:=by
 rcases qf7 n k with z | z
 . obtain⟨x,h1,h2⟩:=BP n f (?XQ inj);have:=h x O9m;omega
 . exact z
theorem GX{n w B D:Nat}{A:Mat}(hA:∀i c,i<n->c<w->?KY<=B)(hD:∀i,i<=n->i<=w->cG i*B ^ i<=D):?IQ:=fun k r c hr hc=>by
 rcases HC k r with⟨x,y,hx,hy,ne,e⟩ | h1
 . rw[?DY];ext cX
 . rcases HC k c with⟨x,y,hx,hy,ne,e⟩ | h2
   . rw[←S5,Ez (A:=fun r' c'=>A (r c') (c r')) hx hy ne ?Q6];ext cX
   . exact qa5 (qA fun x y hx hy=>hA _ _ (hr x hx) (hc y hy)) (hD k (few hr h1) (few hc h2))
structure Ti(k w:Nat)(Q:Mat)(p:?q):Prop where
 zero:∀j c,?fN->j<w->c<p j->Q j c=0
 inc:∀i j,k<=i->i<j->j<w->p i<p j
 lt:∀j,?fN->j<w->p j<w
 pos:∀j,?fN->j<w->0<Q j ?f4
 red:∀i j,k<=i->i<j->j<w->0<=Q i ?f4/\Q i ?f4<Q j ?f4
theorem Qa.loops{n w r:Nat}[?sJ]{T Q:Mat}(h:Qa w (n+w) n r kt hd (?N n T Q)):Ti r w Q fun j=>kt j-n:=by
 have at':∀i j,?dR->j<w->Q i (kt j-n)=?N n T Q i ?fV:=fun i j h1 h2=>by
  have:=?GX;rw[←?FT n T Q i (kt j-n),show n+(kt j-n)=kt j by omega]
 refine⟨?HL,?FL,?H3,?H3,?FL⟩
 . rw[←?FT n T Q j c];exact ?l8 j _ h1 h2 O9m
 . have:=h.inc i j h1 h2 h3;have:=h.ge i h1 O9m;omega
 . have:=?VT h.lt;have:=?GX;omega
 . rw[at' j j h1 h2,?VT h.head];exact ?PR
 . rw[at' i j ?d h3,at' j j ?d h3,h.head j ?d h3];exact h.red i j O9m h2 h3
theorem Ti.congr{k w:Nat}{Q Q':Mat}{p:?q}(h:?v9)(e:∀j,?fN->Q' j=Q j):Ti k w Q' p :=
 ⟨fun j c h1 h2 h3=>by rw[e j h1];exact ?l8 j c h1 h2 h3,h.inc,h.lt,fun j h1 h2=>by rw[e j h1];exact ?PR,fun i j h1 h2 h3=>by rw[e i h1,e j ?d];exact h.red i j h1 h2 h3⟩
universe Lat
namespace Hb
open Lat
structure kE(n w b0 D π b β D2 π2 b2 β2 C1 C2 F:Nat):Prop where
 dπ:?zG
 nb:?JK
 wb:w*D<=?aU
 b0π:?zP
 πb:π<=b
 bβ:b<β
 nβ:?tR
 st:?JM
 π9:?r3
 d2:∀i,i<=n->i<=w->?tZ<=D2
 dπ2:D2<=?k2
 wb2:w*D2<=?xU
 bπ2:b<=π2
 πb2:π2<=b2
 bβ2:b2<β2
 wβ2:w+b<β2
 st2:∀i,i<w->?F1
 π92:?M8
 c1:∀r,r<=n->r<=w->?XZ π n<=C1
 c2:∀r,r<=n->r<=w->?XZ π2 w<=C2
 f1:?YN F
 f2:?YW F
 fb:F<=UO
section
variable{n w b0 D π b β D2 π2 b2 β2 C1 C2 F:Nat}{A:Mat}
def UF[?TB](m:Nat)(M:Mat)(l r:?cK):Prop:=∃(k:Nat) (e:Int) (kl kr:?q) (hl hr:?p),Rt n w k D π m e A M l.1 l.2 r.1 r.2 kl kr hl hr/\m<=?aE/\e<=D/\(∀j,?fN->j<n->hl j<=?bD)/\(∀j,?fN->j<w->hr j<=?k2) ∧
 ?a2 n n (?j7) l.1/\?a2 n n (?j7) l.2/\?a2 w w (?gY) r.1/\?a2 w w (?gY) r.2/\?nR/\?yK/\?vI
theorem yY[?RL]:Ru n w A ?M9 ?M9 (fun M l r=>∃m,?O6):=by
 have o0:∀b i j,?CY<=?aU:=fun b i j=>qa5 (xS i j) ql4;have hM:=AX (W:=n) hA fun i c _ _=>o0 b0 i c;refine⟨JF n w (?N w A one),Vk hM ?c2 ?i0 p.nb p.b0π (qa5 p.b0π p.πb) p.bβ p.nβ p.st ?pQ (S0 n w A),?BC,JF.lt,fun t1 s1 h1=>?_⟩;have hR:∀i c,i<w->c<n->((fun i j=>s1.1 j i) i c:Int).natAbs<=?aU:=fun i c hi hc=>qa5 (h1.rowD ?c2 ?y (fun c h=>h) hc (show i<w+n by omega)) p.nb;have hM2:=AX (W:=w) hR fun i c _ _=>o0 b i c;have JU:Oa w (fun c=>c<n+w) (?N n (tr s1.1) one) D2:=(GX hR fun i h1 h2=>p.d2 i h2 h1).dets;refine⟨JF w n (?N n (fun i j=>s1.1 j i) one),Vk hM2 JU p.dπ2 p.wb2 p.bπ2 (qa5 p.bπ2 p.πb2) p.bβ2 p.wβ2 p.st2 p.π92 (S0 w n _),?BC,JF.lt,fun t2 s2 h2=>?_⟩;have bb1:=Rp hM ?c2 (fun k a=>rfl) h1 ?y p.nb (qa5 p.b0π p.πb) p.bβ p.nβ;have bb2:=Rp hM2 JU (fun k a=>rfl) h2 ?y p.wb2 (qa5 p.bπ2 p.πb2) p.bβ2 p.wβ2;obtain⟨k,e,kn,kw,he,wk,hl,hr⟩:=GA (L:=π) ?c2 JU h1 h2
 have up:∀{x:Int}{a q:Nat},x<=a->a<=2 ^ q->x<=2 ^ q:=fun {x a q} h1 h2=>by
  exact qv4 h1 (by exact_mod_cast h2)
 have km:k*?e4<=?aE:=?BR;exact⟨k*?e4,k,e,_,_,_,_,wk,km,he,fun j _ h=>up (hl j h) ?i0,fun j _ h=>up (hr j h) p.dπ2,Lg (Vp bb1.1) ?nB,Lg bb1.2.1 ?nB,Lg (Vp bb2.1) ?nB,Lg bb2.2.1 ?nB,(N7.one n).go h1.good.pt,(N7.one w).go h2.good.pt,fun j c _ hj hc=>qa5 (h2.rowD JU ?y (fun c h=>h) hj (show n+c<n+w by omega)) p.wb2⟩
theorem YG(p:?NW){m:Nat}{M:Mat}{l r:?cK}(h:?O6)(ns:¬Straight n w M):Ru n w M l r (fun M' l' r'=>∃m',m'<m/\UF n w D π β π2 β2 b2 A m' M' l' r'):=by
 obtain⟨k,e,kl,kr,hl,hr,wk,hm,he,ηl,ηr,q1,q2,q3,q4,v1,v2,sp⟩:=h;obtain⟨lg,le⟩:=yG he ?i0 ?d8;have rn:=wk.going.sq.rn;have rw':=wk.going.sq.rw;have c1:=p.c1 k rn rw';have c2:=p.c2 k rn rw';ext S1
 have sC:∀C,(?aE-m)*C+C<=(?aE+1)*C:=fun C=>by
  rw[qf5,qf4];exact qq5 (?OO) _
 ext SY;have b1:?j7+Mb π b π k n<=big:=O9m
 have RI:?gY+Mb π b π2 k w<=big:=O9m
 have β1:?gU<=?j7:=by have:=p.πb;have:=p.bβ;omega
 have β1':π2+1<=?gY:=by have:=p.πb2;have:=p.bβ2;omega
 have tb:∀{n' w':Nat}{T:Mat}{x:Nat},?gU<=x->E5 n' w' k D e T->∀i c,i<n'->c<w'->?jN<2 ^ x:=fun {n' w' T x} hx g i c hi hc=>by
  obtain⟨g1,g2⟩:=g.le i c hi hc;have:?jN<=?bD:=O9m
  exact qc1 ?aR (?n3)
 have bl:=Vo (tb β1 ?lN) q1;refine⟨JL n w k (?N w M l.1) l.2 kl hl π b π (?j7),Vh ?lN ?d8 ?oJ wk.dl ηl β1 b1 ?i0 le p.nb p.πb ?pQ ?pQ,fun t=>?g ⟨?dA,?NC,wk.kl.bits ηl bl q2 β1⟩,JL.lt,fun t1 u1 j1=>?_⟩;obtain⟨⟨G1,K1⟩,_,_⟩:=JL.done rn j1 c1;obtain⟨d1,d2,d3,d4⟩:=Nj ?d8 ?lN ?oJ K1 wk.told;have z1:=o9 (G:=G1) ?d8 le ?lN d2 ?oJ d3 ?O0 q1;have z2:=Wu ?d8 le ?lN ?oJ ?O0 K1.st.st (fun j hj=>K1.tab j hj O9m) (?VW K1.ker) wk.dl q2;have ker:Qa w (n+w) n k kr hr (?V5 i):=wk.kr.table fun i c h1 h2 h3=>d2.sq.row0 i c h1 h2 h3;have dr:E7 w n (?V5 i) r.2:=Gj wk.dr;have hπ2:?gU<=?gY:=by have:=p.πb;have:=p.bπ2;omega
 have br:=Vo (tb hπ2 d2) q3;refine⟨JL w n k (?V5 i) r.2 kr hr π b π2 (?gY),Vh d2 ?d8 ker dr ηr β1' RI ?i0 le p.wb p.πb ?pQ p.π92,fun t=>?g ⟨?dA,?NC,ker.bits ηr br q4 β1'⟩,JL.lt,fun t2 u2 j2=>?_⟩;obtain⟨⟨G2,K2⟩,_,_⟩:=JL.done rw' j2 c2;obtain⟨_,nx⟩:=wk.next lg K1 K2;obtain⟨m0,wk'⟩:=nx ns;have k2:∀x c,x<w->c<n->tr u1.1 x c=bil w n (tr A) (r.1 x) ((?OG) c):=fun x c hx hc=>Tj (T:=u1.1) (P:=?OG) d4 x c hx hc;obtain⟨h1,h2,h3,h4⟩:=Nj ?d8 d2 ker K2 k2;have y1:=o9 (G:=G2) ?d8 le d2 h2 ker h3 ?z2 q3;have y2:=Wu ?d8 le d2 ker ?z2 ?CV (fun j hj=>K2.tab j hj O9m) (?VW K2.ker) dr q4
 have en:∀C,(?O9)*C=(?aE-m)*C+C:=fun C=>by
  rw[show ?O9=?aE-m+1 by omega,qf5,qf4]
 refine⟨m-1,O9m,k,e,kl,kr,hl,hr,wk',O9m,he,ηl,ηr,?_,?_,?_,?_,v1.go K1.st.good.pt,v2.go K2.st.good.pt,?HL⟩
 . rw[en,←qq6];exact z1
 . rw[en,←qq6];exact z2
 . rw[en,←qq6];exact y1
 . rw[en,←qq6];exact y2
 . show(u2.1 j (n+c)).natAbs<=_;rw[KO d2 ker ?z2 ?CV (fun j hj=>K2.tab j hj ?d) (?VW K2.ker) h1 h2 (n+c) ?d,beside_hi];exact sp j c h1 h2 h3
def YF[?TB](k d:Nat)[?dD](l r:?cK):Prop:=?QS/\d<=5*k+k*k/\BB n n ?p6 0 (β+?r4*?dE+d*(2*π+4)) l/\BB w w ?p6 0 (β2+?r4*?h7+d*?e4) r/\?nR/\?yK/\(?OF)/\?vI
structure ZM(n w D F b2:Nat)(A:Mat)(k:Nat)[?dD](l r:?cK):Prop where
 dg:?QS
 il:?nR
 ir:?yK
 bl:?a2 n n F l.1/\?a2 n n F l.2
 br:?a2 w w F r.1/\?a2 w w F r.2
 lo:?OF
 sp:?vI
theorem Ag9[?RL]:Z1 n w A (ZM n w D F b2 A):=by
 refine⟨UF n w D π β π2 β2 b2 A,YF n w D π β π2 β2 b2 A,yY p hA ?c2,fun m M l r h ns=>YG p h ns,?_,?_,?_⟩
 . rintro m M l r ⟨k,e,kl,kr,hl,hr,wk,hm,he,ηl,ηr,q1,q2,q3,q4,v1,v2,sp⟩ hS;have dg:=wk.diag hS;have sC:∀C,(?aE-m)*C<=?r4*C:=fun C=>?OO;ext SY;refine⟨k,?zO,oO ?nY _ (?QY) fun x h1 h2=>dg.zero x h1 O9m O9m,dg.mn,dg.mw,dg,?dA,⟨Lg q1 O9m,Lg q2 O9m,?NH⟩,⟨Lg q3 O9m,Lg q4 O9m,?NH⟩,v1,v2,⟨_,wk.kr.loops⟩,sp⟩
 . rintro k d i j f l r ⟨dg,hd,bl,br,v1,v2,⟨pl,lo⟩,sp⟩ hdk hij hj;have mn:=dg.mn;have mw:=dg.mw
   have lf:∀x,x<k->(f x).natAbs<=?bD:=fun x hx=>by
    have h1:=dg.le hx;have h2:=?nY x hx;exact qa5 O9m ?i0
   have kk:5*k+k*k<=5*?z+?z*?z:=by
    have h:k<=?z:=O9m
    have:=qf3 h h;omega
   ext S1
   have dm:∀X,d*X+X<=?UP X:=fun X=>by
    have:=qc0 X (show d+1<=5*?z+?z*?z+1 by omega);rw[qf5,qf4]at this;ext bL
   have d1:=dm (2*π+4);have d2:=dm ?e4;ext RY;ext SW;have b1:BB n n ?p6 0 (β+?aE*?dE+d*(2*π+4)+(1+1)) (addS i j 1 l):=bl.add O9m O9m (k:=1) (c:=1) ?aD;have lt1:∀{x:Nat},x<=?bD->x<2 ^ (?gU):=fun h=>qc1 h (?n3);refine⟨⟨⟨?PN,?XT ?jW⟩,⟨by have:=?nY j hj;omega,?XT ?l7⟩,⟨?lF bl O9m,?lF b1 O9m⟩,?lF br O9m⟩,fun pO=>⟨dg,O9m,bl.mono (by rw[qf5];omega),br.mono (by rw[qf5];omega),v1,v2,⟨pl,lo⟩,sp⟩,fun g a b' sh=>⟨?_,O9m,?_,?_,?_,?_,⟨pl,lo.congr ?w9⟩,fun x c h1 h2 h3=>?_⟩⟩
   . have:=dg.share hij hj sh;unfold zR RY XD addS blendS;simp only[qo5];ext bL
   . have lb:(?IC).natAbs<2 ^ (2*π+1):=by
      refine qc1 (qh2 _ _) ?_;rw[qb3];refine qc1 (qf3 (qa5 sh.lb ?jW) ?l7) ?_;rw[←qe4];ext AQ
     have RI:=b1.add (p:=j) (q:=i) O9m O9m (k:=-(?IC)) (c:=2*π+1) (by rw[qc4];exact lb);refine RI.mono ?_;rw[qf5,qf4];omega
   . have:=br.blend (p:=i) (q:=j) O9m O9m O9m (x:=a) (y:=b') (z:=-(f j / g)) (u:=f i / g) (c:=?gU) (lt1 (qa5 sh.la ?l7)) (lt1 (qa5 sh.lb ?jW)) (lt1 (by rw[qc4];exact qa5 (qh2 _ _) ?l7)) (lt1 (qa5 (qh2 _ _) ?jW));refine this.mono ?_;rw[qf5,qf4];omega
   . intro x y hx hy;rw[←v1 x y hx hy];exact(?YL j i).trans (?YL i j)
   . intro x y hx hy;rw[←v2 x y hx hy];exact DX _ _ (?TW i w) (?TW j w) O9m (sh.blend (π:=π) (?PN) ?jW ?l7).one x y
   . exact ?BX
   . have e:(RY i j g a b' f r).1 x=r.1 x:=?BX;rw[e];exact sp x c h1 h2 h3
 . rintro k d f l r ⟨dg,hd,bl,br,v1,v2,lo,sp⟩;have h:k<=?z:=?QY
   have kk:=qf3 h h;have f1:=p.f1;have f2:=p.f2;have dm:∀X,d*X<=?UP X:=fun X=>qc0 X O9m;ext RY;have d1:=dm (2*π+4);have d2:=dm ?e4;ext SW;exact⟨dg,v1,v2,(?YM bl.mono bl.mono),(?YM br.mono br.mono),lo,sp⟩
universe e9
universe Hb
namespace Lat
open Hb
def mulV(w:Nat)(A:Mat)(x:?p):?p:=fun i=>Aj (fun j=>A i j*x j) w
theorem FP(n w:Nat)(A:Mat)(p x:?p):?VD p x=?UX (fun a=>p a*?cH w A x a):=rfl
theorem qI{w:Nat}{Q QB:Mat}(h:?PW)(x:?p):∀c,c<w->x c=Aj (fun y=>?UY x y*Q y c) w:=bE (P':=fun _=>x) h 0
def numAt[?dD](k i:Nat):Int:=if i<k then f i else 0
section
variable[?TG][?fT]
universe e9
universe Lat
namespace Hb
open PySem L2
section
variable[?w]
universe e9
section
variable[?w]
universe e9
universe Hb
namespace Lat
open Hb
section
variable[?TG][?fT]
theorem RJ{u:?p}(hl:?FF)(hu:∀x,x<n->?EX=0):∀a,a<n->u a=0:=fun b hb=>by
 have e:?MC=u b:=by
  have:?MC=?UX (fun x=>Aj (fun a=>u a*(PB x b*P x a)) n):=Ai fun x _=>by
   rw[←Ax];exact ?XL ?hD
  rw[this,Cr]
  rw[?a9 hb fun a ha ne=>by
   rw[Ax];have:=hl b a hb ha;unfold pT at this;rw[this,?h fun q=>ne ?oW,qc7]]
  rw[Ax];have:=hl b b hb hb;unfold pT at this;rw[this,?r,qk0]
 rw[←e];exact ?X9 hu
theorem Dz.spare(h:?KK)(hl:?FF){y:Nat}(h1:k<=y)(h2:y<w):∀x,x<n->?cH w A (Q y) x=0 :=
 RJ hl fun x hx=>by
  have:=?jD x y hx h2;rw[FP]at this;rw[this];by_cases z:x=y
  . rw[?a1,z];exact ?l8 y h1 O9m h2
  . rw[?bR]
theorem Dz.madeS(h:?KK)(hr:?E5)[?m8](hv:∀x,x<n->?cH w A v x=0):∀c,c<w->v c=Aj (fun i=>?w0*?mI) ?iO:=fun c hc=>by
 have mw:=h.mw;have mn:=h.mn
 have z:∀y,y<k->?sX=0:=fun y hy=>by
  have e1:?QB=0:=by
   rw[FP];exact ?X9 hv
  have e2:?QB=f y*?sX:=by
   rw[P3 (p':=P y) (q':=fun c=>Aj (fun u=>?UY v u*Q u c) w) ?bI (fun b hb=>qI hr v b hb),bil_flip,Td];rw[?a9 (?TW y w) fun u hu ne=>by rw[←bil_flip,?jD y u ?d hu,?h fun q=>ne ?oW,qc7]];rw[←bil_flip,?jD y y ?d ?d,?r,qe8]
  rw[e2]at e1;have p:=?hX y hy;rcases qr2.mp e1 with q | q
  . omega
  . exact q
 rw[qI hr v c hc]
 have sp:∀d,k+d<=w->?QO=Aj (fun i=>?w0*?mI) d:=fun d=>by
  induction d with
  | zero=>intro _;exact ?b5 fun y hy=>by rw[z y hy,qg4]
  | succ d ih =>
    intro hd;have i1:=?iQ;show ?QO+?UY v (k+d)*Q (k+d) c=_;rw[i1];rfl
 have:=sp ?iO O9m;rw[show k+?iO=w by omega]at this;ext bL
universe e9
section
variable{n w m i:Nat}{d v:?p}{A:Mat}
universe e9
universe Lat
namespace Hb
open Lat
def oH(n w b0 π b β π2 b2 β2 C1 C2 F:Nat):Bool :=
 (?o (n*?bD<=?aU/\w*?bD<=?aU/\?zP/\π<=b/\b<β/\?tR)&&(Zt n (?WE ?o (?R4))&&(?o (?r3) &&
 (Zt (?z+1) (?WE ?o (?tZ<=?k2))&&(?o (w*?k2<=?xU/\b<=π2/\π2<=b2/\b2<β2/\w+b<β2)&&(Zt w (?WE ?o (?F1))&&(?o (?M8) &&
 (Zt (?z+1) (fun r=>?o (?XZ π n<=C1/\?XZ π2 w<=C2)) &&
 ?o (?YN F/\?YW F/\F<=UO)))))))))
theorem OG{n w b0 π b β π2 b2 β2 C1 C2 F:Nat}(h:oH n w b0 π b β π2 b2 β2 C1 C2 F=true):?WB (?bD) (?k2):=by
 unfold oH at h;simp only[qd2,qp7]at h;obtain⟨⟨h2,h3,h4,h5,h6,h7⟩,h8,h9,k1,⟨k2,k3,k4,k5,k6⟩,k7,k8,k9,m1,m2,m3⟩:=h
 exact⟨?a5,h2,h3,h4,h5,h6,h7,fun i hi=>qe3 (Kx h8 i hi),h9,fun i h1 h2=>qe3 (Kx k1 i O9m),?a5,k2,k3,k4,k5,k6,fun i hi=>qe3 (Kx k7 i hi),k8,
  fun r hr hw=>(qe3 (Kx k9 r O9m):_/\_).1,fun r hr hw=>(qe3 (Kx k9 r O9m):_/\_).2,m1,m2,m3⟩
universe Hb
namespace Lat
open Hb
def LF:(?q)->?q
 | _,0=>1
 | B,n+1=>B 0*?kB
theorem Vn:∀{n:Nat}{A:Mat}{B:?q},(∀r c,r<n->c<n->(A r c).natAbs<=B r)->(det n A).natAbs<=cG n*?tT
 | 0,A,B,_=>by show(1:Int).natAbs<=1*1;decide
 | n+1,A,B,h=>by
   rw[CH]
   have e:(?R8).natAbs<=?x*(B 0*(cG n*?kB)):=Oe fun j hj=>by
    have d:=Vn (n:=n) (A:=V2 A j) (B:=?uZ) fun r c hr hc=>by
     unfold V2;exact h ?dL _ O9m (by ext eC)
    rw[qb3,qb3]
    have s:(Rw j).natAbs=1:=by
     unfold Rw;split<;>rfl
    rw[s,qf4];exact qf3 (h 0 j O9m hj) d
   refine qa5 e (qm4 ?_);show ?x*(B 0*(cG n*?kB))=(?x*cG n)*(B 0*?kB)
   grind
theorem SJ(B:?q):∀n,LF (fun r=>2*B r) n=2 ^ n*?tT:=fun n=>by
 induction n generalizing B with
 | zero=>rfl
 | succ n ih =>
   show 2*B 0*LF (fun r=>2*B ?dL) n=?r8*(B 0*?kB);rw[ih ?uZ,qh3]
   grind
theorem SK{B:?q}:∀{n:Nat},(∀r,r<n->0<B r)->0<?tT:=fun {n} h=>by
 induction n generalizing B with
 | zero=>exact Nat.one_pos
 | succ n ih=>exact Nat.mul_pos (h 0 O9m) (ih fun r hr=>h ?dL O9m)
theorem oA[?fT]:∀{n:Nat},(?xJ).natAbs=LF (fun r=>(f r).natAbs) n:=fun {n}=>by
 induction n generalizing f with
 | zero=>rfl
 | succ n ih =>
   have e:∀m,?BY=f 0*?CH:=fun m=>by
    induction m with
    | zero=>show 1*f 0=f 0*1;omega
    | succ m im =>
      show ?BY*f ?dW=f 0*(?CH*f ?dW);rw[im,qd4]
   rw[e n,qb3,ih];rfl
section
variable[?TC]
theorem Ti.stair{k w:Nat}{Q:Mat}{p:?q}(h:?v9):Dc w ?iO (?WE Q ?aP) (?WE p ?aP) :=
 ⟨fun j hj=>h.lt ?d6 O9m O9m,?W6 h.inc,fun j c hj hc=>?l8 ?d6 c O9m O9m hc,fun j hj=>?hX ?d6 O9m O9m,?W6 h.red⟩
theorem dJ(st:?vP)(hB:?QL){r c:Nat}(hr:r<z)(hc:c<w):B ?gL c=Aj (fun k=>L k ?gL*T k c) ?dL:=by
 rw[hB _ _ (?g3 r hr) hc];exact Me O9m fun k h1 h2=>by rw[?q1 k _ h2 (?jQ r k ?d h2),qg4]
theorem iM[?zT]{i c:Nat}(hi:i<z)(hc:c<w):?jN<=?n2*2:=by
 refine v6 (R:=L) (B:=T) (t:=p) (a:=c) (i:=z) ⟨fun j k _=>?jQ j k,?I1,?QQ,fun k j _=>?pT k j⟩ (?jZ) i hi;rw[show Aj (fun k=>T k c*L k ?f4) z=B ?f4 c by rw[hB _ _ (?g3 j hj) hc];exact Ai fun k _=>?v7];have:=?JH;exact qa5 (b2 _ _ (?g3 j hj) hc) (?vY)
theorem mV[?zT]:∀i,i<=z->∀s:?q,(∀l,l<i->s l<w+z)->(det i ?KF).natAbs<=?K2:=fun i hi s hs=>by
 let Z:Mat:=?KF
 let V:Mat:=fun r l=>?F0
 have e:det i V=?T (fun j=>L j ?f4) i*?IB:=BD (T:=fun r j=>?zN) (fun r c _ _=>rfl) i ?y
 have e2:?IB=det i Z:=Cs fun r c hr _=>by
  show(if r<i then Z r c else V r c)=Z r c;rw[?n hr]
 rw[e2]at e
 have vle:∀r l,r<i->l<i->(?rS).natAbs<=2*?uC:=fun r l hr hl=>by
  have pr:=?P1;by_cases c1:s l<w
  . have:?rS=B ?gL (s l):=by
     rw[dJ st hB ?d c1];exact Ai fun j _=>by show ?zN*?QW=_;rw[?gT c1]
    rw[this];exact qa5 (b2 _ _ (?g3 r O9m) c1) O9m
  . have zv:∀j,Z j l=if j=?gM then 1 else 0:=fun j=>by
     show ?QW=_;unfold beside;rw[?h c1];rfl
    by_cases c2:?gM<r+1
    . have:?rS=L (?gM) ?gL:=by
       show ?F0=_;rw[?a9 c2 fun j _ ne=>by rw[zv,?eU,qc7],zv,?r,qk0]
      rw[this];rcases qf7 (?gM) r with q | q
      . obtain⟨r1,r2⟩:=?pT (?gM) r q O9m;omega
      . rw[?V0 ?gM r];omega
    . have:?rS=0:=?b5 fun j hj=>by rw[zv,?m,qc7]
      rw[this];ext cX
 have big:=Vn (B:=fun r=>2*?uC) vle;rw[e,qb3,oA,SJ]at big;have pos:0<?F2:=SK fun r hr=>by have:=?P1;omega
 refine qs3 (c:=?F2) ?_ pos;refine qa5 big (qm4 ?_)
 grind
universe e9
structure Lev(q m z:Nat)(D L G:Mat):Prop where
 st:∃p,?vP
 du:∀i j,i<z->j<z->Aj (fun c=>G i c*L j c) m=?D4
 cyc:∀i,i<z->?VN (L i)
 all:∀v:?p,(?VN v)->∀c,c<m->v c=Aj (fun i=>Aj (fun a=>?gQ*v a) m*L i c) z
def gT(m:Nat)(G B:Mat):Mat:=fun i c=>?FR
section
variable{q m z w:Nat}{D L G B:Mat}
theorem Lev.first(m:Nat)(D:Mat):Lev 0 m m D one one:=by
 have d:∀i j,i<m->j<m->Aj (fun c=>one i c*one j c) m=?D4:=fun i j hi hj=>by
  rw[?a9 hi fun k _ ne=>?BL];ext aT;ext m2;by_cases z:i=j
  . rw[?a1,?n ?bC]
  . rw[?bR,?h fun y=>z y.symm]
 refine⟨⟨fun i=>i,fun j hj=>hj,fun j k h _=>h,fun j c _ hc=>?dP,fun j _=>by show 0<one j j;ext aT;rw[?r];decide,fun k j hk _=>?_⟩,d,fun i _ x hx=>O9m,fun v _ c hc=>?_⟩
 . show 0<=one k j/\one k j<one j j;ext aT;rw[?m,?r];decide
 . rw[?a9 hc fun i hi ne=>by
    show _*one i c=0;ext aT;rw[?eU,qc7]]
   show v c=Aj (fun a=>one c a*v a) m*one c c;rw[?a9 hc fun a _ ne=>?BL];ext aT;rw[?r,qd1,qk0]
theorem Lev.told[?S5]:∀a c,a<m->c<w->?fC=Aj (fun i=>L i a*gT m G B i c) z:=fun a c ha hc=>by
 rw[h.all (fun a=>?fC) (tw c hc) a ha];exact Ai fun i _=>?v7
theorem yW(m w:Nat)(G B:Mat)(v:?p)(i:Nat):?t9=Aj (fun a=>?gQ*?cH w B v a) m:=by
 have e1:?t9=Aj (fun c=>Aj (fun a=>?gQ*?fC*v c) m) w:=Ai fun c _=>by
  show ?FR*v c=_;rw[←D5]
 rw[e1,Cr]
 exact Ai fun a _=>by
  show Aj (fun c=>?gQ*?fC*v c) w=?gQ*Aj (fun c=>?fC*v c) w;rw[←Ax];exact Ai fun c _=>?j8
theorem Lev.next{E k:Nat}[?fT]{P PB Q QB:Mat}{p:?q}[?S5](dg:Dz z w k E (gT m G B) P PB Q QB f)(il:N7 z (P,PB))(ir:?E5)(lo:?v9) :
 Lev m w ?iO B (?WE Q ?aP) (?WE QB ?aP):=by
 have tl:=?oY tw;have mw:=dg.mw;refine⟨⟨_,lo.stair⟩,fun i j hi hj=>?_,fun i hi x hx=>?_,fun v hv c hc=>?_⟩
 . have:=dg.dr ?d6 ?aP O9m O9m;unfold pD at this;rw[show Aj (fun c=>?DQ*Q ?d6 c) w=Aj (fun c=>Q ?d6 (0+c)*?DQ) w from Ai fun c _=>by rw[qu9,qe8],this];by_cases z:i=j
   . ext sE
   . ext sD
 . have t0:=dg.spare il (y:=k+i) O9m O9m
   have e:?GM=Aj (fun a=>L a x*?cH w (gT m G B) (Q ?aP) a) z:=by
    have e1:?GM=Aj (fun c=>Aj (fun a=>L a x*?I8*?mI) z) w:=Ai fun c hc=>by
     rw[tl x c hx hc,←D5]
    rw[e1,Cr]
    exact Ai fun a _=>by
     show _=L a x*Aj (fun c=>?I8*?mI) w;rw[←Ax];exact Ai fun c _=>?j8
   rw[e];exact ?XA t0
 . have t0:∀i,i<z->?t9=0:=fun i _=>by
    rw[yW];exact ?XA hv
   rw[dg.madeS ir t0 c hc];exact Ai fun i _=>by rw[show ?w0=Aj (fun a=>?QT*v a) w from ?XL ?v7]
universe e9
section
variable{q m z w k E:Nat}{D L G B P PB Q QB:Mat}[?fT]
def turnL(z:Nat)(P L:Mat):Mat:=fun i c=>Aj (fun j=>P i j*L j c) z
universe e9
universe Lat
namespace Hb
open Lat
def kB(n:Nat):Nat:=?GS (?z1)+1
def OX(f:?q):?q
 | 0=>f 0
 | n+1=>max (f ?x) (OX f n)
def kP(b i:Nat):Nat:=max b (?GS (?tZ)+1)
def kS(n w:Nat):Nat:=?zQ+6
def bookF:Nat:=26500000
def Ao4(n w:Nat):Bool:=oH n w ?x ?n1 ?qC (kB n+n+8) (?zQ) (kS n w) (kS n w+w+2) (?XJ ?n1 n) (?XJ (?zQ) w) ?cB
theorem UN:(Zt 41 fun n=>Zt (41-n) fun w=>Ao4 n w)=true:=?D
theorem YY:∀{i n:Nat},i<=n->?K2<=?z1:=fun {i n} h=>by
 induction n with
 | zero=>rw[?V0 i 0];exact ?a5
 | succ n ih =>
   by_cases e:i=n+1
   . rw[e];exact ?a5
   . refine qa5 (?iQ) ?_;show ?z1<=?x*cG n*?r8;exact qf3 (qm7 _ O9m) (?w3)
theorem MU[?TC][?zT](h:z+w<=40):Z1 z w T (ZM z w (2 ^ kB z) ?cB (kS z w) T):=by
 have P:=OG (Kx (Kx UN z O9m) w O9m);refine Ag9 P (fun i c hi hc=>?_) fun i hi s hs=>?_
 . refine qa5 (iM st hB b2 hi hc) ?_;rw[←qh3];exact ?w3
 . refine qa5 (mV st hB b2 i hi s hs) (qa5 (YY hi) ?_);exact qd9 Nat.lt_log2_self
universe Hb
namespace Hb
open PySem L2
noncomputable abbrev Ms:=?LN
def nd(ms:Ms):Prop:=(?a6 (·.1)).Nodup
def nz(ms:Ms):Prop:=∀p∈ms,p.2≠0
def Ix(ms:Ms)(k n:Int):Ms:=if ?hG=0 then ?dF else putI ms k (?hG)
def Gg(ms ns:Ms):Ms:=ns.foldl (fun acc p=>Ix acc p.1 p.2) ms
def Tk(n:Int)(ms:Ms):Ms:=if n=0 then [] else ?W0 n
def Rq(ms:Ms):Ms:=?Y4 ms.filter (p.2≠0)
theorem Uc[?sU](h:?y6=?c v):?p3∈ms:=by
 induction ms with
 | nil=>simp[Cu]at h
 | cons p ms ih =>
   rw[Dd]at h;by_cases e:?f6
   . rw[?d4]at h;have:p=?p3:=by cases p;simp_all
     rw[this];exact ?kW
   . rw[?d3]at h;exact ?WD (ih h)
theorem lS{ms:Ms}{k:Int}(h:k ∉ ?a6 (·.1)):?CZ:=by
 cases e:Cu ms k with
 | none=>rfl
 | some v=>exact ?I (qm6 (f:=(·.1)) (Uc e)) h
theorem eS[?cT]{p:?aO}(hp:p∈ms):Cu ms p.1=?c p.2:=by
 induction ms with
 | nil=>cases hp
 | cons q ms ih =>
   rw[Dd];ext lZ;rcases ?fG hp with rfl | hp
   . rw[?r]
   . have:¬q.1=p.1:=fun z=>h.1 (by rw[z];exact qm6 (f:=(·.1)) hp);rw[?zD];exact ih h.2 hp
theorem Mv{ms:Ms}{k:Int}(h:k ∉ ?a6 (·.1)):?bB=0:=by unfold C0;rw[lS h];rfl
theorem Mw(p:?aO)(ms:Ms)(k:Int):C0 ?qE k=if ?f6 then p.2 else ?bB:=by
 unfold C0;rw[Dd];split<;>rfl
theorem PD:∀(l1 l2:?e),l1.Nodup->(∀x∈l1,x∈l2)->l1.length<=l2.length
 | [],l2,_,_=>?dA
 | x::l1,l2,h,hs=>by
   rw[qj2]at h;have hx:=hs x ?Z
   have:=PD l1 (l2.erase x) h.2 fun y hy=>by
    have ne:y≠x:=fun z=>h.1 (z▸hy);exact(List.mem_erase_of_ne ne).mpr (hs y (?WD hy))
   have e:=List.length_erase_of_mem hx;have:0<l2.length:=List.length_pos_of_mem hx;rw[qc9];omega
theorem tM[?cT](k:Int):nd (?dF):=by
 unfold nd Ho at *;ext SK
theorem tH[?sT](k:Int):nz (?dF):=fun p hp=>h p (?rW hp).1
theorem Wp{ms:Ms}{k:Int}:?BK↔k∈?a6 (·.1):=by
 rw[qo3,qd7];constructor
 . ext SJ
 . ext SJ
theorem yD[?cT](k v:Int):nd ?mC:=by
 unfold nd putI at *;split
 . rw[ql5]
   have e:((fun p:?aO=>p.1) ∘ fun p:?aO=>?w1)=(·.1):=by
    funext p
    simp only[Function.comp];split<;>rfl
   rw[e];exact h
 . rename_i hn
   rw[Wp]at hn;rw[qb8,qx4];refine⟨h,?jU,fun a ha b hb e=>?_⟩;have:b=k:=by simpa using hb
   exact hn (by rw[←this,←e];exact ha)
theorem JN[?sU]{p:?aO}(hp:p∈?rB):p∈ms\/p=?p3:=by
 unfold putI at hp;split at hp
 . obtain⟨q,hq,e⟩:=?q8;by_cases z:q.1=k
   . rw[?a1]at e;right;rw[←e,z]
   . rw[?bR]at e;left;rw[←e];exact hq
 . rcases ?lD hp with h | h
   . exact ?g h
   . exact ?WL ?i
theorem tT(ms:Ms)(k v:Int):?WY ?rB ?C2:=by
 unfold putI;split
 . rw[qa3];omega
 . rw[qa9];simp
theorem pF(ms:Ms)(k:Int):?WY ?dF ms.length:=qf8 ..
theorem XT[?sT]{k v:Int}(hv:v≠0):nz ?mC:=fun p hp=>by
 rcases JN hp with q | q
 . exact h p q
 . rw[q];exact hv
theorem OV[?cT](k n:Int):nd ?jL:=by unfold Ix;split;exact tM h k;exact yD h k _
theorem OO[?sT](k n:Int):nz ?jL:=by
 unfold Ix;split
 . exact tH h k
 . rename_i q;exact XT h q
theorem bY(ms:Ms)(k n:Int):?WY ?xB ?C2:=by
 unfold Ix;split
 . have:=pF ms k;omega
 . exact tT ..
theorem JS(ms:Ms)(k n j:Int):C0 ?jL j=if j=k then ?mT+n else ?mT:=by
 unfold Ix;split
 . rename_i q
   unfold C0 at *;rw[GZ];by_cases e:j=k
   . subst e;ext aZ
   . simp[e]
 . unfold C0 at *;rw[lR];by_cases e:j=k
   . subst e;simp
   . simp[e]
theorem JH:∀(ns ms:Ms),?dV->nz ms->nd ns->nd ?hN/\nz ?hN/\?MX/\∀j,C0 ?hN j=?mT+C0 ns j
 | [],ms,h1,h2,_=>⟨h1,h2,?E9,fun j=>by simp[Gg,C0,Cu]⟩
 | p::ns,ms,h1,h2,h3=>by
   unfold nd at h3;rw[qc8,qj2]at h3;obtain⟨r1,r2,r3,r4⟩:=JH ns (Ix ms p.1 p.2) (OV h1 _ _) (OO h2 _ _) h3.2;refine⟨r1,r2,?_,fun j=>?_⟩
   . have:=?EZ;ext SL
   . show C0 (?EH) j=_;rw[r4,JS,Mw];by_cases e:j=p.1
     . have:=Mv h3.1;subst e;simp[this]
     . have e':¬p.1=j:=?VK e;simp[e,e']
theorem Ai5[?cT]:nd (Rq ms):=by
 unfold nd Rq at *;ext SK
def inK(ms:Ms):Prop:=∀p∈ms,?y4/\p.1<40
theorem GW[?cT](n:Int):nd (?W0 n):=by
 unfold nd at *;rw[ql5];exact h
theorem ES:∀(ns ms:Ms),?MX
 | [],ms=>?E9
 | p::ns,ms=>by
   have h1:=ES ns (Ix ms p.1 p.2);have h2:=?EZ;ext SL
theorem LG{ms ns:Ms}{i:Nat}[?m4](h:ns[i]?=?dG):Gg ms (ns.take ?H)=Ix (Gg ms (ns.take i)) q.1 q.2:=by
 unfold Gg;rw[qs7,h,qt0];rfl
theorem MO{ms:Ms}{i:Nat}[?m4](hq:ms[i]?=?dG):Rq (ms.take ?H)=if q.2=0 then Rq (ms.take i) else Rq (ms.take i)++[q]:=by
 unfold Rq;rw[qs7,hq,qg1];by_cases e:q.2=0<;>simp[e]
theorem tU(ms:Ms):(Rq ms).length<=ms.length:=qf8 ..
section
variable{H H1:Hp}{a:Addr}[?sU]
theorem jU(rd:?yB):?NZ:=?VZ k
theorem uF(h:H a=?e3)(hl:?NI):ZO H a (?b8) (?f v) (upd H a (.dK (cK ?mC))):=by
 rw[←IK];exact ?g ⟨?c4,?g k,h,rfl,by unfold cK;rw[qa3];exact ?iW hl,rfl⟩
theorem Zn{i:Nat}{kk:Key}{x:V}(h:(?c4)[i]?=?c (kk,x)):∃p:?aO,ms[i]?=?kM/\kk=?g p.1/\x=?f p.2:=by
 unfold cK at h;rw[qb2]at h;cases e:ms[i]? with
 | none=>rw[e]at h;cases h
 | some p =>
   rw[e]at h;have:=qb6 h;simp only[Prod.mk.injEq]at this;exact⟨p,rfl,this.1.symm,this.2.symm⟩
theorem Rr:?WX ?c4 ms.length:=by unfold cK;rw[qa3]
theorem wU{o:HO}(h:H a=?cE):upd H a o=H:=by
 funext b
 by_cases e:b=a
 . rw[e,Ab,h]
 . rw[An e]
theorem eZ{x:HO}{D:Addr}(h:(upd H a x) D=none):?bT/\D≠a:=by
 have n:D≠a:=fun z=>by rw[z,Ab]at h;cases h
 rw[An n]at h;exact⟨h,n⟩
theorem SD{o:HO}{b:Addr}(s:?rM)(h:Rd H b o):Rd H1 b o:=by
 rcases h with h|⟨q,h⟩
 . exact ?g (s _ _ h)
 . exact ?i ⟨q,s _ _ h⟩
universe e9
theorem put_new[?sU](h:k ∉ ?a6 (·.1)):?rB=ms++[?p3]:=by
 unfold putI;rw[?h (fun z=>h (Wp.mp z))]
def xV(H:Hp)(ms:Ms)(Q:V->?M):Prop:=∀[?iG],?bT->?a3->?dU=?e3->?bO
section
variable[?w]
def Pn[?m9]:Sp:=fun vs H Q _=>l9 fun ?dO ?f8 (k n:Int)=>B4 (vs=[?P,?b8,?b7]) (H a=?e3) (?NI) (Q ?eR (upd H a (.dK (cK ?jL))))
def JC[?m9]:Sp:=fun vs H Q _=>l9 fun ?eQ (ms ns:Ms)=>Hn ?nC (?yB) (H b=?UI ns) ?lP (ns.length<=1000) (xV H ?hN Q)
def dM[?m9]:Sp:=fun vs H Q _=>N8 fun ?C ?dO ?f8=>En (vs=[?b7,?P]) (H a=?e3) ?lP ((∀p∈ms,?lL n p.2)) (xV H ?JC Q)
universe e9
universe Hb
namespace Hb
def Nw(t f:Int):Int:=if f=t then t+1 else if f=t+1 then t else f
def Gf(ys:LLInt)(t:Nat):LLInt:=?pY++[?lK,?mR]++ys.drop (t+2)
def Jl(ys:LLInt)(t:Nat):LLInt:=?HW ?JZ
def Vt(t k:Nat):Nat:=if k=t then t+1 else if k=t+1 then t else k
theorem Wc(t k:Nat):Nw ?hR ?b4=(?lO:Nat):=by
 unfold Nw Vt;by_cases a:k=t
 . rw[?a4,?n a];omega
 . by_cases b:k=t+1
   . rw[?m,?a4,?h a,?n b]
   . rw[?m,?m,?h a,?h b]
theorem RV(t k:Nat):Vt t (?lO)=k:=by
 unfold Vt
 repeat' split
 all_goals omega
theorem KW[?fQ](k:Nat):(?k0)[k]?=?R6:=by
 unfold Gf Vt;have e1:?lK=ys[t+1]:=by rw[qa1,?gD];rfl
 have e0:?mR=ys[t]:=?Q1
 rw[e1,e0,qj9];have lt:?WX ?pY t:=by rw[qd3];omega
 by_cases a:k<t
 . rw[?zC,qi3,?n a,?m,?m]
 . rw[?gV,lt];by_cases b:k=t
   . subst b;rw[?r,qh6];exact(?gD).symm
   . by_cases c:k=t+1
     . subst c;rw[?h b,?r,show t+1-t=1 by omega];exact(?gE).symm
     . rw[?h b,?h c];rw[qb9 (by ext aZ),qs0]
       congr 1
       ext aZ
theorem Tr[?fQ](k:Nat):?i2[k]?=(?R6).map ?JZ:=by
 unfold Jl;rw[qb2,KW h]
theorem dH[?eD]{t:Nat}(hs:Ci ys)(h:?qP)(hm:?K3):Ci ?i2:=by
 intro k p' Sr;rw[Tr h]at Sr;cases e:ys[Vt t k]? with
 | none=>rw[e]at Sr;cases Sr
 | some p =>
   rw[e]at Sr;have hp:?NP=p':=qb6 Sr;subst hp;have F:=hs _ _ e
   have face:∀f∈p,∃(m:Nat) (q:?e),f=?c0/\?wC/\lev q+1=lev p/\?DV:=by
    intro f hf;obtain⟨q,hq,hl⟩:=?mD;have f0:=?JV;obtain⟨m,rfl⟩:=qi1 f0;rw[qd6,qi3]at hq;split at hq
    case isFalse=>cases hq
    case isTrue hlt =>
     refine⟨m,q,rfl,hq,hl,?_⟩
     have hk:k=t->m≠t:=by
      rintro rfl z;subst z;apply hm;have:Vt m m=m+1:=by simp[Vt]
      rw[this]at e;rw[qa1,e];exact hf
     unfold Vt at hlt ⊢
     repeat' split at hlt
     all_goals repeat' split
     all_goals first | omega | (have:=hk (by assumption);omega)
   have look:∀(m:Nat) (q:?e),?wC->?DV->((?nD).take k)[(Nw ?hR ?c0).toNat]?=?c (q.map ?lG):=by
    intro m q hq hlt;rw[Wc,qd6,qi3,?n hlt,Tr h,RV,hq];rfl
   refine⟨by simpa using F.cnt,?D9,?D9,fun h3 i j f' g' q' r' hij hj hi hq' hr'=>?_⟩
   . obtain⟨f,hf,rfl⟩:=?aF hf';obtain⟨m,q,rfl,_⟩:=?EV;rw[Wc];omega
   . obtain⟨f,hf,rfl⟩:=?aF hf';obtain⟨m,q,rfl,hq,hl,hlt⟩:=?EV;refine⟨_,?C6,?_⟩;unfold lev at *;rw[qa3,qa3];exact hl
   . rw[qb2]at hj hi;cases ej:p[j]? with
     | none=>rw[ej]at hj;cases hj
     | some f =>
       cases ei:p[i]? with
       | none=>rw[ei]at hi;cases hi
       | some g =>
         rw[ej]at hj;rw[ei]at hi;cases hj;cases hi;obtain⟨m,q,rfl,hq,_,hlt⟩:=?c8 f ?M5;obtain⟨n,r,rfl,hr,_,A54⟩:=?c8 g ?ET;rw[?C6]at hq';rw[look n r hr A54]at hr';cases hq';cases hr'
         have below:∀(m:Nat) (q:?e),?c0∈p->?wC->(?qX (?lO))[((m:Nat):Int).toNat]?=?dG:=by
          intro m q hm' hq;obtain⟨q2,hq2,_⟩:=F.bel _ hm';rw[qd6]at hq2 ⊢;rw[qi3]at hq2 ⊢;split at hq2
          case isFalse=>cases hq2
          case isTrue z=>rw[?a1];exact hq
         have:=F.agr (by simpa using h3) i j _ _ q r hij ej ei (below m q ?M5 hq) (below n r ?ET hr);rw[qb2,qb2,this]
universe Hb
namespace Hb
open PySem L2
def iY(os:?e)(t:Nat):?e:=os.take t++[os.getD ?dN 0,os.getD t 0]++os.drop (t+2)
theorem q9[?fQ]:?WX ?k0 ys.length:=by
 unfold Gf;simp only[qa9,qd3,qh9,qc9,qm1];omega
theorem Tq[?fQ]:?WX ?nD ys.length:=by
 unfold Jl;rw[qa3,q9 h]
theorem kW{os:?e}{t:Nat}(h:t+1<os.length):(iY os t).length=os.length:=by
 unfold iY;simp only[qa9,qd3,qh9,qc9,qm1];omega
inductive Turned[?O]:?YG LLInt ?e
 | refl:?xV xs xs (WU ?s)
 | step [?eD]{os:?e} (t:Nat):?nM->?qP->?K3->?xV xs ?i2 (iY os t)
theorem Turned.len[?lV]:ys.length=xs.length/\os.length=xs.length:=by
 induction h with
 | refl=>exact⟨rfl,bD _⟩
 | step t h1 h2 _ ih=>exact⟨(Tq h2).trans ih.1,(kW O9m).trans ih.2⟩
theorem Turned.shape[?lV][?aY]:Ci ys:=by
 induction h with
 | refl=>exact hs
 | step t h1 h2 h3 ih=>exact dH ih h2 h3
theorem Gh{α:Type}{l:?X α}{i:Nat}{d:α}:?DG∈l\/?DG=d:=by
 rw[qa1];by_cases h:i<l.length
 . rw[?gD];exact ?g (qe5 h)
 . rw[qf9 ?d];exact ?i rfl
theorem AB[?eD]{t:Nat}{p:?e}(h:p∈?k0):p∈ys\/p=[]:=by
 unfold Gf at h;simp only[ql3,qc5,List.not_mem_nil,or_false]at h;rcases h with(h | h | h) | h
 . exact ?g (List.mem_of_mem_take h)
 . subst h;exact Gh
 . subst h;exact Gh
 . exact ?g (List.mem_of_mem_drop h)
theorem Turned.le4[?lV][?iB]:∀y∈ys,y.length<=4:=by
 induction h with
 | refl=>exact h4
 | step t h1 h2 _ ih =>
   intro y hy;unfold Jl at hy;obtain⟨p,hp,rfl⟩:=?qN;rw[qa3];rcases AB hp with q | q
   . exact ih p q
   . subst q;ext cX
theorem KY[?j](h:?hH):?vZ:=fun x hx=>by
 obtain⟨k,hk⟩:=qg6 hx;have:=(h k x hk).cnt;omega
theorem TR(t f:Int):(Cu ?LL f).getD f=Nw t f:=by
 unfold Cu Nw;rw[qm2];by_cases h1:t=f
 . subst h1;simp
 . rw[show ?o (t=f)=false by ext bJ,qm2];by_cases h2:t+1=f
   . subst h2;have:¬t+1=t:=O9m
     rw[qf6 rfl,?zD,?r];rfl
   . rw[show ?o (t+1=f)=false by simpa using h2,List.find?_nil];rw[?YU h1,?YU h2];rfl
theorem uG(t:Int):G7 [] [(Sum.inl t,?S ?dN),(Sum.inl ?dN,?S t)]=cK ?LL:=by
 show Lr (Lr (cK []) (Sum.inl t) (?S ?dN)) (Sum.inl ?dN) (?S t)=_;rw[IK,IK];have:¬t=t+1:=O9m
 simp[putI,this]
section
variable[?F]{H:Hp}
theorem Ao0{a:Addr}{ms:?LN}{k:Int}(rd:?yB):?NZ:=?VZ k
theorem lD[?cW][?eD]{t:Nat}{va vb:V}(r:?bN K H vs (ys.map tI))(ha:TI K H va (?mR))(hb:TI K H vb (?lK)) :
 ?bN K H (C8 vs ?bG (?c ?hR)++[vb,va]++C8 vs (?c (?hR+2)) ?bG) (?HW tI):=by
 rw[Zd,show(?hR+2)=((t+2:Nat):Int) by omega,Ta];unfold Gf;rw[qb8,qb8,qw8,qw9];exact((r.take t).append ((?PZ hb).append (?PZ ha))).append (r.drop (t+2))
universe e9
section
variable[?w]
universe e9
universe Hb
namespace L2
open PySem PySem.Spec PyProof.Rows
open AutoSeq1 (wpAny_loadPart')
theorem MH(t:Addr)(vs:?wM)(n:Nat)(dd:OAddr)(sl:Qr):Meets (Builtin.«enumerate.__new__» ⟨[?qH,?gA],[]⟩) (fun _ R s=>?tM t=?c { cls:=?hJ,dict:=dd,data:=?C7,slots:=sl } ∧
 R (.ok (.ret (?k ?PA))) { s with heap:=(?r2).push ?vU }) :=
 .of_wp fun prog w A R s h=>by
  obtain⟨hp,g,d,tk,os⟩:=s;obtain⟨q1,q2⟩:=h;have hsub:=sub_enumerate;have gt:Heap.IsTuple (Shared.heap ⟨hp,g,d,tk,os⟩) t vs:=⟨_,q1,rfl,n,rfl⟩
  wp_walk using wpAny_loadPart' q1
  refine wpAny_stack_any fun st=>qe2 ?_;split
  . rename_i c _ _ _ _ _
    cases (c==Value.type ?e2)
    . ext A6
      exact ?zE
    . ext A6
      exact ?zE
  . ext A6
    exact ?zE
section
variable[?AL]{E:?qL}{s:Shared}
theorem HU[?AG]{x old:Value}{Q:?qL}[?zU](gx:vs[n]?=?hM)(ne:e≠j)
 (k:∀h',?KR->?O2->?UV x->?NE →
   ?WI ?k ?d7) :
 ?VF (Builtin.«enumerate.__next__» ⟨[?k e],[]⟩) (fun fin s'=>∃r,fin=.done (.ret r)/\Q r s'):=by
 obtain⟨hp,g,d,tk,os⟩:=s;ext RP;refine qa7 (Jf gj gt gx fun k1 gj1 w1=>?_)
 replace w1:?hO j hp k1:=w1
 have ge1:?WH k1 n:=(w1.2 e ne).trans ge;show ?V4 3 ?zI;refine qa7 (qi4 ge1 rfl (x:=?wI n) rfl ?_);show ?V4 4 ?zI;refine qa7 (qi4 ge1 rfl (x:=?bF) rfl ?_);show ?bH _ _ (mkInt n>>=_) _ _ ?zI;refine qa7 (wpAny_mkInt ?_);show ?bH _ _ (?M6 ?d1 3 (?wI ?c1)>>=_) _ _ ⟨k1,g,d,tk+1,os⟩;refine qa7 (qi6 ge1 ?b9 fun k2 ge2 w2=>?_)
 replace w2:?hO e k1 k2:=w2
 replace ge2:?WH k2 ?c1:=ge2
 show ?U3 (?M6 ?d1 4 ?bF>>=_) k2;refine qa7 (qi6 ge2 ?b9 fun k3 ge3 w3=>?_)
 replace w3:?hO e k2 k3:=w3
 replace ge3:?WH k3 ?c1:=ge3
 show ?U3 (newTuple [?QJ,x]>>=_) k3;refine qa7 (wpAny_newTuple ?_);have ge4:?WH (?LU) ?c1:=qa6 _ ge3;generalize JR:?LU=k4 at ge4;have sz:k3.objs.size=hp.objs.size:=by rw[w3.1,w2.1,w1.1]
 have le:e<hp.objs.size:=qc2 ge;have gt4:k4.get? ?o3=?c ?HT:=by rw[←JR,←sz];exact ?uE
 have sz4:k4.objs.size=hp.objs.size+1:=by rw[←JR,qj0,sz]
 have kp4:∀b o,b≠e->b≠j->hp.get? b=?cE->k4.get? b=?cE:=fun b o n1 n2 q=>by
  rw[←JR];exact qa6 _ (?LE b o n1 (?IV b o n1 (w1.extBut b o n2 q)))
 have gj4:k4.IsTupleIter j t ?x:=by
  rw[←JR];obtain⟨o,q,r⟩:=(gj1.extBut ?IV ?k7).extBut ?LE ?k7;exact⟨o,qa6 _ q,r⟩
 show ?U3 (Builtin.SmallTypes.ownedTupleIsFree ?d1>>=_) k4;rw[sz];clear JR ge3 w3 ge2 w2 ge1 w1 gj1 sz k3 k2 k1;refine qa7 ?_;unfold Builtin.SmallTypes.ownedTupleIsFree;refine qa7 (qi4 ge4 rfl (x:=?bF) rfl (qe2 ?_));simp only[if_true];refine qa7 (wpAny_rule ?_);refine qa7 (qi4 ge4 rfl (x:=old) rfl ?_);refine qa7 (qi6 ge4 ?b9 fun k5 ge5 w5=>?_)
 replace w5:?hO e k4 k5:=w5
 replace ge5:?cL k5 e j ?c1 x:=ge5
 show ?U3 (Builtin.SmallTypes.ownedTupleHandOut ?d1 (?k ?o3)>>=_) k5;refine qa7 ?_;unfold Builtin.SmallTypes.ownedTupleHandOut;refine qa7 (qi6 ge5 ?b9 fun k6 ge6 w6=>?_)
 replace w6:?hO e k5 k6:=w6
 replace ge6:?xE k6 e j ?c1 x ?o3:=ge6
 refine qi6 ge6 ?b9 fun k7 ge7 w7=>?_
 replace w7:?hO e k6 k7:=w7
 replace ge7:?xE k7 e j ?c1 x ?o3:=ge7
 refine qa7 (wpAny_letGo (qe2 ⟨_,rfl,k k7 ge7 ?_ ?_ ?_ ?_⟩))
 . exact((gj4.extBut ?t4 ?k7).extBut ?t6 ?k7).extBut ?xC ?k7
 . exact ?xC _ _ (qn0 le) (?t6 _ _ (qn0 le) (?t4 _ _ (qn0 le) gt4))
 . rw[w7.1,w6.1,w5.1,sz4]
 . exact fun b o n1 n2 q=>?xC b o n1 (?t6 b o n1 (?t4 b o n1 (kp4 b o n1 n2 q)))
theorem V1[?AG]{x old:Value}[?TF][?zU](gx:vs[n]?=?hM)(ne:e≠j)
 (k:∀h',?KR->?O2->?UV x->?NE →
   ?WI ?c (?k ?d7)):?HZ:=by
 ext SF
 unfold pyNext;exact qa7 (?TV (HU ge gj gt gx ne fun h' a b c d q=>qe2 (k h' a b c d q)))
theorem Yh[?AG]{old:Value}[?TF](hn:A.handled=none)[?zU](gx:vs[n]?=none)
 (k:∀h',Heap.ExtBut j ?kQ h'->Q ?bG ?qJ):?HZ:=by
 ext SF
 unfold pyNext;refine qa7 (?TV ?_);ext RP;refine qa7 (O5 hn gj gt gx fun h' x he hx=>?_);obtain⟨o,q1,q2⟩:=hx;exact qa7 (wpAny_isInstance (T:="StopIteration") (b:=true) ⟨o,q1,q2⟩ isSubtype_stop (qe2 (k _ he)))
theorem iJ{t:Addr}{vs:?wM}{Q:?qL}(gt:?KU)
 (k:∀h',?cL h' (?kU) ?d7 0 ?bF->?CQ ?d7 t 0->h'.objs.size=s.heap.objs.size+2->(∀b o,?z3)->Q (?k (?kU)) ?qJ) :
 ?VF (call (?qH) [?gA]) Q:=by
 obtain⟨⟨c,dd,dt,sl⟩,q,qc,n,qd⟩:=gt
 replace qc:c=?hJ:=qc
 replace qd:dt=?C7:=qd
 subst qc qd;refine callType_new F.called_enumerate ?aD (F.typeCall_enumerate_1 _) (F.newCall_enumerate_1 _) (fun obj=>F.args_object_init_2 obj _) F.entry_enumerate_new (MH t vs n dd sl) ⟨q,?_⟩;have z1:?PA=?kU:=qj0 ..;show _/\_;rw[z1]
 have ge:?cL ((?r2).push ?vU) (?kU) ?d7 0 ?bF:=by
  have:=qc3 (?r2) (o:=?vU) rfl;rw[z1]at this;ext bL
 exact⟨?HH,k _ ge ⟨_,qa6 _ (?uE),rfl,rfl⟩ (by rw[qj0,z1]) fun b o x=>qa6 _ (qa6 _ x)⟩
universe e9
def IteT[?w](a:Addr):It:=IteG (SqT K) a
theorem gF[?iE][?F][?cU]{x1:Nat}{tpos:Pos}(a e it:Addr)(hne:e≠it):U1 P w K (?pV es x1 tpos) (?iR) [e,it] e (fun i h=>?WV ?aN i) where
 mem:=?kW
 obj:=fun i h ?EE=>Y8 h1 (tup_cell h2)
 keep:=fun i h h' ?EE k=>⟨⟨old,k e ?Z _ h1⟩,h2.at fun o z=>k it (?WD ?Z) o z⟩
 item:=by
  ext s8;ext AH;obtain⟨xs,x,hq,hx⟩:=hg;ext AB;obtain⟨u,hu,ru⟩:=?HU;exact V1 h1 h2 (?W5 a) (x:=u) (by simpa using hu) hne fun h' hout yR htup hsz hk=>AO (i:=i) (Y:=(IteT X.K a).yld i H) (T:=fun h=>?WV ?y5 ?H) hne I hf h1 (tup_cell h2) ru hout htup hk (fun h3 Qj he=>⟨he,yR.at fun o z=>(Qj.2 it hne.symm).trans z⟩) fun hn=>⟨_,x,hn,rfl,rfl,?WN I.tuple_inj⟩
 done:=by
  ext s8;ext AH;obtain⟨xs,hq,hx⟩:=hg;ext AB;obtain⟨f0,f1,f2,f3,f4,f5⟩:=hf it ?b9;have hl:=rv.length;exact Yh (I.ok.hd hc) h1 h2 (?W5 a) (by ext aZ) fun h' eb=>⟨rfl,?UM (fun b o hb z=>eb b o hb z)⟩
 self:=fun _ _ _ _ _ st h=>by
  ext AH;exact qu6 h1 h
inductive KJ[?w](R:It->?M)[?iK](H1:Hp):Prop
 | mk:∀a,?q7->((∃xs,?CX))->(R (?iR) H1)->?HR
def YN[?w](ta:TA):TI:=?X1 ?HR
theorem Uy:?LK ?e2=?c (?qH):=?D
theorem OB{X:Cx}[?F][?cU]{x1:Nat}{tpos:Pos}{a:Expr}{ta:TA}{p pos:Pos}(hg:Gl X ?e2)(hm:X.mg ?e2=none)[?RZ]:PI X (?pV es x1 tpos) (?XR ?e2) (YN K ta):=by
 subst hK;intro Ac s σ H R I h;refine Call_ (Kq I hg hm Uy (qg2 (Dh (ha pos Ac s σ H _ I h) fun us s1 _z=>?_) hs rfl));obtain⟨vs,H1,I1,r1,q1⟩:=_z;obtain⟨l,e,⟨xs,hq⟩,q⟩:=q1;subst e;cases r1 with
 | cons r rr =>
   cases rr;cases r;obtain⟨its,rv,pl,hz⟩:=I1.tuple hq;refine iJ (show s1.heap.IsTuple l ?jC from pl) fun h' hen hit hsz hk=>?_;refine qu6 hen ⟨?DT,[?DT,s1.heap.objs.size],_,_,H1,rfl,I1.kept (t':=s1.toks) hk,gF l _ _ (qu1 _),⟨⟨_,hen⟩,hit⟩,I1.fp2,q⟩
section
variable{g:TG}{tc:TT}{te:TE}{D:Addr}{Q:?M}{τ:St}{H:Hp}
theorem MF[?F][?RX](hl:∀i σ H,?xS->?kG->?CO)
 (hs:∀i x σ H p,xs[i]?=?hM->?kG->?K8->g ?rX σ (upd H p (?a8 [?d5,x])) ?BJ) [?T9] :
 ∃W:?J3,(∃m,W 0 m σ H)/\∀i m σ H,?PM →
   ((?iR).stop i H/\?tP)\/((?iR).go i H/\∃N:?k8,?U5 ?iR):=AM Pv h0 hl hs hd
universe e9
universe L2
namespace Hb
def Lw[?bK](f:Int):?p
 | 0=>0
 | i+1=>if ?g9=f then ?NV+1-?i6 else ?NV
def G6[?bK](f:Int):Int:=Lw fs f ?hL
def Ky(x e:Int):Int:=if x=e then 1 else 0
theorem tF(e:Int):G6 [] e=0:=rfl
theorem AA(x y e:Int):?uK=?DN:=by
 show(if y=e then(if x=e then ?b6+1-2*(?eV%2) else 0)+1-2*(?o5%2) else(if x=e then ?b6+1-2*(?eV%2) else 0))=_;unfold Ky;split<;>split<;>simp_all
theorem Vf(x y z e:Int):G6 [x,y,z] e=?DN+Ky z e:=by
 show(if z=e then ?uK+1-2*(((2:Nat):Int)%2) else ?uK)=_;rw[AA];unfold Ky;split<;>simp_all<;>omega
theorem pG{l:?e}(h:l.length=2):∃a b,l=[a,b]:=by
 match l,h with
 | [a,b],_=>exact(?VM a b)
theorem PF{l:?e}(h:l.length=3):∃a b c,l=[a,b,c]:=by
 match l,h with
 | [a,b,c],_=>exact⟨a,b,c,rfl⟩
theorem A23{l:?e}(h:l.length=4):∃a b c d,l=?M2:=by
 match l,h with
 | ?M2,_=>exact⟨a,b,c,d,rfl⟩
def sg(i:Nat):Int:=1-?i6
theorem Ad6[?j][?aY]{k:Nat}{q:?e}(hq:xs[k]?=?dG)(e:Int):Aj (fun i=>?fF*G6 (?B (q.getD i 0).toNat []) e) q.length=0:=by
 have F:=hs k q hq
 have face:∀f∈q,∃p,?wR=p/\(?nT k)[f.toNat]?=?kM/\lev p+1=lev q/\(p.length=0\/p.length=2\/p.length=3\/p.length=4):=by
  intro f hf;obtain⟨p,hp,hl⟩:=?mD
  have hp2:?EB=?kM:=by
   rw[qi3]at hp;split at hp
   . exact hp
   . cases hp
  exact⟨p,by rw[qa1,hp2];rfl,hp,hl,(hs _ _ hp2).cnt⟩
 rcases F.cnt with h | h | h | h
 . rw[h];rfl
 . obtain⟨a,b,rfl⟩:=pG h;obtain⟨A,ha,_,la,ca⟩:=?GJ;obtain⟨B,hb,_,lb,cb⟩:=?BT;have za:A=[]:=by ext AN;apply List.eq_nil_of_length_eq_zero;omega
   have zb:B=[]:=by ext AO;apply List.eq_nil_of_length_eq_zero;omega
   subst za zb;show ?TQ 1=0;rw[ha,hb,tF];simp
 . obtain⟨a,b,c,rfl⟩:=PF h;ext RJ;obtain⟨a0,a1,rfl⟩:=pG (l:=A) (by ext AN;omega);obtain⟨b0,b1,rfl⟩:=pG (l:=B) (by ext AO;omega);obtain⟨c0,c1,rfl⟩:=?VB pG;ext RE;simp at e1 e2 e3;subst e1 e2 e3;show ?YV e=0;rw[ha,hb,hc,AA,AA,AA];simp[sg];omega
 . obtain⟨a,b,c,d,rfl⟩:=A23 h;ext RJ;obtain⟨D,hd,gd,ld,cd⟩:=?c8 d ?b9;obtain⟨a0,a1,a2,rfl⟩:=PF (l:=A) (by ext AN;omega);obtain⟨b0,b1,b2,rfl⟩:=PF (l:=B) (by ext AO;omega);obtain⟨c0,c1,c2,rfl⟩:=?VB PF;obtain⟨d0,d1,d2,rfl⟩:=PF (l:=D) (by unfold lev at ld;simp at ld;omega);ext RE;have e4:=G 0 3 d a _ _ ?aD rfl rfl gd ga;have e5:=G 1 3 d b _ _ ?aD rfl rfl gd gb;have e6:=G 2 3 d c _ _ ?aD rfl rfl gd gc;simp at e1 e2 e3 e4 e5 e6;subst e1 e2 e3 e4 e5 e6;show ?YV e+sg 3*G6 (?YY d.toNat) e=0;rw[ha,hb,hc,hd,Vf,Vf,Vf,Vf];simp[sg];omega
universe Hb
namespace Hb
open PySem L2
def JE(n:Int)(i:Nat):Int:=if ?mE=0 then n else -n
def Hi(ms:Ms)[?bK](n:Int):Nat->Ms
 | 0=>ms
 | i+1=>?zL
def iO(ms:Ms)[?bK](n:Int):Ms:=Hi ms fs n ?hL
theorem mE(ms:Ms)[?bK](n k:Int):∀i,C0 ?eW k=?bB+?rC*n
 | 0=>by simp[Hi,Lw]
 | i+1=>by
   show C0 (?zL) k=_;rw[JS,mE ms fs n k i];show _=?bB+(if ?g9=k then ?KE else ?rC)*n;by_cases h:k=?g9
   . ext AP
     have e:?gF=(1-?i6)*n:=by
      unfold JE;have:?M7:=O9m
      rcases this with z | z
      . rw[?a1,z];simp
      . rw[?m,z];omega
     rw[e,show ?KE=?rC+(1-?i6) by omega,qr3];omega
   . rw[?bP,?h (?P3)]
theorem Yi[?cT][?bK](n:Int):∀i,nd ?eW
 | 0=>h
 | i+1=>OV (Yi h fs n i) _ _
theorem EJ[?sT][?bK](n:Int):∀i,nz ?eW
 | 0=>h
 | i+1=>OO (EJ h fs n i) _ _
theorem Ue(ms:Ms)[?bK](n:Int):∀i,(?mQ).length<=ms.length+i
 | 0=>?a5
 | i+1=>by
   have h1:=Ue ms fs n i;have h2:=bY ?eW ?gS (?gF);show(Ix _ _ _).length<=_;omega
def N2[?O](k p n:Int):Bool:=Di xs (?mM) k&&?o (¬n=0)
def Nr[?Y](ms:Ms):Bool:=ms.all fun p=>N2 xs k p.1 p.2
def Mz[?O](ms:Ms):Nat->Ms
 | 0=>[]
 | i+1=>iO ?gP (?tO) (?pB).2
def Em[?O](ms:Ms):Ms:=Mz xs ms ?FI
theorem aE[?j][?iB](ms:Ms):∀i,(?pO).length<=4*i
 | 0=>?a5
 | i+1=>by
   have h1:=aE h4 ms i;show(iO _ _ _).length<=_;unfold iO;have h2:=Ue ?gP (?tO) (?pB).2 ?C8
   have h3:?C8<=4:=by
    rcases Gh (l:=xs) (i:=?NM) (d:=[]) with z | z
    . exact h4 _ z
    . rw[z];ext cX
   omega
theorem DV[?j]{p l:Int}(h:Di xs (?mM) l=true):?J7:=by
 have h':(?o (0<=p)&&?o (?qQ)&&?o (Bi ?nP=l))=true:=h;rw[qd2,qd2]at h';exact⟨qe3 h'.1.1,qe3 h'.1.2⟩
def Qn(b:Addr)(H H1:Hp):Prop:=∀c q,c≠b->?NU
section
variable[?F]{H H1:Hp}{b:Addr}{m:?X (Key × V)}
theorem SqL.x[?sC][?AX](h:?oK):?D0:=by
 rcases h with(h|⟨o,h⟩) | h
 . ext S9
 . ext S3
 . exact ?jT
theorem SqT.x[?sC][?AX](h:?CO):?CX:=by
 rcases h with(h|⟨o,h⟩) | h
 . ext S9
 . ext S3
 . exact ?jT
mutual
theorem Rep.x[?sC]{v:V}{d:L2.D}(h:?V3 v d):Rep K H1 v d:=by
 cases d with
 | non=>exact h
 | bl b=>exact h
 | int i=>exact h
 | str x=>exact h
 | tup ds =>
   obtain⟨a,vs,e,q,r⟩:=h;exact⟨a,vs,e,SqT.x s hb q,?J9⟩
 | lst ds =>
   obtain⟨a,vs,e,q,r⟩:=h;exact⟨a,vs,e,SqL.x s hb q,?J9⟩
theorem Reps.x[?sC][?cW]{ds:?X L2.D}(h:?bN K H vs ds):?bN K H1 vs ds:=by
 cases ds with
 | nil=>exact h
 | cons d r =>
   obtain⟨v,q,e,h1,h2⟩:=h;exact⟨v,q,e,Rep.x s hb h1,Reps.x s hb h2⟩
end
universe e9
section
variable[?w]
def W7:Sp:=fun vs H Q _=>cW fun ?dO ?a7 (k p n:Int)=>Dg (vs=[?P,?b8,?mM,?b7]) ?bU (Q (.bl (N2 xs k p n)) H)
def Va:Sp:=fun vs H Q _=>cW fun ?eQ ?a7 ?b4 ?f8=>En (vs=[?P,?b8,?i4]) ?bU (H b=?e3) ?lP (∀H',?ZF (Nr xs k ms))
def Fp:Sp:=fun vs H Q _=>cW fun ?eQ ?a7 ?h5 ?f8=>Hn (vs=[?P,?i4,?f ?C]) ?bU (H b=?e3) ?lP (n<=100) (∀H',?ZF ((?j9).any fun(k:Nat)=>?IO))
def R9:Sp:=fun vs H Q _=>cW fun ?dO ?qS ?f8 (fs:?e) ?C=>En (vs=[?P,v,?b7]) (H a=?e3) (TI K H v fs) (ms.length+fs.length<=100000) (∀H',Qn a H H'->H' a=?UI (iO ms fs n)->?vX)
def y3:Sp:=fun vs H Q _=>l9 fun ?eQ ?a7 ?f8=>Pm ?nC ?bU (H b=?e3) ?lP ?vM ((∃k:Nat,k<4/\?IO=true)) (xV H ?gB Q)
universe e9
universe Hb
namespace Hb
open PySem L2
def wF[?aG](ms:Ms):Int:=(?a6 fun p=>p.2*?jP).sum
theorem GB[?aG]:?WR []=0:=rfl
theorem Jp[?aG](p:?aO)(ms:Ms):?WR ?qE=p.2*?jP+?b3:=by
 unfold wF;rw[qc8,List.sum_cons]
theorem Y3(k:Int):C0 [] k=0:=rfl
theorem IV[?aG](k:Int):∀{ms:Ms},?dV->?WR (?dF)=?b3-?bB*φ k
 | [],_=>by show ?b6=0-C0 [] k*φ k;rw[Y3];simp
 | ?i3,h=>by
   ext lZ;have ih:=IV φ k (ms:=ms) h.2;rw[Mw,Jp];by_cases e:?f6
   . rw[?d4];have hd:?OI=?dF:=by unfold Ho;rw[qt6 (?jG)]
     have hg:?bB=0:=Mv (by rw[←e];exact h.1);rw[hd,ih,hg,←e,qg4];omega
   . rw[?d3];have hd:?OI=p::?dF:=by unfold Ho;rw[qt5 (?jG)]
     rw[hd,Jp,ih];omega
theorem n6[?aG](as bs:Ms):?WR (as++bs)=?WR as+?WR bs:=by
 unfold wF;rw[qb8,List.sum_append]
theorem NH[?aG](k v:Int):∀{ms:Ms},?dV->k∈?a6 (·.1)->?Z6 (?a6 fun p=>?w1) (v-?bB)
 | [],_,h=>by simp at h
 | ?i3,h,hk=>by
   ext lZ;rw[qc8,Jp,Jp,Mw];by_cases e:?f6
   . rw[?d4,?d4]
     have same:(?a6 fun p=>?w1)=ms:=by
      conv=>rhs;rw[←?JE ms]
      apply qw3;intro q hq;have:¬q.1=k:=fun z=>h.1 (by rw[e,←z];exact qm6 (f:=(·.1)) hq);rw[?zD];rfl
     rw[same,e,Int.sub_mul];show v*φ k+?b3=_;omega
   . rw[?d3,?d3]
     have hk2:k∈?a6 (·.1):=by
      rw[qc8,qc5]at hk;rcases hk with z | z
      . exact ?I ?bC e
      . exact z
     rw[NH φ k v h.2 hk2];omega
theorem WS[?aG][?cT](k v:Int):?Z6 ?mC (v-?bB):=by
 by_cases hk:k∈?a6 (·.1)
 . unfold putI;rw[?n (Wp.mpr hk),NH φ k v h hk]
 . rw[put_new hk,n6,Mv hk,Jp,GB];simp
theorem WT[?aG][?cT](k n:Int):?Z6 ?jL n:=by
 unfold Ix;split
 . rename_i e
   rw[IV φ k h];have:?bB=-n:=O9m
   rw[this,qo6];omega
 . rw[WS φ h,show ?hG-?bB=n by omega]
theorem DC[?aG][?cT][?bK](n:Int):∀i,?WR ?eW=?b3+n*Aj (fun j=>sg j*φ (fs.getD j 0)) i
 | 0=>by show ?b3=?b3+n*0;simp
 | i+1=>by
   show ?WR (?zL)=?b3+n*(Aj _ i+?xH);rw[WT φ (Yi h fs n i),DC φ h fs n i,qt8]
   have e:?gF=n*?fF:=by
    unfold JE sg;have:?M7:=O9m
    rcases this with z | z
    . rw[?a1,z];simp
    . rw[?m,z];omega
   rw[e,qd4];omega
theorem O6[?O](ms:Ms):∀i,nd ?gP
 | 0=>List.nodup_nil
 | i+1=>Yi (O6 xs ms i) _ _ _
theorem Ye[?O](ms:Ms):∀i,nz ?gP
 | 0=>fun p hp=>by cases hp
 | i+1=>EJ (Ye xs ms i) _ _ _
def face[?O][?aG](p:Int):Int:=Aj (fun j=>sg j*φ ((?tG).getD j 0)) ?nP
theorem DB[?aG][?O](ms:Ms):∀i,?tF->?WR ?gP=wF (?c8 xs φ) (ms.take i)
 | 0,_=>rfl
 | i+1,h=>by
   show ?WR (iO ?gP _ _)=_;unfold iO;rw[DC φ (O6 xs ms i),DB φ xs ms i ?d,qs7,?n0,n6];ext zW
   rw[e];show _+_=_+wF _ [?n5];rw[Jp,GB];unfold face;omega
theorem iW[?aG][?O](ms:Ms):?WR ?gB=wF (?c8 xs φ) ms:=by
 unfold Em;rw[DB φ xs ms _ ?y,qg0]
def zA(e k:Int):Int:=if k=e then 1 else 0
theorem uZ(e:Int):∀{ms:Ms},?dV->wF ?u1 ms=C0 ms e
 | [],_=>rfl
 | ?i3,h=>by
   ext lZ;rw[Jp,Mw,uZ e h.2];unfold zA;by_cases z:p.1=e
   . rw[?a1,?a1,Mv (by rw[←z];exact h.1)];omega
   . ext sM;omega
theorem UE[?O](e p:Int):?c8 xs ?u1 p=?lT:=by
 have:∀[?bK] (i:Nat),Aj (fun j=>sg j*zA e (fs.getD j 0)) i=?lM:=by
  intro fs i
  induction i with
  | zero=>rfl
  | succ i ih =>
    show Aj _ i+?fF*zA e ?gS=?t2
    rw[ih];unfold zA sg;ext eC
 exact ?aR _ _
theorem Y2[?j]{ms:Ms}(e:Int):?R1=wF (fun p=>?lT) ms:=by
 have h:=uZ e (O6 xs ms ?FI);change wF ?u1 ?gB=?R1 at h;rw[←h];rw[iW];unfold wF
 congr 1
 apply qw3;intro p _;rw[UE]
theorem IU{φ:?K}:∀{ms:Ms},(∀p∈ms,?jP=0)->?b3=0
 | [],_=>rfl
 | ?i3,h=>by
   rw[Jp,h p ?Z,IU fun q hq=>h q (?WD hq)];simp
theorem mT[?j][?aY]{ms:Ms}(hin:∀p∈ms,?y4/\p.1<?l):?M1=[]:=by
 have z:∀e,C0 (?M1) e=0:=by
  intro e;rw[Y2,iW];refine IU ?gJ;obtain⟨h0,h1⟩:=hin p hp
  have hq:xs[?oR]?=?c (?pE):=by
   ext e9;rfl
  unfold face;exact Ad6 hs hq e
 have hn:=O6 xs (Em xs ms) (Em xs ms).length;have hz:=Ye xs (Em xs ms) (Em xs ms).length;change nd (Em xs (Em xs ms)) at hn;change nz (Em xs (Em xs ms)) at hz;cases e:Em xs (Em xs ms) with
 | nil=>rfl
 | cons p r =>
   rw[e]at hn hz;have h1:=eS hn (qb1 (a:=p) (l:=r));have h2:=z p.1;rw[e]at h2;unfold C0 at h2;rw[h1]at h2;exact ?I h2 (hz p ?Z)
def Aj2(n:Nat)(k:Int):Bool:=?o (?C=k+1) || (?o (k=0)&&?P9)
def spN[?Y]:?I0
 | 0=>[]
 | i+1=>if Aj2 (?YY i).length k=true then ?IT++[?aN] else ?IT
def spots[?Y]:?e:=spN xs k ?s
structure Part[?O](need:Nat)(p:?e):Prop where
 ok:∀f∈p,0<=f/\f<?l/\?FZ=need
 agr:0<need->∀i j:Nat,i<j->?KV->?UO 0
section
variable[?w]
universe e9
theorem EO{ms:Ms}{k n:Int}[?m4](h:q∈?xB):q∈ms\/q=(k,?hG):=by
 unfold Ix at h;split at h
 . exact ?g ?F9
 . exact JN h
theorem Yp{ms:Ms}[?iI]{n:Int}:∀{i:Nat},i<=fs.length->∀q∈?mQ,q.1∈?a6 (·.1)\/q.1∈fs
 | 0,_,q,h=>?g (qm6 (f:=(·.1)) h)
 | i+1,hi,q,h=>by
   rcases EO h with z | z
   . exact Yp O9m q z
   . subst z;refine ?i ?_;show ?g9∈fs;ext e9;exact ?eK
theorem AE[?j]{ms:Ms}:∀{i:Nat},?tF->∀q∈?pO,∃p∈ms,q.1∈?pE
 | 0,_,q,h=>?oI
 | i+1,hi,q,h=>by
   ext zW
   rcases Yp ?y q h with z | z
   . obtain⟨r,hr,er⟩:=?aF z;obtain⟨p,hp,hq⟩:=AE O9m r hr;exact⟨p,hp,by rw[←er];exact hq⟩
   . exact⟨?n5,?eK,by rw[←e];exact z⟩
theorem FQ{ms:Ms}[?iI]{n:Int}{M:Nat}(hm:∀p∈ms,?GC<=M):∀(i:Nat),∀q∈?mQ,?EQ<=M+?tC
 | 0,q,h=>by have:=hm q h;simp;ext bL
 | i+1,q,h=>by
   have ih:=FQ hm i (fs:=fs) (n:=n);have e:?H*n.natAbs=?tC+n.natAbs:=Nat.succ_mul ..;rcases EO h with z | z
   . have:=ih q z;omega
   . subst z;have hs:(?gF).natAbs=n.natAbs:=by unfold JE;ext eC
     have hg:(?BI).natAbs<=M+?tC:=by
      unfold C0;cases e2:Cu (Hi ms fs n i) (fs.getD i 0) with
      | none=>simp
      | some v=>exact ih _ (Uc e2)
     show(?BI+?gF).natAbs<=_;refine qa5 (qf0 _ _) ?_;rw[hs,e,←qq6];exact qq5 hg _
theorem fQ[?j][?iB]{ms:Ms}{B:Nat}(hb:∀p∈ms,?GC<=B):∀{i:Nat},?tF->∀q∈?pO,?EQ<=i*(4*B)
 | 0,_,q,h=>?oI
 | i+1,hi,q,h=>by
   have ih:=fQ h4 hb (i:=i) O9m;ext zW
   have:=FQ ih _ q h;rw[e]at this;have hB:=hb ?n5 (?eK)
   have hl:?N7<=4:=by
    rcases Gh (l:=xs) (i:=?C5) (d:=[]) with z | z
    . exact h4 _ z
    . rw[z];ext cX
   have h2:?N7*ms[i].2.natAbs<=4*B:=qf3 hl hB;have e3:?H*(4*B)=i*(4*B)+4*B:=Nat.succ_mul ..;omega
theorem iI[?j][?aY]{k:Int}{ms:Ms}(hm:∀p∈ms,?y4/\p.1<?l/\?UD ?pE=k):Nr xs ?oZ ?gB=true:=by
 refine qf2.mpr ?kL;have hz:q.2≠0:=Ye xs ms _ q hq;obtain⟨p,hp,hf⟩:=AE ?y q hq;obtain⟨a,b,c⟩:=hm p hp
 have hx:xs[?oR]?=?c (?pE):=by
  ext e9;rfl
 have F:=hs _ _ hx;obtain⟨r,hr,hl⟩:=F.bel q.1 hf;have q0:=F.low q.1 hf
 have hr2:xs[?tB]?=?c r:=by
  rw[qi3]at hr;split at hr
  . exact hr
  . cases hr
 have B20:?XO ?tB:=(?b1 hr2).1;have er:?EO=r:=by rw[qa1,hr2];rfl
 have hlr:Bi ?xG=k-1:=by
  unfold lev at hl;unfold Bi at c ⊢;have cr:=(hs _ _ hr2).cnt;have cp:=F.cnt;split at c<;>split<;>omega
 unfold N2;rw[qd2];refine⟨?_,by simpa using hz⟩;show(?o (0<=q.1)&&?o (?uJ)&&?o (?UD ?EO=k-1))=true;rw[er,qf6 q0,qf6 (show ?uJ by omega),qf6 hlr];rfl
universe Hb
namespace L2
open PySem PySem.Spec PyProof.Rows
universe L2
namespace Hb
open PySem L2
def Mm[?Y](n:Nat):?e:=((?j9).filter ?GE).map fun(j:Nat)=>?cO
def E8[?Y]:?e:=?MY
theorem Xx[?j]{k:Int}{n:Nat}(h:?kV):?EY=?FH:=by
 unfold Mm;rw[ql9,qg1,qb8,?WL qt5];rfl
theorem bP[?j]{k:Int}{n:Nat}(h:¬?kV):?EY=?pS:=by
 unfold Mm;rw[ql9,qg1,qb8,?WL qt6];simp
theorem Gx[?Y](n:Nat):?jV<=n:=by
 unfold Mm;rw[qa3];have:=qf8 (?GE) (?j9);simpa using this
section
variable[?w]
def Ds:Sp:=fun vs H Q _=>N8 fun ?dO ?aN ?a7=>B4 (vs=[?P,?d5]) ?bU ?r1 (∀[?iG],?YF ((E8 xs i).map ?S))
universe e9
theorem belowD_of{i b:Int}(h0:0<=i)(h1:i<b):belowD (?d5) b=true:=by
 show(?o (0<=i)&&?o (i<b))=true;rw[qf6 h0,qf6 h1];rfl
theorem tQ(g:?K)(sp:?e):?vW g=Hy ?gZ (?WE g (?rY i 0)):=by
 unfold Hy;apply List.ext_getElem
 . simp
 . intro i h1 h2;simp at h1;simp[h1]
theorem Zo[?O](p e:Int):C0 (?qW) e=?lT:=by
 rw[Y2];show 1*?lT+0=_;omega
theorem F5[?j]{k p:Int}(h:p∈?bS):0<=p/\?qQ/\Bi ?nP=k:=by
 unfold E8 Mm at h;obtain⟨j,hj,rfl⟩:=?aF h;have h1:=?rW hj;have h2:=?fB h1.1;refine(?YZ O9m ?_);rw[qd6];simpa using h1.2
theorem LM[?j][?iB](p e:Int):(?lT).natAbs<?w4:=by
 rw[←Zo xs p e];unfold C0;cases h:Cu (Em xs [(p,1)]) e with
 | none=>decide
 | some v =>
   have hm:=Uc h;have:=fQ (B:=1) h4 (ms:=?qA) (fun q hq=>by rw[qe9]at hq;subst hq;exact qa2 1) ?y _ hm;show v.natAbs<?w4;have h2:v.natAbs<=1*(4*1):=this;omega
theorem Ka[?Y]:(?bS).Nodup:=by
 unfold E8 Mm;exact List.Pairwise.map _ (fun a b h=>O9m) (List.Pairwise.filter _ List.nodup_range)
theorem nG[?AA]:(sp.zip ns).map (·.1)=sp:=by
 rw[show(fun x:?aO=>x.1)=Prod.fst from rfl,List.map_fst_zip ?d]
theorem NF[?AA](h:sp.Nodup):nd (sp.zip ns):=by
 unfold nd;rw[nG hl];exact h
theorem WN[?AA]{i:Nat}(hi:i<sp.length):(sp.zip ns)[i]?=?c (?rY i 0,ns.getD i 0):=by
 rw[qa0 (by ext aZ),List.getElem_zip,qa1,qa1,qa0 hi,?n0];rfl
theorem UK{sp ns:?e}[?m4](h:q∈Rq (sp.zip ns)):q.1∈sp/\q.2∈ns:=by
 have h1:=?F9;exact⟨(qq9 h1).1,(qq9 h1).2⟩
section
variable[?w]
def F4[?m9]:Sp:=fun vs H Q _=>Hm fun(i b:Int)=>B4 (vs=[?d5,?kE]) (0<=i) (i<b) (Q ?eR H)
def Qc:Sp:=fun vs H Q _=>l9 fun ?eQ (sp:?e) ?f8=>En ?nC (?UW a (?vW ?S)) (Rd H b ?jK) (sp.length<=1000) (∀[?iG],?YF ((?vW (C0 ms)).map ?S))
def Ny:Sp:=fun vs H Q _=>N8 fun ?dO ?a7 ?b4=>Pm (vs=[?P,?b8]) ?bU ?r1 ?vM ?pL (k<5) (tK H (?zM).length ?lB (fun i j=>?DK) Q)
universe e9
theorem sumN_one{sp:?e}(h:sp.Nodup){k:Int}(hk:k∈sp)(c:Int):Aj (fun m=>?JB) ?gZ=c:=by
 obtain⟨i,hi,e⟩:=qj8 hk
 have key:∀m,?D3->(?JB)=(if m=i then 1 else 0)*(fun _:Nat=>c) m:=by
  intro m hm;rw[qa1,qa0 hm,Option.getD_some];by_cases q:m=i
  . subst q;rw[?d4,?r,qd1]
  . rw[?hA,if_neg,qg4];intro z;exact q ((List.getElem_inj h).mp (z.trans ?yZ))
 rw[Ai key,Cn,?uO]
theorem iV{sp:?e}(hs:sp.Nodup)[?aG]:∀{ms:Ms},?dV->(∀p∈ms,p.1∈sp)->?b3=Aj (fun m=>?WQ ms) ?gZ
 | [],_,_=>by
   rw[GB,Ai (g:=?cM) (fun m _=>by rw[Y3,qc7]),Md]
 | ?i3,h,hk=>by
   ext lZ;have ih:=iV hs φ (ms:=ms) h.2 fun q hq=>hk q (?WD hq);have h1:=?a9 hs (hk p ?Z) (?jP*p.2)
   have e:∀m,?D3->?WQ ?qE=(if ?d9=p.1 then ?jP*p.2 else 0)+?WQ ms:=by
    intro m _;rw[Mw];by_cases q:?d9=p.1
    . rw[?n ?oW,?qK,q,Mv h.1,qc7,qm5]
    . rw[?YU q,?hA,qk9]
   rw[Jp,ih,?hP,Ce,h1,qe8 p.2]
def Li[?Y](i j:Nat):Int:=?DK
theorem jO[?j]{k p:Int}(h0:0<=p)(h1:?qQ)(h:Bi ?nP=k):p∈?bS:=by
 unfold E8 Mm;refine qd7.mpr ⟨?xY,qm0.mpr ⟨?yF,qf6 h⟩,O9m⟩
theorem GP[?j]{k:Int}{j:Nat}(hj:j<?lB):?mS j 0∈?bS:=by
 rw[qa1,qa0 hj];exact qe5 hj
theorem gW[?j][?aY]{k:Int}{i j:Nat}(hj:j<(?CK).length):Aj (fun m=>Li xs k i m*Li xs ?W m j) ?lB=0:=by
 obtain⟨q0,q1,q2⟩:=F5 (GP hj);unfold Li;rw[?yT];generalize ?M0 j 0=p at q0 q1 q2;generalize (?zM).getD i 0=e;have hcb:=iI hs (k:=k+1) (ms:=?qA) (?VP ⟨q0,q1,q2⟩);rw[?yT]at hcb
 have hkey:∀r∈?qW,r.1∈?bS:=fun r hr=>by
  have h1:=qf2.mp hcb r hr;unfold N2 at h1;rw[qd2]at h1;have h2:(?o (0<=r.1)&&?o (r.1<?l)&&?o (Bi (?B r.1.toNat []).length=k))=true:=h1.1;rw[qd2,qd2]at h2;exact jO (qe3 h2.1.1) (qe3 h2.1.2) (qe3 h2.2)
 have hbb:=mT hs (ms:=?qA) (?VP ⟨q0,q1⟩);have hg:=Y2 (xs:=xs) (ms:=?qW) e;rw[hbb,Y3,iV ?NT _ (show nd (?qW) from O6 ..) hkey]at hg;refine ?DD (Ai fun m _=>?_) hg.symm;rw[Zo]
theorem SN[?O]:E8 xs (0-1)=[]:=by
 cases h:E8 xs (0-1) with
 | nil=>rfl
 | cons p l =>
   exfalso
   have h1:=(F5 (xs:=xs) (k:=0-1) (p:=p) (by rw[h];exact ?kW)).2.2;unfold Bi at h1;split at h1<;>omega
theorem GF[?j][?iB](k:Int)(i j:Nat):?E1<?w4:=LM h4 _ _
section
variable[?w]
universe e9
noncomputable abbrev C7[?Y]:Nat:=?lB
theorem EI[?bK](e:Int):∀i:Nat,-((i / 2:Nat):Int)<=?lM/\?lM<=((?H / 2:Nat):Int)
 | 0=>⟨Int.le_refl _,Int.le_refl _⟩
 | i+1=>by
   have ih:=EI fs e i;show _<=(?t2)/\(?t2)<=_;ext eC
theorem tD[?iI](h:fs.length<=4)(e:Int):(G6 fs e).natAbs<=2:=by
 have:=EI fs e ?hL;unfold G6;omega
theorem RQ[?j][?iB](k:Int)(i j:Nat):?E1<=2:=by
 refine tD ?_ _;rw[qa1];cases e:xs[((E8 xs k).getD j 0).toNat]? with
 | none=>ext cX
 | some x=>exact h4 x (qb7 e)
theorem oB[?j]{k l:Int}(h:k≠l):?g4+?VY l<=xs.length:=by
 have nd:(?Q7).Nodup:=by
  rw[qx4];refine⟨?zR,?zR,fun a ha b hb e=>h ?_⟩;have h1:=(F5 ha).2.2;have h2:=(F5 hb).2.2;rw[←h1,←h2,e]
 have sb:(?Q7) ⊆ WU ?s:=fun p hp=>by
  have:?J7:=by
   rcases ?lD hp with h | h
   . exact ?H1
   . exact ?H1
  unfold WU;rw[qd7];exact⟨?xY,?yF,O9m⟩
 have:=nd.length_le_of_subset sb;rw[qa9,bD]at this;ext bL
noncomputable abbrev BPart:=Int × Ms × Ms × Ms
def uM[?Y](v:?p):Ms:=Rq (?CC (?G1))
structure m8[?Y][?A0]:Prop where
 lev:Lat.Lev (?Q8) ?cF z ?IH L G
 fin:ZM z (?gH) (2 ^ kB z) ?cB (kS z (?gH)) (Lat.gT ?cF G (Li xs ?W)) k0 f l r
 ch:Lat.ChainTo k0 k0 f
 kz:k0<=z
 kw:k0<=?gH
 bL:?HF
 bG:?DL
 zm:z<=?g4
def iL[?Y][?A0](i:Nat):BPart :=
 (?wX,uM xs k (?vV z l.2 L i),uM xs k (?vV z l.1 G i),?u6)
def F8[?Y][?A0]:?cG:=(?mX z).map (?TU iL k)
def AZ[?Y][?bY]:Prop:=∃z k0 L G f l r,?TU m8 k/\ps=?xX
theorem pB[?j][?aY](k:Int):∀c,c<?gH->∀x,x<?Q8->Lat.mulV ?cF ?IH (fun a=>Li xs ?W a c) x=0:=fun c hc x _=>gW hs hc
structure Ba6[?O](n:Nat)(zs ks:?q)(Ls Gs:Nat->Lat.Mat)(fs:?cA)(lp rp:Nat->?j6)[?eB]:Prop where
 len:ls.length=n
 z0:zs 0=?f0/\Ls 0=Lat.one/\Gs 0=Lat.one
 nx:∀j,j<n->zs ?U=?VY (?cO+1)-ks j/\Ls ?U=(fun i=>(rp j).1 (ks j+i))/\Gs ?U=fun i=>(rp j).2 (ks j+i)
 lv:∀j,j<n->?UZ m8/\ls[j]?=?c (?UZ F8)
def TieAt[?O](n:Nat)[?eB](z:Nat)(L G:Lat.Mat):Prop:=∃zs ks Ls Gs fs lp rp,Ba6 xs n zs ks Ls Gs fs lp rp ls/\zs n=z/\Ls n=L/\Gs n=G
theorem TieAt.first[?O]:?gW xs 0 [] (?f0) ?eG ?eG :=
 ⟨fun _=>?f0,?cM,?HM,?HM,fun _ _=>0,?CB,?CB,⟨rfl,?Q5,?K0,?K0⟩,rfl,rfl,rfl⟩
def bF[?AW](n:Nat)(a:α):Nat->α:=fun j=>if j=n then a else g j
theorem F3[?AW](n:Nat)(a:α):bF g n a n=a:=?r
theorem Dx[?AW]{n j:Nat}(a:α)(h:j≠n):bF g n a j=g j:=?bP
theorem TieAt.snoc[?j]{n:Nat}[?dC][?m1][?dB](h:?CP)(b:?TU m8 ?C) :
 ?gW xs ?x (ls++[?TU F8 ?C]) (?VY ?c1-k0) (?O7) ?BA:=by
 obtain⟨zs,ks,Ls,Gs,fs,lp,rp,t,rfl,rfl,rfl⟩:=h;refine⟨bF zs ?x (?VY ?c1-k0),bF ks n k0,bF Ls ?x ?O7,bF Gs ?x ?BA,bF fs n f,bF lp n l,bF rp n r,⟨?_,?_,?jZ,?jZ⟩,F3 ..,F3 ..,F3 ..⟩
 . rw[qa9,t.len];rfl
 . rw[?pR,?pD,?rV];exact t.z0
 . by_cases e:j=n
   . subst e;rw[F3,F3,F3,F3,F3];exact ?Q5
   . rw[?pR,?KP,?pD,?rV,?OT];exact t.nx j O9m
 . by_cases e:j=n
   . subst e;rw[?pR,?pD,?rV,F3,F3,F3,F3];exact⟨b,by rw[qb9 (by rw[t.len];exact ?a5),t.len,qh6];rfl⟩
   . rw[?pR,?pD,?rV,?KP,Dx fs _ e,Dx lp _ e,?OT];obtain⟨h1,h2⟩:=t.lv j O9m;exact⟨h1,by rw[qb5 (by rw[t.len];omega)];exact h2⟩
theorem TieAt.lev[?j]{n:Nat}[?dC]{z:Nat}{L G:Lat.Mat}(h:?CP):∀(j:Nat) ps,ls[j]?=?pU->AZ xs ?cO ps:=fun j ps e=>by
 obtain⟨zs,ks,Ls,Gs,fs,lp,rp,t,_⟩:=h;have hj:=?HX;rw[t.len]at hj;obtain⟨h1,h2⟩:=?KO;rw[h2]at e;cases e;exact⟨_,_,_,_,_,_,_,h1,rfl⟩
universe Hb
namespace L2
open PySem PySem.Spec PyProof.Rows
mutual
def RO:D->PyData
 | ?eR=>?bF
 | .bl b=>.bool b
 | ?d5=>?d5
 | ?mF=>?mF
 | ?o8=>.tuple ?kT
 | ?vA=>.list ?kT
 def toPDs:?nA->?X PyData
 | []=>[]
 | d::ds=>RO d::?CW
 end
section
variable{X:Cx}[?sG]
mutual
theorem NX[?sP]:∀(d:D) {v:V}{u:Value},Rep X.K H v d->RelV v u->∃as,Reads ?kQ u (RO d) as
 | ?eR,v,u,h,r=>by
   cases (?XU v ?eR);obtain rfl:u=?bF:=r;exact⟨_,?bF⟩
 | .bl b,v,u,h,r=>by
   cases (show v=.bl b from h);obtain rfl:u=.bool b:=r;exact⟨_,.bool b⟩
 | ?d5,v,u,h,r=>by
   cases (?XU v ?d5);obtain⟨t,rfl⟩:=r;exact⟨_,?f i t⟩
 | ?mF,v,u,h,r=>by
   cases (?XU v ?mF);obtain⟨t,rfl⟩:=r;exact⟨_,.str x t⟩
 | ?o8,v,u,h,r=>by
   ext SI;ext AB;obtain⟨o,ho,hc,n,hd⟩:=(?W5 a)
   obtain⟨as,ra⟩:=?H4;exact⟨as,.tuple ho hc hd (by simpa using ra)⟩
 | ?vA,v,u,h,r=>by
   ext SI;obtain⟨its,rv,p,hz⟩:=?MN;obtain⟨o,ho,hc,n,hd⟩:=p.isList;obtain⟨as,ra⟩:=?H4;exact⟨a::as,.list ho hc hd (by simpa using ra)⟩
theorem readsAll_of[?sP]:∀(ds:?nA) [?cW]{us:?j2},?D5->?GT->∃as,ReadsAll ?kQ us ?kT as
 | [],vs,us,h,r=>by
   cases (?XU vs []);cases r;exact⟨_,?hC⟩
 | d::ds,vs,us,h,r=>by
   obtain⟨v,q,rfl,hv,hq⟩:=h;cases r with
   | cons r1 r2 =>
     obtain⟨as,ra⟩:=NX I d hv r1;obtain⟨bs,rb⟩:=?D1 I ds hq r2;exact⟨_,.cons ra rb⟩
end
universe e9
mutual
theorem CB:∀d:D,?LO=false
 | ?eR=>rfl
 | .bl _=>rfl
 | ?f _=>rfl
 | .str _=>rfl
 | ?o8=>?w2
 | ?vA=>?w2
 theorem hasDict_toPDs:∀ds:?nA,PyData.hasDictAll ?kT=false
 | []=>rfl
 | d::ds=>by
   show(?LO || PyData.hasDictAll ?kT)=false;rw[CB d,?w2];rfl
end
universe L2
namespace L2
open PySem PySem.Spec PyProof.Rows
section
variable{X:Cx}[?F]
universe e9
section
variable{X:Cx}[?sG]
universe e9
structure Fin(B k:Nat)(p:PyData):Prop where
 sh:p.showable=true
 le:p.shown.length<=B
 dp:p.depth<=k
section
variable[?AL]{E:?qL}
universe e9
section
variable[?AL]{R:Result->?wS}
universe e9
universe L2
namespace Hb
open PySem L2
theorem Rows.drop{H H1 H2:Hp}{D C:Addr}{as:?EP}{w k:Nat}[?B1](R:Rows H H1 D as w f)(hC:H1 C=none)(h2:H2=upd H1 C (?G ((?FQ).map V.ref))):Rows H H2 C (?FQ) w (?BB):=by
 subst h2;refine⟨R.same.trans (?c3 hC),R.same.free hC,Ab,fun j a e=>?_⟩;rw[qs0]at e;obtain⟨h1,h3,h4⟩:=R.row ?d6 a e;have ne:a≠C:=fun z=>by rw[z,hC]at h4;cases h4
 exact⟨h1,ne,by rw[An ne];exact h4⟩
section
variable[?w]
universe e9
def Hk(H:Hp)(v:V)(p:BPart):Prop:=∃t a b c,v=?gA/\H t=?c (?a8 [?f p.1,?P,?i4,?f5])/\H a=?c (.dK (cK p.2.1))/\H b=?UI ?zA/\H c=?UI ?rF/\b≠c
theorem Hk.same[?fU]{v:V}{p:BPart}(h:?lR)[?fS]:Hk H' v p:=by
 obtain⟨t,a,b,c,e,h1,h2,h3,h4,ne⟩:=h;exact⟨t,a,b,c,e,?GF,s _ _ h2,s _ _ h3,s _ _ h4,ne⟩
def Bw(H:Hp):?YG ?u ?cG
 | [],[]=>True
 | ?lC,?k4=>?lR/\?hU
 | _,_=>False
theorem Bw.same[?fU][?fS]:?R3
 | [],[],h=>h
 | ?lC,?k4,h=>⟨h.1.same s,Bw.same s h.2⟩
 | [],?b0,h=>h.elim
 | ?b0,[],h=>h.elim
theorem Bw.len{H:Hp}:∀[?iC],?hU->vs.length=ps.length
 | [],[],_=>rfl
 | ?lC,?k4,h=>by rw[qc9,qc9,Bw.len h.2]
 | [],?b0,h=>h.elim
 | ?b0,[],h=>h.elim
theorem Bw.snoc{H:Hp}:∀[?iC]{v:V}{p:BPart},?hU->?lR->Bw H (vs++[v]) ?QH
 | [],[],v,p,_,h=>⟨h,trivial⟩
 | u::vs,q::ps,v,p,h,h2=>⟨h.1,Bw.snoc h.2 h2⟩
 | [],?b0,_,_,h,_=>h.elim
 | ?b0,[],_,_,h,_=>h.elim
theorem Bw.get{H:Hp}:∀[?iC]{i:Nat}{v:V},?hU->?k1->∃p,ps[i]?=?kM/\?lR
 | [],[],i,v,_,e=>by simp at e
 | u::vs,q::ps,0,v,h,e=>⟨q,rfl,by have:u=v:=(?jG);subst this;exact h.1⟩
 | u::vs,q::ps,i+1,v,h,e=>by
   have e':?k1:=?jG
   obtain⟨p,h1,h2⟩:=Bw.get h.2 e';exact⟨p,?bV,h2⟩
 | [],?b0,_,_,h,_=>h.elim
 | ?b0,[],_,_,h,_=>h.elim
theorem Hk.put{H:Hp}{D:Addr}{vs us:?u}{v:V}{p:BPart}(h:?lR)(hD:?YQ H vs):Hk (upd H D ?C9) v p:=by
 obtain⟨t,a,b,c,e,h1,h2,h3,h4,nbc⟩:=h
 have ne:∀{x:Addr}{o:HO},H x=?cE->(∀ws,o≠?G ws)->x≠D:=fun {x o} e h z=>by
  rw[z,hD]at e;cases e;exact h _ rfl
 exact⟨t,a,b,c,e,by rw[?XK h1];exact h1,by rw[?XK h2];exact h2,by rw[?XK h3];exact h3,by rw[?XK h4];exact h4,nbc⟩
theorem Bw.put{H:Hp}{D:Addr}{us0 us1:?u}(hD:?YQ H us0):∀[?iC],?hU->Bw (upd H D (?G us1)) vs ps
 | [],[],h=>h
 | ?lC,?k4,h=>⟨h.1.put hD,?xP hD h.2⟩
 | [],?b0,h=>h.elim
 | ?b0,[],h=>h.elim
theorem GV{k z:Nat}(h:k<=z)[?dD]:VI k f++?aH (z-k) (?S 0)=VI z (?IW f k):=by
 refine qp9 fun i=>?_;by_cases hi:i<k
 . rw[qb5 (by rw[Br];exact hi),Cg hi,Cg ?d];unfold Lat.numAt;rw[?uO]
 . rw[?WZ qb9,Br];by_cases hz:i<z
   . rw[Cg hz,qk8,?a4];unfold Lat.numAt;rw[?h hi]
   . rw[qf9 (by rw[qe0];omega),?WZ qf9]
theorem OZ(n:Nat)[?dD]:(Hy n f).map ?S=VI n f:=rfl
theorem FO{a b:Int}(ha:a.natAbs<?w8)(hb:b.natAbs<?w8):?lL a b:=Qf ha hb (by unfold bookF;decide)
section
variable[?w]
def w9:Sp:=fun vs H Q _=>cW fun ?eQ ?a7 ?b4 ?P8=>Hn (vs=[?P,?b8,?i4]) ?bU ?r1 (?UW b ?n6) (ns.length=?lB) (∀[?iG],?bT->?a3->?dU=?UI (Rq (?CC ns))->?bO)
def U7:Sp:=fun vs H Q _=>Aq5 fun(a tp nm r1 D1 D2 b2:Addr) (vl vg:V) ?a7 ?b4 (z k0 w:Nat) (L G:Lat.Mat) (f:?p) (l r:?j6)=>wL (vs=[?P,?b8,?k tp,vl,vg]) ?bU ?eH (w=?gH) (?V3 vl (dT z ?cF L)) (?V3 vg (dT z ?cF G)) (Qp K H tp nm r1 D1 D2 b2 z w k0 f l r) (z<=40) (k0<=z) (k0<=w) ((∀i,i<k0->f i≠0)) (?eS z z ?cB l.1) (?eS z z ?cB l.2) (?HF) (?DL) (∀[?AV] (H':Hp),?bT->?a3->?tJ->Bw H' us (?xX)->?bO)
def Fo(D:Addr)(H:Hp)[?iK][?eB]:Prop:=?GN/\∀(i:Nat) v ps,?k1->?FN->∃a us,v=?P/\a≠D/\?u4
def Nv(H:Hp)[?iK][?eB]:Prop:=?GN/\∀(i:Nat) v ps,?k1->?FN->∃a us,v=?P/\?u4
def Vb:Sp:=fun vs H Q _=>Hm fun ?dO ?a7=>En ?q7 ?bU ?qR ?eH (∀[?AV] [?eB] (H':Hp),?bT->?a3->?tJ->?Q0->(?yX)->Nv H' us ls->?bO)
universe e9
theorem one_bits(n m:Nat):?eS n m ?cB ?eG:=fun i j _ _=>by
 have h1:1<?w8:=Nat.one_lt_two_pow (by unfold bookF;decide);unfold Lat.one;split
 . exact h1
 . exact qv0 (?bQ:0<1) h1
theorem JW[?F]{H:Hp}{v:V}{n:Nat}(h:?V3 v (dT n n ?DC)):?V3 v (dT n n ?eG):=by
 have e:(fun i j:Nat=>if j=i then ?b2 else 0)=Lat.one:=by
  funext i j
  unfold Lat.one;by_cases h:i=j
  . ext AP
  . rw[?bP,?w6]
 rwa [e]at h
theorem uK[?F]{H:Hp}{C:Addr}{us:?u}{h w k:Nat}[?B1](hr:∀i u,us[i]?=?c u->i<h/\∃b,u=?i4/\?UW b (?L9))(hl:us.length=h)(hC:?UW C (us.drop k)):?V3 ?wB (dT (h-k) w ?BB):=by
 refine fG hC (by rw[qh9,hl]) ?vN;have e:us[k+i]?=?c (us[k+i]' ?h6):=?gE;obtain⟨_,b,eb,hb⟩:=hr ?aP _ e;exact⟨b,by rw[qs0,e,eb],hb⟩
def ZI(us:?u):Prop:=∀u∈us,∃a,u=?P
theorem Wd[?F]{H:Hp}{D b:Addr}{xs:?u}{o:HO}(h:?UW b xs)(ne:b≠D):SqL K ?rR b xs:=by
 rcases h with(h|⟨q,h⟩) | h
 . exact ?g (?g (?u3))
 . ext ST
 . exact ?jT
theorem RW[?F]{H:Hp}{D b:Addr}{xs us:?u}{o:HO}(h:SqT K H b xs)[?AT]:SqT K ?rR b xs:=by
 rcases h with(h|⟨q,h⟩) | h
 . ext SX
   exact ?g (?g (?u3))
 . ext SX
   ext ST
 . exact ?jT
theorem cN[?F]{H:Hp}{D t:Addr}{us:?u}{h w:Nat}[?B1]{o:HO}(hr:?V3 (?gA) (dT h w f))(ne:t≠D)(hw:0<h->0<w)[?AT](VT:ZI us):Rep K ?rR (?gA) (dT h w f):=by
 obtain⟨_,tu,ez,hq,hl,Nm⟩:=Hf hr;cases ez;refine fG (Wd hq ne) hl ?vN;have e:tu[i]?=?c (tu[i]' ?h6):=?gE;obtain⟨_,b,eb,hb⟩:=Nm i _ e;refine⟨b,by rw[e,eb],?_⟩;rcases hb with(hb|⟨q,hb⟩) | hb
 . refine Wd (?g (?g hb)) ?IR;rw[z,hD]at hb;have e1:us=?L9:=by injection hb with e;injection e
   have hw':=hw O9m;have e2:us[0]?=?c (?f (f i 0)):=by rw[e1];exact Cg hw'
   obtain⟨c,hc⟩:=VT _ (qb7 e2);cases hc
 . refine Wd (?WT q hb) ?IR;rw[z,hD]at hb;cases hb
 . exact ?i hb
structure IQ(D nm r1 D1 D2 b2:Addr):Prop where
 e1:nm≠D
 e2:r1≠D
 e3:D1≠D
 e4:D2≠D
 e5:b2≠D
theorem Qp.put[?F]{H:Hp}{D tp nm r1 D1 D2 b2:Addr}{n w k:Nat}[?dB]{us:?u}{o:HO}[?TA](ne:?L2)[?AT](VT:ZI us):?UE ?rR :=
 ⟨RW x.tup hD,Wd x.num ne.e1,?XX ?xK ne.e2,?XX ?u9 ne.e3,?XX ?z4 ne.e4,?XX ?yG ne.e5⟩
theorem Z0.ne[?F][?fU]{tp nm r1 D1 D2 b2 D:Addr}{n w k:Nat}[?dB]{o:HO}[?T7](hD:H D=?cE):?L2:=by
 have go:∀a,(a=nm\/a=r1\/a=D1\/a=D2\/a=b2)->a≠D:=fun a h z=>by
  have:=(x.new a h).1;rw[z,hD]at this;cases this
 exact⟨go _ ?J,go _ (?i ?J),?XW ?J,?XW (?i ?J),?XW (?i (?i rfl))⟩
def WK[?w](H:Hp)(a D:Addr)[?O](k:Nat)(σ:St)(G':Hp):Prop :=
 ∃(us:?u) (ls:?qG) (la ga:Addr) (z:Nat) (L G:Lat.Mat) (o4 o5 o6 o7:?f1 V),σ=[rS a,rS D,rS la,rS ga,o4,o5,o6,o7]/\?L3/\G' D=?dJ/\ls.length=k/\?XC xs k/\Fo D G' us ls/\la≠D/\ga≠D ∧
   Rep K G' (?k la) (dT z ?k3 L)/\Rep K G' (?k ga) (dT z ?k3 G)/\Lat.Lev (?VY (?b4-1)) ?k3 z (Li xs ?b4) L G/\z<=?wL/\?eS z ?k3 ?cB L/\?eS z ?k3 ?cB G
theorem Fo.out{D:Addr}{H:Hp}[?cW][?dC][?sS]:?DB :=
 (?V2 _ ⟨a,us,e,h1,h2⟩)
theorem Fo.same{D:Addr}[?fU][?cW][?dC][?sS][?fS]:Fo D H' vs ls :=
 (?V2 n ⟨a,us,e,n,?GF,h2.same s⟩)
theorem Fo.refs{D:Addr}{H:Hp}[?cW][?dC][?sS]:ZI vs:=fun u hu=>by
 obtain⟨i,hi⟩:=qg6 hu;have hl:=(?b1 hi).1;have h0:=h.1;obtain⟨a,_,e,_⟩:=h.2 i u _ hi (?gE);exact⟨a,e⟩
theorem Fo.snoc{D E:Addr}{H:Hp}{vs eu:?u}[?dC]{ps:?cG}[?sS](hD:?YQ H vs)(ne:E≠D)(hE:H E=?U9 eu)(r:Bw H eu ps):Fo D (upd H D (?G (vs++[?k E]))) (vs++[?k E]) (ls++[ps]):=by
 refine⟨by rw[qa9,qa9,h.1];rfl,fun i v qs e1 e2=>?_⟩;have h0:=h.1;by_cases hi:?LS
 . rw[qb5 hi]at e1;rw[?zC]at e2;obtain⟨a,us,e,n,h1,h2⟩:=h.2 i v qs e1 e2;exact⟨a,us,e,n,by rw[An n];exact h1,?xP hD h2⟩
 . have hi2:=(?b1 e1).1;rw[qa9,qv1]at hi2;have ei:?KC:=O9m
   subst ei;rw[?gK,qh6]at e1;rw[h0,?gK,qh6]at e2;have q1:v=?k E:=by simpa using e1.symm
   have q2:qs=ps:=by simpa using e2.symm
   subst q1 q2;exact⟨E,eu,rfl,ne,by rw[An ne];exact hE,?xP hD r⟩
universe Hb
namespace L2
open PySem PySem.Spec PyProof.Rows PySem.SeqAt
section
variable{X:Cx}{n:Nat}[?F]
universe e9
universe L2
namespace Hb
open PySem L2
def V0[?bY]:?cG:=?Y4 ps.filter (p.1≠1)
theorem EK[?bY](p:BPart):V0 ?QH=if ?o9 then ?oX else ?oX++[p]:=by
 unfold V0;rw[qg1];by_cases h:?o9
 . rw[?fA,qk7,?h (by simp[h]),qp1,qn2]
 . rw[?bP,qk7,?n (by simp[h]),qp1]
def lift1(fl:Ms)[?m6](g:?aO):?cN:=lf.set ?N8 (Gg (lf.getD ?N8 []) (Tk g.2 fl))
def JO[?m6](p:BPart):?cN:=if ?o9 then p.2.2.1.foldl (lift1 ?rF) lf else lf
def Vg[?m6][?bY]:?cN:=ps.foldl JO lf
def Ni(n:Nat)[?eB]:?cN:=ls.foldl Vg (?aH n [])
structure L8(ms:Ms):Prop where
 n:?dV
 z:nz ms
 k:inK ms
theorem L8.nil:L8 []:=⟨List.nodup_nil,(fun p h=>?oI),(fun p h=>?oI)⟩
theorem L8.len{ms:Ms}(h:L8 ms):ms.length<=40:=by
 have:=PD (?a6 fun(p:?aO)=>p.1) (WU 40) h.n fun x hx=>by
  obtain⟨p,hp,rfl⟩:=?aF hx;have:=h.k p hp;unfold WU;exact qd7.mpr ⟨?oR,?yF,O9m⟩
 rwa [qa3,bD]at this
theorem EY{ms:Ms}{j:Int}(h:?mT≠0):j∈?a6 (·.1):=by
 by_cases e:j∈?a6 (·.1)
 . exact e
 . exact ?I (Mv e) h
theorem L8.plus{ms ns:Ms}(h1:L8 ms)(h2:L8 ns):L8 ?hN:=by
 obtain⟨r1,r2,_,r4⟩:=JH ns ms h1.n h1.z h2.n;refine⟨r1,r2,?gJ⟩;have e:=eS r1 hp;have e2:C0 ?hN p.1=p.2:=by unfold C0;rw[e];rfl
 have hz:=r2 p hp;rw[←e2,r4]at hz
 have:p.1∈?a6 (·.1)\/p.1∈?y8 (·.1):=by
  by_cases q:C0 ms p.1=0
  . exact ?i (EY O9m)
  . exact ?g (EY q)
 rcases this with h | h
 . obtain⟨q,hq,eq⟩:=?aF h;rw[←eq];exact h1.k q hq
 . obtain⟨q,hq,eq⟩:=?aF h;rw[←eq];exact h2.k q hq
theorem L8.times{ms:Ms}(h:L8 ms)(n:Int):L8 ?JC:=by
 unfold Tk;split
 . exact L8.nil
 . rename_i hn
   refine⟨?_,?gJ,?gJ⟩
   . have:=h.n;unfold nd at this ⊢;rw[ql5];ext bL
   . obtain⟨q,hq,rfl⟩:=?q8;exact Int.mul_ne_zero hn (h.z q hq)
   . obtain⟨q,hq,rfl⟩:=?q8;exact h.k q hq
def Zy(n:Nat)[?m6]:Prop:=lf.length=n/\∀m∈lf,L8 m
theorem Zy.at{n:Nat}{lf:?cN}(h:Zy n lf)(i:Nat):L8 (lf.getD i []):=by
 rw[qa1];cases e:lf[i]? with
 | none=>exact L8.nil
 | some m=>exact h.2 m (qb7 e)
theorem Zy.lift1{n:Nat}{lf:?cN}{fl:Ms}(h:Zy n lf)(hf:L8 fl)(g:?aO):Zy n (lift1 fl lf g):=by
 refine⟨by unfold Hb.lift1;rw[qj3];exact h.1,?jY⟩;rcases qn9 hm with q | rfl
 . exact h.2 m q
 . exact(h.at _).plus (hf.times _)
structure qO(n:Nat)(p:BPart):Prop where
 gk:∀g∈?zA,0<=g.1/\g.1<?C
 fl:L8 ?rF
 mul:∀g∈?zA,∀q∈?rF,?lL g.2 q.2
def Fr(O H:Hp)[?iK][?m6]:Prop:=vs.length=lf.length/\∀(i:Nat) v,?k1->∃c,v=?f5/\?y2/\H c=?UI (lf.getD i [])
theorem Zy.first(n:Nat):Zy n (?aH n []):=⟨qe0 ..,fun m hm=>by rw[(?k9 hm).2];exact L8.nil⟩
theorem Fr.same{O H H':Hp}[?cW]{lf:?cN}(h:?z0)[?fS]:?O4 :=
 (?X4 ⟨c,e1,e0,s _ _ e2⟩)
theorem Fr.keep{O H H':Hp}[?cW]{lf:?cN}(h:?z0)(s:∀c kvs,?y2->H c=?c (.dK kvs)->H' c=?c (.dK kvs)):?O4 :=
 (?X4 ⟨c,e1,e0,s _ _ e0 e2⟩)
theorem Fr.snoc[?RR]:Fr O H (vs++[?f5]) (lf++[m]):=by
 have h0:=h.1;refine⟨by rw[qa9,qa9,h0];rfl,fun i v ei=>?_⟩;rw[qa1];by_cases hi:?LS
 . rw[qb5 hi]at ei;rw[?zC,←qa1];exact h.2 i v ei
 . have hi2:=(?b1 ei).1;rw[qa9,qv1]at hi2;have eq:?KC:=O9m
   subst eq;rw[?gK,qh6]at ei;rw[h0,?gK,qh6];have q1:v=?f5:=by simpa using ei.symm
   exact ?GO
theorem Fr.set[?RR](i:Nat):Fr O H (vs.set i (?f5)) (lf.set i m):=by
 have h0:=h.1;refine⟨by rw[qj3,qj3,h0],fun j v ej=>?_⟩;rw[qa1];by_cases q:i=j
 . subst q;have hl:=(?b1 ej).1;rw[qj3]at hl;rw[qp5 hl]at ej;rw[qp5 ?d];have q1:v=?f5:=by simpa using ej.symm
   exact ?GO
 . rw[ql6 q]at ej;rw[ql6 q,←qa1];exact h.2 j v ej
def Kf[?m9]:Sp:=fun vs H Q _=>N8 fun ?dO ?wP ?B2=>En ?q7 (H a=?dJ) (?FU) (ps.length<=1000) (∀(D:Addr) (us':?u) (H':Hp),?bT->?a3->?dU=?U9 us'->Bw H' us' (?oX)->?bO)
def U8[?w]:Sp:=fun vs H Q _=>cW fun ?eQ ?a7 ?wP ?pN=>Pm ?nC ?bU ?eH (H b=?dJ) (Nv H us ls) ((∀ps∈ls,?CE)) (∀(D:Addr) (ws:?u) (H':Hp),?bT->?a3->?dU=?U9 ws->Fr H H' ws (Ni ?s ls)->?bO)
theorem Ud(n:Nat):Bi n=((n-1:Nat):Int):=by
 unfold Bi;ext eC
theorem mG[?j]{p:?e}(h:fY xs p):Y6 xs (tI p)=true:=by
 have bl:∀f∈p,∃q,?EB=?dG/\?wR=q/\?XO f.toNat/\q.length-1+1=p.length-1:=fun f hf=>by
  obtain⟨q,e,l⟩:=h.bel f hf;obtain⟨hlt,_⟩:=?b1 e;exact⟨q,e,by rw[qa1,e];rfl,hlt,l⟩
 show Y6 xs (?a8 (Fi p))=true;rw[Py];have hl:(Fi p).length=p.length:=by simp[Fi]
 rw[hl];simp only[qd2,qr5];refine⟨⟨?_,?_⟩,?_⟩
 . rcases h.cnt with e | e | e | e<;>rw[e]<;>rfl
 . rw[qf2];intro d hd;obtain⟨f,hf,rfl⟩:=?aF hd;obtain⟨q,e,eq,hlt,l⟩:=bl f hf;have h0:=h.low f hf;show(?o (0<=f)&&?o (f<?l)&&?o (Bi ?FZ=Bi p.length-1))=true;rw[eq,Ud,Ud];simp only[qd2,qp7];omega
 . by_cases h3:3<=p.length
   . right
     have e0:(Fi p).map UZ=p:=by
      unfold Fi;rw[ql5];exact ?JE p
     rw[e0];ext SS;have hj:=?fB hj;have hi:=?fO;unfold Te;rw[qp7];have ej:p[j]?=?c p[j]:=qa0 hj;have ei:p[i]?=?c (p[i]' ?h6):=?gE;obtain⟨q,e1,e2,_⟩:=bl p[j] (qe5 hj);obtain⟨r,e3,e4,_⟩:=bl (p[i]' ?h6) (?eK);have key:=h.agr h3 i j _ _ q r hi ej ei e1 e3;rw[show ?n4=p[j] by rw[qa1,ej];rfl,show ?rT=p[i]' ?d by rw[qa1,ei];rfl,e2,e4,qa1,qa1,key]
   . left;rw[Ud];ext aZ
theorem Wo[?j]{k:Int}[?m8][?m4](h:q∈?JU):(0<=q.1/\?uJ)/\∃c,c<?g4/\q.2=v c:=by
 obtain⟨h1,h2⟩:=UK h;have h3:=F5 h1;obtain⟨c,hc,e⟩:=?aF h2;exact⟨⟨h3.1,h3.2.1⟩,c,?fB hc,?yZ⟩
theorem ZE[?j](Qi:?o4)(k:Int)(v:?p):L8 (?JU):=by
 refine⟨?_,?kL,?kL⟩
 . have:=NF (sp:=?bS) (ns:=?G1) (by rw[Jt]) (?zR);unfold nd at this ⊢;exact this.sublist (?PP _ (qw4 ..))
 . have:=(?rW hq).2;simpa using this
 . have:=(Wo hq).1;omega
theorem AZ.ok[?j][?SQ]:?CE:=by
 obtain⟨z,k0,L,G,f,l,r,bl,rfl⟩:=h;intro p hp;obtain⟨i,hi,rfl⟩:=?q8;have hi:=?fO;have hz:z<=40:=?HE;refine⟨fun g hg=>(Wo hg).1,?_,fun g hg q hq=>?_⟩
 . show L8 (?u6);split
   . exact L8.nil
   . exact ZE Qi _ _
 . obtain⟨_,c,hc,e⟩:=Wo hg
   replace hq:q∈(?u6):=hq
   split at hq
   . cases hq
   . rename_i e0
     have hik:i<k0:=by
      by_cases hh:i<k0
      . exact hh
      . unfold Lat.numAt at e0;rw[?h hh]at e0;exact ?I rfl e0
     obtain⟨_,d,hd,e2⟩:=Wo hq
     have h1:(?vV z l.1 G i c).natAbs<2 ^ (bookF+bookF+z):=QL fun j hj=>by
      rw[qb3,qe4];exact qq3 (bl.fin.bl.1 i j hi hj) (bl.bG j c hj hc)
     have h2:=bl.fin.br.1 i d (qb4 hik bl.kw) hd;rw[e,e2];exact Qf h1 h2 (by unfold bookF;omega)
theorem Bw.kd[?fU](s:∀c o,H c=?cE->((∃l,o=?a8 l)\/∃l,o=.dK l)->H' c=?cE):?R3
 | [],[],h=>h
 | ?lC,?k4,h=>by
   obtain⟨⟨t,a,b,c,e,h1,h2,h3,h4,ne⟩,h5⟩:=h;exact⟨⟨t,a,b,c,e,s _ _ h1 (?g ?dQ),?XV h2,?XV h3,?XV h4,ne⟩,Bw.kd s h5⟩
 | [],?b0,h=>h.elim
 | ?b0,[],h=>h.elim
theorem AZ.len[?j][?SQ]:ps.length<=40:=by
 obtain⟨z,k0,L,G,f,l,r,bl,rfl⟩:=h;unfold F8;rw[qa3,qe7];exact ?HE
def mC[?sV]:Hp:=?D8
theorem Lc{H:Hp}{c d:Addr}(h:c≠d):mC H d c=H c:=?bP
theorem jS{H:Hp}{d:Addr}:mC H d d=none:=?r
theorem MB{H:Hp}{d:Addr}:?L ?CR H:=fun c o e=>by
 by_cases h:c=d
 . rw[h,jS]at e;cases e
 . rwa [Lc h]at e
theorem PN{O H:Hp}{d:Addr}(s:?L O H)(h:O d=none):?L O ?CR:=fun c o e=>by
 rw[Lc (At e h)];exact s c o e
structure Z2[?w](C:Addr)(B:Hp)(p:Addr)[?O][?eB]:Prop where
 ob:Ex6 fun dx P Lv Lf lu wu=>B p=?c (.ins C dx [(?CD,?k P),(?QN,?k Lv),("lifts",?k Lf)])/\En (LT K B (?k P) xs) (B Lv=?U9 lu) (Nv B lu (ls.map V0)) (B Lf=?U9 wu) (Fr (fun _=>none) B wu (Ni ?s ls))
 sh:?hH
 len:?o4
 n4:?Q0
 lev:∀(k:Nat) ps,?wF->AZ xs ?b4 ps
 tie:?yX
def JD[?w]:Sp:=fun vs H Q _=>Hm fun ?qS ?a7=>B4 (vs=[v]) (LT K H v xs) ?eH (Q (.bl true) H)
def W6[?w]:Sp:=?YJ (∀H',?a3->?vX)
def R8[?w]:Sp:=?YJ (∀H',?CM)
def DO[?w](C:Addr):Sp:=fun vs H Q _=>Ex6 fun(p dx a:Addr) ?wP (H0:Hp) ?a7=>wM (vs=[?f7,?P]) (H p=?c (.ins C dx [])) (H a=?dJ) (?X2 H0) (?L H0 H) (H0 a=none) (H0 p=none) ?qR ?eH (∀(B:Hp) [?eB] (H':Hp),SameX p H H'->?nL->?L H0 B->?L B H'->B a=none->?vX)
theorem Nv.at{H:Hp}[?cW][?dC]{k:Nat}(h:?DB)(hk:k<ls.length):∃a us ps,vs[k]?=?wA/\?wF/\?u4:=by
 have h0:=h.1;have e1:vs[k]?=?c (vs[k]' ?h6):=?gE;have e2:ls[k]?=?c ls[k]:=qa0 hk;obtain⟨a,us,e,h1,h2⟩:=h.2 k _ _ e1 e2;exact⟨a,us,_,by rw[e1,e],e2,h1,h2⟩
universe Hb
namespace L2
open PySem PySem.Spec PyProof.Rows PySem.SeqAt
section
variable{X:Cx}
universe e9
universe L2
namespace Hb
open PySem L2
universe Hb
namespace L2
open PySem PySem.Spec PyProof.Rows
def PK:Expr->?f1 Int
 | .Constant (?d5) _ _=>?c i
 | _=>none
def Ys:?wK->?f1 (?e)
 | []=>?vO
 | ?kD=>match PK e,Ys es with
   | ?c i,?c is=>?c (i::is)
   | _,_=>none
def VA(ns:?e):TA:=fun _ H Q=>Q ?n6 H
theorem jJ{X:Cx}:∀[?cU]{ns:?e},?DU->PA X es (VA ns)
 | [],ns,h=>by
   cases h;exact Ae
 | ?kD,ns,h=>by
   unfold Ys at h;cases e1:PK e with
   | none=>rw[e1]at h;cases h
   | some i =>
     cases e2:Ys es with
     | none=>rw[e1,e2]at h;cases h
     | some is =>
       rw[e1,e2]at h;cases h;unfold PK at e1;split at e1
       case h_2=>cases e1
       case h_1 =>
        cases e1;exact Aa Am (jJ e2)
structure PAw(X:Cx)(es:?wK)(t:TA):Prop where
 h:PA X es t
theorem sW{X:Cx}:PAw X [] RT:=⟨Ae⟩
theorem G0{X:Cx}[?cU]{ns:?e}(h:?DU):PAw X es (VA ns):=⟨jJ h⟩
structure PEw(X:Cx)(e:Expr)(t:TE):Prop where
 h:PE X e t
theorem sU{X:Cx}[?F]{sl:Expr}[?cU]{k:Nat}{p q:Pos}{ta:TA}{tsl:TE}(ha:PAw X es ta)(hsl:PE X sl tsl)(hpi:KD sl)[?AZ] :
 PEw X (.Subscript (?pV es k p) sl q) (tOp (xH K) (wY ta) tsl):=by
 subst hK;exact⟨Bc Bm (B5 ha.h) hsl hpi⟩
universe L2
namespace Hb
open PySem L2
def V8[?bY]:Nat:=(?Y4 ?PO (p.1=0)).length
def Z3[?bY]:?e:=(?Y4 ?PO (p.1≠0)).map (·.1)
theorem JY[?j]{k:Int}[?m1][?dB](h:k0<=z):(?xX).map (·.1)=?t7++?aH (z-k0) 0:=by
 unfold F8 Hy;rw[ql5];refine qp9 fun i=>?_;rw[qb2];by_cases hi:i<k0
 . rw[qb5 (by rw[qa3,qe7];exact hi),qb2,qi8 hi,qi8 ?d];show ?DP=?c (f i);unfold Lat.numAt;rw[?uO]
 . rw[qb9 (by rw[qa3,qe7];omega),qa3,qe7,qk8];by_cases hz:i<z
   . rw[qi8 hz,?a4];show ?DP=?c 0;unfold Lat.numAt;rw[?h hi]
   . rw[qf9 (by rw[qe7];omega),?m];rfl
theorem mQ[?bY]:?fM=((ps.map (·.1)).filter ?GG).length:=by
 unfold V8 V0;rw[List.filter_filter,qv2,qa3]
 congr 1
 refine qx5 fun p _=>?_;by_cases h:p.1=0
 . simp[h]
 . simp[h]
theorem NK[?bY]:?bZ=(ps.map (·.1)).filter ?NF:=by
 unfold Z3 V0;rw[List.filter_filter,qv2]
 congr 1
 refine qx5 fun p _=>?_;by_cases h:p.1=0<;>by_cases h1:?o9<;>simp[h,h1]
theorem m8.count[?j]{j:Int}[?m1][?dB][?AS]:V8 (?TU F8 j)=z-k0:=by
 rw[mQ,JY b.kz,qg1,qa9]
 have e1:?DH (?GG)=[]:=?nJ fun n hn=>by
  ext S4;ext aZ
 rw[e1,?wV fun n hn=>by rw[?tX];rfl,qe0,qm1,qu9]
theorem m8.twist[?j]{j:Int}[?m1][?dB][?AS]:Z3 (?TU F8 j)=?DH ?eI:=by
 rw[NK,JY b.kz,qg1];have e1:(?aH (z-k0) ?b6).filter (?NF)=[]:=?nJ fun n hn=>by rw[?tX];simp
 rw[e1,qn2];refine qx5 fun n hn=>?_;ext S4;by_cases h:1<f i
 . rw[qf6 h,qf6 ?d]
 . rw[qk2 h,qk2 ?d]
def nL(ns:LLInt):D:=?G (?y8 fun n=>?G (Fi n))
section
variable[?w]
def y8(C:Addr):Sp:=fun vs H Q _=>cW fun ?IE ?b4 ?z9 ?a7 ?pN=>Hn (vs=[?f7,?b8]) (?nL) (?L B H) ?pL (k<4) (∀[?bY] (H':Hp),?wQ->?a3->Q (?f ?vG) H')
def Xc(C:Addr):Sp:=fun vs H Q _=>cW fun ?IE ?b4 ?z9 ?a7 ?pN=>Hn (vs=[?f7,?b8]) (?nL) (?L B H) ?pL (k<4) (∀[?bY] [?iG],?wQ->?YF ((?bZ).map ?S))
universe e9
universe Hb
namespace Lat
open Hb
def ZA(d:?p):Mat:=fun i j=>if i=j then d i else 0
theorem qL{N:Nat}(d:?p)(p q:?p):?Z5 p q=Aj (fun i=>p i*d i*q i) N:=by
 unfold bil;refine ?vB;rw[?a9 hi fun k _ ne=>by unfold ZA;ext AI];unfold ZA;rw[?r,qd4]
theorem uO{N:Nat}(d:?p){x y:Nat}(hx:x<N):?Z5 (one x) (one y)=?NJ:=by
 rw[qL,?a9 hx fun k _ ne=>by ext aT;rw[?YU ne,qg4,qg4]];ext aT;ext m2;by_cases h:x=y
 . rw[?fA,?n ?rQ,qk0]
 . rw[?bP,?w6,qc7]
theorem Wi(N:Nat):∀a b,a<N->b<N->pT N one one a b=?nH:=fun a b ha _=>by
 unfold pT;rw[?WU ha ?eU];ext aT;ext m2
theorem dY(N:Nat):E7 N 0 one one:=fun i j hi _=>by
 unfold pD;rw[?WU hi ?m];ext aT;ext AR;by_cases h:i=j
 . ext AP
 . rw[?bP,?w6]
theorem UG(N:Nat)(d:?p)(hp:?OD):Dz N N N (?T d N).toNat ?kC one one one one d :=
 ⟨?a5,?a5,fun x y hx _=>uO d hx,hp,fun x h1 h2 _=>O9m,O9m,dY N,dY N⟩
theorem QK{n w N:Nat}{A r hh:Mat}{d:?p}[?SM](p q:?p) :
 ?VD p q=?Z5 (fun i=>?UX (fun a=>p a*?iN)) (fun i=>?MD):=by
 rw[qL];unfold bil
 have e:∀a,a<n->p a*?EJ=Aj (fun i=>p a*?iN*?J4) N:=fun a ha=>by
  have e1:?EJ=Aj (fun i=>?iN*?J4) N:=by
   rw[?W7 hA,Cr];ext sL;rw[←Ax,←Ax];exact Ai fun b _=>?IG
  ext T1
 rw[?hP,Cr];ext sL;rw[D5,qd4]
theorem Dz.hand{n w m E N:Nat}{A P PB Q QB g fl r hh:Mat}{f d:?p}[?s6](hc:?OV)
 (hp:?OD) (hd:ChainTo N N d) (hB:∀x y,x<N->y<N->?VD (g x) (fl y)=?NJ) [?SM]:m=N/\∀x,x<m->f x=d x:=by
 have a1:=h.mn;have a2:=h.mw;have h':=UG N d hp;have d2:∀x y,x<m->y<m->?Z5 (fun i=>?I9) (fun i=>?IK)=if x=y then f x else 0:=fun x y hx hy=>by rw[←QK hA,?jD x y ?d ?d]
 have e:m=N:=qj1 (h'.few (Wi N) (Wi N) (P':=?CI) (Q':=?L8) d2 ?hX) (h.few hl hr hB hp);subst e
 have pe:∀k,k<=m->?iV=?T d k:=fun k hk=>by
  have p1:0<?iV:=B8 fun j hj=>?hX j O9m;have p2:0<?T d k:=B8 fun j hj=>?y1;exact Int.le_antisymm (qk1 p2 (h.pdvd hl hr hc (?VA hB))) (qk1 p1 (h'.pdvd (Wi m) (Wi m) hd (P':=?CI) (Q':=?L8) (?VA d2)))
 refine⟨rfl,?w9⟩;have e1:=pe x O9m;have e2:?T f x*f x=?T d x*d x:=pe (x+1) hx;have p1:0<?T f x:=B8 fun j hj=>?hX j O9m;rw[←e1]at e2;exact qs4 O9m e2
universe Lat
namespace Hb
open PySem L2
structure Ev where
 d:Int
 r:?K
 g:?K
 h:?K
 f:?K
def Iz[?iJ]:?aC->Int
 | []=>0
 | ?eM=>?jF
theorem W0[?iJ]:∀cs ds,?JG=?hZ+?zJ
 | [],ds=>(qk9 _).symm
 | ?eM,ds=>by
   show F c+?JG=?jF+?zJ;rw[W0 F cs ds,Int.add_assoc]
theorem kX[?iJ]{cs ds:?aC}(h:cs.Perm ds):?hZ=?zJ:=by
 induction h with
 | nil=>rfl
 | cons x _ ih=>show F x+_=F x+_;rw[ih]
 | swap x y l=>show F y+(F x+_)=F x+(F y+_);omega
 | trans _ _ a b=>exact a.trans b
theorem Ts{F:?vH}:∀{cs:?aC},(∀c∈cs,F c=0)->?hZ=0
 | [],_=>rfl
 | ?eM,h=>by
   show ?jF=0;rw[h c ?Z,Ts ?GD];rfl
theorem Wz{F G:?vH}:∀{cs:?aC},(∀c∈cs,F c=G c)->?hZ=Iz G cs
 | [],_=>rfl
 | ?eM,h=>by
   show ?jF=G c+Iz G cs;rw[h c ?Z,Wz ?GD]
theorem dI[?iJ](C:Nat->Ev):∀n,Iz F (?p4 C)=?UX (fun i=>F (C i))
 | 0=>rfl
 | n+1=>by
   rw[ql9,qb8,W0,dI F C n];show _+(F (C n)+0)=_+_;rw[qm5]
theorem IZ[?iJ](e:Ev):∀cs:?aC,?hZ=Aj (?WE F (?g1 i e)) ?MG
 | []=>rfl
 | ?eM=>by
   show ?jF=Aj (?WE F ((?eM).getD i e)) (cs.length+1);rw[Lat.sumN_fst,IZ F e cs];rfl
def wB[?aG]:?e->Int
 | []=>0
 | ?eE=>?oN
theorem NI[?aG]:∀fs:?e,?kZ=?DO
 | []=>rfl
 | ?eE=>by
   show ?oN=Aj (fun i=>?fF*φ (?HY i 0)) (fs.length+1);rw[Lat.sumN_fst,NI φ fs]
   have e:Aj (fun j=>sg ?U*φ (?HY ?U 0)) ?hL=-1*?DO:=by
    rw[←Ax];ext sL;show sg ?H*φ ?gS=-1*(?xH);have:sg ?H=-1*?fF:=by unfold sg;omega
    rw[this,qd4]
   rw[e];show _=sg 0*φ f+_;have:sg 0=1:=?bQ
   rw[this];omega
theorem Rj[?bK](e:Int):G6 fs e=wB (fun x=>Ky x e) fs:=by
 rw[NI];exact EG fs e ?hL
 where
 EG (q:?e) (f:Int):∀n,?uG=?UX (fun i=>?fF*Ky (q.getD i 0) f)
  | 0=>rfl
  | n+1=>by
    have e:=EG q f n;show(if q.getD n 0=f then ?uG+1-2*(?C%2) else ?uG)=?UX _+sg n*Ky (q.getD n 0) f;rw[←e];unfold Ky sg;by_cases h:q.getD n 0=f
    . rw[?fA,?fA];omega
    . rw[?bP,?bP];omega
theorem Rz{φ ψ:?K}:∀[?iI],(∀f∈fs,φ f=ψ f)->?kZ=?sY
 | [],_=>rfl
 | ?eE,h=>by
   show ?oN=?MU;rw[h f ?Z,Rz ?wZ]
theorem gC[?aG](t:?K):∀fs:?e,?NA=wB (fun x=>φ (t x)) fs
 | []=>rfl
 | ?eE=>by
   show ?KM-?NA=?KM-?uP;rw[gC φ t fs]
theorem nJ(a b:Int)(φ ψ:?K):∀fs:?e,wB (?YO x) fs=a*?kZ+b*?sY
 | []=>by show ?b6=a*0+b*0;rw[qc7,qc7];rfl
 | ?eE=>by
   show a*φ f+b*ψ f-?uP=a*(?oN)+b*(?MU);rw[nJ a b φ ψ fs,Int.mul_sub,Int.mul_sub];omega
def bl[?Y](g f:?K):Int:=?U7 ?h2 ?iX
theorem Tc[?O](k a b:Int)(φ ψ f:?K):?UB (?YO x) f=a*?UB φ f+b*?UB ψ f:=by
 ext SA
 . rw[nJ,qt8];simp only[qx6]
 . rw[qc7,qc7];rfl
theorem Jx[?O](k a b:Int)(g φ ψ:?K):?UB g (?YO x)=a*?UB g φ+b*?UB g ψ:=by
 ext SA
 . rw[qr3,qd4,qd4]
 . rw[qc7,qc7];rfl
structure Wa[?Y](cs:?aC):Prop where
 told:∀q:Nat,?dK->?h2->∀p:Int,G6 ?iX p=Iz (fun c=>?PC*c.h ?cJ) cs
 self:∀c∈cs,?UB c.g c.f=c.d
 apart:cs.Pairwise fun a b=>?ZE a.g b.f/\?ZE b.g a.f
theorem Wx[?Y](F:?K):∀n,Aj (fun b=>F ((?pS).getD b 0)) ?jV=?JA
 | 0=>rfl
 | n+1=>by
   show _=?JA+(if ?kV then F ?C else 0)
   rw[←Wx xs k F n];by_cases h:?kV
   . rw[?fA,Xx h,qa9];show Aj _ ?jV+F ((?FH).getD ?jV 0)=_
     congr 1
     . refine Ai ?uY;rw[qa1,qb5 hb,←qa1]
     . rw[qa1,?gK,qh6];rfl
   . rw[?bP,bP h,qm5]
theorem r6{sp:?e}(hs:sp.Nodup)(g:?K):∀[?iI],(∀f∈fs,f∈sp)->?VE ?mH=wB g fs
 | [],_=>by
   show ?VE 0=0;rw[Ai (g:=?cM) fun a _=>qc7 _,Md]
 | ?eE,h=>by
   have ih:=r6 hs g (fs:=fs) ?wZ;show ?VE (Ky f (?c5)-?mH)=g f-wB g fs;rw[←ih]
   have e:∀a,a<sp.length->g (?c5)*(Ky f (?c5)-?mH)=(if ?c5=f then g f else 0)+-1*(g (?c5)*?mH):=fun a _=>by
    rw[Int.mul_sub];unfold Ky;by_cases z:f=?c5
    . rw[?a1,?n ?bC,←z];omega
    . rw[?bR,?h fun y=>z y.symm];omega
   rw[?hP,Ce,?a9 hs (h f ?Z),Ax];omega
theorem PX[?j][?aY]{q:Nat}(hq:?dK){k:Int}(hk:?vS):∀f∈?eJ,f∈?bS:=fun f hf=>by
 ext SD
 have F:=?B8;obtain⟨p,hp,hl⟩:=?mD;ext T0
 . rename_i hlt
   refine jO f0 O9m ?_;rw[qa1,hp,Option.getD_some];unfold lev at hl;unfold Bi at hk ⊢;split at hk<;>split<;>omega
 . cases hp
theorem ZG[?j][?aY][?sO]:Lat.bil ?cF (?gH) (Li xs ?W) (fun a=>g (?mS a 0)) (fun b=>f (?rE))=bl xs ?W g f:=by
 rw[Lat.bil_flip];unfold Lat.bil bl;have e:=Wx xs ?W (fun q=>f q*wB g (?YY q.toNat)) ?s;have e2:?U7 ?vS ?iX=?U7 ?vS (?B ((q:Nat):Int).toNat []):=rfl;rw[e2,←e];refine Ai ?uY
 congr 1
 obtain⟨q0,q1,q2⟩:=?LP;change 0<=?rE at q0;change ?rE<_ at q1;show Aj (fun a=>Li xs ?W a b*g (?mS a 0)) ?cF=wB g (?B (?rE).toNat []);rw[←r6 ?NT g (PX hs ?d q2)];refine ?XL ?_;unfold Li;rw[?yT,Rj,qe8]
def My:Ev:=⟨0,?cM,?cM,?cM,?cM⟩
def UW(ds:?e):Prop:=ds.Pairwise fun a b=>a∣b
theorem m8.hand[?j]{j:Int}[?m1][?dB][?AS][?aY]{cs:?aC}(h:Wa xs ?U cs)(hp:∀c∈cs,0<c.d)(hc:UW (?cD (·.d))):?cD (·.d)=?t7:=by
 have eC:∀x,?F7->?uT∈cs:=fun x hx=>by
  rw[qa1,qa0 hx];exact qe5 hx
 have hA:∀a b,a<?tI->b<?FS->Li xs ?U a b=Aj (fun i=>(?iP).r (?mU a 0)*(?iP).d*?QI) ?MG:=fun a b ha hb=>by
  obtain⟨q0,q1,q2⟩:=?LP;have:=?oY ?PE O9m q2 (?mU a 0);rw[show((?PE:Nat):Int)=?rG by omega]at this;unfold Li;rw[show j+1-1=j by omega,this,IZ _ My]
 have hT:=b.lev.told (pB hs j);have pw:=?B6 h.apart;have gE:∀x (hx:?F7),?uT=cs[x]:=fun x hx=>by rw[qa1,qa0 hx];rfl
 have key:=b.fin.dg.hand b.fin.il b.fin.ir b.ch (N:=cs.length) (d:=fun i=>(?iP).d)
  (g:=fun x i=>Aj (fun a=>(?uT).g (?mU a 0)*L i a) ?o1) (fl:=fun y b=>(?g1 y My).f (?rG))
  (r:=fun i a=>Aj (fun c=>G a c*(?iP).r (?mU c 0)) ?o1) (hh:=fun i b=>?QI)
  (fun x hx=>hp _ (eC x hx)) (fun a b ha hab hb=>by
    have:=?B6 hc a b (by rw[qa3];omega) (by rw[qa3];omega) hab;rw[qu2,qu2]at this;show(?g1 a My).d∣(?g1 b My).d;rw[gE a ?d,gE b hb];ext bL) (fun x y hx hy=>by
    rw[←Lat.bil_via (A:=Lat.gT ?o1 G (?EW)) (A':=?EW) (U:=fun a i=>L i a) (n:=z) (n':=?tI) (w:=?FS) hT,ZG hs];rw[gE x hx,gE y hy];by_cases e:x=y
    . subst e;rw[?r];exact ?yN _ (qe5 hx)
    . rw[?d3];rcases Nat.lt_or_gt_of_ne e with q | q
      . exact(pw x y hx hy q).1
      . exact(pw y x hy hx q).2) (fun a b ha hb=>by
    show Aj (fun c=>G a c*Li xs ?U c b) ?o1=_;rw[Ai fun c hc=>by rw[hA c b hc hb,←Ax],Cr];ext sL;rw[←D5,←D5];exact Ai fun c _=>?IG)
 obtain⟨rfl,e⟩:=key;refine List.ext_getElem (by rw[qa3,Jt]) fun i h1 h2=>?_;rw[qa3]at h1;have:=e i h1;rw[qu2,←gE i h1,←this];simp only[Hy,qu2,List.getElem_range]
theorem NO[?j][?dC](h:?yX)[?aY](ds:?I0)(hd:∀j,j<4->(∃cs,?cD (·.d)=ds j/\Wa xs (?cO+1) cs)/\(∀d∈ds j,0<d)/\UW (ds j))[?T3] :
 ?fM+(if k=0 then 0 else(ds ?oZ).length)+(ds k).length=?wL/\?bZ=(ds k).filter ?eI:=by
 obtain⟨_,_,_,zs,ks,Ls,Gs,fs,lp,rp,t,_⟩:=h
 have num:∀j,j<4->ds j=Hy (ks j) ?u7:=fun j hj=>by
  obtain⟨⟨cs,e,hh⟩,p,c⟩:=hd j hj;obtain⟨b,_⟩:=?KO;rw[←e]at p c ⊢;exact b.hand hs hh (fun d hd=>p _ (qm6 hd)) c
 obtain⟨b,e⟩:=t.lv k hk;rw[e]at hp;cases hp;rw[b.count,b.twist,num k hk,Jt];refine⟨?_,rfl⟩;have kz:=b.kz;have zm:=b.zm;cases k with
 | zero =>
   rw[?r,t.z0.1]at *;show ?f0-ks 0+0+ks 0=?f0;omega
 | succ q =>
   have ez:=(t.nx q O9m).1;obtain⟨b',_⟩:=t.lv q O9m;have kw':=b'.kw;rw[?m,qw7,num q ?d,Jt];rw[?XP q ?cJ]at *;omega
structure Sup(L:Nat)(a:Int)(c:Ev):Prop where
 g:∀p:Int,?dZ<=p->c.g p=0
 at0:c.g a=0
 h:?XE ?dZ c.h
 f:?XE ?dZ c.f
def Dw[?Y](L:Nat)(a:Int)(ds:?e):Prop:=∃cs:?aC,?cD (·.d)=ds/\?oA/\∀c∈cs,Sup L a c
theorem LS{ds ds':?e}(h:?RC):∀cs:?aC,?cD (·.d)=ds->∃cs':?aC,cs.Perm cs'/\cs'.map (·.d)=ds':=by
 induction h with
 | nil=>exact fun cs e=>⟨cs,.refl _,e⟩
 | cons x _ ih =>
   intro cs e;cases cs with
   | nil=>simp at e
   | cons c cs =>
     rw[qc8,qr1]at e;obtain⟨cs',p,e'⟩:=ih cs e.2;exact⟨c::cs',p.cons c,by rw[qc8,e.1,e']⟩
 | swap x y l =>
   intro cs e
   match cs,e with
   | c1::c2::cs,e =>
     rw[qc8,qc8,qr1,qr1]at e;exact⟨c2::c1::cs,.swap ..,by rw[qc8,qc8,e.1,e.2.1,e.2.2]⟩
 | trans _ _ a b =>
   intro cs e;obtain⟨c1,p1,e1⟩:=a cs e;obtain⟨c2,p2,e2⟩:=b c1 e1;exact⟨c2,p1.trans p2,e2⟩
theorem Wa.perm[?j]{k:Int}{cs cs':?aC}(h:?oA)(p:cs.Perm cs'):Wa xs k cs' :=
 ⟨fun q hq hk e=>by rw[?oY q hq hk e,kX _ p],fun c hc=>?yN c (p.mem_iff.mpr hc),(p.pairwise_iff fun z=>⟨z.2,z.1⟩).mp h.apart⟩
theorem Dw.perm[?j]{k a:Int}{L:Nat}{ds ds':?e}(h:?s0)(p:?RC):?U6 ds':=by
 obtain⟨cs,e,hh,s⟩:=h;obtain⟨cs',q,e'⟩:=LS p cs e;exact⟨cs',e',hh.perm q,fun c hc=>s c (q.mem_iff.mpr hc)⟩
def YE(d a b a' b' u v u' v':Int)(x y:Ev):Ev:=⟨d,fun p=>a*?l1+b*?kA,?YS a' b',fun p=>u*x.h p+v*y.h p,?YT u' v'⟩
theorem Sup.mix{L:Nat}{a:Int}{x y:Ev}(hx:Sup L a x)(hy:Sup L a y)(d p q p' q' u v u' v':Int):Sup L a (YE d p q p' q' u v u' v' x y):=by
 have z:∀s t:Int,s*0+t*0=0:=fun s t=>by rw[qc7,qc7];rfl
 refine⟨?wO,?_,?wO,?wO⟩
 . show _*x.g e+_*y.g e=0;rw[hx.g e h,hy.g e h,z]
 . show _*x.g a+_*y.g a=0;rw[hx.at0,hy.at0,z]
 . show _*x.h e+_*y.h e=0;rw[hx.h e h,hy.h e h,z]
 . show _*x.f e+_*y.f e=0;rw[hx.f e h,hy.f e h,z]
theorem Dw.share[?j]{k a:Int}{L:Nat}{ds:?e}{g a' b' u v:Int}(uv:u*a'+v*b'=1)(h:?U6 (g*a'::g*b'::ds)):?U6 (g::?fZ::ds):=by
 obtain⟨cs,e,hh,s⟩:=h;obtain⟨x,cs,rfl⟩:?OQ:=?H2
 obtain⟨y,cs,rfl⟩:?OQ:=?H2
 . rw[qc8,qc8,qr1,qr1]at e;obtain⟨ex,ey,e⟩:=e;have ap:=hh.apart;rw[qi2,qi2]at ap;obtain⟨apx,apy,ap⟩:=ap;obtain⟨xy,yx⟩:=apx y ?Z;have xx:=?rJ x ?Z;have yy:=?rJ y (?WD ?Z);rw[ex]at xx;rw[ey]at yy;refine⟨YE g ?hB ?dM 1 1 a' b' u v x y::YE (?fZ) (-1) 1 (-?dM) ?hB (-v) u (-b') a' x y::cs,by rw[qc8,qc8,e];rfl,?yC,?fL⟩
   . rw[hh.told q hq hk p];show ?l1*x.d*?pP+(?kA*y.d*?mL+Iz _ cs)=(u*a'*?l1+v*b'*?kA)*g*(a'*?pP+b'*?mL)+((-1*?l1+1*?kA)*(?fZ)*(-v*?pP+u*?mL)+Iz _ cs)
     rw[ex,ey];generalize ?l1=X;generalize ?kA=Y;generalize ?pP=P;generalize ?mL=R
     grind
   . ext lX
     . show ?UB (?YS 1 1) (?YT u v)=g;ext sH
       grind
     . ext lX
       . show ?ZC (?Z1 p) ?fZ;ext sH
         grind
       . exact ?rJ c (?WD (qb0 _ hc))
   . have out:∀(p q u v:Int),∀c∈cs,?ZE (fun z=>p*x.g z+q*y.g z) c.f/\?ZE c.g (fun z=>u*x.f z+v*y.f z):=fun p q u v c hc=>by
      obtain⟨z1,z2⟩:=apx c (?WD hc);obtain⟨z3,z4⟩:=apy c hc;rw[Tc,Jx,z1,z2,z3,z4]
      grind
     rw[qi2,qi2];refine⟨?fL,fun c hc=>?PT,ap⟩;ext lX
     . constructor
       . show ?ZC (?YS 1 1) 0;ext sH
         grind
       . show ?ZE (?Z1 p) (?YT u v);ext sH
         grind
     . exact ?PT
   . have sx:=s x ?Z;have sy:=s y (?WD ?Z);ext lX
     . exact ?GA
     . ext lX
       . exact ?GA
       . exact s c (?WD (qb0 _ hc))
theorem bez:∀a b:Nat,∃u v:Int,u*(a:Int)+v*(b:Int)=(Nat.gcd a b:Int):=fun a b=>by
 induction a,b using Nat.gcd.induction with
 | H0 n=>exact⟨0,1,by rw[Nat.gcd_zero_left];omega⟩
 | H1 m n hm ih =>
   obtain⟨u,v,e⟩:=ih;refine⟨v-u*?yA,u,?_⟩;rw[Nat.gcd_rec,←e];have h:=Nat.div_add_mod n m;have h':?C=?c0*?yA+?HQ:=by rw[←Int.natCast_mul,←Int.natCast_add,h]
   generalize ?yA=q at h' ⊢;generalize ?HQ=r at h' ⊢;rw[h']
   grind
theorem Ib{t c:Int}(ht:0<t)(hc:0<c):∃a' b' u v:Int,t=?dH*a'/\c=?dH*b'/\u*a'+v*b'=1/\0<?dH/\t*c / ?dH=?dH*a'*b'/\0<a'/\0<b':=by
 have hg:0<?dH:=by
  have:=Int.gcd_pos_of_ne_zero_left c (show t≠0 by omega);omega
 obtain⟨a',ea⟩:=qu3 t c;obtain⟨b',eb⟩:=qq0 t c;obtain⟨u,v,e⟩:=bez t.natAbs c.natAbs;rw[show((t.natAbs:Nat):Int)=t by omega,show((c.natAbs:Nat):Int)=c by omega]at e;have e':u*t+v*c=?dH:=e;generalize ?dH=g at *;refine⟨a',b',u,v,ea,eb,?_,hg,?_,?_,?_⟩
 . refine qs4 (a:=g) O9m ?_;rw[qk0,qt8,←e',ea,eb]
   grind
 . rw[ea,eb,show g*a'*(g*b')=g*(?fZ) by grind,qi9 _ ?d]
 . exact pos hg (by rw[←ea];exact ht)
 . exact pos hg (by rw[←eb];exact hc)
where
 pos {g x:Int} (hg:0<g) (h:0<g*x):0<x:=by
  rcases Int.lt_or_le 0 x with z | z
  . exact z
  . have:=qi5 z (?UR 0 g);rw[qc7]at this;omega
def Bz(n:Int):?e->Int × ?e
 | []=>(n,[])
 | ?dI=>(?jI,?MQ)
theorem Fk{n:Int}[?aL]:∀[?aS],?gX->0<?fK/\∀m∈?fE,0<m
 | [],_=>⟨hn,?GP⟩
 | ?dI,h=>by
   obtain⟨h1,h2⟩:=Fk hn (row:=ts) ?rD;obtain⟨a',b',u,v,ea,eb,uv,hg,el,pa,pb⟩:=Ib (?pX) h1;refine⟨hg,?jY⟩;ext lY
   . rw[el];exact qt7 (qt7 hg pa) pb
   . exact h2 m hm
theorem Mq(n:Int):∀row:?e,(?vC).2.length=row.length
 | []=>rfl
 | ?dI=>by show(?yS).2.length+1=ts.length+1;rw[Mq n ts]
theorem aH(n x:Int):∀[?aS],?gX->0<n->(∀t∈row,x∣t)->∀m∈?fE,x∣m
 | [],_,_,_,m,hm=>?wD
 | ?dI,hp,hn,h,m,hm=>by
   ext lY
   . ext RH;exact qp3 (?pX)
   . exact aH n x (?n7) hn (?rD) m hm
theorem AH{n:Int}[?aL]:∀[?aS],?gX->UW row->UW (?Q2)
 | [],_,_=>List.pairwise_singleton ..
 | ?dI,hp,hc=>by
   ext A1;unfold UW at hc;rw[qi2]at hc;have ih:=AH hn Sr hc.2;unfold UW at ih;rw[qi2]at ih;obtain⟨h1,_⟩:=?KH;obtain⟨a',b',u,v,ea,eb,uv,hg,el,pa,pb⟩:=?OE;have tm:=aH n t Sr hn hc.1;show List.Pairwise _ (?jI::?MQ);ext RV
   have lm:∀m∈?rH,?fZ∣m:=fun m hm=>by
    obtain⟨x,ex⟩:=tm m hm;obtain⟨y,ey⟩:=ih.1 m hm;refine ?EC;have:m=m*(u*a'+v*b'):=?F5
    rw[this,qt8];have e1:m*?hB=c*y*?hB:=?DA
    have e2:m*?dM=t*x*?dM:=?BH
    rw[e1,e2,ea,eb]
    grind
   rw[qi2,qi2];refine⟨?jY,lm,ih.2⟩;ext lY
   . exact ?CT
   . exact qq7 ?CT (lm m hm)
theorem Dw.join[?j]{k a n:Int}{L:Nat}[?aL]:∀[?aS] (rest:?e),?gX->?U6 (n::(row++rest))->?U6 (?fK::(?fE++rest))
 | [],rest,_,h=>h
 | ?dI,rest,hp,h=>by
   ext A1;have h1:=Dw.join hn (t::rest) Sr (h.perm (?xF n List.perm_middle.symm));have h2:?U6 (t::?o6::(?rH++rest)):=?yM ((?xF _ List.perm_middle).trans (List.Perm.swap ..));ext RN;show ?U6 (?jI::?PS::(?rH++rest));rw[el];refine Dw.share uv ?_;rw[←ea,←eb];exact h2
def Er[?m3](n:Int):?e:=if n=1 then row else if 1<?fK then ?Q2 else ?fE
def Gk[?Y](L:Nat)(a:Int)[?m3](D:Nat):Prop:=∃m,?U6 ?r6/\?KT
theorem Gk.ones{xs xs':LLInt}[?m7]{L L':Nat}[?aS]{D:Nat}(h:?PB)(i:Nat)(st:∀ds,?s0->Dw xs' k L' a' (?aH i 1++ds)):Gk xs' k L' a' row (D+i):=by
 ext sF;refine⟨m+i,(st _ h1).perm ?_,O9m,h3,h4⟩;ext SN
theorem Gk.put[?j]{k a n:Int}{L:Nat}[?aS]{D:Nat}[?aL](h:∃m,?U6 (n::?r6)/\?KT):Gk xs k L a (?hK) (D+1):=by
 ext sF;have hp:?nZ:=fun t ht=>by have:=h4 t ht;omega
 unfold Er;have one:∀row:?e,(1::?r6).Perm (row++?aH ?dW 1):=fun row=>List.perm_middle.symm;by_cases e:n=1
 . subst e;rw[?r];exact⟨m+1,?yM (one row),O9m,h3,h4⟩
 . rw[?d3];have hj:=Dw.join hn _ hp h1;obtain⟨q1,q2⟩:=?I6;have ch:=AH hn hp h3;have ln:=?Q3
   have gt:?FA:=fun z hz=>by
    obtain⟨i,hi,rfl⟩:=qj8 hz;have:=eU hn hp h4 _ hz;ext bL
   by_cases c:1<?fK
   . rw[?n c];refine⟨m,hj,by rw[qc9,ln];omega,ch,?LF⟩;ext AJ
     . exact c
     . exact gt t ht
   . rw[?h c];have c1:?fK=1:=O9m
     rw[c1]at hj;refine⟨m+1,hj.perm (one _),by rw[ln];omega,(qi2.mp ch).2,gt⟩
where
 eU {n:Int} [?aL]:∀[?aS],?gX->(?QA)->?FA
  | [],_,_,m,hm=>?wD
  | ?dI,hp,h,m,hm=>by
    ext lY
    . ext RH;have:=?pX;have p:t*1<=t*b':=qi5 O9m O9m;omega
    . exact eU hn (?n7) (?rD) m hm
theorem Gk.told[?j]{k a:Int}{L:Nat}[?aS]{D:Nat}(h:?PB):∃ds,(∃cs:?aC,?cD (·.d)=ds/\?oA)/\(∀d∈ds,0<d)/\UW ds/\ds.length=D/\(ds.filter ?eI)=row:=by
 ext sF;obtain⟨cs,e,hh,_⟩:=?yM List.perm_append_comm;refine⟨_,⟨cs,e,hh⟩,fun d hd=>?_,?_,by rw[qa9,qe0];omega,?_⟩
 . rcases ?lD hd with z | z
   . rw[(?k9 z).2];decide
   . have:=h4 d z;omega
 . refine ?NY ⟨List.pairwise_replicate.mpr (?i (qy1 _)),h3,fun x hx y _=>?_⟩;rw[(?k9 hx).2];exact Int.one_dvd _
 . rw[qg1,?nJ fun n hn=>by rw[?tX];decide,qn1];exact ?wV fun n hn=>qf6 (h4 n hn)
theorem Wy[?dD](a:Nat):∀b,?JX=Aj f a+?MF
 | 0=>(qm5 _).symm
 | b+1=>by
   show ?JX+f (a+b)=Aj f a+(?MF+f (a+b))
   rw[Wy f a b,Int.add_assoc]
def qK(ys:LLInt)(n:Nat)[?sO]:Int:=Aj (fun j=>if ?UD ?HA=k then f ((n+j:Nat):Int)*wB g (?HA) else 0) ys.length
theorem Rs(xs ys:LLInt)[?sO]:bl ?aW k g f=?F4+?W2 g f:=by
 unfold bl qK;rw[qa9,Wy]
 congr 1
 . refine Ai ?kL;rw[qa1,qb5 hq,←qa1]
 . refine Ai ?kL;rw[qa1,?gV,qp0,←qa1]
theorem Ao5[?j]{k:Int}{g f:?K}(h:∀q:Int,q<?l->f q=0):?F4=0:=?VV q
theorem NJ{φ:?K}[?iI](h:∀f∈fs,φ f=0):?kZ=0:=by
 rw[Rz (ψ:=?cM) h]
 induction fs with
 | nil=>rfl
 | cons f fs ih=>show 0-?uP=0;rw[ih ?wZ];rfl
theorem ZF[?eD]{n:Nat}{k:Int}{g f:?K}(h:?XE ?C f):qK ys n k g f=0:=?VV _
theorem Dw.app[?cV][?m7][?A8](cs':?aC)[?sQ](hL':L<=L')[?sK]
 [?SP]
 (tol:∀j y,?F3->?fJ->∀p,?tH=Iz (fun c=>?PC*c.h ?fH) cs')
 (og:∀c∈cs',∀q,?dK->?h2->wB c.g ?iX=0)
 (oh:∀c∈cs',∀q:Int,q<?l->c.h q=0/\c.f q=0)
 (su:∀c∈cs',Sup L' a' c)
 (se:∀c∈cs',?W2 c.g c.f=c.d)
 (ap:cs'.Pairwise fun x y=>?W2 x.g y.f=0/\?W2 y.g x.f=0):Dw ?aW k L' a' (cs'.map (·.d)++ds):=by
 obtain⟨cs,e,hh,s⟩:=h;have get:∀{q:Nat},?C1->ys[q]?=?c (?j4):=fun {q} hq=>?t3
 have gy:∀c∈cs,∀f:?K,?W2 c.g f=0:=fun c hc f=>?qZ fun q hq=>by
  split
  . rename_i hl
    rw[NJ fun z hz=>?_,qc7];rcases fc _ (qb7 (get hq)) hl z hz with w | w
    . rw[w];exact(?uF).at0
    . exact(?uF).g z w
  . rfl
 have gx:∀c∈cs',∀f:?K,?ZE c.g f:=fun c hc f=>?qZ fun q hq=>by
  split
  . rename_i hl
    rw[og c hc q hq hl,qc7]
  . rfl
 have fx:∀c∈cs',∀g:?K,?ZE g c.f:=fun c hc g=>Ao5 fun q hq=>(oh c hc q hq).2;refine⟨cs'++cs,by rw[qb8,e],?yC,?fL⟩
 . rw[W0];by_cases hq':?dK
   . rw[qa1,qb5 hq',←qa1]at hk ⊢;rw[Ts fun c hc=>by rw[(oh c hc ?cJ ?d).1,qc7],qk9];exact hh.told q hq' hk p
   . obtain⟨j,rfl⟩:∃j,q=?NB:=⟨q-xs.length,O9m⟩
     rw[qa9]at hq;rw[qa1,?gV,qp0,←qa1]at hk ⊢;rw[tol j _ (get ?d) hk p,Ts (cs:=cs) fun c hc=>by rw[(?uF).h _ ?d,qc7],qm5]
 . rw[Rs];rcases ?lD hc with z | z
   . rw[gx c z,qk9];exact se c z
   . rw[gy c z,qm5];exact ?rJ c z
 . refine ?NY ⟨ap.imp_of_mem ?HK,hh.apart.imp_of_mem ?HK,fun x hx y hy=>?_⟩
   . rw[Rs,Rs,gx x hx,gx y hy,z.1,z.2];exact ?hE
   . rw[Rs,Rs,gy x hx,gy y hy,z.1,z.2];exact ?hE
   . rw[Rs,Rs,gx x hx,fx x hx,gy y hy,ZF fun q hq=>(s y hy).f q ?d];exact ?hE
 . rcases ?lD hc with z | z
   . exact su c z
   . have:=s c z;refine⟨?XH this.g,?_,?XH this.h,?XH this.f⟩;rcases ha' with rfl | w
     . exact this.at0
     . exact this.g _ w
theorem Dw.none[?cV][?m7][?A8][?sQ](hL':L<=L')[?sK]
 (fc:∀y∈ys,?fJ->(?N3)/\?BM):Dw ?aW k L' a' ds :=
 h.app [] hL hL' ha' (fun y hy z=>(fc y hy z).1) (fun j y hy z p=>(fc y (qb7 hy) z).2 p) ?mA ?mA ?mA ?mA ?hC
theorem Dw.one[?cV]{k a a' p0:Int}[?A8][?sQ](hL':?UQ ys.length<=L')[?sK](hp:?dZ<=p0/\p0<?MH/\p0≠a')
 (ox:∀q,?dK->?h2->p0 ∉ ?eJ)
 [?SP] [?S2]
 [?T2]:Dw ?aW k L' a' (1::ds):=by
 have hj':=?tY;refine h.app [⟨1,fun p=>?t1,?EF,fun q=>if ?l<=q/\q<?MH then 1 else 0,?H5⟩] hL O9m ha' fc (fun j y hy hk p=>?_) (fun c hc q hq hk=>?_) (fun c hc q hq=>?_) (?fL) (?fL) (List.pairwise_singleton ..)
 . have hjl:=(?b1 hy).1;show _=?t1*1*(if _ then 1 else 0)+0;rw[?a4,al y (qb7 hy) hk p];omega
 . rw[?s1];refine NJ ?eT;show(if f=p0 then ?b2 else 0)=0;exact ?h fun z=>ox q hq hk (by rw[←z];exact hf)
 . rw[?s1];exact ?DS
 . rw[?s1];exact⟨?tW,?h fun z=>hp.2.2 ?bC,?tW,?tW⟩
 . rw[?s1];show ?W2 (?EF) (?H5)=1;unfold qK;rw[?l0 hj' fun j _ ne=>by show ?VJ 0;rw[?h (show ¬?fH=?N9 by omega),qg4,ite_self]];have e:?hV j0 []=y0:=by rw[qa1,hj];rfl
   show ?VJ 1;rw[e,?n hl,?r,qd1];rw[Rj]at h1;exact h1
def Cj(b:Int)[?m0]:?e:=(?UH 1)::(?UH ?H)::(?gR)::tl
def VX(b s:Int)(n:Nat)(tl:?e):Ev:=⟨n,fun p=>?p7-?j1,fun p=>if p=b then n else ?H7,?Z4 s,fun q=>if s<=q/\q<s+n then 1 else 0⟩
def dC(b s:Int)[?m0]:Ev:=⟨1,fun p=>?qU,fun p=>if p=b\/(b+i<p/\p<b+n) then -1 else 0,fun q=>if q=s+i then 1 else if q=s then -1 else 0,fun q=>if q=s+i then 1 else 0⟩
theorem IW[?aG](b:Int)(n:Nat)[?m5](h:?M3=0)(m:Nat):wB φ (?WG m)=φ (?UH 1)-φ (?UH ?dW)+φ (?fW):=by
 show φ _-(φ _-(φ _-?M3))=_;rw[h];omega
theorem jK{n:Nat}(h:0<n):1%n=if n=1 then 0 else 1:=by
 split
 . rename_i e;subst e;rfl
 . exact Nat.mod_eq_of_lt O9m
theorem Sn{n m:Nat}(h:m<n):?dW%n=if m+1=n then 0 else m+1:=by
 split
 . rename_i e;rw[e,Nat.mod_self]
 . exact Nat.mod_eq_of_lt O9m
theorem wR{b s:Int}{n:Nat}[?m5][?sI]{m:Nat}(hm:m<n):wB (VX b s n tl).g (?WG m)=if m=0 then ?C else 0:=by
 have t0:wB (VX b s n tl).g tl=0:=NJ fun f hf=>by
  ext S7;have:=ht f hf;ext e6
 rw[?R2,jK ?d,Sn hm];show(if b+_=b then ?C else if ?V7 b then b+_-b else 0)-(if b+_=b then ?C else if ?V7 b then b+_-b else 0)+(if b+_=b then ?C else if ?V7 b then b+_-b else 0)=_;by_cases n1:n=1
 . subst n1;have:m=0:=O9m
   subst this;simp
 . rw[?h n1]
   repeat' split
   all_goals omega
theorem RM{b s:Int}{n:Nat}[?m5][?sI]{i m:Nat}(hi:0<i)(hin:i<n)(hm:m<n):wB (dC b s n tl i).g (?WG m)=if m=i then 1 else if m=0 then -1 else 0:=by
 have t0:wB (dC b s n tl i).g tl=0:=NJ fun f hf=>by
  show(if f=b\/(b+i<f/\f<b+n) then ?lS else 0)=0;have:=ht f hf;ext eA
 rw[?R2,jK ?d,Sn hm];show(if ?YX b then ?lS else 0)-(if ?YX b then ?lS else 0)+(if ?YX b then ?lS else 0)=_;rw[?h (show ¬n=1 by omega)];rw[?h (show ¬(b+?o5=b\/(?gR<b+?o5/\b+?o5<b+n)) by omega)];by_cases m0:m=0
 . subst m0;rw[?h (show ¬0+1=n by omega),?m,?a4,?m,?r];rfl
 . by_cases mi:m=i
   . subst mi;rw[?r,?h (show ¬(?fW=b\/(?fW<?fW/\?fW<b+n)) by omega)];by_cases ml:m+1=n
     . rw[?n ml,?a4];rfl
     . rw[?h ml,?a4];rfl
   . rw[?h mi,?h m0];by_cases ml:m+1=n
     . rw[?n ml,?a4,?a4];rfl
     . rw[?h ml];by_cases lt:m<i
       . ext e6;rfl
       . rw[?a4,?a4];rfl
theorem EH(b:Int)[?m0](p:Int):?qU=?p7-Ky (?UH ?H) p+Ky (?gR) p-?j1:=by
 rw[Rj,Rj];show ?mV-(?mV-(?mV-wB _ tl))=_;omega
theorem pY(b:Int){n:Nat}(tl:?e)(p:Int)[?aL]:?UX (fun i=>?qU)=n*(?p7-?j1):=by
 have Ax5:∀j,j<n->Aj (fun i=>?qU) j=j*(?p7-?j1)-Ky (b+?cO) p+?f3:=fun j=>by
  induction j with
  | zero=>intro _;show ?b6=?eV*_-Ky (b+0) p+?f3;rw[qm5];ext aZ
  | succ j ih =>
    intro hj;show Aj _ j+?G3=_;rw[ih ?d,EH,?DE,?m];rw[?FK,qr3];omega
 obtain⟨j,rfl⟩:∃j,n=j+1:=?LJ
 show Aj _ j+G6 (Cj b ?U tl j) p=_;rw[Ax5 j ?d,EH,?DE,?r];rw[?FK,qr3,show b+?eV=b by omega];omega
theorem Dw.disc[?j]{k a a' b:Int}{L L' n:Nat}{tl ds:?e}(h:?s0)[?aL][?sQ](hL':?UQ n<=L')[?sK](hb:?dZ<=b/\b+n<=?l)(hab:a'<b\/b+n<=a')
 (ox:∀q,?dK->?h2->∀f∈?eJ,?JW)
 [?sI] (ht2:∀f∈tl,?dZ<=f) (hk:Bi (?xM)=k):Dw (xs++?e0) k L' a' (?C::(?PY++ds)):=by
 have dl:∀i,?WX ?g8 ?xM:=fun i=>rfl;have ysl:?WX ?e0 n:=by rw[qa3,qe7]
 have get:∀j y,(?e0)[j]?=?nG->j<n/\y=?iM:=fun j y e=>by
  have hj:=?HX;rw[ysl]at hj;rw[qb2,qi8 hj]at e;exact⟨hj,(qb6 e).symm⟩
 have bn:∀g f:?K,qK (?e0) ?s k g f=?UX (fun j=>f (?l+j)*?QD):=fun g f=>by
  unfold qK;rw[ysl];refine Ai ?jZ;have e:(?e0).getD j []=?iM:=by rw[qa1,qb2,qi8 hj];rfl
  rw[e,?n (by rw[dl];exact hk),show ?fH=?l+j by omega]
 have mem:∀c∈?kH::?yU (?yY),c=?kH\/∃i,0<i/\i<n/\c=?KS:=fun c hc=>by
  rcases ?fG hc with z | z
  . exact ?g z
  . obtain⟨i,hi,rfl⟩:=?aF z;have:=?fO;exact ?i ⟨i+1,O9m,O9m,rfl⟩
 have key:=h.app (ys:=?e0) (a':=a') (L':=L') (?LZ) hL O9m ha' (fun y hy _ f hf=>by
  obtain⟨i,hi,rfl⟩:=?qN;have:=?fO;ext SG;right;ext iA
  . omega
  ext iA
  . omega
  ext iA
  . omega
  . exact ht2 f hf) (fun j y hy _ p=>by
  obtain⟨hj,rfl⟩:=get j y hy;show ?G3=(?kH).r p*n*(if ?fH=?l then 1 else 0)+Iz _ (?yU ?yY);rw[dI]
  have e:∀i,i<n-1->(?jJ).r p*(?jJ).d*(?jJ).h ?fH=?xN*(if ?qV then 1 else if j=0 then -1 else 0):=fun i _=>by
   show ?xN*1*(if ?fH=?l+?y5 then 1 else if ?fH=?l then -1 else 0)=_;rw[qk0]
   congr 1
   by_cases z:?qV
   . ext sE
   . ext sD;by_cases z:j=0
     . ext sE
     . ext sD
  rw[?hP];by_cases j0:j=0
  . subst j0;rw[?a4,Ai (g:=fun i=>-1*?xN) fun i _=>by rw[?m,?r,qe8],Ax];have fs:=pY b tl p hn;obtain⟨m,rfl⟩:∃m,n=m+1:=?LJ
    rw[Lat.sumN_fst]at fs;show _=?DI*_*1+_;rw[qw7,qk0,qe8 ?DI,←fs];omega
  . rw[?m,qc7,qk9,?l0 (j:=j-1) ?d fun i _ ne=>by rw[?m,?h j0,qc7]];rw[?a4,qk0,show j-1+1=j by omega]) (fun c hc q hq hl=>by
  refine NJ ?eT;have:=ox q hq hl f hf;ext s9
  . ext S7;ext e6
  . exact ?dP) (fun c hc q hq=>by
  ext s9
  . exact ?DS
  . refine⟨?_,?dP⟩;show ?VG q q;ext e6) (fun c hc=>by
  ext s9
  . refine⟨?gJ,?_,?mO,?mO⟩
    . show(if p=b then ?C else ?H7)=0;ext e6
    . show(if a'=b then ?C else if b<a'/\a'<b+n then a'-b else 0)=0;ext e6
  . refine⟨?mO,?dP,?gJ,?mO⟩;show ?VG p p;ext e6) (fun c hc=>by
  rw[bn];ext s9
  . rw[?l0 hn fun j hj ne=>by rw[wR ht hj,?eU,qc7],wR ht hn,?r];show(if ?l<=?l+?eV/\?l+?eV<?l+n then ?b2 else 0)*n=n;ext AR
  . rw[?l0 hi fun j hj ne=>by
     ext RM,RM ht i0 hi hi,?r]
    show ?WW 1=1;rw[?r];rfl) (by
  have fi:∀i,i<n->∀g:?K,?UX (fun j=>(?KS).f (?l+j)*?QD)=wB g (?g8):=fun i hi g=>by
   rw[?l0 hi fun j hj ne=>by
    ext RM]
   show ?WW _=_;ext m2
  refine qi2.mpr ⟨?fL,qs8.mpr (List.pairwise_lt_range.imp_of_mem fun {x y} hx hy hxy=>?_)⟩
  . obtain⟨i,hi,rfl⟩:=?aF hc;have hi':=?fO;rw[bn,bn,fi ?H ?d,wR ht ?d,?m];refine⟨rfl,?_⟩
    have e:∀j,j<n->(?kH).f (?l+j)*wB (?jJ).g (?iM)=(if ?qV then 1 else 0)*(fun _:Nat=>?b2) j+(if j=0 then 1 else 0)*(fun _:Nat=>?lS) j:=fun j hj=>by
     rw[RM ht ?d ?d hj];show(if ?l<=?v1/\?v1<?l+n then ?b2 else 0)*_=_;ext AR;by_cases z:?qV
     . rw[?a1,?a1,?m];rfl
     . ext sM;by_cases z:j=0
       . rw[?a1,?a1];rfl
       . ext sM;rfl
    rw[?hP,Ce,Cn,Cn,?a4,?n hn];rfl
  . have hx':=?fB hx;have hy':=?fB hy;rw[bn,bn,fi (y+1) ?d,fi (x+1) ?d,?LW,?LW];rw[?m,?m,?m,?m];exact ?hE)
 have e:(?LZ).map (·.d)=?C::?PY:=by
  rw[qc8,ql5]
  congr 1
  refine List.eq_replicate_iff.mpr ⟨?jU,?w9⟩;obtain⟨i,_,rfl⟩:=?aF hx;rfl
 rw[e]at key;exact key
theorem rW{F:?p}{t n:Nat}(h:t+1<n):?UX (fun q=>F (?mB))=?UX F:=by
 refine Lat.sumN_pair (p:=t) (q:=t+1) O9m h O9m (fun k _ h1 h2=>?_) ?_
 . show F (?lO)=F k;unfold Vt;rw[?iU,?mW]
 . show F (Vt t t)+F (Vt t ?dN)=F t+F ?dN;unfold Vt;rw[?r,?m,?r,Int.add_comm]
theorem BF(t x:Int):?FJ=x:=by
 unfold Nw
 repeat' split
 all_goals omega
theorem YL(t x p:Int):?EK=?MA:=by
 unfold Ky;by_cases h:Nw t x=p
 . rw[?fA,?n (by rw[←h,BF])]
 . rw[?bP,?h fun z=>h (by rw[z,BF])]
theorem Ww[?fQ](q:Nat):?wY=(?hV (?mB) []).map ?lG:=by
 rw[qa1,Tr h,qa1];cases ys[?mB]?<;>rfl
def swC(t:Int)(c:Ev):Ev:=⟨c.d,fun p=>c.r ?hQ,fun p=>c.g ?hQ,?XG c.h,?XG c.f⟩
theorem QJ[?fQ][?sO]:bl ?i2 k (fun p=>g ?hQ) (?XG f)=bl ys k g f:=by
 unfold bl;rw[Tq h,←rW (F:=fun q=>if ?UD ?j4=k then f ?cJ*wB g (?j4) else 0) h];refine Ai fun q _=>?_;show(if ?UD ?wY=k then f (Nw t ?cJ)*wB (fun p=>g ?hQ) (?wY) else 0)=_;rw[Ww h,qa3,gC,Wc];rw[Rz (φ:=fun x=>g (?FJ)) (ψ:=g) fun x _=>by rw[BF]]
theorem iZ[?iJ](m:Ev->Ev):∀cs:?aC,Iz F (?cD m)=Iz (fun c=>F (m c)) cs
 | []=>rfl
 | ?eM=>by show F (m c)+_=F (m c)+_;rw[iZ F m cs]
theorem Wa.swap[?eD]{k:Int}{cs:?aC}{t:Nat}(h:?I7)(ht:?qP):Wa ?i2 k (?E2):=by
 refine ?yC
 . rw[Tq ht]at hq;rw[Ww ht,qa3]at hk
   have hq':?mB<ys.length:=by
    unfold Vt
    repeat' split
    all_goals omega
   rw[Ww ht,Rj,gC,Rz (φ:=fun x=>?EK) (ψ:=fun x=>?MA) fun x _=>YL ..,←Rj,?oY _ hq' hk,iZ];refine Wz fun c _=>?_;show _=c.r ?hQ*c.d*c.h (Nw t ?cJ);rw[Wc]
 . obtain⟨c',hc',rfl⟩:=?aF hc;exact(QJ ht k c'.g c'.f).trans (?yN c' hc')
 . exact qs8.mpr (h.apart.imp fun z=>⟨?OL z.1,?OL z.2⟩)
def cL(k:Int)[?O]:Nat:=(xs.filter ?ID).length
theorem jI[?Y]:∀n,n<=xs.length->?jV=cL k (?nT n)
 | 0,_=>rfl
 | n+1,h=>by
   have e:?nT ?x=?nT n++[?JQ]:=by rw[qh8,?gD,qa1,?gD];rfl
   have ih:=jI xs k n O9m;unfold cL at ih ⊢;rw[e,qg1,qa9,←ih];by_cases z:?kV
   . rw[Xx z,qa9,qt5 (?s3)];rfl
   . rw[bP z,qt6 (?s3)];rfl
theorem dW[?Y]:?g4=cL k xs:=by
 show ?WX ?MY _;rw[jI xs k _ ?y,qg0]
theorem cR(k:Int)(xs ys:LLInt):cL k ?aW=cL k xs+?rZ:=by
 unfold cL;rw[qg1,qa9]
theorem Zm{k:Int}[?eD](h:∀y∈ys,?fJ):?rZ=ys.length:=by
 unfold cL;rw[?wV fun y hy=>qf6 (h y hy)]
theorem fO{k:Int}[?eD](h:?BD):?rZ=0:=by
 unfold cL;rw[?nJ fun y hy=>by simpa using h y hy];rfl
theorem rV[?fQ](k:Int):cL k ?i2=?rZ:=by
 unfold cL Jl;rw[qv2,qa3]
 have e1:((fun x:?e=>?o (Bi x.length=k)) ∘ fun p=>?FG ?lG p)=?ID:=by
  funext x
  show ?o (Bi (?FG ?lG x).length=k)=_;rw[qa3]
 rw[e1]
 have e:ys=?FE:=by
  rw[qa1,qa0 (?TW t ys.length),qa1,?gD];show ys=?pY++(ys[t]::ys[t+1]::ys.drop (t+1+1))
  rw[←qo0 h,←qo0 (?TW t ys.length),List.take_append_drop]
 have p:(?k0).Perm ys:=by
  refine List.Perm.trans (l₂:=?FE) ?_ (by rw[←e]);unfold Gf;rw[qj9];exact(List.Perm.swap ..).append_left _
 exact(p.filter _).length_eq
theorem Turned.hand[?lV]{k:Int}{ds:?e}(hh:∃cs:?aC,?cD (·.d)=ds/\?oA):∃cs:?aC,?cD (·.d)=ds/\?I7:=by
 induction h with
 | refl=>exact hh
 | step t h1 h2 h3 ih =>
   obtain⟨cs,e,c⟩:=ih;exact⟨?E2,by rw[ql5,←e];rfl,c.swap h2⟩
theorem Turned.cL[?lV](k:Int):C7 ys k=?g4:=by
 rw[dW,dW]
 induction h with
 | refl=>rfl
 | step t h1 h2 h3 ih=>exact(rV h2 k).trans ih
theorem Dt[?j]{y c0:?e}{e:Int}(hy:y.length=0\/y.length=2\/?ND\/y.length=4)(h:∀f∈y,∃m:Nat,f=?c0/\?x1=?c c0)(hl:lev c0+1=lev y\/y=[])(hc:∀x∈c0,x=e):fY xs y:=by
 refine⟨hy,?eT,?eT,fun h3 i j f g q r hij hj hi hq hr=>?_⟩
 . obtain⟨m,rfl,_⟩:=h f hf;omega
 . obtain⟨m,rfl,hm⟩:=h f hf;refine⟨c0,hm,?_⟩;rcases hl with z | z
   . exact z
   . rw[z]at hf;exact ?kO
 . obtain⟨m,rfl,hm⟩:=h f (qb7 hj);obtain⟨m',rfl,hm'⟩:=h g (qb7 hi);rw[qd6]at hq hr;rw[hm]at hq;rw[hm']at hr;cases hq;cases hr;have hjl:=?tY
   have cl:c0.length+1=y.length:=by
    rcases hl with z | z
    . unfold lev at z;omega
    . rw[z]at h3;simp at h3
   have at_:∀i,i<c0.length->c0[i]?=?c e:=fun i hi=>by
    rw[qa0 hi,hc _ (qe5 hi)]
   rw[at_ i ?d,at_ (j-1) ?d]
theorem kZ[?cV](h:?hH)(hf:?QG):Ci ?aW:=fun k p hk=>by
 by_cases hlt:?XO k
 . rw[qb5 hlt]at hk;rw[List.take_append_of_le_length ?d];exact h k p hk
 . rw[?gV]at hk;rw[List.take_append,qm8 ?d];exact hf _ p hk
theorem EZ[?j][?aY]{q:Nat}(hq:?dK):∀f∈?eJ,0<=f/\f<?l:=fun f hf=>by
 ext SD
 have F:=?B8;obtain⟨p,hp,_⟩:=?mD;ext T0
 . omega
 . cases hp
structure L82[?O](a c0 c1 c2 c3:Int)(low high:?e):Prop where
 sh:?hH
 pt:?KW
 st:∃D0 D1 D2:Nat,Gk xs 1 ?s a [] D0/\Gk xs 2 ?s a low D1/\Gk xs 3 ?s a ?aM D2/\c0+D0=?f0/\c1+D0+D1=?VY 1/\c2+D1+D2=?VY 2/\c3+D2=?VY 3
theorem lU:L82 [[]] 0 1 0 0 0 [] []:=by
 have st:∀k:Int,k≠0->Gk [[]] k 1 0 [] 0:=fun k hk=>⟨0,⟨[],rfl,⟨fun q hq z=>?I ?bC (by
  have:q=0:=by simp at hq;exact hq
  subst this;exact hk),?yW,?hC⟩,?yW⟩,rfl,?hC,fun t ht=>(nomatch ht)⟩
 refine⟨fun k p hk=>?_,(?VM 0 rfl),0,0,0,st 1 ?aD,st 2 ?aD,st 3 ?aD,?_,?_,?_,?_⟩
 . have:p=[]:=by simpa using qb7 hk
   subst this;exact ?GB
 all_goals (rw[dW];rfl)
theorem L82.put[?cV]{a a' c0 c1 c2 c3 e0 e1 e2 e3:Int}{low high low' vU:?e}[?bW](m0 m1 m2:Nat)(fit:?QG)(pt:∃m:Nat,a'=?c0/\?R5)
 (s1:∀D,?XB 1 []->Gk ?aW 1 ?eY a' [] (D+m0)) (s2:∀D,?XB 2 low->Gk ?aW 2 ?eY a' low' (D+m1)) (s3:∀D,?XB 3 ?aM->Gk ?aW 3 ?eY a' vU (D+m2))
 (n0:e0+m0=cL 0 ys) (n1:e1+m0+m1=cL 1 ys) (n2:e2+m1+m2=cL 2 ys) (n3:e3+m2=cL 3 ys):L82 ?aW a' (c0+e0) (c1+e1) (c2+e2) (c3+e3) low' vU:=by
 ext SR;rw[dW]at u0 u1 u2 u3;refine⟨kZ ?dT fit,pt,D0+m0,D1+m1,D2+m2,s1 _ t1,s2 _ t2,s3 _ t3,?_,?_,?_,?_⟩
 all_goals (rw[dW,cR];omega)
theorem Gk.none[?cV][?m7][?aS][?sB][?TE]
 (fc:∀y∈ys,?fJ->(?IM)/\?BM):?L4:=by
 refine h.ones 0 ?R0;have hl:xs.length<=?eY:=?vD
 exact hd.none ?y hl ha' fc
theorem Gk.no[?cV][?m7][?aS][?sB][?TE](fc:?BD):?L4:=h.none ha' fun y hy z=>?I z (fc y hy)
theorem Gk.one[?cV]{k a p0:Int}[?aS][?sB][?aY](ha:a<?l)(hp:?l<=p0/\p0<(?eY:Int))
 (fc:∀y∈ys,?fJ->?IM) [?S2]
 [?T2]:Gk ?aW k ?eY a row (D+1):=by
 refine h.ones 1 ?R0;exact hd.one ?y (?vD) ?J ⟨hp.1,hp.2,O9m⟩ (fun q hq _ z=>by have:=(EZ hs hq _ z).2;omega) fc hj hl h1 al
theorem Gk.disc{xs ps:LLInt}{k a b:Int}{n:Nat}{row tl:?e}[?sB][?aY](ha:a<?l)[?aL](hps:∀y∈ps,Bi y.length≠k)(hb:?l<=b/\b+n<=((xs++ps).length:Int))
 [?sI] (ht2:∀f∈tl,?l<=f) (hk:Bi (?xM)=k):Gk (xs++(ps++?e0)) k ?K6 a (?hK) (D+n):=by
 ext sF;have h5:Dw (xs++ps) k ?s a ?r6:=h1.none ?y ?y ?J fun y hy z=>?I z (hps y hy)
 have h6:=h5.disc (a':=a) (b:=b) (tl:=tl) (L':=?K6) hn (?vD) (by simp only[qa9,qa3,qe7];omega) ?J hb (?g O9m) (fun q hq hl f hf=>by
  left;rw[qa9]at hq;by_cases hq':?dK
  . rw[qa1,qb5 hq',←qa1]at hf;have:=(EZ hs hq' f hf).2;omega
  . rw[qa1,?gV,?n0]at hl;exact ?I hl (hps _ (?eK))) ht ht2 hk
 rw[qj9]at h6;have h7:=Gk.put (D:=D+?l9) (show ?b6<?C by omega) ⟨m+?l9,h6.perm (?xF _ ?_),O9m,h3,h4⟩
 . rw[show D+n=D+?l9+1 by omega];exact h7
 . ext SN
theorem Hh[?cV]{i j:Nat}{c:?e}(hij:i<j)(h:ys[i]?=?n9):(xs++?qX j)[?UQ i]?=?n9:=by
 rw[?gV,qp0,qi3,?n hij,h]
theorem GO[?j]{m:Nat}{c:?e}(h:?x1=?n9)(zs:LLInt):?KZ[m]?=?n9:=by
 rw[qb5 (?b1 h).1,h]
theorem z8[?j][?A5]:a<?l:=by
 obtain⟨m,rfl,hm⟩:=h;have:=(?b1 hm).1;omega
theorem Re[?j][?A5](ys:LLInt):∃m:Nat,a=?c0/\?R5:=by
 obtain⟨m,rfl,hm⟩:=h;exact⟨m,rfl,GO hm ys⟩
theorem AN(zs:LLInt):fY zs []:=?GB
theorem Iv[?j][?A5](zs:LLInt):fY ?KZ ?Q:=by
 obtain⟨m,rfl,hm⟩:=h;ext RO
 have:f=?c0:=?dX
 exact⟨m,?aR,GO hm zs⟩
theorem ON(a p:Int):G6 ?Q p=0:=by rw[AA];omega
theorem Kc{a:Int}{L:Nat}:(∀f∈?Q,?EA)/\∀p,G6 ?Q p=0:=⟨fun f hf=>?g (?dX),ON a⟩
theorem FA{b:Int}{n i:Nat}[?m5][?aL](hi:i<n):∀f∈?g8,(∃m:Nat,m<n/\f=?fW)\/f∈tl:=fun f hf=>by
 ext SG;ext iA
 . exact ?g (?VM _ m1)
 ext iA
 . exact ?g (?VM _ m2)
 ext iA
 . exact ?g (?VM _ hi)
 . exact ?i hf
section
variable[?j][?AE]
def Pg[?sR]:LLInt:=?aH n ?Q++?p4 (Cj b n [])
theorem AQ[?B0]{y:?e}(h:(?zB)[j]?=?nG):(j<n/\?cY)\/(n<=j/\j-n<n/\y=Cj b n [] (j-n)):=by
 unfold Pg at h;by_cases hj:j<n
 . rw[qb5 (by rw[qe0];exact hj),qk8,?n hj]at h;exact ?g ⟨hj,?w7⟩
 . rw[qb9 (by rw[qe0];omega),qe0,qb2]at h
   have hl:j-n<n:=by
    rcases qf7 (j-n) n with z | z
    . exact z
    . rw[qf9 (by rw[qe7];exact z)]at h;cases h
   rw[qi8 hl]at h;exact ?i ⟨O9m,hl,?w7⟩
theorem L82.disc[?bW]{n:Nat}[?aL]:L82 (xs++?v5) a ?eO ?gN ?g7 ?eX (?uL) ?aM:=by
 ext iF
 have mem:∀y∈?v5,?cY\/∃i,i<n/\y=Cj ?s n [] i:=fun y hy=>by
  obtain⟨j,hj⟩:=?wU;rcases AQ hj with z | z
  . exact ?g z.2
  . exact ?i ⟨_,z.2⟩
 have cl:∀k,cL k (?v5)=(if k=1 then n else 0)+(if k=2 then n else 0):=fun k=>by
  unfold Pg;rw[cR]
  congr 1
  . split
    . ext SC
    . ext S0
  . split
    . ext RW
    . ext RU
 refine ?hT 0 n 0 ?h4 ?kN ?aA ?aA ?aA (by rw[cl];rfl) ?l4 ?l4 (by rw[cl];rfl)
 . rcases AQ hy with⟨hj,rfl⟩|⟨hj,hl,rfl⟩
   . exact ?oQ
   . ext s7
     ext T4
     . refine⟨?UQ m,O9m,Hh O9m ?_⟩;unfold Pg;rw[qb5 (by rw[qe0];exact hm),qk8,?n hm]
     . exact nomatch z
 . ext i9;rcases ?bM with rfl|⟨i,_,rfl⟩
   . exact Kc
   . ext i8
 . unfold Pg;refine ?XF (fun f hf=>?kO) (fun f hf=>?kO)
   . rw[?x6];ext sN
   . rw[qa9,qe0];omega
 . refine ?c6 ?J ?uA;rcases ?bM with rfl|⟨i,_,rfl⟩
   . ext fR
   . ext iD
def Pc[?sR]:LLInt:=?Q::?aH ?x ?fI
def Jm[?sR]:LLInt:=?v8++?p4 (Cj (b+2) n [b+1])
theorem Pt[?B0](hj:j<n+2):(?v8)[j]?=?c (if j=0 then ?Q else ?fI):=by
 unfold Pc;cases j with
 | zero=>rfl
 | succ j=>rw[qt4,qk8,?a4,?m]
theorem Fl[?sR]:(?v8).length=n+2:=by unfold Pc;rw[qc9,qe0]
theorem aK[?B0]{y:?e}(h:(?tK)[j]?=?nG):(j=0/\?cY)\/(0<j/\j<n+2/\y=?fI)\/(n+2<=j/\j-(n+2)<n/\y=Cj (b+2) n [b+1] (j-(n+2))):=by
 unfold Jm at h;by_cases hj:j<n+2
 . rw[qb5 (by rw[Fl];exact hj),Pt hj]at h;have h:=qb6 h;by_cases j0:j=0
   . rw[?n j0]at h;exact ?g ⟨j0,?rQ⟩
   . rw[?h j0]at h;exact ?i (?g ⟨O9m,hj,?rQ⟩)
 . rw[qb9 (by rw[Fl];omega),Fl,qb2]at h
   have hl:j-(n+2)<n:=by
    rcases qf7 (j-(n+2)) n with z | z
    . exact z
    . rw[qf9 (by rw[qe7];exact z)]at h;cases h
   rw[qi8 hl]at h;exact ?i (?i ⟨O9m,hl,?w7⟩)
theorem bT(b p:Int):G6 ?fI p=?f3:=by rw[Vf];omega
theorem O9(b:Int):Ky b b=1:=?r
theorem L82.hdisc[?bW]{n:Nat}[?aL]:?X5 ?jE (?z8):=by
 ext iF
 have mem:∀y∈?jE,?cY\/?k5\/∃i,i<n/\y=Cj (?q4) n [?q2] i:=fun y hy=>by
  obtain⟨j,hj⟩:=?wU;rcases aK hj with z | z | z
  . exact ?g z.2
  . exact ?i (?g z.2.2)
  . exact ?i (?i ⟨_,z.2⟩)
 have len:(?jE).length=n+2+n:=by unfold Jm;rw[qa9,Fl,qa3,qe7]
 have cl:∀k,cL k (?jE)=(if k=1 then 1 else 0)+(if k=2 then n+1 else 0)+(if k=3 then n else 0):=fun k=>by
  unfold Jm Pc;rw[cR,show(?Q::?O1)=?nK++?O1 from rfl,cR]
  congr 1
  . congr 1
    . split
      . rename_i e;rw[?XY ?uU];rfl
      . rename_i e;exact ?VI ?uU
    . split
      . ext SC
      . ext S0
  . split
    . ext RW
    . ext RU
 refine ?hT 0 1 n ?h4 ?kN ?aA ?aA ?aA ?l4 ?l4 (by rw[cl];ext aZ) ?l4
 . rcases aK hy with⟨hj,rfl⟩|⟨hj,hl,rfl⟩|⟨hj,hl,rfl⟩
   . exact ?oQ
   . ext s7
     ext i7
     exact⟨?wE,O9m,Hh hj (by unfold Jm Pc;rfl)⟩
   . have at_:∀m,0<m->m<n+2->(?jE)[m]?=?c ?cZ:=fun m m0 hm=>by
      unfold Jm;rw[qb5 (by rw[Fl];exact hm),Pt hm,?m]
     ext RG
     ext T4
     . exact⟨?UQ (2+m),O9m,?FX⟩
     . have e:?fY:=?s3
       exact(?YZ ?fD ?FX)
 . ext i9;ext A3
   . exact Kc
   . ext i8
   . exact ?OW
 . refine ?UC ⟨O9m,by rw[qa9,len];omega⟩ ?_
   . ext A3
     . ext e5
     . ext i7
       ext iH
     . ext sA
   . unfold Jm;rw[qb5 (by rw[Fl];omega),Pt ?d,?m]
   . ext A3
     . ext e5
     . rfl
     . ext sA
 . unfold Jm;refine ?XF ?kS ?kS
   . obtain⟨j,hj⟩:=?wU;have hjl:=?tY;rw[Fl]at hjl;rw[Pt hjl]at hj;have e:=qb6 hj;rw[←e];split
     . ext fR
     . ext iD
   . rw[qa9,Fl];omega
   . ext A2
     omega
   . ext A2
     omega
theorem L82.loop[?bW]:L82 (xs++?nK) a ?eO (c1+1) ?g7 ?eX low ?aM:=by
 have mem:∀y∈?nK,?cY:=?DF;refine ?U4 0 0
 . rw[?MZ];exact ?oQ
 . exact s.none ?J fun y hy z=>by rw[?bM];exact Kc
 . exact ?c6 ?J fun y hy=>by rw[?bM];ext sN
 . exact ?c6 ?J fun y hy=>by rw[?bM];ext fR
theorem L82.point[?bW]:L82 (xs++[[]]) ?s (c0+1) ?gN ?g7 ?eX low ?aM:=by
 have mem:∀y∈[?IX],y=[]:=?DF;refine ?hT 0 0 0 ?h4 ⟨?s,rfl,by rw[?gK,qh6];rfl⟩ ?aA ?aA ?aA rfl rfl rfl rfl
 . rw[?MZ];exact AN _
 . exact ?TS 1
 . exact ?TS 2
 . exact ?TS 3
theorem L82.side[?bW]:?X5 [[],?l3] ?aM:=by
 ext iF;have mem:∀y∈[?IX,?l3],y=[]\/y=?l3:=?r5
 refine ?U4 1 0
 . match j,hy with
   | 0,hy=>have e:y=[]:=?eZ;rw[e];exact AN _
   | 1,hy =>
     have e:y=?l3:=?eZ;rw[e];obtain⟨m,ea,hm⟩:=h.pt;ext RO
     ext SU
     rcases this with rfl | rfl
     . ext A7
     . exact⟨m,ea,GO hm _⟩
   | j+2,hy=>simp at hy
 . refine ?UN 1 ?l3
   . ext e8
     . exact ?kO
     . ext SU
       rcases this with e | e
       . ext iH
       . exact ?g e
   . rw[AA,O9];unfold Ky;ext eA;rfl
   . ext e8
     . exact ?UA 0 1
     . rfl
 . exact ?c6 ?J fun y hy=>by ext e8;(show Bi 0≠2;decide);(ext sN)
 . exact ?c6 ?J fun y hy=>by ext e8;(show Bi 0≠3;decide);(ext fR)
theorem L82.skin[?bW]:?WO ?R9 ?gN:=by
 ext iF;have mem:∀y∈?R9,?cY\/?k5:=?r5
 ext zS
 . cases j with
   | zero=>ext lU
   | succ j =>
     have e:?k5:=by
      rw[qt4]at hy;simpa using qb7 hy
     rw[e];ext s7
     ext i7
     ext A7
 . ext i9;ext e8
   . exact Kc
   . ext i8
 . ext RD
   . ext e8
     . ext e5
     . ext i7
       ext iH
   . ext e8
     . ext e5
     . rfl
 . exact ?c6 ?J fun y hy=>by ext e8;ext SV
theorem tE(b p:Int):G6 [b,b,b,b] p=0:=by rw[Rj];show ?f3-(?f3-(?f3-(?f3-0)))=0;omega
theorem L82.ball[?bW]:L82 (xs++?P6) a ?eO ?gN ?g7 (c3+1) low ?aM:=by
 ext iF;have mem:∀y∈?P6,?cY\/?k5\/y=?xT:=?r5
 ext zS
 . match j,hy with
   | 0,hy=>ext lU
   | 1,hy =>
     have e:?k5:=?eZ;rw[e];ext s7
     ext i7
     ext A7
   | 2,hy =>
     have e:y=?xT:=?eZ;rw[e];ext RG
     ext A2
     exact(?YZ ?fD ?NO)
   | j+3,hy=>simp at hy
 . ext i9;ext e7
   . exact Kc
   . ext i8
   . exact ?OW
 . ext RD
   . ext e7
     . ext e5
     . ext i7
       ext iH
     . ext sA
   . ext e7
     . ext e5
     . rfl
     . ext sA
 . ext i9;ext e7
   . exact ?I z (by ext fR)
   . exact ?I z (by ext iD)
   . exact⟨fun f hf=>?i (by have e:?fY:=(?dX);omega),tE _⟩
theorem L82.torus[?bW]:?WO ?xZ (c1+2):=by
 ext iF;have mem:∀y∈?xZ,?cY\/y=?oL\/y=?uN:=?r5
 have fit:∀(j:Nat) (y:?e) (zs:LLInt),3<=j->zs=?xZ->?ND->(∀f∈y,?k6\/?fY\/?z5)->fY (xs++zs.take j) y:=fun j y zs hj hz hl hf=>by
  refine Dt (c0:=?Q) (e:=a) (?i (?i (?g hl))) (fun f h3=>?_) (?g (by unfold lev;rw[hl];rfl)) ?tU
  rcases hf f h3 with rfl | rfl | rfl
  . exact(?YZ ?wE ?x2)
  . exact(?YZ ?fD ?x2)
  . exact(?YZ ?q4 ?x2)
 ext zS
 . match j,hy with
   | 0,hy=>ext lU
   | 1,hy=>ext lU
   | 2,hy=>ext lU
   | 3,hy =>
     have e:y=?oL:=?eZ;rw[e];refine fit 3 _ _ O9m rfl rfl ?eT;ext RS
     omega
   | 4,hy =>
     have e:y=?uN:=?eZ;rw[e];refine fit 4 _ _ O9m rfl rfl ?eT;ext RT
     omega
   | j+5,hy=>simp at hy
 . ext i9;ext e7
   . exact Kc
   . ext i8
   . ext i8
 . refine ?UN 3 ?oL
   . ext e7
     . ext e5
     . ext RS
       ext iH
     . ext RT
       ext iH
   . rw[Vf,O9];unfold Ky;ext e6;rfl
   . ext e7
     . ext e5
     . rfl
     . rw[Vf,Vf];omega
 . exact ?c6 ?J fun y hy=>by ext e7;ext SV;(ext iD)
universe e9
theorem L82.told[?cV]{os:?e}[?AE][?bW](t:?nM)[?dC](tie:∃z L G,?XC ys 4)[?T3] :
 ?vG=[c0,c1,c2,c3].getD k 0/\?bZ=[[],low,high,[]].getD k []:=by
 ext SR;obtain⟨d0,e0,p0,q0,l0,f0⟩:=t1.told;obtain⟨d1,e1,p1,q1,l1,f1⟩:=t2.told;obtain⟨d2,e2,p2,q2,l2,f2⟩:=t3.told;have sh:=t.shape ?dT
 have no4:∀q,?C1->?UD ?j4≠4:=fun q hq=>by
  have:=(sh q (?j4) (?t3)).cnt;unfold Bi;ext eC
 obtain⟨h1,h2⟩:=NO tie sh (fun j=>if j=0 then d0 else if j=1 then d1 else if j=2 then d2 else []) (fun j hj=>by
  match j,hj with
  | 0,_=>exact⟨?w5 e0,p0,q0⟩
  | 1,_=>exact⟨?w5 e1,p1,q1⟩
  | 2,_=>exact⟨?w5 e2,p2,q2⟩
  | 3,_=>exact⟨⟨[],rfl,⟨fun q hq z=>?I z (no4 q hq),?yW,?hC⟩⟩,fun d hd=>(nomatch hd),?hC⟩) hk hp
 rw[t.cL]at h1
 match k,hk with
 | 0,_ =>
   have h1:?fM+0+d0.length=?f0:=h1;have h2:?bZ=d0.filter ?eI:=h2;rw[h2,f0];refine ?rI;show _=c0;omega
 | 1,_ =>
   have h1:?fM+d0.length+d1.length=?VY 1:=h1;have h2:?bZ=d1.filter ?eI:=h2;rw[h2,f1];refine ?rI;show _=c1;omega
 | 2,_ =>
   have h1:?fM+d1.length+d2.length=?VY 2:=h1;have h2:?bZ=d2.filter ?eI:=h2;rw[h2,f2];refine ?rI;show _=c2;omega
 | 3,_ =>
   have h1:?fM+d2.length+0=?VY 3:=h1;have h2:?bZ=([]:?e).filter ?eI:=h2;rw[h2];refine ?rI;show _=c3;omega
universe Hb
namespace L2
open PySem PySem.Spec PyProof.Rows
def Itv[?w](a:Addr)(n:Nat):It:=⟨fun i H=>i<n/\∃xs,?oK/\xs.length=n,fun i H x H'=>H'=H/\∀xs,?oK->?PK=?hM,fun i _=>i=n⟩
theorem NN[?iE][?F]{tg:Expr}(a it:Addr)(n:Nat):U1 P w K tg (Itv K a n) [it] it (fun i h=>h.IsRevIter it a (?DW)) where
 mem:=?kW
 obj:=fun i h st b hb=>by
  rw[?mK hb];obtain⟨o,e,c,d⟩:=st;exact⟨o,e,fun v z=>by rw[d]at z;cases z⟩
 keep:=fun i h h' st k=>st.at fun o e=>k it ?Z o e
 item:=by
  ext s8;obtain⟨hi,xs,hq,hn⟩:=hg;obtain⟨its,rv,p,hz⟩:=?MN;have hx:?PK=?c (xs[n-1-i]' ?h6):=qa0 _;obtain⟨u,hu,ru⟩:=?HU;ext SZ;rw[show ?DW=?NL by omega]at st;refine wpAny_pyNext_rev_item st p.isList (x:=u) (by simpa using hu) fun h' st' sb=>?_;rw[show ?NL-1=?C-1-?y5 by omega]at st';have I1:Bj X Ac σ H ?qJ:=?UM (fun b o hb e=>(sb.2 b hb).trans e);obtain⟨o,e,c,d⟩:=id st';exact⟨u,rfl,eY (s:=?qJ) e c d ?aD ⟨_,H,I1,ru,⟨rfl,?WN I.list_inj⟩,st',fun b hb=>(hf b hb).1⟩⟩
 done:=by
  ext s8;have hg:i=n:=hg;subst hg;ext SZ;rw[show ?aN-1-?aN=-1 by omega]at st;exact wpAny_pyNext_rev_end (I.ok.hd hc) st fun h' eb=>⟨rfl,?UM (fun b o hb e=>eb b o hb e)⟩
 self:=fun _ _ _ _ _ st h=>?HO st h
inductive WJ[?w](R:It->?M)[?iK](H1:Hp):Prop
 | mk:∀(a:Addr) (xs:?u),?q7->(?D0)->(R (?nN) H1)->?I2
def A34[?w](ta:TA):TI:=?X1 ?I2
theorem Zp:?LK ?g2=?c (?pM ?g2):=?D
theorem xN{X:Cx}[?F]{tg a:Expr}{ta:TA}{p pos:Pos}(hg:Gl X ?g2)(hm:X.mg ?g2=none)[?RZ]:PI X tg (?XR ?g2) (A34 K ta):=by
 subst hK;intro Ac s σ H R I h;refine Call_ (Kq I hg hm Zp (qg2 (Dh (ha pos Ac s σ H _ I h) fun us s1 _z=>?_) hs rfl));obtain⟨vs,H1,I1,r1,q1⟩:=_z;obtain⟨l,xs,e,hq,q⟩:=q1;subst e;cases r1 with
 | cons r rr =>
   cases rr;cases r;obtain⟨its,rv,pl,hz⟩:=I1.list hq;refine call_reversed_list pl.isList ?_;have hl:=rv.length
   have hit:(s1.heap.push (revObj l ((its.toArray.size:Int)-1))).IsRevIter ?ME l (?LY):=⟨_,?uE,rfl,by
    show Data.fields _=Data.fields _;rw[show(its.toArray.size:Int)-1=?LY by ext aZ]⟩
   refine ?HO hit ⟨?ME,[s1.heap.objs.size],_,_,H1,rfl,I1.kept (t':=s1.toks) fun b o e=>qa6 _ e,NN l _ ?s,hit,?uY,q⟩;rw[?mK hb];exact I1.fpOk ?y (I1.hok.fresh ?y)
theorem uE[?F][?RX](hl:∀i σ H,?xS->?kG->?oK)
 (hs:∀i x σ H,?BW->xs[xs.length-1-i]?=?hM->?kG->g x σ H ?BJ) [?T9] :
 ∃W:?J3,(∃m,W 0 m σ H)/\∀i m σ H,?PM →
   ((?nN).stop i H/\?tP)\/((?nN).go i H/\∃N:?k8,?U5 ?nN):=by
 refine⟨fun i m σ H=>m=xs.length-i/\?xS/\?kG,⟨?s,?jU,?dA,h0⟩,?_⟩;rintro i m σ H ⟨rfl,hi,pp⟩;have q:=hl i σ H hi pp;by_cases hlt:?BW
 . refine ?i ⟨⟨hlt,xs,q,rfl⟩,?yD,fun σ' H' p'=>⟨xs.length-?H,O9m,rfl,hlt,p'⟩,fun x H' y=>?_⟩;obtain⟨rfl,y⟩:=y;exact hs i x σ _ hlt (y xs q) pp
 . have e:i=xs.length:=O9m
   subst e;exact ?g ⟨rfl,hd σ H pp⟩
universe L2
namespace L2
open PySem PySem.Spec PyProof.Rows PySem.SeqAt
section
variable{X:Cx}
theorem AR[?sG][?sP]{d:D}:∀[?cW]{us:?j2}{ds:?nA},?D5->?GT->us.countP (VW X H d)=ds.countP fun e=>eqD e d
 | vs,us,[],r,rv=>by
   cases (show vs=[] from r);cases rv;rfl
 | vs,us,e::ds,r,rv=>by
   obtain⟨v,q,rfl,h1,h2⟩:=r;cases rv with
   | cons r1 r2=>rw[List.countP_cons,List.countP_cons,HQ I r1 h1,AR I h2 r2]
inductive kI[?w](n:Nat)(x:V)[?iK](H:Hp)(Q:VK):Prop
 | mk:∀ds y d,(vs=[y])->(?V3 x (?o8))->(?V3 y d)->(deps ds+1<=n)->(Q (?f ((ds.countP fun e=>eqD e d:Nat):Int)) H)->?P5
def rCount[?w](n:Nat):?oU:=fun x vs H Q=>?P5
theorem mt_count[?TI]:MtR X ?DJ (rCount X.K n):=by
 intro Ac s σ H x vs v us Q I rx rv h;obtain⟨ds,y,d,rfl,⟨a,ws,rfl,hq,r⟩,hy,hn,q⟩:=h;cases rx;obtain⟨u,rfl,ru⟩:=rv.one;obtain⟨its,rw',p,hz⟩:=?QU;obtain⟨o,ho,hc,k,hd⟩:=id p;obtain⟨cls,dd,data,sl⟩:=o;simp only at hc hd;subst hc hd
 refine call_meets PySem.F.slot_tuple_count (?VM _ ho) PySem.F.entry_tuple_count (PySem.F.args_tuple_count_2 _ _)
  (tuple_countAt a ?jC k dd sl u (VW X H d)) ⟨ho,HR I (A:=X.A.in1) (by show X.A.units+1+deps ds<cLine;omega) hy ru r rw',?_⟩
 refine⟨?f _,H,I.tok _,?dQ,?_⟩;rw[List.toList_toArray,AR I r rw'];exact q
theorem Bj.tupleN[?sG][?AX][?sP](h:SqT X.K H a xs):∃o,?tM a=?cE/\o.cls=?hJ/\o.dict=none:=by
 rcases h with h|⟨o,its,n,hk,hc,hdn,hs,hz,r⟩
 . obtain⟨z,its,r,o,e,c,d,_⟩:=(show ObjOk _ _ _ _ _ (?a8 xs) from h.ok I.hok)
   exact⟨o,e,c,d⟩
 . exact⟨o,I.kIn a o hk,hc,hdn⟩
structure Aq0[?w](r:?oU)(t:TA)(σ:St)(Q:VK)(x:V)(H1:Hp):Prop where
 mk::(left:(∃p xs,x=?f7/\SqT K H1 p xs)) (right:t σ H1 fun xs H2=>r x xs H2 Q)
def Ae7[?w](r:?oU)(to:TE)(t:TA):TE:=fun σ H Q=>to σ H fun x H1=>Aq0 K r t σ Q x H1
section
variable{o e:Expr}[?cU]{to:TE}{t:TA}{name:Str}{apos cpos:Pos}{id:String}{r:?oU}
theorem xP[?RK]
 [?S8]
 (hfew:(?G0
   && ?TZ 1)=true:=by rfl)
 [?T5] [?zV] (hplain:?vK (·.1)=false:=by rfl) :
 ?UJ X.K:=by
 intro Ac s σ H Q I h;refine wpAny_Call_method_late hbase hfew hline rfl (Dh (ho Ac s σ H _ I h) fun v s1 _z=>?_);obtain⟨x,H1,I1,r1,⟨p,xs,ex,hq⟩,q1⟩:=_z;subst ex;cases r1;obtain⟨ob,he,hc,hd⟩:=Bj.tupleN I1 hq;refine⟨?jX,id,pa,slot,hty,⟨ob,he,hc⟩,fun a' ea=>?_,?_⟩
 . cases ea;exact⟨ob,he,hd⟩
 have hA:=ha cpos Ac s1 σ H1 _ I1 q1;rw[hs]at hA ⊢;refine qn6 (by show(false || ?vK (·.1))=false;rw[hplain]<;>rfl) (qs1 ?_);exact Dh hA fun us s2 ⟨vs,H2,I2,r2,q2⟩=>hm Ac s2 σ H2 ?rX vs ?rX us Q I2 rfl r2 q2
theorem tV[?F][?RK][?AZ]
 [?S8]
 (hfew:(?G0
   && ?TZ 1)=true:=by rfl)
 [?T5] [?zV] (hplain:?vK (·.1)=false:=by rfl) :
 ?UJ K:=by subst hK;exact xP pa slot hty hm ho ha hbase hfew hline hs hplain
universe e9
theorem kmt_count[?F][?TI][?AZ]:MtR X ?DJ (rCount K n):=by subst hK;exact mt_count hu
universe e9
universe L2
namespace L2
open PySem PySem.Spec PyProof.Rows
theorem Fh{X:Cx}{e:Expr}[?cU]{te:TE}{t:TA}(ha:?E8)(hr:?HD)[?zV]:PAw X ?jB (vB te t):=⟨Aa ha.h hr.h hs⟩
theorem Gy{X:Cx}[?cU]{k:Nat}{pos:Pos}{t:TA}(h:?HD):PEw X (?pV es k pos) (wY t):=⟨B5 h.h⟩
structure Ap1(X:Cx)(ss:?CF)(t:TS):Prop where
 h:FZ X ss t
theorem lE{X:Cx}{st:Stmt}{t u:TS}{i:Nat}{x:Str}{e:Expr}{te:TE}{pos' pos:Pos}{rest:?CF}(h1:PS X st t)(hN:X.N.Nodup)(hi:X.N[i]?=?hM)(hx:WB X.env.scope x)(ha:?E8)(hr:FZ X rest u)
 (hs:swapsWith e (?c (?MP)) pos.line ?d0=pure ?oH:=by kernel_rfl) (hf:X.fn x=true\/X.env.scope.names.lookup x=?c .local:=by ac_rfl) :
 Ap1 X (st::.Assign [?MP] e pos::rest) (Ap t (Ap (nQ te (Y4 i)) u)):=⟨Af h1 (Af (NZ hN hi hx ha.h hs hf) hr)⟩
universe L2
namespace Hb
open PySem L2
def aA(kd:Int)(n:Nat)(a b:Int):LLInt :=
 if kd=0\/kd=1 then ?zB else if kd=2 then ?tK else if kd=3 then ?nK else if kd=4 then [?Q,?fI,?fI]
 else if kd=5 then [?Q,?fI,[b+1,b+1,b+1,b+1]] else if kd=6 then [?Q,?Q,?Q,[b+1,b+2,b],[b,b+2,b+1]] else if kd=7 then [[],[b,a]] else [[]]
theorem Sg{α:Type}(v:α):∀n,(?aH n [v]).flatten=?aH n v
 | 0=>rfl
 | n+1=>by rw[qh0,ql1,Sg v n];rfl
theorem Xr[?F]{H:Hp}{v:V}{x:?e}(h:TI K H v x):∀n,?bN K H (?aH n v) ((?aH n x).map tI)
 | 0=>rfl
 | n+1=>by
   rw[qh0,qh0,qc8];exact⟨_,_,rfl,h,Xr h n⟩
def rN(ps:LLInt)(b:Int)[?m0]:LLInt:=ps++(?mX i).map (Cj b n tl)
theorem dF(ps:LLInt)(b:Int)[?m0]:rN ps b n tl ?H=rN ps b n tl i++[?g8]:=by
 unfold rN;rw[ql9,qb8,qj9];rfl
theorem fB{b:Int}{n i:Nat}[?m5][?aL]:?g8=(b+1%?C)::(b+((0+?aN)+1)%?C)::(b+(0+?aN))::tl:=by
 unfold Cj;rw[qk9];rfl
def IM:Int:=12252240
theorem Ug{n M:Int}[?aL](hM:n∣M):∀[?aS],?gX->(?PG)->?fK∣M/\∀m∈?fE,m∣M
 | [],_,_=>⟨hM,?GP⟩
 | ?dI,hp,h=>by
   ext A1;obtain⟨h1,h2⟩:=Ug hn hM Sr ?rD;ext RN;have ht:=?pX;refine⟨qq7 ⟨a',ea⟩ ht,?jY⟩;ext lY
   . ext RV;obtain⟨x,ex⟩:=ht;obtain⟨y,ey⟩:=h1;refine ?EC;have:M=M*(u*a'+v*b'):=?F5
     rw[this,qt8];have e1:M*?hB=c*y*?hB:=?DA
     have e2:M*?dM=t*x*?dM:=?BH
     rw[e1,e2,ea,eb]
     grind
   . exact h2 m hm
theorem AG{n M:Int}[?aL](hM:n∣M)[?aS](hp:?nZ)(h:?PG):∀t∈?hK,t∣M:=by
 obtain⟨h1,h2⟩:=Ug hn hM hp h;unfold Er;split
 . exact h
 . split
   . intro t ht;ext AJ
     . exact h1
     . exact h2 t ht
   . exact h2
theorem Uz{t:Int}(h0:0<t)(h:t∣IM):t.natAbs<2 ^ 101/\t<1073741824:=by
 have:=qk1 ?aD h;have e:IM=12252240:=rfl;refine⟨qc1 (?UR t.natAbs 12252240) ?aD,O9m⟩
theorem vZ:∀n:Nat,0<n->n<=18->?C∣IM:=by
 have:∀n:Nat,n<19->0<n->IM%?C=0:=?bQ
 exact fun n h0 h1=>qt9 (?aR n O9m h0)
theorem HB(n:Int)[?m3]{i:Nat}(hi:i<row.length):Bz n (?EL (?oS))=(?NG,?P2*(?yO).1 / ?NG::(?yO).2):=by
 have hl:?oS<row.length:=O9m
 rw[qo0 hl,show ?oS+1=?G2 by omega,show row.length-1-i=?oS by omega,qa1,qa0 hl];rfl
def jM(kd:Int):?e:=if kd=3 then [1] else if kd=4 then [2] else if kd=5 then [3] else if kd=6 then [1,1,2] else if kd=8 then [0] else []
def Eu(kd:Int)(k:Int):Int:=(((Fi (jM kd)).countP fun e=>eqD e (?b8):Nat):Int)
theorem L82.part[?j][?AE][?bW]{kd:Int}{n:Nat}[?aL](h0:0<=kd)(h9:kd<9) :
 L82 (xs++aA kd n a ?s) (if kd=8 then ?l else a) (c0+Eu kd 0) (c1+Eu kd 1) (c2+Eu kd 2) (c3+Eu kd 3) (if kd<2 then ?uL else low) (if kd=2 then ?z8 else high):=by
 have:kd=0\/kd=1\/kd=2\/kd=3\/kd=4\/kd=5\/kd=6\/kd=7\/kd=8:=O9m
 rcases this with rfl | rfl | rfl | rfl | rfl | rfl | rfl | rfl | rfl
 . exact ?PI
 . exact ?PI
 . exact h.hdisc hn
 . exact h.loop
 . exact h.skin
 . exact h.ball
 . exact h.torus
 . exact h.side
 . exact h.point
theorem RN[?bY]:?WY ?bZ ps.length:=by
 unfold Z3 V0;rw[qa3];exact qa5 ?B4 ?B4
theorem aG[?m3](n:Int):(?hK).length<=row.length+1:=by
 have:=?Q3;unfold Er;split
 . omega
 . split
   . rw[qc9];omega
   . omega
theorem AF{n:Int}[?aL][?aS](hp:?nZ):∀t∈?hK,0<t:=by
 obtain⟨h1,h2⟩:=?I6;unfold Er;split
 . exact hp
 . split
   . intro t ht;ext AJ
     . exact h1
     . exact h2 t ht
   . exact h2
def f7[?sV]:Hp:=?D8
theorem tZ[?sV]:f7 H d d=none:=?r
theorem aL[?sV]:?L ?IS H:=fun c o e=>by
 unfold f7 at e;split at e
 . cases e
 . exact e
theorem pN[?fU]{d:Addr}[?fS](h:H d=none):?L H (f7 H' d):=fun c o e=>by
 unfold f7;rw[?h fun z=>by rw[z,h]at e;cases e];exact s _ _ e
theorem DT[?F]{H:Hp}{d:Addr}{ys:?u}(hd:H d=?U9 ys):∀{us:?u}[?j],?X2 H->?X2 ?IS
 | us,[],h=>h
 | us,x::xs,h=>by
   obtain⟨v,vs,e,hv,hr⟩:=h;refine⟨v,vs,e,?_,DT hd hr⟩;obtain⟨a,rfl,sq⟩:=TI.sq hv;refine TI.mk ?_;rcases sq with(h|⟨o,h⟩) | h
   . refine ?g (?g ?_);ext SB
   . refine ?WT o ?_;ext SB
   . exact ?jT
theorem pV(a b:Int):?g6 (a%b) b=?g6 a b:=by
 apply Nat.dvd_antisymm
 . apply Int.dvd_gcd
   . have h1:=qu3 (a%b) b;have h2:=qq0 (a%b) b;have:=Int.emod_add_mul_ediv a b;have:a=a%b+b*(a / b):=O9m
     rw[this];exact ?BS (by rw[←this];exact h1) (qp3 (by rw[←this];exact h2))
   . exact ?yV
 . apply Int.dvd_gcd
   . rw[Int.emod_def];exact Int.dvd_sub (qu3 _ _) (qp3 (?yV))
   . exact ?yV
section
variable[?w]
def XU(H:Hp)[?O](Q:V->?M):Prop:=∀[?AV] (H':Hp),?bT->?a3->?tJ->?X2 H'->?bO
def jC(_:W.Frag):Sp:=fun vs H Q _=>Hm fun(x y:Int)=>Aq9 (vs=[?f x,?f y]) (Q (?f (?g6 x y:Int)) H)
def DL:Sp:=?YR ?zB
def DK:Sp:=?YR ?tK
def DJ:Sp:=fun vs H Q _=>l9 fun ?F6 ?h5 ?uW=>Hn (vs=[?f kd,?b7,?f a,?kE]) (0<=kd) (kd<9) ?jA ?jR (XU K H (aA kd n a b) Q)
def Th[?m3]:Prop:=row.length<=100/\∀t∈row,0<t/\t∣IM
def W4:Sp:=fun vs H Q _=>N8 fun(l:Addr) (row:?e) ?h5=>Hn (vs=[?k l,?b7]) (?UW l (row.map ?S)) (Th row) ?jA ?jR (∀[?iG],?a3->SqL K H' D ((?hK).map ?S)->?bO)
def DueAt(H:Hp)(t:Addr)(c0 c1 c2 c3:Int)(low high:?e):Prop:=∃c l h:Addr,H t=?c (?a8 [?f5,?k l,?k h])/\?UW c [?f c0,?f c1,?f c2,?f c3]/\?UW l (low.map ?S)/\?UW h (high.map ?S)
def JB:Sp:=fun vs H Q _=>Ex9 fun(t:Addr) ?F6 ?h5 (c0 c1 c2 c3:Int) (low ?aM:?e)=>FY (vs=[?gA,?f kd,?b7]) (?B7) (0<=kd) (kd<9) ?jA ?jR (Th low) (Th ?aM)
 (∀(t':Addr) (H':Hp),?a3->DueAt K H' t' (c0+Eu kd 0) (c1+Eu kd 1) (c2+Eu kd 2) (c3+Eu kd 3) (if kd<2 then ?uL else low) (if kd=2 then ?z8 else high)->Q (?k t') H')
def W3:Sp:=fun vs H Q _=>l9 fun(a l:Addr) ?P8 ?a7=>Pm (vs=[?P,?k l]) ?bU (?UW l ?n6) (ns.length<=63) ?r1 ?vM (∀(p:Addr) (us:?u) (ys:LLInt) (os:?e) (H':Hp),?a3->?K8->H' p=?dJ->?bN K H' us (ys.map tI)->?nM->Q ?rX H')
def v7(C:Addr):Sp:=fun vs H Q _=>uV fun(p w:Addr) (k c:Int) ?z9 ?a7 ?pN ?B2=>m9 (vs=[?f7,?b8,?f c,?k w]) (?nL) (?L B H) ?pL (k<4) (?wQ) (?vG=c/\?UW w ((?bZ).map ?S)) (∀(H':Hp),?CM)
universe e9
theorem DueAt.same[?F][?fU]{t:Addr}{c0 c1 c2 c3:Int}{low high:?e}(h:?B7)[?fS]:?X7 H':=by
 obtain⟨c,l,d,e1,e2,e3,e4⟩:=h;exact⟨c,l,d,s _ _ e1,?nW e2,?nW e3,?nW e4⟩
theorem K4{S:St}{p0:?M}[?v](k:∀H,p0 H->?FO):?TL (σ=S/\p0 H):=by
 rintro _ H ⟨rfl,h0⟩;exact k H h0
theorem iU{S:St}{p0 p1:?M}[?v](k:∀H,p0 H->p1 H->?FO):?TL (Dg (σ=S) (p0 H) (p1 H)):=by
 rintro _ H ⟨rfl,h0,h1⟩;exact k H h0 h1
theorem Io[?cS]{p0 p1:?g0}[?v](k:∀x0 H,?jO->?iZ->?jM):?TL (Ef fun x0=>Dg ?hF ?h8 ?kR):=by
 rintro _ H ⟨x0,rfl,h0,h1⟩;exact k x0 H h0 h1
theorem Wq[?cS]{p0 p1 p2:?g0}[?v](k:∀x0 H,?jO->?iZ->?mG->?jM):?TL (Ef fun x0=>B4 ?hF ?h8 ?kR ?p1):=by
 rintro _ H ⟨x0,rfl,h0,h1,h2⟩;exact k x0 H h0 h1 h2
theorem Ac9[?cS]{p0 p1 p2 p3:?g0}[?v](k:∀x0 H,?jO->?iZ->?mG->?xR->?jM):?TL (Ef fun x0=>En ?hF ?h8 ?kR ?p1 (p3 x0 H)):=by
 rintro _ H ⟨x0,rfl,h0,h1,h2,h3⟩;exact k x0 H h0 h1 h2 h3
theorem Ac8[?cS]{p0 p1 p2 p3 p4:?g0}[?v](k:∀x0 H,?jO->?iZ->?mG->?xR->?E3->?jM):?TL (Ef fun x0=>Hn ?hF ?h8 ?kR ?p1 (p3 x0 H) ?RB):=by
 rintro _ H ⟨x0,rfl,h0,h1,h2,h3,h4⟩;exact k x0 H h0 h1 h2 h3 h4
theorem IT[?cS]{p0 p1 p2 p3 p4 p5:?g0}[?v](k:∀x0 H,?jO->?iZ->?mG->?xR->?E3->p5  x0 H->?jM):?TL (Ef fun x0=>Pm ?hF ?h8 ?kR ?p1 (p3 x0 H) ?RB (p5 x0 H)):=by
 rintro _ H ⟨x0,rfl,h0,h1,h2,h3,h4,h5⟩;exact k x0 H h0 h1 h2 h3 h4 h5
theorem UY[?bX]{p0:?l6}[?v](k:∀x0 x1 H,?lQ->?kJ):?TL (?Z9 ?BE):=by
 rintro _ H ⟨x0,x1,rfl,h0⟩;exact k x0 x1 H h0
theorem uY[?bX]{p0 p1:?l6}[?v](k:∀x0 x1 H,?lQ->?oV->?kJ):?TL (Hm fun x0 x1=>Dg ?hY ?p5 ?mN):=by
 rintro _ H ⟨x0,x1,rfl,h0,h1⟩;exact k x0 x1 H h0 h1
theorem DA[?bX]{p0 p1 p2:?l6}[?v](k:∀x0 x1 H,?lQ->?oV->?y3->?kJ):?TL (Hm fun x0 x1=>B4 ?hY ?p5 ?mN (?YI p2)):=by
 rintro _ H ⟨x0,x1,rfl,h0,h1,h2⟩;exact k x0 x1 H h0 h1 h2
theorem iT[?bX]{p0 p1 p2 p3:?l6}[?v](k:∀x0 x1 H,?lQ->?oV->?y3->?L5->?kJ):?TL (Hm fun x0 x1=>En ?hY ?p5 ?mN (?YI p2) (?YI p3)):=by
 rintro _ H ⟨x0,x1,rfl,h0,h1,h2,h3⟩;exact k x0 x1 H h0 h1 h2 h3
theorem Ac7[?bX]{p0 p1 p2 p3 p4 p5 p6:?l6}[?v](k:∀x0 x1 H,?lQ->?oV->?y3->?L5->?WM p4->?WM p5->?WM p6->?kJ):?TL (Hm fun x0 x1=>m9 ?hY ?p5 ?mN (?YI p2) (?YI p3) (?YI p4) (?YI p5) (?YI p6)):=by
 rintro _ H ⟨x0,x1,rfl,h0,h1,h2,h3,h4,h5,h6⟩;exact k x0 x1 H h0 h1 h2 h3 h4 h5 h6
theorem Ac6[?cP]{p0:?iY}[?v](k:∀x0 x1 x2 H,?jS->?iT):?TL (?Z8 ?OR):=by
 rintro _ H ⟨x0,x1,x2,rfl,h0⟩;exact k x0 x1 x2 H h0
theorem UX[?cP]{p0 p1:?iY}[?v](k:∀x0 x1 x2 H,?jS->?oP->?iT):?TL (N8 fun x0 x1 x2=>Dg ?eN ?s5 ?q9):=by
 rintro _ H ⟨x0,x1,x2,rfl,h0,h1⟩;exact k x0 x1 x2 H h0 h1
theorem Ac5[?cP]{p0 p1 p2:?iY}[?v](k:∀x0 x1 x2 H,?jS->?oP->?yQ->?iT):?TL (N8 fun x0 x1 x2=>B4 ?eN ?s5 ?q9 (?YC p2)):=by
 rintro _ H ⟨x0,x1,x2,rfl,h0,h1,h2⟩;exact k x0 x1 x2 H h0 h1 h2
theorem Ac4[?cP]{p0 p1 p2 p3 p4:?iY}[?v](k:∀x0 x1 x2 H,?jS->?oP->?yQ->?ER->?M4->?iT):?TL (N8 fun x0 x1 x2=>Hn ?eN ?s5 ?q9 (?YC p2) (?YC p3) (?YC p4)):=by
 rintro _ H ⟨x0,x1,x2,rfl,h0,h1,h2,h3,h4⟩;exact k x0 x1 x2 H h0 h1 h2 h3 h4
theorem Ac3[?cP]{p0 p1 p2 p3 p4 p5:?iY}[?v](k:∀x0 x1 x2 H,?jS->?oP->?yQ->?ER->?M4->?VH p5->?iT):?TL (N8 fun x0 x1 x2=>Pm ?eN ?s5 ?q9 (?YC p2) (?YC p3) (?YC p4) (?YC p5)):=by
 rintro _ H ⟨x0,x1,x2,rfl,h0,h1,h2,h3,h4,h5⟩;exact k x0 x1 x2 H h0 h1 h2 h3 h4 h5
theorem Ac2[?A9]{p0:?u2}[?v](k:∀x0 x1 x2 x3 H,?zK->?wW):?TL (l9 fun x0 x1 x2 x3=>σ=?pG/\?vL):=by
 rintro _ H ⟨x0,x1,x2,x3,rfl,h0⟩;exact k x0 x1 x2 x3 H h0
theorem Ac1[?A9]{p0 p1 p2:?u2}[?v](k:∀x0 x1 x2 x3 H,?zK->?HN->?PD->?wW):?TL (l9 fun x0 x1 x2 x3=>B4 (σ=?pG) (?vL) (?YD p1) (?YD p2)):=by
 rintro _ H ⟨x0,x1,x2,x3,rfl,h0,h1,h2⟩;exact k x0 x1 x2 x3 H h0 h1 h2
theorem Ac0[?A9]{p0 p1 p2 p3 p4:?u2}[?v](k:∀x0 x1 x2 x3 H,?zK->?HN->?PD->?V8 p3->?V8 p4->?wW):?TL (l9 fun x0 x1 x2 x3=>Hn (σ=?pG) (?vL) (?YD p1) (?YD p2) (?YD p3) (?YD p4)):=by
 rintro _ H ⟨x0,x1,x2,x3,rfl,h0,h1,h2,h3,h4⟩;exact k x0 x1 x2 x3 H h0 h1 h2 h3 h4
theorem Ab9[?A4]{p0 p1 p2:?W9 ?M}[?v](k:∀x0 x1 x2 x3 x4 H,?I5->?O3->?H8->?QF):?TL (cW fun x0 x1 x2 x3 x4=>B4 (σ=?kI) (?Y8 p0) (?Y8 p1) (?Y8 p2)):=by
 rintro _ H ⟨x0,x1,x2,x3,x4,rfl,h0,h1,h2⟩;exact k x0 x1 x2 x3 x4 H h0 h1 h2
theorem Ab8[?A4]{p0 p1 p2 p3:?W9 ?M}[?v](k:∀x0 x1 x2 x3 x4 H,?I5->?O3->?H8->?VC p3->?QF):?TL (cW fun x0 x1 x2 x3 x4=>En (σ=?kI) (?Y8 p0) (?Y8 p1) (?Y8 p2) (?Y8 p3)):=by
 rintro _ H ⟨x0,x1,x2,x3,x4,rfl,h0,h1,h2,h3⟩;exact k x0 x1 x2 x3 x4 H h0 h1 h2 h3
theorem Ab7{A0 A1 A2 A3 A4 A5:Type}{S:A0->A1->A2->A3->A4->A5->St}{p0 p1 p2 p3:A0->A1->A2->A3->A4->A5->?M}[?v](k:∀x0 x1 x2 x3 x4 x5 H,?UT p0->?UT p1->?UT p2->?UT p3->let s:=(?PQ);?bE):?TL (Ex6 fun x0 x1 x2 x3 x4 x5=>En (σ=?PQ) (?YE p0) (?YE p1) (?YE p2) (?YE p3)):=by
 rintro _ H ⟨x0,x1,x2,x3,x4,x5,rfl,h0,h1,h2,h3⟩;exact ?WS H
theorem Ab6[?zZ]{p0 p1 p2 p3 p4:?XM ?M}[?v](k:∀x0 x1 x2 x3 x4 x5 x6 H,?U2 p0->?U2 p1->?U2 p2->?U2 p3->?U2 p4->let s:=(?kY);?bE):?TL (qZ fun x0 x1 x2 x3 x4 x5 x6=>Hn (σ=?kY) (?Y9 p0) (?Y9 p1) (?Y9 p2) (?Y9 p3) (?Y9 p4)):=by
 rintro _ H ⟨x0,x1,x2,x3,x4,x5,x6,rfl,h0,h1,h2,h3,h4⟩;exact k x0 x1 x2 x3 x4 x5 x6 H h0 h1 h2 h3 h4
theorem Ab5[?zY]{p0 p1 p2:?UL ?M}[?v](k:∀x0 x1 x2 x3 x4 x5 x6 x7 H,?JT->?ES->?IF->?B9):?TL (uV fun x0 x1 x2 x3 x4 x5 x6 x7=>B4 (σ=?j0) (?Y5 p0) (?Y5 p1) (?Y5 p2)):=by
 rintro _ H ⟨x0,x1,x2,x3,x4,x5,x6,x7,rfl,h0,h1,h2⟩;exact k x0 x1 x2 x3 x4 x5 x6 x7 H h0 h1 h2
theorem uX[?zY]{p0 p1 p2 p3 p4 p5 p6 p7:?UL ?M}[?v](k:∀x0 x1 x2 x3 x4 x5 x6 x7 H,?JT->?ES->?IF->?TO p3->?TO p4->?TO p5->?TO p6->?TO p7->?B9):?TL (uV fun x0 x1 x2 x3 x4 x5 x6 x7=>FY (σ=?j0) (?Y5 p0) (?Y5 p1) (?Y5 p2) (?Y5 p3) (?Y5 p4) (?Y5 p5) (?Y5 p6) (?Y5 p7)):=by
 rintro _ H ⟨x0,x1,x2,x3,x4,x5,x6,x7,rfl,h0,h1,h2,h3,h4,h5,h6,h7⟩;exact k x0 x1 x2 x3 x4 x5 x6 x7 H h0 h1 h2 h3 h4 h5 h6 h7
theorem Ab4{A0 A1 A2 A3 A4 A5 A6 A7 A8:Type}{S:?W8 St}{p0 p1 p2:?W8 ?M}[?v](k:∀x0 x1 x2 x3 x4 x5 x6 x7 x8 H,?US p0->?US p1->?US p2->let s:=(?O8);?bE):?TL (Ex9 fun x0 x1 x2 x3 x4 x5 x6 x7 x8=>B4 (σ=?O8) (?YB p0 H) (?YB p1 H) (?YB p2 H)):=by
 rintro _ H ⟨x0,x1,x2,x3,x4,x5,x6,x7,x8,rfl,h0,h1,h2⟩;exact k x0 x1 x2 x3 x4 x5 x6 x7 x8 H h0 h1 h2
theorem WQ{A0 A1 A2 A3 A4 A5 A6 A7 A8 A9:Type}{S:?VR St}{p0 p1 p2 p3:?VR ?M}[?v](k:∀x0 x1 x2 x3 x4 x5 x6 x7 x8 x9 H,?TX p0->?TX p1->?TX p2->?TX p3->let s:=(?OS);?bE):?TL (mZ fun x0 x1 x2 x3 x4 x5 x6 x7 x8 x9=>En (σ=?OS) (?Y6 p0) (?Y6 p1) (?Y6 p2) (?Y6 p3)):=by
 rintro _ H ⟨x0,x1,x2,x3,x4,x5,x6,x7,x8,x9,rfl,h0,h1,h2,h3⟩;exact k x0 x1 x2 x3 x4 x5 x6 x7 x8 x9 H h0 h1 h2 h3
theorem rL{A0 A1 A2 A3 A4 A5 A6 A7 A8 A9 bB fZ KL rB RA WM:Type}{S:A0->A1->A2->?V1 St}{p0 p1 p2 p3 p4 p5 p6 p7 p8 p9:A0->A1->A2->?V1 ?M}[?v](k:∀x0 x1 x2 x3 x4 x5 x6 x7 x8 x9 N4 Ob P4 Qt Qs Ry H,?TJ p0->?TJ p1->?TJ p2->?TJ p3->?TJ p4->?TJ p5->?TJ p6->?TJ p7->?TJ p8->?TJ p9->let s:=(?JI);?bE):∀σ H,(zN fun x0 x1 x2 x3 x4 x5 x6 x7 x8 x9 N4 Ob P4 Qt Qs Ry=>kL (σ=?JI) (?TK p0) (?TK p1) (?TK p2) (?TK p3) (?TK p4) (?TK p5) (?TK p6) (?TK p7) (?TK p8) (?TK p9))->?t:=by
 rintro _ H ⟨x0,x1,x2,x3,x4,x5,x6,x7,x8,x9,N4,Ob,P4,Qt,Qs,Ry,rfl,h0,h1,h2,h3,h4,h5,h6,h7,h8,h9⟩;exact k x0 x1 x2 x3 x4 x5 x6 x7 x8 x9 N4 Ob P4 Qt Qs Ry H h0 h1 h2 h3 h4 h5 h6 h7 h8 h9
theorem Ip{S:St}[?v]{H0:Hp}(k:?JY):?TL (σ=S/\?hI):=by
 rintro _ _ ⟨rfl,rfl⟩;exact k
theorem Ad4{S:St}{p0:?M}[?v]{H0:Hp}(k:p0 H0->?JY):?TL (Dg (σ=S) (?hI) (p0 H)):=by
 rintro _ _ ⟨rfl,rfl,h0⟩;exact k h0
theorem Ad3[?cS][?v]{H0:Hp}(k:∀x0,?QZ):?TL (Ef fun x0=>?j5/\?hI):=by
 rintro _ _ ⟨x0,rfl,rfl⟩;exact k x0
theorem Ad2[?cS]{p0:?g0}[?v]{H0:Hp}(k:∀x0,p0  x0 H0->?QZ):?TL (Ef fun x0=>Dg ?hF (?hI) ?h8):=by
 rintro _ _ ⟨x0,rfl,rfl,h0⟩;exact k x0 h0
theorem Ad1[?bX][?v]{H0:Hp}(k:∀x0 x1,let s:=(?pF);?qO):?TL (?Z9 ?hI):=by
 rintro _ _ ⟨x0,x1,rfl,rfl⟩;exact k x0 x1
theorem Ad0[?cP][?v]{H0:Hp}(k:∀x0 x1 x2,let s:=(?nX);?qO):?TL (?Z8 ?hI):=by
 rintro _ _ ⟨x0,x1,x2,rfl,rfl⟩;exact ?WK k
theorem ex2{A0 A1:Type}{p:?mZ}{G:Prop}(k:∀x0 x1,p x0 x1->G)(h:∃x0 x1,p x0 x1):G:=h.elim fun x0 h=>h.elim fun x1 h=>k x0 x1 h
theorem Ba2{p0 p1 p2 G:Prop}(k:p0->p1->p2->G)(h:p0/\p1/\p2):G:=k h.1 h.2.1 h.2.2
section
variable{g:TG}{x:V}{t1 t2 t3 t4 t5 t6 t7 t8 t9 MZ vC ZQ t13 t14:TS}{D:Ends}{σ:St}{H:Hp}
theorem pC{tc:St->?YG Hp (?KX)}{k:?KX}(h:let k':=k;tc σ H k'):tc σ H k:=h
theorem letG1(h:let D':=D;?X0 D'):?X0 D:=h
theorem let2(h:let D':=D;let u2:TS:=t2;?P7):Ap t1 t2 D σ H:=h
theorem letG2(h:let D':=D;let u2:TS:=t2;?QE):?TT t2:=h
theorem let3(h:let D':=D;let u3:TS:=t3;?L6):Ap t1 (Ap t2 t3) D σ H:=h
theorem letG3(h:let D':=D;let u3:TS:=t3;?MT):?TT (Ap t2 t3):=h
theorem let4(h:let D':=D;let u4:TS:=t4;?KI):Ap t1 (Ap t2 (Ap t3 t4)) D σ H:=h
theorem let5(h:let D':=D;let u5:TS:=t5;?FM):?TN t5:=h
theorem letG5(h:let D':=D;let u5:TS:=t5;?BV):?TT (Ap t2 (Ap t3 (Ap t4 t5))):=h
theorem let6(h:let D':=D;let u6:TS:=t6;?QV):?TN (Ap t5 t6):=h
theorem letG6(h:let D':=D;let u6:TS:=t6;let u5:TS:=?JP;?BV):?TT (Ap t2 (Ap t3 (Ap t4 (Ap t5 t6)))):=h
theorem let7(h:let D':=D;let u7:TS:=t7;?PL):?TN (Ap t5 (Ap t6 t7)):=h
theorem let8(h:let D':=D;let u8:TS:=t8;?NK):?TN (?YH t8):=h
theorem let9(h:let D':=D;let u9:TS:=t9;?ON):?TN (?YH (Ap t8 t9)):=h
theorem let12(h:let D':=D;let u12:TS:=ZQ;let wV:TS:=Ap vC u12;let nK:TS:=Ap MZ wV;let u9:TS:=Ap t9 nK;?ON):?TN (?YH (Ap t8 (Ap t9 (Ap MZ (Ap vC ZQ))))):=h
universe e9
universe Hb
local macro_rules|`(tactic|infer_instance)=>`(tactic|first|(refine Hb.let12 ?_;intro _ _ _ _ _ _ _ _ _ _ _ _)|(refine Hb.let9 ?_;intro _ _ _ _ _ _ _ _ _)|(refine Hb.let8 ?_;intro _ _ _ _ _ _ _ _)|(refine Hb.let7 ?_;intro _ _ _ _ _ _ _)|(refine Hb.let6 ?_;intro _ _ _ _ _ _)|(refine Hb.let5 ?_;intro _ _ _ _ _)|(refine Hb.let4 ?_;intro _ _ _ _)|(refine Hb.let3 ?_;intro _ _ _)|(refine Hb.let2 ?_;intro _ _))
local macro_rules|`(tactic|and_intros)=>`(tactic|first|(refine Hb.letG6 ?_;intro _ _ _ _ _ _)|(refine Hb.letG5 ?_;intro _ _ _ _ _)|(refine Hb.letG3 ?_;intro _ _ _)|(refine Hb.letG2 ?_;intro _ _)|(refine Hb.letG1 ?_;intro _))
namespace Hb
open PySem L2
theorem eT[?cS]{p0:?WJ A0}[?aK](k:∀x0,p0 x0->?I3):?TP (Ef fun x0=>?j5/\p0 x0):=by
 rintro _ ⟨x0,rfl,h0⟩;exact k x0 h0
theorem Kr[?cS]{p0 p1 p2:Prop}[?aK](k:p0->p1->p2->?DX):?TP (B4 (p0) (p1) (p2) (Ef fun x0=>?j5)):=by
 rintro _ ⟨h0,h1,h2,x0,rfl⟩;exact k h0 h1 h2 x0
theorem Aj3[?cS]{p0 p1 p2 p3:Prop}[?aK](k:p0->p1->p2->p3->?DX):?TP (En (p0) (p1) (p2) (p3) (Ef fun x0=>?j5)):=by
 rintro _ ⟨h0,h1,h2,h3,x0,rfl⟩;exact k h0 h1 h2 h3 x0
theorem vR[?bX]{p0:?mZ}[?aK](k:∀x0 x1,?hS->?pW):?TP (?Z9 ?hS):=by
 rintro _ ⟨x0,x1,rfl,h0⟩;exact k x0 x1 h0
theorem VQ[?bX]{p0 p1:?mZ}[?aK](k:∀x0 x1,?hS->?qD->?pW):?TP (Hm fun x0 x1=>Dg ?hY (?hS) (?qD)):=by
 rintro _ ⟨x0,x1,rfl,h0,h1⟩;exact k x0 x1 h0 h1
theorem Vi[?bX]{p0 p1 p2:?mZ}[?aK](k:∀x0 x1,?hS->?qD->?BN->?pW):?TP (Hm fun x0 x1=>B4 ?hY (?hS) (?qD) (?BN)):=by
 rintro _ ⟨x0,x1,rfl,h0,h1,h2⟩;exact k x0 x1 h0 h1 h2
theorem pH[?bX]{p0 p1 p2:Prop}[?aK](k:p0->p1->p2->?J0):?TP (B4 (p0) (p1) (p2) (Hm fun x0 x1=>?h3)):=by
 rintro _ ⟨h0,h1,h2,x0,x1,rfl⟩;exact k h0 h1 h2 x0 x1
theorem VM[?bX]{p0 p1 p2 p3:Prop}[?aK](k:p0->p1->p2->p3->?J0):?TP (En (p0) (p1) (p2) (p3) (Hm fun x0 x1=>?h3)):=by
 rintro _ ⟨h0,h1,h2,h3,x0,x1,rfl⟩;exact k h0 h1 h2 h3 x0 x1
theorem jP[?cP]{p0:?oC}[?aK](k:∀x0 x1 x2,?dY->?o0):?TP (?Z8 ?dY):=by
 rintro _ ⟨x0,x1,x2,rfl,h0⟩;exact k x0 x1 x2 h0
theorem vQ[?cP]{p0 p1:?oC}[?aK](k:∀x0 x1 x2,?dY->?g5->?o0):?TP (N8 fun x0 x1 x2=>Dg ?eN (?dY) (?g5)):=by
 rintro _ ⟨x0,x1,x2,rfl,h0,h1⟩;exact k x0 x1 x2 h0 h1
theorem VP[?cP]{p0 p1 p2:?oC}[?aK](k:∀x0 x1 x2,?dY->?g5->?oO->?o0):?TP (N8 fun x0 x1 x2=>B4 ?eN (?dY) (?g5) (?oO)):=by
 rintro _ ⟨x0,x1,x2,rfl,h0,h1,h2⟩;exact k x0 x1 x2 h0 h1 h2
theorem vP[?cP]{p0 p1 p2 p3 p4:?oC}[?aK](k:∀x0 x1 x2,?dY->?g5->?oO->?J2->?Q9->?o0):?TP (N8 fun x0 x1 x2=>Hn ?eN (?dY) (?g5) (?oO) (?J2) (?Q9)):=by
 rintro _ ⟨x0,x1,x2,rfl,h0,h1,h2,h3,h4⟩;exact k x0 x1 x2 h0 h1 h2 h3 h4
theorem VO[?A4]{p0 p1 p2:A0->A1->A2->?YG A3 A4}[?aK](k:∀x0 x1 x2 x3 x4,?MR->?OP->?GI->let s:=?kI;G s):?TP (cW fun x0 x1 x2 x3 x4=>B4 (σ=?kI) (?MR) (?OP) (?GI)):=by
 rintro _ ⟨x0,x1,x2,x3,x4,rfl,h0,h1,h2⟩;exact k x0 x1 x2 x3 x4 h0 h1 h2
theorem vO[?zZ]{p0 p1 p2 p3:?ZD A6}[?aK](k:∀x0 x1 x2 x3 x4 x5 x6,?nO->?oM->?r7->?pK->?EN):?TP (qZ fun x0 x1 x2 x3 x4 x5 x6=>En (σ=?kY) (?nO) (?oM) (?r7) (?pK)):=by
 rintro _ ⟨x0,x1,x2,x3,x4,x5,x6,rfl,h0,h1,h2,h3⟩;exact ?WS x6
theorem VN[?zZ]{p0 p1 p2 p3 p4:?ZD A6}[?aK](k:∀x0 x1 x2 x3 x4 x5 x6,?nO->?oM->?r7->?pK->?OY->?EN):?TP (qZ fun x0 x1 x2 x3 x4 x5 x6=>Hn (σ=?kY) (?nO) (?oM) (?r7) (?pK) (?OY)):=by
 rintro _ ⟨x0,x1,x2,x3,x4,x5,x6,rfl,h0,h1,h2,h3,h4⟩;exact k x0 x1 x2 x3 x4 x5 x6 h0 h1 h2 h3 h4
theorem vN[?zY]{p0 p1 p2 p3:A0->A1->A2->A3->A4->A5->?YG A6 A7}[?aK](k:∀x0 x1 x2 x3 x4 x5 x6 x7,?E7->?C0->?DM->?II->let s:=?j0;G s):?TP (uV fun x0 x1 x2 x3 x4 x5 x6 x7=>En (σ=?j0) (?E7) (?C0) (?DM) (?II)):=by
 rintro _ ⟨x0,x1,x2,x3,x4,x5,x6,x7,rfl,h0,h1,h2,h3⟩;exact k x0 x1 x2 x3 x4 x5 x6 x7 h0 h1 h2 h3
universe Hb
namespace L2
open PySem PySem.Spec PyProof.Rows
section
variable[?iE][?F][?AK]{ds:?j2}
universe e9
universe L2
namespace L2
open PySem PySem.Spec PyProof.Rows PySem.W
section
variable[?T8]{sp:Sp}{m:Str}{pos apos:Pos}{e o:Expr}[?cU]{ta:TE}{t:TA}
universe e9
section
variable[?iE]{K:Frag}[?AK]{ds:?j2}
universe e9
section
variable[?T8]{dvs:?u}{sp:Sp}{m x:Str}{p pos apos:Pos}{e o:Expr}[?cU]{ta:TE}{t:TA}
universe e9
universe L2
namespace L2
open PySem PySem.Spec PyProof.Rows
def C6[?w](n:Str)(st:Stmt):Prop:=∃(f:Addr) (fd:FuncData),W.nsIn K ?G8 n=?c (?c (?k f))/\?R7
def Rk[?w](C:Addr)(n q:Str)(st:Stmt):Prop:=∃(f:Addr) (fd:FuncData),W.findIn K ?wB n=?c (?c (?k f))/\W.isFn K (?k f)=true/\?K5
def BA(x q:Str)(st:Stmt)(ps:?A):Prop:=∀(kV doc pm:Value) (an:OAddr) (Dp ct:Value) (us:?j2),us.length=ps.length->bindArgs (W.fnOf x q (Ik st) (F7 st) (As st) ?bF kV doc pm an Dp ct) ⟨us,[]⟩=pure (ps.zip us)
section
variable[?iE][?F]{mg:?x5}{base h:Heap}
theorem Bp(X:K.In h)(G:h.Ns ?G8 mg){n:Str}[?AF](d:C6 K n st)(ok:∀{f fd},?R7->?x9)(hb:BA n n st ps):Has P w K mg ?aJ n ps k sp:=by
 obtain⟨f,fd,a,F⟩:=d;exact⟨_,_,qv6 X G a,F.kp,?xA,ok F⟩
theorem Ij{C:Addr}{n q:Str}[?AF](d:Rk K C n q st)(ok:∀{f fd},?K5->?x9)(hb:BA n q st ps):Jy P w K mg ?aJ C n ps k sp:=by
 obtain⟨f,fd,a,b,F⟩:=d;exact⟨_,_,⟨a,b,F.kp⟩,?xA,ok F⟩
theorem cC{C:Addr}{q:Str}[?AF](m:PySem.W.makesIn K C=true)(kc:W.keepIn K ?wB=true)(d:Rk K C ?yI q st)(ok:∀{f fd},Eo K ?yI q st f fd->?x9)(hb:BA ?yI q st ps):fX P w K mg ?aJ C ps k sp:=by
 obtain⟨f,fd,a,b,F⟩:=d;exact⟨_,_,⟨m,a,b,kc⟩,?xA,ok F⟩
universe e9
universe L2
namespace Hb
open PySem L2
def top(i:Nat):Stmt:=PySem.Challenge.pw_holebook_k82_whole_discs_and_their_sums.main.body.getD i (.Pass ⟨0,0,0,0⟩)
structure Fe[?w](mg:?x5)(Ag Ad Ah Av:Addr):Prop where
 m_Lines:mg "Lines"=?c (?k Ag)
 cl_Lines:Cls K Ag
 na_Lines_rows:Df K Ag "rows"
 na_Lines_backs:Df K Ag "backs"
 m_Stairs:mg "Stairs"=?c (?k Ad)
 cl_Stairs:Cls K Ad
 na_Stairs_rows:Df K Ad "rows"
 na_Stairs_backs:Df K Ad "backs"
 na_Stairs_starts:Df K Ad "starts"
 m_Work:mg "Work"=?c (?k Ah)
 cl_Work:Cls K Ah
 na_Work_table:Df K Ah ?wN
 na_Work_width:Df K Ah ?xL
 na_Work_left:Df K Ah "left"
 na_Work_right:Df K Ah "right"
 na_Work_numbers:Df K Ah "numbers"
 m_Book:mg "Book"=?c (?k Av)
 cl_Book:Cls K Av
 na_Book_pieces:Df K Av ?CD
 na_Book_levels:Df K Av ?QN
 na_Book_lifts:Df K Av "lifts"
 x_GAPS:∃a,?WA "GAPS" [32,16,8,4,2]
 x_FACE_COUNTS:∃a,?WA "FACE_COUNTS" [0,2,3,4]
 x_MOST_ROWS:∃t,mg "MOST_ROWS"=?c (?f 40 t)
 x_LEVELS:∃t,mg "LEVELS"=?c (?f 4 t)
 x_MOST_PIECES:∃t,mg "MOST_PIECES"=?c (?f 40 t)
 n_isinstance:?UG "isinstance"
 n_int:?UG "int"
 n_bool:?UG ?yJ
 n_tuple:?UG ?jX
 n_zip:?UG "zip"
 n_max:?UG "max"
 n_len:?UG "len"
 n_all:?UG "all"
 n_range:?UG "range"
 n_dict:?UG "dict"
 n_any:?UG "any"
 n_list:?UG ?uB
 n_enumerate:?UG ?e2
 n_min:?UG "min"
 n_abs:?UG "abs"
 n_reversed:?UG ?g2
def IF[?AM]:?e:=(ns.drop (?KQ)).take (HT.sIx ?tQ ?tQ hi-?KQ)
theorem FG[?AM]:C8 ?n6 lo hi=(?PH).map ?S:=by
 unfold C8 IF;rw[qa3,qw8,qw9]
theorem FH[?AM]:?WY ?PH ns.length:=by
 unfold IF;rw[qd3,qh9];omega
theorem oV:([?d2]:?A).Nodup:=?D
theorem vL:(?K1:?A).Nodup:=?D
theorem Ai4:(["face",?hW,"level"]:?A).Nodup:=?D
theorem vK:([?dS,?d2,?hW,"k"]:?A).Nodup:=?D
theorem Ai3:(["k",?hW,"thing"]:?A).Nodup:=?D
theorem VJ:(?MW:?A).Nodup:=?D
theorem vJ:([?dS,"piece","k"]:?A).Nodup:=?D
theorem oR:([?nF,?xL]:?A).Nodup:=?D
theorem Ai2:([?nF,?oG,?xL]:?A).Nodup:=?D
theorem YC:(["j",?wN]:?A).Nodup:=?D
theorem yC:(?MK:?A).Nodup:=?D
theorem YB:(["i","size"]:?A).Nodup:=?D
theorem YA:(?QP:?A).Nodup:=?D
theorem OU:(?H0:?A).Nodup:=?D
theorem XZ:([?dS,"below",?hW]:?A).Nodup:=?D
theorem xZ:([?dS,?rO]:?A).Nodup:=?D
theorem oU:([?dS,?d2]:?A).Nodup:=?D
theorem OT:([?nF,"paper"]:?A).Nodup:=?D
theorem OS:(["j",?d2,"i"]:?A).Nodup:=?D
theorem XY:(["parts"]:?A).Nodup:=?D
theorem oS:(["hole"]:?A).Nodup:=?D
theorem xY:(["part"]:?A).Nodup:=?D
theorem XX:(?p0:?A).Nodup:=?D
theorem OR:(["_law_k","_law_count","_law_more"]:?A).Nodup:=?D
theorem xX:(["_law_piece",?HJ]:?A).Nodup:=?D
theorem XW:(["_law_face",?HJ]:?A).Nodup:=?D
section
variable[?iE][?F][?AK]{Ag Ad Ah Av:Addr}
noncomputable abbrev Q3:Stmt:=top 2
theorem DQ:?cI ?gC ?gC (As Q3):=Bf
theorem EB[?cR](F:Eo K ?OB ?OB Q3 f fd)[?cQ] :?TM ?gC Iq:=by
 refine ?VS DQ;obtain⟨x,d,rfl,hx,k⟩:=h;refine(?YA (Lu (?U8 (Ig (v:=.ty "int") rfl T.n_int boot_intT rfl)) (Nd (OD (?U8 (Ig (v:=.ty ?yJ) rfl T.n_bool Zq rfl))))));refine(?XD ?g rfl);refine ite2 (fun e=>?_) (fun e=>?_)
 . refine(?XD ?i ?J);have e2:Ke d=!jQ ?yJ d:=by unfold Ke;rw[e];rfl
   rw[e2]at k;exact k
 . have e2:Ke d=false:=by unfold Ke;simp[e]
   rw[e2]at k;exact k
noncomputable abbrev Ht:Stmt:=top 4
theorem Co:?cI ["one",?oG,"last","now",?MJ,"rest"] ?BG (As Ht):=Bf
theorem Sj[?cR](F:Eo K ?LD ?LD Ht f fd)[?cQ] :?TM ?BG Vd:=by
 refine ?VS Co;obtain⟨n,p,rfl,hA,hB,lA,lB,k⟩:=h
 refine⟨_,(Af (?VL 2 (?Z2 ?a0))
  (Af (?VL 3 (?Z2 ?aQ))
  (Af (Os qc6 (Bk Mp (?YK ?c9 Am) Am ?f2) (Af (?VL 4 (Bd Ko (?YK ?bA Am) (?YK ?c9 Am)))
  (Af (Au (i:=5) ?gI (?ZA (B9 (N':=?K1) (cap:=[none,none,?c 4]) ?R ?i1 (?WP SO ?bA) (?TR (?Y7 vL (?ZG 1 vL))) ?i5 (?TR (Bd Nf ?a0 (Bd ?pI ?bA ?aQ))))))
  (Af (?VL 2 ?c9)
  (Ak (?VL 3 (pv 5)))))))
  (Af (Cf (Bk X3 (?YK ?bA Am) Am ?f2) (Ak (Bb (?ZA (B9 (N':=[?d2]) (cap:=[none]) ?R ?i1 (Wk (K:=K) ?bA) (?TR (?ZG 0 oV)) ?i5 (?TR (N1 Iy ?a0)))))) Bs)
  (Ak (Bb ?bA)))))),?_⟩
 infer_instance
 refine⟨_,rfl,?v0,fun L0 hL0=>?_⟩;have s0:?L H (?UU 0):=?c3 hL0;refine⟨_,rfl,?v0,fun N0 ZX=>?_⟩;have s1:?L (?UU 0) (?KN):=?c3 ZX;refine Ge (fun σ' H'=>σ'=[iS n,iS p,rS L0,rS N0,none,none]/\H'=?KN) ?_ fun Rl=>Rl _ _ ?hE;rintro _ _ ⟨rfl,rfl⟩;refine qy2 (fun σ' H'=>Ex9 fun ?uV (a x y u v:Int) ?xO=>B4 ?EU (?a3) (SqT K H' L ?kP) (?Y2 a 0)) (fun key=>?_) ?_
 . refine⟨fun m σ G=>mZ fun ?uV (a x y b u v:Int) ?xO=>m9 (σ=?L0) (?L H G) (SqT K G L ?kP) (SqT K G N ?xW) (?Y2 a b) (a.natAbs<L9) (b.natAbs<L9) (m=b.natAbs),⟨_,L0,N0,n,1,0,p,0,1,?bG,?bG,rfl,s0.trans s1,.of (s1 _ _ Ab),?p8,Lat.EuI.start hA hB,lA,lB,rfl⟩,?_⟩;rintro m σ G Ee;refine pC ?_;intro _;obtain⟨L,N,a,x,y,b,u,v,o4,o5,rfl,s2,hL,hN,hE,la,lb,rfl⟩:=Ee;refine⟨_,rfl,N,_,_,_,rfl,rfl,hN,rfl,rfl,_,rfl,?_⟩;ext lW
   . have hb0:¬b=0:=?bV
     obtain⟨hE2,hlt⟩:=hE.step hA hb0;obtain⟨_,_,_,_,lu,lv⟩:=hE.all hA hB
     have lq:?EG<L9:=by
      refine qc1 ?_ la;have h3:(?aV*b).natAbs<=a.natAbs+(a-?aV*b).natAbs:=O9m
      rw[qb3]at h3;have h4:0<b.natAbs:=Int.natAbs_pos.mpr hb0;refine qh7 fun h5=>?_;have h6:=qc0 b.natAbs (show a.natAbs+1<=?EG from h5);rw[qf5,qf4]at h6;have h7:=qe6 a.natAbs h4;omega
     have ok:∀z:Int,z.natAbs<L9->?lL (?aV) z:=fun z hz=>BV lq hz;refine⟨fun σ' G'=>mZ fun ?uV (a' x y b' u v:Int) ?xO=>m9 ?EU (?L3) (SqT K G' L [?f a',?f x,?f y]) (SqT K G' N [?f b',?f u,?f v]) (?Y2 a' b') (a'.natAbs<L9) (b'.natAbs<L9) (b'.natAbs<b.natAbs),?_,?_⟩
     . rintro σ' G' ⟨L',N',a',x',y',b',u',v',o4',o5',rfl,q1,q2,q3,q4,q5,q6,q7⟩;exact⟨b'.natAbs,q7,L',N',a',x',y',b',u',v',o4',o5',rfl,q1,q2,q3,q4,q5,q6,rfl⟩
     refine⟨_,rfl,L,_,_,_,rfl,rfl,hL,rfl,_,rfl,N,_,_,_,rfl,rfl,hN,rfl,_,_,rfl,rfl,U4.of9 hb0 lb,?_⟩;refine⟨_,rfl,_,rfl,L,N,rfl,?BO,⟨_,hN⟩,?gG⟩
     have gv:∀(i:Nat) (e f:V),?Y3 ?kP e->?Y3 ?xW f->∃e' f':Int,e=?f e'/\f=?f f'/\?lL (?aV) f'/\i<3 ∧
      ?Y3 ?o2 (?f (e'-?aV*f')):=by
      intro i e f he hf
      match i,he,hf with
      | 0,he,hf=>cases he;cases hf;exact⟨a,b,rfl,rfl,ok _ lb,?bQ,rfl⟩
      | 1,he,hf=>cases he;cases hf;exact⟨x,u,rfl,rfl,?CL,?bQ,rfl⟩
      | 2,he,hf=>cases he;cases hf;exact⟨y,v,rfl,rfl,?CL,?bQ,rfl⟩
      | i+3,he,hf=>simp at he
     refine iG (K:=K) (a:=L) (b:=N) (xs:=?kP) (ys:=?xW) (n:=3) ?hE (?Z7 ?o2 (?X6 [o1,o2,?c (?f (?aV))]))
      ?GQ (fun i zs τ G1 _ hz=>by obtain⟨s3,_⟩:=hz;exact⟨s3.seqT hL,s3.seqT hN⟩) ?_ ?_
     . rintro i e f zs τ G1 pr he hf Ee hpr;revert τ;refine pH ?_;intro s3 eX hzs o1 o2 Hq;obtain⟨e',f',rfl,rfl,hok,hi3,hnext⟩:=gv i e f he hf;have sp:?L G1 (upd G1 pr (?a8 [?f e',?f f'])):=?c3 hpr;ext SE;refine⟨_,rfl,_,rfl,_,rfl,_,_,rfl,rfl,hok,_,_,rfl,rfl,?_⟩;refine⟨sp _ _ eX,?iW (by rw[hzs,qd3];omega),(?HS sp).turn hD,Ab,?_,_,_,rfl⟩;rw[qh8,hnext,hzs];rfl
     . ext RI;have yO:zs=?o2:=hzs;have hT2:SqT K (upd G1 T1 (?a8 zs)) T1 ?o2:=?NS
       exact⟨_,rfl,_,rfl,N,T1,b,u,v,a-?aV*b,x-?aV*u,y-?aV*v,_,_,rfl,(s2.trans s3).trans s4,(?HS s4).seqT hN,hT2,hE2,lb,qv0 hlt lb,hlt⟩
   . have hb0:b=0:=?bV
     subst hb0;exact key _ _ ⟨L,N,a,x,y,u,v,o4,o5,rfl,s2,hL,hE⟩
 refine Ab4 fun L N a x y u v o4 o5 G s2 hL hE=>?_;intro sq;obtain⟨e1,e2,e3⟩:=hE.last hA hB;refine⟨_,rfl,L,_,_,_,rfl,rfl,hL,rfl,_,_,rfl,rfl,_,rfl,?_⟩;ext lW
 . have ha:a<0:=?bV
   refine⟨_,rfl,L,rfl,?BO,?gG⟩
   let Pq1:?p2:=?Z7 ?vF (Ef fun o1=>τ=[o1])
   refine Uw (K:=K) (a:=L) (xs:=?kP) Pq1
    ?y9 (fun i zs τ G1 _ hz=>by obtain⟨s3,_⟩:=hz;exact s3.seqT hL) ?_ ?_
   . rintro i e zs τ G1 he Ee;revert τ;refine Kr ?_;intro s3 eX hzs o1 Hq
     have gv:∃e':Int,e=?f e'/\i<3/\?Y3 ?vF (?f (-e')):=by
      match i,he with
      | 0,he=>cases he;exact(?XS a)
      | 1,he=>cases he;exact(?XS x)
      | 2,he=>cases he;exact(?XS y)
      | i+3,he=>simp at he
     obtain⟨e',rfl,hi3,hnext⟩:=gv;refine⟨_,rfl,_,rfl,eX,?iW (by rw[hzs,qd3];omega),s3.turn hD,Ab,?_,_,rfl⟩;rw[qh8,hnext,hzs];rfl
   . ext RI;have yO:zs=?vF:=hzs;exact k T1 (-a) (-x) (-y) _ ((s2.trans s3).trans s4) (?NS) (e2 ha)
 . have ha:¬a<0:=?bV
   exact⟨_,rfl,k L a x y G s2 hL (e1 O9m)⟩
noncomputable abbrev Q2:Stmt:=top 7
theorem dQ:?cI ?p0 ?p0 (As Q2):=Bf
theorem EA[?cR](F:Eo K ?N1 ?N1 Q2 f fd)[?cQ] :?TM ?p0 K6:=by
 refine ?VS dQ;obtain⟨x,ds,rfl,hx,k⟩:=h;refine(?YA (Az (aT ?R) T.n_max aU (Aa (Bd Nf (?UF ?a0) Am) (Aa Am Ae))))
 obtain⟨p,us,e,hq,hl⟩:∃(p:Addr) (us:?u),x=?f7/\(?UW p us\/SqT K H p us)/\us.length=ds.length:=by
  rcases hx with⟨p,us,e,hq,r⟩|⟨p,us,e,hq,r⟩
  . exact⟨p,us,e,?g hq,?xG⟩
  . exact⟨p,us,e,?i hq,?xG⟩
 subst e;refine⟨_,rfl,p,us,rfl,hq,_,_,rfl,rfl,_,_,rfl,?_⟩;rw[hl];exact k
noncomputable abbrev Lk:Stmt:=top 10
theorem Kj:?cI [?hW,"faces","j","i"] ?QX (As Lk):=Bf
theorem X5[?cR](F:Eo K ?H6 ?H6 Lk f fd)[?cQ] :?TM ?QX Of:=by
 refine ?VS Kj;obtain⟨a,v,xs,p,rfl,hL,hv,Pb,hf,k⟩:=h;obtain⟨pa,rfl,hq⟩:=hv.sq;have hpl:(p.map ?S).length=p.length:=qa3 ..
 refine⟨_,(Af (Cv qc6 rfl (?ZB (?UF ?aQ)) (?ZG 2 Kj.nd) (Ak (Cv qc6 rfl (?ZB ?bA) (?ZG 3 Kj.nd) (Ak (Cf (Bk Mp (?YK (?VQ ?bA) ?c9) (?YK (?VQ ?c9) (Bd Nf ?bA Am)) ?f2) (Ak (Bb Ou)) Bs)))))
  (Ak (Bb Ou))),?_⟩
 infer_instance
 refine⟨_,rfl,pa,_,rfl,?i hq,_,rfl,O9m,O9m,?_⟩;rw[hpl]
 let Pq2:?pJ:=fun j σ H2=>Dg (H=H2) ((∃o2 o3,σ=[rS a,rS pa,o2,o3])) (∀j' i',j'<j->i'<j'->Te xs p j' i'=true)
 refine D7 (lo:=0) (n:=((p.length:Nat):Int).toNat) Pq2
  ⟨rfl,(?VM ?bG ?bG),fun j' i' h=>?MM⟩ ?_ ?_
 . rintro j σ H2 hj Ee
   and_intros
   obtain⟨rfl,⟨o2,o3,rfl⟩,hall⟩:=Ee;have hj':?KV:=O9m
   refine⟨_,rfl,_,rfl,O9m,O9m,?_⟩
   let Pq3:?pJ:=fun i σ H2=>Dg (H=H2) ((∃o3,σ=[rS a,rS pa,?c (?f (0+j)),o3])) (∀i',i'<i->Te xs p j i'=true)
   refine D7 (lo:=0) (n:=?G7) Pq3
    ⟨rfl,?dQ,fun i' h=>?MM⟩ ?_ ?_
   . rintro i σ H2 hi Ee
     and_intros
     obtain⟨rfl,⟨o3,rfl⟩,hall2⟩:=Ee;have hij:i<j:=O9m
     have mj:?n4∈p:=by rw[qa1,qa0 hj'];exact ?eK
     have mi:?rT∈p:=by ext e9;exact ?eK
     obtain⟨j0,j1,j2⟩:=hf _ mj;obtain⟨i0,i1,i2⟩:=hf _ mi;obtain⟨_,z,hq1,at1⟩:=?XN ?fX hv;cases z;rw[show ?G7=j by omega]at at1;obtain⟨_,z,hq2,at2⟩:=?XN ?uQ hv;cases z;rw[?KD]at at2;obtain⟨us1,v1,hu1,av1,tv1⟩:=LT.get hL j0 j1;obtain⟨us2,v2,YO,av2,tv2⟩:=LT.get hL i0 i1;obtain⟨b1,e1,hb1,ab1⟩:=?XN ?uQ tv1;obtain⟨b2,e2,hb2,ab2⟩:=?o7 (i:=?fX-1) tv2 O9m O9m;subst e1 e2;rw[?KD]at ab1;rw[show(?fX-1).toNat=j-1 by omega]at ab2;refine⟨_,rfl,_,rfl,_,rfl,pa,_,_,_,rfl,rfl,hq1,at1,a,us1,_,_,rfl,rfl,hu1,av1,_,rfl,b1,_,_,_,rfl,rfl,hb1,ab1,?_⟩;refine⟨_,rfl,_,rfl,_,rfl,pa,_,_,_,rfl,rfl,hq2,at2,a,us2,_,_,rfl,rfl,YO,av2,_,rfl,_,_,rfl,rfl,b2,_,_,_,rfl,rfl,hb2,ab2,?_⟩;refine⟨rfl,_,rfl,?_⟩;by_cases hag:?UO 0
     . refine G9 (eqI hag) ?_;refine⟨rfl,?dQ,fun i' h=>?_⟩;by_cases hz:i'=i
       . subst hz;unfold Te;exact qf6 hag
       . exact ?PU
     . refine AJ (neI hag) ?_
       have e2:L7 xs p=false:=by
        cases q:L7 xs p with
        | false=>rfl
        | true =>
          unfold L7 at q;rw[qf2]at q;have q2:=q j (?rN hj');rw[qf2]at q2;have q3:=q2 i (?rN hij);exact ?I (qe3 q3) hag
       rw[e2]at k;exact k
   . rintro σ H2 ⟨rfl,⟨o3,rfl⟩,hall2⟩;refine⟨rfl,(?VM _ _),fun j' i' h1 h2=>?_⟩;by_cases hz:j'=j
     . subst hz;exact ?PU
     . exact hall j' i' O9m h2
 . rintro σ H2 ⟨rfl,⟨o2,o3,rfl⟩,hall⟩
   have e2:L7 xs p=true:=by
    ext SS;have:=?fB hj;exact hall j i O9m (?fO)
   rw[e2]at k;exact k
noncomputable abbrev Xm:Stmt:=top 16
theorem z6:?cI [?rO,?dS,?d2,"total"] ?D6 (As Xm):=Bf
theorem LJ[?cR](F:Eo K ?CG ?CG Xm f fd)[?cQ] :?TM ?D6 Pn:=by
 refine ?VS z6;obtain⟨a,ms,k,n,rfl,ha,hl,kq⟩:=h;have LY:=hr.u8
 refine⟨_,(Af (Au (i:=3) z6.nd (Bd By (X0 (u1 LY) ?a0 ?aQ Am ?LQ) ?bA))
  (Ak (Cf (Bk Ed ?c9 Am ?f2) (Ak (Bx (oF ?a0 ?aQ gQ ?LQ))) (Ak (sJ (u1 LY) ?a0 ?aQ ?c9 ?R))))),?_⟩
 infer_instance
 refine⟨_,rfl,a,rfl,?g ⟨_,?g ha⟩,_,rfl,_,jU (?g ha),_,rfl,?bB,n,jY ms k,rfl,?_⟩;refine ?CA;ext lW
 . have e:?hG=0:=?bV
   unfold Ix at kq;rw[?d4]at kq;refine⟨_,rfl,a,rfl,?g ⟨_,?g ha⟩,_,rfl,?c4,?g k,ha,rfl,fun v hv=>?_,fun hn=>?_⟩
   . rw[uN];exact kq
   . rw[iK]at hn;have hn':?CZ:=by simpa using hn
     have e2:?dF=ms:=by
      unfold Ho;rw[qr0];intro p hp
      have:¬?f6:=fun z=>by
       have h3:?BK:=qo3.mpr ⟨p,hp,?s3⟩;rw[Wp]at h3;obtain⟨p',Sr,e'⟩:=?aF h3;rw[←e']at hn'
       have:∀(ns:Ms),p'∈ns->Cu ns p'.1≠none:=by
        intro ns
        induction ns with
        | nil=>intro z;cases z
        | cons q ns ih =>
          intro hq;rw[Dd];split
          . exact ?CU
          . rename_i hne
            rcases ?fG hq with rfl | hq
            . exact ?I rfl hne
            . exact ih hq
       exact ?aR ms Sr hn'
      simpa using this
     rw[e2,wU ha]at kq;exact kq
 . have e:¬?hG=0:=?bV
   unfold Ix at kq;rw[?d3]at kq;exact⟨_,rfl,_,rfl,_,rfl,a,_,rfl,uF ha hl,kq⟩
noncomputable abbrev bJ:Stmt:=top 17
theorem nV:?cI ?z6 ?z6 (As bJ):=Bf
theorem OJ[?cR](F:Eo K "times" "times" bJ f fd)[?cQ] :?TM ?z6 dM:=by
 refine ?VS nV;obtain⟨n,a,ms,rfl,ha,hm,hok,k⟩:=h
 refine⟨_,(Af (Cf (Bk Ed ?a0 Am ?f2) (Ak (Bb Si)) Bs)
  (Ak (Bb (Ey (Zl ?R) ?R T.n_dict Nt (Aa (OE (B9 (N':=?MW) (cap:=[none,none,?c 0]) ?R ?i1 (Ot ?aQ) (?TR (?Y7 VJ (?ZG 1 VJ))) ?i5 (?TR (B5 (Aa ?a0 (Aa (Bd ?pI ?bA ?aQ) Ae)))))) Ae))))),?_⟩
 infer_instance
 refine ?CA;ext lW
 . have e:n=0:=?bV
   intro D hD;refine k D _ hD (?tA) ?_;rw[Ab];unfold Tk;rw[?d4];rfl
 have e:¬n=0:=?bV
 refine ?i ⟨a,?c4,ha,fun hnd o=>?_⟩;refine⟨_,rfl,a,o,?c4,rfl,Ab,?gG⟩;obtain⟨yV,nDa⟩:=eZ hD
 let Pq4:?p2:=fun i zs τ H1=>Ef fun(ts:?EP)=>Pm (zs=ts.map V.ref) (ts.length=i) ((∀(j:Nat) t,ts[j]?=?c t->∃p:?aO,ms[j]?=?kM/\H1 t=?c (?a8 [?f p.1,?HG])/\t≠D)) (H1 a=?c (.frz o ?jK)) (?YQ H1 zs) ((∀c q,c≠a->?NU)) (?X6 [o1,o2,iS n])
 refine Zf (d:=a) (o:=o) (kvs:=?c4) Pq4
  ⟨[],rfl,rfl,(fun j t z=>by simp at z),?_,Ab,?_,?bG,?bG,rfl⟩ (fun i zs τ H1 _ hz=>by obtain⟨_,_,_,_,e,_⟩:=hz;exact e) ?_ ?_
 . rw[An nDa.symm];exact Ab
 . intro c q n1 e2;rw[An (At e2 yV),An n1];exact e2
 . rintro i kk x zs τ H1 p hx ⟨ts,rfl,JQ,hts,ha1,Fq,hk1,o1,o2,rfl⟩ hp;obtain⟨q,hq,rfl,rfl⟩:=Zn hx;have hlt:i<ms.length:=(?b1 hq).1;have sp:?L H1 (upd H1 p (?a8 [?f q.1,?f q.2])):=?c3 hp;refine(?VU p);refine⟨_,rfl,_,rfl,_,rfl,_,_,rfl,rfl,hok q (qb7 hq),?v0,?LF⟩;have st:=sp.trans (?c3 (o:=?a8 [?f q.1,?f (n*q.2)]) ht);have ntD:t≠D:=(At (?HV) ht).symm;refine⟨st _ _ Fq,?iW (by rw[qa3];omega),ts++[t],?jU,by simp[JQ],fun j t' e2=>?_,?_,Ab,fun c r n1 e2=>?_,_,_,rfl⟩
   . rw[List.getElem?_append]at e2;split at e2
     . obtain⟨p',cY,h2',h3'⟩:=hts j t' e2;exact⟨p',cY,by rw[An h3'];exact st _ _ h2',h3'⟩
     . rename_i hj
       have hj0:j-ts.length=0:=by
        cases hz:j-ts.length with
        | zero=>rfl
        | succ m=>rw[hz]at e2;simp at e2
       rw[hj0]at e2;have et:t=t':=by simpa using e2
       subst et;refine⟨q,by rw[?V0 j i];exact hq,?_,ntD⟩;rw[An ntD];exact Ab
   . rw[An nDa.symm];exact st _ _ ha1
   . have:=hk1 c r n1 e2;rw[An (fun z=>by rw[z,yV]at e2;cases e2)];exact st _ _ ?aR
 . rintro zs τ H1 ⟨ts,rfl,JQ,hts,ha1,Fq,hk1,_⟩;rw[Rr]at JQ;refine⟨ha1,D,ts,cK (?W0 n),rfl,(by rw[An nDa];exact Fq),(by rw[Rr,qa3];exact JQ),fun i t e2=>?_,fun E hE=>?_⟩
   . obtain⟨p,cY,h2',_⟩:=hts i t e2;refine⟨(?g p.1,?HG),?_,?_⟩
     . unfold cK;rw[qb2,qb2,cY];rfl
     . have nta:t≠a:=E3 h2' ha1 (?CU);rw[An nta];exact h2'
   . have s1:?L H (upd H1 a ?jK):=fun c q e2=>by
      by_cases z:c=a
      . subst z;rw[ha]at e2;cases e2;exact Ab
      . rw[An z];exact hk1 c q z e2
     refine k E _ (s1.free hE) (?LB (?c3 hE)) ?_;rw[Ab];have hnd':?dV:=Yf.mp hnd;rw[Ng _ [] (by rw[qn1];exact Yf.mpr (GW hnd' n))];unfold Tk;rw[?d3,qn1]
noncomputable abbrev Hv:Stmt:=top 30
theorem Se:?cI ?gC ?gC (As Hv):=Bf
theorem Sl[?cR](F:Eo K ?OU ?OU Hv f fd)[?cQ] :?TM ?gC JD:=by
 refine ?VS Se;obtain⟨v,xs,rfl,hL,hx,k⟩:=h;obtain⟨Qb,j3⟩:=T.x_MOST_PIECES;obtain⟨a,us,rfl,hq,r⟩:=id hL;have hl:us.length=xs.length:=by have:=r.length;simpa using this
 refine(?YA (Lu (?U8 (Ig (v:=.ty ?uB) rfl T.n_list Fc rfl)) (Nd (La JJ (?UF ?a0) (Js (v:=?f 40) ?R j3 ?dQ) ?f2))));refine⟨_,rfl,?P,?uB,_,rfl,?i (?i (?i (?i ?J))),hL,_,rfl,?_⟩;refine AJ ?R ?_;refine⟨_,rfl,a,_,rfl,?g hq,_,_,rfl,rfl,?_⟩;show Q (.bl (?o ((us.length:Int)<=40))) H;rw[qf6 ?d];exact k
noncomputable abbrev Xk:Stmt:=top 40
theorem LA:?cI ?tE ?tE (As Xk):=Bf
theorem LI[?cR](F:Eo K ?BZ ?BZ Xk f fd)[?cQ] :?TM ?tE v9:=by
 refine ?VS LA;obtain⟨v,h,w,j,f,rfl,hv,hh,hj,k⟩:=h;obtain⟨a,us,rfl,hq,Yu,Nm⟩:=Hf hv;refine(?YA (B9 (N':=?MK) (cap:=?RA) ?R ?i1 (Cm (K:=K) ?a0) (?TR (?ZG 0 yC)) ?i5 (?TR (Bc (Ba (K:=K)) ?a0 ?aQ ?bI))));refine⟨_,rfl,a,rfl,⟨_,hq⟩,?gG⟩
 let Pq5:?p2:=fun i ys τ H1=>B4 (?rM) (?YQ H1 ys) (ys=VI i (fun i=>f i j)) (Ef fun o=>τ=[o,iS j])
 refine De (K:=K) (a:=a) (xs:=us) Pq5
  ?y9 (fun i ys τ H1 _ hz=>by obtain⟨s1,_⟩:=hz;exact ?nV hq) ?_ ?_
 . rintro i x ys τ H1 hx Ee;ext SH;obtain⟨hi,b,rfl,hb⟩:=Nm i _ hx;refine⟨_,rfl,_,rfl,b,_,_,_,rfl,rfl,?nV hb,Ao8 hj,?_⟩;refine⟨Fq,?tN,?ML,Ab,?_,_,rfl⟩;rw[Tg]
 . rintro ys τ H1 ⟨s1,Fq,rfl,_⟩;rw[Yu]at Fq;exact ?v2
noncomputable abbrev Ty:Stmt:=top 42
theorem GJ:?cI ?tS ?tS (As Ty):=Bf
theorem gS[?cR](F:Eo K ?JD ?JD Ty f fd)[?cQ] :?TM ?tS W5:=by
 refine ?VS GJ;obtain⟨n,i,rfl,hn,k⟩:=h;refine(?YA (B9 (N':=?QP) (cap:=?RA) ?R ?i1 (?ZB ?a0) (?TR (?ZG 0 YA)) ?i5 (?TR (Xz (Bk Ed ?a0 ?aQ ?f2) Am Am))));refine⟨_,rfl,_,rfl,O9m,O9m,?gG⟩
 let Pq6:?p2:=fun j ys τ H1=>B4 (?rM) (?YQ H1 ys) (ys=VI j (?K4)) (Ef fun o=>τ=[o,iS i])
 refine Ld Pq6
  ?y9 ?_ ?_
 . rintro j ys τ H1 hj Ee;ext SH;refine⟨_,rfl,_,rfl,rfl,_,rfl,?_⟩;have sz:(VI j ?K4).length<sizeLine:=?tN;ext lW
   . have e0:?fX=?aN:=?bV
     have e:j=i:=O9m
     refine ?OC;rw[Tg,?d4]
   . have e0:¬?fX=?aN:=?bV
     have e:¬j=i:=O9m
     refine ?OC;rw[Tg,?d3]
 . rintro ys τ H1 ⟨s1,Fq,rfl,_⟩;rw[qd6]at Fq;exact ?v2
noncomputable abbrev BJ:Stmt:=top 44
theorem NV:?cI ?x7 ?x7 (As BJ):=Bf
theorem oK[?cR](F:Eo K "mixed" "mixed" BJ f fd)[?cQ] :?TM ?x7 R7:=by
 refine ?VS NV;obtain⟨a,b,x,y,n,p,q,rfl,hx,hy,hn,hm,k⟩:=h;refine⟨_,(Ak (Bb (B9 (N':=?H0) (cap:=[none,none,?c 0,?c 2]) ?R ?i1 (?WP bQ ?aQ) (?TR (?Y7 OU (?ZG 1 OU))) ?i5 (?TR (Bd By (Bd ?pI ?bA ?a0) (Bd ?pI ?c9 ?aQ)))))),?_⟩;refine⟨_,rfl,_,rfl,x,y,rfl,⟨_,hx⟩,⟨_,hy⟩,?gG⟩
 refine AS (K:=K) (a:=x) (b:=y) (xs:=VI n p) (ys:=VI n q) (n:=n) (by rw[Br,Br,qx8]) (fun i zs τ H1=>B4 (?rM) (?YQ H1 zs) (zs=VI i (fun j=>a*p j+b*q j)) (?X6 [o1,o2,iS a,iS b]))
  ?GQ (fun i zs τ H1 _ hz=>by obtain⟨s1,_⟩:=hz;exact⟨?nV hx,?nV hy⟩) ?_ ?_
 . rintro i u v zs τ H1 pr hu hv Ee hp;revert τ;refine pH ?_;intro s1 Fq hz1 o1 o2 Hq;subst hz1;obtain⟨hi,rfl⟩:=U0 hu;obtain⟨_,rfl⟩:=U0 hv;have sp:?L H1 (upd H1 pr (?a8 [?f (p i),?f (q i)])):=?c3 hp;ext SE;refine⟨_,rfl,_,rfl,_,_,rfl,rfl,(hm i hi).1,_,rfl,_,rfl,_,_,rfl,rfl,(hm i hi).2,_,_,rfl,rfl,?_⟩;refine⟨?HV,?tN,(?LB sp).turn hD,Ab,?_,_,_,rfl⟩;rw[Tg]
 . rintro zs τ H1 ⟨s1,Fq,rfl,_⟩;exact ?v2
end
mutual
#check(4,[?a,?b,some,.int,.ref,base,Same,(?kJ),.lst,none,(fun key=>?_),(pv 0),(pv 2),(pv 1),Same.new,.tup,F.okZ,fun Dp A outer s H vs Q E hr h=>?_,FnScope,∀(T:?GZ),a,∀{f:Addr}{fd:FuncData},a,(pv 3),rS a,V.int,rS p,.inl,.(by decide +kernel),Be ?p5,(Bo _),.(by infer_instance),T.cl_Work,(fun _ _=>rfl),rS D,putF,.(by refine ?sG;refine ?FL),T.cl_Stairs,.ins,(pv 4),.(by ext N),.(by simpa using h1),.(by kernel_rfl),spot,Rep.same,(by ext O),.inr,(?OH Ea ?F),.(by decide),(Ba (K:=K)),(?NN Ay ?l),"table",(?TW ?n),(?TW ?m),qa8 _,Nat->?dA->St->Hp->Prop,"shape",fun D hD=>?_,(?jV),TI.mk (?bY),decide,W.findIn,iS n,(i:Int),if_neg,(?TW ?l),.(by and_intros),(pv 5),Ej.nd,?d i,"self",(fun _ _ _ _=>Ch),.(by ((repeat (first | rw[Aq,?dH] | ext rL))<;>first | rfl | assumption)),iS k,(?OH He (fun _ _ _=>rfl)),.(by refine ?dS (fun h1=>?_) (fun h1=>?_)),(?U),Nat->St->Hp->Prop,.(by refine Ip ?_;intro sq),?o hD,(Aw (K:=K)),(?OH Jn (?I4)),hc.1,s2.trans,rS la,T.n_len,rS tp,(t:Int),rS ga,.(by rotate_left),"number",if_pos,"width",Reps.same,.(by exact nomatch hl),.(by simpa using this),Reps,iS c,?c ?j,T.n_range,(k:Int),(?TK rfl),rS l,iS i,.(by simp;omega),List.replicate,rS t,high,V.ref,.(by ext bP),H=H',(0:Int),T.na_Stairs_rows,SameX,.(by rintro σ G Ee;revert σ),.(by simpa using h2),(?g H G),fun a ha=>?_,(-(B / g)),iS a,cK ms,[?aG,?d0,?fO],"turn",(by ext A),.of Ab,[?aG],s1.trans,"__init__",(?TX ?W ?n),fun Hl=>?_,Kp.upd,(D:Addr),.(by refine ?sG),rS q,rS c,small,"thing",?o hp,Ct.nd,"row",rS L,(?i []),s1.seq,?c ?BU,R.same,(?VJ ?Y),.(by simp),"place",?c o,H' D,(us:?dA),?d 0,(Bm (K:=K)),(Cw Ae),rS ta,SameX.upd,T.cl_Lines,?uU V,?c (?kO),?c (?d ?sN),(?TW ?v),?c9 O9m,"rows",Rows,?z rfl,qa0 hi,(pv 6),(?f1),l.prog,g.trans,List,C7 xs (?eM),?d8 V,"_law_n",?d8 Int,(?e Ag),Dn.nd,(n:Int),?c (?d ((?gU:Nat):Int)),?b1 rfl,"other",(?RF Ou),(i+1),(Bd By ?v Am),(G8 (K:=K)),(Fj (K:=K)),R.same.seq,?d (b),.of ?iK,(?QI rfl),ite2,(?f2,Lat.one),(f+d),.(by revert τ;refine Kr ?_),rS nn,[?aG,?bW],?c (?i us),(?TZ ?l),[?aG,"k"],?e D1,(?TZ ?aD),Lat.Mat × Lat.Mat,T.na_Work_numbers,hc.2.1,hc.2.2,"blend",(?TZ ?m),fun E hE=>?_,(?V7 By ?L),Bz n row,?aA (fun z=>?iV (z▸hm) ?bX),W.keepIn,(?TW ?aD),?e D2,"left",(?gW),T.na_Work_table,?c 1,?e q0,iS x,?bA+1,T.na_Stairs_starts,?d (?p6),(?NR Ed ?l),SameX.of,"chain",?c ?cF,rS b,T.cl_Book,xs.length,D8.nd,.(by obtain⟨dx,fs,hp,l1,l2,l3,l4,l5⟩:=lx.ob),.(by obtain⟨g,_⟩:=hz),.(by rw[qa3];omega),.(by split<;>omega),A / g,Lat.one,?cT (SameX.refl _ _),q.1.toNat,T.na_Work_left,"one",(pv 7),"law",?z hq,V.bl,?e D,?o hE,Be (?m4),[?X,?b2],xs.getD,"list",R2.same,[none],(?lF hv).1,rS tl,[?a2,"k"],(?V7 By ?n),(Bc ?V ?W ?m ?F),"backs",as.map ?bI,(?e Ah),fun m hm=>?_,C7 xs 0,T.n_isinstance,(?TW ?W),(?e Ad),Kp.of,?c0 s2,?c9 (by ext eZ),(?NZ [o]),?d (b+1),T.n_enumerate,(xs.length:Int),Ep.nd,(?TZ ?n),C4.nd,?e a,Iu.nd,(?TW ?L),(pv 8),?c (?i ws),T.n_list,(pv 12),?c 2,(B7 _ _ _),[(pl,1)],[?aG,"i","j",?f6,?dI],s1 _ _ ?xE,s.1 i,.(by refine(?NT p ?bY)),Z3 ps,"right",?Q s1 hL,PW.pt,(.dK []),?c q,ps.take,"pieces",[?h6,?lM,?dB],(?PU _ ?_),C7 xs k,s2.seq,spot+1,(?TW Am),qj7.mp,rS tg,(?RG ?aB),?c (?sU),Cp.nd,(?RF ?m),(?fP),t ?P,"_law_at",[?cA],g.seq,(0+?a9),(?NN Cm ?l),mainGlobals,(?e t),An hb,?c (?d ?lS),s.1 i (?h5),l4 _ ?bX,?fF i.toNat [],?QX H,s.1 ?P (?h5),(?gU),Nat->Int,fun Rl=>Rl _ _ ?wI,"_law_script",x.same,K.lookup,?e T1,?wN g2,?o hT1,"papers",(kk:Int),"told",(o4:?cV),iS b,k H1 s1,ns.map ?x,(?RG ?Y),(pv 11),(pv 9),(Dl (K:=K)),Hf hv,(w+n),T.na_Work_right,bo.1,?e ta,(ws:?dA),"numbers",Bi ?AN,.(by rintro _ _ ⟨rfl,rfl⟩),.(by exact k H (?qA)),.(by refine ?FL),.(by have:=?j4),.(by rw[e2]at k;exact k),.(by rw[An ?uO]),.(by intro z;cases z),.(by rw[?AY]),xa.2.1,(?hQ),[?a2,?cA,"level"],rS lw,?S rfl,?c 0,ns[j],(top 63),s1 _ _ hp,?d (fs.getD i 0),[?aG,"i"],absurd,Bn NC,sL.seq,(?f3),(pv 10),qk5 _ ?aM,bs.map ?bI,(G D=?uA),(qh2 _ _),(?lF hx).1,(Hy m f),?NC ?wI,xb.2.2,U3.of,fun e=>?AT,(?F6),"_law_other",s3.trans,"lifts",Lat.turnL,(?T1 H1),for_list,E8 xs k,An n1,(?e Av),c≠D,s4.trans s5,Gf ys t,?c v,iS at_,rS hg,rS fi,(by ext l1),row.drop (row.length-i),?e q1,iS kd,?T1 H,["parts"],R.free,fun t ht=>?_,?SU ?jC s5,(?NH Mf),(by ext iI),Mj.nd,?c (?d ((?d9:Nat):Int)),(Mg K Ag Ad Ah),(?g H H1),(?cN=?dY),(H1 D=?uA),.cons,?cG hq,(?RG ?fU),gp _ _ Dr,⟨[],rfl,rfl,?vE hD,?j,rfl⟩,?QV O9m,⟨T1,_,rfl,?bY,⟨_,_,rfl,rfl,_,_,rfl,rfl,_,_,rfl,rfl,_,_,rfl,rfl,rfl⟩⟩,?RR ?bA,(?TW ?fN),(show spot<n by omega),(?NH Kh),.(by rfl),qm3 _ ?aM,p.2.2.2,?d7 gp,R3.same,?d ?a9,?c0 sp,⟨rfl,?_⟩,(?eK),"_law_k",?JA _,?e b,E8 xs (k-1),(top 58),Cl.nd,[none,?eJ],.(by obtain⟨zQ,HV,HK,hpa,l1a,l2a,yH,zT,VR,ZS,l7a,_⟩:=x.ob),∀(Cy:Has P w K mg ?f ?pE ?fE 2 (Hr K)),a,.(by first | exact Or.inl rfl | exact Or.inr rfl),.(by rw[?I5]),∀{α:Type}{P:?d8 α->Prop},a,.(by exact fun z=>nomatch z),.(by refine ?CR),∀(us:?d8 α),a,(?kV).length,(st:Int),upd G e (?TJ ?gF),"_law_joined",(?mO).1 i (t ?dU) / s.1 ?dU (t ?dU),"_law_turned_order",?c (?d (N:Int)),[?f6,?dI],qa4.mp,?e q2,xa.row,[?f6,?dI,?b2],sp.zip ns,(b+2),s12.seq,"_law_base",?QV h1,Sv d f l r,?aA ?q9,[?a2,"k",?cD],"_law_put",(m:Int),[?eK,?jT,?lG,?e q3,?e q4,?e q5,?e q6,?e q7,?e q8],?aA h2,cK ns,(?NN Nk ?h),?d a,[?a2,"k",?cA],σ'=[?y,none],"is_part",[?a2,"k",?cL,?b0],?K8 i,Str.empty,.(by ext bE),PySem.W.plainGet,R.push,R2.same.free,?bF (n+1) (?e u),[?hN],(s1 _ _ e),(?GR i j 1 l),["_law_found"],C8 vs (?c (?aX+2)) ?j,(?o vI).turn,R.same.trans,fun C hC=>?_,"list_times","border","is_place_of_level",Int.gcd,"_law_kind",((spot:Nat):Int),"border_table",?t2 t i f s d,qa2 _,H1=H',"is_chain_of_some_level",(?TW ?d4),[?hN,?kS],[?bW],[(?aX,?aX+1),(?aX+1,?aX)],Ni ?eV (ls.take i),?RR ?sX,aA kd N at_ ?eV,?d8 Addr,"without_borders","product",(?lG),"plus",?NL ?c (?I6 "object.__setattr__"),(?OD []),x*jc.1 / ?w4,(?g G H'),.(by ext iF;ext b5),(?uL),fun _=>False,?NL ?i zs,R1.free,?d ?aX,(?jT),"places_of_level","_law_high_disc",Pc a b n,p.1=1,?R6 m,T.na_Work_width,.func,PySem.W.makesIn,¬N a,TI.sq,PySem.W.hasDictIn,jP ?_,"_law_disc",?bF n [a,a],Sum.inl,sD _ _ Dr,nb a ha,cK p.2.2.1,k01.trans,(RY i j g a b f r),s1.free,(ys=?fP),"is_chain",[?jT,?lG],i+1+j,"chain_of","add_faces",[?a2,?cA,?vK],R2.same.trans,(?g6),?aT s3,fun hnd o=>?_,[?sR],?aA ?bX,"numbers_at","tuple",fun T1 hT1=>?_,σ'=[?y,?cS,?cH],(w:Int),(?d3),fun r' b' G2 sx n1 n2 z=>?_,a=q\/N a,(?e F0),Fy.nd,Vi ?_,id hL,.(by ext f0),.str "add",(?SV ?l),"is_whole_below",W.nsIn,(k0:Int),.of Dr,"first_misfit",(?T1 H2),[?mL,?dB,?h6,?lM],Lat.blendR,["spots",?eR],((?h5:Nat):Int),.(by simpa using h4),(qb6 hx).symm,C8 vs ?j (?c ?aX),(?cK),?EX f k0 i,?d b,if (?uV-1) > 1 then(?uV-1) else 1,PySem.W.plainOver,"parts_of","is_list_of_wholes",upd H2 d (?TJ ?mV),[?e e1,?e lw,?e hg,?e e2],"flipped",T.na_Lines_rows,An nD,s.1 j,Vg lf (?gQ j),(?c M),"many",[?cA,?b2],"is_straight","_law_gcd","_law_part",s0.free,"is_shape",fun a ha z=>?_,"turned",["k",?vK],[?aG,?X,?b2],.of et,?o ht,(Ak Sh),"_law_level_holds",(as.length=i),cO ?AN,q.1=0,"__setattr__",fun F hF=>?_,T.na_Lines_backs,"_law_pieces",?uU L2.V,(Ay (K:=K) (Ay (K:=K) ?m)),"_law_whole",(by omega),?JA H,(?uN),"lines",W.fnOf,(?jH).length,[?cA,?pK],(pv 14),W.codeIn,T.na_Stairs_backs,"piece","lifts_of","check_level",(?O3 []),.none,"stepped",.(by have:=r.length;ext b5),"across",[?d g,?lX,?p7],(?OH JT (fun _ _ _ _=>rfl)),"start_of",(qj5 ?gE),?e ga,"diagonal","bases_of",(?i [?eK]),"is_table","ones",?NN ?lH hi,T.n_all,"fits",?QX H0,(?DU),?o hF,T.m_Lines,.(by rw[qb8];rfl),R2.free,"_law_cell_at",Ex.mpr rfl,[?cA,?vK],(?i [?cP]),.(by refine ?sG;refine ?CR;refine(?Q3 ?JL);have K0:?OF H ?vZ:=?o Yz;have Od:TI K (?vZ) ?kR [a,a]:=?a5;generalize ?vZ=J0 at K0 Od),.(by refine G9 (fun z=>nomatch (show false=true from z)) ?_),∀(Bq:Has P w K mg ?f ?nF ?fL 2 (Ds K)),a,.(by refine(?NU a ?JI)),.(by refine⟨_,rfl,_,_,rfl,rfl,_,rfl,?_⟩),.(by refine ?oN;intro us o4 sG Dr rG Hq),.(by refine ?dS (fun e=>?_) (fun e=>?_)),.(by rw[Aq,?oC]),.(by refine K4 ?BN;intro sq),.(by obtain⟨q,hq,rfl,rfl⟩:=Zn hx),.(by obtain⟨i,hi,rfl⟩:=qj8 ha),.(by exact ?j6),.(by obtain⟨RC,rC,sm3⟩:=x.sm),.(by obtain⟨as,xa,na⟩:=lx.rw),.(by injection this with this),.(by replace hrep:=hrep _ rfl),.(by rw[qa3,xa.1];exact hi),.(by rw[qa3,xb.1];exact hi),.(by obtain⟨s1,_⟩:=hz),.(by refine pC ?_;intro _),.(by rintro i σ G hi Ee),upd J1 q2 (?p [?g0,?g0,?g0,?g0]),G9 ?bX ?_,.of y.st,?d8 (Str × V),Cls K C/\Df K C ?d0/\Df K C ?fO,?T0 H [?oQ,?kO,?sU,?d 1],upd H e ?GU,R1.same.free,"Lines.__init__",[?x2,?C5],?TC G [?d (b+1%?dF),?d (b+(0+?a9+1)%?dF),?d (b+?h9)],.of e5,?sC++?mD,?p4++?IT,U m M l r,[?qC,?bW],?b1 h2,⟨_,rfl,rfl,_,rfl,?_⟩,fun q=>q.map (Nw t),?T0 H3 [?oQ,?sU,?kO,?d ?F0],(?jH).getD,x3.tup,(?lF hq).1,upd J5 q6 (?O3 ?xI),(z:Int),"spot",qa5 (Gx _ _ _) Qi,List.range,"size",lx.keep s1,s0.trans,?d (j:Int),(?fX).trans,?T0 H [?oQ,?aF,?d ?P,?d (-kk)],(fi:Int),T.na_Book_pieces,T.n_zip,(?e q),upd H q0 ?GU,Lat.shrS,.ad i ?P (-kk),(gp:Int),[?iA,?X,?b2],"step",?d7 g1,upd H4 c2 ?HN,Yk ?P i (?hJ) (?hF) g a c s,upd H6 c4 (?i (?mD)),.(by rw[Ab];rfl),?a6 (i<b),?RY G l,?i (Fi (?gK)),?TC H [?lX,?lX],[?eR,?wF,?b0],Li xs (?eM),?a6 (0<=i)&&?a6 (i<?g2),fun(k:Nat)=>Nr xs ?bA ms,[?vD,?mL,?dB],[?x (c0+Eu kd 0),?x (c1+Eu kd 1),?x (c2+Eu kd 2),?x (c3+Eu kd 3)].take,?mK x y,(Rq ((?lJ).take i)).length,upd H5 c3 (?i (?sC)),"put_in","gauges",sG.trans,upd (upd G1 CG (.own L')) L' (?K Ag CG []),[?X,?b2,?qC],(?fP).set,?TC G [?d (b+2+1%?dF),?d (b+2+(0+?a9+1)%?dF),?d (b+2+?h9),?g0],[?AF,?zJ],"loops",xb.there.2,qa5 (Gx ..) Qi,upd H q0 ?qM,(t:?AX),.(by rw[hfs];ext aI),upd J1 q2 (?p [?dP,?dP,?dP]),?c9 (?m4),"_law_count",W.isFn,PV _ _ Dr,nA.2 w hw,?T0 G [?oQ,?aF,?d (?uH:Int),?d (-qq)],?NL ?i ys,[?a2,?vW],upd J2 q3 (?O3 [1]),?sJ i 0,na a ha,?o HF,[?xX,?kS,?u5,?wC],(f+d:Nat),(p:Addr),cX.trans,R4.same,σ'=[?y,?bD,?RR ?mM],(pv 13),?SE D,fun z=>?_,belowD (?aF) b,pv.same,?tR g1,.of Fq,.(by rw[Mx];decide),Option,(vs.length:Int),"Lines.blend",upd H3 c1 (?i (?p4)),?bL<?dF,?O6 G [?d sv,?d nv],?hF / ?hJ,[?L3,?jB],g.turn hD,(as:?mZ),?T0 G3 [.str "minus",?d ?mM],(x.same.trans s1).free,ms.getD i (0,0),[?cD,?b2],C7 xs ?bA,upd J0 q1 ?qM,"shrink_row",(os:?dC),op_mulX,"_law_due",Rows.nil,[[],low,high,[]].getD kk [],Mz xs ms i,⟨?B,?a3⟩,?NL ?i (?j1),upd J4 q5 (?O3 [3]),"bound","meet",Str->?uU Value,fun q1 HF=>?_,[?aG,"i","first"],[?II,?dB],T.n_dict,upd J3 q2 (?p [?dP,?yB,?g0]),[?aG,?sO,"i"],[?aG,?cA],.of hp1,upd H4 p (?P1 E),"bases",us++[?e t],.(by rw[OZ];exact h3q),upd H q0 (?p [?y1,?y1]),(TA.of R hcl).same,?OU Dr,upd H7 c5 (?i (?sB)),fun D2 H2 Rx s2 h2=>?_,(?mK x jc.1:Int),?S9 H5 (?NS E),s1.turn hD,upd H2 u (?p [?p7,?p7,?p7]),upd J7 q8 (?O3 [0]),RU _ _ _,"share",?S (?S (?S (?HK))),"_law_twists",Lat.Shares,upd J0 q1 (?p [?dP,?dP,?dP]),"faces",[?aG,"i","j"],(K w.params).In,⟨rfl,rfl⟩,ME.trans g3,(N:Nat),qg9 _ O9m,RL.same,g1.trans,"count",H' p=?SK Ah fs,s1 _ _ hb,?e la,upd J0 q1 (?p [?dP,?y1]),(?IA,s.2),"Lines.turn",U3 r b H1 G,(jM kd),x / 9%18,oJ.2 w hw,"twists","bool","_law_more",(?gR,?e P),?c (?d ?dF),g _ _ hp3,Bz n (?jS),upd J3 q4 (?O3 [2]),(s:?e3),x4.tup,fun q2 pR=>?_,upd J2 q1 (?p [?g0,?yB,?dP]),row.getD (row.length-1-i) 0,?Q Mr hrep,.(by rw[Br];omega),xb.2.1,.(by simpa using h3),[b,b,b],.(by rw[Br]),[1,1,2],e.symm,Hy m ?AC,upd J6 q7 ?qM,i<ns.length,?aT sp,[?a2,"k",?hT,?tX,?tQ],[?a2,?eR],fun c hc=>?_,bV ?aM ?aM,"put_in_order","shrink",?NL ?d ?w4,[?a2,?cA],s3.free,"_law_book",?fF j [],.of hD,.of x.nu,?d (a),?NL ?d (kd),?O4 ?mV,1<ys.length,(z▸R.free),σ'=[?y,iS ?P,?bD,?NL ?d ?p1,?NL ?d (?hJ),?NL ?d (?hF)],bs.any id=true,?o pR,(ys:LLInt),upd J1 q2 ?qM,?d ?lK,"straighten",.(by exact⟨?HZ,?fY,?DC,?IM,?r8,?m6 Rx s2 (by rw[hal];exact h2),_,rfl⟩),.(by refine(?O2 t ?pV);refine ?zL),.(by have ZP:?JX:=?qP),.(by rintro ys τ H1 ⟨as,hal,rfl,R,_⟩;exact k D as H1 O9m R),.(by exact⟨?J,?bM,?qI⟩),∀(Cq:?O8 P Ad),a,.(by obtain⟨tv,dx,fs,hp,l1,l2,l3,l4,l5,l6,l7,hrep⟩:=x.ob),.(by refine(?O2 ta hT1)),.(by exact⟨?cU,?pF,?q4⟩),.(by refine(?NT pr ?bY)),.(by rw[qb2,?d3]at hx;rw[qa1,?d3];simpa using hx.symm),∀(Ia:Has P w K mg ?f "mixed" ["a",?f6,"b",?dI] 1 (R7 K)),a,∀(Dm:Has P w K mg ?f ?qL ?pT 3 (F4 K)),a,.(by obtain⟨r1,b1,r2,b2,lx,ly,f1,f2,f3,f4⟩:=x.li),.(by exact⟨_,rfl,_,rfl,_,rfl,a,b,n,rfl,hn,f6,k⟩),∀(Fm:Has P w K mg ?f ?HY [?qJ] 1 (K6 K)),a,∀(Fn:Has P w K mg ?f ?IY ?h7 1 (Iq K)),a,.(by refine⟨P,_,rfl,?z (.of hP),?_⟩;rw[qa3]),.(by refine⟨_,rfl,_,rfl,O9m,O9m,?a3⟩),.(by rcases ho with⟨_,q⟩|⟨_,q⟩<;>cases q),.(by obtain⟨ci,_,NC,_,mD⟩:=?r1),.(by refine ?zL),.(by refine ?dS (fun h4=>?_) (fun h4=>?_)),.(by refine⟨_,rfl,_,rfl,O9m,O9m,?_⟩),.(by rintro ys τ H1 ⟨s1,Fq,rfl,_⟩),.(by refine K4 fun H2 CY=>?_;intro sq),.(by intro s1 Fq hz1 o Hq;subst hz1),.(by rcases ha with rfl | rfl | rfl),.(by rintro ys τ G ⟨g,Dr,yl,_⟩),.(by intro sq;have ME:=?hR),.(by obtain⟨Mc,Hg⟩:=T.x_LEVELS),.(by exact ?HF),.(by obtain⟨r,b,lx,_⟩:=y.ex),.(by refine eT ?_;intro o1 y Hq),.(by refine⟨_,rfl,_,rfl,?_⟩),.(by rintro i x ys τ H1 hx Ee),Bi ?J1=i,(?S4 none),?AK=false,((?uJ RD).trans s4).seq,"Stairs.shrink",s12.trans,"_law_cells",upd G2 e3 (?p ?pD),?dS (fun h2=>?_) (fun h2=>?_),"Stairs.shrink_row",upd H4 nm ?cF,⟨rfl,fun i v ps e=>?G9⟩,s3 _ _ hp2,?NC ⟨rfl,fun a ha=>by rw[An ha,An ha],Ab⟩,okr t ht,fun G' z=>?_,(?jM).length,"column",(At (s2 _ _ hD) R3.free).symm,?O6 G [?aF,?d ci],⟨?U,fun t ht=>(nomatch ht)⟩,LT.len hL,Hi ms fs n i,.(by obtain⟨_,_,_,e,_⟩:=hz;exact e),dd.keep fun c kvs e0 e=>?_,Lat.insT,a=nm\/a=r2'\/a=RI,fun c r n1 n2 e=>?_,?RW H',"add_at",base.Ns ?hB mg,(v7 K Av),upd G1 c (?i (?TT ?c)),N2 xs k p n,⟨z1,by rw[z2];exact sw⟩,fun k=>if k=i then g else f k,s13.seq eh,upd (upd H2 rH (.own p)) p (?K Ad rH []),"_law_shape",qa5 ?gE ?qU,R.row i _ ?oI,fun tp htp=>?_,fun t ht=>hp t (sub t ht),Y6 xs (?p ds),(us':?dA),"_law_i",ds.length,(g2.trans g3) _ _ Dr,?c9 (?xD),?bF (VI n f).length true,?O6 G [?aF,?kU],qj4 s2 t1,Di xs e (?iB-1),(o2:?cV),x4.right,?g G3 G4,Nat->Nat,An lP.symm,(?lS-(?a9+1)).toNat,(e▸ha),(G D=?nB),?TD G [?d (?n6)],(?m2).filter,s15 _ _ EW,?PH ?wI,[?w,?eT,?G,o1,o2,o3,o4,o5,o6,o7],[?w,?bC,?y,o1,o2,o3],(z▸y.mq),?TS l [?e t],?bF (z-k0) (?x 0),(xs:LLInt),.ad i j 1,[?y,o1],fun hS G1 s1=>?gT,∃w,aY (?pD:?dA) ?hU=?NL ?e w/\SqL K G3 w (?U6 ?vF),if kd<2 then Er low N else low,Oz Jz T F6 Ia,g3.trans,.(by simp[putF]),(G D=?dY),st _ _ (s2 _ _ (?cI _ _ e)),sp.map ?x,fun H1 s1=>?_,[?eK,?eK,?eK],upd J0 D0 ?qY,⟨us,hq⟩,?CT n w M,?H ?d0 (?bI D1) fs,?fF ?f4 [],(?d ?oH),"Stairs.meet",(?nX k19),⟨hW.1,fun i v ps e1 e2=>?_⟩,(?o ndl).turn,s4 _ _ hp3,(o4 o5 o6 o7:?cV),(Gw ?f7),?qD ?f8 ?f8 (Ik Sf) (F7 Sf) (As Sf) ?qN vS vX VF WA qJ vY,(?BS).length,upd H1 D ?gO,(?KJ,?e Lv),"filling",⟨ws,_,_,_,_,_,_,rfl,g,Dr,dd,bW⟩,tI xs[i],hk1 c r n1 n2 e,?g H4 G,Cu ?mV q[m],Qe Lh T Sw Wl,?bN p H3 H',"Book.count",(?fF pl.toNat []).length,upd H3 h ?cF,"Work.__init__",mF _ _ hLr hLb h,"Stairs.put_in",upd G1 e2 ?cF,qg9 _ (Int.le_of_lt h2),?O6 G [?aF,v],l6 _ ?bX,us.length<=40,Lat.ChainTo,[?d c0,?d c1,?d c2,?d c3],AJ ?p5 ?_,AJ rfl ?_,Lat.Straight,(o2 o3:?q6),na a (ma a ha),(Xc K Av),?a6 (p.1=0),((0:Nat):Int),Fi (?xY),?NN xb.row hi,?O6 G' [?aF,?eO],(bk.lev _ _ hps).len bk.len,sB _ _ hp,"Work.put_in_order",xE _ _ x.nu,upd H2 l ?cF,.ad i ?dU (-qq),(?TK ?xZ),(z.same sn).there.1,?Q ?cI hv,vE.free hnm,as++[D2],?TC G1 [?d sv,?d nv],.ad j i ?F0,sB.trans,fun L hL=>?_,"Book.twists",(spot<=i),o3' g' a b sh,(q:Addr),?OU Fq,⟨O9m,O9m,O9m,fun c hc=>?xR⟩,(?JF:Int),fun p=>N2 xs k p.1 p.2,"faces_agree",(Ot ?n),j<ns.length,ME _ _ Dr,upd H1 l1 ?rD,fun a=>a=nm,Lat.moveS i ?P s,ns.getD i 0,(z▸z1),if kd=2 then Er ?bH N else high,aY lu k=?NL ?e E,vE.trans,(?O2 ta hT),?k8 ?bB (?k8 ?bB (?k8 ?bB (?k8 ?bB (.nil)))),?g H0 H4,?H ?X (?bI E) fs,?TD H2 [?d (?eB).1],?QA Fq,g.natAbs<L9,"Work.straighten",(?JD i).map,(p t:Addr),?TS c [?d 1,?cP,?cP,?cP],?tU i (?e1),?p1<=?l8,TA.of R1 hl1,(at_ c0 c1 c2 c3:Int),"_law_counts",((i:Nat):Int),upd H L (?i ?h4),(Om).trans,f7 H4 p',?c (?yB),(if ?oH<?DN then ?oH else ?DN).toNat,.(by rw[qk9]<;>rfl),(?PU ?j x),Hy m (XD i j g f),upd J4 L (?i ?o2),sp.trans,(?o7 s67),[none,none],x.keep s1,.(by simp at z),(?o9).trans,Lat.numAt,g1 _ _ Dr,[o,rS d],(-(?FA)),AJ ?bX ?_,(x2.same s3).there.1,Fi (?JZ),?TD H4 (?m8),Lh.binds (ps:=?dX) ?T,upd H1 p (?K C dx (?PI fs)),p.2.2.1.take,l6c _ ?bX,∀a,?hI->?nN,b*f j / g,(?PU _ k),"one_row",i<ms.length,⟨p,vs,ys,os,_,_,_,rfl,s2,hp,hp2,r2,hT⟩,g2 _ _ UB,?lO/\?tD,a=nm\/?KB,(?Q3 ?jY),[?cS,o1,o2],[?w,?aJ,?aW,?aU,?aY,?cX,?dG,?dW,?fK,?gZ,?jQ,?G,lO,LN,JK,xT],G9 ?p5 ?_,(?tI)=true,fun H1 s1=>?gT,?TD J1 (?bF (3:Int).toNat ?kR),(o1 o2 o3 o4 o5 o6 o7:?cV),.of x.st,(VI m f).set i (?d g),(?nV).2.1,?PH ⟨?_,rfl⟩,?QX H1,upd G2 pr (?p [?d j,?d (M i j)]),⟨c,O9m,h2,h3⟩,(qb6 hv).symm,?TS B (?j1),nb a (mb a ha),lx.nn a ha e,(z.symm▸y.mq),["hole"],(ls:?d8 (?d8 BPart)),⟨_,rfl,_,rfl,rfl,_,rfl,?_⟩,G5 c=?cM,(?j1).set i (?e D3),⟨?U,?U⟩,xb.there.1,.(by simp at e),⟨?j,?j,rfl,Ab,?_,?_⟩,fun j hj1 hj2=>?_,(x.natAbs:Int),(?K0 Om),fun g' a b G' sh z'=>?_,?O1 G' s',[none,?iP],?QX G1,sp.getD i 0,[none,none,?eJ],Lat.blend_row_ne,((d:Nat):Int),?c (?eO),Im.binds (ps:=?bV) ?aK,"_law_number","shared_divisor",∀o,H c=?cM->G c=?cM,Lat.addS,"_law_first","Work.step",(?p []),⟨?kJ,?kJ,?kJ,?kJ⟩,T.n_tuple,sB4.trans,(z▸Rx),Fe K mg Ag Ad Ah Av,(P:Addr),(?c ?oH),?z (?vU),"Work.share",(?GD).trans,(?nV).2.2,?iQ%(?p8),aL H4 p',sx2.same,(z▸R2.free),upd H3 m (?i [?e u]),.of xp.2.1,?cI _ _ hp,?NN x.row hi,npn.symm,?NC ⟨rfl,s1⟩,(vs:?dA),(o1 o2 o3:?cV),.(by have:=pl 0;omega),g _ _ hpa,?S (?d2),(y8 K Av),(o4 o5:?cV),(?i ?IT),Jz.binds (ps:=?gG) (?OH pZ (fun _ _ _ _ _=>rfl)),(Th low),sL.seqT hT,IF ns (?gD) (?c 63),⟨_,qa0 O9m⟩,?QX H2,(?cN=?gA),XE.trans,[?w,rS af,?a8,o1,o2],?H ?eG (?bI L') (?E4),"level_of",?OU R.at,fun H2 s2=>?_,Nm i _ hx,(low ?bH:?dC),upd J8 O (?p ?lT),fun _=>rfl,.(show((k+1:Nat):Int)=?eM by omega),.builtin,"_law_high",?bF us.length true,upd H3 C (?SW ?eJ 31),fun x a=>s.1 x (w+a),?NC ⟨us,_,rfl,sG,Dr,rG⟩,Uz x0 xM,.(by rw[qa9,hcl];rfl),xs.take i,(?sQ i).map,(I ?P s),?oT K ?hB s,"_law_row",?qE<=1000,?PN s03.free,"Stairs.__init__",.(by simp[hal]),Heap->Prop,[?w,o1,o2,o3,o4,o5,o6,o7,?c7,?c8,?iN,?jP,?mX,lO,LN,JK],(Cw ?gX),.of (?HJ),fun e=>eqD e (?d (ds.length:Int)),ZS _ ?bX,[?e ab,va],[?d g,?lX,?d c],fun i=>r.1 (k0+i),z.there.1,Mr.seq hq,"is_whole",ys.length<=40,VI w (M i),(?xY).length,⟨_,rfl,?U,?U,?_⟩,h.Ns ?hB mg,ok d O9m,?SE D2,m5 _ ?bX,(?jM)[i],(?aT sC),?T1 H4,Same.refl,(us.length:Int),"is_list_of_few",(?jM).take,(lO LN JK xT:?cV),(us.length:Nat),x.fr.2.2.2,XF.trans,(?TK hq),(y.natAbs:Int),(Th ?bH),fun q0 Yz=>?_,upd G e1 ?cF,.(show((k.toNat:Nat):Int)=k by omega),upd H5 p (?R5 Lf),(DO K Av),fun G4 fs hfs YT=>?kQ,s14.free,upd H2 C (?SW ?gD 63),[?fB,?e L'],(?SP o),⟨e2,rfl,?NG sc v2⟩,((f:Nat):Int),?OT xs.length,fun P H2 nP s2 hP=>?_,ys.getD (t+1) [],(K0).trans,fun key=>?j6,T.na_Book_levels,(z.same cX).there.1,[?bT,?hX,?a8,?G,?EL,o4],R.same.free,⟨?a0,fun e1 zX=>?_⟩,hW.2 i v ps e1 e2,(V0 ps).take,VI z (?EX f k0),(Fi [0,2,3,4]).any,a=O3\/a=O4,fun _=>0,?z (?FQ),Lat.beside,[?bT,?hX,?a8,?G,o4],"_law_cell",Gg ms (ns.take i),.(by rw[?sF];exact z),"levels","_law_low",ok.hd j O9m hj2,m4 _ ?bX,"Book.__init__",U4.of9 O9m h3,H4 a=?cM,?bN p H H',fun pO=>?_,⟨TH,VH,LR⟩,Lat.downS t i s d,upd G E ?gO,fun c hc=>hb.1 c O9m,?QX H3,.(by rw[Jt]),Kp H3 H',(?E4).length,?KE w M P,?g HL H1,(?HX).length,"_law_one",(?H4 Qz),.(by have sa:?OF G ?JM:=?o zX;have v1:upd G e1 ?cF e1=?eS:=Ab;generalize ?JM=G1 at sa v1;refine⟨_,rfl,_,rfl,?a0,fun e2 he2=>?_⟩;have sb:?OF G1 ?CK:=?o he2;have v2:upd G1 e2 ?cF e2=?eS:=Ab;generalize ?CK=G2 at sb v2;refine⟨?B,fun e3 he3=>?_⟩;have sc:?OF G2 ?zK:=?o he3;have v3:upd G2 e3 (?p ?pD) e3=?NL ?p ?pD:=Ab;generalize ?zK=G3 at sc v3;have s4:?g G G3:=(sa.trans sb).trans sc),.(by refine ?FI;have s1:?OF H ?tF:=?pW;have t1:TI K (?tF) ?hC [a,a]:=?a5;generalize ?tF=H1 at s1 t1;refine⟨?B,fun l hl=>?_⟩;have s2:?OF H1 ?B9:=?o hl;have e2:upd H1 l (?i [?e t]) l=?NL ?i [?e t]:=Ab;have t2:=?AS;generalize ?B9=H2 at s2 e2 t2),.(by refine ?vH;have Xq:?g J2 (?QL J2 [?eK,?jT,?lG]):=?aP;exact k D _ _ (?TO ?L4) (?OA ?L4 Xq) Ab ⟨_,_,rfl,qj4 ((?EJ Qz).trans Xq) Od,(?TR (?OA Qz Xq) (Xq))⟩),.(by refine⟨_,rfl,_,rfl,_,rfl,?B,?vN⟩;have Om:?OF J0 ?wE:=?uF;have Wv:TI K (?wE) ?nE ?xG:=?a5;generalize ?wE=J1 at Om Wv),.(by rintro i v ys τ G hv Ee;revert τ;refine Kr ?_;intro g Dr yl o Hq;obtain⟨q,hq,pv⟩:=rE.get hv;obtain⟨t,c1,c2,c3,rfl,et,_⟩:=?uQ (?DF g);have mH:?K8 ?dK=?m2++[q]:=by rw[qh8,hq];rfl),.(by obtain⟨p,k,B,xs,ls,rfl,bk,sB,hk0,JR,kq⟩:=h;obtain⟨Mc,Hg⟩:=T.x_LEVELS;obtain⟨dx,P,Lv,Lf,lu,wu,hp,_,rF,hW,_,_⟩:=bk.ob;obtain⟨E,eu,qs,e1,e2,hE,rE⟩:=hW.at (k:=k.toNat) (by have:=bk.n4;ext eZ)),.(by refine Al (fun σ' H'=>Ef fun ?wK=>B4 (?RS ?lD) (G=H') (0<N) (N<=18)) ?_ ?c3;rotate_left),.(by refine⟨_,rfl,k,4,rfl,hk0,JR,?_⟩;refine⟨_,rfl,p,Av,dx,_,_,rfl,?D3,?eU,?K2,rfl,_,rfl,Lv,lu,_,_,rfl,rfl,?NG sB rF,hat,E,rfl,⟨_,?NG sB hE⟩,?a3⟩),.(by refine⟨?B,?JL⟩;have K0:?OF H ?t1:=?o Yz;have Od:?Q6 ?t1 ?kR:=?a5;generalize ?t1=J0 at K0 Od),.(by refine ?vH;have Xq:?g J0 (upd J0 D ?qY):=?aP;exact k D _ _ (?TO K0) (?K0 Xq) Ab (?OX (Xq) Od)),.(by obtain⟨r',b',ly,_⟩:=y.ex;obtain⟨rH,fs',Sr,_,_,_,l4',_⟩:=ly.ob;refine⟨_,rfl,p,rH,fs',rfl,Sr,l4' _ ?bX,_,rfl,_,rfl,_,_,rfl,rfl,?_⟩),.(by rw[qb2]at e2;obtain⟨ps,hps,rfl⟩:=?gY e2;have hpl:=?D2;have nl:(V0 ps).length<=ps.length:=qf8 _ _;have el:=rE.len),.(by refine⟨D,us,_,rfl,rfl,?w1,?cZ,?vX,_,rfl,(?tR s2).turn nD,Ab,?_⟩;rw[dF];exact bN (?w1) (?b3 s2 rG) t2),.(by refine ?E1;refine ?s0;exact⟨_,rfl,k _ _ (?qA) hu⟩),.(by obtain⟨f1,f2⟩:=fin i D H1 hi hD s1 (by rw[Fq];congr 2;exact Pj fun c _=>by simp[rQ]) fun r hr=>by funext c;simp[rQ,hr]),.(by refine⟨sF _ _ R.at,?fY,cs++[F],?r8,?ID,?_,_,rfl⟩;refine ?m6 hF sF ?_),.(by rw[hfs,Aq,?eC,Aq,?eC];rfl),.(by rintro i x zs τ G1 hx ⟨cs,rfl,hcl,R,o1,rfl⟩;have hi:i<n:=by ext iF;rw[qa3,xa.1]at this;exact this),.(by obtain⟨ta,vs,rfl,hT,rT⟩:=hu;obtain⟨_,_,rfl,rfl,_,_,rfl,rfl,_,_,rfl,rfl,_,_,rfl,rfl,rfl⟩:=rT),.(by obtain⟨dx,fs,hp,l1,l2,l3,l4,l5⟩:=x.ob;obtain⟨as,xa,na⟩:=x.rw;obtain⟨bs,xb,nb⟩:=x.bk),.(by exact⟨_,rfl,_,rfl,L,_,_,i,rfl,rfl,f1,Ju (by rw[qa3,x.1];exact hi),(?PU _ f2)⟩),.(by refine DA fun us o4 H2 s2 Rx r2=>?_;intro sq;exact⟨_,rfl,k D us H2 nD s2 Rx r2⟩),.(by refine⟨g,Dr,?_,_,rfl⟩;rw[mH,qg1,qk7,?PX ?aA,qp1,qn2,yl]),.(by obtain⟨w,hw,sw⟩:=tat;refine⟨_,rfl,e3,_,_,_,rfl,rfl,.of v3,hw,?_⟩),.(by revert σ;refine VN ?_;intro p vs ys os o1 o2 o3 s2 hp hp2 r2 hT Hq),.(by rcases hk with rfl | rfl | rfl | rfl | rfl | rfl | rfl | rfl | rfl),∀(Cz:Has P w K mg ?f ?mJ ?iM 3 (E9 K)),a,∀(Cb:Jy P w K mg ?f Ad ?vA ?vO 4 (?NH Kg)),a,.(by have hk:kd=0\/kd=1\/kd=2\/kd=3\/kd=4\/kd=5\/kd=6\/kd=7\/kd=8:=O9m),.(by exact⟨?a0,fun D hD=>?NC ⟨D,rfl,?aP,hD,Ab⟩⟩),.(by obtain⟨tvc,dxc,fsc,hpc,l1c,l2c,l3c,l4c,l5c,l6c,l7c,_⟩:=z.ob),.(by rw[Aq,?oC,Aq,?oC]),.(by rw[hfs];exact qa5 ?gE (qa5 ?qU ?aM)),.(by obtain⟨c,_,ec,_,hc⟩:=?r1;rw[ec]at hx;cases hx),.(by have hi:i<sp.length:=?n8),.(by refine Io fun D H2 s2 hD=>?_;intro sq;have s12:=?fX),.(by rw[Aq,?eC]),∀(Pw:Has P w K mg ?f ?A6 [?eR,?cL,?b0] 1 (Pn K)),a,∀(D6:Has P w K mg ?f ?oS ?rC 2 (Gm K)),a,∀(Ku:?RA P),a,∀(Kv:Has P w K mg ?f ?n1 ?lI 3 (Qu K)),a,.(by obtain⟨ps,hps⟩:∃ps,ls[i]?=?c ps:=?HS),.(by refine vN ?_;intro ws o1 o2 o3 o4 o5 o6 o7 g Dr dd bW Hq),.(by revert σ;refine vP ?_;intro ws o6 o7 hc2 EW dd bW hk Hq),.(by rintro zs τ G1 ⟨cs,rfl,hcl,R,_⟩;rw[qa3,xa.1]at hcl),.(by refine(?NT p ?vU)),.(by revert σ;refine VO ?_;intro us lO LN JK xT g Dr rU Hq),.(by obtain⟨cs,_,_,R,_⟩:=hz;exact ?dO (.of xa')),.(by refine vO ?_;intro ws o2 o3 o4 o5 o6 o7 g Dr dd bW Hq),.(by rw[qa1,?P4 i]),.(by have nN:?F9:=?QM x.nn),.(by rwa [show((?f4:Nat):Int)=q.1 by omega]at this),.(by refine ?PH ⟨N,?_,rfl,O9m,O9m⟩;rw[←hN];rfl),.(by exact fun k k1 k2=>?GK k1 k2 _ _ _ _),.(by exact⟨hg,rfl,?zG eh⟩),.(by exact⟨lw,rfl,?zG el⟩),.(by revert σ;refine VP ?_;intro T o1 o2 hT s2 hT2 Hq),.(by rw[qj6 (by ext rU),qa3,xa.1];omega),.(by rw[qj6 (by ext rV),qa3,xb.1];omega),.(by have:¬c=i:=fun e=>z ?xJ;simp[Lat.one,z,this]),.(by obtain⟨pa,pu,rfl,hpa,rP⟩:=hB.2 i v ps hv hps),.(by refine⟨_,rfl,?d _,?d _,rfl,rfl,_,rfl,?_⟩),.(by revert σ;refine ?oN;intro o1 o2 hb1 Fq hk1 Hq),.(by rwa [?JN]at this),.(by exact sx1 b _ (E3 e hp ?k1) e),.(by refine iT fun D us H1 nD s1 hD r1=>?_;intro sq),.(by refine⟨_,rfl,la,lu,rfl,?z hlq,?_⟩;rw[YQ]),.(by have cb:∀z:Int,U4 z g:=fun z=>U4.of9 O9m lg),.(by refine(?QZ ta hT1)),.(by rintro i ys τ H1 hi ⟨as,hal,rfl,R,o,rfl⟩),.(by exact ?cT ?iY),.(by exact⟨e1,rfl,?NG (sb.trans sc) v1⟩),.(by obtain⟨ps,ck,hps,hck,z1,z2⟩:=tell kk hkk),.(by obtain⟨_,_,rfl,rfl,_,_,rfl,rfl,rfl⟩:=rT),.(by refine(?QZ L hL)),∀(Qk:Has P w K mg ?f ?r0 ?oB 2 (BG K)),a,@(qy2 ?a ?k ?_),@(fun _ _ _ _=>?a),@(Aa ?a (Aa ?b Ae)),@(key _ _ ?a),@(Bv P w K mg ?f Ei 2 f fd ?a ?b),@(Bv P w K mg ?f Ei 1 f fd ?a (?b K)),@(Db (K:=K) (n:=?a) ?h ?b),@(.of (?a _ _ ?b)),@(?a K Ag Ad Ah),@(Bv P w K mg ?f Ei 3 f fd ?a ?b),@(fun F=>?a F T ?b),@(fun F=>?a F T),@(?c (?a ?b)),@(Eg (K:=K) ?l ?a),@(?a (K:=K) ?b),@(Bv P w K mg ?f Ei 4 f fd ?a ?b),@(?q ?a ?r),@(Au (i:=2) ?a ?b),@(Bk ?a ?b Am ?C),@(?H ?eG (?e L') (?H ?X (?e ?a) fs)),@(⟨?a,_,rfl,?b,rfl,_,_,rfl,_,_,rfl,rfl,?_⟩),@(⟨_,rfl,?a,rfl,?b,?a3⟩),@(Gv (Ga (Ao ?a hr ?b))),@(by show ?bL<?a;decide),@(Au (i:=3) ?a ?b),@(fun i zs τ G1=>Ef fun cs=>B4 (zs=cs.map ?bI) (cs.length=i) ?a (Ef fun o1=>τ=[o1,?cH])),@(Ef fun o=>τ=?a),@(?z ⟨rfl,_,.of ?a⟩),@(SX Ad H0 ?a p q M n W t i ?b),@(⟨_,rfl,?a,_,_,_,rfl,rfl,?b,rfl,rfl,_,rfl,?_⟩),@(?p ((?a:?dC).map ?x)),@(?c (.dK (cK ?a))),@(?a7 K ?a ?b=?b8),@(upd ?a p (?p ?b)),@(Jy ?a w K mg ?f ?b ?e7 ?gG 2 ?k4),@(Jy ?a w K mg ?f ?b ?bW ?dX 3 ?kI),@(.frz o (.dK (?a))),@((?a).trans ?b),@(Pr (K:=K) ?h ?g1 ?a),@(Hm fun o1 o2=>τ=?a),@(Gy (G0 (ns:=?a) ?R)),@(Au (i:=5) ?a ?b),@(?g ?a (?b)),@(?a K ?b=true),@(fun _ _ _ _ _ _=>?a ?b),@(qi7 X G ?a),@(De (K:=K) (a:=r) (xs:=?fP) ?a ?b (fun i zs τ G1 _ hz=>by ext MG) ?_ ?_),@(C9 ?h ?b9 ?a),@(?p [?eO,?e lp,?e gp,?e ?a]),@(⟨_,rfl,p,Ah,dx,?a,rfl,Pb,?E,?b,O9m,?_⟩),@(qc1 (Nat.le_of_dvd (Int.natAbs_pos.mpr O9m) (qv3.mpr sh.dA)) ?a),@(mkL (N:=?nA) hl1 R1 hl2 R2 ?a sN hfs YT (fun _ z=>z.elim)),@(⟨?a,rfl,?U,?U,?U⟩),@(Rep K (?a) ?iL (RH ?b)),@(C6 K ?a ?b),@(⟨_,rfl,?a,rfl,?b,?_⟩),@(us.length=?a),@(s2 _ _ ?a),@(fun i j=>if j=i then 1 else ?a),@(Au (i:=1) ?a ?b),@(⟨_,_,rfl,qj4 ?a ?b,rfl⟩),@(upd H1 pr (?p [?e bx,?e ?a])),@(show j≠?a by omega),@(Bi (?a (?hH)).length),@(?K Ah dx (?H ?X (?e ?a) fs)),@(fun i j c hi hj hc=>FO (?a i j hi hj) (?b j c hj hc)),@(AG ZX hkM (fun w hw=>(?a).1) (fun w hw=>(?b).2) z hz),@(qa0 (show row.length-1-?a<row.length by omega)),@(fun fr hc o e=>fr _ _ (?a _ hc).1 (?b _ hc).2.1 ?mA),@(SX Ad H0 ?a p q M n W t cnt ?b),@(Au (i:=4) ?a ?b),@(?g G2 (upd (upd G2 dl (.own ?a)) ?b (?K Ag dl []))),@(fun k hk=>⟨mk ?a bo.2 hi hk,mk ?b bo.2 hj hk⟩),@(fun i σ G=>Hm fun ?cO ?hW=>B4 (σ=?a) ?bQ ?BK ?b),@(fun c hc=>Qf ?a ?b ?aM),@(by obtain⟨_,_,_,_,g,_⟩:=hz;exact ?h8 ?a),@(qv6 X G ?a),@(fun z=>?a ?b),@(fun k hk=>⟨mk ?a ?i7 hi hk,mk ?b ?i7 hj hk⟩),@(fun i ys τ G _ hz=>by ext eY;exact ?h8 ?a),@(Hl _ _ ?a),@(?H ?d0 (?e1) ?a),@(⟨_,rfl,_,rfl,_,_,rfl,rfl,?a,rfl,_,rfl,?_⟩),@(upd H5 ?a (?K Ah dx (?H ?iA (?e nm) fs4))),@(upd (upd G3 CG (.own L)) ?a (?K Ag CG [])),@(fun i ys τ H1 ?a hz=>by ext rW;exact ?k9),@(fun a e=>?a e),@(B5 (Aa ?a ?Z)),@(⟨P,us,rfl,.of ?a,?b3 ?b r⟩),@(?z ⟨rfl,_,?a⟩),@(?m5 K ?a ?m3=true),@(⟨_,rfl,_,rfl,_,rfl,c,_,rfl,?dO ?a,?q3⟩),@(⟨_,rfl,?a,o,?b,rfl,Ab,?_⟩),@(⟨?a,rfl,?b⟩),@(fun a o e=>sx _ _ (At e ?a) (s3 _ _ e)),@(Au (i:=6) ?aE (Bd By Am (Bd Gb ?a Am))),@(?a (by simpa using pQ)),@(Ak (Bb (Ao ?a hr (Aa ?m (Aa ?v ?Y))))),@(?g G1 (upd G1 ?a ?b)),@(nN9 K ?a),@((?a).turn hD),@(Bk ?a ?fN (Ao Mt hr (Aa ?c2 Ae)) ?C),@(⟨_,rfl,_,rfl,?B,?a⟩),@(⟨_,(Ak (Bb (Lu (Ao ?a hr ?aB) ?b))),?_⟩),@(∀{G:Hp}{c:Addr},?wV->c∈?a->?GQ),@(TI K (?a) ?b []),@(Eo K ?c1 ?a ?b f fd),@(Bx (Mn ?a ?E ?b hr)),@(⟨_,rfl,p,Av,dx,_,rfl,?a,?eU,?b,?cK,?_⟩),@(sp _ _ ?a),@(Hx (Ao Ia hr (Aa ?a ?b)) (Kn ?W ?n Fa)),@(Hx (Ao Ia hr (Aa ?a ?b)) (Kn ?W ?m Fa)),@(Bv ?a w K mg ?f Ei 14 ?b fd ?m9 (We K)),@(Ak (Bx (Ao ?a hr (Aa ?m (Aa ?b ?g8))))),@((?tI&&?a6 (Bi (?hH).length=l))=?a),@(?a (by rw[hys,qa3,qa3,qd3];omega)),@(⟨_,rfl,_,_,d,rfl,?a,hx,_,rfl,?_⟩),@(⟨?aP,Ab,?a,?j,rfl⟩),@(∀c q,c≠b->?jK->?a c=?gP->?b c=?gP),@(zM ?a w K mg ?f Ag ?c1 ?bV 1 ?k0),@(upd ?a D (?i ?b)),@(fun a e z=>?a a z e),@(by show(?a:Nat)<=sizeLine;decide),@(DueAt K ?a t c0 c1 c2 c3 low ?bH),@(upd ?a E (?i ?b) E),@(qf8 (fun p:BPart=>?a6 (p.1≠?a)) ?b),@(.of (kb ?a mdj _ (?j7 _ _ rdj))),@(.of (kb ?a mdi _ (?j7 _ _ rdi))),@(vs d i ?a f l r hv O9m O9m O9m),@(L82 xs at_ c0 c1 c2 ?a low ?bH),@(Bn (Cg ?a)),@(Ar (i:=?a) ?kX),@(?a a=none),@(?a ?b (upd H1 L (?i (?tU i (?fB))))),@(⟨_,rfl,?a,_,_,_,rfl,rfl,?b,rfl,?_⟩),@(Eh (top ?a) ?b),@(Bv P w K mg ?f Ei 6 f fd ?a (?b K)),@(Bv P w K mg ?f Ei 5 f fd ?a (?b K)),@(AF ZX (fun w hw=>(?a).1) z hz),@(?dS (fun h3=>?_) (fun h3=>?a)),@(?K Av dx (?H ?jD (?e ?a) ?s8)),@((?F7 ?a).foldl (lift1 ?kL) lg),@(⟨_,_,⟨?a,Sq,O8⟩,?F5,?CC⟩),@(⟨?a,?p3,rfl⟩),@(show(?a).all id=true by simp),@(fX ?a w K mg ?f Ag ?bV 1 ?k0),@(DG _ _ ?a (s5 _ _ ?b)),@(At ((XC.trans s4) _ _ ?a) nE),@(?s ?a ?bZ (As ?b)),@(Ar (i:=?a) ?b),@(Ak (Bb ?a)),@(Az ?aQ ?aV qh1 ?a),@(fun σ' H'=>σ'=?a/\?b),@(Ao ?a hr ?b),@(σ'=[?w,?aJ,?aW,?aU,?aY,?cX,?a,?b,none,none,none,none,none,none,none,none]),@(σ'=[?w,?aJ,?aW,?aU,?aY,?cX,?dG,?dW,?fK,?a,?b,none,none,none,none,none]),@(Ak (Bx (Ly (K:=K) qg3 ql8 ql7 Kb ?a (Aa ?b Ae)))),@(Ak (Bx (Dj ?l ?J ?a hr ?b))),@(Bx (Ly (K:=K) qg3 qs6 qs5 T9 ?W (?NB ?m (?a (K:=K) qg3 PySem.F.slot_list_pop PySem.F.type_list_pop EL ?W ?Y)))),@(Az ?i3 ?fT B6 (?NB ?a (Ig (v:=.ty ?fG) rfl ?gB Fc rfl))),@(H' ?a=?c (?i ?b)),@(Bv P w K mg ?f Ei ?a f fd ?bZ (?NH ?b)),@(?c (?d ?a)),@(σ'=[?w,?y,?jO,?bG,?eL,?NL ?d (x%9),?a,o7,none,none,none,none,none,none,none,none]),@(uu ?a (?NK ?b) ?T),@(σ'=[?w,rS p0,iS 0,?a,none,none,none,none,none,none,none,none,none,none,none,none]),@(uu ?a (?NK ?b) ?aR),@(WX K Ag Ah H0 ?a p L R nm n w ?pJ l r []),@(Ey (Ii (K:=K)) ?h ?gB Fc ?a),@(WX K Ag Ah H0 ?a p L R nm n w ?j ?b r ?j5),@(LX ?a Ag L O1 O2 ?j n n ?dT ?b),@(σ'=[?cS,?cH,?a,none,none]),@(Al ?a ?_ ?c3),@((?fW ?a).trans ?c4),@(by ext eY;exact ?NG g ?a),@([?w,?y,?jO,?bG,o4,o5,o6,o7,?a,none,none,none,none,none,none,none]),@(σ'=[?w,?G,?a,?b,none,none,none,none]),@(((?OA ?a s6).trans s7).trans s8),@(?a xs ?b z k0 L G f l r),@(?a=[?bC,?a8,?G,?c (?d (?b).1),o4,o5]),@(upd ?a p (?K Ah dx ?b)),@(fun i ys τ H1=>B4 ?k5 ?k7 (ys=(?bF i true).map ?fA) ?a),@(fun j i=>G6 (?fF (?sJ j 0).toNat []) ((?kV).getD i ?a)),@(Cw (Aa (B5 ?a) Ae)),@(σ'=[?y,?cW,?h1,?NL ?d (f i),?NL ?d (f ?a),rS P]),@(H ?a=none),@(σ'=[?cS,?cH,?cE,?y,?a,none]),@(LX H' Ag ?a r1' VZ ?j n n ?b (fun a=>a=nm\/a=r2\/a=b2)),@(fun i ys τ G=>B4 ?bQ ?j2 ?a ?b),@(B4 (σ'=?a) ?a4 ?k6 (?b6 K H' us ((?b a b n).map tI))),@(?cN=?c (?i ?a)),@(?c (?K ?a dx ?b)),@(Au (i:=?a) ?g5 ?b),@(?b6 K ?a us ?b),@(WX K Ag Ah H0 H' p L R nm n w ?j ?a ?nY ?j5),@(Qp K H' tp nm r1 D1 D2 b2 z (?d9) k0 ?a l r),@([?y,?aJ,?b7,rS w,?b7,?G,?a]),@(⟨_,.of ?a⟩),@(σ'=[?y,?hE,o2,?a,?b]),@(VI n (?oZ s.2 i j ?d5 (-?bS) (-c) a ?a)),@(Dj ?W ?cU Jw hr (Aa (B5 (Aa Nc ?a)) Ae)),@((?a s4).trans ?b),@(Bc ?V ?a ?v ?F),@(?i (C8 (?hZ) (?a) (?c ?b))),@(uu ?a ?b ?aK),@(σ'=[?bG,?jU,?a8,?G,rS l',rS ?a,?c7]),@(upd H2 ?a (?O9 ?bU)),@(upd ?a T1 (?p ?b)),@(?g ?a H'),@(?a7 K ?a ?q2=?n4),@(SX Ad H ?a p q (fun a=>?oK) n ?i5 t ?b s),@(σ'=[?w,?G,?aU,?aY,?kF,?k3,?aW,?a]),@(Rep K H' (?e ?a) ?b),@(Rep K H' (?a) (dT (?fS) (?fS) ?f2)),@(Pp (Bk Mp ?a ?b ?C)),@(?oT K ?hB ?a=?NL ?c ?b),@(?a7 K ?dD ?a=?NL ?c ?b),@(σ'=[?bG,?jU,?a8,?a,?bC,rS h,?c7]),@(VI W (?oZ s.1 i j a c ?bS ?d5 ?a)),@(upd ?a t (?p ?b)),@(upd ?a E (?i ?b)),@(Cf (?NV ?a ?b) ?pX Bs),@(Bv P w K mg ?f Ei 4 f fd ?a (?NH ?b)),@(?g H1 (?O6 H1 ?a)),@(⟨?a,_,?P,_,rfl,rfl,Ab,?_,?c9 ?b,?zQ⟩),@(σ'=[?bC,?a8,?a,none,none,none]),@(.dK (cK ?a)),@(⟨_,?a⟩),@(SqT K ?a P ?qR),@(LX H' Ag R r2 b2 ?j w w ?a ?r5),@(?cT (?eQ ?a)),@((?a).free hD),@(⟨⟨O9m,fun z hz=>?a⟩,O9m⟩),@(⟨_,_,⟨?a,Qh,Nl⟩,?HO,?BH⟩),@(⟨_,_,rfl,qj4 ?a Wv,(?OX ?b dG)⟩),@(upd H1 ?a (?i ?b)),@(C8 us ?j (?a ?a9)),@(Aa ?a (Aa ?b ?kG)),@(Db (K:=K) (n:=2) ?h (Bh (?RE 0 ?a) (Bh (?RE 1 ?b) Da))),@(Aa ?a Ae),@(Bc ?V ?a ?b ?F),@(⟨_,(Ak (Bb ?a)),?_⟩),@(Bc ?cQ ?a Am ?F),@(σ'=[?y,?bD,iS j,iS A,iS ?a,?cE,?bT,?b7,?RR ?bS,?RR ?d5,rS ci,rS di]),@(Js (v:=?d ?a) ?h Hg ?bB),@(σ'=[?y,?bD,iS j,iS A,iS ?a,?cE,?bT,?b7,?RR ?bS,?RR ?d5,rS ci,none]),@(Bh (?RE 3 ?a) (Bh (?RE 4 ?b) Da)),@(Cf (?NR Ed ?a) ?b Bs),@([?w,o1,o2,o3,o4,o5,o6,o7,?c7,?c8,?iN,?jP,?a,none,none,none]),@((?a).map ?x),@(Ge (?RH ?a ?bK) ?_ ?hM),@(Au (i:=?a) ?aE ?b),@(N8 fun ?hW ?u1 ?x7=>Dg (?SF o4) ?a (J ?b t s)),@(Bd By ?a (Bd Gb ?b ?m)),@(fun i ys τ G _ hz=>?S3 (sB _ ?a hE)),@(Az ?i3 ?fT B6 (?NB ?a ?b)),@(Bh (?RE ?a ?eW) (Bh (?RE ?b ?eW) Da)),@(fun σ' H'=>Hm fun ?cO ?hW=>?SI ?a ?b),@(Dg (?S8 σ' ?eB) ?a4 (?SJ ?a)),@(Bh (?RE 4 ?a) (Bh (?RE 5 ?b) Da)),@(Bh (?RE 1 ?a) (Bh (?RE 2 ?b) Da)),@(bQ (K:=K) ?h ?sZ ?a),@(?d (?a+Eu kd ?b)),@(uu ?a ?b ?T),@(insAt ?P (?e ?a) ((?b).eraseIdx i)),@(H9 ?a=?NL ?i ?b),@(Cf ?a (?RF ?b) Bs),@(Au (i:=?a) ?cC ?b),@(Cf (?a ?b) ?dJ Bs),@(Bx (?RI Dm (?NB ?n ?a))),@(⟨_,(Ak ?a),?_⟩),@(Ao ?a hr ?b),@(fun σ' H'=>Ef fun ?c5=>Dg ?a ?jF (?SJ ?b)),@(Aa ?a (?NB ?n ?b)),@(Cv qc6 rfl (?OK ?Z) ?a (?RL ?v (B5 ?b))),@(Ak (Bb ?a)),@(Ak (?NM ?a)),@(Hx ?a (Kn ?m ?v Fa)),@(Ak (Cf ?a (?RM Cq (?TW ?b)) Bs)),@(Cv qc6 rfl (?OK ?a) (?QW 3) ?b),@(gP (Cv qc6 rfl ?DQ (?NF 2 ?a) ?b)),@(Aa ?a (Aa ?L ?eE)),@(B5 (Aa ?a ?b)),@(Az ?lW ?r2 P0 (?TW ?a)),@(JI ?a ?h ?h ?k1 (Nat.le_of_ble_eq_true rfl)),@(⟨_,(?RF (Lu ?a ?b)),?_⟩),@(Bd ?a ?b Am),@(Eg (K:=K) ?l (Mo Ku hr ?h ?r7 (?NB ?a ?b))),@(Gz ?dM ?l ?a (Gw ?b)),@(Az (?NN Yq ?h) T.n_any AU ?a),@(Au (i:=?a) ?dE (?RG (?TW ?b))),@(Aa (?PO ?m) (?NB (?V3 ?v (Aa ?v ?cY)) (?V3 ?a ?b))),@(Bx (Ly (K:=K) qg3 ql8 ql7 Kb ?a (?TW ?b))),@(Aa ?a (?TW ?b)),@(Aa ?n (Aa ?a ?b)),@(Cw (?TW ?a)),@(Bk Ed ?a ?b ?C),@(Bc ?cQ (?V3 ?cR (Aa ?iZ ?a)) ?b ?F),@(Aa ?l ?a)])
noncomputable abbrev M7:Stmt:=top 50
theorem Z6:?s ?p0 ?p0 (As M7):=Bf
theorem a9[?u](F:Eo K ?oD ?oD M7 f fd)[?t] :?NE ?p0 Qc:=by
 refine ?NP Z6;obtain⟨a,b,sp,ms,rfl,jR,hb,hl,kq⟩:=h;have LY:=hr.u8;refine(?TY (B9 (N':=[?cL,?eR]) (cap:=?kY) ?h ?R ?hA (?NA (?RE 0 xZ)) ?aH (?NA (X0 (u1 LY) ?n ?l Am ?GV))));refine(?NU a (?TK jR))
 let Pq7:?a1:=?SH (ys=((sp.take i).map (C0 ms)).map ?x) (?NZ [o,?eT])
 refine De (K:=K) (a:=a) (xs:=?BM) Pq7
  ?dR (?PG jR) ?_ ?_
 . rintro i x ys τ G hx Ee;ext dV;intro g Dr hys o Hq;ext M3
   have hxv:x=?d sp[i]:=by
    rw[qb2,?d3]at hx;simpa using hx.symm
   subst hxv;have VU:=SD g hb;refine⟨_,rfl,b,rfl,?z (?TK VU),_,rfl,_,jU VU,?_⟩;rw[jY];refine⟨Dr,?QG ?c9,?v2,Ab,?_,_,rfl⟩;rw[qh8,?d3,qb8,qb8,hys];rfl
 . rintro ys τ G ⟨g,Dr,hys,_⟩;rw[qa3,qg0]at hys;refine kq D G hD g ?_;rw[Dr,hys]
noncomputable abbrev Xn:Stmt:=top 54
theorem LB:?s ?mU ?mU (As Xn):=Bf
theorem LK[?u](F:Eo K ?qQ ?qQ Xn f fd)[?t] :?NE ?mU y4:=by
 refine ?NP LB;obtain⟨u,t,rfl,hu,k⟩:=h
 refine⟨_,(Af (?UN (?VH ?dZ Nc) (?V3 Nc (Aa ?dZ (?NB ?dZ (N1 Iy ?dZ)))))
  (?RF ?l)),?_⟩
 ext D
 cases t with
 | ad i j n =>
   ext LN;refine ?E1;refine ?F1;refine⟨_,rfl,ta,_,_,_,rfl,rfl,hT,rfl,_,rfl,ta,_,_,_,rfl,rfl,hT,rfl,_,rfl,ta,_,_,_,rfl,rfl,hT,rfl,_,rfl,?B,?oF⟩;exact k _ _ (?hS) ?kE
 | mi i =>
   obtain⟨ta,vs,rfl,hT,rT⟩:=id hu;ext N6;ext LI
 | sw i j =>
   obtain⟨ta,vs,rfl,hT,rT⟩:=id hu;obtain⟨_,_,rfl,rfl,_,_,rfl,rfl,_,_,rfl,rfl,rfl⟩:=rT;ext LI
noncomputable abbrev Ek:Stmt:=?R0 55 0
theorem Vw:?s ?bV ?bV (As Ek):=Bf
theorem N3[?u](F:?Q7 ?s7 Ek)[?t] :Bv P w K mg ?f Ei 1 f fd ?bV ?k0:=by
 refine ?NP Vw;obtain⟨p,dx,C,r,b,rfl,hC,hp,k⟩:=h
 have hc:?s3:=by
  rcases hC with rfl | rfl
  . ext yL
  . ext yH
 refine⟨_,(Af (?NM ?n)
  (?UX ?m)),?_⟩
 ext D
 refine⟨_,rfl,_,rfl,p,C,dx,_,rfl,hp,?aS,?e5,?cK,?_⟩;refine⟨_,rfl,_,rfl,p,C,dx,_,rfl,Ab,?aS,?e6,?BJ,?_⟩;exact k _ _ rfl rfl
noncomputable abbrev Qy:Stmt:=top 59
theorem Oh:?s [?cD,"at"] [?cD] (As Qy):=Bf
theorem DY[?u](F:Eo K ?qT ?qT Qy f fd)[?t] :?NE [?cD] Sb:=by
 refine ?NP Oh;obtain⟨c,W,st,u,rfl,hq,hb,hW,k⟩:=h;obtain⟨b1,b2,b3⟩:=hb
 refine⟨_,(Af (?OW Oh.nd Am)
  (Af (Os qc6 (?NR Ed (?TX ?l ?n)) (Ak (?OW Oh.nd ?fM)))
  (?RF ?n))),?_⟩
 ext D
 refine ?U7 [?c8,?c (?d (0:Nat))];ext aO;refine ?N9 (?RH [?c8,?c (?d ?l8)] ?bK)
 . refine⟨fun m σ G=>Ef fun(j:Nat)=>B4 (σ=[?c8,?h1]) (H=G) (j<=st) (m=st-j),⟨_,0,rfl,rfl,?a0,rfl⟩,?_⟩;rintro m σ _ Ee;ext rX;obtain⟨j,rfl,rfl,hj,rfl⟩:=Ee;refine⟨_,rfl,_,rfl,c,_,_,_,rfl,rfl,hq,?kD,rfl,_,rfl,?_⟩;ext aL
   . have h0:u j=0:=?M
     have hlt:j<st:=Nat.lt_of_le_of_ne hj (?PE b2 (z▸h0));refine⟨fun σ' G'=>Ef fun(j':Nat)=>Dg (σ'=[?c8,?c (?d (j':Int))]) (H=G') (j'=j+1),?_,?_⟩
     . rintro σ' G' ⟨j',rfl,rfl,rfl⟩;exact⟨st-(j+1),O9m,j+1,rfl,rfl,hlt,rfl⟩
     . exact⟨_,rfl,_,_,rfl,rfl,j+1,rfl,rfl,rfl⟩
   . have h0:¬u j=0:=?M
     have hlt:j=st:=by
      rcases qf7 j st with h | h
      . exact ?iV (b1 j h) h0
      . omega
     subst hlt;ext rP
 ext aO;exact ?FB
noncomputable abbrev Lj:Stmt:=top 64
theorem Ki:?s [?X,"i",?cD] [?X] (As Lj):=Bf
theorem X4[?u](F:Eo K ?pM ?pM Lj f fd)[?t] :?NE [?X] Nz:=by
 refine ?NP Ki;obtain⟨v,n,w,M,rfl,hv,hn,hw,k1,k2⟩:=h;obtain⟨ta,us,rfl,hq,Yu,Nm⟩:=?i4
 refine⟨_,(Af (Cv qc6 rfl (?OB ?aB) (?NF 2 (?UH Ki.nd Ki.nd)) (Ak (?UP Ga (?VA (Aa (B9 (N':=["j",?b0,"i"]) (cap:=?GJ) ?h ?R (?OB ?Z) (?NA (?TV OS OS)) (?NA (?T7 ?l ?m)) (?NA (La Mp ?n Am ?C))) Ae)))))
  ?dJ),?_⟩
 ext D
 refine ?N9 (fun σ' H'=>Hm fun o1 o2=>Dg (σ'=?FJ) ?a4 (?BR))
 . refine(?OS ta ?BQ)
   let Pq8:?aN:=fun i σ G=>Hm fun o1 o2=>Dg (σ=?FJ) ?bQ (?CT i w M)
   refine Y5 (K:=K) (a:=ta) (xs:=us) Pq8
    ⟨?j,?j,rfl,?qA,fun i j hi=>O9m⟩ (fun i σ G _ hz=>by obtain⟨_,_,_,s1,_⟩:=hz;exact ?k9) ?_ ?_
   . rintro i v σ G p hv Ee hp
     ext aC
     revert σ;refine VQ ?_;intro o1 o2 s1 hS Hq;obtain⟨hi,b,rfl,hb⟩:=Nm i v hv;have sp:?g G (?AR):=?cB;ext gJ;generalize ?AR=G1 at sp;have s2:=?kP;refine(?NU b ⟨_,?gV hb⟩)
     let Pq9:?a1:=fun j zs τ G2=>Ef fun(bs:?d8 Bool)=>Pm (zs=bs.map ?fA) (bs.length<=j) ((?y7↔∃c,c<j/\c≠i/\M i c≠0)) (?g G1 G2) (G2 D=?nB) (j<=w) (?OC [o1,o2,?cW])
     refine Ux (K:=K) (a:=b) (xs:=?J0) Pq9
      ⟨[],rfl,?mP,⟨fun z=>?EV,fun⟨c,hc,_⟩=>O9m⟩,?aP,Ab,?a0,?j,?j,rfl⟩ (fun j zs τ G2 _ hz=>?PC (?gV hb)) ?_ ?_
     . rintro j y zs τ G2 pr hy ⟨bs,rfl,hbl,hiff,g,Dr,hj,q1,q2,rfl⟩ hpr;obtain⟨ZV,rfl⟩:=U0 hy;have gp:?OF G2 ?FV:=?o hpr;ext yM;generalize ?FV=G3 at gp;refine ?G4;ext aL
       . have hji:j≠i:=by
          have:¬((j:Nat):Int)=?a9:=?M
          omega
         refine⟨_,rfl,rfl,?kB,?fY,bs++[!(?a6 (M i j=0))],?_,?m4,?_,?Q1 ?kM,Ab,ZV,_,_,rfl⟩
         . rw[qb8]
           congr 1
           by_cases z:M i j=0<;>simp[z]
         . rw[List.any_append,qr5,hiff];constructor
           . rintro (⟨c,h1,h2,h3⟩ | h)
             . exact ?FW
             . exact⟨j,O9m,hji,by simpa using h⟩
           . rintro ⟨c,h1,h2,h3⟩;rcases qf7 c j with h | h
             . exact ?z ⟨c,h,h2,h3⟩
             . have:c=j:=O9m
               subst this;exact ?S (?xF)
       . have hji:j=i:=by
          have:((j:Nat):Int)=?a9:=?M
          omega
         refine⟨bs,rfl,O9m,hiff.trans ⟨fun⟨c,h1,h2⟩=>⟨c,O9m,h2⟩,fun⟨c,h1,h2,h3⟩=>?FW⟩,?kM,?kB,ZV,_,_,rfl⟩
     . rintro zs τ G2 ⟨bs,rfl,_,hiff,g,Dr,_⟩;rw[Br]at hiff;refine⟨D,bs,rfl,?oV,_,rfl,?_⟩;ext aL
       . have h2:?y7:=?M
         obtain⟨c,c1,c2,c3⟩:=hiff.mp h2;exact k2 (?PE c3 (z i c hi c1 fun e=>c2 ?xJ)) _ (?aT g)
       . have h2:¬?y7:=?M
         refine⟨_,_,rfl,?aT g,fun x c hx hc hne=>?_⟩;rcases qf7 x i with h | h
         . exact hS x c h hc hne
         . have:x=i:=O9m
           subst this;exact qg5 (?PE h2 (hiff.mpr ⟨c,hc,fun e=>hne ?xJ,z⟩))
   . ext bO;refine VQ ?_;intro o1 o2 s1 hS Hq;rw[Yu]at hS;exact ?NC ⟨_,_,rfl,s1,hS⟩
 refine uY fun o1 o2 G s1 hS=>?_;intro sq;exact k1 hS _ s1
noncomputable abbrev Gq:Stmt:=top 70
theorem Qw:?s ?jW ?jW (As Gq):=Bf
theorem Rg[?u](F:Eo K ?n0 ?n0 Gq f fd)[?t] :?NE ?jW Kf:=by
 refine ?NP Qw;obtain⟨a,us,ps,rfl,ha,rU,hpl,kq⟩:=h;refine(?TY (B9 (N':=["part"]) (cap:=?fI) ?h ?R ?hA (?NA (?RE 0 xY)) (?NA (?T7 ?dZ Am)) (?NA ?l)));refine(?NU a (?SQ ha));have ul:=rU.len
 let Be4:?a1:=?SH (Bw G ys (V0 (?gQ i))) ?fZ
 refine Pz (K:=K) (a:=a) (xs:=us) Be4
  (?QI trivial) (fun i ys τ G _ hz=>by obtain⟨h1,_⟩:=hz;exact ?NG h1 ha) ?_ ?_
 . rintro i v ys τ G hv Ee;ext dV;intro h1 Dr rY o Hq;have hi:=?fJ;obtain⟨p,hp,pv⟩:=rU.get hv;have pv1:=?uQ h1;obtain⟨t,c1,c2,c3,rfl,et,_⟩:=id pv1;have mH:?gQ ?dK=?gQ i++[p]:=by rw[qh8,hp];rfl
   have yl:ys.length<=1000:=by
    have h2:=rY.len;have h3:=?QQ 1 (?gQ i);rw[qd3]at h3;unfold V0 at h2;omega
   ext yE
   . have pQ:¬?nI:=?bJ
     refine⟨_,rfl,Dr,?cZ,h1.turn hD,Ab,?_,_,rfl⟩;rw[mH,EK,?aA pQ];exact Bw.snoc (Bw.put Dr rY) (pv1.put Dr)
   . have pQ:?nI:=?bJ
     refine⟨h1,Dr,?_,_,rfl⟩;rw[mH,EK,?b1 pQ];exact rY
 . rintro ys τ G ⟨h1,Dr,rY,_⟩;rw[ul,qg0]at rY;exact kq D ys G hD h1 Dr rY
noncomputable abbrev T4:Stmt:=top 74
theorem GL:?s ?mC ?mC (As T4):=Bf
theorem GU[?u](F:Eo K ?q8 ?q8 T4 f fd)[?t] :?NE ?mC W8:=by
 refine ?NP GL;obtain⟨x,d,rfl,hx,k⟩:=h;refine(?V6 (?UC ?l (Ig (v:=.ty "int") rfl T.n_int boot_intT rfl)) (Nd (OD (?UC ?l (Ig (v:=.ty ?x0) rfl T.n_bool Zq rfl)))));refine(?QH ?d2);ext rK
 . refine(?QH ?HK);have e2:Ke d=!jQ ?x0 d:=by unfold Ke;rw[e];rfl
   ext iG
 . have e2:Ke d=false:=by unfold Ke;simp[e]
   ext iG
noncomputable abbrev Op:Stmt:=top 75
theorem BI:?s ?mT ?mT (As Op):=Bf
theorem BS[?u](F:Eo K ?rA ?rA Op f fd)[?t] :?NE ?mT Sa:=by
 refine ?NP BI;obtain⟨a,ns,k,rfl,hS,h0,hl,kq⟩:=h
 refine⟨_,(Af (?UN (Bk X3 ?n ?h0 ?C) (?TX ?l ?n))
  (?RF Am)),?_⟩
 ext D
 refine⟨_,rfl,_,rfl,a,_,rfl,?z hS,_,_,rfl,rfl,_,rfl,?_⟩;ext aL
 . have h2:k<(ns.length:Int):=?M
   have e:aY (?hZ) k=?NL ?d (Zj ns k):=by
    obtain⟨j,rfl⟩:=qi1 h0;refine Bn ?_;have hj:?DR:=O9m
    rw[qb2,qa0 hj];simp[Zj,hj]
   exact⟨_,rfl,_,rfl,a,_,k,_,rfl,rfl,hS,e,kq⟩
 . have h2:¬k<(ns.length:Int):=?M
   have e:Zj ns k=0:=by
    unfold Zj;have:ns.length<=k.toNat:=O9m
    simp[this]
   rw[e]at kq;exact kq
noncomputable abbrev BK:Stmt:=top 76
theorem Mj:?s [?L3,?jB,"_law_rest"] ?v1 (As BK):=Bf
theorem oM[?u](F:Eo K ?pN ?pN BK f fd)[?t] :?NE ?v1 jC:=by
 refine ?NP Mj;obtain⟨x,y,rfl,k⟩:=h
 refine⟨_,(Af (Au (i:=0) ?k2 (Az fM T.n_abs aV ?aB))
  (Af (?OW ?k2 (Az fM T.n_abs aV ?Y))
  (Af (Os qc6 (?NR Mp ?n) (Af (?NQ ?k2 (Bd Gb ?l ?n))
  (Af (Au (i:=0) ?k2 ?n)
  (Ak (?OW ?k2 ?m)))))
  (?RF ?l)))),?_⟩
 ext D
 ext zB;ext zB;refine Al (?RH [?NL ?d ?GC,?NL ?d ?JJ,none] ?bK) ?_ fun key=>?NC ⟨by rw[show ?GC=if x<0 then -x else x by ext f0,show ?JJ=if y<0 then -y else y by ext f0];rfl,rfl⟩;ext aO;refine ?N9 (fun σ' H'=>Hm fun(o1 o2:?cV)=>σ'=[?c (?d (?tM:Int)),o1,o2]/\?bK)
 . refine⟨fun m σ G=>N8 fun(a b:Int) ?AU=>Hn (σ=[?bT,?hX,o2]) (H=G) (0<=a) (0<=b) (?mK a b=?tM) (m=b.toNat),⟨_,_,_,?j,rfl,rfl,O9m,O9m,by simp[Int.gcd],rfl⟩,?_⟩;rintro m σ _ Ee;ext rX;obtain⟨a,b,o2,rfl,rfl,ha,hb,hd,rfl⟩:=Ee;ext c6;ext aL
   . have hb0:¬b=0:=?M
     have hr0:=qm3 a (show b≠0 from hb0);have hr1:=qk5 a (show 0<b by omega);refine⟨fun σ' G=>N8 fun(a' b':Int) ?AU=>Hn (σ'=[iS a',iS b',o2]) (H=G) (0<=a') (0<=b') (?mK a' b'=?tM) (b'<b),?_,?_⟩
     . rintro σ' G ⟨a',b',o2,rfl,e,z1,z2,z3,z4⟩;exact⟨b'.toNat,O9m,a',b',o2,rfl,e,z1,z2,z3,rfl⟩
     . refine⟨_,rfl,_,rfl,_,_,rfl,rfl,(by show 0<b;omega),?_⟩;refine ?gT;refine⟨_,rfl,b,a%b,_,rfl,rfl,hb,hr0,?_,hr1⟩;rw[←hd,Int.gcd_comm b,pV]
   . have hb0:b=0:=?M
     subst hb0;refine ?NC ⟨?c (?cP),o2,?_,rfl⟩;rw[←hd,Int.gcd_zero_right,show((a.natAbs:Nat):Int)=a by omega]
 refine Ad1 fun o1 o2=>?_;intro sq;exact ?FB
noncomputable abbrev Xp:Stmt:=top 77
theorem Tv:?s [?h6,?lM,?dB,?q5,?AM] ?gS (As Xp):=Bf
theorem lM[?u](F:Eo K ?nR ?nR Xp f fd)[?t] :?NE ?gS DL:=by
 refine ?NP Tv;obtain⟨a,b,n,rfl,hn,f6,k⟩:=h
 refine⟨_,(Af (?NX Tv.nd (Bd X2 (?SC (?VJ ?aB)) ?m))
  (Af (?UV (?RE 4 Tv.nd) (Aa (?UA ?n Am) (?NB (?UA ?n ?eA) (Bd By ?n ?L))))
  (?RF ?v))),?_⟩
 ext D
 refine ?N9 (fun σ' H'=>Hm fun ?c5 ?cO=>En (σ'=[?bT,?hX,?a8,?G,none]) ?qB ?a4 ?k6 (?SM H' ((?nS).map tI)))
 . ext L6;refine⟨_,rfl,l,_,_,rfl,rfl,e2,O9m,O9m,?fD,?a3⟩;rw[Sg,qd6];have s3:?g H2 (?QL H2 (?bF n ?hC)):=?aP;exact ?NC ⟨D,_,rfl,?TO ?fX,?sV s3,Ab,Xr (qj4 s3 t2) n⟩
 ext MY;refine ?N9 (?UE ?KF Pg)
 . ext z0;rw[qd6]
   let Be3:?aN:=?PA ?KF (?SM G ((rN (?nS) b n [] i).map tI))
   refine D7 (lo:=0) (n:=n) Be3 ⟨us,?j,rfl,s1,hD,by rw[show rN (?nS) b n [] 0=?nS from qn2 _];exact r1⟩ ?_ ?_
   . ext rY
     ext aC
     revert σ;ext rJ;have ul:?CO:=by have:=rG.length;unfold rN at this;rw[qa3,qa9,qe0,qa3,qe7]at this;omega
     have n0:?uY:=O9m
     refine⟨_,rfl,?PQ ?oV,_,rfl,_,rfl,_,_,rfl,rfl,n0,_,_,rfl,rfl,_,rfl,_,rfl,_,_,rfl,rfl,_,rfl,_,_,rfl,rfl,n0,_,_,rfl,rfl,_,rfl,_,rfl,_,_,rfl,rfl,?B,?jY⟩;have s2:?OF G ?s9:=?pW
     have t2:TI K (?s9) ?hC (Cj b n [] i):=by
      rw[fB hn];exact ?a5
     generalize ?s9=G2 at s2 t2;ext LH
   . ext bO;ext rJ;exact ?IB
 ext LQ
noncomputable abbrev Lo:Stmt:=top 78
theorem Gp:?s [?h6,?lM,?dB,?q5,?GS,?AM] ?gS (As Lo):=Bf
theorem X9[?u](F:Eo K ?nG ?nG Lo f fd)[?t] :?NE ?gS DK:=by
 refine ?NP Gp;obtain⟨a,b,n,rfl,hn,f6,k⟩:=h
 refine⟨_,(Af (?NX Gp.nd (Bd ?dN (?SC (?VJ ?aB)) (Bd X2 (?SC (?VF ?n ?Y)) (?V7 By ?m))))
  (Af (?P7 Gp.nd ?fM)
  (Af (?UV (?RE 5 Gp.nd) (Aa (?UA ?L Am) (Aa (?UA ?L (?V7 By ?aD)) (?NB (Bd By ?L ?aD) ?fM))))
  (?RF ?v)))),?_⟩
 ext D
 refine ?N9 (fun σ' H'=>Hm fun ?c5 ?cO=>En (σ'=[?bT,?hX,?a8,?G,none,none]) ?qB ?a4 ?k6 (?SM H' ((?nH).map tI)))
 . ext L6;refine⟨_,rfl,_,rfl,_,rfl,?B,fun u hu=>?_⟩;have s3:?OF H2 ?w7:=?o hu;have t3:TI K (?w7) (?e u) ?xG:=?a5;generalize ?w7=H3 at s3 t3;refine⟨?B,?fR⟩;have s4:?OF H3 ?HA:=?o hm;have e4:upd H3 m (?i [?e u]) m=?NL ?i [?e u]:=Ab;have t4:=qj4 s4 t3;generalize ?HA=H4 at s4 e4 t4;refine⟨_,rfl,_,_,rfl,rfl,m,_,_,rfl,rfl,e4,O9m,O9m,?fD,?e9⟩;rw[Sg,show(?dF+1).toNat=n+1 by omega];have s5:?OF H4 ?F4:=?fC;have e5:?QP H4 (?m8)=?NL ?i (?m8):=Ab;have t5:=qj4 s5 t4;generalize ?F4=H5 at s5 e5 t5;have XE:=?jZ;refine⟨l,E,_,_,rfl,rfl,?NG XE e2,?sA,?fD,?a3⟩;have s6:?g H5 (?QL H5 ([?e t]++?m8)):=?aP;have sD:=?sV XE;exact ?NC ⟨D,_,rfl,sD.free hD,sD.trans s6,Ab,⟨_,_,rfl,qj4 (?HV s6) t2,Xr (qj4 s6 t5) (n+1)⟩⟩
 ext MY;refine ?N9 (?RH [?bT,?hX,?a8,?G,?EL,none] ?mQ)
 . exact⟨_,rfl,_,_,rfl,rfl,?j6⟩
 ext aO;refine ?N9 (?UE ?K4 Jm)
 . ext z0;rw[qd6]
   let Be2:?aN:=?PA ?K4 (?SM G ((rN (?nH) ?lK n [b+1] i).map tI))
   refine D7 (lo:=0) (n:=n) Be2 ⟨us,?j,rfl,s1,hD,by rw[show rN (?nH) ?lK n [b+1] 0=?nH from qn2 _];exact r1⟩ ?_ ?_
   . ext rY
     ext aC
     revert σ;ext rJ;have ul:?CO:=by have:=rG.length;unfold rN at this;rw[qa3,qa9,Fl,qa3,qe7]at this;omega
     have n0:?uY:=O9m
     refine⟨_,rfl,?PQ ?oV,_,rfl,_,rfl,_,_,rfl,rfl,n0,_,_,rfl,rfl,_,rfl,_,rfl,_,_,rfl,rfl,_,rfl,_,_,rfl,rfl,n0,_,_,rfl,rfl,_,rfl,_,rfl,_,_,rfl,rfl,_,rfl,_,_,rfl,rfl,?B,?jY⟩;have s2:?OF G ?tV:=?pW
     have t2:TI K (?tV) ?hC (Cj ?lK n [b+1] i):=by
      rw[fB hn];exact ?a5
     generalize ?tV=G2 at s2 t2;ext LH
   . ext bO;ext rJ;exact ?IB
 ext LQ
noncomputable abbrev Hw:Stmt:=top 82
theorem Cp:?s [?AF,?zJ,?q5,?KG,?h6,?jB] ?tW (As Hw):=Bf
theorem Sm[?u](F:Eo K ?lC ?lC Hw f fd)[?t] :?NE ?tW W3:=by
 refine ?NP Cp;obtain⟨a,l,ns,xs,rfl,hL,hS,hnl,Qi,hx4,k⟩:=h;have LY:=hr.u8;obtain⟨_,us,z,hq,r⟩:=?oO
 refine⟨_,(Af (?NQ ?h2 (?RX ?aB))
  (Af (Cv qc6 rfl (?NN Cm ?n) (?RE 3 ?h2) (Af (Au (i:=4) ?h2 (Bd Gb ?v (Az (aT ?h) T.n_max aU (?NB Am (?V7 Nf (?RG ?Z))))))
  (Ak (Cf (?gN (nZ (?NR OH (?RG ?Z)) (JG (Bk (?NN Yn LY) ?L (?TX ?m ?eA) rfl)))) (Af (?OE ?h2 (?V5 (Xv ?L ?eA (Xv ?eA ?L jH))))
  (Af (Au (i:=2) ?h2 (Bd ?dN (Bd ?dN (Gz ?dM ?m Nb (Gw ?L)) (Cw (?NB (?TX ?m ?eA) (?TX ?m ?L)))) (Gz ?dM ?m (Gw ?eA) Nb)))
  (Ak (Wh (N':=["_law_piece",?jB]) (cap:=[none,?c 5]) (i:=2) ?h2 ?h ?jR ?h ?R (?NN Cm ?m) (?NA (?RE 0 xX)) ?aH (?NA (Ey (Kt (K:=K)) ?h ?GW Le (?TW (B9 (N':=["_law_face",?jB]) (cap:=?kY) ?h ?R (Wk (K:=K) ?l) (fun _ _ _ _=>(?RE 0 XW)) ?aH (fun _ _ _ _=>(X0 (u1 LY) ?n ?l ?l ?GV)))))))))) Bs))))
  ?h3)),?_⟩
 ext D
 cases z;ext yF
 refine ?N9 (fun σ' H'=>Ef fun(p0:Addr)=>B4 (σ'=[?w,?bC,rS p0,none,none,none]) (?SE p0) ?a4 (H' p0=?dY))
 . exact⟨_,rfl,a,us,rfl,?f9,fun p0 hp0=>?NC ⟨p0,rfl,hp0,?o hp0,Ab⟩⟩
 refine Wq fun p0 H1 hp0 s1 hp1=>?_;intro sq;refine ?N9 (fun σ' H'=>qZ fun ?uI ?HG ?y9 ?vB ?HH=>Hn (σ'=?B7) ?a4 (?SE p) (?RP p vs) (?b6 K H' vs (ys.map tI)) (Turned xs ys os))
 . refine⟨_,rfl,l,rfl,⟨_,?cG hS⟩,?jG (K:=K) (a:=l) (xs:=?hZ)
    (fun j σ H2=>qZ fun ?uI ?HG ?y9 ?vB ?HH=>Hn (σ=?B7) (?g H H2) (?SE p) (H2 p=?NL ?i vs) (?b6 K H2 vs (ys.map tI)) (Turned xs ys os))
    ⟨p0,us,xs,_,?j,?j,?j,rfl,s1,hp0,hp1,?b3 s1 r,.refl⟩ (fun j σ H2 _ hz=>by obtain⟨_,_,_,_,_,_,_,_,s2,_⟩:=hz;exact ?gV hS) ?_ ?_⟩
   . rintro j x σ H2 hx Ee
     ext aC
     ext LT;have hjn:?DR:=?n8
     have hxv:x=?d ?iQ:=by
      rw[qb2,qa0 hjn]at hx;simpa using hx.symm
     subst hxv;have vsl:vs.length=ys.length:=by have:=r2.length;ext b5
     obtain⟨hyl,hol⟩:=hT.len;refine ?S1 (fun σ' G=>Ef fun(t:Nat)=>Dg (σ'=[?w,?bC,?y,?NL ?d ?iQ,?c (?nD),o3]) (H2=G) ((?y4->t+1<ys.length)));ext aZ
     . refine⟨_,rfl,_,rfl,p,vs,rfl,?z (.of hp2),_,_,rfl,rfl,_,_,rfl,_,_,rfl,rfl,?_,?_⟩
       . show ?bL<?p8
         ext f0
       . obtain⟨t,ht,ht1⟩:∃t:Nat,?H6=?aX/\(?y4->t+1<ys.length):=by
          have pos:?bL<?p8:=?oP
          have a0:=qm3 ?iQ (show(?p8)≠0 by omega);have a1:=qk5 ?iQ pos;refine⟨(?H6).toNat,O9m,fun h=>?_⟩;split at a1<;>split<;>omega
         exact ?PH ⟨t,by rw[←ht];rfl,rfl,ht1⟩
     rintro _ _ ⟨t,rfl,rfl,A43⟩;refine⟨_,rfl,p,vs,rfl,?z (.of hp2),_,_,rfl,rfl,_,rfl,?_⟩;ext aL;ext aZ
     . exact G9 ?p5 ?FE
     have h2:?y4:=by
      have:(1:Int)<?uV:=?M
      omega
     have ht1:=A43 h2
     have get:∀{i:Nat},i<ys.length->∃v,vs[i]?=?jN/\TI K H2 v (ys.getD i []):=fun {i} hi=>by
      have e:(ys.map tI)[i]?=?NL tI (ys.getD i []):=by rw[qb2,?d3,qa1,?d3];rfl
      obtain⟨v,hv,tv⟩:=r2.get e;exact⟨v,hv,tv⟩
     obtain⟨va,hva,zQ⟩:=get (i:=t) O9m;obtain⟨vb,hvb,tvb⟩:=get (i:=t+1) ht1;have atb:aY vs (?aX+1)=?c vb:=Bn (j:=t+1) hvb;have ata:aY vs ?aX=?c va:=Bn (j:=t) hva;obtain⟨ab,rfl,sqb⟩:=?nO tvb;refine⟨_,rfl,_,rfl,_,rfl,_,_,rfl,rfl,p,vs,_,_,rfl,rfl,.of hp2,atb,?nD,?F3,rfl,?S ⟨ab,_,rfl,sqb,?rB⟩,?uT,_,rfl,?_⟩;refine ?R4 ?FE
     have hmem:?aX ∉ ?JZ:=by
      intro hm;have h4:((?F3).any fun e=>eqD e (?nD))=true:=qo3.mpr ⟨?nD,qd7.mpr ⟨_,hm,rfl⟩,by simp[eqD]⟩;rw[h4]at h3;simp at h3
     have hT2:=Turned.step t hT ht1 hmem;refine fun d hd=>⟨_,rfl,_,rfl,_,_,rfl,rfl,_,rfl,_,_,rfl,rfl,_,rfl,Ab,[(?nT ?aX,?x (?aX+1)),(?nT (?aX+1),?x ?aX)],rfl,?cK,?_⟩
     rw[uG]
     have e3:upd (upd H2 d ?gO) d (?TJ ?mV)=?pC:=by
      funext b
      by_cases hb:b=d
      . subst hb;rw[Ab,Ab]
      . rw[?hD,?hD,?hD]
     rw[e3];have s3:?OF H2 ?pC:=?o hd;have hd3:(?pC) d=?y3:=Ab;generalize ?pC=H3 at s3 hd3;have hp3:=?zP;refine⟨_,rfl,_,rfl,_,rfl,p,vs,rfl,.of hp3,fun c1 hc1=>?_⟩;have s4:?OF H3 ?uX:=?o hc1;have Al9:(?uX) c1=?NL ?i (?p4):=Ab;generalize ?uX=H4 at s4 Al9;have Pb:=?BZ;refine⟨_,rfl,_,rfl,_,_,rfl,rfl,p,vs,_,_,rfl,rfl,.of Pb,atb,_,rfl,_,rfl,p,vs,_,_,rfl,rfl,.of Pb,ata,?B,fun c2 hc2=>?_⟩;have s5:?OF H4 ?t8:=?o hc2;have Al8:(?t8) c2=?c ?HN:=Ab;generalize ?t8=H5 at s5 Al8;have By3:(?p4).length<=1000:=by rw[Zd,qd3];omega
     have pG:(?mD).length<=1000:=by rw[show(?aX+2)=((t+2:Nat):Int) by omega,Ta,qh9];omega
     refine⟨c1,c2,_,_,rfl,rfl,?NG s5 Al9,.of Al8,Be (by simp only[qc9,qm1];omega),fun c3 hc3=>?_⟩;have s6:?OF H5 ?tO:=?o hc3;have Al7:(?tO) c3=?NL ?i (?sC):=Ab;generalize ?tO=H6 at s6 Al7;refine⟨_,rfl,_,rfl,_,_,rfl,rfl,_,rfl,p,vs,rfl,?NG (s5.trans s6) Pb,fun c4 hc4=>?_⟩;have s7:?OF H6 ?tA:=?o hc4;have Al6:(?tA) c4=?NL ?i (?mD):=Ab;generalize ?tA=H7 at s7 Al6;refine⟨c3,c4,_,_,rfl,rfl,?NG s7 Al7,.of Al6,Be (by simp only[qa9,qc9,qm1];omega),fun c5 hc5=>?_⟩;have s8:?OF H7 ?w2:=?o hc5;have uB:(?w2) c5=?NL ?i (?sB):=Ab;have r8:=lD r2 zQ tvb;generalize ?w2=H8 at s8 uB;generalize ?sB=ws at uB r8;have s28:?g H2 H8:=?S6 ?jZ;have hd8:H8 d=?y3:=(?S6 ?jL) _ _ hd3
     replace r8:=?b3 s28 r8
     have s08:?g H H8:=?aT s28;have wsl:ws.length=?zT:=by have:=r8.length;ext b5
     have hsl:=q9 ht1
     have h4s:∀q∈?jM,q.length<=4:=fun q hq=>by
      rcases AB hq with z | z
      . exact hT.le4 hx4 q z
      . subst z;exact ?a0
     refine(?NU c5 (?SQ uB));have hDH:?uN:=s08.free hD
     let Be1:?a1:=fun i zs τ G=>B4 (?g H8 G) ?B1 (?b6 K G zs ((?E9 ?sH).map tI)) (?NZ ?EZ)
     refine De (K:=K) (a:=c5) (xs:=ws) Be1
      ?dR (fun i zs τ G _ hz=>by obtain⟨g1,_⟩:=hz;exact ?NG g1 uB) ?_ ?_
     . rintro i x zs τ G hx Ee;ext dV;intro g1 Dr rG o' Hq;have hi:i<ws.length:=?j4;have hi2:i<?zT:=O9m
       have hix:((?jM).map tI)[i]?=?NL tI ?J7:=by rw[qb2,qa0 hi2];rfl
       obtain⟨x',hx',tx⟩:=r8.get hix;rw[hx]at hx';cases hx';have hq4:=h4s _ (qe5 hi2);generalize hqe:?J7=q at tx hq4;obtain⟨ax,rfl,sqx⟩:=?nO tx;have sqG:SqT K G ax (q.map ?x):=g1.seqT sqx;refine⟨_,rfl,ax,rfl,(?TK sqG),fun D2 Rx=>?_⟩
       let Be0:?a1:=fun m ys' τ' G'=>B4 (?g G G') (G' D2=?NL ?i ys') (ys'=((q.take m).map (Nw t)).map ?x) (Ef fun o=>τ'=?EZ)
       refine Uw (K:=K) (a:=ax) (xs:=q.map ?x) Be0
        ⟨?o Rx,Ab,rfl,?j,rfl⟩ (fun m ys' τ' G' _ hz=>by obtain⟨g2,_⟩:=hz;exact g2.seqT sqG) ?_ ?_
       . rintro m y ys' τ' G' hy Ee;revert τ';refine Kr ?_;intro g2 YU hys o'' Hq;have hm:m<q.length:=by have:=(?lF hy).1;ext b5
         have hyv:y=?d q[m]:=by
          rw[qb2,qa0 hm]at hy;simpa using hy.symm
         subst hyv;have Al4:G' d=?y3:=(?hR) _ _ hd8;refine⟨_,rfl,d,rfl,?z ⟨_,?z Al4⟩,_,rfl,_,rfl,_,Ao0 (?z Al4),?_⟩
         have ev:(Option.map ?x (?CB)).getD (?x q[m])=?x (Nw t q[m]):=by
          rw[←TR];cases ?CB<;>rfl
         rw[ev];refine⟨YU,?QG ?c9,g2.turn Rx,Ab,?_,_,rfl⟩;rw[qh8,qa0 hm,qb8,qb8,hys];rfl
       . rintro ys' τ' G' ⟨g2,YU,hys,_⟩;rw[qa3,qg0]at hys;refine⟨D2,_,rfl,?z ⟨.of YU,fun T2 hT2=>?_⟩⟩;have g3:?g G' (upd G' T2 (?p ys')):=?o hT2;have A93:=?OA ?hR g3;refine⟨?AO,?c9 (by have:=rG.length;rw[this,qa3,qa3,qd3];omega),A93.turn hD,Ab,?_,_,rfl⟩
         have e5:(?JD ?dK).map (?sH)=?E9 (?sH)++[q.map (Nw t)]:=by
          rw[qh8,qa0 hi2,qb8,hqe];rfl
         rw[e5];refine bN (?AO) (?b3 (g2.trans g3) rG) (TI.mk ?_);rw[←hys];exact ?bY
     . rintro zs τ G ⟨g1,Dr,rG,_⟩;rw[wsl,qg0]at rG;exact⟨D,zs,Jl ys t,iY os t,_,_,_,rfl,s08.trans g1,hDH,Dr,rG,hT2⟩
   . rintro σ H2 Ee;ext LT;exact ?NC ⟨p,vs,ys,os,o1,o2,o3,rfl,s2,hp,hp2,r2,hT⟩
 refine Ab6 fun p vs ys os o1 o2 o3 H2 s2 hp hp2 r2 hT=>?_;intro sq;exact⟨_,rfl,k p vs ys os H2 s2 hp hp2 r2 hT⟩
noncomputable abbrev Hu:Stmt:=top 3
theorem Sd:?s ?rC ?rC (As Hu):=Bf
theorem Sk[?u](F:Eo K ?oS ?oS Hu f fd)[?t][?yT]:?ND ?rC (Gm K):=by
 refine ?NP Sd;obtain⟨x,d,b,rfl,hx,k⟩:=h;refine(?Q4 Fn (Nd (OF JJ X3 Am ?l ?n)));refine⟨_,rfl,x,d,rfl,hx,_,rfl,?_⟩;ext rK
 . obtain⟨i,rfl⟩:=gB e;cases (show x=?aF from hx);ext rI;refine ?dS (fun e1=>?_) (fun e1=>?_)
   . refine⟨_,rfl,_,_,rfl,rfl,?_⟩;have e2:?uP=?tC:=by show(?a6 (0<=i)&&?tC)=_;rw[e1];rfl
     ext iG
   . have e2:?uP=false:=by show(?a6 (0<=i)&&?tC)=_;simp at e1;ext bE
     ext iG
 . have e2:belowD d b=false:=by
    cases d<;>first | rfl | (exfalso;exact e rfl)
   ext iG
noncomputable abbrev gM:Stmt:=top 15
theorem Wg:?s [?f6,?dI,?hV,?cL,?b0] ?lE (As gM):=Bf
theorem sY[?u](F:Eo K ?n3 ?n3 gM f fd)[?t][?M6]:?ND ?lE (JC K):=by
 refine ?NP Wg;obtain⟨a,b,ms,ns,rfl,ha,hb,hm,hn,k⟩:=h
 refine⟨_,(Af (?NQ Wg.nd (Ey IJ ?h ?vQ Nt ?aB))
  (Af (?V1 (?U3 Wg.nd Wg.nd) (?QE Pw ?v))
  ?h3)),?_⟩
 ext D
 refine⟨_,rfl,a,?bU,rfl,ha,?a3⟩;have lP:b≠D:=At hb hD;refine ?S ⟨b,?lV,(by rw[An lP];exact hb),?oA⟩;refine(?PT b ?lV)
 let Bd9:?aN:=fun i σ H1=>Hm fun o1 o2=>B4 (σ=[?w,?eT,?G,o1,o2]) (H1 b=?c (?O9 ?lV)) (H1 D=?O4 (?KH)) ((?QJ H H1))
 refine Uq (d:=b) (o:=o) (kvs:=?lV) Bd9
  ?GA (fun i σ H1 _ hz=>?A0) ?_ ?_
 . rw[?AY,Ab];rfl
 . intro c q n1 n2 e;rw[?jI,An n2];exact e
 . rintro i kk x σ H1 p hx Ee hp
   ext aC
   ext MV;ext rN;have npb:b≠p:=At hb1 hp;have npD:D≠p:=At Fq hp;have hlt:?xM:=?sL;ext gJ;refine⟨_,rfl,_,rfl,_,rfl,D,?KH,q.1,q.2,rfl,(by rw[An npD];exact Fq),?_,?_⟩
   . have:=ES (ns.take i) ms;rw[qd3]at this;omega
   . refine⟨_,_,rfl,?_,?_,?A4⟩
     . rw[An lP,An npb];exact hb1
     . rw[Ab,LG hq]
     . rw[An n2,An (At (?C9) hp)];exact ?C9
 . rintro σ H1 Ee;ext MV;rw[Rr,qg0]at Fq;refine⟨hb1,_,rfl,k D _ hD (fun c q e=>?_) (by ext iJ;exact Fq)⟩;by_cases z:c=b
   . subst z;rw[hb]at e;cases e;exact Ab
   . rw[An z];exact hk1 c q z (At e hD) e
noncomputable abbrev Gr:Stmt:=top 33
theorem Qx:?s ?fL ?fL (As Gr):=Bf
theorem Rh[?u](F:Eo K ?nF ?nF Gr f fd)[?t][?yS]:?ND ?fL (Ds K):=by
 refine ?NP Qx;obtain⟨a,i,xs,rfl,hL,Qi,k⟩:=h;obtain⟨us,hq,Yu⟩:=?zY;obtain⟨_,us',z,hq',r⟩:=?oO;refine(?UR (Bb (B9 (N':=[?cL,?qJ,"k"]) (cap:=?GJ) ?h ?R (?OB ?aB) (?NA (?TV vJ vJ)) (?NA (Pp (?VH (?RI Fm ?Y) ?m))) (?NA ?l))));cases z;refine(?NU a ⟨us',hq'⟩);have A37:us'.length=xs.length:=?qP
 let Bd8:?a1:=fun j ys τ H1=>En (j<=us'.length) ?k5 ?k7 (ys=(Mm xs i j).map ?x) (?OC [o1,o2,?bD])
 refine Ux (K:=K) (a:=a) (xs:=us') Bd8
  ⟨?a0,?aP,Ab,rfl,?j,?j,rfl⟩ (fun j ys τ H1 _ hz=>by obtain⟨_,s1,_⟩:=hz;exact ?cG hq') ?_ ?_
 . rintro j v ys τ H1 p hv Ee hp;revert τ;refine VM ?_;intro hj s1 Fq hys o1 o2 Hq;have hj2:j<us'.length:=?fJ;have hj3:j<xs.length:=O9m
   obtain⟨dv,pO,rv⟩:=r.getV hv
   have edv:dv=tI (?xY):=by
    rw[qb2,qa0 hj3]at pO;rw[qa1,qa0 hj3];simpa using pO.symm
   subst edv;have sp:?TG [?d j,v]:=?cB;ext gJ;refine⟨_,rfl,v,?CZ,rfl,?S (?Q (?kP) rv),_,rfl,rfl,_,rfl,?_⟩;rw[show(?CZ).length=?J1 from qa3 ..];have ZY:(?O6 H1 [?d j,v]) D=?uA:=?E6;have yl:ys.length<=j:=by rw[hys,qa3];exact Gx ..
   ext yY
   . have h3:?zD:=?bJ
     refine⟨_,rfl,ZY,?cZ,O9m,?Q1 ?kP,Ab,?_,_,_,rfl⟩;rw[Xx h3,qb8,hys];rfl
   . have h3:¬?zD:=?bJ
     refine⟨O9m,?kP,ZY,?_,_,_,rfl⟩;rw[bP h3];exact hys
 . rintro ys τ H1 ⟨_,s1,Fq,hys,_⟩;rw[A37]at hys;refine k D H1 hD s1 ?_;rw[Fq,hys];rfl
noncomputable abbrev Fu:Stmt:=top 37
theorem Oj:?s ?qF ?qF (As Fu):=Bf
theorem Ow[?u](F:Eo K ?pB ?pB Fu f fd)[?t][?yT]:?ND ?qF (Ir K):=by
 refine ?NP Oj;obtain⟨a,n,f,rfl,hq,hn,k⟩:=h;refine⟨_,(?UW (Lu (?RO ?l) (Lu (La Ed ?h0 ?n ?C) (Nd (?V4 (B9 (N':=[?b0]) (cap:=?fI) ?h ?R ?hA (?NA (?RE 0 oV)) ?aH (?NA (?RI Fn ?aB)))))))),?_⟩;refine⟨_,rfl,?g6,?fG,dL n f,rfl,?wB,qG hq,_,rfl,?_⟩;refine AJ (by simp[jQ,dL]) ?_;refine⟨_,rfl,a,_,rfl,?f9,_,rfl,rfl,_,rfl,?_⟩;refine AJ (isI (?xH)) ?_;ext rH
 let Bd7:?a1:=?SA ?fZ
 refine De (K:=K) (a:=a) (xs:=VI n f) Bd7
  ?dR (?PM _) ?_ ?_
 . ext zC;ext dV;ext z3;obtain⟨hi,rfl⟩:=U0 hx;refine⟨_,rfl,_,?d (f i),rfl,rfl,Fq,?u4,?w6,Ab,?_,_,rfl⟩;rw[qv7,qb8];rfl
 . ext z1;refine⟨D,?AQ,rfl,?uS,?_⟩;rw[?R9 ?AQ];exact ?hY
noncomputable abbrev T3:Stmt:=top 39
theorem GK:?s ?fE ?fE (As T3):=Bf
theorem gU[?u](F:Eo K ?pE ?pE T3 f fd)[?t](CC:Has P w K mg ?f ?zU [?X,"j"] 1 (v9 K)):?ND ?fE (Hr K):=by
 refine ?NP GK;obtain⟨v,h,w,f,rfl,hv,hh,hw,k⟩:=h;refine(?TY (B9 (N':=["j",?X]) (cap:=?GG) ?h ?R (?OK ?Y) (?NA (?RE 0 YC)) ?aH (?NA (?RI CC (Aa ?n ?aB)))));ext yV
 let Bd6:?a1:=fun i ys τ H1=>Ef fun as=>B4 ?pZ ?o0 (?d1 H H1 D as h (fun i j=>f j i)) (?NZ [o,?jN])
 refine Ld Bd6
  ?kC ?_ ?_
 . ext N2;have hi2:i<w:=O9m
   refine⟨_,rfl,_,rfl,v,h,w,i,f,?EN,?DA,hh,hi2,?w3⟩;ext yD
 . ext yG
noncomputable abbrev GN:Stmt:=top 41
theorem RZ:?s ?oB ?oB (As GN):=Bf
theorem SY[?u](F:Eo K ?r0 ?r0 GN f fd)[?t](Y0:Has P w K mg ?f ?FC [?sR,"i"] 1 (W5 K)):?ND ?oB (BG K):=by
 refine ?NP RZ;obtain⟨n,rfl,hn,k⟩:=h;refine(?TY (B9 (N':=["i",?sR]) (cap:=?GG) ?h ?R (?OK ?aB) (?NA (?RE 0 YB)) ?aH (?NA (?RI Y0 (Aa ?n ?aB)))));ext yV
 let Bd5:?a1:=fun i ys τ H1=>Ef fun as=>B4 ?pZ ?o0 (?d1 H H1 D as n (?OV 0)) (?NZ [o,?a8])
 refine Ld Bd5
  ?kC ?_ ?_
 . ext N2;refine⟨_,rfl,_,rfl,n,i,?EN,hn,?w3⟩;ext yD
 . ext yG
noncomputable abbrev M8:Stmt:=top 43
theorem Fy:?s [?iA,?X,?b2,?hV,?b0,?cD] ?t5 (As M8):=Bf
theorem b6[?u](F:Eo K ?mH ?mH M8 f fd)[?t][?yO]:?ND ?t5 (Qd K):=by
 refine ?NP Fy;obtain⟨x,v,h,w,a,f,rfl,hx,hv,hh,hw,hm,k⟩:=h;obtain⟨tb,us,rfl,hq,Yu,Nm⟩:=?i4
 refine⟨_,(Af (?NX ?oM (Bd X2 ?IP ?m))
  (Af (Cv qc6 rfl (?UI ?cJ) (?NF 2 (?UG ?oM ?oM)) (Ak (?NX ?oM (?RI Ia (Aa Am (?V2 ?v))))))
  (?RF ?v))),?_⟩
 ext D
 refine ?N9 (fun σ' H'=>Ef fun T=>B4 (σ'=[rS x,rS tb,iS w,rS T,none,none]) (?SE T) ?a4 (?RP T (VI w ?KC)))
 . refine⟨?B,fun l0 hl0=>?_⟩;have s0:?g H (upd H l0 ?rD):=?o hl0;refine⟨_,rfl,l0,_,_,rfl,rfl,Ab,O9m,O9m,?fD,fun T hT=>?_⟩;refine ?NC ⟨T,rfl,?pP hT,?sT (?o hT),?_⟩;rw[Ab,qd6,ZH]
 refine Wq fun T0 H1 hT0 s1 hT1=>?_;intro sq;refine⟨_,rfl,_,rfl,x,tb,rfl,⟨_,?cG hx⟩,(?TK ?k9),?_⟩
 refine uD (K:=K) (a:=x) (b:=tb) (xs:=VI h a) (ys:=us) (n:=h) (by rw[Br,Yu,qx8]) (fun i σ H2=>N8 fun T o1 o2=>B4 (σ=[rS x,rS tb,iS w,rS T,o1,o2]) (?SE T) (?g H H2) (H2 T=?NL ?i (VI w fun j=>Aj (fun k=>a k*f k j) i)))
  ⟨T0,?j,?j,rfl,hT0,s1,hT1⟩ (fun i σ H2 _ hz=>by obtain⟨_,_,_,_,_,s2,_⟩:=hz;exact⟨?gV hx,?gV hq⟩) ?_ ?_
 . rintro i u v σ H2 pr hu hv Ee hp;ext MP;obtain⟨hi,rfl⟩:=U0 hu;obtain⟨_,b,rfl,hb⟩:=Nm i _ hv;have sp:?g H2 (upd H2 pr (?p [?d (a i),?kU])):=?cB;ext yM;refine⟨_,rfl,_,rfl,_,rfl,1,a i,T,b,w,_,f i,rfl,?NG sp hT2,(?xN).seq hb,O9m,fun j hj=>⟨?xR,hm i j hi hj⟩,fun D H3 hD s3 eX=>?_⟩;refine⟨D,_,_,rfl,?TO ?xN,?OA ?xN s3,?_⟩;rw[eX]
   congr 2
   refine Pj fun j hj=>?_;show 1*_+_=Aj _ i+_;rw[qd1]
 . rintro σ H2 Ee;ext MP;exact⟨_,rfl,k T H2 hT s2 hT2⟩
noncomputable abbrev On:Stmt:=top 47
theorem M6:?s [?eR,?wF,?b0,"i","face"] ?tG (As On):=Bf
theorem BR[?u](F:Eo K ?o5 ?o5 On f fd)[?t][?M6]:?ND ?tG (R9 K):=by
 refine ?NP M6;obtain⟨a,v,ms,fs,n,rfl,ha,hv,hm,kq⟩:=h;obtain⟨af,rfl,sq⟩:=?nO hv;refine(?UR (Cv qc6 rfl (OB (K:=K) ?h ?g1 ?Y) (?NF 2 (?U3 M6.nd M6.nd)) (Ak (Bx (?RI Pw (?VJ (?NB ?L (Xz (?VH (?V7 Gb ?v) Am) ?m (N1 Iy ?m)))))))))
 let Bd4:?aN:=fun i σ H1=>∃o1 o2,σ=?HW/\Qn a H H1/\H1 a=?O4 (?zZ)
 refine⟨_,rfl,af,rfl,(?TK sq),MF (K:=K) (a:=af) (xs:=fs.map ?x) Bd4
  ⟨?j,?j,rfl,fun _ _ _ e=>e,ha⟩ (fun i σ H1 _ ⟨_,_,_,s1,_⟩=>SqT.x s1 ha sq) ?_ ?_⟩
 . rintro i x σ H1 p hx Ee hp
   ext aC
   refine ex2 ?_ Ee;clear Ee;intro o1 o2 Ee;refine Ba2 ?_ Ee;clear Ee;rintro rfl s1 ha1;have hi:i<fs.length:=?n8
   have hxv:x=?iT:=by
    ext yN
   subst hxv;have sp:?TG [?aF,?iT]:=?cB;have ha2:=?QA ha1;have hl:=Ue ms fs n i;ext gJ
   have fin:∀m,m=JE n i->Pn K [?g6,?iT,?d m] (?O6 H1 [?aF,?iT]) (fun v H'=>∃o1 o2,([?w,rS af,?a8,?cW,?c (?iT)]:St)=?HW/\Qn a H H'/\H' a=?O4 (Hi ms fs n ?dK)) E0:=by
    intro m hm2;subst hm2;refine⟨a,?zZ,_,_,rfl,ha2,O9m,_,_,rfl,fun c q n1 e=>?_,Ab⟩;rw[?jI];exact ?QA (s1 c q n1 e)
   refine⟨_,rfl,_,rfl,_,rfl,_,_,rfl,rfl,(?NW 2),rfl,_,rfl,?_⟩;ext aL
   . have h2:?a9%2=0:=?M
     exact⟨_,rfl,fin n (by unfold JE;rw[?sF])⟩
   . have h2:¬?a9%2=0:=?M
     exact⟨_,rfl,_,rfl,fin (-n) (by unfold JE;rw[?lU])⟩
 . rintro σ H1 ⟨o1,o2,rfl,s1,ha1⟩;rw[qa3]at ha1;exact kq H1 s1 ha1
noncomputable abbrev Xj:Stmt:=top 53
theorem Tt:?s [?qC,?bW,?hV,"i"] ?sE (As Xj):=Bf
theorem lI[?u](F:Eo K ?pS ?pS Xj f fd)[?t][?yO]:?ND ?sE (Xb K):=by
 refine ?NP Tt;obtain⟨r,u,as,n,W,f,t,rfl,x,hu,hm,hn,hW,k⟩:=h;have hq:SqL K H r ?h4:=.of x.2.1
 refine⟨_,(Af (?NQ Tt.nd (?RX ?aB))
  (Af (?NX Tt.nd ?g4)
  (Af (Cf (?VH ?g4 Nc) (Ak (?UY (B9 (N':=[?b0]) (cap:=?fI) ?h ?R (?NN Cm ?oR) (?NA (?RE 0 oV)) ?aH (?NA (N1 Iy ?l))))) (Ak (Cf (?VH ?g4 Nc) (Af (?UY (?TX ?l ?g4))
  (Ak (Hx ?oR (Kn ?m ?g4 Fa)))) (Ak (?UY (?RI Ia (Aa Am (Aa ?oR (?NB ?g4 (?TX ?l ?g4))))))))))
  ?h3))),?_⟩
 ext D
 refine⟨_,rfl,r,?fP,rfl,?f9,?DG⟩;have sL:?OF H ?EI:=?o hL;generalize hHL:?EI=HL at sL;have hLL:HL L=?NL ?i ?h4:=by rw[←hHL];exact Ab
 have hqL:SqL K HL r ?h4:=?iX hq
 have fin:∀(i:Nat) (D:Addr) (H1:Hp),i<n->HL D=none->?L1->H1 D=?NL ?i (VI W (rQ t f i))->(∀r,r≠i->rQ t f r=f r)->H1 L=?NL ?i ?h4/\?QY Q (?e L):=by
  intro i D H1 hi hD s1 h1 he;have nDL:D≠L:=fun z=>by rw[z,hLL]at hD;cases hD
  refine⟨s1 _ _ hLL,?_⟩;have s2:?QY ?g H:=(sL.trans s1).turn hL;refine k L (as.set i D) _ hL s2 (x.made s2 hi Ab (by rw[An nDL];exact h1) he) ?bR;rcases qn9 ha with ha | rfl
  . exact⟨?z ha,fun z=>x.there.2 a ha (z▸hL)⟩
  . exact⟨?S (sL.free hD),nDL⟩
 cases t with
 | sw i j=>exact hm.elim
 | mi i =>
   have hi:i<n:=hm;obtain⟨ta,vs,rfl,hT,rT⟩:=hu;ext N6;have hT1:SqT K HL ta [V.str "minus",?x i]:=?HQ;obtain⟨b,_,eb,_,hb⟩:=?HD;ext N1;ext yK;refine ?F1;refine⟨_,rfl,_,rfl,r,_,_,_,rfl,rfl,hqL,Bn eb,b,rfl,⟨_,?iX hb⟩,?a3⟩
   let Bd3:?a1:=fun c ys τ H1=>B4 (?L1) ?k7 (ys=VI c (fun c=>-(f i c))) ?fZ
   refine De (K:=K) (a:=b) (xs:=VI W (f i)) Bd3
    ?dR (fun c ys τ H1 _ hz=>by ext rW;exact ?cG (?iX hb)) ?_ ?_
   . rintro c y ys τ H1 hx Ee;ext dV;ext z3;obtain⟨hc,rfl⟩:=U0 hx;refine⟨_,rfl,_,rfl,Fq,?AP,?w6,Ab,?_,_,rfl⟩;rw[Tg]
   . ext z1;rw[Br]at Fq;ext LJ
     ext LP
 | ad i j m =>
   obtain⟨hi,hj,hij,hm⟩:=hm;ext LN;have hT1:SqT K HL ta [V.str "add",?x i,?x j,?x m]:=?HQ;obtain⟨bi,_,ebi,_,hbi⟩:=?HD;obtain⟨bj,_,ebj,_,hbj⟩:=?NN x.row hj;ext N1;ext yK;refine ?s0;ext yK;refine ?s0;refine⟨_,rfl,_,rfl,r,_,_,_,rfl,rfl,hqL,Bn ebi,_,rfl,ta,_,_,_,rfl,rfl,hT1,rfl,_,rfl,_,rfl,ta,_,_,_,rfl,rfl,hT1,rfl,r,_,_,_,rfl,rfl,hqL,Bn ebj,?_⟩;refine⟨1,m,bi,bj,W,f i,f j,rfl,?iX hbi,?iX hbj,hW,fun c hc=>⟨?xR,hm c hc⟩,fun D H1 hD s1 Fq=>?_⟩;ext LJ
   ext LP
noncomputable abbrev Ew:Stmt:=?R0 55 2
theorem C4:?s [?aG,"i","j",?f6,?dI,?hT,"a","b","c","d",?cD,"back"] ?gG (As Ew):=Bf
theorem Oz[?u](F:Eo K ?e7 ?uW Ew f fd)[?t](F6:Has P w K mg ?f ?GP ?lE 1 (Vd K))[?yO]:?ND ?gG ?k4:=by
 refine ?NP C4;obtain⟨p,C,r,b,sv,n,W,i,j,A,B,s,N,rfl,hC,x,hi,hj,hij,hn,hW,hA,hB,lA,lB,bo,k⟩:=h;ext LO;obtain⟨pr,pb⟩:=x.refs;have rb:=x.ne
 have hc:?s3:=by
  rcases hC with rfl | rfl
  . ext yL
  . ext yH
 refine⟨_,(Af (?OE ?g5 (?RI F6 (Aa ?v ?g8)))
  (Af (?SL 6 ?e2)
  (Af (?SL 7 ?e2)
  (Af (?SL 8 (N1 Iy (Bd Ko ?L ?e2)))
  (Af (?SL 9 (Bd Ko ?v ?e2))
  (Af (?SL 10 ?c2)
  (Af (?QB ?d4 (?TU ?iZ ?f7))
  (Af (?QC ?g9 (?TU ?iZ ?i2))
  (Af (?SL 11 ?c2)
  (Af (?QB ?i2 (?TU ?i1 (N1 Iy ?g9)))
  (Af (?QC (N1 Iy ?f7) (?TU ?i1 ?d4))
  (?RF ?aD)))))))))))),?_⟩
 ext D
 refine ?N9 (fun σ' H'=>l9 fun(L:Addr) (g a c:Int)=>B4 (σ'=[?y,?bD,iS j,iS A,iS B,?cE,none,none,none,none,none,none]) ?a4 (SqT K H' L ?IU) (?wD A B g a c))
 . exact⟨_,rfl,_,rfl,A,B,rfl,hA,hB,lA,lB,fun L g a c H1 s1 hL sh=>?NC ⟨L,g,a,c,rfl,s1,hL,sh⟩⟩
 refine Ac1 fun L g a c H1 s1 hL sh=>?_;intro sq;have g0:=sh.pos;have lg:?E7:=?ON lA;ext N0;have la:a.natAbs<L9:=qc1 sh.la lB;have lc:c.natAbs<L9:=qc1 sh.lb lA;have eB:B.fdiv g=B / g:=?wL;have eA:A.fdiv g=?f1:=?wL;have lz':(B / g).natAbs<L9:=qc1 ?j3 lB;have lz:(-(B / g)).natAbs<L9:=by rw[qc4];exact lz'
 have lu:(?f1).natAbs<L9:=qc1 ?j3 lA;have hp1:=?iS;have hr1:=s1 _ _ ?iK;obtain⟨ci,_,NC,mci,mD⟩:=?r1;obtain⟨cj,_,zZ,mcj,hcj⟩:=?NN ?lH hj;obtain⟨di,_,edi,mdi,hdi⟩:=?D0;obtain⟨dj,_,edj,mdj,hdj⟩:=?NN xb.row hj;have mk:∀{u:Int}{k c U:Nat}{f:Lat.Mat},u.natAbs<L9->Lat.Bits n U big f->k<n->c<U->IntMulOk u (f k c):=fun h1 h2 h3 h4=>gX h1 (h2 _ _ h3 h4);ext N7;ext N7;refine⟨_,rfl,_,rfl,L,_,_,_,rfl,rfl,hL,rfl,_,_,rfl,rfl,cb _,_,rfl,?_⟩;refine⟨_,rfl,_,rfl,L,_,_,_,rfl,rfl,hL,rfl,_,_,rfl,rfl,cb _,?_⟩;refine⟨_,rfl,p,C,dx,fs,_,rfl,hp1,?aS,?e5,l1,_,rfl,r,_,_,_,rfl,rfl,.of hr1,?iW,?_⟩;refine Al (fun σ' H'=>σ'=[?y,?bD,iS j,iS A,iS B,?cE,?bT,?b7,?NL ?d ?bS,?NL ?d ?d5,rS ci,none]/\?mQ) ?_ fun key=>?NC ⟨by rw[←eA,←eB];rfl,rfl⟩;ext aO;refine ?N9 (fun σ' H'=>Ef fun D1=>Pm (?U2 B) (U3 r b H1 H') (Kp H1 H') (H1 D1=none) (H' b=H1 b) (?RP r (?EC)) (?RP D1 (VI W fun k=>a*s.1 i k+c*s.1 j k)))
 . refine⟨_,rfl,_,rfl,_,rfl,_,rfl,p,C,dx,fs,_,rfl,hp1,?aS,?e5,l1,_,rfl,r,_,_,_,rfl,rfl,.of hr1,Bn zZ,?_⟩;refine⟨a,c,ci,cj,W,?gI,?pH,rfl,?cG mD,?cG hcj,hW,?PF la lc,fun D1 H2 Fq s2 h2=>?_⟩;have nD:D1≠r:=fun z=>by rw[z,hr1]at Fq;cases Fq
   refine⟨_,rfl,p,C,dx,fs,_,rfl,(?OU hp1),?aS,?e5,l1,_,rfl,r,_,_,i,rfl,rfl,?OU hr1,Ju (by ext rU),?_⟩;exact ?NC ⟨D1,rfl,(?j8 s2).l,?S2 s2,Fq,by rw[An rb.symm,s2 _ _ (?gH),?gH],Ab,by rw[?pG];exact h2⟩
 refine IT fun D1 H3 RG kp3 n1 b3 r3 d3=>?_;intro sq;have hp3:=RG _ _ pr pb hp1;have kr:?Q5 as:=?P5 na na;have kb:?Q5 bs:=?P5 nb nb;have qr:∀{G:Hp}{k:Nat}{c:Addr},?wV->c∈as->SqL K H c (VI W (s.1 k))->as[k]?=?c c->SqL K G c (VI W (s.1 k)):=fun fr hc _ e=>.of (kr fr hc _ (xa.2.2 _ _ e));have rci:as[i]?=?c ci:=by rw[qb2]at NC;obtain⟨z,e1,e2⟩:=?gY NC;cases e2;exact e1
 have rcj:as[j]?=?c cj:=by rw[qb2]at zZ;obtain⟨z,e1,e2⟩:=?gY zZ;cases e2;exact e1
 have rdi:bs[i]?=?c di:=by rw[qb2]at edi;obtain⟨z,e1,e2⟩:=?gY edi;cases e2;exact e1
 have rdj:bs[j]?=?c dj:=by rw[qb2]at edj;obtain⟨z,e1,e2⟩:=?gY edj;cases e2;exact e1
 have D1r:D1≠r:=fun z=>by rw[z,hr1]at n1;cases n1
 have D1b:D1≠b:=fun z=>by rw[z,?gH]at n1;cases n1
 refine ?N9 (fun σ' H'=>Ef fun D2=>Pm (?U2 B) (U3 r b H3 H') (?KY) (H3 D2=none) (H' b=H3 b) (?RP r ((?EC).set j (?eF))) (?RP D2 (VI W fun k=>-(B / g)*s.1 i k+?f1*s.1 j k)))
 . refine⟨_,rfl,_,rfl,_,rfl,_,rfl,p,C,dx,fs,_,rfl,hp3,?aS,?e5,l1,_,rfl,r,_,_,_,rfl,rfl,.of r3,Bn (by rw[ql6 hij];exact zZ),?_⟩;refine⟨-(B / g),?f1,ci,cj,W,?gI,?pH,rfl,qr RG mci mD rci,qr RG mcj hcj rcj,hW,?PF lz lu,fun D2 H4 Rx s4 h4=>?_⟩;have nD:D2≠r:=fun z=>by rw[z,r3]at Rx;cases Rx
   refine⟨_,rfl,p,C,dx,fs,_,rfl,(?BZ),?aS,?e5,l1,_,rfl,r,_,_,j,rfl,rfl,s4 _ _ r3,Ju (by rw[qj3,qa3,xa.1];exact hj),?_⟩;refine ?NC ⟨D2,rfl,(?j8 s4).l,?S2 s4,Rx,?_,Ab,by rw[?pG];exact h4⟩;have e3:H3 b=?vI:=by rw[b3];exact ?gH
   rw[An rb.symm,s4 _ _ e3,e3]
 refine IT fun D2 H5 YW zU n2 b5 r5 d5=>?_;intro sq;have e5:H5 b=?vI:=by rw[b5,b3];exact ?gH
 have YX:=RG.trans YW;have eW:=YW _ _ pr pb hp3;have D2r:D2≠r:=fun z=>by rw[z,r3]at n2;cases n2
 have D2b:D2≠b:=fun z=>by rw[z,b3,?gH]at n2;cases n2
 refine⟨_,rfl,p,C,dx,fs,_,rfl,eW,?aS,?e6,l2,_,rfl,b,_,_,_,rfl,rfl,?sA,Bn edi,?_⟩;refine Al (fun σ' H'=>σ'=[?y,?bD,iS j,iS A,iS B,?cE,?bT,?b7,?NL ?d ?bS,?NL ?d ?d5,rS ci,rS di]/\H5=H') ?_ ?K1;ext aO;refine ?N9 (fun σ' H'=>Ef fun D3=>Pm (?U0 B) (U3 r b H5 H') (Kp H5 H') (H5 D3=none) (H' r=H5 r) (?RP b (?G6)) (?RP D3 (VI n fun k=>?f1*s.2 i k+-?bS*s.2 j k)))
 . refine⟨_,rfl,_,rfl,_,rfl,_,rfl,_,rfl,p,C,dx,fs,_,rfl,eW,?aS,?e6,l2,_,rfl,b,_,_,_,rfl,rfl,?sA,Bn edj,?_⟩;refine⟨?f1,-?bS,di,dj,n,s.2 i,s.2 j,rfl,?QS YX,?QR YX,hn,?P9 lu (by rw[qc4];exact lz),fun D3 H6 eX s6 h6=>?_⟩;have nD:D3≠b:=fun z=>by rw[z,e5]at eX;cases eX
   refine⟨_,rfl,p,C,dx,fs,_,rfl,(s6 _ _ eW),?aS,?e6,l2,_,rfl,b,_,_,i,rfl,rfl,s6 _ _ e5,Ju (by ext rV),?_⟩;exact ?NC ⟨D3,rfl,(?j8 s6).r,?S2 s6,eX,by rw[An rb,s6 _ _ r5,r5],Ab,by rw[?pG];exact h6⟩
 refine IT fun D3 H7 fr7 kp7 n3 r7 b7 d7=>?_;intro sq;have yX:=YX.trans fr7;have hp7:=fr7 _ _ pr pb eW;have D3r:D3≠r:=fun z=>by rw[z,r5]at n3;cases n3
 have D3b:D3≠b:=fun z=>by rw[z,e5]at n3;cases n3
 refine ?N9 (fun σ' H'=>Ef fun D4=>Pm (?U0 B) (U3 r b H7 H') (Kp H7 H') (H7 D4=none) (H' r=H7 r) (?RP b ((?G6).set j (?e D4))) (?RP D4 (VI n fun k=>-c*s.2 i k+a*s.2 j k)))
 . refine⟨_,rfl,_,rfl,_,rfl,_,rfl,_,rfl,p,C,dx,fs,_,rfl,hp7,?aS,?e6,l2,_,rfl,b,_,_,_,rfl,rfl,.of b7,Bn (by rw[ql6 hij];exact edj),?_⟩;refine⟨-c,a,di,dj,n,s.2 i,s.2 j,rfl,?QS yX,?QR yX,hn,?P9 (by rw[qc4];exact lc) la,fun D4 H8 hD4 s8 h8=>?_⟩;have nD:D4≠b:=fun z=>by rw[z,b7]at hD4;cases hD4
   refine⟨_,rfl,p,C,dx,fs,_,rfl,(s8 _ _ hp7),?aS,?e6,l2,_,rfl,b,_,_,j,rfl,rfl,s8 _ _ b7,Ju (by rw[qj3,qa3,xb.1];exact hj),?_⟩;refine ?NC ⟨D4,rfl,(?j8 s8).r,?S2 s8,hD4,?_,Ab,by rw[?pG];exact h8⟩;have e7:=r7.trans r5;rw[An rb,s8 _ _ e7,e7]
 refine IT fun D4 H9 fr9 kp9 n4 r9 b9 d9=>?_;intro sq;have mF:=yX.trans fr9;have D4r:D4≠r:=fun z=>by rw[z,r7,r5]at n4;cases n4
 have D4b:D4≠b:=fun z=>by rw[z,b7]at n4;cases n4
 have k19:Kp H1 H9:=((kp3.trans zU).trans kp7).trans kp9;have u1:?SE D1:=?nZ n1
 have BE:∀{G:Hp}{D:Addr},Kp H G->G D=none->?uN:=fun kp e=>by
  cases z:H _ with
  | none=>rfl
  | some o=>exact ?iV e (kp _ (by rw[z];exact fun q=>by cases q))
 have k01:Kp H H1:=?fW s1;have u2:?J5:=BE (?nX kp3) n2;have u3:?SE D3:=BE ((?nX kp3).trans zU) n3;have u4:?SE D4:=BE (((?nX kp3).trans zU).trans kp7) n4;ext MJ
 have hL9:SqT K H9 L ?IU:=by
  rcases hL with h | h
  . exact ?z (by
     have hLr:L≠r:=fun z=>by rw[z]at h;rcases h with h|⟨_,h⟩<;>rw[hr1]at h<;>cases h
     have hLb:L≠b:=fun z=>by rw[z]at h;rcases h with h|⟨_,h⟩<;>rw[?gH]at h<;>cases h
     rcases h with h|⟨q,h⟩
     . exact ?z (?CI)
     . exact ?S ⟨q,?CI⟩)
  . exact ?S h
 refine⟨_,rfl,k L g a c H9 ((?j8 s1).trans mF) ?BW hL9 sh ⟨⟨dx,fs,mF _ _ pr pb hp1,l1,l2,l3,l4,l5⟩,⟨_,xa.two (D1:=D1) (D2:=D2) hi hj hij ?_ (fun a ha=>kr mF ha) ?_ ?_ ?_,?bR⟩,⟨_,xb.two hi hj hij b9 (fun a ha=>kb mF ha) ?_ ?_ ?_,?bR⟩,rb,x.nr,x.nb,fun a ha z=>x.nn a ha (BE ?BW z)⟩⟩
 . rw[r9,r7,r5]
 . show ?UM D1 (?TB i);rw[Lat.blend_row_p hij];exact(fr9 _ _ D1r D1b (fr7 _ _ D1r D1b (YW _ _ D1r D1b d3)))
 . show ?UM D2 (?TB j);rw[Lat.blend_row_q];exact(fr9 _ _ D2r D2b (fr7 _ _ D2r D2b d5))
 . ext MM
 . rcases jN ha with ha | rfl | rfl
   . exact ?uE
   . exact⟨D1r,D1b,nN _ u1⟩
   . exact⟨D2r,D2b,nN _ u2⟩
 . show ?UM D3 (?SS i);rw[Lat.blend_row_p hij];exact fr9 _ _ D3r D3b d7
 . show ?UM D4 (?SS j);rw[Lat.blend_row_q];exact d9
 . ext MM
 . rcases jN ha with ha | rfl | rfl
   . exact ?nV
   . exact⟨D3r,D3b,nN _ u3⟩
   . exact⟨D4r,D4b,nN _ u4⟩
noncomputable abbrev Jd:Stmt:=Eh ?kW 0
theorem Tu:?s ?bV ?bV (As Jd):=Bf
theorem T7[?u](F:?Q7 ?IL Jd)[?t](Yy:?QK P):?ND ?bV (dN K Ag Ad Ah):=by
 refine ?NP Tu;obtain⟨p,dx,r,b,rfl,hp,k⟩:=h
 refine⟨_,(Af (Bx (sV Yy hr ?h ?r7 (?VJ (Aa ?n ?Z))))
  (?UX ?cR)),?_⟩
 ext D
 refine⟨_,rfl,_,rfl,_,rfl,p,dx,Ad,r,b,rfl,?iO,hp,fun H1 fs hfs hH1=>?_⟩;have hp1:H1 p=?SK Ad fs:=by rw[hH1];exact Ab
 have s1:?bN p H H1:=by rw[hH1];ext N3
 have hl:fs.length<=2:=by rw[hfs];exact ?AG
 refine⟨qa8 _,fun D hD=>?_⟩;have ZY:p≠D:=At hp1 hD;refine⟨_,rfl,p,Ad,dx,fs,rfl,by rw[An ZY];exact hp1,T.cl_Stairs,T.na_Stairs_starts,O9m,?_⟩;refine k D _ _ ?_ (by rw[hfs]) (SameX.upd (s1.trans (SameX.of (Same.new hD)))) (by rw[An ZY.symm];exact Ab) Ab;cases z:H D with
 | none=>rfl
 | some o=>rw[s1 _ _ ZY.symm z]at hD;cases hD
noncomputable abbrev Xo:Stmt:=top 79
theorem lC:?s ?oY ?oY (As Xo):=Bf
theorem LL[?u](F:Eo K ?pO ?pO Xo f fd)[?t](cE:Has P w K mg ?f ?nR ?gS 1 (DL K))(Nq:Has P w K mg ?f ?nG ?gS 1 (DK K)):?ND ?oY (DJ K):=by
 refine ?NP lC;obtain⟨kd,n,a,b,rfl,h0,h9,hn,f6,k⟩:=h;ext LX
 refine⟨_,(Af (Cf (?gN (DU ?eP (bM ?eP))) (?PY cE) Bs)
  (Af (Cf ?eP (?PY Nq) Bs)
  (Af (?UN ?eP (?VG (?PO ?m)))
  (Af (?UN ?eP (Cw (?VC ?v (Aa ?v ?cY))))
  (Af (?UN ?eP (Cw (?VC ?dL (Aa ?dL (Aa ?dL (?TW ?dL))))))
  (Af (?UN ?eP (Bd ?dN (?V7 X2 (?VG (?PO ?m))) (Cw (?NB (?V3 ?dL (Aa ?dL ?cY)) (?V3 ?v (?VE ?dL ?dL))))))
  (Af (?UN ?eP (Cw (?NB (B5 Ae) (?V3 ?v ?Z))))
  (?RF (?VG (B5 Ae)))))))))),?_⟩
 ext D
 ext LU
 . ext c6;ext l5;refine ?CS;ext yR
 . ext I;ext c6;ext l5;ext yR
 . ext I;ext I;ext c6;ext l5;ext yR
 . ext I;ext I;ext I;ext rE;ext LE
 . ext I;ext I;ext I;ext I;ext rE;ext L8;refine⟨_,rfl,_,rfl,_,rfl,?B,?x9⟩;have Qz:?OF J1 ?u3:=?y8;have dG:TI K (?u3) ?n2 ?xG:=?a5;generalize ?u3=J2 at Qz dG;ext L7
 . ext I;ext I;ext I;ext I;ext I;ext rE;ext L8;refine⟨_,rfl,_,_,rfl,rfl,_,rfl,_,_,rfl,rfl,_,rfl,_,_,rfl,rfl,_,rfl,_,_,rfl,rfl,?B,?x9⟩;have Qz:?OF J1 ?rZ:=?y8;have dG:TI K (?rZ) ?n2 [b+1,b+1,b+1,b+1]:=?a5;generalize ?rZ=J2 at Qz dG;ext L7
 . ext I;ext I;ext I;ext I;ext I;ext I;ext rE;refine⟨?B,fun D0 yV=>?_⟩;have Xq:?OF J0 ?BP:=?o yV;have e_D:upd J0 D0 ?qY D0=?c ?qY:=Ab;have t_A:=qj4 Xq Od;have s_A:=K0.trans Xq;generalize ?BP=J1 at Xq e_D t_A s_A;refine⟨D0,_,_,rfl,rfl,e_D,?U,?U,?B,?e9⟩;rw[Sg];have s_E:?OF J1 ?FO:=?fC;have e_E:?QP J1 (?bF (3:Int).toNat ?kR)=?NL ?i ?BO:=Ab;have t_E:=qj4 s_E t_A;have s_B:=s_A.trans s_E;generalize ?FO=J2 at s_E e_E t_E s_B;refine⟨_,rfl,_,_,rfl,rfl,_,rfl,_,_,rfl,rfl,_,rfl,?B,?vN⟩;have Om:?OF J2 ?xA:=?uF;have Wv:TI K (?xA) ?nE [b+1,b+2,b]:=?a5;generalize ?xA=J3 at Om Wv;refine⟨_,rfl,_,rfl,_,_,rfl,rfl,_,rfl,_,_,rfl,rfl,?B,?x9⟩;have Qz:?OF J3 ?vR:=?y8;have dG:TI K (?vR) ?n2 [b,b+2,b+1]:=?a5;generalize ?vR=J4 at Qz dG;refine⟨?B,?DG⟩;have s_L:?OF J4 ?EQ:=?o hL;have e_L:upd J4 L (?i ?o2) L=?NL ?i ?o2:=Ab;generalize ?EQ=J5 at s_L e_L;have s_C:=(Om.trans Qz).trans s_L;refine⟨E,L,_,_,rfl,rfl,?NG s_C e_E,.of e_L,?B,?a3⟩;have s_F:?g J5 (?QL J5 (?BO++?o2)):=?aP;have t_0:=qj4 (s_C.trans s_F) t_E;exact k D _ _ ((s_B.trans s_C).free hD) ((s_B.trans s_C).trans s_F) Ab ⟨_,_,rfl,t_0,⟨_,_,rfl,t_0,⟨_,_,rfl,t_0,(?TR ((Qz.trans s_L).trans s_F) (s_L.trans s_F))⟩⟩⟩
 . ext I;ext I;ext I;ext I;ext I;ext I;ext I;ext c6;ext l5;ext LD;refine(?Q3 ?vN);have Om:?OF J0 ?wS:=?uF;have Wv:TI K (?wS) ?nE [b,a]:=?a5;generalize ?wS=J1 at Om Wv;refine ?vH;have Xq:?g J1 (?QL J1 [?eK,?jT]):=?aP;exact k D _ _ (?TO ?GD) (?H4 Xq) Ab ⟨_,_,rfl,qj4 (?EJ Xq) Od,(?OX (Xq) Wv)⟩
 . ext I;ext I;ext I;ext I;ext I;ext I;ext I;ext I;ext LD;ext LE
noncomputable abbrev Ra:Stmt:=top 80
theorem Ep:?s [?II,?dB,"_law_made","_law_carry",?GO,"_law_least"] ?vP (As Ra):=Bf
theorem eG[?u](F:Eo K ?lA ?lA Ra f fd)[?t](HH:Has P w K mg ?f ?pN ?v1 1 (jC K)):?ND ?vP (W4 K):=by
 refine ?NP Ep;obtain⟨l,row,n,rfl,hS,ok,hn,f6,k⟩:=h;obtain⟨nA,okr⟩:=ok;have hp:∀t∈row,0<t:=fun t ht=>(?zR).1;have hd:∀t∈row,t∣IM:=fun t ht=>(?zR).2;have hn0:?uY:=O9m
 have hnM:=vZ n hn f6
 refine⟨_,(Af (?U4 ?n (?RF ?l))
  (Af (?NQ ?g3 ?cR)
  (Af (?NX ?g3 ?n)
  (Af (Cv qc6 rfl (xN (K:=K) ?h T.n_reversed ?aB) (?RE 4 ?g3) (Af (?OE ?g3 (?RI HH (Aa ?L ?cY)))
  (Af (?NQ ?g3 (Bd ?dN (?VG (Bd bR (Bd ?vC ?L ?v) ?aD)) ?m))
  (Ak (?NX ?g3 ?aD)))))
  (Af (Cf (?NR OH ?v) (Ak (?NQ ?g3 (Bd ?dN (Cw ?cY) ?m))) Bs)
  ?h3))))),?_⟩
 ext D
 refine ?N9 (fun σ' H'=>Dg (?TI none) (?bK) (¬?dF=1))
 . ext c6;refine ?dS (fun h1=>?_) (fun h1=>?NC ⟨rfl,rfl,?M⟩);have e1:?dF=1:=?M
   refine⟨_,rfl,k l H (?kT) ?_⟩;unfold Er;rw[?b1 e1];exact hS
 refine Ad4 fun n1=>?_;intro sq;refine ?N9 (fun σ' H'=>Ef fun ?c5=>Dg (?TI ?G) ?a4 (?cN=?eS))
 . exact⟨?a0,fun D hD=>?NC ⟨D,rfl,?aP,Ab⟩⟩
 refine Io fun D H1 s1 hD=>?_;intro sq;refine ?N9 (?RH [?bC,?a8,?G,?a8,none,none] ?mQ)
 . exact(?PU _ ?j6)
 ext aO;refine ?N9 (fun σ' H'=>N8 fun ?c5 ?HM=>?UF ((?eB).2.map ?x))
 . let Bd2:?aN:=fun i σ G=>N8 fun ?c5 ?HM=>Dg (?S8 σ ?x5) ?bQ (G D=?NL ?i ((?x5).2.map ?x))
   refine⟨_,rfl,l,_,rfl,?cG hS,uE (K:=K) (a:=l) (xs:=row.map ?x) Bd2 ⟨D,?j,?j,by rw[qr9,List.drop_length];rfl,s1,by rw[qr9,List.drop_length];exact hD⟩ (fun i σ G _ hz=>?PC hS) ?_ ?_⟩
   . rintro i v σ G hi hv Ee
     ext aC
     obtain⟨D,o4,o5,rfl,g,Dr⟩:=Ee;rw[qa3]at hi hv
     have hx:v=?d (?xB):=by
      rw[qb2,?P4 i]at hv;ext MI;exact ?FX
     subst hx
     have hxm:?xB∈row:=by
      ext MI;exact qe5 _
     have sub:∀t∈?jS,t∈row:=fun t ht=>List.mem_of_mem_drop ht;obtain⟨c0,m0⟩:=Fk hn0 (row:=?jS) ?AJ;obtain⟨cM,mM⟩:=Ug hn0 hnM (row:=?jS) (?AJ) fun t ht=>hd t (sub t ht);have jl:=Mq n (?jS);rw[qh9]at jl;have ej:=HB n row hi;have x0:=hp _ hxm;have xM:=hd _ hxm;generalize ?xB=x at ej x0 xM;generalize ?x5=jc at c0 cM ej Dr jl;obtain⟨a',b',u,w,ea,eb,uv,hg,el,pa,pb⟩:=Ib x0 c0
     have g30:?w4<1073741824:=by
      have:=qk1 x0 (qu3 x jc.1);have:=(?IC).2;omega
     refine ?S1 (fun σ' H'=>σ'=[?bC,?a8,?G,?c (?d jc.1),?eL,?xU]/\G=H');ext aZ
     . exact⟨_,rfl,_,rfl,x,jc.1,rfl,?B5⟩
     ext iC;refine ?S1 (fun σ' H'=>Ef fun(F:Addr)=>Dg (σ'=[?bC,?a8,rS F,?c (?d jc.1),?eL,?xU]) ?n7 (H' F=?NL ?i ((?n6::jc.2).map ?x)));ext aZ
     . refine⟨_,rfl,_,rfl,_,_,rfl,rfl,Qf (m:=101) (n:=101) (?IC).1 (Uz c0 cM).1 ?aM,_,rfl,_,_,rfl,rfl,⟨hg,g30⟩,?B,?e9⟩;have s2:?OF G ?B2:=?fC;have e2:?QP G [?d (?n6)]=?NL ?i [?d (?n6)]:=Ab;generalize ?B2=G2 at s2 e2;refine⟨_,rfl,E,D,_,_,rfl,rfl,.of e2,.of (?w1),?fD,?q3⟩;exact ?PH ⟨F,rfl,?aT (?r6),Ab⟩
     refine Io fun F G2 g2 hF=>?_;intro sq;refine⟨_,rfl,F,?eL,?xU,?_,?d7 g2,?_⟩
     . rw[ej];rfl
     . rw[ej];exact hF
   . rintro σ G ⟨D,o4,o5,rfl,g,Dr⟩;rw[qa3,qh6,qv9]at Dr ⊢;exact ?NC ⟨D,o4,o5,rfl,g,Dr⟩
 refine UX fun D o4 o5 H2 s2 Rx=>?_;intro sq;have jl:=Mq n row;refine ?N9 (fun σ' H'=>Ef fun ?c5=>?UF ((Er row n).map ?x))
 . ext rI;ext aL
   . have h2:1<(?eB).1:=?M
     refine⟨_,rfl,?B,?e9⟩;have s3:?OF H2 ?E5:=?fC;have e3:?QP H2 [?d (?eB).1]=?NL ?i [?d (?eB).1]:=Ab;generalize ?E5=H3 at s3 e3;refine⟨_,rfl,E,D,_,_,rfl,rfl,.of e3,?NG s3 Rx,?fD,?q3⟩;refine ?NC ⟨F,rfl,?EW (?r6),?_⟩;unfold Er;rw[?aA n1,?sF];exact Ab
   . have h2:¬1<(?eB).1:=?M
     refine ?NC ⟨D,rfl,s2,?_⟩;unfold Er;rw[?aA n1,?lU];exact Rx
 refine Io fun D H3 s3 eX=>?_;intro sq;exact⟨_,rfl,k D H3 s3 (.of eX)⟩
noncomputable abbrev Ft:Stmt:=top 9
theorem Oi:?s ?iM ?iM (As Ft):=Bf
theorem Ov[?u](F:Eo K ?mJ ?mJ Ft f fd)[?t][?M7][?yS]:?NI ?iM (E9 K):=by
 refine ?NP Oi;obtain⟨a,x,d,l,xs,rfl,hL,hx,k⟩:=h;obtain⟨us,hq,Yu⟩:=?zY;refine(?V6 (?US D6 (?NB ?n ?h0)) (Nd (La Ed (?US Fm (?TW (Bc ?V ?l ?n ?F))) ?m ?C)));refine⟨_,rfl,_,rfl,a,us,rfl,?f9,x,d,_,rfl,hx,_,rfl,?_⟩;rw[Yu];ext rK
 . obtain⟨i,rfl⟩:∃i,d=?aF:=by cases d<;>first | exact ?bB | (exfalso;simp[belowD]at e)
   cases (show x=?aF from hx);have e':?FM:=e;have h0:0<=i/\i<?g2:=by simpa using e'
   obtain⟨us',v,hq',hv,tv⟩:=LT.get hL h0.1 h0.2;refine⟨_,rfl,_,rfl,a,us',i,v,rfl,rfl,hq',hv,v,_,rfl,?S tv,_,rfl,rfl,?_⟩
   have e2:Di xs (?aF) l=?a6 (?P0 Fi=l):=by
    show ?QF _;rw[e'];simp[Fi]
   rw[e2]at k
   have e3:?a6 (?x (?P0 Fi)=?x l)=?a6 (?P0 Fi=l):=by
    by_cases z:?P0 Fi=l
    . simp[z]
    . simp[z]
   rw[e3];exact k
 . have e2:Di xs d l=false:=by
    cases d with
    | int i =>
      have e':¬?FM:=e;show ?QF false;rw[Bool.eq_false_iff.mpr e'];rfl
    | _=>rfl
   ext iG
noncomputable abbrev Ll:Stmt:=top 32
theorem Xg:?s ?pT ?pT (As Ll):=Bf
theorem X6[?u](F:Eo K ?qL ?qL Ll f fd)[?t][?M7]:?NI ?pT (F4 K):=by
 refine ?NP Xg;obtain⟨i,b,rfl,h0,h1,k⟩:=h;refine(?UR (?TE D6 ?cJ));refine⟨_,rfl,_,rfl,?aF,?aF,b,rfl,rfl,_,rfl,?_⟩;rw[show ?uP=true from belowD_of h0 h1];ext iE;exact k
noncomputable abbrev Q4:Stmt:=top 36
theorem dR:?s ?pL ?pL (As Q4):=Bf
theorem EC[?u](F:Eo K ?qZ ?qZ Q4 f fd)[?t](Gd:Has P w K mg ?f ?pB ?qF 2 (Ir K)):?NI ?pL (U9 K):=by
 refine ?NP dR;obtain⟨v,h,w,f,rfl,hv,hh,hw,k⟩:=h;obtain⟨U6,fN⟩:=T.x_MOST_ROWS;obtain⟨a,us,rfl,hq,Yu,Nm⟩:=?i4
 refine⟨_,(Af (?UP ?gN (DU (Gv (Ga (?RO ?l))) (bM (Bk OH ?h0 (Js (v:=?d 40) ?h fN ?bB) ?C))))
  (?UW (?V4 (B9 (N':=?v7) (cap:=?kY) ?h ?R ?hA (?NA (?RE 0 oR)) ?aH (?NA (?RI Gd ?cJ)))))),?_⟩
 ext D
 refine⟨_,rfl,?g6,?fG,dT h w f,rfl,?wB,hv,_,rfl,?_⟩;refine G9 (by simp[jQ,dT]) ?_;refine⟨_,rfl,a,_,rfl,?f9,_,_,rfl,rfl,_,rfl,?_⟩;refine G9 (?m4) ?_;ext rH
 let Bd1:?a1:=?SA (?NZ [o,iS w])
 refine De (K:=K) (a:=a) (xs:=us) Bd1
  ?dR (?PM _) ?_ ?_
 . ext zC;ext dV;ext z3;obtain⟨hi,b,rfl,hb⟩:=?I1;refine⟨_,rfl,_,rfl,b,w,f i,rfl,?cG hb,hw,?I0⟩;refine⟨?DL,?u4,?Q1 ?fX,Ab,?_,_,rfl⟩;rw[qv7,qb8];rfl
 . ext z1;refine⟨D,?I8,rfl,?uS,?_⟩;rw[?R9 ?I8];exact ?hY
noncomputable abbrev Tx:Stmt:=top 38
theorem gJ:?s ?lI ?lI (As Tx):=Bf
theorem GR[?u](F:Eo K ?n1 ?n1 Tx f fd)[?t](Pe:Has P w K mg ?f ?mH ?t5 2 (Qd K)):?NI ?lI (Qu K):=by
 refine ?NP gJ;obtain⟨u,v,h,d,w,f,g,rfl,hu,hv,hh,hd,hw,hm,k⟩:=h;obtain⟨a,us,rfl,hq,Yu,Nm⟩:=Hf hu;refine(?TY (B9 (N':=[?cD,?dI,?b2]) (cap:=[none,?eJ,?gD]) ?h ?R ?hA (?NA (?RE 0 Ai2)) ?aH (?NA (?RI Pe (?VJ (Aa ?n ?Z))))));ext rH
 let Bd0:?a1:=fun i ys τ H1=>Ef fun as=>B4 ?pZ ?o0 (?d1 H H1 D as w (fun i j=>Aj (fun k=>f i k*g k j) d)) (?NZ [o,?jN,iS w])
 refine De (K:=K) (a:=a) (xs:=us) Bd0
  ?kC (fun i ys τ H1 _ hz=>by obtain⟨as,_,_,R,_⟩:=hz;exact ?dO hq) ?_ ?_
 . rintro i x ys τ H1 hx ⟨as,hal,rfl,R,o,rfl⟩;obtain⟨hi,b,rfl,hb⟩:=?I1;refine⟨_,rfl,_,rfl,_,rfl,b,v,d,w,f i,g,rfl,?dO hb,?DA,hd,hw,fun k j hk hj=>hm i k j hi hk hj,?w3⟩;ext yD
 . ext yG
noncomputable abbrev Q8:Stmt:=top 51
theorem DS:?s ?lQ ?lQ (As Q8):=Bf
theorem eF[?u](F:Eo K ?o4 ?o4 Q8 f fd)[?t][?rG]:?NI ?lQ (w9 K):=by
 refine ?NP DS;obtain⟨a,b,xs,k,ns,rfl,hL,Qi,hb,hnl,kq⟩:=h;refine⟨_,(?UW (Ey (Zl ?h) ?h ?vQ Nt (Aa (B9 (N':=[?cL,?b0]) (cap:=?ET) ?h ?R (?UI (Aa (?RI Bq ?cJ) ?Z)) (?NA (?TV oU oU)) (?NA (?T7 ?n Am)) (?NA (B5 ?cJ))) Ae))),?_⟩;refine⟨_,rfl,_,rfl,a,k,xs,rfl,hL,Qi,fun P H1 hP s1 hP1=>?_⟩;have pl:?IJ:=?tZ;have hnd:=Ka xs k;generalize jR:?jH=sp at hP1 hnl pl hnd kq;have hb1:=?cG hb;have hzn:=NF hnl hnd;have hzl:(?lJ).length=sp.length:=by rw[List.length_zip];omega
 refine⟨_,rfl,P,b,rfl,(?SQ hP1),(?TK hb1),?a3⟩
 refine FI (K:=K) (a:=P) (b:=b) (xs:=?BM) (ys:=?hZ) (n:=sp.length) (by rw[qa3,qa3];omega) (fun i zs τ G=>B4 (?g H1 G) ?B1 ((∃ts:?mZ,zs=ts.map ?bI/\ts.length=?tN/\∀(j:Nat) t,ts[j]?=?c t->∃p:Int × Int,(Rq ((?lJ).take i))[j]?=?c p/\G t=?NL ?p [?d p.1,?d p.2]/\t≠D)) (?OC [o1,o2]))
  ⟨?aP,Ab,⟨[],rfl,rfl,fun j t z=>?EV⟩,?j,?j,rfl⟩ (fun i zs τ G _ hz=>by ext eY;exact⟨?NG g hP1,?h8 hb1⟩) ?_ ?_
 . rintro i x y zs τ G p hx hy ⟨g,Dr,⟨ts,rfl,JQ,hts⟩,o1,o2,rfl⟩ hp;ext M3
   have hz:=WN hnl hi
   have hxv:x=?d (?GI):=by
    ext yN
   have hyv:y=?d (?DW):=by
    rw[qb2,qa0 (show ?xM by omega)]at hy;rw[qa1,qa0 (show ?xM by omega)];simpa using hy.symm
   subst hxv hyv;have ct:=MO hz;generalize ?GI=sv at hz ct;generalize ?DW=nv at hz ct;have gp:?g G (?uZ):=?cB;have hp1:(?uZ) p=?NL ?p [?d sv,?d nv]:=Ab;generalize ?uZ=G1 at gp hp1;have ctl:?tN<=i:=qa5 (tU _) (by rw[qd3];omega);ext ME;ext c6;ext aL
   . have e:¬nv=0:=?M
     rw[?aA e]at ct;refine ?FI;have gt:=gp.trans (?o (o:=?p [?d sv,?d nv]) ht);have ntD:t≠D:=(At (?kB) ht).symm;have hDt:=gt _ _ Dr;have htt:(?DD) t=?NL ?p [?d sv,?d nv]:=Ab;generalize ?DD=G2 at gt hDt htt;refine⟨hDt,?fY,(?d7 gt).turn hD,Ab,⟨ts++[t],?cK,by rw[ct];simp[JQ],fun j t' e2=>?_⟩,_,_,rfl⟩;rw[ct];rw[List.getElem?_append]at e2;split at e2
     . rename_i hj
       obtain⟨p',cY,h2',h3'⟩:=hts j t' e2;exact⟨p',by rw[qb5 ?q9];exact cY,by rw[An h3'];exact gt _ _ h2',h3'⟩
     . rename_i hj
       have hj0:j-ts.length=0:=by
        cases hz:j-ts.length with
        | zero=>rfl
        | succ m=>rw[hz]at e2;simp at e2
       rw[hj0]at e2;have et:t=t':=by simpa using e2
       subst et;refine⟨(sv,nv),?_,?_,ntD⟩
       . rw[qb9 ?q9,show j-?tN=0 by omega];rfl
       . rw[An ntD];exact htt
   . have e:nv=0:=?M
     rw[?b1 e]at ct;rw[ct];exact⟨?kM,?kB,⟨ts,rfl,JQ,fun j t z=>let ⟨p',a1,a2,a3⟩:=hts j t z;⟨p',a1,gp _ _ a2,a3⟩⟩,_,_,rfl⟩
 . rintro zs τ G ⟨g,Dr,⟨ts,rfl,JQ,hts⟩,_⟩;rw[←hzl,qg0]at JQ hts;refine⟨D,ts,cK (Rq (?lJ)),rfl,Dr,(by rw[Rr];exact JQ),fun i t e2=>?_,?e9⟩
   . obtain⟨p,cY,h2',_⟩:=hts i t e2;refine⟨(?z p.1,?d p.2),?_,h2'⟩;unfold cK;rw[qb2,cY];rfl
   . refine kq E _ ((?c0 g).free hE) ((?c0 g).trans (?fC)) ?_;rw[Ab,Ng _ [] (by rw[qn1];exact Yf.mpr (Ai5 hzn)),qn1]
noncomputable abbrev Fg:Stmt:=?R0 55 1
theorem Z7:?s ?dX ?dX (As Fg):=Bf
theorem Qe[?u](F:Eo K ?bW ?wU Fg f fd)[?t](Sw:Has P w K mg ?f ?pS ?sE 2 (Xb K))(Wl:Has P w K mg ?f ?qQ ?mU 1 (y4 K)):Bv P w K mg ?f Ei 3 f fd ?dX ?kI:=by
 refine ?NP Z7;obtain⟨p,u,C,r,b,sv,n,W,s,N,t,rfl,hC,x,hu,m1,m2,hn,hW,k⟩:=h;ext LO
 have hc:?s3:=by
  rcases hC with rfl | rfl
  . ext yL
  . ext yH
 refine⟨_,(Af (?NM (?RI Sw (Aa ?W ?Y)))
  (Ak (Eg (K:=K) ?l (?RI Sw (?NB ?W (?US Wl ?Y)))))),?_⟩
 ext D
 refine⟨_,rfl,p,C,dx,fs,_,rfl,hp,?aS,?e5,l1,_,rfl,r,u,as,n,W,s.1,t,rfl,xa,hu,m1,hn,hW,fun D1 wA H1 Fq s1 x1 n1=>?_⟩;have hp1:=?iS;refine⟨_,rfl,p,C,dx,fs,rfl,hp1,?aS,?e5,O9m,?_⟩;have sx1:?bN p H ?jA:=?TN s1;have Af0:?bN p H1 ?jA:=?f3
 have hu1:Rep K ?jA u (RH t):=by
  refine Rep.t ⟨fun b xs e=>?_,fun b o u e=>?_⟩ (by cases t<;>rfl) hu
  . ext MX
  . ext MX
 have hl1:?C3=fs.length:=Ml l1;have hp2:?jA p=?SK C (?PI fs):=Ab;have x2:=x1.x hp1 Af0;have RL:=xb.x hp sx1
 have UC:∀a,?QX ?jA->?hI:=fun a e=>by
  by_cases hap:a=p
  . rw[hap,Ab]at e;cases e
  . rw[An hap]at e;exact ?nZ e
 generalize zY:?F6=H2 at sx1 Af0 hu1 hp2 x2 RL UC;refine⟨_,rfl,p,C,dx,_,_,rfl,hp2,?aS,?e6,(by ext rL;exact l2),_,rfl,u,t,rfl,hu1,fun u2 H3 s3 hu3=>?_⟩;refine⟨b,u2,bs,n,n,s.2,tnA t,rfl,?wM s3,hu3,m2,hn,hn,fun D2 bs2 H4 Rx s4 x4 n4=>?_⟩;have xF:=?jC s4;have Pb:=xF _ _ hp2;refine⟨_,rfl,p,C,dx,_,rfl,Pb,?aS,?e6,O9m,?_⟩;have hl2:(?H ?fO (?bI D2) (?BS)).length=?C3:=Ml (x:=?kU) (by ext rL;exact l2);have xB:?bN p H4 (upd H4 p (?K C dx (?H ?fO (?eF) (?PI fs)))):=?f3;have f2:?J5:=UC _ (?xW Rx);have dne:D1≠D2:=?PE ?F2 ?GY;ext MJ;refine k D1 D2 _ (?cT (sx1.trans (?eQ xF))) Fq f2 ⟨⟨dx,_,Ab,?_,?_,?_,?fR,O9m⟩,⟨wA,(x2.same xF).x Pb xB,?bR⟩,⟨bs2,x4.x Pb xB,?bR⟩,dne,nN _ Fq,nN _ f2,?pR⟩
 . rw[Aq,?oC,Aq,?dH]
 . rw[Aq,?dH]
 . ext M0;exact l3
 . rw[Aq,?eC,Aq,?eC];exact l4 m hm
 . have h1:=(x2.same s3).there.2 a ha;obtain⟨h2,h3⟩:=n1 a ha;refine⟨h3,?PE h1 ?GY,?_⟩;rcases h2 with h2 | h2
   . exact(na a h2).2.2
   . exact nN a h2
 . obtain⟨h2,h3⟩:=n4 a ha;refine⟨?uO,h3,?_⟩
   . rcases h2 with h2 | h2
     . exact ?tY a h2 (z▸Fq)
     . exact ?F2 (z▸h2)
   . rcases h2 with h2 | h2
     . exact(nb a h2).2.2
     . exact nN a (UC _ (?xW h2))
 . by_cases hap:a=p
   . rw[hap,Ab]at z;cases z
   . rw[An hap]at z;exact x.nn a ha (UC _ (xF.free z))
noncomputable abbrev Lm:Stmt:=Eh ?iR 0
theorem Xh:?s ?pU ?pU (As Lm):=Bf
theorem X7[?u](F:?Q7 ?CH Lm)[?t][?M8][?N8]:Bv P w K mg ?f Ei 3 f fd ?pU (?NH dO):=by
 refine ?NP Xh;obtain⟨H0,p,dx,v,n,w,M,rfl,s0,fp,hp,hv,hn,hw,k⟩:=h;obtain⟨ta,us,rfl,hq0,Yu,_⟩:=?i4
 refine⟨_,(Af (?NM ?n)
  (Af (?NM ?m)
  (Af (?V8 (?US Qk (?TW ?i0)) (?RI Qk (?TW ?i0)))
  (Af (?V8 (?RI Qk ?Z) (?RI Qk ?Z))
  (?UX ?cR))))),?_⟩
 ext D
 have mkL:∀{G1 G2 G3:Hp}{D1 D2 L CG:Addr}{wA iN:?mZ}{m:Nat}{fs:?s2}{G4:Hp}{N:Addr->Prop},wA.length=m->?d1 G1 G2 D1 wA m (?OV 0)->iN.length=m->?d1 G2 G3 D2 iN m (?OV 0)->G3 L=none->?g G3 (?PL L)->fs=?H ?fO (?eF) (?PI [])->G4=upd (upd (?PL L) L (?K Ag CG (?PI []))) L (?K Ag CG fs)->(∀a,N a->G1 a≠none) →
  ?AW/\LX G4 Ag L D1 D2 ?j m m ?dT N:=by
  intro G1 G2 G3 D1 D2 L CG wA iN m fs G4 N hl1 R1 hl2 R2 nL sN hfs YT hN;have hL4:G4 L=?c (?K Ag CG fs):=by rw[YT];exact Ab
  have st:?AW:=fun a o e=>by
   rw[YT,An (At e nL),An (At e nL)];exact sN _ _ e
  clear YT
  have x1:TA G4 D1 wA m m ?f2:=((?EE).same (?o7 st)).congr fun i c _ _=>by
   by_cases z:i=c
   . subst z;simp[Lat.one]
   . ext MS
  have x2:TA G4 D2 iN m m ?f2:=((TA.of R2 hl2).same st).congr fun i c _ _=>by
   by_cases z:i=c
   . subst z;simp[Lat.one]
   . ext MS
  have t1:=(?EE).there;have f2:∀a,?QX G2->?GH:=?PN ?s6;have nN:∀a,?GH->?nN:=?QM hN;refine⟨st,⟨CG,fs,hL4,?u2,?u2,?u2,?fR,?_⟩,⟨wA,x1,?bR⟩,⟨iN,x2,?bR⟩,fun z=>t1.1 ?H9,nN _ ?nC,nN _ (f2 _ ?r9),fun a ha z=>hN a ha (f2 _ (?m7 (st.free z)))⟩
  . ext LL
  . ext M1
  . ext rO;obtain⟨z1,z2,z3⟩:=R1.row i _ ?oI;exact⟨z2,fun z=>t1.2 _ ha ?H9,nN _ z1⟩
  . ext rO;obtain⟨z1,z2,z3⟩:=R2.row i _ ?oI;exact⟨fun z=>t1.1 ?DX,z2,nN _ (f2 _ z1)⟩
 refine⟨_,rfl,_,rfl,p,Ah,dx,_,rfl,hp,?E,?eI,?cK,?_⟩;refine Ge (fun σ' H'=>?oG/\?S9 H (?H ?X (?i8) [])=H') ?_ ?hM;ext iC;refine ?N9 (fun σ' H'=>?oG/\∃fs,fs=?H ?b2 ?BU (?H ?X (?i8) [])/\?wP/\?KQ)
 . refine⟨_,rfl,_,rfl,p,Ah,dx,_,rfl,Ab,?E,?nK,?BJ,?_⟩;exact ?NC ⟨rfl,_,rfl,Ab,?cT ?iY⟩
 ext z2;obtain⟨fs2,hf2,hp2,sx2⟩:=CY;have l2:fs2.length<=2:=by rw[hf2];exact ?AG
 have XF:?g H0 H2:=?H8 s0 fp;refine ?N9 (fun σ' H'=>?oG/\∃(L O1 O2:Addr) (fs:?s2),fs=?H ?eG (?e L) fs2/\?wP/\?bN p H2 H'/\Kp H2 H'/\p≠L/\H2 L=none/\H2 O1=none/\H2 O2=none/\?RZ H' (?nA))
 . refine⟨_,rfl,ta,us,rfl,?z (XF.seq hq0),n,(by rw[Yu]<;>rfl),O9m,fun O1 os1 G1 hl1 R1=>?_⟩;refine⟨_,rfl,ta,us,rfl,?z ((?JH R1.same).seq hq0),n,(by rw[Yu]<;>rfl),O9m,fun O2 os2 G2 hl2 R2=>?_⟩;have s2:=R1.same.trans ?fH;intro L dl nL ndl A02;have sN:?P8 L L:=?BY nL;refine⟨L,dl,Ag,?e O1,?e O2,rfl,?d2,Ab,?JQ⟩;obtain⟨st,lx⟩:=?OO nL;have Pb:=st _ _ (?OU hp2);have TH:p≠L:=At (?OU hp2) nL;refine(?OM _ ?f5);exact ?NC ⟨rfl,L,O1,O2,_,rfl,Ab,?TN (?aT st),?S2 (?aT st),TH,s2.free nL,?nC,?s6 ?r9,lx.x Pb TH ?iY ?c4⟩
 refine K4 fun H3 CY=>?_;intro sq;obtain⟨L,O1,O2,vW,hf3,hp3,sx3,kp3,TH,nL,n1,n2,zS⟩:=CY;have l3:vW.length<=3:=by rw[hf3];exact qa5 ?gE (qj5 l2)
 have s03:?g H0 H3:=sx3.same XF fp;refine ?N9 (fun σ' H'=>?oG/\∃(R O3 O4:Addr) (fs:?s2),fs=?H ?gL (?e R) vW/\?wP/\?CD/\?KY/\p≠R/\H3 R=none/\H3 O3=none/\H3 O4=none/\?RZ H' (fun a=>?KB)/\LX H' Ag R O3 O4 ?j w w ?dT (?nA))
 . refine⟨_,rfl,w,rfl,O9m,fun O1' os1 G1 hl1 R1=>?_⟩;refine⟨_,rfl,w,rfl,O9m,fun O2' os2 G2 hl2 R2=>?_⟩;have s2:=R1.same.trans ?fH;intro R dl nR ndl A02;have sN:?P8 R R:=?BY nR;refine⟨R,dl,Ag,?e O1',?e O2',rfl,?d2,Ab,?JQ⟩;obtain⟨st,lx⟩:=?OO nR;have Pb:=st _ _ (?OU hp3);have VH:p≠R:=At (?OU hp3) nR;have n4:H3 O2'=none:=?s6 ?r9;refine(?OM _ ?i6)
   have y1:?RZ G4 (fun a=>a=O1'\/a=O2'):=zS.more (?aT st) (fun a ha=>?S (by rcases ha with rfl | rfl;exact R1.free;exact n4)) fun a ha=>by
    rcases ha with rfl | rfl
    . obtain⟨_,z,_⟩:=lx.rw;exact ?IW
    . obtain⟨_,z,_⟩:=lx.bk;exact ?IW
   exact ?NC ⟨rfl,R,O1',O2',_,rfl,Ab,?TN (?aT st),?S2 (?aT st),VH,s2.free nR,?nC,n4,y1.x Pb TH ?iY ?c4,lx.x Pb VH ?iY ?c4⟩
 refine K4 fun H4 CY=>?_;intro sq;obtain⟨R,O3,O4,fs4,zW,Pb,VC,kp4,VH,nR,n3,n4,lx4,ly4⟩:=CY;have l4:fs4.length<=4:=by rw[zW];exact qa5 ?gE (qj5 l3)
 have vE:?E3:=VC.same s03 fp;refine⟨?a0,fun nm hnm=>?_⟩;have sn:?OF H4 ?zN:=?o hnm;have yQ:upd H4 nm ?cF nm=?eS:=Ab;have eW:=sn _ _ Pb;generalize ?zN=H5 at sn yQ eW;refine⟨_,rfl,p,Ah,dx,_,rfl,eW,?E,?e4,O9m,?_⟩
 have ex:∀a,?FH->H5 a≠none:=fun a ha=>by
  ext z4
  . rw[yQ];ext l4
  . obtain⟨_,z,_⟩:=ly4.rw;exact ?D9
  . obtain⟨_,z,_⟩:=ly4.bk;exact ?D9
 have z1:?RZ H5 (fun a=>?FH):=lx4.more sn (fun a ha=>ha.elim (fun e=>?S (e▸hnm)) ?z) ex;have z2:LX H5 Ag R O3 O4 ?j w w ?dT ?r5:=ly4.more sn (fun a ha=>?S (ha▸hnm)) fun a ha=>ex a (?z ha);have DG:?bN p H5 (?PK p):=?f3;have s06:?g H0 (?PK p):=DG.same (?E0 sn) fp;have g2:∀a,?HT->?r4:=?PN XF.free;have g3:∀a,?KW->?r4:=?IK;have npn:p≠nm:=At Pb hnm;have LR:L≠R:=fun z=>by obtain⟨_,_,q,_⟩:=zS.ob;rw[z,nR]at q;cases q
 refine k L R nm _ ⟨⟨?i8,dx,_,Ab,?_,?_,?_,?_,?_,?fR,?_,fun M' e=>by cases e;exact ?Q (fun a o e=>by rw[Yx (At e (?DB))];exact s06 _ _ e) hv⟩,⟨O1,O2,O3,O4,z1.x eW TH DG ?c4,z2.x eW VH DG ?c4,g2 _ n1,g2 _ n2,g3 _ n3,g3 _ n4⟩,by rw[An ?HE];exact yQ,s06,⟨fp,g2 _ nL,g3 _ nR,?DB⟩,?KS,⟨hn,hw⟩⟩
 . rw[zW,hf3,hf2];ext aI
 . rw[zW,hf3,hf2];ext aI
 . rw[zW,hf3];ext aI
 . rw[zW];ext aI
 . ext aI
 . rw[zW,hf3,hf2]
   iterate 5 ext M5
   rfl
 . exact qa5 ?gE O9m
noncomputable abbrev Q1:Stmt:=top 71
theorem D8:?s [?a2,?vW,?jD,"parts","order","loop","gauge",?C6,?cL,?b0] ?uB (As Q1):=Bf
theorem DZ[?u](F:Eo K ?qK ?qK Q1 f fd)[?t](PR:Has P w K mg ?f ?n3 ?lE 2 (JC K))(HE:Has P w K mg ?f "times" [?b0,?eR] 1 (dM K)):?NI ?uB (U8 K):=by
 refine ?NP D8;obtain⟨a,b,xs,us,ls,rfl,hL,Qi,hb,hB,hok,kq⟩:=h;obtain⟨_,xu,z,hq,r⟩:=?oO
 refine⟨_,(Af (Wh (N':=[?qJ]) (cap:=?fI) (i:=2) ?eW ?h ?jR ?h ?R ?hA (?NA (?RE 0 XX)) ?aH (fun _ _ _ _=>Si))
  (Af (Cv qc6 rfl (?NN Cm ?n) (?RE 3 ?eW) (Ak (Cv qc6 rfl (?NN Cm ?v) (?NF 4 (Bh (?RE 4 ?eW) (Bh (?RE 5 ?eW) (?UD 6 7)))) (Ak (Cf (?NR Ed ?L) (Ak (gP (Cv qc6 rfl (Ot ?d4) (?NF 2 (?UD 8 9)) (Ak (Hx (?RI PR (?NB (?TX ?m ?g9) (?US HE (?VE ?i2 ?f7)))) (Kn ?m ?g9 Fa)))))) Bs)))))
  ?h3)),?_⟩
 ext D
 cases z;have xul:xu.length=xs.length:=?qP
 refine ?N9 (fun σ' H'=>Hm fun ?c5 ?i9=>En (σ'=[?w,?eT,?G,none,none,none,none,none,none,none]) ?a4 ?qB ?HU (Fr H H' ws (?bF ?eV [])))
 . ext rH
   let Bc9:?a1:=fun i ws τ G=>B4 ?bQ (G D=?gA) (Fr H G ws (?bF i [])) ?fZ
   refine De (K:=K) (a:=a) (xs:=xu) Bc9
    (?QI ⟨rfl,fun i v e=>?G9⟩) (fun i ws τ G _ hz=>by ext eY;exact ?h8 hq) ?_ ?_
   . rintro i x ws τ G hx Ee;ext dV;intro g Dr dd o Hq;have hi:i<xu.length:=?j4;have wl:ws.length=i:=by have:=dd.1;rwa [qe0]at this
     refine ?e9;have g1:?OF G ?KU:=?fC;refine⟨?EY,?cZ,?Q1 ?t7,Ab,?_,_,rfl⟩;rw[qv7];refine Fr.keep (H:=?KU) ((dd.same g1).snoc (g.free hE) Ab) fun c kvs _ e=>?_;ext iH
     . exact e
     . rw[z,?EY]at e;cases e
   . rintro ws τ G ⟨g,Dr,dd,_⟩;rw[xul]at dd;exact ?NC ⟨D,ws,rfl,g,hD,Dr,dd⟩
 refine iT fun D ws H1 s1 nD hD dd=>?_;intro sq;refine ?N9 (fun σ' H'=>uV fun ?i9 ?FP=>B4 (σ'=?B6) ?a4 ?HU (Fr H H' ws (Ni ?eV ls)))
 . refine(?OS b (?SQ (?wQ)))
   let Bc8:?aN:=fun i σ G=>uV fun ?i9 ?FP=>En (σ=?B6) ?bQ (G D=?gA) (Fr H G ws (?mW)) (Zy ?eV (?mW))
   refine ?jG (K:=K) (a:=b) (xs:=us) Bc8
    ⟨ws,_,_,_,_,_,_,_,rfl,s1,hD,dd,Zy.first _⟩ (fun i σ G _ hz=>by obtain⟨_,_,_,_,_,_,_,_,_,g,_⟩:=hz;exact ?NG g hb) ?_ ?_
   . rintro i v σ G hv Ee
     ext aC
     revert σ;ext MB;have hi:=?fJ;have h0:=hB.1;ext MA
     ext MT;have pok:=hok ps (qb7 hps);have pl:=rP.len
     have mH:Ni ?eV (ls.take ?dK)=Vg (?mW) ps:=by
      unfold Ni;rw[qh8,hps,qt0];rfl
     generalize ?mW=lf at dd bW mH;refine(?OS pa (?TK ?IQ))
     let Bc7:?aN:=fun j σ G=>qZ fun ?i9 (o2 o3 o4 o5 o6 o7:?cV)=>En (σ=[?w,?eT,?G,rS pa,o2,o3,o4,o5,o6,o7]) ?bQ (G D=?gA) (Fr H G ws (?pI)) (Zy ?eV (?pI))
     refine ?jG (K:=K) (a:=pa) (xs:=pu) Bc7
      ?C7 (fun i σ G _ hz=>by obtain⟨_,_,_,_,_,_,_,_,g,_⟩:=hz;exact ?IQ) ?_ ?_
     . rintro j v σ G hv Ee
       ext aC
       revert σ;ext MH;obtain⟨p,hp,pv⟩:=rP.get hv;obtain⟨t,c1,c2,c3,rfl,et,e1,e2,e3,nec⟩:=?uQ g;have pk:=pok p (qb7 hp)
       have ejk:Vg lf (?gQ (j+1))=JO (?pI) p:=by
        unfold Vg;rw[qh8,hp,qt0];rfl
       generalize ?pI=lg at dd bW ejk
       have e20:∃kvs,H c2=?c (.dK kvs):=by
        obtain⟨t',_,c2',_,q1,q2,_,q4,_⟩:=pv;cases q1;have:=g _ _ q2;rw[et]at this;ext rS;ext rS;injection this with _ this;injection this with _ this;ext rS;ext rS;exact⟨_,by rw[this];exact q4⟩
       refine⟨t,_,rfl,?pV,rfl,_,_,rfl,_,_,rfl,_,_,rfl,_,_,rfl,rfl,?_⟩;ext c6;ext aL
       . have h1:?nI:=?M
         have eP:JO lg p=p.2.2.1.foldl (lift1 ?kL) lg:=?b1 h1;rw[eP]at ejk;have nDc:c2≠D:=fun z=>by rw[z,Dr]at e2;cases e2
         refine ?S ⟨c2,?nW,e2,?oA⟩;refine(?PT c2 ?nW)
         let Bc6:?aN:=fun m σ G2=>N8 fun ?i9 (o6 o7:?cV)=>Hn (σ=[?w,?eT,?G,rS pa,?c (?d p.1),rS c1,rS c2,rS c3,o6,o7]) (G2 c2=?c (?O9 ?nW)) (G2 D=?gA) (Fr H G2 ws (?nJ)) (Zy ?eV (?nJ)) ((∀c q,c≠c2->?jK->G c=?gP->G2 c=?gP))
         refine Uq (d:=c2) (o:=o) (kvs:=?nW) Bc6
          ⟨ws,_,_,rfl,Ab,by rw[An nDc.symm];exact Dr,?_,bW,fun c q n1 _ e=>by rw[?jI];exact e⟩ (fun i σ G _ hz=>by obtain⟨_,_,_,_,e,_⟩:=hz;exact e) ?_ ?_
         . refine ?A1;ext iH
           . exact e
           . obtain⟨_,q⟩:=e20;rw[z,q]at e0;cases e0
         . rintro m kk x σ G2 pp hx Ee hpp
           ext aC
           ext MC;ext rN;obtain⟨x0,x1⟩:=pk.gk q (qb7 hq)
           have emk:?R6 (m+1)=lift1 ?kL (?nJ) q:=by
            rw[qh8,hq,qt0];rfl
           generalize ?nJ=lh at dd bW emk;have wl:ws.length=xs.length:=dd.1.trans bW.1;have XC:?g G2 (upd G2 pp (?p [?d q.1,?d q.2])):=?o hpp;refine(?NT pp ?bY);obtain⟨v,hv⟩:∃v,ws[?f4]?=?jN:=?HS
           obtain⟨c,rfl,nc,hc⟩:=dd.2 _ v hv
           have hat:aY ws q.1=?NL ?e c:=by
            have:=Bn hv
            ext MK
           have nc3:c3≠D:=fun z=>by rw[z,Dr]at e3;cases e3
           have e33:=XC _ _ (hk _ _ nec.symm nc3 e3);have lc:=bW.at ?f4;refine⟨_,rfl,_,rfl,D,ws,_,_,rfl,rfl,?NG XC EW,hat,_,rfl,_,rfl,q.2,c3,?kL,rfl,e33,qa5 pk.fl.len ?aM,pk.mul q (qb7 hq),fun T G4 nT s4 hT=>?_⟩;refine⟨c,T,_,_,rfl,?z (s4 _ _ (XC _ _ hc)),hT,qa5 lc.len ?aM,qa5 (pk.fl.times q.2).len ?aM,fun E G5 nE s5 hE=>?_⟩;have s15:=?SU XC.trans s5;refine⟨_,rfl,_,rfl,D,ws,_,_,rfl,rfl,?B4,by rw[wl];have:=Ju (l:=xs.length) (i:=?f4) O9m;ext MK,?_⟩;refine⟨_,_,_,rfl,?_,Ab,emk▸ ?_,emk▸bW.lift1 pk.fl q,fun d r n1 n2 e=>?_⟩
           . rw[An nDc];exact s15 _ _ hc2
           . refine Fr.keep (H:=G5) ((dd.same s15).set ?_ hE ?f4) fun d kvs _ e=>?_
             . cases e:H E with
               | none=>rfl
               | some r =>
                 have:=(XC.trans s4) _ _ (hk E r (?RC hc2).symm (?RC EW).symm (g _ _ e));rw[nE]at this;cases this
             . ext iH
               . exact e
               . rw[z,?B4]at e;cases e
           . rw[An n2];exact s15 _ _ (hk d r n1 n2 e)
         . rintro σ G2 Ee;ext MC;rw[Rr,qg0,←ejk]at dd bW;refine⟨hc2,ws,_,_,_,_,_,_,rfl,fun c r e=>?_,by rw[An nDc.symm];exact EW,?A1,bW⟩
           . by_cases z:c=c2
             . subst z;have:=g _ _ e;rw[e2]at this;cases this;exact Ab
             . rw[An z];exact hk c r z (At e nD) (g _ _ e)
           . ext iH
             . exact e
             . rw[z,hc2]at e;cases e
       . have h1:¬?nI:=?M
         have eP:JO lg p=lg:=?aA h1;rw[←ejk.trans eP]at dd bW;exact ?C7
     . ext bO;ext MH;rw[pl,qg0,←mH]at dd bW;exact⟨ws,_,_,_,_,_,_,_,rfl,g,Dr,dd,bW⟩
   . ext bO;ext MB;rw[hB.1,qg0]at dd;exact ?NC ⟨ws,_,_,_,_,_,_,_,rfl,g,Dr,dd⟩
 refine Ab5 fun ws o1 o2 o3 o4 o5 o6 o7 H2 s2 Rx dd=>?_;intro sq;exact⟨_,rfl,kq D ws H2 nD s2 Rx dd⟩
noncomputable abbrev bK:Stmt:=top 81
theorem Iu:?s [?vD,?mL,?dB,?EG,?KK,?I7,?x1] ?tK (As bK):=Bf
theorem OL[?u](F:Eo K ?lR ?lR bK f fd)[?t](Px:Has P w K mg ?f ?lA ?vP 2 (W4 K)):?NI ?tK (JB K):=by
 refine ?NP Iu;obtain⟨t,kd,n,c0,c1,c2,c3,low,high,rfl,due,h0,h9,hn,f6,nA,oJ,k⟩:=h;have LY:=hr.u8;obtain⟨c,l,h,et,ec,el,eh⟩:=due
 refine⟨_,(Ap1.h (lE (i:=6) (Hx ?l (?NF 3 (Bh (?RE 3 ?g7) (?UG ?g7 ?g7)))) ?g7 ?h ?jR (sU (K:=K) (Fh ?n5 (Fh ?n5 (Fh ?n5 (Fh (?OD [1]) (Fh (?OD [2]) (Fh (?OD [3]) (Fh (?OD ?xI) (Fh ?n5 (Fh (?OD [0]) sW))))))))) ?n ?F)
  (Af (Wh (N':=[?kS,?u5,?x1]) (cap:=[none,none,?c 6]) (i:=3) ?g7 ?h ?jR ?h ?R (?OB ?cY) (?NA (?TV OR OR)) ?aH (?NA (Bd By ?n (tV (K:=K) PySem.F.plainAttrs_tuple PySem.F.slot_tuple_count PySem.F.type_tuple_count (kmt_count (K:=K) LY) ?m ?aB))))
  (Af (Cf (?NR X3 ?n) (Ak (?P7 ?g7 (?RI Px (Aa ?L ?Z)))) Bs)
  (Af (?U4 ?n (Ak (?OE ?g7 (?RI Px (Aa ?aD ?Z)))))
  (?RF (B5 (?V2 ?v)))))))),?_⟩
 refine ?N9 (?RH [?bG,?jU,?a8,?c8,?bC,rS h,none] ?bK)
 . exact⟨_,rfl,t,_,rfl,?pV,rfl,_,_,rfl,_,_,rfl,_,_,rfl,rfl,?j6⟩
 ext aO;refine ?N9 (fun σ' H'=>Ef fun ?DK=>Dg (?TA ?c8) ?a4 (TI K H' ?t0 ?wW))
 . refine⟨?a0,fun q0 h0'=>?_⟩;have s0:?g H (?u0):=?o h0';have t0:?Q6 ?u0 ?kR:=?a5;generalize ?u0=J0 at s0 t0;refine⟨?a0,fun q1 cY=>?_⟩;have s1:?OF J0 ?v9:=?o cY;have t1:?Q6 ?v9 ?nE:=?a5;generalize ?v9=J1 at s1 t1;refine⟨?a0,fun q2 h2'=>?_⟩;have s2:?OF J1 ?yA:=?o h2';have t2:?Q6 ?yA ?n2:=?a5;generalize ?yA=J2 at s2 t2;refine⟨?B,fun q3 h3'=>?_⟩;have s3:?g J2 (?uC):=?o h3';have t3:TI K (?uC) (?e q3) [1]:=?a5;generalize ?uC=J3 at s3 t3;refine⟨?B,fun q4 h4'=>?_⟩;have s4:?g J3 (?x6):=?o h4';have t4:TI K (?x6) (?e q4) [2]:=?a5;generalize ?x6=J4 at s4 t4;refine⟨?B,fun q5 h5'=>?_⟩;have s5:?g J4 (?vJ):=?o h5';have t5:TI K (?vJ) (?e q5) [3]:=?a5;generalize ?vJ=J5 at s5 t5;refine⟨?B,fun q6 h6'=>?_⟩;have s6:?g J5 (?sM):=?o h6';have t6:TI K (?sM) (?e q6) ?xI:=?a5;generalize ?sM=J6 at s6 t6;refine⟨?a0,fun q7 h7'=>?_⟩;have s7:?OF J6 ?xL:=?o h7';have t7:?Q6 ?xL (?e q7):=?a5;generalize ?xL=J7 at s7 t7;refine⟨?B,fun q8 h8'=>?_⟩;have s8:?g J7 (?w8):=?o h8';have t8:TI K (?w8) (?e q8) [0]:=?a5;generalize ?w8=J8 at s8 t8;refine⟨?B,fun O hO=>?_⟩;have sO:?OF J8 ?I3:=?o hO;have eO:upd J8 O (?p ?lT) O=?NL ?p ?lT:=Ab;generalize ?I3=J9 at sO eO
   have hat:∃q,aY (?lT:?dA) kd=?c ?t0/\TI K J9 ?t0 ?wW:=by
    ext LX
    ext LU
    . exact⟨q0,rfl,qj4 ((((((((?OA s1 s2).trans s3).trans s4).trans s5).trans s6).trans s7).trans s8).trans sO) t0⟩
    . exact⟨q1,rfl,qj4 (((((((?OA s2 s3).trans s4).trans s5).trans s6).trans s7).trans s8).trans sO) t1⟩
    . exact⟨q2,rfl,qj4 ((((((?OA s3 s4).trans s5).trans s6).trans s7).trans s8).trans sO) t2⟩
    . exact⟨q3,rfl,qj4 (((((?OA s4 s5).trans s6).trans s7).trans s8).trans sO) t3⟩
    . exact⟨q4,rfl,qj4 ((?S6 s5).trans sO) t4⟩
    . exact⟨q5,rfl,qj4 (((?OA s6 s7).trans s8).trans sO) t5⟩
    . exact⟨q6,rfl,qj4 ((?OA s7 s8).trans sO) t6⟩
    . exact⟨q7,rfl,qj4 (?OA s8 sO) t7⟩
    . exact⟨q8,rfl,qj4 sO t8⟩
   obtain⟨q,hq,tq⟩:=hat;refine⟨_,rfl,O,_,_,_,rfl,rfl,.of eO,hq,?_⟩;exact ?NC ⟨q,rfl,(((((((((s0).trans s1).trans s2).trans s3).trans s4).trans s5).trans s6).trans s7).trans s8).trans sO,tq⟩
 refine Io fun q H1 s1 tq=>?_;intro sq;have ec1:=?cG ec;refine ?N9 (?UT (?TA ?G) [?UJ c0 0,?UJ c1 1,?UJ c2 2,?UJ c3 3])
 . refine(?NU c (?TK ec1))
   let Bc5:?a1:=fun i ys τ G=>B4 (?g H1 G) ?j2 (ys=(?tL i)) (?OC [o1,o2,?c7])
   refine Ux (K:=K) (a:=c) (xs:=?CQ) Bc5
    ⟨?aP,Ab,rfl,?j,?j,rfl⟩ (?PG ec1) ?_ ?_
   . rintro i x ys τ G p hx Ee hp;revert τ;refine pH ?_;intro g Dr yl o1 o2 Hq;have hi:i<4:=?j4
     have hx':∃ci,x=?d ci/\?tL ?dK=?tL i++[?UJ ci ?a9]:=by
      match i,hi,hx with
      | 0,_,hx=>exact(?R8 c0)
      | 1,_,hx=>exact(?R8 c1)
      | 2,_,hx=>exact(?R8 c2)
      | 3,_,hx=>exact(?R8 c3)
     obtain⟨ci,rfl,mH⟩:=hx';have ul:ys.length<=4:=by rw[yl,qd3];exact Nat.min_le_right ..
     have gp:?g G (?zW):=?cB;have hp1:upd G p (?p [?aF,?d ci]) p=?NL ?p [?aF,?d ci]:=Ab;generalize ?zW=G1 at gp hp1;ext ME;obtain⟨aq,eaq,sq⟩:=?nO (qj4 (?kM) tq);cases eaq;refine⟨_,rfl,_,rfl,⟨q,_,rfl,sq⟩,_,rfl,Fi ?wW,?kO,?kO,rfl,TI.mk sq,rfl,?uT,_,_,rfl,rfl,?kB,?cZ,?Q1 ?kM,Ab,?_,_,_,rfl⟩;rw[mH,←yl];rfl
   . ext z5;exact ?NC ⟨D,rfl,g,by rw[Dr,yl];rfl⟩
 ext M4;refine ?N9 (fun σ' H'=>Ef fun(l':Addr)=>Dg (?SY h) ?oX (SqL K H' l' ((if kd<2 then Er low n else low).map ?x)))
 . ext rI;ext aL
   . have h2:kd<2:=?M
     exact⟨_,rfl,_,rfl,l,low,n,rfl,?lL el,nA,hn,f6,fun l' H' g z=>?NC ⟨l',rfl,g,?KI⟩⟩
   . have h2:¬kd<2:=?M
     exact ?NC ⟨l,rfl,?kT,by rw[?lU];exact ?lL el⟩
 refine Io fun l' H3 s3 el'=>?_;intro sq;have s13:=?zI s3;refine ?N9 (fun σ' H'=>Ef fun(h':Addr)=>Dg (?SY h') (?T1 H3) (SqL K H' h' ((if kd=2 then Er ?bH n else high).map ?x)))
 . ext c6;ext aL
   . have h2:kd=2:=?M
     exact⟨_,rfl,_,rfl,h,?bH,n,rfl,?AD,oJ,hn,f6,fun h' H' g z=>?NC ⟨h',rfl,g,?KI⟩⟩
   . have h2:¬kd=2:=?M
     exact ?NC ⟨h,rfl,?kT,by rw[?lU];exact ?AD⟩
 refine Io fun h' H4 s4 eh'=>?_;intro sq;refine⟨_,rfl,_,rfl,_,rfl,?B,fun t' ht'=>?_⟩;have s5:?g H4 (upd H4 t' (?p [?fB,?e l',?e h'])):=?o ht';exact k t' _ (?SU s13.trans s5) ⟨D,l',h',Ab,?NG (?jZ) hD,(?jL).seq el',s5.seq eh'⟩
noncomputable abbrev gO:Stmt:=top 8
theorem jG:?s ?iM ?xV (As gO):=Bf
theorem sZ[?u](F:Eo K ?r3 ?r3 gO f fd)[?t][?yS](Np:Has P w K mg ?f ?DP [?a2,?wF] 1 (Of K))[?LV]:?NO ?xV (jD K):=by
 refine ?NP jG;obtain⟨a,th,d,xs,rfl,hL,hd,k⟩:=h;obtain⟨j9,j5,Z9⟩:=T.x_FACE_COUNTS;have LY:=hr.u8
 refine⟨_,(Af (?UP ?gN (DU (Gv (Ga (?UC ?n (Ig (v:=.ty ?oE) rfl ?GW Le rfl)))) (bM (Bk (?NN Yn LY) ?i0 (Js (v:=?e j9) ?h j5 rfl) rfl))))
  (Af (?NQ jG.nd (?RI Fm ?Y))
  (Af (?UP Gv (Ga (?V4 (B9 (N':=["face",?a2,"level"]) (cap:=[none,?iP,?gD]) ?h ?R (?NN Wk ?n) (?NA (?RE 0 Ai4)) ?aH (?NA (?RI Cz (?VF ?l (Aa (Bd Nf ?m Am) Ae))))))))
  (?RF (Ah0 (La X3 ?m Am ?C) (Nd (?US Np ?cJ))))))),?_⟩
 ext D
 refine⟨_,rfl,_,_,d,rfl,.inr (.inr (.inr (.inl rfl))),hd,_,rfl,?_⟩;cases d with
 | non=>ext iD
 | bl b=>ext iD
 | int i=>ext iD
 | str z=>ext iD
 | lst es=>ext iD
 | tup ds =>
   obtain⟨pa,us,rfl,hq,r⟩:=id hd;have ul:?OT ds.length:=r.length;refine G9 (by simp[jQ]) ?_;refine⟨_,rfl,pa,us,rfl,?S hq,?d ?JB,Fi [0,2,3,4],rfl,?S ⟨_,_,rfl,Z9 H,?rB⟩,(?uT),_,rfl,?_⟩;rw[ul]
   have cnt:(! ?KA ?IR)=! ?q0:=by
    have:?KA (?IR)=?q0:=by
     simp only[Fi,qc8,qy0,qp2,List.any_nil,eqD,cO];rw[qn3];simp only[qr5,qx2,Bool.or_false];omega
    rw[this]
   by_cases hc:?q0=true;ext aZ
   . have hc':?q0=false:=by simpa using hc
     refine AJ (by rw[?dH,cnt,hc'];rfl) ?_;have e2:?zF:=by rw[Py];simp[hc']
     rw[e2]at k;ext iD
   refine G9 (by rw[?dH,cnt,hc];simp) ?_;have hn4:ds.length<=4:=(UL hc).1;refine⟨_,rfl,_,ds,rfl,?S hd,?_⟩;refine(?NU pa ?JI)
   let Bc4:?a1:=fun i ys τ H1=>B4 ?k5 ?k7 (ys=((ds.take i).map fun e=>?fA (?AT))) (Ef fun o=>τ=[o,?w,?NL ?d (?iB)])
   refine Uw (K:=K) (a:=pa) (xs:=us) Bc4
    ?dR (fun i ys τ H1 _ hz=>by ext rW;exact s1.seqT hq) ?_ ?_
   . ext zC;ext dV;intro s1 Fq hys o Hq;have hi:i<us.length:=?j4;obtain⟨e,he,re⟩:=r.getV hx;refine⟨_,rfl,_,rfl,_,rfl,_,_,rfl,rfl,a,x,e,_,xs,rfl,?gM,?Q s1 re,?_⟩;refine⟨Fq,?c9 (by rw[hys,qa3,qd3];omega),?w6,Ab,?_,_,rfl⟩;rw[qh8,he,qb8,hys];rfl
   . rintro ys τ H1 ⟨s1,Fq,hys,_⟩;rw[ul,qg0]at hys;have A36:ys=(ds.map ?j9).map ?fA:=by rw[hys,ql5];rfl
     rw[A36]at Fq;refine⟨D,_,rfl,?uS,_,rfl,?_⟩;have An5:(ds.map ?j9).all id=ds.all ?j9:=by rw[List.all_map];rfl
     by_cases ha:(ds.all ?j9)=true;ext aZ
     . have ha':(ds.all ?j9)=false:=by simpa using ha
       refine AJ (by rw[An5,ha'];rfl) ?_;have e2:?zF:=by rw[Py];rw[ha',hc];rfl
       rw[e2]at k;exact ?hY
     refine G9 (by rw[An5,ha];simp) ?_;have e2:?AK=(?a6 (?iB<2) || L7 xs (ds.map UZ)):=by rw[Py];rw[ha,hc];rfl
     rw[e2]at k;ext rI;ext aL
     . have h2:(?a6 (?iB<2))=true:=h1;rw[h2]at k;exact ?hY
     . have h2:(?a6 (?iB<2))=false:=?M
       rw[h2]at k;have hint:=fS ha
       have tv:TI K H1 (?e pa) (ds.map UZ):=by
        have:=?Q s1 hd;rw[hint]at this;exact this
       refine⟨_,rfl,_,rfl,a,_,xs,ds.map UZ,rfl,?gM,tv,by simpa using hn4,?_,?hY⟩;intro f hf;rw[qf2]at ha
       have hm:L2.D.int f∈ds:=by
        rw[hint];exact qd7.mpr ⟨f,hf,rfl⟩
       have:=ha _ hm;simp only[Di,qd2,qp7]at this;obtain⟨⟨f0,f1⟩,f2⟩:=this;refine⟨f0,f1,?_⟩;rw[qa3];rw[BX,BX]at f2;have h3:¬?iB<2:=?bJ
       rw[BX]at h3;omega
noncomputable abbrev Tz:Stmt:=top 13
theorem gK:?s ?m1 ?m1 (As Tz):=Bf
theorem GS[?u](F:Eo K ?m0 ?m0 Tz f fd)[?t][?LV][?yT]:?NO ?m1 (W7 K):=by
 refine ?NP gK;obtain⟨a,xs,k,p,n,rfl,hL,kq⟩:=h;refine(?V6 (?US Cz (?VJ (Aa ?m ?Y))) (Lu (?US Fn ?cY) (Nd (La Mp ?v Am ?C))));refine⟨_,rfl,_,rfl,_,rfl,a,?d p,?d p,k,xs,rfl,hL,rfl,_,rfl,?_⟩;ext rK
 . refine⟨_,rfl,_,?d n,rfl,rfl,_,rfl,?_⟩;refine ?CS;refine⟨_,rfl,rfl,?_⟩
   have e2:?AA=! ?a6 (?x n=?x 0):=by
    unfold N2;rw[e];by_cases z:n=0
    . subst z;simp
    . simp[z]
   rw[e2]at kq;exact kq
 . have e2:?AA=false:=by unfold N2;simp[e]
   rw[e2]at kq;exact kq
noncomputable abbrev Fw:Stmt:=Eh ?kW 4
theorem D9:?s [?aG,"i","first","j","at","quotient"] ?vO (As Fw):=Bf
theorem Oy[?u](F:Eo K ?vA ?zM Fw f fd)[?t][?yI]:?TF ?vO Kg:=by
 refine ?NP D9;obtain⟨H0,p,q,M,n,W,t,cnt,s,i,f,rfl,x,hi,hf,hif,hds,ok,k⟩:=h;ext rQ;obtain⟨r,b,lx,_⟩:=x.ex;ext eX
 refine⟨_,(Ak (Cv qc6 rfl (z9 ?h ?b9 (?NB ?m ?kA)) (?RE 3 D9.nd) (Af (?P7 D9.nd (?SV ?W))
  (Af (?OE D9.nd (Bd Ko (?TX ?c2 ?L) (?TX (?SV ?W) ?L)))
  (?UZ (?NR Mp ?aD) (?V3 Nc (Aa ?n (?NB ?v (N1 Iy ?aD))))))))),?_⟩
 refine⟨_,rfl,_,rfl,p,Ad,dx,fs,_,rfl,hp,?J,?eN,l3,q,_,rfl,?KD,(f:Int),(cnt:Int),?xH,O9m,?_⟩;rw[show(((cnt:Nat):Int)-?JW).toNat=cnt-f by omega];clear lx hp l1 l2 l3 l4 l5;refine D7 (lo:=(f:Int)) (n:=cnt-f) (fun d σ G=>N8 fun o3 o4 o5=>σ=[?y,?bD,iS f,o3,o4,o5]/\?P6 G (?mO)) ⟨?j,?j,?j,rfl,x⟩ ?_ ?_
 . rintro d σ G hd Ee;revert σ;refine ?nQ;intro o3 o4 o5 y Hq;ext z9;ext eX;ext rR;obtain⟨h1,h2,h3⟩:=hds ?dU O9m O9m;have bo:=?J4;have ej:?JW+?GL=((?uH:Nat):Int):=O9m
   rw[ej];have hji:f+d≠i:=O9m
   have er:(?mO).1 ?dU=s.1 ?dU:=Xe t i f s d _ hji;ext yX;obtain⟨cj,_,zZ,_,hcj⟩:=?NN ?lH (show f+d<n by omega);rw[er]at hcj;refine⟨_,rfl,p,Ad,dx,fs,_,rfl,hp,?J,?eN,l3,_,rfl,q,_,_,_,rfl,rfl,?s1,?kD,?_⟩;refine⟨_,rfl,p,Ad,dx,fs,_,rfl,hp,?J,?bM,l1,_,rfl,r,_,_,_,rfl,rfl,?dQ,?iW,_,rfl,ci,_,_,_,rfl,rfl,mD,?lN,_,rfl,p,Ad,dx,fs,_,rfl,hp,?J,?bM,l1,_,rfl,r,_,_,_,rfl,rfl,?dQ,Bn zZ,_,rfl,cj,_,_,_,rfl,rfl,hcj,?lN,_,_,rfl,rfl,?KO,?_⟩;have hsx:∀G',?P6 G' (?GR i ?dU (-(?lB)) (?mO))->?P6 G' (?t2 t i f s (d+1)):=fun G' z=>z.re (by rw[Lat.shrS,er]);have hq:(?lB).natAbs<2 ^ big:=Lat.fdiv_small h2 (?i7 i _ hi h1);refine Al (fun σ' H'=>σ'=[?y,?bD,iS f,?c (?d (?uH:Int)),?c (?d ((t ?dU:Nat):Int)),?NL ?d (?lB)]/\G=H') ?_ fun key=>?NC ⟨by rw[←?CL];rfl,rfl⟩;ext iC;generalize ?lB=qq at hsx hq;ext c6;ext yZ
   . refine⟨_,rfl,p,dx,fs,rfl,hp,?hG,_,rfl,_,rfl,_,rfl,_,rfl,?B,?oF⟩;have s1:?OF G ?u9:=?hS;have hT:?OQ ?u9 (?D7):=?kE
     generalize ?u9=G1 at s1 hT;refine⟨p,?hQ,Ad,r,b,_,n,W,_,_,?D7,rfl,?iO,?sS,hT,⟨hi,O9m,?PE hji z.symm,?PB (by rw[qc4];exact hq) (?i7 _ _ O9m hc)⟩,⟨O9m,hi,hji,?PB (by rw[qc4,qc4];exact hq) (bo.2 _ _ hi hc)⟩,O9m,O9m,?oJ⟩;exact⟨_,_,_,rfl,hsx _ (y.redo s1 sx n1 n2 z)⟩
   . have h5:qq=0:=?p2
     subst h5;exact⟨_,_,_,rfl,hsx _ (y.re (Lat.addS_zero _ _ _).symm)⟩
 . ext bO;refine ?nQ;intro o3 o4 o5 y Hq;exact k _ y
noncomputable abbrev M9:Stmt:=Eh ?iR 4
theorem Ie:?s [?aG,"i","j",?f6,?dI,?hT] ?wG (As M9):=Bf
theorem b8[?u](F:Eo K ?wA ?H3 M9 f fd)[?t](Jw:?O8 P Ag)(L1:?O7 P Ag):?TF ?wG y6:=by
 refine ?NP Ie;obtain⟨H0,p,L,R,nm,n,w,m,i,j,l,r,f,rfl,x,hij,hj,mn,mw,ok,k1,k2⟩:=h;obtain⟨RC,rC⟩:=x.sm;ext kZ;ext yQ;obtain⟨p1,p1'⟩:=ok.p1;obtain⟨p2,p2'⟩:=ok.p2
 refine⟨_,(Af (?NX Ie.nd ?c2)
  (Af (?P7 Ie.nd ?fN)
  (Ak (Cf (?NR Mp (Bd Gb ?L ?v)) (Af (Bx (?ST (?VF ?m ?gX)))
  (Af (?OE Ie.nd (Dj ?W ?cU L1 hr (?VF ?m (Aa ?v ?g8))))
  (Af (Bx (?ST (?UU ?m (N1 Iy (Bd Ko (Bd ?vC ?e2 ?L) ?e2)))))
  (Af (Hx ?e2 (Kn ?W ?n Fa))
  (Ak (Hx (Bd ?vC (Bd Ko ?v ?e2) ?L) (Kn ?W ?m Fa))))))) Bs)))),?_⟩
 ext D
 refine⟨_,rfl,p,Ah,HV,HK,_,rfl,hpa,?E,?e4,VR,_,rfl,nm,_,_,_,rfl,rfl,?y0,?QV (show i<m by omega),?_⟩;refine⟨_,rfl,p,Ah,HV,HK,_,rfl,hpa,?E,?e4,VR,_,rfl,nm,_,_,_,rfl,rfl,?y0,?QV hj,?_⟩;refine Ge (fun σ' H'=>σ'=[?y,?cW,?h1,?NL ?d (f i),?NL ?d (f j),none]/\?bK) ?_ ?hM;ext aO;refine(?PJ p1);ext aL;ext aZ
 . have h2:f j%f i=0:=?M
   exact k1 (qt9 h2)
 ext D
 obtain⟨dl,fl,hL,_,_,_,m4,_⟩:=lx.ob;refine ?N9 (fun σ' H'=>σ'=[?y,?cW,?h1,?RR (f i),?RR (f j),none]/\∃r1 b1,?RY H' ?mB/\LX H' Ag L r1 b1 ?j n n ?mB (fun a=>a=nm\/a=r2\/a=b2)/\?TM r/\H0 r1=none/\H0 b1=none)
 . refine⟨_,rfl,p,Ah,HV,HK,_,rfl,hpa,?E,?f5,yH,L,dl,fl,rfl,hL,?KM,_,rfl,_,rfl,?B,?oF⟩;have s1:?OF H ?s4:=?hS;have hT:?OQ ?s4 (?BC):=?kE
   generalize ?s4=G1 at s1 hT;refine⟨L,?hQ,Ag,r1,b1,_,n,n,l,_,?BC,rfl,?d2,?sS,hT,?DM,?DM,O9m,O9m,?oJ⟩;obtain⟨y1,y2⟩:=x.left lx ly f3 f4 s1 sx n1 n2 z;exact ?NC ⟨rfl,r',b',y1,z,y2,?v5 n1,?v5 n2⟩
 ext z2;obtain⟨r1',VZ,x2,yF,ly2,f1',f2'⟩:=CY;obtain⟨tvb,dxb,fsb,hpb,l1b,l2b,l3b,l4b,l5b,l6b,l7b,_⟩:=x2.ob;obtain⟨dr,fr,hR,_,_,_,m5,_⟩:=ly2.ob;refine qy2 (fun σ' H'=>l9 fun ?H0 (g a b:Int)=>Hn (?SD j) (?wD (f i) (f j) g a b) (?TL H') (?SN ?mB) (?SG L ?mB) (?TM ?nY)) ?k ?_
 . refine⟨_,rfl,p,Ah,dxb,fsb,_,rfl,hpb,?E,?i6,l4b,R,dr,fr,rfl,hR,?J6,_,rfl,_,rfl,_,rfl,_,rfl,?_⟩;refine⟨R,Ag,r2,b2,_,w,w,i,j,f i,f j,r,_,rfl,?d2,ly2,O9m,O9m,O9m,O9m,O9m,p1,p2,p1',p2',ok.br,fun P g a b G fr kp hT sh z=>?_⟩;obtain⟨y1,y2⟩:=x2.right yF ly2 f1' f2' f3 f4 fr kp z;exact ?NC ⟨P,g,a,b,rfl,sh,hT,y1,y2,z⟩
 refine Ac0 fun P g a b H3 sh hT3 x3 zS ly3=>?_;intro sq;obtain⟨tvc,dxc,fsc,hpc,l1c,l2c,l3c,l4c,l5c,l6c,l7c,_⟩:=x3.ob;obtain⟨dl3,fl3,hL3,_,_,_,m6,_⟩:=zS.ob;have g0:=sh.pos;have lg:?E7:=?ON p1';have lb:b.natAbs<L9:=qc1 sh.lb p1';ext N0;have ek:∀z:Int,z.fdiv g=z / g:=fun z=>?wL;have lk':(?FA).natAbs<2 ^ 18000:=qc1 ?j3 (A08 lb p2');refine ?N9 (fun σ' H'=>Dg (σ'=[?y,?cW,?h1,?RR (f i),?RR (f j),rS P]) (?TL H') (?SN (zR i j g b f l)))
 . refine⟨_,rfl,p,Ah,dxc,fsc,_,rfl,hpc,?E,?f5,l3c,L,dl3,fl3,rfl,hL3,m6 _ ?bX,_,rfl,_,rfl,_,rfl,P,_,_,_,rfl,rfl,hT3,rfl,_,rfl,_,_,rfl,rfl,BV lb p2',_,rfl,P,_,_,_,rfl,rfl,hT3,rfl,_,_,rfl,rfl,cb _,_,rfl,?B,?_⟩;rw[ek];intro T1 hT1;have s1:?OF H3 ?sI:=?hS;have hT:?OQ ?sI (?DE):=?kE
   generalize ?sI=G1 at s1 hT;refine⟨L,?hQ,Ag,r1',VZ,_,n,n,_,_,?DE,rfl,?d2,zS.keep s1,hT,⟨O9m,O9m,O9m,?PB (by rw[qc4];exact lk') (ok.bl.2.1 _ _ O9m hc)⟩,⟨O9m,O9m,O9m,?PB (by rw[qc4,qc4];exact lk') (ok.bl.2.2 _ _ O9m hc)⟩,O9m,O9m,?oJ⟩;obtain⟨y1,_⟩:=x3.left zS ly3 f3 f4 s1 sx n1 n2 z;exact ?NC ⟨rfl,JA (s1.seqT hT3) (s1 _ _ hL3) sx,y1⟩
 refine iU fun H4 hT4 x4=>?_;intro sq;obtain⟨tvd,dxd,fsd,hpd,l1d,l2d,l3d,l4d,l5d,l6d,l7d,_⟩:=x4.ob;refine⟨_,rfl,P,_,_,_,rfl,rfl,hT4,rfl,_,rfl,p,Ah,dxd,fsd,_,rfl,hpd,?E,?e4,l5d,_,rfl,nm,_,_,i,rfl,rfl,x4.nu,Ju (?xD),?_⟩;have e1:?FR=?U6 ?xK:=NT O9m;have x5:=x4.num (ns':=?xK);rw[←e1]at x5;have hT5:?TL (upd H4 nm (?i (?FR))):=Af2 hT4 x4.nu;refine Ge (fun σ' H'=>Dg (?SD j) (?TL H') (WX K Ag Ah H0 H' p L R nm n w ?j (zR i j g b f l) ?nY (?xK))) ?_ fun Rl=>Rl _ _ ⟨rfl,hT5,x5⟩;refine iU fun H6 hT6 x6=>?_;intro sq;obtain⟨tve,dxe,fse,hpe,l1e,l2e,l3e,l4e,l5e,l6e,l7e,_⟩:=x6.ob;have lA:(f i / g).natAbs<L9:=qc1 ?j3 p1';refine⟨_,rfl,_,rfl,P,_,_,_,rfl,rfl,hT6,rfl,_,_,rfl,rfl,cb _,_,rfl,_,_,rfl,rfl,(by rw[ek];exact BV lA p2'),_,rfl,p,Ah,dxe,fse,_,rfl,hpe,?E,?e4,l5e,_,rfl,nm,_,_,j,rfl,rfl,x6.nu,Ju (by rw[Br];exact hj),?_⟩;rw[ek]
 have e2:(VI m ?AC).set j (?d (f i / g*f j))=?U6 ?EP:=by
  rw[NT hj];show VI m _=VI m _;refine Pj ?xQ;unfold XD Lat.put2;by_cases z1:c=j
  . subst z1;rw[?dH,?lP,?dH]
  . rw[?aA z1];by_cases z2:c=i
    . rw[?b1 z2,?b1 z2]
    . rw[?aA z2,?aA z2,?aA z1]
 have x7:=x6.num (ns':=?EP);rw[←e2]at x7;exact k2 g a b _ sh x7
noncomputable abbrev Q0:Stmt:=top 67
theorem Ct:?s [?a2,"k",?hT,?tX,?tQ,?pK,?b2,?iA,"turned_loops","turned_gauges","fillings",?hV,"i",?b0,?C6,"loop"] ?xO (As Q0):=Bf
theorem dZ[?u](F:Eo K ?pA ?pA Q0 f fd)[?t][?M9][?l0][?rG](Mu:Has P w K mg ?f ?o4 ?lQ 3 (w9 K)):?NO ?xO (U7 K):=by
 refine ?NP Ct;obtain⟨a,tp,nm,r1,D1,D2,b2,vl,vg,xs,k,z,k0,w,L,G,f,l,r,rfl,hL,Qi,hw,hvl,hvg,x,hz,hkz,hkw,hf0,bl1,bl2,bL,bG,kq⟩:=h;obtain⟨la,lu,rfl,hlq,YQ,_⟩:=Hf hvl;obtain⟨ga,gu,rfl,_,_,_⟩:=Hf hvg;have hm:?gU<=40:=?sP;have hwl:w<=40:=by rw[hw];exact ?sP
 refine⟨_,(Af (?OE ?cC (?RG ?cY))
  (Af (?UO 6 (?RG (?TW (Ao Bq hr ?cJ))))
  (Af (?UO 7 (Bd ?dN ?e8 (Bd X2 ?IP (Bd Nf ?aD (?RG (?TW ?e8))))))
  (Af (?UO 8 (?RI Kv (Aa (Ao Cy hr (Aa ?e8 ?eE)) (Aa ?v ?mS))))
  (Af (?UO 9 (?RI Kv (Aa ?e8 (Aa ?L ?mS))))
  (Af (?UO 10 (Ao Cy hr (?NB ?e8 (?RG (?TW ?e8)))))
  (Af (?UO 11 ?cR)
  (Af (Cv qc6 rfl (?OB (?TW ?f7)) (?NF 2 (Bh (?RE 12 ?cC) (Bh (?RE 13 ?cC) Da))) (Af (?UO 14 (Xz (?NR Ed ?uM) Si (?RI Mu (?VJ (?NB ?fM (?TX ?iZ ?gC))))))
  (Af (?UO 15 (?RI Mu (?VJ (?NB ?n (?TX ?g9 ?gC)))))
  (Ak (?VD ?i1 (?V3 ?uM (Aa (pv 15) (Aa (?RI Mu (?UU ?l (Bc ?V ?i2 ?gC ?F))) (Aa ?qG Ae)))))))))
  (?RF ?i1))))))))),?_⟩
 ext D
 refine ?N9 (fun σ' H'=>?RJ none none/\?bK)
 . ext MZ;ext rP
 ext aO;refine ?N9 (fun σ' H'=>?RJ ?dG none/\?jV)
 . refine⟨_,rfl,_,rfl,a,k,xs,rfl,hL,O9m,fun P H1 nP s1 hP=>?_⟩;ext yU;ext z8
 ext rM;refine ?N9 (fun σ' H'=>Ef fun(nn:Addr)=>Dg (?RJ ?dG ?dW) ?a4 (?RP nn (?K9)))
 . have x1:=?hO s1;refine⟨_,rfl,tp,_,_,_,rfl,rfl,x1.tup,rfl,?B,fun l1 hl1=>?_⟩;have s2:?OF H1 ?DT:=?o hl1;have e2:upd H1 l1 ?rD l1=?c ?rD:=Ab;generalize ?DT=H2 at s2 e2;have x2:=x1.same s2;refine⟨_,rfl,_,rfl,tp,_,_,_,rfl,rfl,x2.tup,rfl,nm,_,rfl,?z x2.num,_,_,rfl,rfl,l1,_,_,rfl,rfl,e2,?_,?_,?_,fun l2 hl2=>?_⟩
   . rw[Br];omega
   . rw[Br];omega
   . rw[Br];exact ?fD
   have er:(?bF (?sN-(((VI k0 f).length:Nat):Int)).toNat [?x 0]).flatten=?BA:=by
    rw[Br,show(?sN-?oU).toNat=z-k0 by omega];generalize z-k0=n
    induction n with
    | zero=>rfl
    | succ n ih=>rw[qh0,ql1,ih];rfl
   rw[er];have s3:=?aT (?o (o:=?i (?BA)) hl2);have x3:=x1.same s3;refine⟨nm,l2,_,_,rfl,rfl,x3.num,?bY,Be (by rw[Br,qe0];omega),fun nn hnn=>?_⟩;refine ?NC ⟨nn,rfl,(?c0 s3).trans (?o hnn),?_⟩;rw[Ab,GV hkz]
 refine Io fun nn H2 s2 hnn=>?_;intro sq;refine ?N9 (fun σ' H'=>Ef fun(tl:Addr)=>Dg (?RK none none) ?oX (?T5 tl (dT z ?hK (?jE z l.2 L))))
 . have x2:=?hO s2;refine⟨_,rfl,tp,_,_,_,rfl,rfl,x2.tup,rfl,_,rfl,?e1,z,z,_,rfl,x2.lback,O9m,O9m,fun F as H3 hal R3=>?_⟩;refine⟨_,rfl,_,rfl,?e F,?wR,z,z,?gU,_,_,rfl,R3.rep hal,?Q (?aT ?kN) hvl,O9m,O9m,O9m,?P2 bl2 bL,fun tl at_ H4 JQ R4=>?_⟩;exact ?NC ⟨tl,rfl,R3.same.trans ?uK,R4.rep JQ⟩
 refine Io fun tl H3 s3 JQ=>?_;intro sq;have s23:=?o9;refine ?N9 (fun σ' H'=>Ef fun(tg:Addr)=>Dg (?RK ?gZ none) (?T1 H3) (?T5 tg (dT z ?hK (?jE z l.1 G))))
 . have x3:=?hO s23;refine⟨_,rfl,tp,_,_,_,rfl,rfl,?sK,rfl,_,rfl,_,rfl,?e r1,?qV,z,z,?gU,_,_,rfl,x3.left,?Q s23 hvg,O9m,O9m,O9m,?P2 bl1 bG,fun tg at_ H4 htg R4=>?_⟩;exact ?NC ⟨tg,rfl,?uK,R4.rep htg⟩
 refine Io fun tg H4 s4 htg=>?_;intro sq;have xF:=s23.trans s4;refine ?N9 (fun σ' H'=>Ef fun(fi:Addr)=>Dg (?RK ?gZ ?jQ) (?J9) (?T5 fi (dT w w r.1)))
 . have x4:=?hO xF;obtain⟨_,du,ez,hdq,A63,_⟩:=Hf ?AV;cases ez;refine⟨_,rfl,tp,_,_,_,rfl,rfl,?x8,rfl,_,rfl,tp,_,_,_,rfl,rfl,?x8,rfl,D2,du,rfl,?z hdq,?_⟩;rw[A63];refine⟨?eF,w,w,_,rfl,?AV,O9m,O9m,fun fi at_ H5 hfi R5=>?_⟩;exact ?NC ⟨fi,rfl,R5.same,R5.rep hfi⟩
 refine Io fun fi H5 s5 hfi=>?_;intro sq;refine ?N9 (fun σ' H'=>Ef fun ?c5=>B4 (σ'=[?w,?aJ,?aW,?aU,?aY,?cX,?dG,?dW,?fK,?gZ,?jQ,?G,none,none,none,none]) (?T1 H5) (H5 D=none) (?cN=?eS))
 . ext LY
 refine Wq fun D H6 s6 nD hD=>?_;intro sq;have XE:=xF.trans s5;have Al0:=(?jZ) _ _ hnn;have A38:=?Q (?jL) JQ;have A39:=?Q s5 htg;have hL5:=?Q XE hL;refine ?N9 (fun σ' H'=>cW fun ?cO ?JE=>B4 (σ'=?FK) (?T1 H5) ?k6 (Bw H' us (?S7 F8 k)))
 . refine⟨_,rfl,nn,rfl,⟨_,?NG s6 Al0⟩,?_⟩
   let Bc3:?aN:=fun i σ G'=>cW fun ?cO ?JE=>B4 (σ=?FK) (?g H5 G') (G' D=?dY) (Bw G' us (?IF (?S7 iL k)))
   refine Y5 (K:=K) (a:=nn) (xs:=?K9) Bc3
    ⟨[],?j,?j,?j,?j,rfl,s6,hD,trivial⟩ (fun i σ G' _ hz=>by obtain⟨_,_,_,_,_,_,g,_⟩:=hz;exact ?NG g Al0) ?_ ?_
   . rintro i v σ G' p hv Ee hp
     ext aC
     ext MF;have hi:i<z:=by have:=?fJ;rwa [Br]at this
     rw[Cg hi]at hv;cases hv;have ZP:?OT i:=by have:=rU.len;rw[qa3,qe7]at this;exact this
     have sp:?g G' (?D1):=?cB;have ep:upd G' p (?p [?aF,?eO]) p=?NL ?p [?aF,?eO]:=Ab;refine⟨p,_,rfl,.of ep,rfl,_,_,rfl,_,_,rfl,rfl,?_⟩;generalize ?D1=G1 at sp ep;have g1:=?d7 sp
     have rows:∀(t:Addr) (h w':Nat) (M:Lat.Mat) (G2:Hp),Rep K G2 ?hC (dT h w' M)->i<h->∃tu b,SqL K G2 t tu/\aY tu ?a9=?c (?kU)/\SqL K G2 b (VI w' (M i)):=fun t h w' M G2 hr hih=>by
      obtain⟨_,tu,ez,hq,hl,Nm⟩:=Hf hr;cases ez;obtain⟨u,hu⟩:∃u,tu[i]?=?c u:=⟨tu[i],qa0 O9m⟩
      obtain⟨_,b,rfl,hb⟩:=Nm i u hu;exact⟨tu,b,hq,Bn hu,hb⟩
     refine ?N9 (fun σ' H'=>Ef fun(fl:Addr)=>Dg (σ'=[?w,?aJ,?aW,?aU,?aY,?cX,?dG,?dW,?fK,?gZ,?jQ,?G,?cW,?GM,rS fl,xT]) (?T1 G1) (H' fl=?c (?TJ (if ?p6=0 then [] else uM xs (k+1) (r.1 i)))))
     . ext c6;ext aL
       . have e0:?p6=0:=?M
         refine fun fl hfl=>?NC ⟨fl,rfl,?o hfl,?_⟩;rw[Ab,?b1 e0];rfl
       . have e0:¬?p6=0:=?M
         have hik:i<k0:=by
          by_cases hh:i<k0
          . exact hh
          . unfold Lat.numAt at e0;rw[?aA hh]at e0;exact ?iV rfl e0
         obtain⟨tu,b,h1q,h2q,h3q⟩:=rows fi w w r.1 G1 (?Q g1 hfi) O9m;refine⟨_,rfl,_,rfl,_,_,rfl,rfl,_,rfl,_,rfl,fi,tu,_,_,rfl,rfl,h1q,h2q,a,b,xs,k+1,Hy w (r.1 i),rfl,?Q g1 hL5,O9m,?vY,by rw[Jt,hw],fun fl G2 nfl g2 hfl=>?_⟩;refine ?NC ⟨fl,rfl,g2,?_⟩;rw[hfl,?aA e0,hw];rfl
     refine Io fun fl G2 g2 hfl=>?_;ext z6;refine ?N9 (fun σ' H'=>Ef fun(lp:Addr)=>Dg (σ'=[?w,?aJ,?aW,?aU,?aY,?cX,?dG,?dW,?fK,?gZ,?jQ,?G,?cW,?GM,rS fl,rS lp]) (?T1 G2) (H' lp=?c (?TJ (uM xs k (?jE z l.2 L i)))))
     . obtain⟨tu,b,h1q,h2q,h3q⟩:=rows tl z ?hK _ G2 (?Q ME A38) hi;refine⟨_,rfl,_,rfl,_,rfl,_,rfl,tl,tu,_,_,rfl,rfl,h1q,h2q,a,b,xs,k,Hy ?hK (?jE z l.2 L i),rfl,?Q ME hL5,O9m,?vY,?KX,fun lp G3 nlp g3 hlp=>?_⟩;exact ?NC ⟨lp,rfl,g3,hlp⟩
     refine Io fun lp G3 g3 hlp=>?_;intro sq;have PV:=?wJ;have Af8:=(?ER g2).trans g3;obtain⟨tu,b,h1q,h2q,h3q⟩:=rows tg z ?hK _ G3 (?Q PV A39) hi;refine⟨_,rfl,?z ⟨rfl,_,?NG Af8 Dr⟩,_,rfl,_,rfl,_,rfl,_,rfl,_,rfl,_,rfl,tg,tu,_,_,rfl,rfl,h1q,h2q,a,b,xs,k,Hy ?hK (?jE z l.1 G i),rfl,?Q PV hL5,O9m,?vY,?KX,fun gp G4 ngp g4 hgp=>?_⟩;refine⟨_,rfl,?B,?jY⟩;have g5:=?o (o:=?OL fl) ht;have et:upd G4 t (?OL fl) t=?NL ?p [?eO,?e lp,?e gp,?e fl]:=Ab;generalize upd G4 t (?OL fl)=G5 at g5 et;have g45:=g4.trans g5;have sD:=Af8.trans g45;refine⟨D,_,_,rfl,rfl,?nU,?cZ,?_⟩;have hP:Hk G5 ?hC (iL xs k z k0 L G f l r i):=⟨t,lp,gp,fl,rfl,et,g45 _ _ hlp,g5 _ _ hgp,(?BI g45) _ _ hfl,(At (g3 _ _ hfl) ngp).symm⟩
     have nDt:∀c o,?G5->(∀vs,o≠?i vs)->?jK:=fun c o e h z=>by
      rw[z,?nU]at e;cases e;exact h _ rfl
     have sx:∀c o,?jK->?G5->upd G5 D (?i (?vX)) c=?cM:=fun c o hc e=>by rw[An hc];exact e
     refine⟨?vX,_,_,_,_,rfl,(?d7 sD).turn nD,Ab,?_⟩;rw[ql9,qb8];exact Bw.snoc (Bw.put (?nU) (Bw.same sD rU)) (Hk.put hP (?nU))
   . rintro σ G' Ee;ext MF;rw[Br]at rU;exact ?NC ⟨us,_,_,_,_,rfl,g,Dr,rU⟩
 refine Ab9 fun us lO LN JK xT H7 s7 hD7 rU=>?_;intro sq;exact⟨_,rfl,kq D us H7 (XE.free nD) (?HV s7) hD7 rU⟩
noncomputable abbrev Na:Stmt:=?R0 69 4
theorem Z8:?s ?e0 ?e0 (As Na):=Bf
theorem c6[?u](F:Eo K ?wO ?CE Na f fd)[?t][?yP]:?NO ?e0 ?HL:=by
 refine ?NP Z8;ext LA
 ext LG
 have hat:?DZ:=by
  have:=Bn e1
  ext MW
 refine⟨_,(Af (?UQ (?U1 4))
  (?UW (Az ?aQ ?aV qh1 (?TW (B9 (N':=?G2) (cap:=?fI) ?h ?R (?NN Cm ?c2) (?NA (?RE 0 oS)) (?NA (Pp (?VH ?dZ Am))) (?NA ?l)))))),?_⟩
 ext D
 ext LC
 let Bc2:?a1:=?SH (ys.length=(?B3 fun p=>?CX).length) ?fZ
 refine Pz (K:=K) (a:=E) (xs:=eu) Bc2
  ?dR (?UB _) ?_ ?_
 . ext L9
   have y40:?IZ:=by
    have h3:=qf8 (fun p:BPart=>?CX) (?m2);rw[qd3]at h3;omega
   ext yE
   . have pQ:?q1:=?bJ
     refine⟨_,rfl,Dr,?cZ,?v2,Ab,?_,_,rfl⟩;rw[mH,qg1,qk7,?PX ?b1,qp1,qa9,qa9,yl];rfl
   . have pQ:¬?q1:=?bJ
     ext LR
 . ext z5;refine⟨D,ys,rfl,?z (?oV),?_⟩;rw[el,qg0]at yl;rw[yl];exact kq ps G hps g
noncomputable abbrev Lp:Stmt:=?R0 69 5
theorem Xi:?s ?e0 ?e0 (As Lp):=Bf
theorem Ya[?u](F:Eo K ?wZ ?DH Lp f fd)[?t][?yP]:?NO ?e0 ?CW:=by
 refine ?NP Xi;ext LA
 ext LG
 have hat:?DZ:=by
  have:=Bn e1
  ext MW
 refine⟨_,(Af (?UQ (?U1 4))
  (?UW (B9 (N':=?G2) (cap:=?fI) ?h ?R (?NN Cm ?c2) (?NA (?RE 0 oS)) (?NA (?T7 ?dZ Am)) (?NA ?dZ)))),?_⟩
 ext D
 ext LC
 let Bc1:?a1:=fun i ys τ G=>B4 ?bQ ?j2 (ys=((?B3 fun p=>?a6 (p.1≠0)).map (·.1)).map ?x) ?fZ
 refine Pz (K:=K) (a:=E) (xs:=eu) Bc1
  ?dR (?UB _) ?_ ?_
 . ext L9
   have y40:?IZ:=by
    have h3:=?QQ 0 (?m2);rw[qd3]at h3;rw[yl,qa3,qa3];omega
   ext yE
   . have pQ:¬?q1:=?bJ
     refine⟨_,rfl,t,_,_,_,rfl,rfl,?pV,rfl,Dr,?cZ,?v2,Ab,?_,_,rfl⟩;rw[mH,qg1,qk7,?PX ?b1,qp1,qb8,qb8,yl];rfl
   . have pQ:?q1:=?bJ
     ext LR
 . ext z5;rw[el,qg0]at yl;refine kq ps D G hps hD g ?_;rw[Dr,yl];rfl
noncomputable abbrev Q6:Stmt:=top 12
theorem dS:?s ?lY ?lY (As Q6):=Bf
theorem eE[?u](F:Eo K ?o1 ?o1 Q6 f fd)[?t](Y1:Has P w K mg ?f ?m0 ?m1 4 (W7 K)):?R2 ?lY Va:=by
 refine ?NP dS;obtain⟨a,b,xs,k,ms,rfl,hL,hb,hm,kq⟩:=h
 refine⟨_,(Af (?UP Gv (Ga (Az FL ?fT B6 (?NB ?m (Ig (v:=.ty "dict") rfl ?vQ Nt rfl)))))
  (?UW (Az ?lW ?r2 P0 (Aa (OE (B9 (N':=[?cL,?b0,?a2,"k"]) (cap:=[none,none,?iP,?eJ]) ?h ?R (Ot ?m) (?NA (?TV vK vK)) ?aH (?NA (?RI Y1 (Aa ?m (Aa ?v ?cJ)))))) Ae)))),?_⟩
 ext D
 refine⟨_,rfl,b,_,rfl,?z hb,_,rfl,?_⟩;ext iE;refine ?S ⟨b,?bU,hb,?oA⟩;refine⟨_,rfl,b,o,?bU,rfl,Ab,?a3⟩;obtain⟨yV,lP⟩:=eZ hD
 let Bc0:?a1:=fun i zs τ H1=>En (zs=((ms.take i).map ?DO).map ?fA) (H1 b=?c (?O9 ?bU)) (H1 D=?nB) (Qn b H H1) (?OC [o1,o2,?w,?aJ])
 refine Zf (d:=b) (o:=o) (kvs:=?bU) Bc0
  ⟨rfl,?_,Ab,?_,?j,?j,rfl⟩ (fun i zs τ H1 _ hz=>by obtain⟨_,e,_⟩:=hz;exact e) ?_ ?_
 . ext iJ;exact Ab
 . intro c q n1 e2;rw[An (At e2 yV),?jI];exact e2
 . rintro i kk x zs τ H1 p hx Ee hp;revert τ;refine VM ?_;intro hz1 hb1 Fq hk1 o1 o2 Hq;subst hz1;ext rN;have hlt:?FD:=?sL;have sp:?TG [?d q.1,?d q.2]:=?cB;ext gJ;refine⟨_,rfl,_,rfl,_,rfl,_,rfl,a,xs,k,q.1,q.2,rfl,?Q sp (Rep.x hk1 hb hL),?_⟩;refine⟨?E6,?u4,?_,?_,Ab,fun c r n1 e2=>?_,_,_,rfl⟩
   . rw[qs7,hq,qb8,qb8];rfl
   . ext iJ;exact ?QA hb1
   . rw[An (fun z=>by rw[z,yV]at e2;cases e2)];exact ?QA (hk1 c r n1 e2)
 . rintro zs τ H1 ⟨rfl,hb1,Fq,hk1,_⟩;rw[Rr,qg0]at Fq;refine⟨hb1,D,ms.map ?DO,rfl,.of (by rw[An lP];exact Fq),?_⟩;rw[List.all_map];refine kq _ fun c q e2=>?_;by_cases z:c=b
   . subst z;rw[hb]at e2;cases e2;exact Ab
   . rw[An z];exact hk1 c q z e2
noncomputable abbrev Kl:Stmt:=top 31
theorem I0:?s [?gR,?cL,?qJ] [?gR] (As Kl):=Bf
theorem Vy[?u](F:Eo K ?oW ?oW Kl f fd)[?t](pS:Has P w K mg ?f ?r3 ?xV 4 (jD K)):?R2 [?gR] W6:=by
 refine ?NP I0;obtain⟨v,xs,rfl,hL,hs,hx,k⟩:=h;obtain⟨a,us,rfl,hq,r⟩:=?oO;have hl:?JX:=?qP
 refine⟨_,(Af (Cv qc6 rfl (?OB ?aB) (?NF 2 (?UH I0.nd I0.nd)) (Ak (Cf (?NV pS (Aa (?V9 Nb ?n) ?Z)) (?RF ?n) Bs)))
  (?RF gQ)),?_⟩
 ext D
 refine(?OS a ?BQ)
 let Bb9:?aN:=fun i σ G=>Hm fun o1 o2=>σ=[?w,o1,o2]/\?g H G
 refine Y5 (K:=K) (a:=a) (xs:=us) Bb9
  ⟨?j,?j,rfl,?qA⟩ (fun i σ G _ hz=>by obtain⟨_,_,_,s1⟩:=hz;exact ?k9) ?_ ?_
 . rintro i v σ G p hv Ee hp
   ext aC
   revert σ;refine vR ?_;intro o1 o2 s1 Hq;have hi:i<xs.length:=by have:=?fJ;omega
   obtain⟨dv,pO,rv⟩:=r.getV hv
   have edv:dv=?C8:=by
    rw[qb2,?d3]at pO;simpa using pO.symm
   subst edv;have sp:?g G (?CM):=?cB;ext gJ;generalize ?CM=G1 at sp;have s2:=?kP;refine⟨_,rfl,_,rfl,_,rfl,a,us,rfl,?gV hq,?xQ⟩;have s3:?OF G1 ?A9:=?o hc;have ec:upd G1 c (?i (?TT ?c)) c=?NL ?i (?TT ?c):=Ab;generalize ?A9=G2 at s3 ec;have s4:=?o9
   have A65:LT K G2 (?e c) (?IE):=by
    refine⟨c,_,rfl,.of ec,?_⟩;rw[Zd,qw8];exact(?b3 s4 r).take i
   refine⟨_,rfl,c,v,?C8,?IE,rfl,A65,?Q s4 rv,fun G3 s5=>?gT⟩;rw[mG (hs i xs[i] ?oI)];refine G9 ?aM ?_;exact⟨_,_,rfl,?jL⟩
 . ext bO;refine vR ?_;intro o1 o2 s1 Hq;exact k G s1
noncomputable abbrev Ln:Stmt:=Eh ?kW 2
theorem Go:?s [?aG,?sO,"i","at","head",?dI] ?vS (As Ln):=Bf
theorem X8[?u](F:Eo K ?vL ?BV Ln f fd)[?t][?LW][?yI](Ji:?O7 P Ad):Bv P w K mg ?f Ei 5 f fd ?vS (?NH DM):=by
 refine ?NP Go;obtain⟨H0,p,q,M,n,W,t,spot,i,s,Nx,rfl,x,hs,hi,ok,k⟩:=h;ext rQ;obtain⟨r,b,lx,f1,f2⟩:=x.ex;ext eX;ext rR;obtain⟨h1,h2,h3⟩:=ok.hd ?P (?mP) hs;obtain⟨o1,o2⟩:=ok.oth;ext yX;obtain⟨cs,_,ecs,_,hcs⟩:=?NN ?lH ?kH
 refine⟨_,(Af (?NX Go.nd ?c2)
  (Af (?P7 Go.nd (?SV ?c2))
  (Af (?OE Go.nd (?SV ?fN))
  (Af (Cf (?NR Ed (Bd Gb ?aD ?L)) (?RM Cq (?TW (?V3 Nc (?UU ?m (N1 Iy (Bd Ko ?aD ?L)))))) (Af (Bx (Dj ?l ?J Ji hr (Aa ?n (?V2 ?m))))
  (?RM Cb (?NB ?n ?fM))))
  (?RM Cb (?NB ?m ?fM)))))),?_⟩
 ext D
 refine⟨_,rfl,p,Ad,dx,fs,_,rfl,hp,?J,?eN,l3,_,rfl,q,_,_,_,rfl,rfl,?FQ,?QV hs,?_⟩;refine⟨_,rfl,p,Ad,dx,fs,_,rfl,hp,?J,?bM,l1,_,rfl,r,_,_,_,rfl,rfl,?dQ,Bn ecs,_,rfl,cs,_,_,_,rfl,rfl,hcs,?lN,?_⟩;refine⟨_,rfl,p,Ad,dx,fs,_,rfl,hp,?J,?bM,l1,_,rfl,r,_,_,_,rfl,rfl,?dQ,?iW,_,rfl,ci,_,_,_,rfl,rfl,mD,?lN,?_⟩;refine Al (fun σ' H'=>?y6/\?bK) ?_ ?K1;ext aO;refine qy2 (t:=?w9) (fun σ' H'=>?y6/\∃s1,?O1 H' s1/\aZ n W t i ?eH i s1/\Hds W t ?eH i s1.1/\Nx (?t2 t i ?eH s1 (i-?eH))) ?k ?_
 . refine(?PJ h2);ext yZ
   . have h5:?hF%?hJ=0:=?p2
     have h6:?hF=?v0*?hJ:=(Int.ediv_mul_cancel (qt9 h5)).symm;obtain⟨oN,OM⟩:=ok.add _ h6;refine⟨_,rfl,p,dx,fs,rfl,hp,?hG,_,rfl,_,rfl,_,rfl,_,rfl,_,_,rfl,rfl,?KO,_,rfl,?B,?_⟩;rw[?CL];have hk:(?v0).natAbs<L9:=qc1 ?j3 o2;generalize ?v0=kk at h6 oN OM hk;intro T1 hT1;have s1:?OF H ?sW:=?hS;have hT:?OQ ?sW (?t3):=?kE
     generalize ?sW=G1 at s1 hT;refine⟨p,?hQ,Ad,r,b,_,n,W,_,_,?t3,rfl,?iO,?sS,hT,⟨hi,O9m,O9m,fun c hc=>gX (by rw[qc4];exact hk) (ok.bo.1 _ _ O9m hc)⟩,⟨O9m,hi,O9m,fun c hc=>gX (by rw[qc4,qc4];exact hk) (ok.bo.2 _ _ hi hc)⟩,O9m,O9m,?oJ⟩;refine ?NC ⟨rfl,_,x.redo s1 sx n1 n2 z,oN,?GB,OM⟩;have e:(tnS (?t3) s).1 j=?pH:=Lat.addR_row_ne (?OZ i);rw[e];exact ?KL
   . refine ?S1 (fun σ' H'=>?y6/\∃g a c,?wD (?hJ) (?hF) g a c/\?O1 H' (?t9));ext aZ
     . refine⟨_,rfl,p,dx,fs,rfl,hp,?hG,_,rfl,_,rfl,_,rfl,_,rfl,?_⟩;refine⟨p,Ad,r,b,_,n,W,?P,i,_,_,s,_,rfl,?iO,lx,O9m,hi,O9m,O9m,O9m,h2,o1,h3,o2,ok.bo,fun L g a c G fr kp _ sh z=>?_⟩;exact ?PH ⟨rfl,g,a,c,sh,x.redo2 lx f1 f2 fr kp z⟩
     refine K4 fun G CY=>?_;intro sq;obtain⟨g,a,c,sh,y⟩:=CY;obtain⟨oN,OM,ok3⟩:=ok.ble g a c sh
     have hd1:Hds W t ?eH i (?t9).1:=fun j hj1 hj2=>by
      have e:(?t9).1 j=?pH:=?GK (?OZ spot) (?OZ i) _ _ _ _;rw[e];exact ?KL
     ext LF;refine⟨H0,p,q,M,n,W,t,i,_,?P,?gW,rfl,y,O9m,O9m,?z O9m,hd1,oN,?zS⟩;refine ?NC ⟨rfl,_,z,OM,?GB,ok3⟩;rw[Xe _ _ _ _ _ _ (?OZ spot)];exact hd1 j hj1 hj2
 refine K4 fun G CY=>?_;intro sq;obtain⟨s1,y,oN,hd1,OM⟩:=CY;ext LF;exact⟨H0,p,q,M,n,W,t,i,s1,i,?gW,rfl,y,hi,O9m,?S (?mP),hd1,oN,fun G' z=>k _ _ z OM⟩
noncomputable abbrev Jb:Stmt:=Eh ?kW 3
theorem Mi:?RD ?iU Jb:=Bf
theorem T5[?u](F:Eo K ?xT ?zH Jb f fd)[?t][?LW]:?RQ 5 W9:=by
 refine ?NP Mi;obtain⟨H0,p,q,M,n,W,t,i,s,rfl,x,ok,k⟩:=h;ext rQ;obtain⟨r,b,lx,_⟩:=x.ex;ext eX;refine(?UR (Cv qc6 rfl (sQ ?h ?b9 (Aa (?V7 Nf ?kA) (?NB (N1 Iy Am) (N1 Iy Am)))) (?RE 1 Mi.nd) (?RM Cb (?NB ?n ?fM))));refine⟨_,rfl,p,Ad,dx,fs,_,rfl,hp,?J,?eN,l3,q,_,rfl,?KD,_,_,rfl,rfl,_,rfl,_,rfl,i+1,?xH,O9m,?_⟩;clear lx hp l1 l2 l3 l4 l5
 let Bb8:?aN:=fun d σ G=>Ef fun o1=>σ=?BD/\SX Ad H0 G p q M n W t ?dK (?KT)
 refine pX (hi:=((i+1:Nat):Int)-1) (n:=i+1) Bb8 ?EO ?_ ?_
 . rintro d σ G hd Ee
   ext aC
   revert σ;ext zA;ext z9;ext eX;rw[show((i+1:Nat):Int)-1-?GL=((i-d:Nat):Int) by omega];obtain⟨oN,OM⟩:=?J4;refine⟨_,rfl,p,dx,fs,rfl,hp,?hG,_,rfl,_,rfl,_,_,rfl,rfl,?_⟩;refine⟨H0,p,q,M,n,W,t,i+1,?KT,i-d,i-d+1,rfl,y,O9m,O9m,?z O9m,oN,OM,?zS⟩;rw[show i+1-(i-d+1)=d by omega]at z;exact(?PU _ z)
 . ext bO;ext zA;exact k _ y
noncomputable abbrev Fv:Stmt:=Eh ?iR 3
theorem Cl:?RD [?aG,?pK,"gap","i","j"] Fv:=Bf
theorem Ox[?u](F:Eo K ?xS ?D4 Fv f fd)[?t](Jv:Jy P w K mg ?f Ah ?wA ?wG 4 (?NH y6)):?RQ 5 y7:=by
 refine ?NP Cl;obtain⟨H0,p,L,R,nm,n,w,m,l,r,f,Sv,rfl,x,mn,mw,v0,vs,k⟩:=h;obtain⟨iP,zF,NY⟩:=T.x_GAPS;obtain⟨RC,rC⟩:=x.sm;ext kZ
 refine⟨_,(Af (?OW ?kX ?kA)
  (Af (Cv qc6 rfl (?NN Wk (Js (v:=?e iP) ?h zF rfl)) (?QW 2) (Ak (?V0 (?TW (Bd Nf ?n ?m)) (Ak (Bx (Dj ?l ?E Jv hr (?NB ?v (Bd By ?v ?m))))))))
  (Ak (?V0 ?Y (Ak (Cv qc6 rfl (z9 ?h ?b9 (Aa ?dL ?Y)) (?QW 4) (Ak (Bx (Dj ?l ?E Jv hr (Aa ?v ?g8)))))))))),?_⟩
 ext D
 refine ?N9 (?RH [?y,?hE,none,none,none] ?bK)
 . exact⟨_,rfl,p,Ah,HV,HK,_,rfl,hpa,?E,?e4,VR,nm,_,rfl,?z (?y0),?NC ⟨by rw[qa3,Jt];rfl,rfl⟩⟩
 ext aO;refine ?N9 (fun σ' H'=>Hm fun ?CU=>?SR o3 none/\∃(d:Nat) (f:?hL) (l r:?e3),d<=5*m/\?lO/\?RY H' l)
 . refine⟨iP,rfl,⟨_,NY H⟩,?_⟩
   let Bb7:?aN:=fun g σ' G=>Hm fun ?CU=>?SR o3 none/\∃(d:Nat) (f:?hL) (l r:?e3),d<=g*m/\?FG
   refine UD (K:=K) (a:=iP) (xs:=(([32,16,8,4,2]:?dC).map ?x)) Bb7 ⟨?j,?j,rfl,0,f,l,r,O9m,v0,x⟩ (fun g σ G _ _=>NY G) ?_ ?_
   . rintro g y σ G hy Ee
     ext aC
     obtain⟨o2,o3,rfl,d,f,l,r,hd,hv,z⟩:=Ee
     have hg:∃gp:Nat,y=?d ?t4/\1<=gp/\gp<=32/\g<5:=by
      match g,hy with
      | 0,hy=>cases hy;exact(?OP 32)
      | 1,hy=>cases hy;exact(?OP 16)
      | 2,hy=>cases hy;exact(?OP 8)
      | 3,hy=>cases hy;exact(?OP 4)
      | 4,hy=>cases hy;exact(?OP 2)
      | g+5,hy=>simp at hy
     obtain⟨gp,rfl,g1,g2,g5⟩:=hg;refine⟨_,rfl,_,rfl,_,_,rfl,rfl,_,rfl,O9m,O9m,?_⟩;refine D7 (lo:=0) (n:=(?lS-?t4).toNat) (fun i σ' G=>Ef fun(o3:?q6)=>σ'=[?y,?hE,?NL ?d ?t4,o3,none]/\∃(d:Nat) (f:?hL) (l r:?e3),d<=g*m+i/\?FG) ⟨o3,rfl,d,f,l,r,hd,hv,z⟩ ?_ ?_
     . rintro i σ G hi ⟨o3,rfl,d,f,l,r,hd,hv,z⟩;rw[qk9];ext LZ
       have hm5:g*m+m<=5*m:=by
        have:=qc0 m (show g+1<=5 from g5);rw[qf5,qf4]at this;exact this
       refine⟨_,rfl,p,dxc,fsc,rfl,hpc,?F8,_,rfl,_,rfl,_,rfl,_,_,rfl,rfl,?_⟩;obtain⟨o1,o2',o3'⟩:=?QT (i+gp);refine⟨H0,p,L,R,nm,n,w,m,i,i+gp,l,r,f,rfl,z,O9m,O9m,mn,mw,o1,?KR,?GE⟩
       . exact⟨_,rfl,d+1,f,l,r,O9m,o2' pO,z⟩
       . exact⟨_,rfl,d+1,_,_,_,O9m,?DJ,z'⟩
     . rintro σ G ⟨o3,rfl,d,f,l,r,hd,hv,z⟩;refine⟨_,_,rfl,d,f,l,r,?_,hv,z⟩;rw[qf5,qf4];omega
   . rintro σ G ⟨o2,o3,rfl,d,f,l,r,hd,hv,z⟩;exact ?NC ⟨o2,o3,rfl,d,f,l,r,hd,hv,z⟩
 refine UY fun o2 o3 G CY=>?_;intro sq;obtain⟨d,f,l,r,hd,hv,z⟩:=CY;ext z0;refine D7 (lo:=0) (n:=(?lS).toNat) (fun i σ' G=>Hm fun(o3 o4:?q6)=>?SR o3 o4/\∃(d:Nat) (f:?hL) (l r:?e3),d<=5*m+i*m/\?lO/\?CP m i f/\?tD) ⟨o3,?j,rfl,d,f,l,r,O9m,hv,fun a b ha=>O9m,z⟩ ?_ ?_
 . rintro i σ G hi ⟨o3,o4,rfl,d,f,l,r,hd,hv,hc,z⟩;rw[qd6]at hi;rw[qk9]
   have him:i*m+m<=m*m:=by
    have:=qc0 m (show i+1<=m from hi);rw[qf5,qf4]at this;exact this
   refine⟨_,rfl,_,_,rfl,rfl,_,rfl,_,_,rfl,⟨O9m,O9m,O9m,O9m⟩,?_⟩;refine D7 (lo:=?a9+1) (n:=?AZ) (fun j σ' G=>Ef fun(o4:?q6)=>?SR ?cW o4/\∃(d:Nat) (f:?hL) (l r:?e3),d<=5*m+i*m+j/\?lO/\Lat.ChainAt m i (?o3) f/\?tD) ⟨o4,rfl,d,f,l,r,O9m,hv,hc.at,z⟩ ?_ ?_
   . rintro j σ G hj Ee
     ext aC
     obtain⟨o4,rfl,d,f,l,r,hd,hv,hc,z⟩:=Ee;rw[show ?a9+1+(j:Int)=((?o3:Nat):Int) by omega];ext LZ;refine⟨_,rfl,p,dxc,fsc,rfl,hpc,?F8,_,rfl,_,rfl,?_⟩;obtain⟨o1,o2',o3'⟩:=?QT (?o3);refine⟨H0,p,L,R,nm,n,w,m,i,?o3,l,r,f,rfl,z,O9m,O9m,mn,mw,o1,?KR,?GE⟩
     . exact⟨_,rfl,d+1,f,l,r,O9m,o2' pO,hc.skip pO,z⟩
     . exact⟨_,rfl,d+1,_,_,_,O9m,?DJ,hc.step O9m O9m sh.pair,z'⟩
   . rintro σ G ⟨o4,rfl,d,f,l,r,hd,hv,hc,z⟩;rw[show i+1+?AZ=m by omega]at hc;refine⟨_,_,rfl,d,f,l,r,?_,hv,hc.next,z⟩;rw[qf5,qf4];omega
 . rintro σ G ⟨o3,o4,rfl,d,f,l,r,hd,hv,hc,z⟩;rw[qd6]at hc;exact k d f l r _ hv hc z
noncomputable abbrev Je:Stmt:=top 83
theorem Ff:?s [?xX,?kS,?u5,?wC,"_law_many","_law_told",?GO] ?uG (As Je):=Bf
theorem T8[?u](F:Eo K ?pY ?pY Je f fd)[?t](Nn:Jy P w K mg ?f Av ?wO ?e0 4 ?HL)(L3:Jy P w K mg ?f Av ?wZ ?e0 4 ?CW)(Sy:Has P w K mg ?f ?q8 ?mC 1 (W8 K)):Bv P w K mg ?f Ei 5 f fd ?uG ?A8:=by
 refine ?NP Ff;obtain⟨p,w,k,c,B,xs,ls,ps,rfl,bk,sB,hk0,JR,hps,hcw,kq⟩:=h;have LY:=hr.u8;obtain⟨hc,hw⟩:=hcw;obtain⟨dx,P,Lv,Lf,lu,wu,hp,_⟩:=bk.ob;have tl:(?gK).length<=40:=qa5 (RN ps) (?D2)
 refine⟨_,(Af (?P7 Ff.nd (Dj ?l ?eU Nn hr ?Y))
  (Af (?OE Ff.nd (Dj ?l ?eU L3 hr ?Y))
  (Af (?UP ?gN (DU (?NV Sy ?g8) (DU (Bk Mp ?L ?m ?C) (bM (Gv (Ga (?RO ?aD)))))))
  (Af (Cv qc6 rfl (?NN Cm ?aD) (?RE 6 Ff.nd) (Ak (Cf (?NV Sy ?mS) ?dJ Bs)))
  (?RF (La (?NN TV LY) ?aD ?v ?C)))))),?_⟩
 ext D
 refine ?N9 (?RH [?y,?aJ,?b7,rS w,?b7,none,none] ?jV)
 . refine⟨_,rfl,p,dx,_,rfl,?D3,rfl,_,rfl,p,k,B,xs,ls,rfl,bk,sB,hk0,JR,fun ps' H1 PL s1=>?_⟩;rw[hps]at PL;cases PL;rw[hc];ext z8
 ext rM;have sB1:=?DF s1;refine ?N9 (?UT (σ'=(?SP none)) (?U6 ?gK))
 . refine⟨_,rfl,p,dx,_,rfl,sB1 _ _ hp,rfl,_,rfl,p,k,B,xs,ls,rfl,bk,sB1,hk0,JR,fun ps' D H2 PL nD s2 hD=>?_⟩;rw[hps]at PL;cases PL;exact ?NC ⟨D,rfl,s2,hD⟩
 ext M4;have hw2:=?lL hw;have rD:Rep K H2 (?fB) (?tE):=⟨D,_,rfl,?xZ,?rB⟩
 refine ?N9 (fun σ' H'=>σ'=(?SP none)/\H2=H')
 . ext MU;ext rF;refine ?G4;ext iE;refine⟨_,rfl,?fB,?fG,_,rfl,?wB,rD,_,rfl,?_⟩;ext rF;ext rP
 ext aO;refine ?N9 (fun σ' H'=>Ef fun o=>σ'=?JU/\H2=H')
 . let Bb6:?aN:=fun i σ G=>Ef fun o=>σ=?JU/\H2=G
   refine⟨_,rfl,D,rfl,?D8,?jG (K:=K) (a:=D) (xs:=?U6 ?gK) Bb6 (?PU ?j rfl) (fun i σ G _ ⟨_,_,e⟩=>by rw[←e];exact ?xZ) ?_ ?_⟩
   . rintro i v σ G hv Ee
     ext aC
     revert σ;refine eT ?_;intro o hz1 Hq;subst hz1;rw[qb2]at hv;obtain⟨x,hx,rfl⟩:=?gY hv;ext MU;ext rF;exact(?PU _ rfl)
   . ext bO;refine eT ?_;intro o hz1 Hq;subst hz1;exact ?NC ⟨o,rfl,rfl⟩
 refine Ad3 fun o=>?_;intro sq;refine⟨_,rfl,_,rfl,?tE,?tE,rD,⟨w,_,rfl,hw2,?rB⟩,?_,?_⟩
 . show deps (Fi (?gK))+1<=8;rw[Mx];decide
 rw[Sz];exact kq H2 s12
noncomputable abbrev Ec:Stmt:=top 14
theorem Kz:?s ?o6 ?o6 (As Ec):=Bf
theorem K3[?u](F:Eo K ?mR ?mR Ec f fd)[?t](Um:Has P w K mg ?f ?o1 ?lY 5 (Va K)):?R1 ?o6 Fp:=by
 refine ?NP Kz;obtain⟨a,b,xs,n,ms,rfl,hL,hb,hm,hn,kq⟩:=h;refine(?UR (Bb (?VA (?TW (B9 (N':=["k",?a2,?cA]) (cap:=[none,?iP,?eJ]) ?h ?R (?OK ?Z) (?NA (?RE 0 Ai3)) ?aH (?NA (?RI Um (?VF ?l ?Z))))))));ext yV
 let Bb5:?a1:=fun i zs τ H1=>B4 ?k5 (H1 D=?nB) (zs=(?IF ?tJ).map ?fA) (?NZ [o,?w,?eT])
 refine Ld Bb5
  ?dR ?_ ?_
 . rintro i zs τ H1 hi Ee;ext dV;intro s1 Fq hzs o Hq;have hi2:i<n:=O9m
   refine⟨_,rfl,_,rfl,_,rfl,a,b,xs,_,ms,rfl,?gM,?wQ,hm,?I0⟩;refine⟨?DL,?c9 (by rw[hzs,qa3,qa3,qe7];omega),?Q1 ?fX,Ab,?_,_,rfl⟩;rw[ql9,qb8,qb8,hzs,show(?bL+?a9)=?a9 by omega];rfl
 . rintro zs τ H1 ⟨s1,Fq,hzs,_⟩;rw[qd6]at hzs;refine⟨D,(?sQ n).map ?tJ,rfl,.of (by rw[Fq,hzs]),?_⟩;rw[List.any_map];exact kq _ s1
noncomputable abbrev Q5:Stmt:=top 29
theorem DR:?s ?h7 ?h7 (As Q5):=Bf
theorem ED[?u](F:Eo K ?pQ ?pQ Q5 f fd)[?t](Jj:Has P w K mg ?f ?JC ?h7 1 (JD K))(L4:Has P w K mg ?f ?oW [?gR] 5 (W6 K)):?R1 ?h7 R8:=by
 refine ?NP DR;obtain⟨v,xs,rfl,hL,hs,Qi,k⟩:=h;refine(?Q4 Jj (Nd (La XQ (?RI L4 ?aB) gQ ?C)));refine⟨_,rfl,v,xs,rfl,hL,Qi,_,rfl,?_⟩;refine AJ ?h ?_;exact⟨_,rfl,v,xs,rfl,hL,hs,Qi,fun H1 s1=>⟨rfl,?hY⟩⟩
noncomputable abbrev Jc:Stmt:=Eh ?kW 1
theorem Hs:?s [?aG,"i",?sO] ?iU (As Jc):=Bf
theorem T6[?u](F:Eo K ?tP ?CJ Jc f fd)[?t](Mt:Has P w K mg ?f ?qT [?cD] 1 (Sb K))[?yI](Lz:Jy P w K mg ?f Ad ?vL ?vS 5 (?NH DM)):Bv P w K mg ?f Ei 6 f fd ?iU (?NH Xa):=by
 refine ?NP Hs;obtain⟨H0,p,q,M,n,W,t,i,s0,I,rfl,x,hi,P,ht,k⟩:=h;ext rQ
 refine⟨_,(Af (?NQ Hs.nd Am)
  (Af (Os qc6 (?gN (nZ (Bk X3 ?m ?n ?C) (JG (?Q2 JJ)))) (Af (Cf (?Q2 Ed) (?RM Lz (Aa ?m ?Y)) Bs)
  (Ak (?NQ Hs.nd (?V7 By ?m)))))
  (Af (?RN Ly)
  (Af (?RN Ly)
  (Af (Bx (Ly (K:=K) qg3 qs6 qs5 T9 ?W (?NB ?m (?RI Mt ?kG))))
  (?UZ (?NR X3 (?TX ?fN ?fN)) (?PO Nc))))))),?_⟩
 ext D
 refine ?U7 [?y,?bD,?NL ?d ?CY];ext aO;refine ?N9 (fun σ' H'=>N8 fun spot st s=>Hn ?n9 (SX Ad H0 H' p q M n W t i s) ?IG ?DI (Hj W (?gI) st) ((spot<i->st<?h5)))
 . refine⟨fun m σ' G=>Hm fun spot s=>En ?n9 (?O1 G s) ?IG ?DI (m=i-spot),⟨_,0,s0,rfl,x,P.start,?a0,rfl⟩,?_⟩;rintro m σ G Ee;ext rX;obtain⟨spot,s,rfl,y,hI,hs,rfl⟩:=Ee;obtain⟨st,hb⟩:=Hj.ex (P.ok ?P s hs hI);ext z9;ext eX;ext rR;ext yX;refine⟨_,rfl,_,rfl,_,_,rfl,rfl,_,rfl,?_⟩;ext aL
   . have hlt:spot<i:=by have:?mM<?a9:=?M
                         omega
     refine⟨_,rfl,p,Ad,dx,fs,_,rfl,hp,?J,?eN,l3,_,rfl,q,_,_,_,rfl,rfl,?s1,?QV hlt,_,rfl,p,Ad,dx,fs,_,rfl,hp,?J,?bM,l1,_,rfl,r,_,_,_,rfl,rfl,?dQ,?iW,ci,W,st,_,rfl,mD,hb,O9m,_,_,rfl,rfl,_,rfl,?_⟩;ext yY
     . have hle:t spot<=st:=by have:?ED:=?bJ
                               omega
       refine⟨fun σ' G'=>Hm fun jB s'=>B4 (σ'=[?y,?bD,?c (?d ((jB:Nat):Int))]) (?GF) (I jB s') (jB=?gW),?_,?_⟩
       . rintro σ' G' ⟨jB,s',rfl,z1,z2,rfl⟩;exact⟨i-?eH,O9m,?gW,s',rfl,z1,z2,hlt,rfl⟩
       refine Al (t:=?w9) (fun σ' G'=>?uL/\∃s',?GF/\I ?eH s') ?_ ?c3;ext aZ
       . refine⟨_,rfl,p,Ad,dx,fs,_,rfl,hp,?J,?eN,l3,_,rfl,q,_,_,_,rfl,rfl,?s1,?QV hlt,_,rfl,p,Ad,dx,fs,_,rfl,hp,?J,?bM,l1,_,rfl,r,_,_,_,rfl,rfl,?dQ,?iW,ci,W,st,_,rfl,mD,hb,O9m,rfl,_,rfl,?_⟩;refine ?R4 ?_
         . have he:?h5=st:=by
            have:?p1=?l8:=?xF
            omega
           refine⟨_,rfl,p,dx,fs,rfl,hp,?hG,_,rfl,_,rfl,?_⟩;refine⟨H0,p,q,M,n,W,t,?P,i,s,I ?eH,rfl,y,hlt,hi,P.meet ?P s hlt hI (?KV) (by rw[he];exact hb.2.1),fun G' s' z1 z2=>?_⟩;exact ?PH ⟨rfl,s',z1,z2⟩
         . have he:¬?h5=st:=by
            have:¬?p1=?l8:=?xF
            omega
           exact ?PH ⟨rfl,s,y,P.skip ?P s hlt hI ?KV⟩
       rintro _ G' ⟨rfl,s',z1,z2⟩;exact⟨_,rfl,_,_,rfl,rfl,?gW,s',rfl,z1,z2,rfl⟩
     . have hle:¬t spot<=st:=by have:¬?ED:=?bJ
                                omega
       exact ?NC ⟨?P,st,s,rfl,y,hI,hs,hb,fun _=>O9m⟩
   . have hlt:¬spot<i:=by have:¬?mM<?a9:=?M
                          omega
     exact ?NC ⟨?P,st,s,rfl,y,hI,hs,hb,fun z=>?iV z hlt⟩
 refine Ac4 fun spot st s G y hI hs hb hex=>?_;intro sq;obtain⟨r,b,lx,f1,f2⟩:=y.ex;ext eX;ext rR;obtain⟨bs,xb,nb⟩:=lx.bk;obtain⟨pr,pb⟩:=lx.refs;have rb:=lx.ne;obtain⟨ci,rci,NC,mci,mD⟩:=?r1;obtain⟨di,rdi,edi,mdi,hdi⟩:=?D0
 have six:∀l:Nat,i<l->seqIndex? ?EH l=?c i:=fun l hl=>by
  unfold seqIndex?;simp only[show ¬?EH<0 by omega,if_false,qd6]
  first | (rw[?lP]) | (rw[?b1 ?q9]) | (ext bE)
 refine ?N9 (fun σ' H'=>Dg ?n9 ((∀a,a≠r->H' a=G a)) (?RP r (?UL ci ?fP)))
 . refine⟨_,rfl,p,Ad,dx,fs,_,rfl,hp,?J,?bM,l1,?PQ ?dQ,_,rfl,_,rfl,p,Ad,dx,fs,_,rfl,hp,?J,?bM,l1,?PQ ?dQ,_,rfl,r,_,_,i,_,rfl,rfl,?iK,O9m,O9m,six _ (by ext rU),NC,?_⟩;refine(?TH r (by ext MQ));ext MQ
 refine iU fun G1 e1 r1=>?_;intro sq;refine ?N9 (fun σ' H'=>Dg ?n9 ((∀a,a≠b->H' a=G1 a)) (?RP b (?UL di ?j1)))
 . have hp1:G1 p=_:=(e1 _ pr).trans hp;have b1:G1 b=_:=(e1 _ rb.symm).trans ?xE;refine⟨_,rfl,p,Ad,dx,fs,_,rfl,hp1,?J,?qI,l2,?O0 b1,_,rfl,_,rfl,p,Ad,dx,fs,_,rfl,hp1,?J,?qI,l2,?O0 b1,_,rfl,b,_,_,i,_,rfl,rfl,b1,O9m,O9m,six _ (by ext rV),edi,?_⟩;refine(?TH b (by ext MR));ext MR
 refine iU fun G2 e2 b2=>?_;intro sq;have r2:=(e2 _ rb).trans r1;have ZZ:∀a,a≠r->a≠b->G2 a=G a:=fun a h1 h2=>(e2 a h2).trans (e1 a h1);have hp2:=(ZZ _ pr pb).trans hp;have qr:q≠r:=?PE lx.nr ?B8;have qb:q≠b:=?PE lx.nb ?B8;have q2:=(ZZ _ qr qb).trans y.st;obtain⟨ya,ma⟩:=xa.move hi hs rci r2 fun a ha=>ZZ a (?uE).1 (?uE).2.1;obtain⟨yb,mb⟩:=xb.move hi hs rdi b2 fun a ha=>ZZ a (?nV).1 ?FS;obtain⟨cs,_,ecs,_,hcs⟩:=?NN ya.row ?kH
 have An3:Lat.moveR s.1 i ?P ?P=?gI:=by
  rw[Lat.move_row];unfold Lat.mvI;rw[?lP,?dH]
 rw[An3]at hcs;refine ?N9 (fun σ' H'=>?uL/\SX Ad H0 H' p q M n W (?A2 t ?P st) ?dK (?DV))
 . refine⟨_,rfl,p,Ad,dx,fs,_,rfl,hp2,?J,?eN,l3,?O0 q2,_,rfl,_,rfl,p,Ad,dx,fs,_,rfl,hp2,?J,?bM,l1,_,rfl,r,_,_,_,rfl,rfl,.of r2,Bn (by rw[AI,Ub]at ecs;exact ecs),cs,W,st,_,rfl,hcs,hb,O9m,?_⟩;refine⟨q,_,?P,_,rfl,rfl,q2,by rw[Br];exact hs,?AP,?NC ?kQ⟩;rw[gH hs];have qp:p≠q:=E3 hp y.st ?k1;refine⟨⟨r,b,⟨⟨dx,fs,by rw[An qp];exact hp2,l1,l2,l3,l4,l5⟩,⟨_,ya.put qr.symm fun a ha z=>(?CV).2.2 ?G1,fun a ha=>?CV⟩,⟨_,yb.put qb.symm fun a ha z=>(?FZ).2.2 ?G1,fun a ha=>?FZ⟩,rb,lx.nr,lx.nb,?pR⟩,f1,f2⟩,Ab,fun a o e=>?_,y.fp,y.fq,y.mq,⟨RC,rC,O9m⟩⟩
   . by_cases haq:a=q
     . rw[haq,Ab]at z;cases z
     . rw[An haq,ZZ a (fun e=>lx.nr ?B0) (fun e=>lx.nb ?B0)]at z;exact lx.nn a ha z
   . rw[An (At e y.fq),ZZ a (At e f1) (At e f2)];exact y.same _ _ e
 refine K4 fun G3 z=>?_;intro sq;obtain⟨r3,b3,l3x,_⟩:=z.ex;obtain⟨dx3,vW,hp3,l1,l2,l3,l4,l5⟩:=l3x.ob;obtain⟨as3,xa3,na3⟩:=l3x.rw;obtain⟨c3,_,ec3,_,hc3⟩:=?NN xa3.row ?kH;have PY:(?DV).1 ?P=?gI:=An3;rw[PY]at hc3
 have est:?A2 t ?P st ?P=st:=by
  unfold Lat.insT;rw[?lP,?dH]
 refine⟨_,rfl,p,Ad,dx3,vW,_,rfl,hp3,?J,?bM,l1,_,rfl,r3,_,_,_,rfl,rfl,.of xa3.2.1,Bn ec3,_,rfl,p,Ad,dx3,vW,_,rfl,hp3,?J,?eN,l3,_,rfl,q,_,_,_,rfl,rfl,.of z.st,?kD,c3,_,_,_,rfl,rfl,hc3,Bn (by rw[est];exact Cg hb.2.2),_,_,rfl,rfl,_,rfl,?_⟩;ext yZ
 . have h5:s.1 i st<0:=?p2
   refine⟨_,rfl,p,dx3,vW,rfl,hp3,?hG,_,rfl,?B,?oF⟩;have s1:?OF G3 ?v4:=?hS;have hT:?OQ ?v4 (.mi ?P):=⟨T1,_,rfl,?bY,⟨_,_,rfl,rfl,_,_,rfl,rfl,rfl⟩⟩
   generalize ?v4=G4 at s1 hT;refine⟨p,?hQ,Ad,r3,b3,_,n,W,_,_,.mi ?P,rfl,?iO,l3x.keep s1,hT,?kH,?kH,O9m,O9m,fun r' b' G5 sx n1 n2 w=>?_⟩;refine k _ ?P st s hs hI hb hex ((z.redo s1 sx n1 n2 w).re ?_);rw[Lat.insS,?b1 (by rw[PY];exact h5)];rfl
 . have h5:¬s.1 i st<0:=?p2
   refine k _ ?P st s hs hI hb hex (z.re ?_);rw[Lat.insS,?aA (by rw[PY];exact h5)]
noncomputable abbrev Xl:Stmt:=top 46
theorem Po:?s [?a2,?eR,?hV,?cL,?b0] ?xP (As Xl):=Bf
theorem lJ[?u](F:Eo K ?mI ?mI Xl f fd)[?t](El:Has P w K mg ?f ?mR ?o6 6 (Fp K))(Rm:Has P w K mg ?f ?o5 ?tG 2 (R9 K)):Bv P w K mg ?f Ei 7 f fd ?xP (y3 K):=by
 refine ?NP Po;obtain⟨a,b,xs,ms,rfl,hL,hb,hm,h4,⟨kc,JR,hch⟩,kq⟩:=h;ext z7
 refine⟨_,(Af (Cf (Gv (Ga (?RI El (?UU ?l (?U1 4))))) ?pX Bs)
  (Af (?NQ Po.nd Si)
  (Af (?V1 (?U3 Po.nd Po.nd) (?QE Rm ?oR))
  ?h3))),?_⟩
 ext D
 refine⟨_,rfl,_,rfl,a,b,xs,4,ms,rfl,hL,hb,hm,?U,?BN⟩;have hany:((?sQ 4).any ?tJ)=true:=qo3.mpr ⟨kc,qd5.mpr JR,hch⟩;refine ?gT;rw[hany];ext iE;have hL1:=?gM;have hb1:=?wQ;refine ?a3;have lP:b≠D:=At hb1 hD;have s2:?OF H1 ?C4:=?aP;have hL2:=?Q s2 hL1;have hb2:=?OU hb1;generalize zY:?C4=H2 at s2 hL2 hb2;have Rx:H2 D=?c ?gO:=by rw[←zY];exact Ab
 refine ?S ⟨b,?bU,hb2,?oA⟩;refine(?PT b ?bU)
 let Bb4:?aN:=fun i σ G=>Hm fun o1 o2=>B4 (σ=[?w,?eT,?G,o1,o2]) (G b=?c (?O9 ?bU)) (G D=?O4 (?vG)) ((?QJ H2 G))
 refine Uq (d:=b) (o:=o) (kvs:=?bU) Bb4
  ?GA (fun i σ G _ hz=>?A0) ?_ ?_
 . ext iJ;exact Rx
 . intro c q n1 n2 e;rw[?jI];exact e
 . rintro i kk x σ G p hx Ee hp
   ext aC
   revert σ;refine ?oN;intro o1 o2 VU Dr hkG Hq;ext rN;have npb:b≠p:=At VU hp;have npD:D≠p:=At Dr hp;have hlt:?FD:=?sL;have hqd:?v6=q:=by rw[qa1,hq];rfl
   have hpart:=qf2.mp hch q (qb7 hq)
   have hin:0<=q.1/\q.1<?g2:=by
    unfold N2 at hpart;rw[qd2]at hpart;exact DV hpart.1
   have sp:?g G (?O6 G [?d q.1,?d q.2]):=?cB
   have UB:LT K G ?o8 xs:=by
    have e1:Qn b H2 (?SZ b):=fun c r n e=>by rw[An n];exact e
    have l1:=Rep.x e1 hb2 hL2;have d1:(?SZ b) D=?c ?gO:=by ext iJ;exact Rx
    have e2:Qn D (?SZ b) G:=fun c r n e=>by
     by_cases z:c=b
     . subst z;rw[Ab]at e;cases e;exact VU
     . rw[An z]at e;exact hkG c r z n e
    exact Rep.x (m:=[]) e2 d1 l1
   obtain⟨us,v,VT,hat,tv⟩:=LT.get (?Q sp UB) hin.1 hin.2;ext gJ
   have hfl:(?BT).length<=4:=by
    rcases Gh (l:=xs) (i:=?f4) (d:=[]) with z | z
    . exact h4 _ z
    . rw[z];exact ?a0
   have hbl:=aE h4 ms i;refine⟨_,rfl,_,rfl,_,rfl,a,us,_,v,rfl,rfl,VT,hat,_,rfl,D,v,?vG,?BT,q.2,rfl,?QA Dr,tv,O9m,fun G2 sG2 EW=>?_⟩;refine⟨_,_,rfl,sG2 _ _ lP (?QA VU),?_,?A4⟩
   . rw[EW];show _=?NL HO.dK (cK (iO (?vG) (?fF (?v6).1.toNat []) (?v6).2));rw[hqd]
   . exact sG2 c r n2 (?QA (hkG c r n1 n2 e))
 . ext bO;refine ?oN;intro o1 o2 VU Dr hkG Hq;rw[Rr]at Dr;refine⟨VU,_,rfl,kq D _ (?nZ hD) (fun c q e=>?_) (by ext iJ;exact Dr)⟩;by_cases z:c=b
   . subst z;rw[hb]at e;cases e;exact Ab
   . rw[An z];exact hkG c q z (At ?mA hD) (?OU ?mA)
noncomputable abbrev Tw:Stmt:=top 57
theorem M5:?s [?X,?b2,?qC,"stairs","i",?hT] ?tT (As Tw):=Bf
theorem gR[?u](F:Eo K ?qO ?qO Tw f fd)[?t](Uh:fX P w K mg ?f Ad ?bV 2 (?NH dN))[?M8](Jh:Jy P w K mg ?f Ad ?tP ?iU 6 (?NH Xa))(Jg:Jy P w K mg ?f Ad ?xT ?bZ 5 (?NH W9)):Bv P w K mg ?f Ei 7 f fd ?tT (?NH Vc):=by
 refine ?NP M5;obtain⟨v,L,r,b,sv,N,n,w,M,P,PB,J,rfl,hv,lx,hn,hw,TJ,j0,jt,k⟩:=h;obtain⟨ta,us,rfl,EV,Yu,Nm⟩:=?i4;ext eX;obtain⟨ps,xp,np⟩:=lx.rw;obtain⟨bs,xb,nb⟩:=lx.bk;have nN:?F9:=?QM lx.nn
 refine⟨_,(Af (Au (i:=3) M5.nd (Mo Uh hr ?h T.m_Stairs (Aa (B9 (N':=[?cD,"paper"]) (cap:=?ET) ?h ?R (?UI (?NB ?l (Ay (K:=K) ?m))) (?NA (?TV OT OT)) ?aH (?NA (Bd ?dN ?l ?n))) (?TW (?RX (Aa (?NN Ay ?m) Ae))))))
  (Af (Cv qc6 rfl (?OK (?TW ?h0)) (?RE 4 M5.nd) (Af (Bx (Dj ?v ?J Jh hr ?g8))
  (Ak (Bx (Mn ?v ?J Jg hr)))))
  (Af (Au (i:=5) M5.nd (Mo Ku hr ?h ?r7 (Aa (B9 (N':=?v7) (cap:=?kY) ?h ?R (?NN Cm (Ay (K:=K) ?v)) (?NA (?RE 0 oR)) ?aH (?NA (Gz ?dM ?l (Gw ?n) Nb))) (?TW (?NN Ay ?v)))))
  (?UW (B5 (Aa (B9 (N':=?v7) (cap:=?kY) ?h ?R (?NN Cm (Ay (K:=K) ?v)) (?NA (?RE 0 oR)) ?aH (?NA (?V9 Nb ?n))) ?eE)))))),?_⟩
 ext D
 refine ?N9 (fun σ' H'=>Hm fun p q=>?SF none/\SX Ad H H' p q (fun a=>?oK) n ?i5 (?KC) 0 (?L0,PB))
 . refine⟨_,rfl,_,rfl,L,Ag,dx,fs,_,rfl,hp,?cU,?pF,l1,ta,r,rfl,(?TK EV),(?TK ?HB),?a3⟩
   refine AS (K:=K) (a:=ta) (b:=r) (xs:=us) (ys:=ps.map ?bI) (n:=n) (by rw[Yu,qa3,xp.1,qx8]) (fun i zs τ H1=>Ef fun cs=>B4 (zs=cs.map ?bI) (cs.length=i) (?d1 H H1 D cs ?i5 (?L0)) (?OC [o1,o2]))
    ⟨[],rfl,rfl,?vE hD,?j,?j,rfl⟩ (fun i zs τ H1 _ hz=>by obtain⟨cs,_,_,R,_⟩:=hz;exact⟨?dO EV,?dO (?HB)⟩) ?_ ?_
   . rintro i x y zs τ H1 pr hx hy ⟨cs,rfl,hcl,R,o1,o2,rfl⟩ hpr;obtain⟨hi,bx,rfl,hbx⟩:=Nm i x hx;obtain⟨cy,_,ey,_,hcy⟩:=?NN xp.row hi;rw[ey]at hy;cases hy;have sp:?g H1 (?OY cy):=?o hpr;ext yM;refine⟨_,rfl,_,rfl,bx,cy,_,_,rfl,rfl,sp.seq (?dO hbx),sp.seq (?dO hcy),Be (by rw[Br,Br];omega),?e9⟩;have sE:?g (?OY cy) (?TD (?OY cy) (?J0++VI n (P i))):=?fC;refine⟨sE _ _ (?QA R.at),?fY,cs++[E],?r8,?ID,?_,_,_,rfl⟩;refine ?m6 (sp.free hE) (?ER sE) ?_;rw[hcl,Ab,IP (h:=?KE w M P i) (fun c hc=>Lat.beside_lo hc) (fun a _=>Lat.beside_hi w M P i a)]
   rintro zs τ H1 ⟨cs,rfl,hcl,R,_⟩;have hp1:=?HC;refine⟨_,rfl,L,Ag,dx,fs,_,rfl,hp1,?cU,?q4,l2,b,_,rfl,?z (?NG ?cI ?xE),fun B hB=>?_⟩;intro p rH np' vI xW;have s2:?OF H1 ?FY:=?o hB;have hB2:upd H1 B (?i (?j1)) B=?vI:=Ab;generalize ?FY=H2 at s2 hB2 np' vI;have s3:?OF H2 ?AE:=?mE np';have s03:=(?mF s2).trans s3;have f2:∀a,?HT->?hI:=fun a e=>(?mF s2).free e;refine⟨p,rH,_,_,rfl,Ab,fun q H4 fs' hq hfs sx hq4 Pb=>?kQ⟩;generalize ?AE=H3 at s3 s03 hq sx;have f3:∀a,?KW->?hI:=?IK;have st:∀a o,H2 a=?cM->?KP:=?PV np';have xc:=(?w0 s2)
   have RL:TA H2 B bs n n PB:=⟨xb.1,hB2,fun i c e=>?OU (?cI _ _ (?j7 i c e))⟩
   have hHB:?SE B:=?K5 hB;have A81:=?HZ
   have q2:H2 q=none:=?xW hq;have nM:∀a,H2 a≠none->?nN->¬(?oK):=fun a h1 h2 h3=>h3.elim (?PE h1 (z▸q2)) h2;refine ?NC ⟨p,q,rfl,⟨⟨D,B,⟨⟨rH,fs',Pb,?_,?_,?_,?fR,?_⟩,⟨cs,xc.same st,?bR⟩,⟨bs,?wM st,?bR⟩,?_,?_,?_,?pR⟩,?jX,hHB⟩,hq4,fun a o e=>?BL,f2 _ np',f3 _ hq,?d2,⟨O9m,O9m,?a0⟩⟩⟩
   . rw[hfs];ext aI
   . rw[hfs];ext aI
   . rw[hfs];ext aI
   . rw[hfs,Aq,?eC,Aq,?eC,Aq,?eC];rfl
   . rw[hfs];exact qa5 ?gE (qa5 ?qU (qa5 (qj5 ?qU) ?aM))
   . ext rO;obtain⟨z1,z2,z3⟩:=?AH;exact⟨z2,At z3 hB,nM _ (by rw[?OU z3];ext l4) (nN _ z1)⟩
   . have:=?tY a ha;refine⟨?PE this ?y5,?PE this (z▸hHB),nM a (RL.there.2 a ha) ?H5⟩
   . exact At R.at hB
   . exact nM D (by rw[A81];ext l4) (nN _ ?jX)
   . exact nM B (by rw[hB2];ext l4) (nN _ hHB)
   . rcases ha with rfl | ha
     . rw[hq4]at z;cases z
     . cases e:H a with
       | none=>exact ?G0
       | some o=>rw[?BL]at z;cases z
 refine UY fun p q H1 x0=>?_;intro sq;refine ?N9 (fun σ' H'=>?U9 (?T3 H' n) n)
 . refine⟨_,rfl,ta,us,rfl,?z (x0.same.seq EV),_,rfl,O9m,O9m,?_⟩;refine D7 (lo:=0) (n:=(?JF:Int).toNat) (fun i σ' G=>?U9 (?T3 G i) i) ⟨?j,_,_,rfl,x0,j0 _⟩ ?_ ?_
   . ext rY;revert σ;refine vQ ?_;intro o4 t s y hJ Hq;rw[qd6,Yu]at hi;rw[qk9];obtain⟨I,hP,hD⟩:=TJ.step i t s hi hJ;obtain⟨r3,b3,ly,_⟩:=y.ex;obtain⟨dx3,vW,hp3,_,_,_,m4,_⟩:=ly.ob;refine⟨_,rfl,p,dx3,vW,rfl,hp3,?KM,_,rfl,H,p,q,_,n,w+n,t,i,s,I,rfl,y,hi,hP,jt i t s hJ,fun G1 spot st s' hs hI hb hex z=>?_⟩;obtain⟨d1,d2⟩:=hD ?P st s' hs hI hb hex;obtain⟨r4,b4,lz,_⟩:=z.ex;obtain⟨dx4,fs4,Pb,_,_,_,m5,_⟩:=lz.ob;refine⟨_,rfl,p,dx4,fs4,rfl,Pb,?J6,H,p,q,_,n,w+n,_,i,_,rfl,z,d1,fun G2 z2=>?_⟩;exact⟨_,_,_,rfl,z2,d2⟩
   . ext bO;refine vQ ?_;intro o4 t s y hJ Hq;rw[qd6,Yu]at y hJ;exact ?NC ⟨o4,t,s,rfl,y,hJ⟩
 refine UX fun o4 t s G y hJ=>?_;intro sq;obtain⟨r,b,ly,f1,f2⟩:=y.ex;obtain⟨dx,fs,hp,l1,l2,l3,l4,l5⟩:=ly.ob;obtain⟨as,xa,na⟩:=ly.rw;obtain⟨bs,xb,nb⟩:=ly.bk;have s0:=y.same;refine ?N9 (fun σ' H'=>Hm fun(L' E:Addr)=>En (σ'=[?cS,?cH,?cE,?y,o4,rS L']) ?n7 (?SE L') (?SE E) (LX H' Ag L' E b ?j n n ?wT N))
 . refine⟨_,rfl,p,Ad,dx,fs,_,rfl,hp,?J,?bM,l1,r,rfl,(?TK ?dQ),?e9⟩;have xa':=?iK
   let Bb3:?a1:=?NY (?d1 G G1 E cs n (?IA))
   refine ?OJ Bb3 ⟨[],rfl,rfl,?vE hE,?j,rfl⟩
   . ext LM
     ext M2;refine(?PS hc);have sF:?PZ F (?i (C8 (VI ?i5 (?gI)) ?H1 ?j)):=?r6;ext LK;rw[hcl,Ab,uT]
   ext MD;have hp1:=?HC;refine⟨_,rfl,p,Ad,dx,fs,_,rfl,hp1,?J,?qI,l2,?_⟩;intro L' CG nL vI xW;have s3:?OF G1 ?tS:=?mE nL;refine⟨L',CG,Ag,_,_,rfl,?d2,Ab,fun H4 fs' hfs hH4=>?kQ⟩;have sx:?bN L' (?tS) H4:=by rw[hH4];ext N3
   have hL4:H4 L'=?c (?K Ag CG fs'):=by rw[hH4];exact Ab
   clear hH4;generalize ?tS=G3 at s3 sx;have st:∀a o,G1 a=?cM->?KP:=?PV nL;have nN':∀a,?QX G->?nN:=fun a e=>nN a (?pP e);refine ?NC ⟨L',E,rfl,?mF st,?pP (?K5 nL),?pP ?jX,⟨⟨CG,fs',hL4,?_,?_,?_,?fR,?_⟩,⟨cs,?w0 st,?bR⟩,⟨bs,(xb.same ?cI).same st,?bR⟩,?_,nN' _ ?jX,?_,?pR⟩⟩
   . rw[hfs];ext aI
   . rw[hfs];ext aI
   . rw[hfs];ext aI
   . ext LL
   . ext M1
   . ext rO;obtain⟨z1,z2,z3⟩:=?AH;exact⟨z2,?PE ?G8 ?DX,nN' _ z1⟩
   . exact⟨fun z=>?tY a ha ?y5,?FS,?PE ?H5 (?S z)⟩
   . exact ?PE ?G8 ?y5
   . exact ?PE ly.nb (?S z)
   . cases e:H a with
     | none=>exact ?G0
     | some o=>rw[st _ _ (?cI _ _ (s0 _ _ e))]at z;cases z
 refine iT fun L' E G4 s4 fL fE lx4=>?_;intro sq;have Pb:=s4 _ _ hp;have xa':=s4 _ _ ?iK;refine⟨_,rfl,p,Ad,dx,fs,_,rfl,Pb,?J,?bM,l1,r,rfl,(?SQ xa'),?a3⟩
 let Bb2:?a1:=?NY (?d1 G4 G1 D cs w (fun x a=>s.1 x a))
 refine ?OJ Bb2 ?kC
 . ext LM
   ext M2;refine(?PS (s4.seq hc));have sF:?PZ F (?i (C8 (VI ?i5 (?gI)) ?j ?H1)):=?r6;ext LK;rw[hcl,Ab,Ao7]
 ext MD;refine⟨_,rfl,?B,?AI⟩;have s5:?PZ tp (?p ?JT):=?o htp;have VD:=?mF s5;exact k tp D L' E b cs t s _ (?SU ?sT VD) hJ (?bY) (?w0 s5) (lx4.keep VD) ((?sT s4).free ?jX) fL fE f2
noncomputable abbrev Km:Stmt:=top 49
theorem Ja:?s [?a2,"k","below","columns"] ?fL (As Km):=Bf
theorem Vz[?u](F:Eo K ?mN ?mN Km f fd)[?t][?yP][?rG][?l0](Pd:Has P w K mg ?f ?oD ?p0 1 (Qc K))(cD:Has P w K mg ?f ?mI ?xP 7 (y3 K)):Bv P w K mg ?f Ei 8 f fd ?fL (Ny K):=by
 refine ?NP Ja;obtain⟨a,xs,k,rfl,hL,Qi,h4,h0,h5,kq⟩:=h;ext z7
 refine⟨_,(Af (?UQ (?V7 By (?U1 4)))
  (Af (Au (i:=2) Ja.nd (?RI Bq (?NB ?l (?V7 Nf ?n))))
  (Af (Wh (N':=[?cL,"below",?a2]) (cap:=[none,?gD,?iP]) (i:=3) Ja.nd ?h ?jR ?h ?R (?NN Cm (?RI Bq ?cJ)) (?NA (?RE 0 XZ)) ?aH (?NA (?RI Pd (?VE ?n (?US cD (Aa ?m (Aa (?V5 (Xv ?l Am jH)) Ae)))))))
  (?RF (?US Cy (?NB ?v (Az ?aQ ?aV qh1 ?Z))))))),?_⟩
 ext D
 refine⟨_,rfl,_,_,rfl,rfl,k,5,rfl,h0,h5,?_⟩;refine ?U7 [?w,?aJ,none,none];ext aO;refine ?N9 (fun σ' H'=>Ef fun(B:Addr)=>Dg (σ'=[?w,?aJ,rS B,none]) ?a4 (?RP B (?U6 ?kV)))
 . refine⟨_,rfl,_,rfl,_,_,rfl,rfl,a,k-1,xs,rfl,hL,Qi,fun B H1 hB s1 hB1=>?_⟩;exact ?NC ⟨B,rfl,s1,hB1⟩
 refine Io fun B H1 s1 hB=>?_;intro sq;have hL1:=?gM;have bl:?l7<=1000:=?tZ;have cl:?IJ:=?tZ;refine ?N9 (fun σ' H'=>Hm fun(C:Addr) ?v3=>Dg (σ'=[?w,?aJ,rS B,rS C]) (as.length=?qE) (?d1 H1 H' C as ?l7 (?SB 0)))
 . refine⟨_,rfl,_,rfl,a,k,xs,rfl,hL1,Qi,fun P H2 hP s2 hP2=>?_⟩;refine⟨P,rfl,(?SQ hP2),?a3⟩
   let Bb1:?a1:=fun i ys τ G=>Ef fun ?v3=>B4 ?pZ ?o0 (?d1 H2 G D as ?l7 (?SB 0)) (?NZ [o,rS B,?w])
   refine De (K:=K) (a:=P) (xs:=?U6 ?jH) Bb1
    ?kC (fun i ys τ G _ hz=>by obtain⟨_,_,_,R,_⟩:=hz;exact ?NG ?cI hP2) ?_ ?_
   . rintro i x ys τ G hx ⟨as,hal,rfl,R,o,rfl⟩;have hi:i<?qE:=?n8
     have hxv:x=?d (?uD):=by
      ext yN
     subst hxv
     have hmem:?uD∈?jH:=by
      rw[qa1,?d3];exact qe5 hi
     obtain⟨q0,q1,q2⟩:=F5 hmem;generalize hpe:?uD=pl at q0 q1 q2;have A49:G7 [] [(?nT pl,?x 1)]=cK ?gF:=rfl;have sG:=?aT ?cI;refine⟨_,rfl,_,rfl,fun e he=>⟨_,rfl,Ab,[(?nT pl,?x 1)],rfl,?cK,?_⟩⟩;rw[A49]
     have e3:upd (upd G e ?gO) e (?TJ ?gF)=?l9:=by
      funext b
      by_cases hb:b=e
      . subst hb;rw[Ab,Ab]
      . rw[?hD,?hD,?hD]
     rw[e3];have g1:?OF G ?l9:=?o he;have zX:(?l9) e=?O4 ?gF:=Ab;generalize ?l9=G1 at g1 zX
     have zV:?CF<=4:=by
      rcases Gh (l:=xs) (i:=pl.toNat) (d:=[]) with z | z
      . exact h4 _ z
      . rw[z];exact ?a0
     have Yv:Nr xs k ?gF=true:=by
      unfold Nr N2;rw[List.all_cons,List.all_nil,Bool.and_true,qd2];refine⟨?_,?cK⟩;show(?a6 (0<=pl)&&?a6 (pl<?g2)&&?a6 (Bi ?CF=k))=true;rw[qf6 q0,qf6 q1,qf6 q2];rfl
     have hk3:k<4:=by
      rw[←q2];unfold Bi;ext f0
     refine⟨a,e,xs,?gF,rfl,?Q (?uR) hL1,zX,?cK,h4,⟨k.toNat,O9m,by rw[?JN];exact Yv⟩,fun E2 G2 hE2 g2 A83=>?_⟩;refine⟨B,E2,?kV,Em xs ?gF,rfl,?NG ((?uR).trans g2) hB,?z A83,bl,fun D2 G3 Rx g3 eX=>?_⟩;have gG:=?OA ?hR g3;refine⟨gG _ _ R.at,?fY,?DC,?IM,?r8,?m6 ((?hR).free Rx) gG ?_,_,rfl⟩;rw[eX,tQ,hal,hpe]
     congr 3
     apply aD;intro i' _;exact Zo xs pl _
   . rintro ys τ G ⟨as,hal,rfl,R,_⟩;rw[qa3]at hal;exact ?NC ⟨D,as,rfl,hal,R.earlier s2⟩
 refine uY fun C as H2 hal R=>?_;intro sq;refine⟨_,rfl,_,rfl,B,_,rfl,?z (?NG ?cI hB),?e C,?qE,?l7,_,by rw[qa3];rfl,R.rep hal,cl,bl,fun D iN H3 yT R3=>?_⟩;exact kq D iN H3 yT (R3.earlier (?c0 ?cI))
noncomputable abbrev Oo:Stmt:=Eh ?iR 2
theorem Jq:?RD [?aG,"height","by_rows","by_columns"] Oo:=Bf
theorem bS[?u](F:Eo K ?t6 ?GT Oo f fd)[?t](Sx:Has P w K mg ?f ?qO ?tT 7 (?NH Vc))[?l0]:?RQ 8 DN:=by
 refine ?NP Jq;obtain⟨H0,p,L,R,nm,n,w,M,l,r,ns,Nx,rfl,x,ok,k⟩:=h;obtain⟨RC,rC⟩:=x.sm;ext yJ;ext yQ
 ext rT
 obtain⟨ta,us,rfl,hq,Yu,_⟩:=Hf hrep;obtain⟨J1,T1,j10,j1t,j1n⟩:=ok.ex;have Ak5:=?xC
 replace hq:=?IX
 refine⟨_,(Af (?OW Jq.nd ?kA)
  (Af (?NQ Jq.nd (?RI Sx (Aa ?W (Aa ?W ?fU))))
  (Af (?NX Jq.nd (?RI Sx (Aa (?US Cy (Aa ?e8 ?fU)) (Aa ?n ?fU))))
  (Af (?NM (?RI Cy (Aa (?TZ ?v) ?Y)))
  (Af (?NM ?e8)
  (?UX (?TZ ?v))))))),?_⟩
 ext D
 refine ?N9 (?RH [?y,?x3,none,none] ?bK)
 . refine⟨_,rfl,p,Ah,dx,fs,_,rfl,hp,?E,?eI,l1,ta,us,rfl,?f9,?NC ⟨by rw[Yu];rfl,rfl⟩⟩
 ext aO;refine ?N9 (fun σ' H'=>uV fun(tp D L' r1' VZ:Addr) ?v3 ?u1 ?x7=>FY (σ'=[?y,?x3,?aW,none]) ?a4 (J1 n t s) (SqT K H' tp ?JT) (TA H' D as n w s.1) (?SG L' ?wT) (?SE L') (?SE r1') (?SE VZ))
 . refine⟨_,rfl,p,Ah,dx,fs,_,rfl,hp,?E,?eI,l1,_,rfl,p,Ah,dx,fs,_,rfl,hp,?E,?nK,l2,_,rfl,p,Ah,dx,fs,_,rfl,hp,?E,?f5,l3,?i8,L,r1,b1,?j,_,n,w,M,l.1,l.2,J1,rfl,Ak5,lx,RC,rC,T1,j10,j1t,fun tp D L' r' b' as t s H1 s1 hJ hT xD lx1 _ fL fr fb=>?_⟩;exact ?NC ⟨tp,D,L',r',b',as,t,s,rfl,s1,hJ,hT,xD,lx1,fL,fr,fb⟩
 refine uX fun tp D L' r1' VZ as t s H1 s1 hJ hT xD lx1 fL fr fb=>?_;intro sq;obtain⟨J2,T2,j20,j2t,j2n⟩:=j1n t s hJ;have hp1:=?iS;refine ?N9 (fun σ' H'=>uV fun(WW D2 R' r2' RI:Addr) (iN:?mZ) (t2:?AX) (s2:?e3)=>FY (σ'=[?y,?x3,?aW,rS WW]) ?jF (J2 w t2 s2) (SqT K H' WW [?eF,?e R']) (TA H' D2 iN w n s2.1) (LX H' Ag R' r2' RI ?j w w (fun x a=>s2.1 x (n+a),s2.2) ?r5) (H1 R'=none) (H1 r2'=none) (H1 RI=none))
 . refine⟨_,rfl,tp,_,_,_,rfl,rfl,hT,rfl,_,rfl,p,Ah,dx,fs,_,rfl,hp1,?E,?nK,l2,?fB,n,w,s.1,rfl,xD.rep,O9m,O9m,fun F fas H2 hl2 R2=>?_⟩;have hp2:=?fH _ _ hp1;refine⟨_,rfl,_,rfl,p,Ah,dx,fs,_,rfl,hp2,?E,?i6,l4,?e F,R,r2,b2,?j,_,w,n,(fun i j=>s.1 j i),r.1,r.2,J2,rfl,R2.rep hl2,ly.keep (?c0 ?fH),rC,RC,T2,j20,j2t,fun WW D2 R' r' b' iN t2 s2 H3 s3 hJ2 hT2 xD2 yF _ fR UC fb2=>?_⟩;exact ?NC ⟨WW,D2,R',r',b',iN,t2,s2,rfl,?o7 s3,hJ2,hT2,xD2,yF,?m7 fR,?m7 UC,?m7 fb2⟩
 refine uX fun WW D2 R' r2' RI iN t2 s2 H3 s3 hJ2 hT2 xD2 yF fR UC fb2=>?_;intro sq;have hp3:=s3 _ _ hp1;have hT3:=s3.seqT hT;refine⟨_,rfl,WW,_,_,_,rfl,rfl,hT2,rfl,_,rfl,?eF,w,n,s2.1,rfl,xD2.rep,O9m,O9m,fun E eas H4 zV R4=>?_⟩;have cX:=R4.same;have Pb:=cX _ _ hp3;have vE:?E3:=((x.same.trans s1).trans s3).trans cX;have n4:=(?c0 (?jC cX)) _ _ x.nu;have Az3:Rep K (Su H4 ?DU) (?e E) (dT n w fun i j=>s2.1 j i):=R4.hid zV fun a ha z=>by cases ha;rw[(?c0 s3) _ _ x.nu]at z;cases z
 have hT4:=cX.seqT hT3;have A72:=cX.seqT hT2
 have ex:∀a,?A3->H4 a≠none:=fun a ha=>by
  ext z4
  . rw[n4];ext l4
  . obtain⟨_,z,_⟩:=yF.rw;exact ?K3
  . obtain⟨_,z,_⟩:=yF.bk;exact ?K3
 have z1:LX H4 Ag L' r1' VZ ?j n n ?wT (fun a=>?A3):=lx1.more (?jC cX) (fun a ha=>by
  ext z4
  . exact ?z (?d2)
  . exact ?S UC
  . exact ?S fb2) ex
 have z2:=yF.keep cX;have TH:p≠L':=At hp fL;have VH:p≠R':=At hp1 fR;have LR:L'≠R':=fun z=>by obtain⟨_,_,q,_⟩:=lx1.ob;rw[z,fR]at q;cases q
 refine(?OM fs ?eI);have xB:?bN p H4 (?vV):=?f3;have eW:upd H4 p (?P1 E) p=?c (?P1 E):=Ab;have zU:Kp H4 (?vV):=Kp.upd;have e1:?KZ=fs.length:=Ml l1;generalize ?vV=H5 at xB eW zU;have hT5:=JA hT4 Pb xB;have A71:=JA A72 Pb xB;refine⟨_,rfl,tp,_,_,_,rfl,rfl,hT5,rfl,_,rfl,p,Ah,dx,_,rfl,eW,?E,?f5,O9m,?_⟩;have e2:?L2=?KZ:=Ml (x:=?e L) (by ext rL;exact l3);have DG:?bN p H5 (?w5):=?f3;have hp6:upd H5 p (?K Ah dx (?NS E)) p=?SK Ah (?NS E):=Ab;have kp6:Kp H5 (?w5):=Kp.upd;generalize ?w5=H6 at DG hp6 kp6;refine⟨_,rfl,WW,_,_,_,rfl,rfl,JA A71 eW DG,rfl,_,rfl,p,Ah,dx,_,rfl,hp6,?E,?i6,O9m,?_⟩;have e3:(?H ?gL (?bI R') (?HX)).length=?L2:=Ml (x:=?e R) (by ext M0;exact l4);have sx:?bN p H4 (?S9 H6 (?H ?gL (?e R') (?NS E))):=?cT (xB.trans DG);have kp:Kp H4 (?S9 H6 (?H ?gL (?e R') (?NS E))):=(zU.trans kp6).trans ?c4;have g0:∀a,?hI->?r4:=?PN x.same.free;have g1:∀a,?FU->?r4:=?PN ?v5;have npn:nm≠p:=E3 x.nu hp ?k1
 refine k L' R' _ _ _ _ (j2n t2 s2 hJ2) ⟨⟨?e E,dx,_,Ab,?_,?_,?_,?_,?_,?fR,O9m,fun M' e=>by
  cases e
  exact A99 (p:=p) (dx:=dx) (C:=Ah) Az3 (by rw[Yx ?HE];exact Pb) (fun a o ne e=>by
   by_cases z:a=nm
   . rw[LZ z]at e;cases e
   . rw[Yx z]at e ⊢;exact sx _ _ ne e)⟩,⟨r1',VZ,r2',RI,z1.x Pb TH sx kp,z2.x Pb VH sx kp,g0 _ fr,g0 _ fb,g1 _ UC,g1 _ fb2⟩,sx _ _ npn n4,sx.same vE x.fr.1,⟨x.fr.1,g0 _ fL,g1 _ fR,?JG⟩,?KS,⟨RC,rC⟩⟩
 . ext aI
 . ext aI
 . ext aI
 . ext aI
 . ext aI
 . iterate 3 ext M5
   exact l6 m hm
noncomputable abbrev Gu:Stmt:=Eh ?iR 1
theorem Kk:?RD ?iU Gu:=Bf
theorem Ri[?u](F:Eo K ?yC ?E8 Gu f fd)[?t](Lb:Jy P w K mg ?f Ah ?t6 ?bZ 8 (?NH DN))(No:Has P w K mg ?f ?pM [?X] 1 (Nz K)):?RQ 9 Og:=by
 refine ?NP Kk;obtain⟨H0,p,L,R,nm,n,w,M,l,r,U,rfl,x,ok,nx,k⟩:=h;have sm:=x.sm;obtain⟨_,dx,fs,hp,_,_,_,_,_,l6,_⟩:=x.ob
 refine⟨_,(Af (?Q8 ?l Lb)
  (Af (Os qc6 (?NV No ?fU) (Ak (?Q8 ?l Lb)))
  (Ak (Cv qc6 rfl (?OK (?TW (Az (MR ?h) T.n_min mU (Aa ?kA ?fU)))) (?RE 1 Kk.nd) (Ak (Cf (?NR Mp (?TX ?c2 ?n)) (?RL ?W (?TX ?c2 ?n)) Bs)))))),?_⟩
 ext D
 refine ?N9 (fun σ' H'=>?lZ/\∃L R m M l r,?sD/\?A5)
 . exact⟨_,rfl,p,dx,fs,rfl,hp,?CN,H0,p,L,R,nm,n,w,M,l,r,[],_,rfl,x,ok,fun L' R' M' l' r' H' ⟨m,hu⟩ y=>?NC ⟨rfl,L',R',m,M',l',r',hu,y⟩⟩
 refine K4 fun H1 CY=>?_;intro sq;obtain⟨L,R,m,M,l,r,hU,x⟩:=CY;clear ok hp l6;refine ?N9 (fun σ' H'=>?lZ/\∃L R m M l r,?sD/\?BR/\?A5)
 . refine⟨fun m σ' G=>?lZ/\∃L R M l r,?sD/\?RW G,⟨m,rfl,L,R,M,l,r,hU,x⟩,?_⟩;rintro m σ G Ee;ext rX;obtain⟨rfl,L,R,M,l,r,hU,x⟩:=Ee;ext yJ
   ext rT
   refine⟨_,rfl,p,Ah,dx,fs,_,rfl,hp,?E,?eI,l1,tv,n,w,M,rfl,?xC,O9m,O9m,?BE,?BE⟩
   . ext iE;exact ?NC ⟨rfl,L,R,m,M,l,r,hU,hS,?EU⟩
   . ext l5;refine⟨fun σ' G'=>?lZ/\∃L R m' M l r,m'<m/\U m' M l r/\?RW G',?_,?_⟩
     . rintro σ' G' ⟨rfl,L,R,m',M,l,r,hm,hU,y⟩;exact⟨m',hm,rfl,L,R,M,l,r,hU,y⟩
     . exact⟨_,rfl,p,dx,fs,rfl,?iS,?CN,H0,p,L,R,nm,n,w,M,l,r,[],_,rfl,?EU,nx m M l r hU hS,fun L' R' M' l' r' H' ⟨m',hm,hu⟩ y=>⟨rfl,L',R',m',M',l',r',hm,hu,y⟩⟩
 ext z2;obtain⟨L,R,m,M,l,r,hU,hS,x⟩:=CY;ext yJ
 ext rT
 obtain⟨ta,us,rfl,hq,Yu,Nm⟩:=Hf hrep
 replace hq:=?IX
 have emin:?EM=min n w:=?oP
 refine⟨_,rfl,p,Ah,dx,fs,_,rfl,hp,?E,?eI,l1,ta,us,rfl,?f9,_,rfl,p,Ah,dx,fs,_,rfl,hp,?E,?nK,l2,_,_,rfl,_,rfl,?oP,?oP,?_⟩;refine D7 (lo:=0) (n:=?EM) (fun i σ' G=>Ef fun o1=>σ'=?BD/\WX K Ag Ah H0 G p L R nm n w ?pJ l r (NB i M)) ?EO ?_ ?_
 . clear hp hrep hq Nm l1 l2 l3 l4 l5 l6 l7;rintro i σ G hi ⟨o1,rfl,y⟩;rw[emin]at hi;rw[qk9];obtain⟨tv,dx,fs,hp,l1,l2,l3,l4,l5,l6,l7,hrep⟩:=y.ob
   ext rT
   obtain⟨ta,us,rfl,hq,Yu,Nm⟩:=Hf (?xC);have e:=qa0 (l:=us) (i:=i) O9m;obtain⟨_,b,eb,hb⟩:=Nm i _ e;rw[eb]at e;refine⟨_,rfl,p,Ah,dx,fs,_,rfl,hp,?E,?eI,l1,_,rfl,ta,_,_,_,rfl,rfl,hq,Bn e,_,rfl,b,_,_,_,rfl,rfl,hb,?kD,rfl,_,rfl,?_⟩;ext aL
   . have h0:¬M i i=0:=?M
     refine⟨_,rfl,p,Ah,dx,fs,_,rfl,hp,?E,?e4,l5,?O0 y.nu,_,rfl,p,Ah,dx,fs,_,rfl,hp,?E,?eI,l1,_,rfl,ta,_,_,_,rfl,rfl,hq,Bn e,_,rfl,b,_,_,_,rfl,rfl,hb,?kD,nm,_,_,rfl,rfl,y.nu,?_,?_⟩
     . have:=tG i M;exact ?fY
     . have z:=y.num (ns':=NB ?dK M);rw[O0,?aA h0,qb8]at z;exact⟨_,rfl,by rw[O0,?aA h0];exact z⟩
   . have h0:M i i=0:=?M
     exact⟨_,rfl,by rw[O0,?b1 h0];exact y⟩
 . ext bO;ext zA;rw[emin]at y;exact k L R m M l r _ hU hS y
noncomputable abbrev Q7:Stmt:=top 62
theorem K7:?s [?X,?b2,"work","left_back",?gL] ?fE (As Q7):=Bf
theorem EE[?u](F:Eo K ?qW ?qW Q7 f fd)[?t](CA:fX P w K mg ?f Ah ?pU 3 (?NH dO))(Ha:Jy P w K mg ?f Ah ?yC ?bZ 9 (?NH Og))(Fx:Jy P w K mg ?f Ah ?xS ?bZ 5 (?NH y7))[?l0](Uk:Has P w K mg ?f ?qZ ?pL 3 (U9 K)):Bv P w K mg ?f Ei 10 f fd ?fE (Sc K):=by
 refine ?NP K7;obtain⟨v,n,w,A,Fin,rfl,hv,hn,hw,hP,k⟩:=h;obtain⟨ta,us,rfl,hq,Yu,_⟩:=?i4;obtain⟨U,Y,a1,a2,a3,a4,a5⟩:=hP.ex
 refine⟨_,(Af (?TE Uk ?cJ)
  (Af (?NQ K7.nd (Mo CA hr ?h T.m_Work ?cJ))
  (Af (?Q8 ?m Ha)
  (Af (?Q8 ?m Fx)
  (Af (Au (i:=3) K7.nd (?RI Cy (?NB ?q7 ?h0)))
  (Af (?P7 K7.nd (?RI Cy (Aa ?q7 ?Y)))
  (?RF (?V3 (?NN Ay ?m) (Aa ?q7 (Aa ?v (?NB ?L ?q7))))))))))),?_⟩
 ext D
 refine qy2 (t:=?w9) (?RH [?cS,?cH,none,none,none] ?jV) ?k ?_
 . refine⟨_,rfl,_,rfl,?i8,n,w,A,rfl,hv,hn,O9m,?FN⟩;ext iE;ext z8
 ext rM;refine ?N9 (fun σ' H'=>l9 fun p L R nm=>?S0 ?y/\WX K Ag Ah H1 H' p L R nm n w (?c A) ?dT ?dT [])
 . ext zB;intro p dx np vI xW;have sN:?g H1 (?S9 (upd H1 dx (.own p)) []):=?mE np;exact⟨H1,p,dx,?i8,n,w,A,rfl,sN,np,Ab,?Q s1 hv,O9m,hw,fun L R nm H' y=>⟨rfl,?NC ⟨p,L,R,nm,rfl,y⟩⟩⟩
 refine Ac2 fun p L R nm H2 x=>?_;intro sq;refine ?N9 (fun σ' H'=>Ex6 fun L R k f l r=>En (?S0 ?y) (k<=n) (k<=w) (Y k 0 f l r) (WX K Ag Ah H1 H' p L R nm n w ?j l r (Hy k f)))
 . ext kZ;refine⟨_,rfl,p,HV,HK,rfl,hpa,?IS,H1,p,L,R,nm,n,w,A,_,_,U,rfl,x,a1,a2,fun L' R' m M l r H' hU hS y=>?_⟩;obtain⟨k,f,e,k1,k2,hY⟩:=a3 m M l r hU hS;rw[e]at y;exact ?NC ⟨L',R',k,f,l,r,rfl,k1,k2,hY,y.drop⟩
 refine Ab7 fun L R kk f l r H3 k1 k2 hY x=>?_;intro sq;refine ?N9 (fun σ' H'=>N8 fun f l r=>B4 (?S0 ?y) (Fin kk f l r) (?CP kk kk f) (WX K Ag Ah H1 H' p L R nm n w ?j l r (Hy kk f)))
 . ext kZ;refine⟨_,rfl,p,HV,HK,rfl,hpa,?IS,H1,p,L,R,nm,n,w,kk,l,r,f,Y kk,rfl,x,k1,k2,hY,a4 kk,fun d f' l' r' H' hY' hC y=>?_⟩;exact ?NC ⟨f',l',r',rfl,a5 _ _ _ _ _ hY',hC,y⟩
 refine Ac5 fun f l r H4 hF hC x=>?_;intro sq;ext kZ;ext yQ;obtain⟨dl,fl,hL,e1,e2,_⟩:=lx.ob;obtain⟨dr,fr,hR,e3,e4,_⟩:=ly.ob;obtain⟨wA,xa1,_⟩:=lx.rw;obtain⟨bs1,xb1,_⟩:=lx.bk;obtain⟨iN,xa2,_⟩:=ly.rw;obtain⟨bs2,RL,_⟩:=ly.bk;have s14:=x.same;refine⟨_,rfl,p,Ah,HV,HK,_,rfl,hpa,?E,?f5,yH,L,Ag,dl,fl,_,rfl,hL,?cU,?q4,e2,_,rfl,ta,us,rfl,?z ((?c0 s14).seq hq),?e b1,n,n,l.2,(by rw[Yu]<;>rfl),xb1.rep,O9m,O9m,fun D1 c1 H5 hc1 R1=>?_⟩;have VD:=R1.same;refine⟨_,rfl,p,Ah,HV,HK,_,rfl,(VD _ _ hpa),?E,?i6,zT,R,Ag,dr,fr,_,rfl,(VD _ _ hR),?cU,?pF,e3,_,rfl,?e r2,w,w,r.1,rfl,(xa2.same VD).rep,O9m,O9m,fun D2 c2 H6 hc2 R2=>?_⟩;have ZR:=VD.trans ?fH;refine⟨_,rfl,p,Ah,HV,HK,_,rfl,(ZR _ _ hpa),?E,?e4,VR,_,rfl,p,Ah,HV,HK,_,rfl,(ZR _ _ hpa),?E,?f5,yH,L,Ag,dl,fl,_,rfl,(ZR _ _ hL),?cU,?pF,e1,_,rfl,_,rfl,_,rfl,p,Ah,HV,HK,_,rfl,(ZR _ _ hpa),?E,?i6,zT,R,Ag,dr,fr,_,rfl,(ZR _ _ hR),?cU,?q4,e4,?B,?AI⟩;have s67:?g H6 (upd H6 tp (?p [?e nm,?e r1,?e1,?eF,?e b2])):=?o htp;have xE:=ZR.trans s67;have Ay6:=(?c0 s14).trans xE;have g1:∀a,?FU->?hI:=?PN ?nZ;refine k tp nm r1 D1 D2 b2 kk f l r _ hF hC k1 k2 ⟨Ay6,?bY,?D5,(xa1.same xE).rep,(R1.later ?ES).rep hc1,(R2.later s67).rep hc2,(?wM xE).rep,?bR⟩;rcases ha with rfl | rfl | rfl | rfl | rfl
 . exact⟨g1 _ ?JG,_,?D5,?xD⟩
 . exact⟨g1 _ f1,_,xE _ _ xa1.2.1,by rw[qa3,xa1.1];omega⟩
 . exact⟨g1 _ (?JR ?nC),_,?ES _ _ R1.at,by rw[qa3,hc1];omega⟩
 . exact⟨g1 _ (?JR (VD.free ?r9)),_,s67 _ _ R2.at,by rw[qa3,hc2];omega⟩
 . exact⟨g1 _ f4,_,xE _ _ RL.2.1,by rw[qa3,RL.1];omega⟩
noncomputable abbrev Q9:Stmt:=top 66
theorem Dn:?s [?a2,?hV,?tX,?tQ,"k",?b2,?hT,?pK] [?a2] (As Q9):=Bf
theorem EF[?u](F:Eo K ?qX ?qX Q9 f fd)[?t][?N8](Uo:Has P w K mg ?f ?qW ?fE 10 (Sc K))[?rG][?M9](Ui:Has P w K mg ?f ?pA ?xO 4 (U7 K))[?l0](L5:Has P w K mg ?f ?mN ?fL 8 (Ny K)):Bv P w K mg ?f Ei 11 f fd [?a2] (Vb K):=by
 refine ?NP Dn;obtain⟨a,xs,rfl,hL,hs,Qi,kq⟩:=h;ext z7
 have h4:∀x∈xs,x.length<=4:=fun x hx=>by
  obtain⟨i,hi⟩:=qg6 hx;rcases (hs i x hi).cnt with e | e | e | e<;>omega
 have pl:∀k,?gU<=40:=fun k=>?sP
 refine⟨_,(Af (?OW ?dE ?cR)
  (Af (?NQ ?dE (?US Qk (?TW (?RG (Aa (Ao Bq hr (?VJ ?gX)) Ae)))))
  (Af (?NX ?dE (?US Qk (?TW (?RG ?Z))))
  (Af (Cv qc6 rfl (?OK (?TW (Js (v:=?d 4) ?h Hg ?bB))) (?RE 4 ?dE) (Af (?VB 5 (?US Bq (?NB ?l ?eA)))
  (Af (Au (i:=6) ?dE (?RI Uo (Aa (?US Kv (Aa ?v (Aa (Ao L5 hr (?NB ?l ?eA)) ?eE))) ?eE)))
  (Af (?VD ?n (?RI Ui (?VJ (Aa ?L (Aa ?d4 (Aa ?m ?cY))))))
  (Af (?VB 7 (Bc ?cQ ?d4 Am ?F))
  (Af (?NQ ?dE (Gz ?dM (?RI Cy (Aa (?TZ ?d4) ?eE)) ?C1 Nb))
  (Ak (?NX ?dE (Gz ?dM (?TZ ?d4) ?C1 Nb)))))))))
  (?RF ?n))))),?_⟩
 ext D
 refine ?N9 (fun σ' H'=>Ef fun ?c5=>B4 (?S5 none none) ?a4 ?qB (?cN=?eS))
 . ext LY
 refine Wq fun D H1 s1 nD hD=>?_;intro sq;refine ?N9 (fun σ' H'=>Ef fun(la:Addr)=>B4 (?S5 ?aU none) ?jF (la≠D) (?T6 ?wR))
 . refine⟨_,rfl,a,0,xs,rfl,?gM,O9m,?JY⟩;ext yU;exact⟨?fS,rfl,?HI,fun la at_ H3 hal R3=>?NC ⟨la,rfl,?aT ?kN,?zV,JW (R3.rep hal)⟩⟩
 refine Wq fun la H2 s2 nlD hla=>?_;intro sq;refine ?N9 (fun σ' H'=>Ef fun(ga:Addr)=>B4 (?S5 ?aU ?aY) ?oX (ga≠D) (?T6 ?qV))
 . obtain⟨_,lu,ez,hlq,YQ,_⟩:=Hf hla;cases ez;ext MZ;exact⟨?fS,rfl,?HI,fun ga at_ H3 hal R3=>?NC ⟨ga,rfl,?kN,?zV,JW (R3.rep hal)⟩⟩
 refine Wq fun ga H3 s3 ngD hga=>?_;intro sq;have s13:=?sV s3;refine ?N9 (fun σ' H'=>WK K H a D xs 4 σ' H')
 . refine ?J2;refine D7 (lo:=0) (n:=4) (fun k σ G'=>WK K H a D xs k σ G') ?_ ?_ ?_
   . refine⟨[],[],la,ga,?fS,?f2,?f2,_,_,_,_,rfl,s13,(?o9) _ _ hD,rfl,TieAt.first xs,?zO,nlD,ngD,?Q s3 hla,hga,?_,?mP,one_bits _ _,one_bits _ _⟩
     have e0:C7 xs (?CY-1)=0:=by
      show(E8 xs (0-1)).length=0;rw[SN];rfl
     rw[e0];exact Lat.Lev.first _ _
   . rintro k σ G' hk Ee
     ext aC
     obtain⟨us,ls,la,ga,z,L,G,o4,o5,o6,o7,rfl,g,Dr,hll,Yv,hB,nla,nga,rla,rga,lev,hzm,bL,bG⟩:=Ee;rw[show ?bL+?bA=?bA by omega];have B31:=pl ?bA;have B11:=pl (?eM)
     have hzw:z+?d9<=40:=by
      have:=oB (xs:=xs) (show ?bA≠?eM by omega);omega
     have ZP:?OT k:=hB.1.trans hll;have ekk:?eM-1=?bA:=O9m
     have UB:=?Q g hL;refine ?N9 (fun σ' H'=>σ'=[?w,?G,?aU,?aY,?kF,?k3,o6,o7]/\?T1 G')
     . refine⟨_,rfl,_,rfl,_,_,rfl,rfl,a,?eM,xs,rfl,UB,O9m,?JY⟩;ext yU;exact ?NC ⟨rfl,s2⟩
     refine K4 fun G1 g1=>?_;intro sq;have tw:=pB hs ?bA;have told:=lev.told tw;obtain⟨pv,st⟩:=lev.st;have plan:=MU st told (fun q c _ _=>RQ h4 _ q c) hzw;refine ?N9 (fun σ' H'=>mZ fun(tp nm r1 D1 D2 b2:Addr) (k0:Nat) (f:?hL) (l r:?e3)=>En (?T4 o7) (?T1 G1) (?SO f) (IQ D nm r1 D1 D2 b2) (?S7 m8 ?bA))
     . refine⟨_,rfl,_,rfl,_,rfl,_,_,rfl,rfl,a,xs,?eM,rfl,?Q (?t7) hL,O9m,h4,O9m,O9m,fun T as G2 hal R2=>?_⟩;rw[ekk]at hal;have rT:Rep K G2 (?e T) (dT (?v8) (?d9) (?tH)):=R2.rep hal;refine⟨_,rfl,?qV,?e T,z,?v8,?d9,G,?tH,rfl,?Q (?wN ?fH) rga,rT,O9m,O9m,O9m,fun i j c hi hj hc=>Qf (bG i j hi hj) (GF h4 _ j c) (by unfold bookF;decide),fun T2 iN G3 yT R3=>?_⟩;refine⟨_,rfl,?e T2,z,?d9,Lat.gT (?v8) G (?tH),_,rfl,R3.rep yT,O9m,O9m,plan,fun tp nm r1 D1 D2 b2 k0 f l r G4 hF hC k1 k2 x=>?_⟩;exact ?NC ⟨tp,nm,r1,D1,D2,b2,k0,f,l,r,rfl,(?o7 ?kN).trans ?hO,x.r,x.ne (((?wN ?fH).trans ?kN) _ _ Dr),⟨lev,hF,hC,k1,k2,bL,bG,hzm⟩⟩
     refine WQ fun tp nm r1 D1 D2 b2 k0 f l r G2 g2 x xn bl=>?_;ext z6;refine ?N9 (fun σ' H'=>Ef fun ?AL=>En (?T4 o7) ?a4 (?SJ us') (Fo D H' us' (ls++[?S7 F8 ?bA])) (?SO f))
     . refine⟨_,rfl,?O0 (?DS),_,rfl,_,rfl,_,rfl,_,rfl,_,rfl,a,tp,nm,r1,D1,D2,b2,?wR,?qV,xs,?bA,z,k0,_,L,G,f,l,r,rfl,?Q (?d7 ME) hL,Qi,rfl,?Q ME rla,?Q ME rga,x,O9m,bl.kz,bl.kw,fun i hi=>by have:=bl.fin.dg.pos i hi;omega,bl.fin.bl.1,bl.fin.bl.2,bL,bG,fun E eu G3 nE g3 hE rE=>?_⟩;have PV:=?wJ;refine⟨D,_,_,rfl,rfl,?u7,?cZ,?_⟩;have nED:E≠D:=fun q=>by rw[q,?DS]at nE;cases nE
       refine ?NC ⟨us++[?e E],rfl,(?d7 PV).turn nD,Ab,?_,?_⟩
       . exact(hB.same PV).snoc (?u7) nED hE rE
       . exact(?hO g3).put xn (?u7) hB.refs
     refine Ac9 fun us' G3 g3 yU hB3 x3=>?_;intro sq;refine ?N9 (fun σ' H'=>σ'=[?w,?G,?aU,?aY,?kF,?k3,?aW,?RR ?oU]/\G3=H')
     . refine⟨_,rfl,tp,_,_,_,rfl,rfl,?sK,rfl,nm,_,rfl,?z x3.num,?_⟩;rw[Br];ext rP
     ext iC;have hkw:=bl.kw;refine ?N9 (fun σ' H'=>Ef fun(la2:Addr)=>B4 (σ'=[?w,?G,rS la2,?aY,?kF,?k3,?aW,?RR ?oU]) (?T1 G3) (la2≠D) (?T5 la2 (dT (?d9-k0) (?d9) ?IV)))
     . refine⟨_,rfl,tp,_,_,_,rfl,rfl,?sK,rfl,_,rfl,?eF,_,_,_,rfl,x3.right,O9m,O9m,fun F as G4 hal R4=>?_⟩;refine⟨_,rfl,_,rfl,F,_,rfl,.of R4.at,?mG⟩;have ec:C8 ?h4 (?c ?oU) ?j=(as.drop k0).map ?bI:=by rw[Ta,qw9]
       rw[ec];have R5:=R4.drop (k:=k0) hC rfl;refine ?NC ⟨C,rfl,R5.same,(At (?uK _ _ yU) hC).symm,?_⟩;exact R5.rep (by rw[qh9,hal])
     refine Wq fun la2 G4 g4 A01 Az2=>?_;intro sq;have x4:=x3.same g4;obtain⟨_,bu,ez,hbq,A66,Am0⟩:=Hf x4.rback;cases ez;refine⟨_,rfl,tp,_,_,_,rfl,rfl,?x8,rfl,_,rfl,_,rfl,b2,bu,rfl,hbq,?mG⟩;rw[Ta];have g5:=?o (o:=?i (bu.drop k0)) hC;refine⟨us',ls++[?S7 F8 ?bA],la2,C,?d9-k0,(?IV),(fun i=>r.2 (k0+i)),_,_,_,_,rfl,(?BI g4).trans g5,(g4.trans g5) _ _ yU,by rw[qa9,hll];rfl,Yv.snoc bl,hB3.same (g4.trans g5),A01,(At (g4 _ _ yU) hC).symm,?_,?_,?_,?_,?_,?_⟩
     . ext l2;exact ?Q g5 Az2
     . ext l2;refine uK (us:=bu) (fun i u e=>?_) A66 (?bY);obtain⟨h1,b,eb,hb⟩:=Am0 i u e;exact⟨h1,b,eb,g5.seq hb⟩
     . obtain⟨pl',lo⟩:=bl.fin.lo;have:=lev.next tw bl.fin.dg bl.fin.il bl.fin.ir lo;rw[?I5,ekk];exact this
     . ext l2;omega
     . ext l2;exact fun i c hi hc=>bl.fin.br.1 _ _ O9m hc
     . ext l2;exact fun i c hi hc=>bl.fin.br.2 _ _ O9m hc
   . rintro σ G' h;exact ?NC h
 rintro _ H4 ⟨us,ls,la',ga',z,L,G,o4,o5,o6,o7,rfl,g,Dr,hll,Yv,hB,_⟩;exact⟨_,rfl,kq D us ls H4 nD g Dr hll ⟨_,_,_,Yv⟩ hB.out⟩
noncomputable abbrev Lq:Stmt:=?R0 69 0
theorem Ol:?s [?aG,?cA,?vW] ?vT (As Lq):=Bf
theorem Yb[?u](F:?Q7 ?KN Lq)[?t](Up:Has P w K mg ?f ?qX [?a2] 11 (Vb K))(Uj:Has P w K mg ?f ?qK ?uB 3 (U8 K))(Ul:Has P w K mg ?f ?pQ ?h7 6 (R8 K))(Hz:Has P w K mg ?f ?n0 ?jW 1 (Kf K)):Bv P w K mg ?f Ei 12 f fd ?vT ?JP:=by
 refine ?NP Ol;obtain⟨p,dx,a,us,H0,xs,rfl,hp,ha,r,s0,n0a,n0p,hs,Qi,k⟩:=h;have hL:LT K H ?o8 xs:=⟨a,us,rfl,.of ha,?b3 s0 r⟩
 have nap:a≠p:=fun z=>by rw[z,hp]at ha;cases ha
 refine⟨_,(Af (?TE Ul ?Y)
  (Af (?NM (?RX ?Y))
  (Af (?NQ Ol.nd (?RI Up ?fU))
  (Af (Eg (K:=K) ?l (B9 (N':=?jW) (cap:=?fI) ?h ?R (?NN Cm ?m) (?NA (?RE 0 XY)) ?aH (?NA (?RI Hz ?aB))))
  (?UX (?RI Uj (Aa ?W ?Z))))))),?_⟩
 ext D
 refine ?N9 (?RH [?y,?w,none] ?jV)
 . refine⟨_,rfl,?g6,xs,rfl,hL,hs,Qi,?FN⟩;exact G9 ?aM (?HF)
 ext rM;refine ?N9 (fun σ' H'=>Ef fun ?H0=>Hn (σ'=[?y,?w,none]) (?KQ) (H' P=?dY) (P≠p) (P≠a) (H' p=?SK Av [?x2]))
 . refine⟨_,rfl,a,us,rfl,?z (?NG s1 ha),fun P hP=>?_⟩;have s2:=?c0 (?o (o:=?i us) hP);have nPp:P≠p:=(At (?iS) hP).symm;refine⟨_,rfl,p,Av,dx,[],rfl,?OU hp,?eU,?sY,?cK,?_⟩;exact ?NC ⟨P,rfl,?TN s2,by rw[An nPp];exact Ab,nPp,(At (s1 _ _ ha) hP).symm,?tB⟩
 refine Ac8 fun P H2 sx2 hP2 nPp nPa hp2=>?_;intro sq;have XF:=?H8 s0 n0p;have ha2:=sx2 _ _ nap ha;refine ?N9 (fun σ' H'=>N8 fun ?c5 (bu:?dA) ?G3=>Pm (σ'=[?y,?w,?G]) ?oX (?SJ bu) (D≠p) (Nv H' bu ls) (ls.length=4) (∃z L G,TieAt xs 4 ls z L G))
 . refine⟨_,rfl,p,Av,dx,_,_,rfl,hp2,?eU,?sY,rfl,P,xs,rfl,(?PP hP2 XF),hs,Qi,fun D bu ls H3 nD s3 hD zV Yv hB=>?_⟩;exact ?NC ⟨D,bu,ls,rfl,s3,hD,(At hp2 nD).symm,hB,zV,Yv⟩
 refine Ac3 fun D bu ls H3 s3 hD nDp hB zV Ak4=>?_;intro sq;have Yv:=let ⟨_,_,_,t⟩:=Ak4;TieAt.lev t
 have hp3:=?zP;have ha3:=s3 _ _ ha2;have h0:=hB.1;refine ?N9 (fun σ' H'=>Hm fun(Lv:Addr) ?i9=>m9 (σ'=[?y,?w,?G]) (?CD) (H' Lv=?gA) (Lv≠p) (Lv≠a) (Nv H' ws (ls.map V0)) ((∀v∈ws,v≠?g6)) (H' p=?SK Av ?s8))
 . refine⟨_,rfl,D,rfl,?D8,fun Lv rF=>?_⟩;have nLp:Lv≠p:=(At hp3 rF).symm;have nLa:Lv≠a:=(At ha3 rF).symm
   let Bb0:?a1:=fun i ws τ G=>En (?g H3 G) (G Lv=?gA) (Fo Lv G ws ((ls.take i).map V0)) ((∀v∈ws,v≠?g6)) ?fZ
   refine De (K:=K) (a:=D) (xs:=bu) Bb0
    ⟨?o rF,Ab,?zO,(fun v hv=>by cases hv),?j,rfl⟩ (fun i ws τ G _ hz=>?S3 hD) ?_ ?_
   . rintro i v ws τ G hv Ee;revert τ;refine Aj3 ?_;intro g UB hW hna o Hq;have hi:=?fJ;ext MA
     ext MT;have hpl:=(Yv i ps hps).len Qi
     have wl:ws.length<=i:=by
      have:=hW.1;rw[qa3,qd3]at this;omega
     refine⟨_,rfl,pa,pu,ps,rfl,?HJ,rP.same g,O9m,fun E eu G2 nE g2 hE rE=>?_⟩;have nEL:E≠Lv:=(At UB nE).symm;refine⟨?FF,?cZ,(?d7 g2).turn rF,Ab,?_,fun v hv=>?_,_,rfl⟩
     . rw[qh8,hps,qb8];exact(hW.same g2).snoc (?FF) nEL hE rE
     . rcases ql3.mp hv with hv | hv
       . exact hna v hv
       . rw[qe9]at hv;subst hv
         exact fun z=>by
          cases z;rw[g _ _ ha3]at nE;cases nE
   . rintro ws τ G ⟨g,UB,hW,hna,_⟩;rw[h0,qg0]at hW;refine(?Q9 ?x4 ?K2);refine ?NC ⟨Lv,ws,rfl,?TN g,by rw[An nLp];exact UB,nLp,nLa,?BX,hna,?tB⟩;obtain⟨E,eu,rfl,_,hE,rE⟩:=?K7;refine⟨E,eu,rfl,?_,Bw.kd (fun c o e ho=>?_) rE⟩
     . ext iH
       . exact hE
       . rw[z,?x4]at hE;cases hE
     . ext iH
       . exact e
       . rw[z,?x4]at e;cases e;ext yW
 refine Ac7 fun Lv ws H4 VC rF nLp nLa hW hna Pb=>?_;intro sq;have vE:=VC.same (?JH s3) n0p;have hP4:=VC _ _ nPp (s3 _ _ hP2);have hD4:=VC _ _ nDp hD;have ha4:=VC _ _ nap ha3;have kd4:∀c o,H3 c=?cM->(∀C d f,o≠?K C d f)->H4 c=?cM:=fun c o e h=>VC _ _ (fun z=>by rw[z,hp3]at e;cases e;exact h _ _ _ rfl) e
 have hB4:Nv H4 bu ls:=⟨h0,fun i v ps e1 e2=>by
  obtain⟨E,eu,rfl,hE,rE⟩:=hB.2 i v ps e1 e2;exact⟨E,eu,rfl,kd4 _ _ hE fun _ _ _ z=>(by cases z),Bw.kd (fun c o e ho=>kd4 c o e fun _ _ _ z=>by rcases ho with⟨_,q⟩|⟨_,q⟩<;>rw[q]at z<;>cases z) rE⟩⟩
 refine⟨_,rfl,p,Av,dx,_,_,rfl,Pb,?eU,?sY,rfl,_,rfl,P,D,xs,bu,ls,rfl,(?PP hP4 vE),Qi,hD4,hB4,fun ps hps=>?_,fun Lf wu H5 nLf s5 hLf dd=>?_⟩
 . obtain⟨i,hi⟩:=qg6 hps;exact(Yv i ps hi).ok Qi
 have nfp:Lf≠p:=(At Pb nLf).symm;have nfa:Lf≠a:=(At ha4 nLf).symm;have eW:=s5 _ _ Pb;refine(?Q9 eW T.na_Book_lifts);have hp6:upd H5 p (?R5 Lf) p=?SK Av [?x2,?C5,(?jD,?e Lf)]:=?tB
 have DG:?bN p H5 (?JO):=?f3;generalize ?JO=H6 at hp6 DG;have ha6:=?RB nap ha4;have s06:=DG.same (?E0 s5) n0p;have sB:=PN s06 n0a
 have kd6:∀c o,H5 c=?cM->((∃l,o=?p l)\/∃l,o=.dK l)->mC H6 a c=?cM:=fun c o e ho=>by
  have ncp:c≠p:=fun z=>by rw[z,eW]at e;cases e;ext yW
  have e6:=DG c o ncp e;rw[Lc ?uO]
  . exact e6
  . rw[z,ha6]at e6;cases e6;ext yW
 refine k (mC H6 a) ls H6 (((sx2.trans (?eQ s3)).trans VC).trans ((?eQ s5).trans DG)) ⟨⟨dx,P,Lv,Lf,ws,wu,?_,(?PP ?_ sB),?_,?BX,?_,dd.1,fun i v e=>?_⟩,hs,Qi,zV,Yv,Ak4⟩ sB MB jS
 . rw[Lc nap.symm];exact hp6
 . rw[Lc nPa];exact ?RB nPp hP4
 . rw[Lc nLa];exact ?RB nLp rF
 . obtain⟨E,eu,rfl,hE,rE⟩:=?K7;have hE5:=s5 _ _ hE;have nEp:E≠p:=fun z=>by rw[z,eW]at hE5;cases hE5
   have nEa:E≠a:=fun z=>hna _ (qb7 e1) (by rw[z]);exact⟨E,eu,rfl,by rw[Lc nEa];exact DG _ _ nEp hE5,Bw.kd kd6 (rE.same s5)⟩
 . rw[Lc nfa];exact DG _ _ nfp hLf
 . obtain⟨c,e1,_,e2⟩:=dd.2 i v e;exact⟨c,e1,rfl,kd6 _ _ e2 (?S ?bB)⟩
noncomputable abbrev Sf:Stmt:=top 84
theorem Ej:?s [?hN,?q5,?h6,?vD,?KG,?mL,?dB,?x1,?xX,?EG,?KK,?I7,?GS,"_law_step",?kS,?wC] ?m9 (As Sf):=Bf
theorem XS[?u](F:Eo K ?f8 ?f8 Sf f fd)[?t](cB:fX P w K mg ?f Av ?vT 12 ?JP)(Hc:Has P w K mg ?f ?pY ?uG 5 ?A8)(CD:Has P w K mg ?f ?pO ?oY 2 (DJ K))(Jk:Has P w K mg ?f ?lC ?tW 1 (W3 K))(Rn:Has P w K mg ?f ?rA ?mT 1 (Sa K))(HG:Has P w K mg ?f ?lR ?tK 3 (JB K)):?QD P f:=by
 refine ?NP Ej;obtain⟨a,ns,rfl,hS,hl,Bm8,kq⟩:=h
 refine⟨_,(Af (?OW ?aE (?SC Ae))
  (Af (?NQ ?aE Am)
  (Af (?U8 3 (B5 (Aa (Cw (Aa Am (Aa Am (Aa Am ?gX)))) (?NB ?cR ?cR))))
  (Af (Cv qc6 rfl (?NN Cm (?V9 (Gw Am) Am)) (?RE 4 ?aE) (Af (?OE ?aE (?V7 Gb ?L))
  (Af (?PW (?V7 bR ?L))
  (Af (?U4 (?V7 Gb (Bd bR ?L Am)) (Ak (?PW ?d4)))
  (Af (?U8 7 (?RI CD (Aa ?aD (Aa ?d4 (?NB ?m ?i0)))))
  (Ak (Cf (?NR JJ (Bd By ?i0 (?RG (?TW ?f7)))) (Af (?U4 ?aD (Ak (?NQ ?aE ?i0)))
  (Af (?OW ?aE (Bd ?dN ?n ?f7))
  (Ak (?NX ?aE (?RI HG (Aa ?v (Aa ?aD ?mS))))))) Bs)))))))
  (Af (Au (i:=8) ?aE (Mo cB hr ?h T.m_Book (?TW (?RI Jk (?NB ?n (?V9 (Gw Am) Am))))))
  (Af (Hx ?v (?NF 3 (Bh (?RE 9 ?aE) (Bh (?RE 10 ?aE) (Bh (?RE 11 ?aE) Da)))))
  (Af (?U8 12 (?V7 Gb (?RI Rn (?VJ ?gX))))
  (Af (Cv qc6 rfl (?OK ?gX) (?RE 13 ?aE) (Af (?U8 14 (?V7 Gb (Bd By ?gC ?uM)))
  (Af (?U8 15 (?VI (?NB ?i1 ?cR) ?qG))
  (Ak (?UP Gv (Ga (?RI Hc (Aa ?g9 (Aa ?qG (?NB (?TX ?i2 ?qG) (pv 15)))))))))))
  (?RF (?US Hc (Aa ?g9 (Aa ?gC (?NB (?TX ?i2 ?gC) (?VI (?VE ?i1 ?cR) ?gC)))))))))))))),?_⟩
 ext D
 refine ?N9 (fun σ' H'=>Hm fun ?uI ?cO=>B4 (σ'=[?w,?y,none,none,none,none,none,none,none,none,none,none,none,none,none,none]) ?a4 (H' p=?dY) (?SM H' (([[]]:LLInt).map tI)))
 . refine⟨?a0,fun e he=>?_⟩;have s1:?OF H ?s5:=?o he;have t1:?Q6 ?s5 (?e e):=?a5;generalize ?s5=H1 at s1 t1;refine⟨?B,fun p hp=>?_⟩;have s2:?g H1 (?TS p [?e e]):=?cB;exact ?NC ⟨p,_,rfl,?fX,Ab,⟨_,_,rfl,?AS,rfl⟩⟩
 refine DA fun p0 us0 H1 s1 hp0 r0=>?_;intro sq;refine Ge (fun σ' H'=>?RU none/\?mQ) ?_ ?hM;ext aO;refine ?N9 (fun σ' H'=>Ef fun(t:Addr)=>Dg (?RU ?bG) ?jF (DueAt K H' t 1 0 0 0 [] []))
 . refine⟨?B,?xQ⟩;have s2:?OF H1 ?EB:=?o hc;have e2:upd H1 c (?i [?d 1,?cP,?cP,?cP]) c=?NL ?i [?d 1,?cP,?cP,?cP]:=Ab;generalize ?EB=H2 at s2 e2;refine⟨?a0,fun l hl'=>?_⟩;have s3:?OF H2 ?D6:=?o hl';have e3:upd H2 l ?cF l=?eS:=Ab;generalize ?D6=H3 at s3 e3;refine⟨?a0,fun h hh=>?_⟩;have s4:?OF H3 ?CG:=?o hh;have e4:upd H3 h ?cF h=?eS:=Ab;generalize ?CG=H4 at s4 e4;refine⟨?B,?jY⟩;have s5:?g H4 (?TC H4 [?e c,?e l,?e h]):=?pW;exact ?NC ⟨t,rfl,?SU ?EW s5,c,l,h,Ab,.of ((?jZ) _ _ e2),.of ((?jL) _ _ e3),.of (s5 _ _ e4)⟩
 refine Io fun t0 H2 s2 d0=>?_;intro sq;have s12:=?fX;refine qy2 (fun σ' H'=>zN fun ?wK ?EA ?cO ?BB ?EF ?I2 ?C0=>kL (σ'=?zE) ?a4 (H' p=?dY) (?SM H' (xs.map tI)) (?QO H') (?QU c3) (xs.length<=40) ?HP ?JK (low.length<=N) (high.length<=N)) ?k ?_
 . refine⟨_,rfl,_,rfl,_,rfl,a,_,rfl,?lL hS,?mG⟩;have sC:?OF H2 ?JS:=?o hC;have hC2:upd H2 C (?SW ?gD 63) C=?NL ?i (?U6 ?HR):=by rw[Ab,FG]
   have hcl:=FH ns (?gD) (?c 63);generalize ?JS=H3 at sC hC2;generalize ?HR=cs at hC2 hcl;have sH3:=?zI sC
   let Ba9:?aN:=fun i σ G=>Dg (?g H3 G) (i<=63) (Aq6 fun ?EA ?cO ?BB ?EF ?I2 ?C0=>kL (σ=?zE) ?bQ (G p=?dY) (?SM G (xs.map tI)) (?QO G) (?QU c3) (xs.length<=40) ?HP ?JK (low.length<=i) (high.length<=i))
   refine⟨C,rfl,(?SQ hC2),?jG (K:=K) (a:=C) (xs:=cs.map ?x) Ba9 ⟨?kT,?a0,p0,t0,us0,[[]],0,1,0,0,0,[],[],?j,?j,?j,?j,rfl,sH3,?J8 _ _ hp0,?b3 ?J8 r0,d0.same sC,lU,?U,?zX,?zX,?a0,?a0⟩ (fun i σ G _ hz=>?S3 hC2) ?_ ?_⟩
   . rintro i v σ G hv Ee
     ext aC
     obtain⟨g,B35,p,t,us,xs,at_,c0,c1,c2,c3,low,high,o4,o5,o6,o7,rfl,sG,hp,r,du,law,xl,nA,oJ,ll,lh⟩:=Ee;have hi:i<cs.length:=by have:=?fJ;rwa [qa3]at this
     rw[qb2,?d3]at hv;have hx:v=?d cs[i]:=?FX;subst hx;generalize cs[i]=x;ext yF
     have k0:0<=x%9:=?kK;have k9:x%9<9:=?j0;refine Al (fun σ' H'=>?RS o6/\G=H') ?_ ?c3;ext aZ
     . exact⟨_,rfl,_,_,rfl,rfl,(?NW 9),?B5⟩
     ext iC;ext LB
     . refine⟨_,rfl,_,_,rfl,rfl,?G7,_,_,rfl,rfl,(?NW 18),_,_,rfl,rfl,?_⟩;have m0:0<=?wX:=?kK;have m1:?wX<18:=?j0;obtain⟨N,hN⟩:=qi1 (show 0<=1+?wX by omega);ext ML
     rintro _ _ ⟨N0,rfl,rfl,n0,n1⟩;ext LB
     . refine⟨_,rfl,_,_,rfl,rfl,?G7,_,_,rfl,rfl,(?NW 2),rfl,_,rfl,?_⟩;refine ?dS (fun _=>?_) (fun _=>?PH ⟨N0,rfl,rfl,n0,n1⟩);refine⟨_,rfl,_,_,rfl,rfl,(?NW 6),_,_,rfl,rfl,?_⟩;have m0:0<=(N0:Int)%6:=?kK;have m1:(N0:Int)%6<6:=?j0;obtain⟨N,hN⟩:=qi1 (show 0<=1+(N0:Int)%6 by omega);ext ML
     rintro _ _ ⟨N,rfl,rfl,n0,n1⟩;generalize x%9=kd at k0 k9;refine ?S1 (fun σ' H'=>Hm fun(M:Addr) (mu:?dA)=>B4 (σ'=[?w,?y,?jO,?bG,?eL,?y2,?lD,rS M,none,none,none,none,none,none,none,none]) ?n7 (H' M=?NL ?i mu) (?b6 K H' mu ((?mY).map tI)));ext aZ
     . refine⟨_,rfl,_,rfl,_,rfl,_,rfl,p,us,rfl,?z (.of hp),kd,N,at_,_,rfl,k0,k9,n0,n1,fun M mu G1 nM g1 hM rM=>?_⟩;rw[ZP]at rM;exact ?PH ⟨M,mu,rfl,g1,hM,rM⟩
     refine DA fun M mu G1 g1 hM rM=>?_;intro sq;have mul:mu.length=(?mY).length:=by have:=rM.length;ext b5
     have hp1:=g1 _ _ hp;refine⟨_,rfl,p,us,rfl,?H2,_,rfl,M,mu,rfl,?z (.of hM),_,_,rfl,rfl,_,_,rfl,rfl,_,rfl,?_⟩;ext aL;ext aZ
     . exact⟨?t7,O9m,p,t,us,xs,at_,c0,c1,c2,c3,low,?bH,_,_,_,_,rfl,?uR,hp1,?b3 g1 r,du.same g1,law,xl,nA,oJ,O9m,O9m⟩
     have h40:us.length+mu.length<=40:=by
      have:?JB+(mu.length:Int)<=40:=?M
      omega
     refine ?S1 (fun σ' H'=>σ'=[?w,?y,?NL ?d (if kd=8 then ?g2 else at_),?bG,?eL,?y2,?lD,rS M,none,none,none,none,none,none,none,none]/\G1=H');ext aZ
     . ext c6;ext yY
       . have h3:kd=8:=?bJ
         refine⟨_,rfl,p,us,rfl,?H2,?_⟩;refine ?FT;rw[?b1 h3,ZP];rfl
       . have h3:¬kd=8:=?bJ
         refine ?FT;rw[?aA h3]
     ext iC;refine ?S1 (fun σ' H'=>Hm fun(p':Addr) ?AL=>B4 (σ'=[?w,rS p',?NL ?d (if kd=8 then ?g2 else at_),?bG,?eL,?y2,?lD,rS M,none,none,none,none,none,none,none,none]) (?g G1 H') (H' p'=?NL ?i us') (?b6 K H' us' ((xs++?mY).map tI)));ext aZ
     . refine⟨_,rfl,_,rfl,p,M,_,_,rfl,rfl,?vU,.of hM,Be O9m,fun p' Sr=>?_⟩;have g2:?PZ p' (?i (us++mu)):=?o Sr;refine ?PH ⟨p',_,rfl,g2,Ab,?_⟩;rw[qb8];exact(?b3 (?hR) r).append (?b3 g2 rM)
     refine DA fun p' us' G2 g2 hp2 r2=>?_;ext z6;have hkM:(?wK:Int)∣IM:=vZ N n0 n1;have ZX:?bL<(N:Int):=O9m
     refine⟨_,rfl,_,rfl,_,rfl,t,kd,N,c0,c1,c2,c3,low,?bH,rfl,du.same ME,k0,k9,n0,n1,nA,oJ,fun t' G3 g3 du'=>?_⟩
     have oN:Th (?BG)/\(?BG).length<=i+1:=by
      have:=aG low N;split
      . exact(?TP ⟨?R3 ?u8,?P3 ?u8 ?u8⟩)
      . exact⟨nA,O9m⟩
     have OM:Th (?DY)/\(?DY).length<=i+1:=by
      have:=aG ?bH N;split
      . exact(?TP ⟨?R3 ?wY,?P3 ?wY ?wY⟩)
      . exact⟨oJ,O9m⟩
     have PV:=?wJ;exact⟨?d7 PV,O9m,p',t',us',xs++?mY,(if kd=8 then ?g2 else at_),_,_,_,_,_,_,_,_,_,_,rfl,?tR PV,g3 _ _ hp2,?b3 g3 r2,du',law.part n0 k0 k9,by rw[qa9];omega,oN.1,OM.1,oN.2,OM.2⟩
   . rintro σ G ⟨_,_,p,t,us,xs,at_,c0,c1,c2,c3,low,high,o4,o5,o6,o7,rfl,sG,hp,r,du,law,xl,nA,oJ,ll,lh⟩;exact ?NC ⟨_,p,t,us,xs,at_,c0,c1,c2,c3,low,?bH,o4,o5,o6,o7,rfl,sG,hp,r,du,law,xl,nA,oJ,ll,lh⟩
 refine rL fun N p t us xs at_ c0 c1 c2 c3 low high o4 o5 o6 o7 H3 s3 hp r du law xl nA oJ ll lh=>?_;intro sq;ext yF
 refine ?N9 (fun σ' H'=>cW fun ?DK (B:Hp) ?G3 ?y9 ?vB=>En (σ'=(?S4 ?c7)) (Z2 K Av B q ys ls) (?g H3 B) (?T1 B) (Turned xs ys os))
 . refine⟨_,rfl,_,rfl,_,rfl,_,rfl,a,_,rfl,s3.seq hS,?mG⟩;have sC:?OF H3 ?I9:=?o hC;have hcl:=FH ns (?eJ) (?c 31);refine⟨p,C,IF ns (?eJ) (?c 31),xs,rfl,⟨p,us,rfl,?NG sC hp,?b3 sC r⟩,?_,O9m,O9m,KY law.sh,fun p' us' ys os H4 s4 np Sr r' hT=>?_⟩
   . rw[←FG];exact ?bY
   generalize ?I9=H3' at sC s4 np;obtain⟨tl,_⟩:=hT.len;intro q dx nq vI xW;have s7:?g H4 (upd (upd H4 dx (.own q)) q (?K Av dx [])):=?mE nq;have so:?OF H3' ?EK:=pN s4 np;refine⟨q,dx,p',us',?EK,ys,rfl,Ab,s7 _ _ Sr,DT Sr r',?OA ?H7 s7,tZ H4 p',(?H7).free nq,hT.shape law.sh,O9m,fun B ls H8 sx bk s5B sBH nB=>?kQ⟩;exact ?NC ⟨q,B,ls,ys,os,rfl,bk,(sC.trans so).trans s5B,sBH,hT⟩
 refine Ab8 fun q B ls ys os H4 bk s3B sB4 hT=>?_;intro sq;obtain⟨c,lw,hg,et,ec,el,eh⟩:=du;have cX:=s3B.trans sB4;refine ?N9 (fun σ' H'=>N8 fun o1 o2 o3=>σ'=(?U5 none)/\H4=H')
 . exact⟨_,rfl,t,_,rfl,?NG cX et,rfl,_,_,rfl,_,_,rfl,_,_,rfl,rfl,?NC ⟨_,_,_,rfl,rfl⟩⟩
 refine Ad0 fun o1 o2 o3=>?_;intro sq
 have tell:∀kk:Nat,kk<4->∃ps ck,ls[kk]?=?c ps/\aY (?CQ:?dA) ?hU=?NL ?d ck/\((V8 ps:Nat):Int)=ck/\?gK=?vF:=fun kk hkk=>by
  have hps:=qa0 (l:=ls) (i:=kk) (by have:=bk.n4;omega);obtain⟨z1,z2⟩:=law.told hT bk.tie hkk hps;refine⟨_,[c0,c1,c2,c3].getD kk 0,hps,?_,z1,z2⟩
  match kk,hkk with
  | 0,_=>rfl
  | 1,_=>rfl
  | 2,_=>rfl
  | 3,_=>rfl
 have sH4:=?jC cX;refine ?N9 (fun σ' H'=>Ef fun(fi:Nat)=>Dg (σ'=(?U5 ?mX)) (H4=H') (fi<4))
 . refine⟨_,rfl,a,ns,0,rfl,sH4.seq hS,?U,hl,_,_,rfl,rfl,(?NW 4),?_⟩;generalize hcv:(_:Int)%4=fi;have m0:0<=fi:=by rw[←hcv];exact ?kK
   have m1:fi<4:=by rw[←hcv];exact ?j0
   obtain⟨f,hf⟩:=qi1 m0;subst hf;exact ?NC ⟨f,rfl,rfl,O9m⟩
 refine Ad2 fun fi hfi=>?_;intro sq;refine ?N9 (fun σ' H'=>N8 fun lO LN JK=>σ'=?IO/\?J9)
 . refine ?J2
   let Ba8:?aN:=fun i σ G=>N8 fun lO LN JK=>σ=?IO/\?CA
   refine D7 (lo:=0) (n:=4) Ba8 ⟨_,_,_,rfl,?kT⟩ ?_ ?_
   . ext rY
     ext aC
     revert σ;refine ?nQ;intro lO LN JK RD Hq
     replace RD:?CA:=RD
     refine ?S1 (fun σ' H'=>Ef fun(kk:Nat)=>Dg (σ'=[?w,o1,o2,o3,o4,o5,o6,o7,?c7,?c8,?iN,?jP,?mX,?NL ?d ?h9,?NL ?d ?hU,JK]) (G=H') (kk<4));ext aZ
     . refine⟨_,rfl,_,rfl,_,_,rfl,rfl,_,_,rfl,rfl,(?NW 4),?_⟩;have m0:0<=(?sX+?h9)%4:=?kK;have m1:(?sX+?h9)%4<4:=?j0;obtain⟨kk,hkk⟩:=qi1 m0;refine ?PH ⟨kk,?_,rfl,O9m⟩;rw[←hkk];rfl
     rintro _ _ ⟨kk,rfl,rfl,hkk⟩;refine ?S1 (fun σ' H'=>Ef fun(w:Addr)=>Dg (σ'=[?w,o1,o2,o3,o4,o5,o6,o7,?c7,?c8,?iN,?jP,?mX,?NL ?d ?h9,?NL ?d ?hU,rS w]) ?n7 (SqL K H' w (?U6 ?vF)));ext aZ
     . refine ?K6;ext L5
       have tat:?BF:=by
        match kk,hkk with
        | 0,_=>ext N4
        | 1,_=>ext MO
        | 2,_=>ext MN
        | 3,_=>exact ?JV
       ext LS;exact ?PH ⟨w,rfl,s4,sw⟩
     refine Io fun w G1 g1 sw=>?_;intro sq;ext N5;have gg:=RD.trans g1;refine⟨_,rfl,_,rfl,_,rfl,_,rfl,c,_,_,_,rfl,rfl,(?uJ gg).seq ec,hck,_,rfl,q,w,?hU,ck,B,ys,ls,ps,rfl,bk,?GX gg,O9m,O9m,hps,?AB,fun G2 g2=>?gT⟩;ext rF;exact⟨_,_,_,rfl,gg.trans g2⟩
   . ext bO;refine ?nQ;intro lO LN JK z Hq;exact ?NC ⟨_,_,_,rfl,z⟩
 refine Ac6 fun lO LN JK G RD=>?_;intro sq;obtain⟨kk,hk'⟩:∃kk:Nat,kk=fi:=?bB
 subst hk';have hkk:=hfi;ext N5;refine⟨_,rfl,_,rfl,_,rfl,_,rfl,c,_,_,_,rfl,rfl,(?uJ RD).seq ec,hck,?_⟩;refine ?K6;ext L5
 have tat:?BF:=by
  match kk,hkk with
  | 0,_=>ext N4
  | 1,_=>ext MO
  | 2,_=>ext MN
  | 3,_=>exact ?JV
 ext LS;exact⟨q,w,?hU,ck,B,ys,ls,ps,rfl,bk,(?GX RD).trans s4,O9m,O9m,hps,?AB,fun G2 g2=>kq _⟩
universe e9
theorem Jn[?l3](h:∀a0,P [a0])[?l6](hl:?OT 1):P us:=by
 cases us with
 | nil=>ext b4
 | cons a0 u0 =>
   cases u0 with
   | nil=>exact h a0
   | cons _ _=>simp at hl
theorem Ea[?l3](h:∀a0 a1,P [a0,a1])[?l6](hl:?OT 2):P us:=by
 cases us with
 | nil=>ext b4
 | cons a0 u0 =>
   cases u0 with
   | nil=>ext b4
   | cons a1 u1 =>
     cases u1 with
     | nil=>exact h a0 a1
     | cons _ _=>simp at hl
theorem He[?l3](h:∀a0 a1 a2,P [a0,a1,a2])[?l6](hl:?OT 3):P us:=by
 cases us with
 | nil=>ext b4
 | cons a0 u0 =>
   cases u0 with
   | nil=>ext b4
   | cons a1 u1 =>
     cases u1 with
     | nil=>ext b4
     | cons a2 u2 =>
       cases u2 with
       | nil=>exact h a0 a1 a2
       | cons _ _=>simp at hl
theorem JT[?l3](h:∀a0 a1 a2 a3,P [a0,a1,a2,a3])[?l6](hl:?OT 4):P us:=by
 cases us with
 | nil=>ext b4
 | cons a0 u0 =>
   cases u0 with
   | nil=>ext b4
   | cons a1 u1 =>
     cases u1 with
     | nil=>ext b4
     | cons a2 u2 =>
       cases u2 with
       | nil=>ext b4
       | cons a3 u3 =>
         cases u3 with
         | nil=>exact h a0 a1 a2 a3
         | cons _ _=>simp at hl
theorem pZ[?l3](h:∀a0 a1 a2 a3 a4,P [a0,a1,a2,a3,a4])[?l6](hl:?OT 5):P us:=by
 cases us with
 | nil=>ext b4
 | cons a0 u0 =>
   cases u0 with
   | nil=>ext b4
   | cons a1 u1 =>
     cases u1 with
     | nil=>ext b4
     | cons a2 u2 =>
       cases u2 with
       | nil=>ext b4
       | cons a3 u3 =>
         cases u3 with
         | nil=>ext b4
         | cons a4 u4 =>
           cases u4 with
           | nil=>exact h a0 a1 a2 a3 a4
           | cons _ _=>simp at hl
set_option maxHeartbeats 4000000 in
noncomputable abbrev nS(K:W.Frag)(s:Str)(a:Addr):Prop:=?IH=?NL ?c ?o8
noncomputable abbrev nN9(K:W.Frag)(s:Str):Prop:=?IH=?b8
noncomputable abbrev kO(K:W.Frag)(a b:Addr)(v:Bool):Prop:=PySem.W.kitOne K ?o8 (?kU)=?jN
theorem all_mk{l:PySem.W.OpenLaw}{w:World}{K:W.Frag}{h:Heap}{mg:?vM}{fa:Addr}{Ag:Addr}
 {Ad:Addr}
 {Ah:Addr}
 {Av:Addr}
 {F0:Addr}{Yc Zs:OAddr}{Xd:Qr}{Yd Yr Za Xw Pi Ze:Value}
 {Hd:Addr}{c7 j6:OAddr}{Z5:Qr}{c8 d8 f8 a8 Qm i7:Value}
 {Iw:Addr}{bU CU:OAddr}{BH:Qr}{BU bZ CI bO Tb CN:Value}
 {yZ:Addr}{Ah6 WA:OAddr}{Af3:Qr}{Ah7 vS vX VF qJ vY:Value}
 {U6:Tok}
 {Mc:Tok}
 {Qb:Tok}
 {CF:Addr}{TM:Nat}{NR:Qr}{kT KS KR kR KQ:Tok}
 {Kw:Addr}{Yj:Nat}{Vu:Qr}{Tp To Tm Tl:Tok}
 (X:K.In h) (G:?J3) (hfa:mg ?f8=?NL ?e fa)
 (qN:nS K "Lines" Ag)
 (mX:nS K "Stairs" Ad)
 (uR:nS K "Work" Ah)
 (uS:nS K "Book" Av)
 (IA:?OR ?IY Q3)
 (Us:?OR ?GP Ht)
 (iA:?OR ?HY Q2)
 (g6:?OR ?DP Lk)
 (qE:?OR ?A6 Xm)
 (uI:?OR "times" bJ)
 (Uu:?OR ?JC Hv)
 (qD:?OR ?zU Xk)
 (ML:?OR ?FC Ty)
 (UI:?OR "mixed" BJ)
 (cJ:?OR ?oD M7)
 (QE:?OR ?qQ Xn)
 (j8:?T9 ?c1 ?oL)
 (Yt:?OG ?u6 ?oL)
 (d6:?hP F0=?c ⟨Yd,Yc,?nL (?qD ?c1 ?s7 (Ik Ek) (F7 Ek) (As Ek) ?qN Yr Za Xw Zs Pi Ze),Xd⟩)
 (j4:?qH K Pi ?s7=true)
 (Qg:?OG ?eD ?oL)
 (HX:?OR ?qT Qy)
 (f9:?OR ?pM Lj)
 (S7:?OR ?n0 Gq)
 (mO:?OR ?q8 T4)
 (FF:?OR ?rA Op)
 (UJ:?OR ?pN BK)
 (QF:?OR ?nR Xp)
 (i4:?OR ?nG Lo)
 (Uv:?OR ?lC Hw)
 (Ut:?OR ?oS Hu)
 (zC:?OR ?n3 gM)
 (S8:?OR ?nF Gr)
 (P7:?OR ?pB Fu)
 (MN:?OR ?pE T3)
 (ZC:?OR ?r0 GN)
 (CJ:?OR ?mH M8)
 (FE:?OR ?o5 On)
 (qC:?OR ?pS Xj)
 (cV:?T9 ?e7 (?e Hd))
 (Qh:?OG ?u6 (?e Hd))
 (BY:?hP Hd=?c ⟨c8,c7,?nL (?qD ?e7 ?uW (Ik Ew) (F7 Ew) (As Ew) ?qN d8 f8 a8 j6 Qm i7),Z5⟩)
 (CQ:?qH K Qm ?uW=true)
 (Nl:?OG ?eD (?e Hd))
 (V6:Rk K Ad ?c1 ?IL Jd)
 (qF:?OR ?pO Xo)
 (IE:?OR ?lA Ra)
 (P6:?OR ?mJ Ft)
 (g7:?OR ?qL Ll)
 (iB:?OR ?qZ Q4)
 (mL:?OR ?n1 Tx)
 (ID:?OR ?o4 Q8)
 (fT:?T9 ?bW (?e Iw))
 (Sq:?OG ?u6 (?e Iw))
 (ET:?hP Iw=?c ⟨BU,bU,?nL (?qD ?bW ?wU (Ik Fg) (F7 Fg) (As Fg) ?qN bZ CI bO CU Tb CN),BH⟩)
 (FN:?qH K Tb ?wU=true)
 (O8:?OG ?eD (?e Iw))
 (g8:Rk K Ah ?c1 ?CH Lm)
 (HZ:?OR ?qK Q1)
 (uJ:?OR ?lR bK)
 (ZD:?OR ?r3 gO)
 (MM:?OR ?m0 Tz)
 (P9:Rk K Ad ?vA ?zM Fw)
 (CK:Rk K Ah ?wA ?H3 M9)
 (HY:?OR ?pA Q0)
 (CM:Rk K Av ?wO ?CE Na)
 (i5:Rk K Av ?wZ ?DH Lp)
 (iC:?OR ?o1 Q6)
 (Zb:?OR ?oW Kl)
 (g9:Rk K Ad ?vL ?BV Ln)
 (V4:Rk K Ad ?xT ?zH Jb)
 (P8:Rk K Ah ?xS ?D4 Fv)
 (V7:?OR ?pY Je)
 (L6:?OR ?mR Ec)
 (IB:?OR ?pQ Q5)
 (V5:Rk K Ad ?tP ?CJ Jc)
 (QD:?OR ?mI Xl)
 (mK:?OR ?qO Tw)
 (Zc:?OR ?mN Km)
 (fF:Rk K Ah ?t6 ?GT Oo)
 (S9:Rk K Ah ?yC ?E8 Gu)
 (IC:?OR ?qW Q7)
 (iE:?OR ?qX Q9)
 (i6:Rk K Av ?c1 ?KN Lq)
 (Ba4:nS K ?f8 yZ)
 (A24:?hP yZ=?c ⟨Ah7,Ah6,?nL (?C2),Af3⟩)
 (Ba0:?qH K qJ ?f8=true)
 (A30:?OG ?eD (?e yZ))
 (Zv:?a7 K ?fV ?e7=?NL ?c (?e Hd))
 (j7:?a7 K ?fV ?bW=?NL ?c (?e Iw))
 (lW:PySem.W.readsIn K Ag (.type "type")=true)
 (lY:PySem.W.findCls K ?dD (.type "type") ?c1=?c (.val ?oL))
 (lX:PySem.W.specialIn K ?dD "__getattribute__"=?NL ?c (?I6 "type.__getattribute__"))
 (OW:?OG ?nM Ag)
 (PJ:?OG ?eD ?dD)
 (lQ:?OG ?nM Ad)
 (LV:?OG ?eD ?fV)
 (tO:?OG ?nM Ah)
 (tW:?OG ?eD ?fQ)
 (tP:?OG ?nM Av)
 (tX:?OG ?eD ?jJ)
 (OC:?PR Ag)
 (pP:?OG ?nP Ag)
 (OA:?OG ?p9 Ag)
 (NW:?T2 ?dD)
 (qy3:?O5 ?dD ?d0)
 (qy4:?O5 ?dD ?fO)
 (lH:?PR Ad)
 (MC:?OG ?nP Ad)
 (lG:?OG ?p9 Ad)
 (LC:?T2 ?fV)
 (qy5:?O5 ?fV ?d0)
 (qy6:?O5 ?fV ?fO)
 (qy7:?O5 ?fV "starts")
 (sR:?PR Ah)
 (uA:?OG ?nP Ah)
 (sM:?OG ?p9 Ah)
 (sA:?T2 ?fQ)
 (qy8:?O5 ?fQ ?X)
 (qy9:?O5 ?fQ ?b2)
 (qz0:?O5 ?fQ ?eG)
 (qz1:?O5 ?fQ ?gL)
 (qz2:?O5 ?fQ ?iA)
 (SR:?PR Av)
 (UA:?OG ?nP Av)
 (SM:?OG ?p9 Av)
 (SA:?T2 ?jJ)
 (qz3:?O5 ?jJ ?gR)
 (qz4:?O5 ?jJ ?KJ)
 (qz5:?O5 ?jJ ?jD)
 (UR:nS K "GAPS" CF)
 (TU:?hP CF=?c ⟨.type ?oE,?j,.seq #[?d 32 kT,?d 16 KS,?d 8 KR,?d 4 kR,?d 2 KQ] TM,NR⟩)
 (Zu:nS K "FACE_COUNTS" Kw)
 (Ym:?hP Kw=?c ⟨.type ?oE,?j,.seq #[?d 0 Tp,?d 2 To,?d 3 Tm,?d 4 Tl] Yj,Vu⟩)
 (cU:?T8 "MOST_ROWS" (?d 40 U6))
 (MW:?T8 "LEVELS" (?d 4 Mc))
 (Zr:?T8 "MOST_PIECES" (?d 40 Qb))
 (BC:?Q0 "isinstance")
 (Ab0:?Q0 "int")
 (wQ:?Q0 ?x0)
 (rK:?Q0 ?oE)
 (Aa6:?Q0 "zip")
 (Aa8:?Q0 "max")
 (Aa9:?Q0 "len")
 (Ab2:?Q0 "all")
 (RK:?Q0 "range")
 (WO:?Q0 "dict")
 (Ab1:?Q0 "any")
 (wO:?Q0 ?fG)
 (CZ:?Q0 "enumerate")
 (Aa7:?Q0 "min")
 (Ab3:?Q0 "abs")
 (gA:?Q0 "reversed") :
 ∃fd:FuncData,(∀(s:Shared) (v:Value),BindsTo s fd ⟨[v],[]⟩ [(?hN,v)])/\∀base:Heap,K.In ?f->?A7->?QD ?d6 fa:=by
 have e:=hfa.symm.trans (?PD Ba4);cases e;have T:?GZ:=⟨?PD qN,⟨OC,pP,OA,NW⟩,qy3,qy4,?PD mX,⟨lH,MC,lG,LC⟩,qy5,qy6,qy7,?PD uR,⟨sR,uA,sM,sA⟩,qy8,qy9,qz0,qz1,qz2,?PD uS,⟨SR,UA,SM,SA⟩,qz3,qz4,qz5,⟨CF,?PD UR,fun H=>?S ⟨_,_,_,TU,rfl,rfl,rfl,(?QN 5),?k8 ?bB (?E2)⟩⟩,⟨Kw,?PD Zu,fun H=>?S ⟨_,_,_,Ym,rfl,rfl,rfl,(?QN 4),?E2⟩⟩,⟨_,?PD cU⟩,⟨_,?PD MW⟩,⟨_,?PD Zr⟩,?OI BC,?OI Ab0,?OI wQ,?OI rK,?OI Aa6,?OI Aa8,?OI Aa9,?OI Ab2,?OI RK,?OI WO,?OI Ab1,?OI wO,?OI CZ,?OI Aa7,?OI Ab3,?OI gA⟩
 have Im:=cF (st:=Ek) d6 j4 Qg;have Jz:=cF (st:=Ew) BY CQ Nl;have Lh:=cF (st:=Fg) ET FN O8;have Bf3:=cF (st:=Sf) A24 Ba0 A30;refine⟨?C2,fun s v=>.of_eq rfl,fun base _ _=>?_⟩;have uu:=@Bp ?d6 w K mg ?f h X G;have uy:=@Ij ?d6 w K mg ?f;have Fn:=?RV IA EB;have F6:=?RT Us Sj;have Fm:=?RV iA EA;have Np:=?RT g6 X5;have Pw:=?SX qE (?NK LJ);have HE:=?RT uI OJ;have Jj:=?RV Uu Sl;have CC:=?RT qD LI;have Y0:=?RT ML gS;have Ia:=uu UI (?NK oK) ?qS;have Pd:=?RT cJ a9;have Wl:=?RV QE LK;have Yy:?QK ?d6:=⟨_,_,⟨lW,lY,lX,Qg⟩,?GN,N3 Im T⟩
 have Ku:?RA ?d6:=⟨_,_,⟨OW,j8,Yt,PJ⟩,?GN,N3 Im T⟩
 have Mt:=?RV HX DY;have No:=?RV f9 X4;have Hz:=?RV S7 Rg;have Sy:=?RV mO GU;have Rn:=?RT FF BS;have HH:=?RT UJ oM;have cE:=?SX QF (?NK lM);have Nq:=?SX i4 (?NK X9);have Jk:=?RT Uv Sm;have D6:=?UK Ut (?NJ Sk Fn);have PR:=?UK zC (?NJ sY Pw);have Bq:=?UK S8 (?NJ Rh Fm);have Gd:=?UK P7 (?NJ Ow Fn);have Cy:=?UK MN (?NJ gU CC);have Qk:=uu ZC (?NJ SY Y0) ?aR;have Pe:=?SX CJ (?NJ b6 Ia);have Rm:=?SX FE (?NJ BR Pw);have Sw:=?UK qC (?NJ lI Ia);have L1:?O7 ?d6 Ag:=(?TQ cV)
 have Ji:?O7 ?d6 Ad:=(?TQ Zv)
 have Uh:=cC lQ LV (P:=l.prog) (w:=w) (base:=base) V6 (?NJ T7 Yy) ?aK;have CD:=uu qF (fun F=>LL F T cE Nq) ?qS;have Px:=?UK IE (?NJ eG HH);have Cz:=?SX P6 (fun F=>Ov F T D6 Fm);have Dm:=?UK g7 (?NJ X6 D6);have Uk:=?UK iB (?NJ EC Gd);have Kv:=?SX mL (?NJ GR Pe);have Mu:=?SX ID (?NJ eF Bq);have Jw:?O8 ?d6 Ag:=(?R7 fT)
 have Cq:?O8 ?d6 Ad:=(?R7 j7)
 have CA:=cC tO tW (P:=l.prog) (w:=w) (base:=base) g8 (fun F=>X7 F T Ku Qk) ?aK;have Uj:=?UK HZ (fun F=>DZ F T PR HE);have HG:=?SX uJ (?NJ OL Px);have pS:=?UK ZD (fun F=>sZ F T Fm Np Cz);have Y1:=uu MM (fun F=>GS F T Cz Fn) ?qS;have Cb:=uy P9 (?NJ Oy Cq) ?aK;have Jv:=uy CK (fun F=>b8 F T Jw L1) ?aK;have Ui:=uu HY (fun F=>dZ F T Kv Cy Bq Mu) (?OH pZ (fun _ _ _ _ _=>rfl));have Nn:=uy CM (?NJ c6 Dm) ?T;have L3:=uy i5 (?NJ Ya Dm) ?T;have Um:=?SX iC (?NJ eE Y1);have L4:=uu Zb (?NJ Vy pS) ?aR;have Lz:=uy g9 (fun F=>X8 F T Cb Cq Ji) ?aK;have Jg:=uy V4 (?NJ T5 Cb) ?aR;have Fx:=uy P8 (?NJ Ox Jv) ?aR;have Hc:=uu V7 (fun F=>T8 F T Nn L3 Sy) ?qS;have El:=?SX L6 (?NJ K3 Um);have Ul:=uu IB (fun F=>ED F T Jj L4) ?aR;have Jh:=uy V5 (fun F=>T6 F T Mt Cq Lz) ?T;have cD:=?UK QD (fun F=>lJ F T El Rm);have Sx:=?SX mK (fun F=>gR F T Uh Ku Jh Jg);have L5:=?UK Zc (fun F=>Vz F T Dm Bq Cy Pd cD);have Lb:=uy fF (fun F=>bS F T Sx Cy) ?aR;have Ha:=uy S9 (fun F=>Ri F T Lb No) ?aR;have Uo:=?UK IC (fun F=>EE F T CA Ha Fx Cy Uk);have Up:=uu iE (fun F=>EF F T Qk Uo Bq Kv Ui Cy L5) ?aR;have cB:=cC tP tX (P:=l.prog) (w:=w) (base:=base) i6 (fun F=>Yb F T Up Uj Ul Hz) ?T;exact XS Bf3 T cB Hc CD Jk Rn HG
theorem walk{l:PySem.W.OpenLaw}{q:Program}{loose:?d8 Str}{XP:(?vM)->?IN}{YP:World->?IN}{d:DefRec}{K:Params->PySem.W.Frag}(hn:l.most=?c 63)(hdf:d.params.defaults=[])
 (hY:∀(w:World) (h:Heap),YP w h->?wH h)
 (F:∀(w:World) (mg:?vM) (fa:Addr) (h:Heap),?wH h->?J3->mg d.name=?NL ?e fa →
   ∃fd:FuncData,(∀(s:Shared) (u:Value),BindsTo s fd ⟨[u],[]⟩ [(?hN,u)])/\∀base:Heap,?wH ?f->?A7->Bv ?d6 w (K w.params) mg ?f Ei 14 fa fd ?m9 (We (K w.params))) :
 PySem.W.WalkO q loose XP YP l.row.toRowW d [] (fun f vs=>PySem.call f vs) :=
 L2.walk_ofB (n:=63) (k:=14) (x:=?hN) (CX:=fun _=>Ei) (sp:=fun w=>We (K w.params)) hn ?aM hdf ⟨rfl,?U,?U,rfl⟩ hY F (fun _ _ a ns hl yS _ hS=>⟨a,ns,rfl,hS,hl,yS,?I4⟩) fun _ _ _ _ _ z=>z
universe Hb
end
structure PySem.W.Fast:Prop where(tw4054688128891546705 tw159219269109160323 tw10702942514688990682 tw12964223037249450111 tw12586766656292291324 tw5773871943607577049 tw10182231681695630258 tw1091234139916096707 tw1827669345795223381 tw5024887125815512938 tw8677514443561153034 tw7511125551761468831 tw13528878762627473201 tw7417945805606531159 tw256860133341368293 tw10852674019183662254 tw15562602440730737674 tw4458451294519807949 tw7905723922622414957 tw12897742060959363078 tw12637598253538792128 tw12914774533352586471 tw18346201380556074845 tw5407306413880212054 tw11480377099629995470 tw11699663550246921994 tw7572045973698753704 tw879770797716433566 tw10026311283626840918 tw9449612245875963349 tw3102252549688118900 tw7686188855682055642 tw5151452097899450786 tw7505096974488760028 tw16568970521470078521 tw14724894324379221994 tw17645141492057046533 tw734005209929398284 tw6956528510146704047 tw15527082295075753967 tw229875884019015086 tw4743564394827934513 tw8881816308601569367 tw1815034532832053697 tw8262072966572978646 tw15871355181334907813 tw5239521845963690099 tw11535701330565924128 tw12970252388719788285 tw5913117488659912468 tw1176968353720935424 tw15419023699442178376 tw5362684838576904567 tw5607692914246672438 tw16893891171897063131 tw5810487114939262222 tw8797603517526544169 tw13193543746711844079 tw584344638186931315 tw13404995467565758481 tw7176487365596068216 tw595733041805982067 tw6686389488701287824 tw13256815354089856665 tw10125147281621325240 tw4485769713994094055 tw17865771871846459936 tw17425147537371224866 tw11458126940483599480 tw10038425631355895185 tw11927363277683274368 tw17404051057164879905 tw5188332825831068327 tw1885104464849516488 tw1816513840248916295 tw4605923612133082295 tw8438523202272517472 tw1532347757474168446 tw2887964022517872480 tw5685206376627273564 tw12767308211299842761 tw1693218372721014332 tw13358759246714062401 tw42982556863906141 tw14670875188020183307 tw3605225151193177589 tw15168833974217448329 tw12221850482534293918 tw1797341812568950439 tw6611329236668216094 tw13966792964183701535 tw11285924118877757396 tw4639447020606601883 tw14627166511659168411 tw13364622824484750644 tw16929053920424710727 tw2205820025661664587 tw8585107523248731579 tw3346153400147404316 tw13463039811368104779 tw15537792853850056890 tw17857223760027570527 tw9245806929586506879 tw12840996701630111618 tw3995520184195427429 tw11059058307708291680 tw3290845155540221476 tw12286328069927283781 tw18391604086426714191 tw18192539227846331200 tw16684140081588975790 tw3436445311308430306 tw7986771190839553546 tw5034769605497213937 tw18421436527311228264 tw6329101648361155146 tw8564873654129436649 tw14323780978536814858 tw17298379330782717799 tw1926708400902987747 tw12661016811648869993 tw4581729913448504940 tw15318912517299210172 tw13813741678180947443 tw16479930610438440802 tw403683981038723623 tw8103893110115606136 tw9416863817279139868 tw8825483848660176740 tw9547792894533410805 tw12311926728482369622 tw16669631472632643006 tw1170960171685296109 tw6284640342922696289 tw6378657441338206040 tw7956495156601454456 tw6486137700027203653 tw7163868566937625105 tw16572735355115664757 tw15205361676157864315 tw5352667022510199214 tw533789372776586398 tw9853891554707621995 tw11039013969343187087 tw13229169915494420462 tw15316300774011458530 tw3763359443176689502 tw14188542150080186688 tw13144426307380822949 tw16580031202538800003 tw6305950342281816077 tw15141306596975826198 tw6916703283584279351 tw6039416924331188800 tw2628116582023694162 tw17669234695697360023 tw1293074021127749053 tw11143294627544540631 tw8482398957352816166 tw3148866128009069789 tw9649017515600882552 tw184295009620334146 tw8225240023040539004 tw6377585658777058154 tw81243679707698249 tw13914522271346527211 tw6008382139416552117 tw11720441949990829842 tw7723251766928414254 tw5033095521739191643 tw7574662419170112198 tw11061711012760236484 tw3632184399470068797 tw6100967650249456417 tw11253484187145498775 tw16963024404562861167 tw16621231894822132689 tw9910318755404169964 tw3771713201223591802 tw10034402148428361661 tw2959524117514199502 tw5712336830688913081 tw13865412310271399602 tw385695762929455743 tw13278648884343603908 tw10800535222639005055 tw935386439623410063 tw14937222252284382042 tw5730374330276902963 tw9107623492452578268 tw9217816615089216652 tw8940038897138550765 tw17216261195484634994 tw9061434707593906895 tw4055667765010484996 tw16605027090379870200 tw7984445110379660980 tw6933404690531330070 tw9161722238367819768 tw1309499815453594761 tw3344136597522341653 tw11024177052811986543 tw13569855065824806635 tw15885398253667440964 tw1954905276226435908 tw14453323702697614028 tw17697057106228405338 tw11701616870553501295 tw1728702383824364313 tw3743426687302287224 tw16460402510018686402 tw12577437835153007550 tw5357594510459719196 tw1957212479427102070 tw17099324236213874052 tw12436100871014555897 tw12895845744784329907 tw14281775346471767233 tw16719346761045177595 tw630169435399080436 tw10004001108278253140 tw11006924815170693032 tw1594482235497442031 tw6732262099504985204 tw17814448471357717729 tw94836730302333106 tw11133918583782796377 tw10131739018865600031 tw9356044648733462745 tw1252390822797472408 tw11080579231345454782 tw12300560141067293780 tw13328769647076549383 tw15815626454329874752 tw62566122067015746 tw15854533431483557699 tw1921605391659956116 tw2425297523948270164 tw494146760738903965 tw13103277244778910776 tw17118449975850620459 tw11210427139297281396 tw16402219044458266371 tw12297640585659456647 tw10089001379130481068 tw1246115234678593941 tw2312829778826050283 tw9347758271912492256 tw691004215814412827 tw10241179587819999823 tw12785697732423902497 tw4557812613109878026 tw1364987135821192281 tw12134998526071192126 tw10353148045417700212 tw10208191027253409798 tw17082046593347176457 tw12296997530463881195 tw17030647483362474076 tw2264722369556337590 tw8716163710000528253 tw10043488829127370324 tw17077218023676480369 tw1929600382718846822 tw15312103918221200604 tw15580183000700630019 tw2720883209496697760 tw11270020404105682402 tw18108870107300835410 tw16820284489511695272 tw13045766458388622847 tw15366583126664668104 tw6736076163808245106 tw7670351666975693598 tw6213346333016505396 tw1434365709033643417 tw7906027620942969654 tw1763618434480366486 tw11846391757503596460 tw16848628752038358157 tw1943574545549987050 tw4175288807474147657 tw15308332850052541053 tw1873093034355738823 tw13938113526447009306 tw9984944681178629808 tw1922046345570751648 tw6073412256226201253 tw9157299035405895294 tw4643402429326606816 tw17473766019091935927 tw2566548998523115260 tw11612393573370662400 tw16256089079089983415 tw11213442784927255749 tw13695694546675539474 tw11663017357089073629 tw18237726386189837395 tw9539367190422237878 tw4748161523306737513 tw3860498753039063646 tw10615789043389737481 tw8389766592995653999 tw5450048447715910396 tw7461631710840309527 tw2127425060647205620 tw14073415617964266287 tw17338422531682593642 tw16468558038773713673 tw13983890279311268694 tw13128411253441153424 tw9129666807409811172 tw6687829806888431582 tw15419581674231865287 tw16914131759531010167 tw4152694615065786260 tw18179446393592986538 tw1934738716152283238 tw17755287254926428548 tw1899279936264079599 tw7719845823283462980 tw17364652669458211027 tw758492591776441981 tw12052068784801383786 tw17821158930247323997 tw15942439523478320445 tw16936797388667251995 tw8486576890213725810 tw5285629246508670573 tw4903000298090561010 tw14914177949447228165 tw9853295575093394253 tw13656086144373908063 tw10588513297805317075 tw15307396981997099505 tw9873601403419175125 tw8238398317553883191 tw16168240285025008754 tw1503607534515740072 tw12886166802942083264 tw9649541209844675905 tw1314480496077628665 tw16444874228953706883 tw14505157226791322979 tw15131095522412856492 tw17984981464707671951 tw11943573530885400048 tw5158758253223488752 tw16987524041616811719 tw8566139111665388569 tw3701641455616246167 tw4179436130398260599 tw11801017695850401831 tw15056081316135821251 tw6628316295796609631 tw9221159720377789946 tw6087797132368130459 tw3722288769278288768 tw1239638307276162868 tw3852341432165810421 tw6567432668328510797 tw11365243657301626989 tw16427370362720494184 tw6435424686407137763 tw5761615170148835814 tw2423362649075379832 tw10782833465533434170 tw3936606881727451635 tw4308652189046369679 tw2069829274414015376 tw6214422263211896954 tw9378373147128368891 tw12781486308241455419 tw12062306085575653377 tw5963849035890769918 tw11949806871406266218 tw17736758385674341367 tw6747928074873478066 tw9523957768369188793 tw6551637509450921678 tw12105899579415984980 tw3134083530245459024 tw18256874786411882472 tw13461244657333137314 tw7205351622449647959 tw5167982056292176202 tw1816991319367092033 tw16624679709628562609 tw3750035408547486905 tw9577501888260974365 tw13227757464789506682 tw9879966137445372227 tw17673726920490114986 tw11971561298776886014 tw12960985606081954276 tw11745280777486769546 tw11900477142529616405 tw1477284460870209498 tw11065662284855743963 tw5704803338035027327 tw891081544128481546 tw2795503900807214409 tw18399635127162679204 tw3326754050478869576 tw1132865319883195759 tw16716943217432294175 tw7230292299741596258 tw18367157185649468469 tw7692999741392813141 tw15584220234986088217 tw10831968187168967162 tw3075914392840013931 tw17270529527035782023 tw1643635713879866731 tw2120146542343535936 tw13029737775144988491 tw7636952773559996061 tw3041150687817791114 tw11507951966009223518 tw6263642320845298894:True)
open PySem PySem.W PyProof.Rows
set_option maxRecDepth 100000 in
set_option maxHeartbeats 0 in
theorem PySem.Challenge.cw_holebook_k82_whole_discs_and_their_sums_holds : PySem.Challenge.rw_holebook_k82_whole_discs_and_their_sums.Holds := by
 w_on;o_law;k_head;(case hw=>w_witness2)
 k_fill
 refine Hb.walk (l:=PySem.Challenge.rw_holebook_k82_whole_discs_and_their_sums) rfl rfl (fun w h Y=>PySem.W.kIn_of Y) ?F
 case F =>
  intro w mg fa h KX G hmg
  refine' Hb.all_mk KX G hmg ..
  all_goals try delta Hb.nS Hb.nN9 Hb.kO
  all_goals try first | exact⟨_,_,by k_is,⟨⟨_,_,_,_,_,_,_,_,_,rfl,by k_is,by k_is⟩,by k_is⟩⟩ | exact⟨_,_,by k_is,by k_is,⟨⟨_,_,_,_,_,_,_,_,_,rfl,by k_is,by k_is⟩,by k_is⟩⟩ | k_is | kit_is | kts_isx | k_exc | k_qdec | kernel_rfl | decide +kernel
